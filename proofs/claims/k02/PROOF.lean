import PyProof.Rows.All
import Wide.All
import OpenK.AllK
import Wide.FinOn
import KE.GoesMore
import KE.GoesEnum
import KE.KTupSum
import KE.KRevSl
import HandS.ForMost
import HandS.Walk
import HandS.IsInst
import HandS.Wide
import HandS.WideBits
import HandS.Defaults
import HandS.TupAny
import HandS.Exc
import HandS.ExcInit
import HandS.ExcOwn
import HandS.ExcIs
import HandS.ExcField
import HandS.WordsExc
import HandS.CallSlots
import HandS.TupMul
import KE.KExcIs
import PyProof.FactsAll.list_3
import KE.RegKIsAll
import KE.RegKTryMore
import PySem.Challenge.RW_willdealt_k02_pennies_by_shares
set_option Elab.async false
set_option linter.all false
set_option maxRecDepth 100000
set_option maxHeartbeats 4000000
namespace Wd
open PySem PySem.Spec PyProof.Rows L2
/-! ### zip of a list or tuple with a list or tuple: one rule for the four mixes. A feed is what zip draws from. -/
inductive Feed where
  | li
  | tu
namespace Feed
def sq : Feed → PySem.W.Frag → Hp → Addr → List V → Prop
  | .li => SqL
  | .tu => SqT
def stands : Feed → Heap → Addr → Array Value → Prop
  | .li => Heap.IsList
  | .tu => Heap.IsTuple
def at_ : Feed → Heap → Addr → Addr → Nat → Prop
  | .li => Heap.IsListIter
  | .tu => Heap.IsTupleIter
def head : Feed → Addr → Obj
  | .li, a => { cls := .type "list_iterator", data := .fields #[.ref a, .int 0 0] }
  | .tu, a => { cls := .type "tuple_iterator", data := .fields #[.ref a, .int 0 0] }
variable (k : Feed)
theorem begins (a : Addr) (its : Array Value) : Begins (.ref a) (k.head a) fun h => k.stands h a its := by
  cases k
  · exact begins_list a its
  · exact begins_tuple a its
theorem draws {prog : Program} {w : World} {A : Around} (hA : A.handled = none) {it a : Addr} (ne : a ≠ it) (its : Array Value) : Draws prog w A it [it, a] its.size (fun i v => its[i]? = some v) (fun i h => k.at_ h it a i ∧ k.stands h a its) := by
  cases k
  · exact Draws.list hA it a ne its
  · exact Draws.tuple hA it a ne its
theorem first {h : Heap} {it a : Addr} (e : h.get? it = some (k.head a)) : k.at_ h it a 0 := by
  cases k <;> exact ⟨_, e, rfl, rfl⟩
theorem lives {h : Heap} {it a : Addr} {i : Nat} (e : k.at_ h it a i) : ∃ o, h.get? it = some o ∧ ∀ v, o.data ≠ .cell v := by
  cases k
  all_goals
    obtain ⟨o, e1, _, e2⟩ := e
    exact ⟨o, e1, fun v z => by rw [e2] at z; cases z⟩
theorem moved {h h' : Heap} {it a : Addr} {i : Nat} (e : k.at_ h it a i) (m : ∀ o, h.get? it = some o → h'.get? it = some o) : k.at_ h' it a i := by
  cases k
  · exact Heap.IsListIter.at e m
  · exact Heap.IsTupleIter.at e m
theorem known {X : Cx} {pins : List (Addr × Obj)} {σ : L2.St} {H : Hp} {s : Shared} {a : Addr} {xs : List V} (I : Inv X pins σ H s) (e : k.sq X.K H a xs) : ∃ its : List Value, Vals xs its ∧ k.stands s.heap a its.toArray ∧ a < s.heap.objs.size := by
  cases k
  · obtain ⟨its, v, p, _⟩ := I.list e
    exact ⟨its, v, p.isList, p.lt⟩
  · obtain ⟨its, v, p, _⟩ := I.tuple e
    obtain ⟨o, e1, _⟩ := id p
    exact ⟨its, v, p, Heap.lt_size e1⟩
theorem one {X : Cx} {pins : List (Addr × Obj)} {σ : L2.St} {H : Hp} {s : Shared} {a : Addr} {xs ys : List V} (I : Inv X pins σ H s) (e : k.sq X.K H a xs) (e' : k.sq X.K H a ys) : xs = ys := by
  cases k
  · exact I.list_inj e e'
  · exact I.tuple_inj e e'
end Feed
/-- the walk over zip of two feeds of one length -/
def ItZ (K : PySem.W.Frag) (k m : Feed) (a b : Addr) : It where
  go i H := ∃ xs ys x y, k.sq K H a xs ∧ m.sq K H b ys ∧ xs[i]? = some x ∧ ys[i]? = some y
  yld i H v H' := ∃ T x y, v = .ref T ∧ H T = none ∧ H' = upd H T (.tup [x, y]) ∧ (∀ xs, k.sq K H a xs → xs[i]? = some x) ∧ ∀ ys, m.sq K H b ys → ys[i]? = some y
  stop i H := ∃ xs ys, k.sq K H a xs ∧ m.sq K H b ys ∧ xs.length = i ∧ ys.length = i
theorem walkZ {K : PySem.W.Frag} {k m : Feed} {a b : Addr} {xs ys : List V} (hl : xs.length = ys.length) : Walk (ItZ K k m a b) xs.length (fun H => k.sq K H a xs ∧ m.sq K H b ys) (YPair (fun i => xs[i]?) fun i => ys[i]?) where
  goes := fun i H hi g => ⟨xs, ys, xs[i], ys[i]'(hl ▸ hi), g.1, g.2, List.getElem?_eq_getElem hi, List.getElem?_eq_getElem (hl ▸ hi)⟩
  stops := fun H g => ⟨xs, ys, g.1, g.2, rfl, hl.symm⟩
  yields := fun i H v H' _ g ⟨T, x, y, e1, e2, e3, e4, e5⟩ => ⟨T, x, y, e1, e2, e3, e4 xs g.1, e5 ys g.2⟩
/-- what holds of each of five cells holds of any of them -/
theorem of_five {z p q i j c : Addr} {R : Addr → Prop} (hc : c ∈ [z, p, q, i, j]) (hz : R z) (hp : R p) (hq : R q) (hi : R i) (hj : R j) : R c := by
  simp only [List.mem_cons, List.not_mem_nil, or_false] at hc
  rcases hc with e | e | e | e | e <;> (rw [e]; assumption)
theorem turnZ {P : Program} {w : World} {K : PySem.W.Frag} {elts : List Expr} {kk : Nat} {tpos : Pos} {k m : Feed} {a b z p q i1 i2 : Addr} (S : ZipSep2 z p q i1 i2 [i1, a] [i2, b]) (na : a ≠ i1) (nb : b ≠ i2) :
    Turn P w K (.Tuple elts kk tpos) (ItZ K k m a b) [z, p, q, i1, i2] z fun i h => IsZip h z p q .none ∧ IsTupOf2 h p (.ref i1) (.ref i2) ∧ (∃ x y, IsTupOf2 h q x y) ∧ k.at_ h i1 a i ∧ m.at_ h i2 b i where
  mem := List.mem_cons_self
  obj := by
    rintro i h ⟨gz, gp, ⟨x, y, gq⟩, g1, g2⟩ c hc
    exact of_five (R := fun c => ∃ o, h.get? c = some o ∧ ∀ v, o.data ≠ .cell v) hc ⟨_, gz, fun _ e => nomatch e⟩ ⟨_, gp, fun _ e => nomatch e⟩ ⟨_, gq, fun _ e => nomatch e⟩ (k.lives g1) (m.lives g2)
  keep := by
    rintro i h h' ⟨gz, gp, ⟨x, y, gq⟩, g1, g2⟩ same
    exact ⟨same _ (by simp) _ gz, same _ (by simp) _ gp, ⟨x, y, same _ (by simp) _ gq⟩, k.moved g1 (same _ (by simp)), m.moved g2 (same _ (by simp))⟩
  item := by
    rintro X rfl rfl rfl calm i pins s σ H E I free ⟨gz, gp, ⟨x0, y0, gq⟩, g1, g2⟩ ⟨xs, ys, x, y, hxs, hys, hx, hy⟩
    obtain ⟨us, rel1, st1, _⟩ := k.known I hxs
    obtain ⟨vs, rel2, st2, _⟩ := m.known I hys
    obtain ⟨u, hu, ru⟩ := rel1.get hx
    obtain ⟨v, hv, rv⟩ := rel2.get hy
    have hA : X.A.in1.handled = none := I.ok.hd calm
    have zlt := Heap.lt_size gz
    have n1 : i < us.toArray.size := by
      rw [List.size_toArray]
      exact (List.getElem?_eq_some_iff.mp hu).1
    have n2 : i < vs.toArray.size := by
      rw [List.size_toArray]
      exact (List.getElem?_eq_some_iff.mp hv).1
    refine wpAny_pyNext_zipD2_item S (k.draws hA na _) (m.draws hA nb _) gz gp gq ⟨g1, st1⟩ ⟨g2, st2⟩ n1 n2 ?_
    rintro u' v' h1 t1 eu ev gz1 gq1 ⟨d1, _⟩ ⟨d2, _⟩ gT _ same
    obtain rfl : u = u' := Option.some.inj (hu.symm.trans (by simpa using eu))
    obtain rfl : v = v' := Option.some.inj (hv.symm.trans (by simpa using ev))
    refine ⟨_, rfl, wpAny_letOwnedTupleGo_zip (s := { s with heap := h1, toks := t1 }) gz1 fun h2 gz2 sb => ?_⟩
    have all : ∀ c o, c ∉ [z, p, q, i1, i2] → s.heap.get? c = some o → h2.get? c = some o := fun c o hc e => by
      simp only [List.mem_cons, List.not_mem_nil, or_false, not_or] at hc
      rw [sb.2 c hc.1]
      exact same c o hc.1 hc.2.2.1 hc.2.2.2.1 hc.2.2.2.2 e
    have pair : h2.get? s.heap.objs.size = some { cls := .type "tuple", data := .seq #[u, v] } := (sb.2 _ (Nat.ne_of_gt zlt)).trans gT
    have made : ObjOk X.prog X.w (upd H s.heap.objs.size (.tup [x, y])) h2 s.heap.objs.size (.tup [x, y]) := ⟨by show 2 ≤ sizeLine; decide, [u, v], .cons ru (.cons rv .nil), _, pair, rfl, _, rfl⟩
    refine ⟨.ref s.heap.objs.size, _, I.turnedNew (t' := t1) all free (Nat.le_refl _) made, rfl, ?_, ?_, ?_⟩
    · exact ⟨_, x, y, rfl, I.hok.fresh (Nat.le_refl _), rfl, fun l e => k.one I e hxs ▸ hx, fun l e => m.one I e hys ▸ hy⟩
    · exact ⟨gz2, (sb.2 _ S.TIz).trans (same _ _ S.TIz S.TITO S.TIi1 S.TIi2 gp), ⟨u, v, (sb.2 _ S.TOz).trans gq1⟩, k.moved d1 fun o e => (sb.2 _ S.zi1.symm).trans e, m.moved d2 fun o e => (sb.2 _ S.zi2.symm).trans e⟩
    · intro c hc
      have old : c < s.heap.objs.size := by
        obtain ⟨o1, e1, _⟩ := k.lives g1
        obtain ⟨o2, e2, _⟩ := m.lives g2
        exact of_five (R := fun c => c < s.heap.objs.size) hc zlt (Heap.lt_size gp) (Heap.lt_size gq) (Heap.lt_size e1) (Heap.lt_size e2)
      rw [upd_ne (Nat.ne_of_lt old)]
      exact (free c hc).1
  done := by
    rintro X rfl rfl rfl calm i pins s σ H E I free ⟨gz, gp, ⟨x0, y0, gq⟩, g1, g2⟩ ⟨xs, ys, hxs, hys, n1, n2⟩
    obtain ⟨us, rel1, st1, _⟩ := k.known I hxs
    obtain ⟨vs, rel2, st2, _⟩ := m.known I hys
    have hA : X.A.in1.handled = none := I.ok.hd calm
    have z1 : us.toArray.size = i := by rw [List.size_toArray, ← rel1.length, n1]
    have z2 : vs.toArray.size = i := by rw [List.size_toArray, ← rel2.length, n2]
    refine wpAny_pyNext_zipD2_end S (k.draws hA na _) (m.draws hA nb _) gz gp gq ⟨g1, st1⟩ ⟨g2, st2⟩ (by omega) (by omega) (by omega) fun h1 t1 same => ⟨rfl, I.turnedL (t' := t1) (fun c o hc e => ?_) free⟩
    simp only [List.mem_cons, List.not_mem_nil, or_false, not_or] at hc
    exact same c o hc.1 hc.2.2.1 hc.2.2.2.1 hc.2.2.2.2 e
  self := fun _ _ _ _ _ g e => wpAny_pyIter_zip g.1 e
def iZ (K : PySem.W.Frag) (k m : Feed) (ta : TA) : TI := fun σ H R => ta σ H fun vs H1 => ∃ a b xs ys, vs = [.ref a, .ref b] ∧ k.sq K H1 a xs ∧ m.sq K H1 b ys ∧ R (ItZ K k m a b) H1
theorem pi_Z {X : Cx} {e e2 : Expr} {ta : TA} {pz pos tpos : Pos} {elts : List Expr} {kk : Nat} (k m : Feed) (hg : Gl X "zip") (hm : X.mg "zip" = none) (ha : PA X [e, e2] ta)
    (star : starEach [e, e2] X.env = (false, eval e X.env) :: starEach [e2] X.env := by rfl) (plain : (backTo pos (starEach [e2] X.env)).any (·.1) = false := by rfl) :
    PI X (.Tuple elts kk tpos) (.Call (.Name "zip" pz) [e, e2] [] pos) (iZ X.K k m ta) where
  run := by
    intro pins s σ H R I h
    refine Call_ (ld_blt I hg hm PyProof.Rows.boot_zip (PyProof.Rows.callWith_type1 (thn (ha.run pos pins s σ H _ I h) ?_) star plain))
    rintro us s1 ⟨vs, H1, I1, rel, a, b, xs, ys, rfl, hxs, hys, r⟩
    obtain ⟨ua, ub, rfl, ra, rb⟩ := vals2 rel
    cases ra
    cases rb
    obtain ⟨its1, _, st1, la⟩ := k.known I1 hxs
    obtain ⟨its2, _, st2, lb⟩ := m.known I1 hys
    have S : ZipSep2 (s1.heap.objs.size + 4) (s1.heap.objs.size + 2) (s1.heap.objs.size + 3) s1.heap.objs.size (s1.heap.objs.size + 1) [s1.heap.objs.size, a] [s1.heap.objs.size + 1, b] :=
      zip_sep2 (fun c hc => by rw [List.mem_singleton.mp hc]; exact la) (fun c hc => by rw [List.mem_singleton.mp hc]; exact lb)
    have far : ∀ c, s1.heap.objs.size ≤ c → FpOk X pins H1 c := fun c hc => I1.fpOk hc (I1.hok.fresh hc)
    refine zip_begins2 (k.begins a _) (m.begins b _) st1 st2 fun h1 gz gp gq f1 f2 _ same => wpAny_pyIter_zip gz ?_
    refine ⟨_, _, _, _, H1, rfl, I1.kept (t' := s1.toks) same, turnZ S (Nat.ne_of_lt la) (Nat.ne_of_lt (Nat.lt_succ_of_lt lb)), ⟨gz, gp, ⟨_, _, gq⟩, k.first f1, m.first f2⟩, fun c hc => ?_, r⟩
    exact of_five hc (far _ (Nat.le_add_right _ _)) (far _ (Nat.le_add_right _ _)) (far _ (Nat.le_add_right _ _)) (far _ (Nat.le_refl _)) (far _ (Nat.le_add_right _ _))
/-! ### sum of a tuple of ints -/
def rSumT (K : PySem.W.Frag) : List V → Hp → VK → Prop := fun vs H Q => ∃ (t : Addr) (ns : List Int), vs = [V.ref t] ∧ SqT K H t (ns.map V.int) ∧ Q (.int ns.sum) H
theorem cr_sumT {X : Cx} (calm : X.calm = true) : CallR X (.builtin "sum") (rSumT X.K) := by
  rintro pins s σ H vs us Q I rel ⟨t, ns, rfl, hs, want⟩
  obtain ⟨its, vals, tup, _⟩ := I.tuple hs
  rw [Vals.ref1 rel]
  have aI : IntsAre its ns := vals.ints
  obtain ⟨zs, ez⟩ := aI.allInts.items
  have sum_is : preSum (numAt zs) zs.size = ns.sum := by
    rw [preSum_eq, List.take_of_length_le (by simp), ← nums_intItems, ← ez]
    exact congrArg List.sum aI.numsOf
  have tup2 : s.heap.IsTuple t (intItems zs) := ez ▸ tup
  refine PySem.W.ktm_sumG (I.ok.hd calm) tup2 fun h1 k1 t1 same => ?_
  rw [sum_is]
  exact ⟨.int _, H, I.kept same, ⟨_, rfl⟩, want⟩
/-! ### xs[i] read by values, for xs[i] += e -/
def rGetL (K : PySem.W.Frag) : V → V → Hp → VK → Prop := fun x y H Q => ∃ p xs i v, x = .ref p ∧ y = .int i ∧ 0 ≤ i ∧ SqL K H p xs ∧ atI xs i = some v ∧ Q v H
theorem get_list {X : Cx} : PGet X (rGetL X.K) := by
  rintro pins s σ H _ _ ov iv Q I ro ri ⟨p, xs, i, v, rfl, rfl, i0, hxs, hat, want⟩
  cases ro
  obtain ⟨t, rfl⟩ := ri
  obtain ⟨its, vals, plain, small⟩ := I.list hxs
  obtain ⟨j, sj, gj, _, _, hi⟩ := atI_get hat
  obtain ⟨u, gu, ru⟩ := vals.get gj
  have ej : i.toNat = j := Option.some.inj ((seqIndex_of i0 hi).symm.trans sj)
  have line := line63
  exact wpAny_getItem_list plain.isList i0 (by omega) (by rw [ej]; simpa using gu) ⟨v, H, I, ru, want⟩
/-! ### f(k = v, ..), keywords alone -/
def tCallN0 (m : Nat) (sp : Sp) (gV : List V → List V → List V) (E : XK) (tk : TA) : TE := fun σ H Q => tk σ H fun zs H2 => zs.length = m ∧ sp (gV [] zs) H2 Q E
theorem pe_callN0 {X : Cx} {CX : CXT} {k : Nat} {f : Addr} {fd : FuncData} {ps ks : List Str} {sp : Sp} {E : XK} {x : Str} {p pos : Pos} {kws : List Keyword} {tk : TA} {g : List Value → List Value → List Value} {gV : List V → List V → List V}
    (F : FnOk X.prog X.w X.K X.mg X.base CX k f fd ps sp) (room : Room k X.A) (glob : Gl X x) (is : X.mg x = some (.ref f)) (kp : PySem.W.keepIn X.K (.ref f) = true) (bind : KBn X.K fd ps 0 ks g gV) (pass : Passes CX X E) (args : PK X kws tk)
    (named : (backToKw pos (keywordEach kws X.env)).all (·.1.isSome) = true := by rfl) (names : (backToKw pos (keywordEach kws X.env)).filterMap (·.1) = ks := by rfl)
    (nodebug : (x == ("__debug__" : Str)) = false := by decide) (plain : ((backTo pos (starEach [] X.env)).any (·.1) || (backToKw pos (keywordEach kws X.env)).any (·.1.isNone)) = false := by rfl) :
    PE X (.Call (.Name x p) [] kws pos) (tCallN0 ks.length sp gV E tk) where
  run := by
    intro pins s σ H Q I h
    refine wpAny_Call_Name_kw (ld_glob I glob is (PySem.W.callWith_KW0 (h₀ := X.base) I.ok.mod.kin kp named (thn (args.run pos pins s σ H _ I h) ?_) plain) nodebug)
    rintro ws s2 ⟨zs, H2, I2, rel, len, want⟩
    rw [names]
    exact ⟨I2.kIn, run_fnN F room bind pass I2 .nil rel rfl len want⟩
/-! ### t[::-1] of a tuple -/
section
variable {prog : Program} {w : World} {A : Around} {E : Value → Shared → Prop} {s : Shared}
theorem back_parts {sl : Addr} {v0 v1 v2 : Value} {n : Nat} {R : Int × Int × Nat → Shared → Prop} (cut : s.heap.IsSliceOf sl v0 v1 v2) (p0 : IsPart v0 none) (p1 : IsPart v1 none) (p2 : IsPart v2 (some (-1))) (want : R ((n : Int) - 1, -1, n) s) :
    wpAny (model prog w) A (Builtin.Slice.sliceApplied (.ref sl) (pure (n : Int))) R E s := by
  obtain ⟨o, eo, _, eds⟩ := cut
  have num : Builtin.Slice.slicePlaces ((n : Int) - 1) (-1) (-1) = n := by
    show (if (-1 : Int) > 0 then _ else if (n : Int) - 1 > -1 then ((n : Int) - 1 - -1 - 1) / (- -1) + 1 else 0).toNat = n
    rw [if_neg (by decide)]
    by_cases some : (n : Int) - 1 > -1
    · rw [if_pos some, show (- -1 : Int) = 1 by decide, Int.ediv_one]
      omega
    · rw [if_neg some]
      omega
  show wpAny _ _ (Builtin.Slice.sliceFields (.ref sl) >>= _) _ _ _
  refine wpAny_bind (wpAny_bind (wpAny_field eo eds (x := v0) rfl (wpAny_bind (wpAny_field eo eds (x := v1) rfl (wpAny_bind (wpAny_field eo eds (x := v2) rfl (wpAny_pure (wpAny_bind (HT.slicePart_ p2 ?_)))))))))
  show wpAny _ _ (if ((-1 : Int) == 0) = true then _ else _) _ _ _
  rw [if_neg (by decide)]
  refine wpAny_bind (HT.slicePart_ p0 (wpAny_bind (HT.slicePart_ p1 (wpAny_bind (wpAny_pure (wpAny_pure ?_))))))
  show R ((n : Int) - 1, -1, Builtin.Slice.slicePlaces ((n : Int) - 1) (-1) (-1)) s
  rw [num]
  exact want
theorem back_items (xs : Array Value) : ((List.range xs.size).filterMap fun (m : Nat) => xs[(((xs.size : Nat) : Int) - 1 + (m : Int) * (-1)).toNat]?).toArray = xs.toList.reverse.toArray := by
  have e : (fun (m : Nat) => xs[(((xs.size : Nat) : Int) - 1 + (m : Int) * (-1)).toNat]?) = (xs[·]?) ∘ fun m => xs.size - 1 - m := funext fun m => by
    show xs[(((xs.size : Nat) : Int) - 1 + (m : Int) * (-1)).toNat]? = xs[xs.size - 1 - m]?
    congr 1
    omega
  rw [e, ← List.filterMap_map, PySem.W.krv_range, List.filterMap_reverse, PySem.W.krv_all xs]
theorem tuple_back {t sl : Addr} {its : Array Value} {v0 v1 v2 : Value} {R : Value → Shared → Prop} (tup : IsTup s.heap t its) (cut : s.heap.IsSliceOf sl v0 v1 v2) (p0 : IsPart v0 none) (p1 : IsPart v1 none) (p2 : IsPart v2 (some (-1))) (small : its.size ≤ sizeLine)
    (want : R (.ref s.heap.objs.size) { s with heap := s.heap.push { cls := .type "tuple", data := .seq its.toList.reverse.toArray } }) : wpAny (model prog w) A (getItem (.ref t) (.ref sl)) R E s := by
  obtain ⟨o, eo, ecs, _⟩ := id cut
  have isSl : s.TypeIs (.ref sl) "slice" := ⟨o, eo, ecs⟩
  have fits : sizeOk (.seq its.toList.reverse.toArray) := by
    show its.toList.reverse.toArray.size ≤ sizeLine
    simpa using small
  unfold getItem
  (try with_reducible refine wpAny_holding ?_); (first | refine wpAny_bind (wpAny_pure ?_) | skip)
  refine wpAny_bind (wpAny_sequenceKey tup.typeIs (by decide) (wpAny_bind (wpAny_callSpecial?_slot (name := Str.ofString "__getitem__") tup.typeIs PyProof.Rows.slot_tuple_getitem (wpAny_call_entry PyProof.Rows.slot_tuple_getitem tup.typeIs entry_tuple_getitem ?_ (args_tuple_getitem _ _)))))
  refine wpAny_bind (m := Builtin.Tuple.tupleItemsOf (.ref t)) (tupleItemsOf_ tup (wpAny_bind (wpAny_typeOf isSl ?_)))
  rw [if_pos (by decide)]
  refine wpAny_bind (back_parts cut p0 p1 p2 ?_)
  show wpAny _ _ (if ((((its.size : Int) - 1) == 0 && (-1 : Int) == 1 && its.size == its.size) = true) then _ else _) _ _ _
  rw [if_neg (by simp), back_items]
  first
    | exact wpAny_bind (m := Builtin.Tuple.tupleExact _) (wpAny_newObj_type (wpAny_pure ⟨_, rfl, wpAny_pure want⟩) fits)
    | exact wpAny_bind (m := Builtin.Tuple.tupleExact _) (wpAny_newObj_type (wpAny_bind (wpAny_pure (wpAny_pure ⟨_, rfl, wpAny_pure want⟩))) fits)
end
def tRevT (K : PySem.W.Frag) (te : TE) : TE := fun σ H Q => te σ H fun x H1 => ∃ t xs, x = .ref t ∧ SqT K H1 t xs ∧ ∀ p, H1 p = none → Q (.ref p) (upd H1 p (.tup xs.reverse))
theorem pe_revT {X : Cx} {e : Expr} {te : TE} {k : Nat} {q1 q2 q3 pos : Pos} (he : PE X e te) : PE X (.Subscript e (.Slice none none (some (.UnaryOp .USub (.Constant (.int 1) k q1) q2)) q3) pos) (tRevT X.K te) where
  run := by
    intro pins s σ H Q I h
    have minus : PO X (some (.UnaryOp .USub (.Constant (.int 1) k q1) q2)) (tPart (tUn (rU fun i => .int (-i)) (tC (.int 1)))) := po_some (pe_un un_neg pe_int)
    refine Subscript_ (thn (he.run pins s σ H _ I h) ?_)
    rintro _ s1 ⟨_, H1, I1, rel, t, xs, rfl, hxs, want⟩
    cases rel
    refine wpAny_Slice (thn (po_none.run pins s1 σ H1 (fun o G => o = none ∧ G = H1) I1 ⟨rfl, rfl⟩) ?_)
    rintro v0 s2 ⟨_, _, I2, p0, rfl, rfl⟩
    refine thn (po_none.run pins s2 σ _ (fun o G => o = none ∧ G = _) I2 ⟨rfl, rfl⟩) ?_
    rintro v1 s3 ⟨_, _, I3, p1, rfl, rfl⟩
    refine thn (minus.run pins s3 σ _ (fun o G => o = some (-1) ∧ G = _) I3 ⟨1, rfl, -1, rfl, rfl, rfl⟩) ?_
    rintro v2 s4 ⟨_, _, I4, p2, rfl, rfl⟩
    have I5 := I4.kept (h' := s4.heap.push { cls := .type "slice", data := .fields #[v0, v1, v2] }) (t' := s4.toks) fun c o g => Heap.get?_push_of_some _ g
    obtain ⟨its, vals, tup, small⟩ := I5.tuple hxs
    refine tail_any (ops := [.ref t, .ref s4.heap.objs.size]) tup.typeIs PyProof.Rows.slot_tuple_getitem.lookup (tuple_back tup (Heap.IsSliceOf.new _ v0 v1 v2) p0 p1 p2 (by rw [List.size_toArray, ← vals.length]; exact small) ?_) (by with_unfolding_all rfl)
    exact ⟨.ref _, _, I5.laid (t' := s4.toks) (o := .tup xs.reverse) (fun c o g => Heap.get?_push_of_some _ g) (Nat.le_refl _) ⟨by rw [List.length_reverse]; exact small, _, vals.reverse, IsTup.new _ _⟩, rfl, want _ (I5.hok.fresh (Nat.le_refl _))⟩
end Wd

set_option linter.all false
namespace WdM
/-! ### pennies by weights -/
def deal (a T : Int) : Int → List Int → List Int
  | _, [] => []
  | k, w :: ws => if 0 < k ∧ a * w % T ≠ 0 then (a * w / T + 1) :: deal a T (k - 1) ws else a * w / T :: deal a T k ws
def bases (a T : Int) (ws : List Int) : List Int := ws.map fun w => a * w / T
def cnt (a T : Int) : List Int → Int
  | [] => 0
  | w :: ws => (if a * w % T ≠ 0 then 1 else 0) + cnt a T ws
def dealt (a : Int) (ws : List Int) : List Int := deal a ws.sum (a - (bases a ws.sum ws).sum) ws

theorem deal_len (a T : Int) : ∀ (k : Int) (ws : List Int), (deal a T k ws).length = ws.length
  | _, [] => rfl
  | k, w :: ws => by
    unfold deal
    split
    · rw [List.length_cons, deal_len a T (k - 1) ws, List.length_cons]
    · rw [List.length_cons, deal_len a T k ws, List.length_cons]
theorem dealt_len (a : Int) (ws : List Int) : (dealt a ws).length = ws.length := deal_len _ _ _ _
theorem cnt_cons (a T w : Int) (ws : List Int) : cnt a T (w :: ws) = (if a * w % T ≠ 0 then 1 else 0) + cnt a T ws := rfl
theorem cnt_nonneg (a T : Int) : ∀ ws, 0 ≤ cnt a T ws
  | [] => Int.le_refl 0
  | w :: ws => by
    have := cnt_nonneg a T ws
    unfold cnt
    split <;> omega
theorem deal_sum (a T : Int) : ∀ (k : Int) (ws : List Int), 0 ≤ k → (deal a T k ws).sum = (bases a T ws).sum + min k (cnt a T ws)
  | k, [], hk => by
    show (0 : Int) = 0 + min k 0
    omega
  | k, w :: ws, hk => by
    have hb : (bases a T (w :: ws)).sum = a * w / T + (bases a T ws).sum := by unfold bases; rw [List.map_cons, List.sum_cons]
    have hc := cnt_nonneg a T ws
    unfold deal
    split
    · rename_i h
      have ih := deal_sum a T (k - 1) ws (by omega)
      rw [List.sum_cons, ih, hb]
      rw [cnt_cons, if_pos h.2]
      generalize a * w / T = q
      omega
    · rename_i h
      have ih := deal_sum a T k ws hk
      rw [List.sum_cons, ih, hb]
      rw [cnt_cons]
      generalize a * w / T = q
      by_cases hz : a * w % T ≠ 0
      · have : ¬ 0 < k := fun z => h ⟨z, hz⟩
        rw [if_pos hz]
        omega
      · rw [if_neg hz]
        omega
def rems (a T : Int) (ws : List Int) : List Int := ws.map fun w => a * w % T
theorem bases_rems (a T : Int) : ∀ ws : List Int, T * (bases a T ws).sum + (rems a T ws).sum = a * ws.sum
  | [] => by
    show T * 0 + 0 = a * 0
    simp
  | w :: ws => by
    have ih := bases_rems a T ws
    have e : T * (a * w / T) + a * w % T = a * w := Int.mul_ediv_add_emod (a * w) T
    unfold bases rems at *
    rw [List.map_cons, List.map_cons, List.sum_cons, List.sum_cons, List.sum_cons, Int.mul_add, Int.mul_add]
    omega
theorem rems_bound (a T : Int) (hT : 0 < T) : ∀ ws : List Int, 0 ≤ (rems a T ws).sum ∧ (rems a T ws).sum ≤ (T - 1) * cnt a T ws
  | [] => by
    constructor
    · exact Int.le_refl 0
    · show (0 : Int) ≤ (T - 1) * 0
      simp
  | w :: ws => by
    have ih := rems_bound a T hT ws
    have h0 := Int.emod_nonneg (a * w) (show T ≠ 0 by omega)
    have h1 := Int.emod_lt_of_pos (a * w) hT
    unfold rems at *
    rw [List.map_cons, List.sum_cons]
    rw [cnt_cons]
    generalize hr : a * w % T = r at *
    by_cases hz : r ≠ 0
    · rw [if_pos hz, Int.mul_add, Int.mul_one]
      omega
    · rw [if_neg hz]
      have : r = 0 := by omega
      subst this
      rw [Int.zero_add, Int.zero_add]
      omega
theorem lack_bounds (a : Int) (ws : List Int) (hT : 0 < ws.sum) : 0 ≤ a - (bases a ws.sum ws).sum ∧ a - (bases a ws.sum ws).sum ≤ cnt a ws.sum ws := by
  have h1 := bases_rems a ws.sum ws
  have ⟨h2, h3⟩ := rems_bound a ws.sum hT ws
  have hc := cnt_nonneg a ws.sum ws
  generalize ws.sum = T at *
  generalize (bases a T ws).sum = B at *
  generalize (rems a T ws).sum = R at *
  generalize cnt a T ws = c at *
  have e : T * (a - B) = R := by
    rw [Int.mul_sub]
    have : a * T = T * a := Int.mul_comm _ _
    omega
  constructor
  · rcases Int.lt_or_le (a - B) 0 with h | h
    · have : T * (a - B) < 0 := Int.mul_neg_of_pos_of_neg hT h
      omega
    · exact h
  · rcases Int.lt_or_le c (a - B) with h | h
    · have h4 : T * (c + 1) ≤ T * (a - B) := Int.mul_le_mul_of_nonneg_left (by omega) (by omega)
      have h5 : (T - 1) * c = T * c - c := by rw [Int.sub_mul, Int.one_mul]
      rw [Int.mul_add, Int.mul_one] at h4
      omega
    · exact h
theorem dealt_sum (a : Int) (ws : List Int) (hT : 0 < ws.sum) : (dealt a ws).sum = a := by
  have ⟨h1, h2⟩ := lack_bounds a ws hT
  unfold dealt
  rw [deal_sum _ _ _ _ h1]
  omega
/-- each is its exact part, rounded down or up -/
theorem deal_get (a T : Int) : ∀ (k : Int) (ws : List Int) (i : Nat) (v : Int), (deal a T k ws)[i]? = some v → ∃ w, ws[i]? = some w ∧ (v = a * w / T ∨ v = a * w / T + 1)
  | _, [], i, v, h => by unfold deal at h; simp at h
  | k, w :: ws, i, v, h => by
    unfold deal at h
    split at h
    · cases i with
      | zero => exact ⟨w, rfl, .inr (by simpa using h.symm)⟩
      | succ i => exact deal_get a T _ ws i v (by simpa using h)
    · cases i with
      | zero => exact ⟨w, rfl, .inl (by simpa using h.symm)⟩
      | succ i => exact deal_get a T _ ws i v (by simpa using h)
/-! ### the same by other numbers of the same shares -/
theorem sum_scale (p : Int) : ∀ ws : List Int, (ws.map (p * ·)).sum = p * ws.sum
  | [] => by simp
  | w :: ws => by rw [List.map_cons, List.sum_cons, List.sum_cons, sum_scale p ws, Int.mul_add]
theorem part_scale {a T w p : Int} (hp : 0 < p) : a * (p * w) / (p * T) = a * w / T := by
  rw [show a * (p * w) = p * (a * w) by rw [← Int.mul_assoc, Int.mul_comm a p, Int.mul_assoc]]
  exact Int.mul_ediv_mul_of_pos _ _ hp
theorem rem_scale {a T w p : Int} (hp : 0 < p) : (a * (p * w) % (p * T) ≠ 0) ↔ (a * w % T ≠ 0) := by
  rw [show a * (p * w) = p * (a * w) by rw [← Int.mul_assoc, Int.mul_comm a p, Int.mul_assoc], Int.mul_emod_mul_of_pos _ _ hp]
  constructor
  · intro h z
    exact h (by rw [z, Int.mul_zero])
  · intro h z
    rcases Int.mul_eq_zero.mp z with q | q
    · omega
    · exact h q
theorem deal_scale {a T p : Int} (hp : 0 < p) : ∀ (k : Int) (ws : List Int), deal a (p * T) k (ws.map (p * ·)) = deal a T k ws
  | _, [] => rfl
  | k, w :: ws => by
    rw [List.map_cons]
    unfold deal
    rw [part_scale hp]
    by_cases h : 0 < k ∧ a * w % T ≠ 0
    · rw [if_pos h, if_pos ⟨h.1, (rem_scale hp).mpr h.2⟩, deal_scale hp (k - 1) ws]
    · rw [if_neg h, if_neg (fun z => h ⟨z.1, (rem_scale hp).mp z.2⟩), deal_scale hp k ws]
theorem bases_scale {a T p : Int} (hp : 0 < p) (ws : List Int) : bases a (p * T) (ws.map (p * ·)) = bases a T ws := by
  unfold bases
  rw [List.map_map]
  apply List.map_congr_left
  intro w _
  exact part_scale hp
theorem dealt_scale {a p : Int} (hp : 0 < p) (ws : List Int) : dealt a (ws.map (p * ·)) = dealt a ws := by
  unfold dealt
  rw [sum_scale, bases_scale hp, deal_scale hp]
theorem dealt_like {a p q : Int} (hp : 0 < p) (hq : 0 < q) {ws ws' : List Int} (h : ws.map (p * ·) = ws'.map (q * ·)) : dealt a ws = dealt a ws' := by
  rw [← dealt_scale hp ws, h, dealt_scale hq]
/-! ### weights of fractions -/
def lcmF : Int → List (Int × Int) → Int
  | b, [] => b
  | b, f :: fs => lcmF (b / (Int.gcd b f.2 : Int) * f.2) fs
def wts (L : Int) (fs : List (Int × Int)) : List Int := fs.map fun f => f.1 * (L / f.2)
def wtsOf (fs : List (Int × Int)) : List Int := wts (lcmF 1 fs) fs
structure Lcm (b L : Int) (fs : List (Int × Int)) : Prop where
  pos : 0 < L
  dvd : b ∣ L
  all : ∀ f ∈ fs, f.2 ∣ L
theorem step_lcm {b d : Int} (hb : 0 < b) (hd : 0 < d) : 0 < b / (Int.gcd b d : Int) * d ∧ b ∣ b / (Int.gcd b d : Int) * d ∧ d ∣ b / (Int.gcd b d : Int) * d := by
  have g0 : (0 : Int) < (Int.gcd b d : Int) := by
    have : Int.gcd b d ≠ 0 := fun z => by
      have := (Int.gcd_eq_zero_iff.mp z).1
      omega
    omega
  obtain ⟨x, hx⟩ := Int.gcd_dvd_left b d
  obtain ⟨y, hy⟩ := Int.gcd_dvd_right b d
  generalize hg : (Int.gcd b d : Int) = g at *
  have e : b / g = x := by rw [hx]; exact Int.mul_ediv_cancel_left x (by omega)
  have xp : 0 < x := by
    rcases Int.lt_or_le 0 x with h | h
    · exact h
    · have : g * x ≤ 0 := Int.mul_nonpos_of_nonneg_of_nonpos (by omega) h
      omega
  rw [e]
  refine ⟨Int.mul_pos xp hd, ⟨y, ?_⟩, ⟨x, Int.mul_comm _ _⟩⟩
  rw [hy, hx, ← Int.mul_assoc, Int.mul_comm x g]
theorem lcm_is : ∀ (fs : List (Int × Int)) (b : Int), 0 < b → (∀ f ∈ fs, 0 < f.2) → Lcm b (lcmF b fs) fs
  | [], b, hb, _ => ⟨hb, Int.dvd_refl b, fun f h => by cases h⟩
  | f :: fs, b, hb, h => by
    have hd := h f List.mem_cons_self
    have ⟨s1, s2, s3⟩ := step_lcm hb hd
    have ih := lcm_is fs _ s1 (fun g hg => h g (List.mem_cons_of_mem _ hg))
    refine ⟨ih.pos, Int.dvd_trans s2 ih.dvd, fun g hg => ?_⟩
    rcases List.mem_cons.mp hg with rfl | hg
    · exact Int.dvd_trans s3 ih.dvd
    · exact ih.all g hg
theorem wt_eq {L t d : Int} (h : d ∣ L) : t * (L / d) * d = t * L := by
  rw [Int.mul_assoc, Int.ediv_mul_cancel h]
/-- two rows of fractions that stand as B to A -/
theorem wts_like {A B L L' : Int} (hA : 0 < A) (hB : 0 < B) : ∀ (fs fs' : List (Int × Int)), fs.length = fs'.length → (∀ f ∈ fs, 0 < f.2 ∧ f.2 ∣ L) → (∀ f ∈ fs', 0 < f.2 ∧ f.2 ∣ L') →
    (∀ (i : Nat) (f f' : Int × Int), fs[i]? = some f → fs'[i]? = some f' → f'.1 * f.2 * B = f.1 * A * f'.2) → (wts L fs).map (A * L' * ·) = (wts L' fs').map (B * L * ·)
  | [], [], _, _, _, _ => rfl
  | f :: fs, f' :: fs', hl, h1, h2, h3 => by
    have ih := wts_like (L := L) (L' := L') hA hB fs fs' (by simpa using hl) (fun g hg => h1 g (List.mem_cons_of_mem _ hg)) (fun g hg => h2 g (List.mem_cons_of_mem _ hg)) (fun i g g' a b => h3 (i + 1) g g' (by simpa using a) (by simpa using b))
    have e := h3 0 f f' rfl rfl
    have ⟨p1, d1⟩ := h1 f List.mem_cons_self
    have ⟨p2, d2⟩ := h2 f' List.mem_cons_self
    unfold wts at *
    rw [List.map_cons, List.map_cons, List.map_cons, List.map_cons, ih]
    congr 1
    have w1 := wt_eq (t := f.1) d1
    have w2 := wt_eq (t := f'.1) d2
    generalize f.1 * (L / f.2) = w at *
    generalize f'.1 * (L' / f'.2) = w' at *
    have ne : f.2 * f'.2 ≠ 0 := Int.ne_of_gt (Int.mul_pos p1 p2)
    apply Int.eq_of_mul_eq_mul_right ne
    have l1 : A * L' * w * (f.2 * f'.2) = (w * f.2) * (A * L' * f'.2) := by
      ac_rfl
    have l2 : B * L * w' * (f.2 * f'.2) = (w' * f'.2) * (B * L * f.2) := by
      ac_rfl
    rw [l1, l2, w1, w2]
    have l3 : f.1 * L * (A * L' * f'.2) = (f.1 * A * f'.2) * (L * L') := by ac_rfl
    have l4 : f'.1 * L' * (B * L * f.2) = (f'.1 * f.2 * B) * (L * L') := by ac_rfl
    rw [l3, l4, e]
theorem dealt_frac {a A B : Int} (hA : 0 < A) (hB : 0 < B) {fs fs' : List (Int × Int)} (hl : fs.length = fs'.length) (h1 : ∀ f ∈ fs, 0 < f.2) (h2 : ∀ f ∈ fs', 0 < f.2)
    (h3 : ∀ (i : Nat) (f f' : Int × Int), fs[i]? = some f → fs'[i]? = some f' → f'.1 * f.2 * B = f.1 * A * f'.2) : dealt a (wtsOf fs) = dealt a (wtsOf fs') := by
  have c1 := lcm_is fs 1 (by decide) h1
  have c2 := lcm_is fs' 1 (by decide) h2
  exact dealt_like (Int.mul_pos hA c2.pos) (Int.mul_pos hB c1.pos) (wts_like hA hB fs fs' hl (fun f hf => ⟨h1 f hf, c1.all f hf⟩) (fun f hf => ⟨h2 f hf, c2.all f hf⟩) h3)
theorem wtsOf_sum_pos {fs : List (Int × Int)} (h1 : ∀ f ∈ fs, 0 ≤ f.1 ∧ 0 < f.2) (h2 : ∃ f ∈ fs, 0 < f.1) : 0 < (wtsOf fs).sum ∧ ∀ w ∈ wtsOf fs, 0 ≤ w := by
  have c := lcm_is fs 1 (by decide) (fun f hf => (h1 f hf).2)
  unfold wtsOf
  generalize lcmF 1 fs = L at *
  have q : ∀ f ∈ fs, 0 < L / f.2 := fun f hf => Int.ediv_pos_of_pos_of_dvd c.pos (Int.le_of_lt (h1 f hf).2) (c.all f hf)
  clear c
  have nn : ∀ w ∈ wts L fs, 0 ≤ w := fun w hw => by
    unfold wts at hw
    obtain ⟨f, hf, rfl⟩ := List.mem_map.mp hw
    exact Int.mul_nonneg (h1 f hf).1 (Int.le_of_lt (q f hf))
  refine ⟨?_, nn⟩
  induction fs with
  | nil => obtain ⟨f, hf, _⟩ := h2; cases hf
  | cons g fs ih =>
    unfold wts
    rw [List.map_cons, List.sum_cons]
    have g0 : 0 ≤ g.1 * (L / g.2) := nn _ (by unfold wts; rw [List.map_cons]; exact List.mem_cons_self)
    have rest : ∀ (xs : List Int), (∀ w ∈ xs, 0 ≤ w) → 0 ≤ xs.sum := fun xs => by
      induction xs with
      | nil => intro _; exact Int.le_refl 0
      | cons x xs ihx =>
        intro hx
        rw [List.sum_cons]
        have a := hx x List.mem_cons_self
        have b := ihx (fun w hw => hx w (List.mem_cons_of_mem _ hw))
        omega
    have r0 : 0 ≤ (fs.map fun f => f.1 * (L / f.2)).sum := rest _ (fun w hw => nn w (by unfold wts; rw [List.map_cons]; exact List.mem_cons_of_mem _ hw))
    obtain ⟨f, hf, hp⟩ := h2
    rcases List.mem_cons.mp hf with rfl | hf
    · have := Int.mul_pos hp (q f List.mem_cons_self)
      omega
    · have ih2 := ih (fun f hf => h1 f (List.mem_cons_of_mem _ hf)) ⟨f, hf, hp⟩ (fun f hf => q f (List.mem_cons_of_mem _ hf)) (fun w hw => nn w (by unfold wts at *; rw [List.map_cons]; exact List.mem_cons_of_mem _ hw))
      unfold wts at ih2
      omega
theorem wtsOf_len (fs : List (Int × Int)) : (wtsOf fs).length = fs.length := by unfold wtsOf wts; rw [List.length_map]
/-! ### whole shares -/
theorem lcm_whole : ∀ fs : List (Int × Int), (∀ f ∈ fs, f.2 = 1) → lcmF 1 fs = 1
  | [], _ => rfl
  | f :: fs, h => by
    unfold lcmF
    rw [h f List.mem_cons_self]
    show lcmF (1 / (Int.gcd 1 1 : Int) * 1) fs = 1
    rw [show (1 : Int) / (Int.gcd 1 1 : Int) * 1 = 1 by decide]
    exact lcm_whole fs (fun g hg => h g (List.mem_cons_of_mem _ hg))
theorem wtsOf_whole (ts : List Int) : wtsOf (ts.map fun t => (t, 1)) = ts := by
  unfold wtsOf
  rw [lcm_whole _ (fun f hf => by obtain ⟨t, _, rfl⟩ := List.mem_map.mp hf; rfl)]
  unfold wts
  rw [List.map_map]
  have e : ((fun f : Int × Int => f.1 * (1 / f.2)) ∘ fun t : Int => (t, (1 : Int))) = id := by
    funext t
    show t * (1 / 1) = t
    rw [show (1 : Int) / 1 = 1 by decide, Int.mul_one]
  rw [e, List.map_id]
theorem deal_self {T : Int} (hT : 0 < T) : ∀ (k : Int) (ws : List Int), deal T T k ws = ws
  | _, [] => rfl
  | k, w :: ws => by
    unfold deal
    have e : T * w % T = 0 := Int.mul_emod_right T w
    rw [if_neg (fun z => z.2 e), Int.mul_ediv_cancel_left w (by omega), deal_self hT k ws]
theorem dealt_self {ws : List Int} (hT : 0 < ws.sum) : dealt ws.sum ws = ws := deal_self hT _ _
theorem deal_more {a T t : Int} (hT : 0 < T) : ∀ (k : Int) (ws : List Int), deal (a + t * T) T k ws = List.zipWith (fun p w => p + t * w) (deal a T k ws) ws
  | _, [] => rfl
  | k, w :: ws => by
    have e : (a + t * T) * w = a * w + T * (t * w) := by
      rw [Int.add_mul]
      congr 1
      ac_rfl
    have e1 : (a + t * T) * w / T = a * w / T + t * w := by
      rw [e, Int.add_mul_ediv_left _ _ (by omega)]
    have e2 : (a + t * T) * w % T = a * w % T := by
      rw [e, Int.add_mul_emod_self_left]
    unfold deal
    rw [e1, e2]
    by_cases h : 0 < k ∧ a * w % T ≠ 0
    · rw [if_pos h, if_pos h, deal_more hT (k - 1) ws, List.zipWith_cons_cons]
      congr 1
      omega
    · rw [if_neg h, if_neg h, deal_more hT k ws, List.zipWith_cons_cons]
theorem bases_more {a T t : Int} (hT : 0 < T) : ∀ ws : List Int, (bases (a + t * T) T ws).sum = (bases a T ws).sum + t * ws.sum
  | [] => by
    show (0 : Int) = 0 + t * 0
    simp
  | w :: ws => by
    have ih := bases_more (a := a) (t := t) hT ws
    have e : (a + t * T) * w = a * w + T * (t * w) := by
      rw [Int.add_mul]
      congr 1
      ac_rfl
    have e1 : (a + t * T) * w / T = a * w / T + t * w := by
      rw [e, Int.add_mul_ediv_left _ _ (by omega)]
    unfold bases at *
    rw [List.map_cons, List.map_cons, List.sum_cons, List.sum_cons, List.sum_cons, ih, e1, Int.mul_add]
    omega
theorem dealt_more {a t : Int} {ws : List Int} (hT : 0 < ws.sum) : dealt (a + t * ws.sum) ws = List.zipWith (fun p w => p + t * w) (dealt a ws) ws := by
  unfold dealt
  rw [bases_more hT, deal_more hT]
  congr 2
  omega
/-! ### noughts between -/
def trues : Nat → List Bool → List Nat
  | _, [] => []
  | n, true :: r => n :: trues (n + 1) r
  | n, false :: r => trues (n + 1) r
theorem trues_append : ∀ (a b : List Bool) (n : Nat), trues n (a ++ b) = trues n a ++ trues (n + a.length) b
  | [], b, n => by simp [trues]
  | true :: a, b, n => by
    have := trues_append a b (n + 1)
    simp only [List.cons_append, trues, this, List.length_cons]
    rw [show n + 1 + a.length = n + (a.length + 1) by omega]
  | false :: a, b, n => by
    have := trues_append a b (n + 1)
    simp only [List.cons_append, trues, this, List.length_cons]
    rw [show n + 1 + a.length = n + (a.length + 1) by omega]
theorem trues_false : ∀ (z n : Nat), trues n (List.replicate z false) = []
  | 0, n => rfl
  | z + 1, n => by rw [List.replicate_succ]; exact trues_false z (n + 1)
theorem trues_mem : ∀ (m : List Bool) (n q : Nat), q ∈ trues n m ↔ n ≤ q ∧ m[q - n]? = some true
  | [], n, q => by simp [trues]
  | true :: m, n, q => by
    have ih := trues_mem m (n + 1) q
    simp only [trues, List.mem_cons, ih]
    constructor
    · rintro (rfl | ⟨h1, h2⟩)
      · simp
      · refine ⟨by omega, ?_⟩
        rw [show q - n = (q - (n + 1)) + 1 by omega]
        simpa using h2
    · rintro ⟨h1, h2⟩
      by_cases e : q = n
      · exact .inl e
      · right
        refine ⟨by omega, ?_⟩
        rw [show q - n = (q - (n + 1)) + 1 by omega] at h2
        simpa using h2
  | false :: m, n, q => by
    have ih := trues_mem m (n + 1) q
    simp only [trues, ih]
    constructor
    · rintro ⟨h1, h2⟩
      refine ⟨by omega, ?_⟩
      rw [show q - n = (q - (n + 1)) + 1 by omega]
      simpa using h2
    · rintro ⟨h1, h2⟩
      by_cases e : q = n
      · subst e
        simp at h2
      · refine ⟨by omega, ?_⟩
        rw [show q - n = (q - (n + 1)) + 1 by omega] at h2
        simpa using h2
theorem trues_lt {m : List Bool} {q : Nat} (h : q ∈ trues 0 m) : q < m.length := by
  have := ((trues_mem m 0 q).mp h).2
  rw [Nat.sub_zero] at this
  exact (List.getElem?_eq_some_iff.mp this).1
/-- what stands at the marked places -/
theorem trues_pick : ∀ (m : List (Bool × Int)) (pre : List Int), (trues pre.length (m.map (·.1))).map (fun p => (pre ++ m.map (·.2)).getD p 0) = (m.filter (·.1)).map (·.2)
  | [], pre => rfl
  | (true, v) :: m, pre => by
    have ih := trues_pick m (pre ++ [v])
    simp only [List.length_append, List.length_cons, List.length_nil, List.append_assoc, List.cons_append, List.nil_append] at ih
    simp only [List.map_cons, trues, List.filter_cons, if_true]
    rw [show pre.length + 1 = pre.length + (0 + 1) by omega, ih]
    congr 1
    simp [List.getD]
  | (false, v) :: m, pre => by
    have ih := trues_pick m (pre ++ [v])
    simp only [List.length_append, List.length_cons, List.length_nil, List.append_assoc, List.cons_append, List.nil_append] at ih
    simp only [List.map_cons, trues, List.filter_cons]
    rw [show pre.length + 1 = pre.length + (0 + 1) by omega, ih]
    simp
def Naught (m : List (Bool × Int)) : Prop := ∀ x ∈ m, x.1 = false → x.2 = 0
theorem sum_naught : ∀ m : List (Bool × Int), Naught m → (m.map (·.2)).sum = ((m.filter (·.1)).map (·.2)).sum
  | [], _ => rfl
  | (true, v) :: m, h => by
    have ih := sum_naught m (fun x hx => h x (List.mem_cons_of_mem _ hx))
    simp only [List.map_cons, List.sum_cons, List.filter_cons, if_true, ih]
  | (false, v) :: m, h => by
    have ih := sum_naught m (fun x hx => h x (List.mem_cons_of_mem _ hx))
    have e : v = 0 := h _ List.mem_cons_self rfl
    subst e
    simp only [List.map_cons, List.sum_cons, List.filter_cons, ih]
    simp
/-- the pennies with their marks -/
def marked (a T : Int) : Int → List (Bool × Int) → List (Bool × Int)
  | _, [] => []
  | k, (b, w) :: m => if 0 < k ∧ a * w % T ≠ 0 then (b, a * w / T + 1) :: marked a T (k - 1) m else (b, a * w / T) :: marked a T k m
theorem marked_snd (a T : Int) : ∀ (k : Int) (m : List (Bool × Int)), (marked a T k m).map (·.2) = deal a T k (m.map (·.2))
  | _, [] => rfl
  | k, (b, w) :: m => by
    unfold marked
    rw [List.map_cons]
    unfold deal
    split
    · rw [List.map_cons, marked_snd a T (k - 1) m]
    · rw [List.map_cons, marked_snd a T k m]
theorem marked_fst (a T : Int) : ∀ (k : Int) (m : List (Bool × Int)), (marked a T k m).map (·.1) = m.map (·.1)
  | _, [] => rfl
  | k, (b, w) :: m => by
    unfold marked
    rw [List.map_cons]
    split
    · rw [List.map_cons, marked_fst a T (k - 1) m]
    · rw [List.map_cons, marked_fst a T k m]
theorem marked_pick (a T : Int) : ∀ (k : Int) (m : List (Bool × Int)), Naught m → ((marked a T k m).filter (·.1)).map (·.2) = deal a T k ((m.filter (·.1)).map (·.2))
  | _, [], _ => rfl
  | k, (true, w) :: m, h => by
    have ih := fun k => marked_pick a T k m (fun x hx => h x (List.mem_cons_of_mem _ hx))
    unfold marked
    simp only [List.filter_cons, if_true, List.map_cons]
    unfold deal
    split
    · simp only [List.filter_cons, if_true, List.map_cons, ih]
    · simp only [List.filter_cons, if_true, List.map_cons, ih]
  | k, (false, w) :: m, h => by
    have ih := fun k => marked_pick a T k m (fun x hx => h x (List.mem_cons_of_mem _ hx))
    have e : w = 0 := h _ List.mem_cons_self rfl
    subst e
    unfold marked
    have e0 : a * 0 % T = 0 := by rw [Int.mul_zero, Int.zero_emod]
    rw [if_neg (fun z => z.2 e0)]
    simp [List.filter_cons, ih]
theorem marked_naught (a T : Int) : ∀ (k : Int) (m : List (Bool × Int)), Naught m → Naught (marked a T k m)
  | _, [], _ => fun x hx => by cases hx
  | k, (b, w) :: m, h => by
    have ih := fun k => marked_naught a T k m (fun x hx => h x (List.mem_cons_of_mem _ hx))
    have h0 := h _ List.mem_cons_self
    unfold marked
    split
    · rename_i hc
      intro x hx hf
      rcases List.mem_cons.mp hx with rfl | hx
      · have e : w = 0 := h0 hf
        subst e
        exact absurd (by rw [Int.mul_zero, Int.zero_emod]) hc.2
      · exact ih _ x hx hf
    · intro x hx hf
      rcases List.mem_cons.mp hx with rfl | hx
      · have e : w = 0 := h0 hf
        subst e
        show a * 0 / T = 0
        rw [Int.mul_zero, Int.zero_ediv]
      · exact ih _ x hx hf
theorem bases_naught (a T : Int) (m : List (Bool × Int)) (h : Naught m) : (bases a T (m.map (·.2))).sum = (bases a T ((m.filter (·.1)).map (·.2))).sum := by
  have e := sum_naught (m.map fun x => (x.1, a * x.2 / T)) (fun x hx hf => by
    obtain ⟨y, hy, rfl⟩ := List.mem_map.mp hx
    have : y.2 = 0 := h y hy hf
    show a * y.2 / T = 0
    rw [this, Int.mul_zero, Int.zero_ediv])
  unfold bases
  simp only [List.map_map, List.filter_map] at *
  exact e
/-- the pennies of a row with noughts between -/
theorem dealt_naught (a : Int) (m : List (Bool × Int)) (h : Naught m) : ∃ m' : List (Bool × Int), m'.map (·.2) = dealt a (m.map (·.2)) ∧ m'.map (·.1) = m.map (·.1) ∧ Naught m' ∧ (m'.filter (·.1)).map (·.2) = dealt a ((m.filter (·.1)).map (·.2)) := by
  refine ⟨marked a (m.map (·.2)).sum (a - (bases a (m.map (·.2)).sum (m.map (·.2))).sum) m, marked_snd .., marked_fst .., marked_naught _ _ _ _ h, ?_⟩
  rw [marked_pick _ _ _ _ h, bases_naught _ _ _ h, sum_naught m h]
  rfl
end WdM

set_option Elab.async false
set_option linter.all false
set_option maxRecDepth 100000
set_option maxHeartbeats 4000000
namespace Wd
open PySem PySem.Spec PyProof.Rows L2 WdM
/-! ### heaps: all but some addresses stand -/
def Bt (S : List Addr) (H H' : Hp) : Prop := ∀ b o, b ∉ S → H b = some o → H' b = some o
theorem Bt.refl {S : List Addr} (H : Hp) : Bt S H H := fun _ _ _ h => h
theorem Bt.trans {S : List Addr} {H H1 H2 : Hp} (a : Bt S H H1) (b : Bt S H1 H2) : Bt S H H2 := fun c o n h => b c o n (a c o n h)
theorem Bt.of_same {S : List Addr} {H H' : Hp} (e : Same H H') : Bt S H H' := fun b o _ h => e b o h
theorem Bt.same {H H' : Hp} (e : Bt [] H H') : Same H H' := fun b o h => e b o (by simp) h
theorem Bt.wide {S T : List Addr} {H H' : Hp} (h : ∀ a ∈ S, a ∈ T) (e : Bt S H H') : Bt T H H' := fun b o n q => e b o (fun z => n (h b z)) q
theorem Bt.new {S : List Addr} {H H1 : Hp} {p : Addr} {o : HO} (e : Bt S H H1) (h : H1 p = none) : Bt S H (upd H1 p o) := fun b x n q => by
  have q1 := e b x n q
  rw [upd_ne (ne_of_none q1 h)]
  exact q1
theorem Bt.upd0 {S : List Addr} {H H1 : Hp} {p : Addr} {o : HO} (e : Bt S H H1) (h : H p = none) : Bt S H (upd H1 p o) := fun b x n q => by
  rw [upd_ne (ne_of_none q h)]
  exact e b x n q
theorem Bt.upd1 {S : List Addr} {H H1 : Hp} {p : Addr} {o : HO} (e : Bt S H H1) (h : p ∈ S) : Bt S H (upd H1 p o) := fun b x n q => by
  rw [upd_ne (fun z => n (by rw [z]; exact h))]
  exact e b x n q
theorem Bt.none {S : List Addr} {H H' : Hp} (e : Bt S H H') {p : Addr} (hS : p ∉ S) (h : H' p = none) : H p = none := by
  cases q : H p with
  | none => rfl
  | some o => rw [e p o hS q] at h; cases h
/-! ### tuples stand where lists change -/
def Tk (H H' : Hp) : Prop := ∀ a xs, Rd H a (.tup xs) → Rd H' a (.tup xs)
theorem Tk.refl (H : Hp) : Tk H H := fun _ _ h => h
theorem Tk.trans {H H1 H2 : Hp} (a : Tk H H1) (b : Tk H1 H2) : Tk H H2 := fun c xs h => b c xs (a c xs h)
theorem Tk.sq {K : PySem.W.Frag} {H H' : Hp} {a : Addr} {xs : List V} (t : Tk H H') (h : SqT K H a xs) : SqT K H' a xs := by
  rcases h with h | h
  · exact .inl (t _ _ h)
  · exact .inr h
theorem Bt.tk {S : List Addr} {H H' : Hp} (e : Bt S H H') (h : ∀ l ∈ S, ∃ zs, H l = some (.lst zs)) : Tk H H' := fun a xs r => by
  rcases r with r | ⟨o, r⟩
  · refine .inl (e a _ (fun z => ?_) r)
    obtain ⟨zs, q⟩ := h a z
    rw [q] at r; cases r
  · refine .inr ⟨o, e a _ (fun z => ?_) r⟩
    obtain ⟨zs, q⟩ := h a z
    rw [q] at r; cases r
theorem tk_same {H H' : Hp} (e : Same H H') : Tk H H' := (Bt.of_same (S := []) e).tk (fun l h => by cases h)
theorem tk_new {H : Hp} {p : Addr} {o : HO} (h : H p = none) : Tk H (upd H p o) := tk_same ((Bt.refl (S := []) H).new h).same
theorem tk_lst {H : Hp} {p : Addr} {zs : List V} {o : HO} (h : H p = some (.lst zs)) : Tk H (upd H p o) := ((Bt.refl (S := [p]) H).upd1 (by simp)).tk (fun l hl => by
  rw [List.mem_singleton.mp hl]; exact ⟨zs, h⟩)
theorem sqT {K : PySem.W.Frag} {H : Hp} {a : Addr} {xs : List V} (h : H a = some (.tup xs)) : SqT K H a xs := .inl (.inl h)
theorem sqL {K : PySem.W.Frag} {H : Hp} {a : Addr} {xs : List V} (h : H a = some (.lst xs)) : SqL K H a xs := .inl (.inl h)
theorem same_new {H : Hp} {p : Addr} {o : HO} (h : H p = none) : Same H (upd H p o) := ((Bt.refl (S := []) H).new h).same
/-! ### fractions in the heap -/
def Fr (K : PySem.W.Frag) (H : Hp) (v : V) (f : Int × Int) : Prop := ∃ a, v = .ref a ∧ SqT K H a [.int f.1, .int f.2]
def FrAll (K : PySem.W.Frag) (H : Hp) (xs : List V) (fs : List (Int × Int)) : Prop := xs.length = fs.length ∧ ∀ (i : Nat) (x : V) (f : Int × Int), xs[i]? = some x → fs[i]? = some f → Fr K H x f
def Sh (K : PySem.W.Frag) (H : Hp) (v : V) (fs : List (Int × Int)) : Prop := ∃ a xs, v = .ref a ∧ SqT K H a xs ∧ FrAll K H xs fs
theorem Fr.tk {K : PySem.W.Frag} {H H' : Hp} {v : V} {f : Int × Int} (t : Tk H H') (h : Fr K H v f) : Fr K H' v f := by
  obtain ⟨a, e, s⟩ := h
  exact ⟨a, e, t.sq s⟩
theorem FrAll.tk {K : PySem.W.Frag} {H H' : Hp} {xs : List V} {fs : List (Int × Int)} (t : Tk H H') (h : FrAll K H xs fs) : FrAll K H' xs fs := ⟨h.1, fun i x f a b => (h.2 i x f a b).tk t⟩
theorem Sh.tk {K : PySem.W.Frag} {H H' : Hp} {v : V} {fs : List (Int × Int)} (t : Tk H H') (h : Sh K H v fs) : Sh K H' v fs := by
  obtain ⟨a, xs, e, s, q⟩ := h
  exact ⟨a, xs, e, t.sq s, q.tk t⟩
theorem FrAll.nil {K : PySem.W.Frag} {H : Hp} : FrAll K H [] [] := ⟨rfl, fun i x f a _ => by simp at a⟩
theorem FrAll.append {K : PySem.W.Frag} {H : Hp} {xs ys : List V} {fs gs : List (Int × Int)} (h : FrAll K H xs fs) (h' : FrAll K H ys gs) : FrAll K H (xs ++ ys) (fs ++ gs) := by
  refine ⟨by rw [List.length_append, List.length_append, h.1, h'.1], fun i x f a b => ?_⟩
  by_cases hi : i < xs.length
  · rw [List.getElem?_append_left hi] at a
    rw [List.getElem?_append_left (by rw [← h.1]; exact hi)] at b
    exact h.2 i x f a b
  · rw [List.getElem?_append_right (by omega)] at a
    rw [List.getElem?_append_right (by rw [← h.1]; omega)] at b
    exact h'.2 (i - xs.length) x f a (by rw [h.1]; exact b)
theorem FrAll.one {K : PySem.W.Frag} {H : Hp} {x : V} {f : Int × Int} (h : Fr K H x f) : FrAll K H [x] [f] := ⟨rfl, fun i y g a b => by
  cases i with
  | zero => cases a; cases b; exact h
  | succ i => simp at a⟩
theorem FrAll.snoc {K : PySem.W.Frag} {H : Hp} {xs : List V} {fs : List (Int × Int)} {x : V} {f : Int × Int} (h : FrAll K H xs fs) (h' : Fr K H x f) : FrAll K H (xs ++ [x]) (fs ++ [f]) := h.append (.one h')
theorem FrAll.reverse {K : PySem.W.Frag} {H : Hp} {xs : List V} {fs : List (Int × Int)} (h : FrAll K H xs fs) : FrAll K H xs.reverse fs.reverse := by
  refine ⟨by rw [List.length_reverse, List.length_reverse, h.1], fun i x f a b => ?_⟩
  have hi : i < xs.length := by
    have := (List.getElem?_eq_some_iff.mp a).1
    rwa [List.length_reverse] at this
  rw [List.getElem?_reverse hi] at a
  rw [List.getElem?_reverse (by rw [← h.1]; exact hi), ← h.1] at b
  exact h.2 _ x f a b
theorem FrAll.drop {K : PySem.W.Frag} {H : Hp} {xs : List V} {fs : List (Int × Int)} (n : Nat) (h : FrAll K H xs fs) : FrAll K H (xs.drop n) (fs.drop n) := by
  refine ⟨by rw [List.length_drop, List.length_drop, h.1], fun i x f a b => ?_⟩
  rw [List.getElem?_drop] at a b
  exact h.2 _ x f a b
theorem FrAll.get {K : PySem.W.Frag} {H : Hp} {xs : List V} {fs : List (Int × Int)} {i : Nat} {x : V} (h : FrAll K H xs fs) (e : xs[i]? = some x) : ∃ f p, fs[i]? = some f ∧ x = .ref p ∧ SqT K H p [.int f.1, .int f.2] := by
  have hi : i < fs.length := by
    rw [← h.1]
    exact (List.getElem?_eq_some_iff.mp e).1
  obtain ⟨p, rfl, s⟩ := h.2 i x _ e (List.getElem?_eq_getElem hi)
  exact ⟨_, p, List.getElem?_eq_getElem hi, rfl, s⟩
/-! ### ints of lists by place -/
theorem ints_get {ns : List Int} {i : Nat} {x : V} (h : (ns.map V.int)[i]? = some x) : ∃ n, ns[i]? = some n ∧ x = .int n := by
  rw [List.getElem?_map] at h
  cases e : ns[i]? with
  | none => rw [e] at h; cases h
  | some n => rw [e] at h; exact ⟨n, rfl, (Option.some.inj h).symm⟩
theorem take_more {α : Type} {l : List α} {i : Nat} {x : α} (h : l[i]? = some x) : l.take (i + 1) = l.take i ++ [x] := by
  rw [List.take_add_one, h]
  rfl
theorem lt_get {α : Type} {l : List α} {i : Nat} {x : α} (h : l[i]? = some x) : i < l.length := (List.getElem?_eq_some_iff.mp h).1
theorem small_line {n m : Nat} (h : n ≤ m) (hm : m ≤ 1000 := by decide) : n ≤ sizeLine := Nat.le_of_lt (small1000 (Nat.le_trans h hm))
/-! ### Euclid -/
theorem gcd_step {a b : Int} (ha : 0 ≤ a) (hb : 0 ≤ b) : Int.gcd b (a % b) = Int.gcd a b := by
  obtain ⟨m, rfl⟩ := Int.eq_ofNat_of_zero_le ha
  obtain ⟨n, rfl⟩ := Int.eq_ofNat_of_zero_le hb
  show Nat.gcd n (((m : Int) % (n : Int))).natAbs = Nat.gcd m n
  rw [← Int.natCast_emod, Int.natAbs_natCast, Nat.gcd_comm n, ← Nat.gcd_rec, Nat.gcd_comm]
theorem gcd_end {a : Int} (ha : 0 ≤ a) : (Int.gcd a 0 : Int) = a := by
  rw [Int.gcd_zero_right]
  omega
theorem canLay_ints : ∀ ns : List Int, PyData.canLayAll0 (ns.map .int) = true
  | [] => by simp [PyData.canLayAll0]
  | n :: ns => by
    rw [List.map_cons]
    unfold PyData.canLayAll0
    rw [canLay_ints ns]
    simp [PyData.canLay0]
theorem depth_ints : ∀ ns : List Int, PyData.depthAll (ns.map .int) = 0
  | [] => by simp [PyData.depthAll]
  | n :: ns => by
    rw [List.map_cons]
    unfold PyData.depthAll
    rw [depth_ints ns]
    simp [PyData.depth]
theorem eqv_ints : ∀ ns : List Int, PyData.eqvAll (ns.map .int) (ns.map .int) = true
  | [] => by simp [PyData.eqvAll]
  | n :: ns => by
    rw [List.map_cons]
    unfold PyData.eqvAll
    rw [eqv_ints ns]
    simp [PyData.eqv]
theorem shT (ns : List Int) : SeqAt.shaped (.tuple (ns.map .int)) = true := by
  unfold SeqAt.shaped PyData.canLay0 PyData.depth
  rw [canLay_ints, depth_ints]
  rfl
theorem shL (ns : List Int) : SeqAt.shaped (.list (ns.map .int)) = true := by
  unfold SeqAt.shaped PyData.canLay0 PyData.depth
  rw [canLay_ints, depth_ints]
  rfl
theorem eqvT (ns : List Int) : PyData.eqv (.tuple (ns.map .int)) (.tuple (ns.map .int)) = true := by
  unfold PyData.eqv
  exact eqv_ints ns
theorem eqvL (ns : List Int) : PyData.eqv (.list (ns.map .int)) (.list (ns.map .int)) = true := by
  unfold PyData.eqv
  exact eqv_ints ns
theorem dInts {K : PySem.W.Frag} {H : Hp} : ∀ ns : List Int, DpAll K H (ns.map V.int) (ns.map PyData.int)
  | [] => .nil
  | n :: ns => .cons (.int n) (dInts ns)
theorem dT {K : PySem.W.Frag} {H : Hp} {a : Addr} {ns : List Int} (h : SqT K H a (ns.map V.int)) : Dp K H (.ref a) (.tuple (ns.map .int)) := .tup h (dInts ns)
theorem dL {K : PySem.W.Frag} {H : Hp} {a : Addr} {ns : List Int} (h : SqL K H a (ns.map V.int)) : Dp K H (.ref a) (.list (ns.map .int)) := .lst h (dInts ns)
theorem tyT {K : PySem.W.Frag} {H : Hp} {a : Addr} {xs : List V} (h : SqT K H a xs) : TyX K H (.ref a) (.type "tuple") := by
  rcases h with (h | ⟨o, h⟩) | ⟨o, its, n, e, c, _⟩
  · exact .base (.tup h)
  · exact .fTuple h
  · exact .kTuple e c
/-! ### sizes -/
theorem lcm_snoc : ∀ (fs : List (Int × Int)) (b : Int) (f : Int × Int), lcmF b (fs ++ [f]) = lcmF b fs / (Int.gcd (lcmF b fs) f.2 : Int) * f.2
  | [], b, f => rfl
  | g :: fs, b, f => lcm_snoc fs _ f
theorem gcd_pos {a b : Int} (h : 0 < b) : (0 : Int) < (Int.gcd a b : Int) := by
  have : Int.gcd a b ≠ 0 := fun z => by
    have := (Int.gcd_eq_zero_iff.mp z).2
    omega
  omega
theorem gcd_le {a b : Int} (h : 0 < b) : (Int.gcd a b : Int) ≤ b := Int.le_of_dvd h (Int.gcd_dvd_right a b)
theorem lcm_bound : ∀ (fs : List (Int × Int)) (b : Int) (m : Nat), 0 < b → b.natAbs < 2 ^ m → (∀ f ∈ fs, 0 < f.2 ∧ f.2.natAbs < 2 ^ 64) → (lcmF b fs).natAbs < 2 ^ (m + 64 * fs.length)
  | [], b, m, _, h, _ => h
  | f :: fs, b, m, hb, h, hf => by
    have ⟨f1, f2⟩ := hf f List.mem_cons_self
    have g0 := gcd_pos (a := b) f1
    have s := step_lcm hb f1
    have q : (b / (Int.gcd b f.2 : Int) * f.2).natAbs < 2 ^ (m + 64) := wide_lt (wide_le (Int.ediv_nonneg (Int.le_of_lt hb) (Int.le_of_lt g0)) (Int.ediv_le_self _ (Int.le_of_lt hb)) h) f2
    have ih := lcm_bound fs _ _ s.1 q (fun g hg => hf g (List.mem_cons_of_mem _ hg))
    rw [List.length_cons, show m + 64 * (fs.length + 1) = m + 64 + 64 * fs.length by omega]
    exact ih
theorem pow_le {a b : Nat} (h : a ≤ b) : 2 ^ a ≤ 2 ^ b := Nat.pow_le_pow_right (by decide) h
/-- shares that can be parted by -/
structure Good (fs : List (Int × Int)) : Prop where
  len0 : 1 ≤ fs.length
  len1 : fs.length ≤ 64
  each : ∀ f ∈ fs, 0 ≤ f.1 ∧ 0 < f.2 ∧ f.1.natAbs < 2 ^ 64 ∧ f.2.natAbs < 2 ^ 64 ∧ Int.gcd f.1 f.2 = 1
  some : ∃ f ∈ fs, 0 < f.1
theorem Good.pos {fs : List (Int × Int)} (g : Good fs) : ∀ f ∈ fs, 0 < f.2 := fun f hf => (g.each f hf).2.1
theorem Good.lcm {fs : List (Int × Int)} (g : Good fs) : Lcm 1 (lcmF 1 fs) fs := lcm_is fs 1 (by decide) g.pos
theorem Good.sum {fs : List (Int × Int)} (g : Good fs) : 0 < (wtsOf fs).sum ∧ ∀ w ∈ wtsOf fs, 0 ≤ w := wtsOf_sum_pos (fun f hf => ⟨(g.each f hf).1, (g.each f hf).2.1⟩) g.some
theorem Good.lcmB {fs : List (Int × Int)} (g : Good fs) : (lcmF 1 fs).natAbs < 2 ^ 4097 :=
  Nat.lt_of_lt_of_le (lcm_bound fs 1 1 (by decide) (by decide) (fun f hf => ⟨(g.each f hf).2.1, (g.each f hf).2.2.2.1⟩)) (pow_le (by have := g.len1; omega))
theorem Good.quo {fs : List (Int × Int)} (g : Good fs) : ∀ f ∈ fs, 0 ≤ lcmF 1 fs / f.2 ∧ (lcmF 1 fs / f.2).natAbs < 2 ^ 4097 := fun f hf => by
  have h0 : 0 ≤ lcmF 1 fs / f.2 := Int.ediv_nonneg (Int.le_of_lt g.lcm.pos) (Int.le_of_lt (g.pos f hf))
  exact ⟨h0, wide_le h0 (Int.ediv_le_self _ (Int.le_of_lt g.lcm.pos)) g.lcmB⟩
theorem Good.wB {fs : List (Int × Int)} (g : Good fs) : ∀ w ∈ wtsOf fs, w.natAbs < 2 ^ 4161 := fun w hw => by
  unfold wtsOf wts at hw
  obtain ⟨f, hf, rfl⟩ := List.mem_map.mp hw
  exact wide_lt (a := 64) (b := 4097) (g.each f hf).2.2.1 (g.quo f hf).2
theorem sum_abs {B : Nat} : ∀ ws : List Int, (∀ w ∈ ws, w.natAbs < B) → ws.sum.natAbs ≤ ws.length * B
  | [], _ => by simp
  | w :: ws, h => by
    have ih := sum_abs ws (fun x hx => h x (List.mem_cons_of_mem _ hx))
    have h0 := h w List.mem_cons_self
    rw [List.sum_cons, List.length_cons, Nat.add_mul, Nat.one_mul]
    have := Int.natAbs_add_le w ws.sum
    omega
theorem Good.sumB {fs : List (Int × Int)} (g : Good fs) : (wtsOf fs).sum.natAbs < 2 ^ 4168 := by
  have h := sum_abs (wtsOf fs) g.wB
  rw [wtsOf_len] at h
  have h1 := g.len1
  have h2 : fs.length * 2 ^ 4161 ≤ 64 * 2 ^ 4161 := Nat.mul_le_mul_right _ h1
  have h3 : 64 * 2 ^ 4161 < 2 ^ 4168 := by
    rw [show (4168 : Nat) = 7 + 4161 by rfl, Nat.pow_add]
    exact Nat.mul_lt_mul_of_pos_right (by decide) (Nat.pow_pos (by decide))
  exact Nat.lt_of_le_of_lt h (Nat.lt_of_le_of_lt h2 h3)
/-! ### a def of the text -/
structure Df (K : PySem.W.Frag) (mg : Str → Option Value) (name : Str) (st : Stmt) (f : Addr) (fd : FuncData) (ps : List Str) : Prop where
  fn : Fun K name name st f fd
  mg : mg name = some (.ref f)
  bd : Binds K fd ps []
end Wd

set_option Elab.async false
set_option linter.all false
set_option maxRecDepth 100000
set_option maxHeartbeats 4000000
namespace Wd
open PySem PySem.Spec PyProof.Rows L2 WdM
/-! ### an exception that was caught and is kept: tracked from then on -/
def ExT (a : Addr) (cls : Value) (d : Option Addr) : HO := .ext fun h => ∃ oe vs, h.get? a = some oe ∧ Zc cls d oe ∧ oe.data = .fields vs
theorem exT_ok {P : Program} {w : World} {H : Hp} {h : Heap} {a : Addr} {cls : Value} {d : Option Addr} {oe : Obj} {vs : Array Value} (g : h.get? a = some oe) (z : Zc cls d oe) (f : oe.data = .fields vs) : ObjOk P w H h a (ExT a cls d) :=
  ⟨⟨oe, vs, g, z, f⟩, ⟨oe, g⟩, fun _ _ ⟨oe, vs, e, r⟩ k => ⟨oe, vs, k _ e, r⟩⟩
theorem exT_at {P : Program} {w : World} {H : Hp} {h : Heap} {a : Addr} {cls : Value} {d : Option Addr} (ok : HOk P w H h) (e : H a = some (ExT a cls d)) : ∃ oe vs, h.get? a = some oe ∧ Zc cls d oe ∧ oe.data = .fields vs := by
  have x : ObjOk P w H h a (.ext fun h => ∃ oe vs, h.get? a = some oe ∧ Zc cls d oe ∧ oe.data = .fields vs) := ok a _ e
  exact x.1
section
variable {X : Cx} {pins : List (Addr × Obj)} {σ : L2.St} {H : Hp} {s : Shared}
theorem track {a : Addr} {oe : Obj} {vs : Array Value} {cls : Value} {d : Option Addr} (I : Inv X ((a, oe) :: pins) σ H s) (hx : X.ex = []) (n0 : X.s_0.heap.get? a = none) (np : ∀ p ∈ X.pn ++ pins, p.1 ≠ a) (z : Zc cls d oe) (f : oe.data = .fields vs) :
    Inv X pins σ (upd H a (ExT a cls d)) s := by
  obtain ⟨ga, na, nl, nf, nc⟩ := I.pin (a, oe) (List.mem_append_right _ List.mem_cons_self)
  have far : ∀ {b : Addr} {u : HO}, H b = some u → b ≠ a := fun {b u} e z => by rw [z, na] at e; cases e
  refine { ok := I.ok, os := I.os, bare := I.bare, loc := I.loc, cell := I.cell, len := I.len, base := ?_, free := ?_, freeC := ?_, pin := ?_, hok := ?_ }
  · exact { keep := I.base.keep, slot := I.base.slot, there := I.base.there,
            free := fun b o e n k => by
              rw [upd_ne (fun z => by rw [z, n0] at e; cases e)]
              exact I.base.free b o e n k
            tups := fun b xs e => by
              have q := I.base.tups b xs e
              rw [upd_ne (far q)]
              exact q
            frzs := fun b o u e => by
              have q := I.base.frzs b o u e
              rw [upd_ne (far q)]
              exact q
            tbls := fun b ps e => by
              obtain ⟨m, q⟩ := I.base.tbls b ps e
              exact ⟨m, by rw [upd_ne (far q)]; exact q⟩ }
  · rw [upd_ne (Ne.symm nl)]
    exact I.free
  · intro x c e
    rw [upd_ne (fun z => by
      obtain ⟨v, o, go, eo⟩ := I.cell x c e
      rw [z, ga] at go
      cases go
      exact nc _ eo)]
    exact I.freeC x c e
  · intro p hp
    obtain ⟨e1, e2, e3⟩ := I.pin p (by
      rcases List.mem_append.mp hp with h | h
      · exact List.mem_append_left _ h
      · exact List.mem_append_right _ (List.mem_cons_of_mem _ h))
    exact ⟨e1, by rw [upd_ne (np p hp)]; exact e2, e3⟩
  · intro b u e
    by_cases hb : b = a
    · subst hb
      rw [upd_same] at e
      cases e
      exact exT_ok ga z f
    · rw [upd_ne hb] at e
      exact (I.hok b u e).stay (fun _ _ _ q => q) (fun c q => by rw [upd_ne (far q)]; exact q) fun c xs q => by rw [upd_ne (far q)]; exact q
end
/-- what «except x as n» wishes, where what was caught is looked at behind the suite: all that is raised is of x, and the suite runs to its end -/
def wGot (K : PySem.W.Frag) (c : Value) (i : Nat) (ts : Addr → Value → Option Addr → TS) (D : Ends) : WX := fun cls d σ H =>
  PySem.W.exmOne K cls c = some true ∧ ∀ a, H a = none → ts a cls d { nx := fun σ' H' => D.nx (σ'.set i none) (upd H' a (ExT a cls d)), rt := fun _ _ => False, bk := fun _ _ => False, ct := fun _ _ => False } (σ.set i (some (.ref a))) H
section
variable {X : Cx} {x n : Str} {c : Value} {i : Nat} {body suite : List Stmt} {b0 : Stmt} {np pos pos' : Pos} {tb : WX → TS} {ts : Addr → Value → Option Addr → TS}
theorem ps_try_got (top : X.stack = X.env :: X.outer) (fr : X.env.frame = some X.env.locals) (hex : X.ex = []) (nd : X.N.Nodup) (hi : X.N[i]? = some n) (loc : X.env.kindOf n = some .local) (hc : Names X x c)
    (runs : ∀ (W : WX) (pn : List (Addr × Obj)) (xe : Value → Shared → Prop), Takes (X.tr pn xe) W → PassesOwn (model X.prog X.w) X.A X.env xe → PSs (X.tr pn xe) body (tb W))
    (hsu : ∀ (a : Addr) (oe : Obj) (cls : Value) (d : Option Addr) (pn : List (Addr × Obj)), Zc cls d oe → (∃ vs, oe.data = .fields vs) → PSs (X.suite a ((a, oe) :: pn)) (b0 :: suite) (ts a cls d)) :
    PS X (.Try body [.ExceptHandler (some (.Name x np)) (some n) (b0 :: suite) pos'] [] [] pos) (fun D σ H => tb (wGot X.K c i ts D) D σ H) where
  run := by
    intro pins s σ H D I h
    have ok := I.ok
    have frames : X.A.frames = some (X.env :: X.outer) := by rw [ok.frames, top]
    refine wpAny_Try_except (wpAny_mono ((runs (wGot X.K c i ts D) (X.pn ++ pins) (fun e s₁ => wpAny (model X.prog X.w) X.A (noteFrame e X.env) (fun _ s₂ => wpAny (model X.prog X.w) X.A (setFlight e none) (fun _ s₃ =>
      wpAny (model X.prog X.w) X.A (handleBy e X.env [.ExceptHandler (some (.Name x np)) (some n) (b0 :: suite) pos']) (SP X pins D) X.xe s₃) X.xe s₂) X.xe s₁) ?_ PassesOwn.looking).run [] s σ H D (I.toTry _) h) ?_ (fun e s1 he => he))
    · rintro _ s' ⟨a, B, sI, pins', σ', H', cls, d, rfl, J0, nb, up, sky, na, os, ag, is, go⟩
      have J : Inv X pins σ' H' sI := J0.ofTry ok
      show wpAny (model X.prog X.w) X.A (noteFrame (Value.ref a) X.env) _ _ _
      refine Sky.land Zc.steady frames fr (top ▸ sky) fun h3 fl3 up3 => ?_
      have J3 : Inv X pins σ' H' { s' with heap := h3 } := Inv.landed J nb fl3.1 (up.trans up3) os ag
      obtain ⟨oe3, vs3, g3, z3, d3⟩ := fl3.there
      have gone : B.get? a = none := fl3.2.1
      have out : a ∉ frs (X.env :: X.outer) := fun m => by
        obtain ⟨_, o, e, no⟩ := fl3.2.2.1.mem m
        rw [g3] at e
        cases e
        exact no _ d3
      have nL : a ≠ X.env.locals := fun z => out (List.mem_filterMap.mpr ⟨X.env, List.mem_cons_self, by rw [fr, z]⟩)
      have nF : a ∉ X.fs := fun m => by
        obtain ⟨e, he, q⟩ := List.mem_filterMap.mp m
        exact out (List.mem_filterMap.mpr ⟨e, List.mem_cons_of_mem _ he, q⟩)
      have fresh : ∀ b o, sI.heap.get? b = some o → b ∉ frs X.stack → b ≠ a := fun b o e m z => by
        have q := nb b o e m
        rw [z, gone] at q
        cases q
      have n0 : X.s_0.heap.get? a = Option.none := by
        cases e : Heap.get? X.s_0.heap a with
        | none => rfl
        | some o =>
          obtain ⟨o', e'⟩ := J.base.there a o e (by rw [hex]; exact fun z => nomatch z)
          exact absurd rfl (fresh a o' e' (by rw [top]; exact out))
      have npin : ∀ p ∈ X.pn ++ pins, p.1 ≠ a := fun p hp => by
        obtain ⟨e1, _, e3, e4, _⟩ := J.pin p hp
        refine fresh p.1 p.2 e1 (fun m => ?_)
        rw [top] at m
        obtain ⟨e, he, q⟩ := List.mem_filterMap.mp m
        rcases List.mem_cons.mp he with rfl | he
        · rw [fr] at q
          exact e3 (Option.some.inj q).symm
        · exact e4 (List.mem_filterMap.mpr ⟨e, he, q⟩)
      have S3 := J3.suite g3 d3 na nL nF
      refine wpAny_handleBy_cons (codeAny_handlers_test ?_) (fun z => by cases z)
      have isCls : PySem.W.Looks (model X.prog X.w) h3 (typeOf (.ref a)) cls := fun A Q E s k q => wpAny_typeOf_ref (k _ _ g3) (by rw [z3.1]; exact q)
      have matches_ := PySem.W.exm_one (M := model X.prog X.w) J3.kIn isCls is
      have named : ∀ {Q : Value → Shared → Prop} {E : Value → Shared → Prop}, Q c { s' with heap := h3 } → wpAny (model X.prog X.w) (X.A.mark (some (.ref a))) (eval (.Name x np) X.env) Q E { s' with heap := h3 } := fun {Q E} q => by
        rcases hc with ⟨gl, nb2, own | ⟨no, blt, nn⟩⟩
        · exact ld_glob (X := X.suite a ((a, oe3) :: (X.pn ++ pins))) S3 gl own q nb2
        · exact ld_blt (X := X.suite a ((a, oe3) :: (X.pn ++ pins))) S3 gl no blt q nn nb2
      refine named (matches_.here (codeAny_handlers_suite_as (HandSPX.lands_againZ fl3 fun h4 fl4 up4 => ?_)))
      have J4 : Inv X pins σ' H' { s' with heap := h4 } := Inv.landed J nb fl4.1 ((up.trans up3).trans up4) os ag
      obtain ⟨oe4, vs4, g4, z4, d4⟩ := fl4.there
      refine store_ok (X := X.suite a ((a, oe4) :: (X.pn ++ pins))) (v := .ref a) (J4.suite g4 d4 na nL nF) nd hi (.inl loc) rfl (fun s5 S5 => ?_) (.inr loc)
      refine wpAny_mono ((hsu a oe4 cls d (X.pn ++ pins) z4 ⟨_, d4⟩).run [] s5 _ H' _ S5 (go a na)) (fun f s6 ends => ?_) (fun _ _ z => False.elim z)
      cases f with
      | next =>
        obtain ⟨σ6, H6, S6, q6⟩ := ends
        have K6 : Inv X ((a, oe4) :: pins) σ6 H6 s6 := { ok := ok, os := S6.os, bare := S6.bare, base := S6.base, loc := S6.loc, cell := S6.cell, free := S6.free, freeC := S6.freeC, hok := S6.hok, len := S6.len, pin := fun p hp => S6.pin p (by
          rw [List.append_nil]
          rcases List.mem_append.mp hp with h | h
          · exact List.mem_cons_of_mem _ (List.mem_append_left _ h)
          · rcases List.mem_cons.mp h with rfl | h
            · exact List.mem_cons_self
            · exact List.mem_cons_of_mem _ (List.mem_append_right _ h)) }
        exact gone_ok K6 nd hi loc fun s7 K7 => ⟨_, _, track K7 hex n0 npin z4 d4, q6⟩
      | brk => exact ends.elim fun _ e => e.elim fun _ e => e.2.elim
      | cont => exact ends.elim fun _ e => e.elim fun _ e => e.2.elim
      | ret u => exact ends.elim fun _ e => e.elim fun _ e => e.elim fun _ e => e.2.2.elim
    · intro f s1 ends
      cases f with
      | next => exact ends.elim fun σ' e => e.elim fun H' e => wpAny_execs_nil ⟨σ', H', e.1.ofTry ok, e.2⟩
      | brk => exact ends.elim fun σ' e => e.elim fun H' e => ⟨σ', H', e.1.ofTry ok, e.2⟩
      | cont => exact ends.elim fun σ' e => e.elim fun H' e => ⟨σ', H', e.1.ofTry ok, e.2⟩
      | ret u => exact ends.elim fun v e => e.elim fun σ' e => e.elim fun H' e => ⟨v, σ', H', e.1.ofTry ok, e.2⟩
end
/-! ### what is asked of a kept error -/
/-- isinstance(e, c) -/
def rIsT (K : PySem.W.Frag) : List V → Hp → VK → Prop := fun xs H Q => ∃ (a D : Addr) (d : Option Addr) (c : V) (cv : Value) (b : Bool), xs = [.ref a, c] ∧ H a = some (ExT a (.ref D) d) ∧ (∀ dx, d = some dx → ∃ fs, H dx = some (.xd fs)) ∧ ExcC K D ∧ ClsV c cv ∧ PySem.W.kitOne K (.ref D) cv = some b ∧ Q (.bl b) H
theorem instT {P : Program} {w : World} {H : Hp} {h : Heap} {a D : Addr} {d : Option Addr} (ok : HOk P w H h) (e : H a = some (ExT a (.ref D) d)) (xd : ∀ dx, d = some dx → ∃ fs, H dx = some (.xd fs)) : ∃ oe od, PySem.W.InstAt h a oe D od := by
  obtain ⟨oe, vs, g, ⟨z1, z2⟩, f⟩ := exT_at ok e
  cases d with
  | none => exact ⟨oe, none, g, z1, by unfold PySem.W.notCls; rw [f], by rw [z2]; trivial⟩
  | some dx =>
    obtain ⟨fs, ed⟩ := xd dx rfl
    have at_ : ObjOk P w H h dx (.xd fs) := ok dx _ ed
    obtain ⟨m, ns, _⟩ := at_
    obtain ⟨od, ho, _⟩ := lookIn_ns ns
    exact ⟨oe, some od, g, z1, by unfold PySem.W.notCls; rw [f], by rw [z2]; exact ho⟩
theorem call_isT {X : Cx} : CallR X (.builtin "isinstance") (rIsT X.K) := by
  rintro pins s σ H _ us Q I rel ⟨a, D, d, c, cv, b, rfl, e, xd, C, cls, ans, want⟩
  obtain ⟨u1, u2, rfl, r1, r2⟩ := vals2 rel
  cases r1
  obtain rfl := cls.eq r2
  obtain ⟨oe, od, J⟩ := instT I.hok e xd
  have some_ : (PySem.W.clsIn X.K D).isSome = true := by
    obtain ⟨cd, hc, _⟩ := PySem.W.any_some C.hd
    rw [hc]
    rfl
  exact PySem.W.kia_one (PySem.W.kitx_exc some_ C.hg C.hk C.hs C.ha C.hn C.ht C.hm) I.kIn J ans (fun z => nomatch z) fun tk => ⟨.bl b, H, I.tok tk, rfl, want⟩
/-- e.n -/
def tXt (K : PySem.W.Frag) (n : Str) (te : TE) : TE := fun σ H Q => te σ H fun x H1 => ∃ (a C dd : Addr) (fs : List (Str × V)) (v : V), x = .ref a ∧ H1 a = some (ExT a (.ref C) (some dd)) ∧ XfC K C ∧ PySem.W.findIn K (.ref C) n = some none ∧ H1 dd = some (.xd fs) ∧ fs.lookup n = some v ∧ Q v H1
theorem pe_xt {X : Cx} {e : Expr} {te : TE} {pos : Pos} {n : Str} (he : PE X e te) (plain : attributeBase e n X.env (eval e X.env) = eval e X.env := by rfl) : PE X (.Attribute e n pos) (tXt X.K n te) where
  run := by
    intro pins s σ H Q I h
    refine attr_of plain (thn (he.run pins s σ H _ I h) ?_)
    rintro _ s1 ⟨_, H1, I1, rel, a, C, dd, fs, v, rfl, e1, T, no, e2, has, want⟩
    cases rel
    obtain ⟨oe, vs, g, ⟨z1, z2⟩, f⟩ := exT_at I1.hok e1
    have at_ : ObjOk X.prog X.w H1 s1.heap dd (.xd fs) := I1.hok dd _ e2
    obtain ⟨m, ns, rels⟩ := at_
    obtain ⟨od, ho, hl⟩ := lookIn_ns ns
    obtain ⟨u, hu, ru⟩ := RelO.some_of (v := v) (o := m n) (has ▸ rels n)
    have J : PySem.W.InstAt s1.heap a oe C (some od) := ⟨g, z1, by unfold PySem.W.notCls; rw [f], by rw [z2]; exact ho⟩
    exact HandSPX.exc_get I1.kIn J T.ga T.gg T.exC (PySem.W.findObj_own T.hdC no rfl (by rw [hl, hu])) (handed_of ru) ⟨v, H1, I1.tok _, ru, want⟩
/-- X(), an own error without an __init__ of its own -/
theorem pmk_own0 {X : Cx} {C : Addr} {bmB : List Value} {B newId initId : String} {x : Str} {p pos : Pos} (F : ExcBaseFacts B newId initId bmB) (q : PySem.W.excIn X.K C bmB newId = true) (is : X.mg x = some (.ref C)) (kp : PySem.W.keepIn X.K (.ref C) = true) (r : Raises X (.ref C)) (glob : Gl X x)
    (nodebug : (x == ("__debug__" : Str)) = false := by decide) : PMk X (.Call (.Name x p) [] [] pos) (fun _ H Q => Q (.ref C) none H) := by
  intro pins s σ H Q I want
  refine wpAny_Call_Name_kw (ld_glob I glob is ?_ nodebug)
  refine PySem.W.callWith_KW0 (kws := []) (h₀ := X.base) I.ok.mod.kin kp rfl (wpAny_pure ⟨I.kIn, ?_⟩) rfl
  obtain ⟨bm, N, nm, qn, bs, hdct, sn, sub, ab, col, dd, k0, k1, k2, k3, k5, mN, hC, hN, hni, T⟩ := exc_obj I.kIn q
  exact wpAny_call_exc_subT F T hC hN hni (fun h' e made => mk_of I made r want (I.hok.gone made.new)) (Nat.zero_le _)
/-! ### how often a flat value stands in a list -/
def rCnt (K : PySem.W.Frag) : V → List V → Hp → VK → Prop := fun x xs H Q => ∃ p ys y, x = .ref p ∧ xs = [y] ∧ SqL K H p ys ∧ flatV y = true ∧ ys.all flatV = true ∧ Q (.int (ys.countP (fun z => eqV z y) : Nat)) H
theorem count_eqU {y : V} : ∀ {ys : List V} {us : List Value}, Vals ys us → ys.all flatV = true → us.countP (eqU y) = ys.countP fun z => eqV z y
  | _, _, .nil, _ => rfl
  | z :: ys, u :: us, .cons r t, f => by
    simp only [List.all_cons, Bool.and_eq_true] at f
    simp only [List.countP_cons, eqU_of r f.1, count_eqU t f.2]
theorem mt_cnt {X : Cx} : MtR X "list.count" (rCnt X.K) := by
  rintro pins s σ H _ _ v us Q I rx rxs ⟨p, ys, y, rfl, rfl, hs, fy, fys, want⟩
  cases rx
  obtain ⟨u, rfl, ru⟩ := rxs.one
  obtain ⟨its, vals, ⟨⟨cls, dd, data, sl⟩, n, ho, hc, hdn, hd⟩, small⟩ := I.list hs
  dsimp only at hc hd
  subst hc hd
  refine call_meets PySem.F.slot_list_count ⟨_, ho, rfl⟩ PySem.F.entry_list_count (PySem.F.args_list_count_2 _ _) (SeqAt.list_countAt p its.toArray n dd sl u (eqU y)) ⟨ho, fun z hz => mem_eqAt ru fy vals fys z (by simpa using hz), ?_⟩
  refine ⟨.int (ys.countP (fun z => eqV z y) : Nat), H, I.tok _, ⟨s.toks, ?_⟩, want⟩
  rw [← count_eqU vals fys]
/-! ### repr of data -/
inductive Seen (K : PySem.W.Frag) (H : Hp) : V → PyData → Prop
  | dp {x : V} {d : PyData} (h : Dp K H x d) (nd : d.hasDict = false) : Seen K H x d
  | nod {a : Addr} (h : H a = some (.dK [])) : Seen K H (.ref a) (.dict [])
def rRepr (K : PySem.W.Frag) : List V → Hp → VK → Prop := fun xs H Q => ∃ x d, xs = [x] ∧ Seen K H x d ∧ PyData.showable d = true ∧ d.depth ≤ 8 ∧ d.shown.length ≤ sizeLine ∧ Q (.str d.shown) H
theorem reads_nod {P : Program} {w : World} {H : Hp} {h : Heap} {a : Addr} (ok : HOk P w H h) (e : H a = some (.dK [])) : Reads h (.ref a) (.dict []) [a] ∧ sysModules ∉ [a] := by
  have at_ : ObjOk P w H h a (.dK []) := ok a _ e
  obtain ⟨_, ns, vs, kv, o, es, ep, g, ex, d, _, el, _⟩ := at_
  cases kv
  have z : es.toList = [] := List.eq_nil_of_length_eq_zero el.length
  have r0 : ReadsAll h (es.toList.map (·.key)) (([] : List (PyData × PyData)).map (·.1)) [] := by rw [z]; exact .nil
  have r1 : ReadsAll h (es.toList.map (·.val)) (([] : List (PyData × PyData)).map (·.2)) [] := by rw [z]; exact .nil
  exact ⟨.dict g ex.1 d r0 r1, fun m => by rw [List.mem_singleton.mp m] at ns; simp at ns⟩
theorem call_reprD {X : Cx} (gs : X.A.guards = some []) (hu : X.A.units + 64 < cLine) : CallR X (.builtin "repr") (rRepr X.K) := by
  rintro pins s σ H _ us Q I rel ⟨x, d, rfl, seen, sh, dep, len, want⟩
  cases rel with
  | cons ru rn =>
    cases rn
    rename_i u
    have boxed : ∀ (a : Addr) (as : List Addr), Reads s.heap (.ref a) d as → (d.hasDict = true → sysModules ∉ as) → wpAny (model X.prog X.w) X.A (call (.builtin "repr") [.ref a]) (EP X pins σ Q) X.xe s := fun a as r sm =>
      repr_of_reads' r sh sm gs (by omega) (fun _ _ e => e) (fun h' _ tk same => ⟨.str d.shown, H, I.kept (t' := tk) same, ⟨_, rfl⟩, want⟩) len
    cases seen with
    | nod h =>
      cases ru
      obtain ⟨r, n⟩ := reads_nod I.hok h
      exact boxed _ _ r fun _ => n
    | dp h nd =>
      obtain ⟨as, r⟩ := Dp.reads I d _ u h ru
      have no : d.hasDict = true → sysModules ∉ as := fun z => by rw [nd] at z; cases z
      have fin : ∀ {z : Str} {t k : Tok}, z = d.shown → EP X pins σ Q (.str z t) { s with toks := k } := fun {z t k} e => ⟨.str z, H, I.tok k, ⟨_, rfl⟩, e ▸ want⟩
      cases h with
      | non => cases ru; exact PySem.P.repr_of_none (fin (by simp [PyData.shown]))
      | bl b => cases ru; exact PySem.P.repr_of_bool (fin (by simp [PyData.shown]))
      | int i =>
        obtain ⟨t, rfl⟩ := ru
        exact PySem.P.repr_of_int (by simpa [PyData.showable] using sh) (fin (by simp [PyData.shown]))
      | str z =>
        obtain ⟨t, rfl⟩ := ru
        exact PySem.P.repr_of_str (fin (by simp [PyData.shown])) (by simpa [PyData.shown] using len)
      | lst _ _ => cases ru; exact boxed _ _ r no
      | tup _ _ => cases ru; exact boxed _ _ r no
end Wd

set_option Elab.async false
set_option linter.all false
set_option maxRecDepth 100000
set_option maxHeartbeats 4000000
namespace Wd
open PySem PySem.Spec PyProof.Rows L2 WdM
/-! ### defs whose promise wants that no repr is under way around the call -/
structure FnG (P : Program) (w : World) (K : PySem.W.Frag) (mg : Str → Option Value) (base : Heap) (k : Nat) (f : Addr) (fd : FuncData) (ps : List Str) (sp : Sp) : Prop where
  len : ∀ vs H Q E, sp vs H Q E → vs.length = ps.length
  run : ∀ (A : Around) (outer : List Env) (s : Shared) (H : Hp) (args : Args) (us : List Value) (vs : List V) (Q : VK) (E : XK), A.guards = some [] → Room k A → Env0 P w K mg base A outer s H → BindsTo s fd args (ps.zip us) → Vals vs us → sp vs H Q E →
    codeAny (model P w) A (.call (.ref f) args) (CR CX0 outer P w H s Q E) s
section
variable {P : Program} {w : World} {K : PySem.W.Frag} {mg : Str → Option Value} {base : Heap}
theorem okG {x qual : Str} {st : Stmt} {f : Addr} {fd : FuncData} {N ps : List Str} {k : Nat} {sp : Sp} (F : Fun K x qual st f fd) (S : FnScope N ps (defScope st)) (len : ∀ vs H Q E, sp vs H Q E → vs.length = ps.length)
    (body : ∀ (cdv : Value) (A : Around) (outer : List Env) (s : Shared) (H : Hp) (vs : List V) (Q : VK) (E : XK), A.guards = some [] → Room k (A.deeper (envOfC qual (defScope st) s.heap.objs.size f cdv)) → sp vs H Q E →
      ∃ t, PSs (cxOf CX0 P w K mg base N qual (defScope st) f cdv A outer s H E).nox (defBody st) t ∧ t { nx := fun _ H' => Q .non H', rt := Q } (start N vs) H) : FnG P w K mg base (k + 1) f fd ps sp where
  len := len
  run := by
    intro A outer s H args us vs Q E gs room e0 binds rel want
    obtain ⟨oc, od, kV, doc, pm, an, cdv, ct, osl, rfl, at_, code⟩ := F.ex
    have kin : K.In s.heap := e0.mod.kin.keeps fun b o e => (e0.bs b o e).1
    have kinds : ∀ y ∈ ps.zip us, (defScope st).names.lookup y.1 = some .local ∨ ((defScope st).names.lookup y.1 = some .cell ∧ ((cellsFrom (s.heap.objs.size + 1) (defScope st).names []).lookup y.1).isSome = true) := by
      rintro ⟨n, v⟩ hy
      exact (S.par n (List.of_mem_zip hy).1).imp id fun q => ⟨q, PySem.W.cellsFrom_some _ _ _ (.inl q)⟩
    refine codeAny_call_function room.depth (kin _ _ at_) rfl S.co S.gen rfl (PySem.W.codeRec_of kin code) (binds _ _ _ _ (wpAny_newFunctionEnv_cells S.kind kinds ?_))
    rintro env rfl s1 inside
    refine ⟨(e0.mod.nolimit.keeps fun b o e => (e0.bs b o e).1).keeps inside.toInCall.keep, codeAny_func ?_⟩
    obtain ⟨t, ht, good⟩ := body cdv A outer s H vs Q E gs (room.deeper _) want
    refine wpAny_mono (ht.nox.run [] s1 (start N vs) H _ (inv_start S room.hd e0 (len _ _ _ _ want) rel inside) good) (fun fl s' ends => ?_) fun _ _ z => z
    cases fl with
    | ret u => exact ends.elim fun v e => e.elim fun σ' e => e.elim fun H' ⟨J, rv, q⟩ => ⟨v, H', J.os, J.bare, J.base, J.hok, rv, q⟩
    | next => exact ends.elim fun σ' e => e.elim fun H' ⟨J, q⟩ => ⟨.non, H', J.os, J.bare, J.base, J.hok, rfl, q⟩
    | brk => exact ends.elim fun _ e => e.elim fun _ e => e.2.elim
    | cont => exact ends.elim fun _ e => e.elim fun _ e => e.2.elim
end
section
variable {X : Cx} {k : Nat} {f : Addr} {fd : FuncData} {ps : List Str} {sp : Sp} {x : Str} {p pos : Pos} {e : Expr} {es : List Expr} {t : TA}
theorem pe_callG (F : FnG X.prog X.w X.K X.mg X.base k f fd ps sp) (gs : X.A.guards = some []) (room : Room k X.A) (glob : Gl X x) (is : X.mg x = some (.ref f)) (kp : PySem.W.keepIn X.K (.ref f) = true) (bd : Binds X.K fd ps []) (args : PA X (e :: es) t)
    (nodebug : (x == ("__debug__" : Str)) = false := by decide) (star : starEach (e :: es) X.env = (false, eval e X.env) :: starEach es X.env := by rfl) (plain : (backTo pos (starEach es X.env)).any (·.1) = false := by rfl) :
    PE X (.Call (.Name x p) (e :: es) [] pos) (tCall sp [] E0 t) where
  run := by
    intro pins s σ H Q I h
    refine wpAny_Call_Name_kw (ld_glob I glob is (PySem.W.callWith_K (h₀ := X.base) I.ok.mod.kin kp (thn (args.run pos pins s σ H _ I h) ?_) star plain) nodebug)
    rintro us s1 ⟨vs, H1, I1, rel, want⟩
    have rel2 : Vals (vs ++ []) (us ++ []) := rel.append .nil
    refine ⟨I1.kIn, wpAny_call (codeAny_mono (F.run X.A X.stack s1 H1 ⟨us, []⟩ (us ++ []) (vs ++ []) Q E0 gs room I1.env0 (bd s1 us I1.kIn (by rw [← rel2.length]; exact F.len _ _ _ _ want)) rel2 want) fun r s' res => ?_)⟩
    cases r with
    | error er => exact False.elim res
    | ok fl =>
      cases fl with
      | ret u => exact I1.after res
      | next => exact False.elim res
      | brk => exact False.elim res
      | cont => exact False.elim res
end
/-! ### the law's own call -/
theorem law_callG {P : Program} {w : World} {K : PySem.W.Frag} {mg mb : Str → Option Value} {k : Nat} {fa a : Addr} {fd : FuncData} {x : Str} {sp : Sp} {s1 : Shared} {vs : List Value} {ns : List Int}
    (kin : K.In s1.heap) (globs : s1.heap.Ns mainGlobals mg) (blts : s1.heap.Ns builtinsNs mb) (boot : ∀ x : Str, x ≠ "__name__" → mb x = bootBuiltins x) (lim : s1.heap.NoLimit) (nogens : s1.gens = #[])
    (at_ : s1.heap.get? a = some { cls := .type "list", data := .seq vs.toArray }) (its : IntsAre vs ns) (small : ns.length ≤ sizeLine) (room : Room k callerA)
    (F : ∀ base : Heap, K.In base → base.Ns mainGlobals mg → FnG P w K mg base k fa fd [x] sp) (binds : ∀ (s : Shared) (u : Value), BindsTo s fd ⟨[u], []⟩ [(x, u)])
    (good : ∀ H : Hp, SqL K H a (ns.map V.int) → sp [.ref a] H (fun v _ => v = .bl true) fun _ _ _ => False) :
    codeAny (model P w) callerA (.call (.ref fa) ⟨[.ref a], []⟩) (fun r s' => r = .ok (.ret (.bool true)) ∧ OldK s1.heap s'.heap ∧ s'.os = s1.os ∧ AllBare s'.gens) s1 := by
  have go : ∀ H : Hp, (∀ b, H b = none ∨ (b = a ∧ K.lookup a = none ∧ ∃ o u, H b = some (.frz o u))) → SqL K H a (ns.map V.int) → HOk P w H s1.heap →
      codeAny (model P w) callerA (.call (.ref fa) ⟨[.ref a], []⟩) (fun r s' => r = .ok (.ret (.bool true)) ∧ OldK s1.heap s'.heap ∧ s'.os = s1.os ∧ AllBare s'.gens) s1 := by
    intro H only hS hok
    have free : ∀ b o, K.lookup b = some o → H b = none := fun b o e => by
      rcases only b with z | ⟨rfl, z, _⟩
      · exact z
      · rw [z] at e; cases e
    have dicts : ∀ {b : Addr} {m : Str → Option Value}, s1.heap.Ns b m → (hidT s1.heap H).Ns b m := by
      rintro b m ⟨o, es, ep, g, d, r⟩
      refine ⟨o, es, ep, hidT_get g ?_, d, r⟩
      rcases only b with z | ⟨rfl, _, _⟩
      · exact z
      · rw [at_] at g
        cases g
        exact absurd (show Data.seq vs.toArray _ = Data.dict es ep from d) (fun z => by cases z)
    have kb : K.In (hidT s1.heap H) := fun b o e => hidT_get (kin b o e) (free b o e)
    obtain ⟨mc, l1, l2⟩ := lim
    have md : Mod K mg (hidT s1.heap H) := ⟨kb, dicts globs, ⟨mb, dicts blts, boot⟩, mc, dicts l1, l2⟩
    have e0 : Env0 P w K mg (hidT s1.heap H) callerA [] s1 H := ⟨rfl, md, fun b o e => of_hidT e, Nat.le_of_eq (hidT_size _ _), trivial, fun b hb => (by cases hb), hok, .of_eq nogens⟩
    refine codeAny_mono ((F _ kb (dicts globs)).run callerA [] s1 H ⟨[.ref a], []⟩ [.ref a] [.ref a] _ _ rfl room e0 (binds s1 (.ref a)) (.cons rfl .nil) (good H hS)) fun r s' res => ?_
    cases r with
    | error er => exact False.elim res
    | ok fl =>
      cases fl with
      | next => exact False.elim res
      | brk => exact False.elim res
      | cont => exact False.elim res
      | ret u =>
        obtain ⟨v, H', os, bare, un, hok', rv, rfl⟩ := res
        obtain rfl : u = Value.bool true := rv
        refine ⟨rfl, .of_keep fun b o e => ?_, os, bare⟩
        rcases only b with z | ⟨rfl, _, ob, u, z⟩
        · exact un.keep b o e z (fun m => by cases m) (fun m => by cases m)
        · have was := (hok _ _ z).1
          rw [e] at was
          cases was
          exact (hok' _ _ (un.frzs _ _ _ z)).1
  cases own : K.lookup a with
  | some o =>
    have e := kin a o own
    rw [at_] at e
    cases e
    exact go (fun _ => none) (fun _ => .inl rfl) (.inr ⟨_, vs.toArray, _, own, rfl, rfl, rfl, by rw [List.size_toArray, its.length]; exact small, by simpa using vals_ints its⟩) fun b u z => by cases z
  | none =>
    refine go (fun b => if b = a then some (.frz { cls := .type "list", data := .seq vs.toArray } (.lst (ns.map V.int))) else none) (fun b => ?_) (.inl (.inr ⟨_, if_pos rfl⟩)) (fun b u z => ?_)
    · by_cases hb : b = a
      · exact .inr ⟨hb, own, _, _, if_pos hb⟩
      · exact .inl (if_neg hb)
    · by_cases hb : b = a
      · subst hb
        cases (if_pos rfl).symm.trans z
        exact ⟨at_, by rw [List.length_map]; exact small, vs, _, vals_ints its, at_⟩
      · cases (if_neg hb).symm.trans z
theorem walk_G {l : PySem.W.OpenLaw} {n k : Nat} {q : Program} {loose : List Str} {XP : (Str → Option Value) → Heap → Prop} {YP : World → Heap → Prop} {d : DefRec} {K : Params → PySem.W.Frag} {sp : World → Sp} {x : Str}
    (most : l.most = some n) (small : n ≤ sizeLine) (plain : d.params.defaults = []) (room : Room k callerA) (hY : ∀ (w : World) (h : Heap), YP w h → (K w.params).In h)
    (F : ∀ (w : World) (mg : Str → Option Value) (fa : Addr) (h : Heap), (K w.params).In h → h.Ns mainGlobals mg → mg d.name = some (.ref fa) → ∃ fd : FuncData, (∀ (s : Shared) (u : Value), BindsTo s fd ⟨[u], []⟩ [(x, u)]) ∧ ∀ base : Heap, (K w.params).In base → base.Ns mainGlobals mg → FnG l.prog w (K w.params) mg base k fa fd [x] (sp w))
    (good : ∀ (w : World) (H : Hp) (a : Addr) (ns : List Int), ns.length ≤ n → SqL (K w.params) H a (ns.map V.int) → sp w [.ref a] H (fun v _ => v = .bl true) fun _ _ _ => False) :
    PySem.W.WalkO q loose XP YP l.row.toRowW d [] (fun f vs => PySem.call f vs) := by
  refine Att.attach_call most plain fun w s0 s1 mg mb fa o pm cd doc a vs ns G Y _ _ _ is at_ its len gens => ?_
  obtain ⟨fd, binds, promise⟩ := F w mg fa _ (hY w _ Y) G.T.g is
  exact law_callG (hY w _ Y) G.T.g G.T.b G.T.builtins G.T.nolimit gens at_ its (Nat.le_trans len small) room promise binds fun H hS => good w H a ns len hS
end Wd

set_option Elab.async false
set_option linter.all false
set_option maxRecDepth 100000
set_option maxHeartbeats 4000000
set_option exponentiation.threshold 5000
namespace Wd2
open PySem PySem.Spec PyProof.Rows L2 WdM Wd
def topS (i : Nat) : Stmt := PySem.Challenge.pw_willdealt_k02_pennies_by_shares.main.body.getD i (.Pass ⟨0, 0, 0, 0⟩)
abbrev sWhole : Stmt := topS 28
abbrev sCm : Stmt := topS 29
abbrev sFrac : Stmt := topS 30
abbrev sAre : Stmt := topS 31
abbrev sWts : Stmt := topS 32
abbrev sParted : Stmt := topS 33
abbrev sNoSum : Stmt := topS 5
abbrev sInit : Stmt := inClass sNoSum 0
theorem scWhole : FnScope ["thing"] ["thing"] (defScope sWhole) := ⟨rfl, rfl, rfl, by decide +kernel, rfl, by decide +kernel, by decide +kernel⟩
theorem scCm : FnScope ["one", "other"] ["one", "other"] (defScope sCm) := ⟨rfl, rfl, rfl, by decide +kernel, rfl, by decide +kernel, by decide +kernel⟩
theorem scFrac : FnScope ["thing", "top", "bottom"] ["thing"] (defScope sFrac) := ⟨rfl, rfl, rfl, by decide +kernel, rfl, by decide +kernel, by decide +kernel⟩
theorem scAre : FnScope ["thing", "share"] ["thing"] (defScope sAre) := ⟨rfl, rfl, rfl, by decide +kernel, rfl, by decide +kernel, by decide +kernel⟩
theorem scWts : FnScope ["shares", "bottom", "share"] ["shares"] (defScope sWts) := ⟨rfl, rfl, rfl, by decide +kernel, rfl, by decide +kernel, by decide +kernel⟩
theorem scParted : FnScope ["amount", "shares", "weights", "together", "weight", "pennies", "lacking", "at"] ["amount", "shares"] (defScope sParted) := ⟨rfl, rfl, rfl, by decide +kernel, rfl, by decide +kernel, by decide +kernel⟩
theorem tyes {σ : L2.St} {H : Hp} {f : Bool → Hp → Prop} (h : f true H) : tYes σ H f := h
/-- the built-ins' names that the top leaves alone -/
theorem scInit : FnScope ["self", "thing"] ["self", "thing"] (defScope sInit) := ⟨rfl, rfl, rfl, by decide +kernel, rfl, by decide +kernel, by decide +kernel⟩
structure Bl (mg : Str → Option Value) : Prop where
  isi : mg "isinstance" = none
  int : mg "int" = none
  bool : mg "bool" = none
  tuple : mg "tuple" = none
  len : mg "len" = none
  abs : mg "abs" = none
  all : mg "all" = none
  any : mg "any" = none
  sum : mg "sum" = none
  enum : mg "enumerate" = none
section
variable {P : Program} {w : World} {K : PySem.W.Frag} {mg : Str → Option Value} {base : Heap}
def spWhole (K : PySem.W.Frag) : Sp := fun vs H Q _ => ∃ (x : V) (t : Value) (b1 b2 : Bool), vs = [x] ∧ TyX K H x t ∧ PySem.W.kitOne K t (.type "int") = some b1 ∧ PySem.W.kitOne K t (.type "bool") = some b2 ∧ Q (.bl (b1 && !b2)) H
theorem ok_whole {f : Addr} {fd : FuncData} {k : Nat} (B : Bl mg) (D : Df K mg "is_whole" sWhole f fd ["thing"]) : FnOk P w K mg base CX0 (k + 1) f fd ["thing"] (spWhole K) := by
  refine D.fn.ok scWhole (fun vs H Q E h => ?_) (fun cdv A outer s H vs Q E hr h => ?_)
  · obtain ⟨x, t, b1, b2, rfl, _⟩ := h
    rfl
  · obtain ⟨x, t, b1, b2, rfl, ty, k1, k2, q⟩ := h
    refine ⟨_, pss_one (ps_ret (pe_and (pe_callB call_isi (by rfl) B.isi boot_isinstance (pa_cons (pv 0) (pa_cons (pe_bltn (v := .ty "int") (by rfl) B.int boot_int rfl) pa_nil)))
      (pe_one (pe_not (pe_callB call_isi (by rfl) B.isi boot_isinstance (pa_cons (pv 0) (pa_cons (pe_bltn (v := .ty "bool") (by rfl) B.bool boot_bool rfl) pa_nil))))))), ?_⟩
    refine ⟨x, rfl, x, .ty "int", t, _, b1, rfl, .ty _, ty, k1, b1, rfl, ?_⟩
    cases b1 with
    | false => exact iteF q
    | true => exact iteT ⟨x, rfl, x, .ty "bool", t, _, b2, rfl, .ty _, ty, k2, b2, rfl, q⟩
theorem kII : PySem.W.kitOne K (.type "int") (.type "int") = some true := kit_ty (by decide +kernel)
theorem kIB : PySem.W.kitOne K (.type "int") (.type "bool") = some false := kit_ty (by decide +kernel)
def spCm : Sp := fun vs H Q _ => ∃ a b : Int, vs = [.int a, .int b] ∧ 0 ≤ a ∧ 0 ≤ b ∧ Q (.int (Int.gcd a b : Nat)) H
theorem ok_cm {f : Addr} {fd : FuncData} {k : Nat} (D : Df K mg "common_measure" sCm f fd ["one", "other"]) : FnOk P w K mg base CX0 (k + 1) f fd ["one", "other"] spCm := by
  refine D.fn.ok scCm (fun vs H Q E h => ?_) (fun cdv A outer s H vs Q E hr h => ?_)
  · obtain ⟨a, b, rfl, _⟩ := h
    rfl
  · obtain ⟨a, b, rfl, ha, hb, q⟩ := h
    refine ⟨_, pss_cons (ps_while PassesOwn.never (pt_cmpR op_ne (pv 1) pe_int (nomark _))
        (pss_one (ps_par (i := 0) (j := 1) rfl scCm.nd rfl rfl (by decide) rfl rfl (pa_cons (pv 1) (pa_cons (pe_op op_mod (pv 0) (pv 1)) pa_nil)) (by rfl))))
      (pss_one (ps_ret (pv 0))), ?_⟩
    refine while_by (fun σ H' => ∃ x y : Int, σ = [some (.int x), some (.int y)] ∧ 0 ≤ x ∧ 0 ≤ y ∧ Int.gcd x y = Int.gcd a b ∧ H' = H)
      (fun σ _ => match σ with | [_, some (.int y)] => y.toNat | _ => 0) ⟨a, b, rfl, ha, hb, rfl, rfl⟩ ?_ ?_
    · rintro σ H' ⟨x, y, rfl, hx, hy, hg, rfl⟩
      refine ⟨_, rfl, rfl, _, rfl, ?_⟩
      by_cases hz : y = 0
      · subst hz
        refine iteF ?_
        have e : (Int.gcd a b : Int) = x := by
          rw [← hg]
          exact gcd_end hx
        rw [e] at q
        exact ⟨_, rfl, q⟩
      · rw [show (!decide (V.int y = V.int 0)) = true by simp [hz]]
        refine iteT ?_
        have hy' : 0 < y := by omega
        refine ⟨_, rfl, _, rfl, _, rfl, x, y, rfl, rfl, hy', _, _, rfl, ⟨y, x % y, rfl, hy, Int.emod_nonneg x hz, ?_, rfl⟩, ?_⟩
        · rw [gcd_step hx hy, hg]
        · have := Int.emod_lt_of_pos x hy'
          have := Int.emod_nonneg x hz
          show (x % y).toNat < y.toNat
          omega
    · rintro σ H1 Q1 Q2 hq ⟨v, e, s, k, ek, z⟩
      exact ⟨v, e, s, k, ek, hq _ _ z⟩
/-! ### things of any kind -/
inductive Th (K : PySem.W.Frag) (H : Hp) : V → PyData → Prop
  | dp {x : V} {d : PyData} (h : Dp K H x d) : Th K H x d
  | nod {a : Addr} (h : H a = some (.dK [])) : Th K H (.ref a) (.dict [])
mutual
theorem dp_same {H H' : Hp} (e : Same H H') : ∀ {v : V} {d : PyData}, Dp K H v d → Dp K H' v d
  | _, _, .non => .non
  | _, _, .bl b => .bl b
  | _, _, .int i => .int i
  | _, _, .str x => .str x
  | _, _, .lst h a => .lst (e.seq h) (dpAll_same e a)
  | _, _, .tup h a => .tup ((tk_same e).sq h) (dpAll_same e a)
theorem dpAll_same {H H' : Hp} (e : Same H H') : ∀ {vs : List V} {ds : List PyData}, DpAll K H vs ds → DpAll K H' vs ds
  | _, _, .nil => .nil
  | _, _, .cons h t => .cons (dp_same e h) (dpAll_same e t)
end
theorem Th.same {H H' : Hp} {v : V} {d : PyData} (e : Same H H') (h : Th K H v d) : Th K H' v d := by
  cases h with
  | dp h => exact .dp (dp_same e h)
  | nod h => exact .nod (e _ _ h)
def tyN : PyData → String
  | .none => "NoneType"
  | .bool _ => "bool"
  | .int _ => "int"
  | .str _ => "str"
  | .list _ => "list"
  | .tuple _ => "tuple"
  | .dict _ => "dict"
theorem Th.ty {H : Hp} {v : V} {d : PyData} (h : Th K H v d) : TyX K H v (.type (tyN d)) := by
  cases h with
  | nod h => exact .base (.dK h)
  | dp h =>
    cases h with
    | non => exact .base .non
    | bl b => exact .base (.bl b)
    | int i => exact .base (.int i)
    | str x => exact .base (.str x)
    | lst h _ =>
      rcases h with (h | ⟨o, h⟩) | ⟨o, its, n, e, c, _⟩
      · exact .base (.lst h)
      · exact .base (.frz h)
      · exact .kList e c
    | tup h _ => exact tyT h
def wholeB : PyData → Bool
  | .int _ => true
  | _ => false
theorem kit_whole (d : PyData) : ∃ b1 b2, PySem.W.kitOne K (.type (tyN d)) (.type "int") = some b1 ∧ PySem.W.kitOne K (.type (tyN d)) (.type "bool") = some b2 ∧ (b1 && !b2) = wholeB d := by
  have a0 : kitB "NoneType" "int" = some false := by decide +kernel
  have a1 : kitB "bool" "int" = some true := by decide +kernel
  have a2 : kitB "int" "int" = some true := by decide +kernel
  have a3 : kitB "str" "int" = some false := by decide +kernel
  have a4 : kitB "list" "int" = some false := by decide +kernel
  have a5 : kitB "tuple" "int" = some false := by decide +kernel
  have a6 : kitB "dict" "int" = some false := by decide +kernel
  have b0 : kitB "NoneType" "bool" = some false := by decide +kernel
  have b1 : kitB "bool" "bool" = some true := by decide +kernel
  have b2 : kitB "int" "bool" = some false := by decide +kernel
  have b3 : kitB "str" "bool" = some false := by decide +kernel
  have b4 : kitB "list" "bool" = some false := by decide +kernel
  have b5 : kitB "tuple" "bool" = some false := by decide +kernel
  have b6 : kitB "dict" "bool" = some false := by decide +kernel
  cases d
  · exact ⟨_, _, kit_ty a0, kit_ty b0, rfl⟩
  · exact ⟨_, _, kit_ty a1, kit_ty b1, rfl⟩
  · exact ⟨_, _, kit_ty a2, kit_ty b2, rfl⟩
  · exact ⟨_, _, kit_ty a3, kit_ty b3, rfl⟩
  · exact ⟨_, _, kit_ty a4, kit_ty b4, rfl⟩
  · exact ⟨_, _, kit_ty a5, kit_ty b5, rfl⟩
  · exact ⟨_, _, kit_ty a6, kit_ty b6, rfl⟩
def tupB : PyData → Bool
  | .tuple _ => true
  | _ => false
theorem kit_tup (d : PyData) : PySem.W.kitOne K (.type (tyN d)) (.type "tuple") = some (tupB d) := by
  have a0 : kitB "NoneType" "tuple" = some false := by decide +kernel
  have a1 : kitB "bool" "tuple" = some false := by decide +kernel
  have a2 : kitB "int" "tuple" = some false := by decide +kernel
  have a3 : kitB "str" "tuple" = some false := by decide +kernel
  have a4 : kitB "list" "tuple" = some false := by decide +kernel
  have a5 : kitB "tuple" "tuple" = some true := by decide +kernel
  have a6 : kitB "dict" "tuple" = some false := by decide +kernel
  cases d
  · exact kit_ty a0
  · exact kit_ty a1
  · exact kit_ty a2
  · exact kit_ty a3
  · exact kit_ty a4
  · exact kit_ty a5
  · exact kit_ty a6
theorem tup_of {d : PyData} (h : tupB d = true) : ∃ ds, d = .tuple ds := by
  cases d with
  | tuple ds => exact ⟨ds, rfl⟩
  | _ => cases h
theorem whole_of {d : PyData} (h : wholeB d = true) : ∃ i, d = .int i := by
  cases d with
  | int i => exact ⟨i, rfl⟩
  | _ => cases h
theorem dpAll_len {H : Hp} : ∀ {xs : List V} {ds : List PyData}, DpAll K H xs ds → xs.length = ds.length
  | _, _, .nil => rfl
  | _, _, .cons _ t => congrArg (· + 1) (dpAll_len t)
theorem dpAll_two {H : Hp} {xs : List V} {ds : List PyData} (h : DpAll K H xs ds) (l : xs.length = 2) : ∃ x1 x2 d1 d2, xs = [x1, x2] ∧ ds = [d1, d2] ∧ Dp K H x1 d1 ∧ Dp K H x2 d2 := by
  cases h with
  | nil => cases l
  | cons h1 t =>
    cases t with
    | nil => cases l
    | cons h2 t =>
      cases t with
      | nil => exact ⟨_, _, _, _, rfl, rfl, h1, h2⟩
      | cons _ _ => simp only [List.length_cons] at l; omega
def fracB : PyData → Bool
  | .tuple [.int t, .int b] => decide (1 ≤ b) && decide (Int.gcd t b = 1)
  | _ => false
theorem frac_no {d : PyData} (h : tupB d = false) : fracB d = false := by
  cases d <;> first | rfl | cases h
theorem frac_len {ds : List PyData} (h : ds.length ≠ 2) : fracB (.tuple ds) = false := by
  match ds with
  | [] => rfl
  | [d1] => cases d1 <;> rfl
  | [_, _] => exact absurd rfl h
  | d1 :: d2 :: d3 :: ds => cases d1 <;> cases d2 <;> rfl
theorem frac_1 {d1 d2 : PyData} (h : wholeB d1 = false) : fracB (.tuple [d1, d2]) = false := by
  cases d1 <;> first | rfl | cases h
theorem frac_2 {d1 d2 : PyData} (h : wholeB d2 = false) : fracB (.tuple [d1, d2]) = false := by
  cases d1 <;> cases d2 <;> first | rfl | cases h
theorem frac_b {t b : Int} (h : b < 1) : fracB (.tuple [.int t, .int b]) = false := by
  show (decide (1 ≤ b) && _) = false
  rw [decide_eq_false (by omega)]
  rfl
theorem frac_g {t b : Int} (h : ¬ b < 1) : fracB (.tuple [.int t, .int b]) = decide (V.int (Int.gcd t b : Nat) = V.int 1) := by
  show (decide (1 ≤ b) && decide (Int.gcd t b = 1)) = _
  rw [decide_eq_true (show 1 ≤ b by omega), Bool.true_and]
  by_cases g : Int.gcd t b = 1
  · rw [decide_eq_true g, g]
    rfl
  · have : ((Int.gcd t b : Nat) : Int) ≠ 1 := by omega
    rw [decide_eq_false g]
    simp [this]
def spFrac (K : PySem.W.Frag) : Sp := fun vs H Q _ => ∃ (v : V) (d : PyData), vs = [v] ∧ Th K H v d ∧ Q (.bl (fracB d)) H
theorem ok_frac {f fW fC : Addr} {fd fdW fdC : FuncData} {k : Nat} (B : Bl mg) (D : Df K mg "is_fraction" sFrac f fd ["thing"]) (DW : Df K mg "is_whole" sWhole fW fdW ["thing"]) (DC : Df K mg "common_measure" sCm fC fdC ["one", "other"]) :
    FnOk P w K mg base CX0 (k + 2) f fd ["thing"] (spFrac K) := by
  have GW : FnOk P w K mg base CX0 (k + 1) fW fdW ["thing"] (spWhole K) := ok_whole B DW
  have GC : FnOk P w K mg base CX0 (k + 1) fC fdC ["one", "other"] spCm := ok_cm DC
  refine D.fn.ok scFrac (fun vs H Q E h => ?_) (fun cdv A outer s H vs Q E hr h => ?_)
  · obtain ⟨v, f, rfl, _⟩ := h
    rfl
  · obtain ⟨v, d, rfl, th, q⟩ := h
    refine ⟨_, pss_cons (ps_if (PW.pt (pw_or (pt_not (pt_val (pe_callB call_isi (by rfl) B.isi boot_isinstance (pa_cons (pv 0) (pa_cons (pe_bltn (v := .ty "tuple") (by rfl) B.tuple boot_tuple rfl) pa_nil)))))
          (pw_or1 (pt_cmpR op_ne (pe_callB call_len_seq (by rfl) B.len PySem.boot_len (pa_cons (pv 0) pa_nil)) pe_int (nomark _))))) (pss_one (ps_ret pe_bl)) pss_nil)
      (pss_cons (ps_asg (pv 0) (pg_tup rfl (pgs_cons (pg_name (i := 1) scFrac.nd rfl (.inl rfl)) (pgs_cons (pg_name (i := 2) scFrac.nd rfl (.inl rfl)) pgs_nil))))
      (pss_cons (ps_if (PW.pt (pw_or (pt_not (pt_val (pe_call GW hr (by rfl) DW.mg DW.fn.kp DW.bd .nil pass0 (pa_cons (pv 1) pa_nil))))
          (pw_or (pt_not (pt_val (pe_call GW hr (by rfl) DW.mg DW.fn.kp DW.bd .nil pass0 (pa_cons (pv 2) pa_nil)))) (pw_or1 (pt_cmpR op_lt (pv 2) pe_int (nomark _)))))) (pss_one (ps_ret pe_bl)) pss_nil)
      (pss_one (ps_ret (pe_cmpR op_eq (pe_call GC hr (by rfl) DC.mg DC.fn.kp DC.bd .nil pass0 (pa_cons (pe_callB call_abs (by rfl) B.abs (by decide +kernel) (pa_cons (pv 1) pa_nil)) (pa_cons (pv 2) pa_nil))) pe_int (nomark _)))))), ?_⟩
    refine ⟨_, rfl, _, .ty "tuple", _, .type "tuple", _, rfl, .ty _, th.ty, kit_tup d, _, rfl, ?_⟩
    by_cases ht : tupB d = true
    · rw [ht]
      obtain ⟨ds, rfl⟩ := tup_of ht
      obtain ⟨a, xs, rfl, hs, hd⟩ : ∃ a xs, v = .ref a ∧ SqT K H a xs ∧ DpAll K H xs ds := by
        cases th with
        | dp h => cases h with | tup hs hd => exact ⟨_, _, rfl, hs, hd⟩
      refine iteF ⟨_, rfl, a, _, rfl, .inr hs, rfl, _, rfl, ?_⟩
      by_cases hl : xs.length = 2
      · obtain ⟨x1, x2, d1, d2, rfl, rfl, h1, h2⟩ := dpAll_two hd hl
        refine iteF ?_
        refine ⟨_, rfl, a, _, rfl, hs, rfl, _, _, rfl, _, _, rfl, rfl, ?_⟩
        obtain ⟨p1, p2, e1, e2, e3⟩ := kit_whole (K := K) d1
        refine ⟨_, rfl, _, _, p1, p2, rfl, (Th.dp h1).ty, e1, e2, _, rfl, ?_⟩
        rw [e3]
        by_cases w1 : wholeB d1 = true
        · rw [w1]
          obtain ⟨q1, q2, e4, e5, e6⟩ := kit_whole (K := K) d2
          refine iteF ⟨_, rfl, _, _, q1, q2, rfl, (Th.dp h2).ty, e4, e5, _, rfl, ?_⟩
          rw [e6]
          by_cases w2 : wholeB d2 = true
          · rw [w2]
            obtain ⟨t, rfl⟩ := whole_of w1
            obtain ⟨b, rfl⟩ := whole_of w2
            obtain rfl : x1 = .int t := by cases h1; rfl
            obtain rfl : x2 = .int b := by cases h2; rfl
            refine iteF ⟨_, rfl, b, 1, rfl, rfl, _, rfl, ?_⟩
            by_cases hb : b < 1
            · rw [decide_eq_true hb]
              rw [frac_b hb] at q
              exact iteT q
            · rw [decide_eq_false hb]
              have na : 0 ≤ (if t < 0 then -t else t) := by split <;> omega
              have ng : Int.gcd (if t < 0 then -t else t) b = Int.gcd t b := by
                split
                · exact Int.neg_gcd
                · rfl
              refine iteF ⟨_, rfl, t, rfl, _, rfl, _, b, rfl, na, by omega, rfl, ?_⟩
              rw [ng]
              rw [frac_g hb] at q
              exact q
          · have w2' : wholeB d2 = false := by simpa using w2
            rw [w2']
            rw [frac_2 w2'] at q
            exact iteT (iteT q)
        · have w1' : wholeB d1 = false := by simpa using w1
          rw [w1']
          rw [frac_1 w1'] at q
          exact iteT (iteT q)
      · have e : (!decide (V.int (xs.length : Nat) = V.int 2)) = true := by
          have : (xs.length : Int) ≠ 2 := by omega
          simpa using this
        rw [e]
        rw [frac_len (by rw [← dpAll_len hd]; exact hl)] at q
        exact iteT q
    · have ht' : tupB d = false := by simpa using ht
      rw [ht']
      rw [frac_no ht'] at q
      exact iteT (iteT q)
end
end Wd2

set_option Elab.async false
set_option linter.all false
set_option maxRecDepth 100000
set_option maxHeartbeats 4000000
set_option exponentiation.threshold 5000
namespace Wd2
open PySem PySem.Spec PyProof.Rows L2 WdM Wd
def nonB : PyData → Bool
  | .tuple (.int t :: _) => decide (0 ≤ t)
  | _ => false
def posB : PyData → Bool
  | .tuple (.int t :: _) => decide (0 < t)
  | _ => false
def okB (d : PyData) : Bool := fracB d && nonB d
def areB (ds : List PyData) : Bool := decide (1 ≤ ds.length ∧ ds.length ≤ 64) && ds.all okB && ds.any posB
theorem frac_shape {d : PyData} (h : fracB d = true) : ∃ t b, d = .tuple [.int t, .int b] := by
  by_cases ht : tupB d = true
  · obtain ⟨ds, rfl⟩ := tup_of ht
    by_cases hl : ds.length = 2
    · match ds, hl with
      | [d1, d2], _ =>
        by_cases w1 : wholeB d1 = true
        · by_cases w2 : wholeB d2 = true
          · obtain ⟨t, rfl⟩ := whole_of w1
            obtain ⟨b, rfl⟩ := whole_of w2
            exact ⟨t, b, rfl⟩
          · rw [frac_2 (by simpa using w2)] at h; cases h
        · rw [frac_1 (by simpa using w1)] at h; cases h
    · rw [frac_len hl] at h; cases h
  · rw [frac_no (by simpa using ht)] at h; cases h
section
variable {P : Program} {w : World} {K : PySem.W.Frag} {mg : Str → Option Value} {base : Heap}
def ThAll (K : PySem.W.Frag) (H : Hp) (xs : List V) (ds : List PyData) : Prop := xs.length = ds.length ∧ ∀ (i : Nat) (x : V) (d : PyData), xs[i]? = some x → ds[i]? = some d → Th K H x d
theorem ThAll.same {H H' : Hp} {xs : List V} {ds : List PyData} (e : Same H H') (h : ThAll K H xs ds) : ThAll K H' xs ds := ⟨h.1, fun i x d a b => (h.2 i x d a b).same e⟩
theorem ThAll.get {H : Hp} {xs : List V} {ds : List PyData} {i : Nat} {x : V} (h : ThAll K H xs ds) (e : xs[i]? = some x) : ∃ d, ds[i]? = some d ∧ Th K H x d := by
  have hi : i < ds.length := by
    rw [← h.1]
    exact lt_get e
  exact ⟨_, List.getElem?_eq_getElem hi, h.2 i x _ e (List.getElem?_eq_getElem hi)⟩
theorem th_pair {H : Hp} {x : V} {t b : Int} (h : Th K H x (.tuple [.int t, .int b])) : ∃ p, x = .ref p ∧ SqT K H p [.int t, .int b] := by
  cases h with
  | dp h =>
    cases h with
    | tup hs hd =>
      rename_i a xs
      obtain ⟨x1, x2, d1, d2, rfl, e, h1, h2⟩ := dpAll_two hd (dpAll_len hd)
      cases e
      cases h1
      cases h2
      exact ⟨_, rfl, hs⟩
def spAre (K : PySem.W.Frag) : Sp := fun vs H Q _ => ∃ v : V, vs = [v] ∧ ((∃ d, Th K H v d ∧ tupB d = false ∧ Q (.bl false) H) ∨ (∃ (a : Addr) (xs : List V) (ds : List PyData), v = .ref a ∧ SqT K H a xs ∧ ThAll K H xs ds ∧ ∀ H', Same H H' → Q (.bl (areB ds)) H'))
theorem ok_are {f fF fW fC : Addr} {fd fdF fdW fdC : FuncData} {tM : Tok} {k : Nat} (B : Bl mg) (gM : mg "MOST_SHARES" = some (.int 64 tM)) (D : Df K mg "are_shares" sAre f fd ["thing"]) (DF : Df K mg "is_fraction" sFrac fF fdF ["thing"])
    (DW : Df K mg "is_whole" sWhole fW fdW ["thing"]) (DC : Df K mg "common_measure" sCm fC fdC ["one", "other"]) :
    FnOk P w K mg base CX0 (k + 3) f fd ["thing"] (spAre K) := by
  have GF : FnOk P w K mg base CX0 (k + 2) fF fdF ["thing"] (spFrac K) := ok_frac B DF DW DC
  refine D.fn.ok scAre (fun vs H Q E h => ?_) (fun cdv A outer s H vs Q E hr h => ?_)
  · obtain ⟨v, rfl, _⟩ := h
    rfl
  · obtain ⟨v, rfl, hv⟩ := h
    refine ⟨_, pss_cons (ps_if (PW.pt (pw_or (pt_not (pt_val (pe_callB call_isi (by rfl) B.isi boot_isinstance (pa_cons (pv 0) (pa_cons (pe_bltn (v := .ty "tuple") (by rfl) B.tuple boot_tuple rfl) pa_nil)))))
          (pw_or1 (pt_not (pt_chain op_le op_le pe_int (pe_callB call_len_seq (by rfl) B.len PySem.boot_len (pa_cons (pv 0) pa_nil)) (pe_glob (v := .int 64) (by rfl) gM ⟨_, rfl⟩)))))) (pss_one (ps_ret pe_bl)) pss_nil)
      (pss_cons (ps_if (pt_not (pt_val (pe_callB (cr_all rfl) (by rfl) B.all (by decide +kernel) (pa_cons
          (pe_lc (own := [("share", 1)]) (g := gName 1) (tt := tYes) rfl scAre.nd (pi_tup (pv 0)) (blkOk_by (own := [("share", 1)]) (N := ["thing", "share"]) (sc := defScope sAre) (by decide +kernel))
            (fun _ _ _ _ _ => pg_name (i := 1) scAre.nd rfl (Or.inl rfl)) (fun _ _ _ _ _ => pts_nil)
            (fun _ _ _ _ _ => pe_and (pe_call GF hr (by rfl) DF.mg DF.fn.kp DF.bd .nil pass0 (pa_cons (pv 1) pa_nil)) (pe_one (pe_cmpR op_ge (pe_ix (r := rIxT K) ix_tup (pv 1) pe_int (fun _ _ => rfl)) pe_int (nomark _))))) pa_nil))))
          (pss_one (ps_ret pe_bl)) pss_nil)
      (pss_one (ps_ret (pe_callB (cr_any rfl) (by rfl) B.any (by decide +kernel) (pa_cons
          (pe_lc (own := [("share", 1)]) (g := gName 1) (tt := tYes) rfl scAre.nd (pi_tup (pv 0)) (blkOk_by (own := [("share", 1)]) (N := ["thing", "share"]) (sc := defScope sAre) (by decide +kernel))
            (fun _ _ _ _ _ => pg_name (i := 1) scAre.nd rfl (Or.inl rfl)) (fun _ _ _ _ _ => pts_nil)
            (fun _ _ _ _ _ => pe_cmpR op_gt (pe_ix (r := rIxT K) ix_tup (pv 1) pe_int (fun _ _ => rfl)) pe_int (nomark _))) pa_nil))))), ?_⟩
    rcases hv with ⟨d, th, nt, q⟩ | ⟨a, xs, ds, rfl, hs, hd, q⟩
    · refine ⟨_, rfl, _, .ty "tuple", _, .type "tuple", _, rfl, .ty _, th.ty, kit_tup d, _, rfl, ?_⟩
      rw [nt]
      exact iteT (iteT q)
    · refine ⟨_, rfl, _, .ty "tuple", .type "tuple", .type "tuple", true, rfl, .ty _, tyT hs, kit_ty (by decide +kernel), true, rfl, ?_⟩
      refine iteF ⟨_, rfl, a, _, rfl, .inr hs, 1, _, rfl, rfl, _, rfl, ?_⟩
      have hlen : xs.length = ds.length := hd.1
      have no : ¬ (1 ≤ ds.length ∧ ds.length ≤ 64) → areB ds = false := fun z => by
        unfold areB
        rw [decide_eq_false z]
        rfl
      by_cases l0 : 1 ≤ ds.length
      · rw [decide_eq_true (show (1 : Int) ≤ (xs.length : Int) by omega)]
        refine iteT ⟨_, _, rfl, rfl, _, rfl, ?_⟩
        by_cases l1 : ds.length ≤ 64
        · rw [decide_eq_true (show (xs.length : Int) ≤ 64 by omega)]
          refine iteF ?_
          refine ⟨_, rfl, a, rfl, ⟨xs, hs⟩, fun L nL => lc_tup (K := K) (a := a) (xs := xs) (fun i H' => H' L = some (.lst (((ds.take i).map okB).map V.bl)) ∧ Same H H') ⟨upd_same, same_new nL⟩ (fun i H' _ h => tk_same h.2 |>.sq hs) ?_ ?_⟩
          · rintro i x H' hx ⟨hL, sm⟩
            obtain ⟨d, hdi, th⟩ := (hd.same sm).get hx
            have il := lt_get hx
            have fin : ∀ b, b = okB d → ∃ acc, H' L = some (HO.lst acc) ∧ acc.length < sizeLine ∧ (upd H' L (HO.lst (acc ++ [V.bl b]))) L = some (.lst (((ds.take (i + 1)).map okB).map V.bl)) ∧ Same H (upd H' L (HO.lst (acc ++ [V.bl b]))) := fun b e => by
              subst e
              refine ⟨_, hL, ?_, ?_, ?_⟩
              · rw [List.length_map, List.length_map, List.length_take]
                exact small1000 (by omega)
              · rw [upd_same, take_more hdi, List.map_append, List.map_append]
                rfl
              · exact ((Bt.of_same (S := []) sm).upd0 nL).same
            refine ⟨rfl, tyes (iteT ⟨_, rfl, _, d, rfl, th, _, rfl, ?_⟩)⟩
            by_cases hf : fracB d = true
            · rw [hf]
              obtain ⟨t, b, rfl⟩ := frac_shape hf
              obtain ⟨p, rfl, hp⟩ := th_pair th
              refine iteT ⟨_, rfl, p, _, 0, .int t, rfl, rfl, hp, atI_nat (j := 0) rfl, t, 0, rfl, rfl, ?_⟩
              exact fin _ (by unfold okB; rw [hf]; rfl)
            · have hf' : fracB d = false := by simpa using hf
              rw [hf']
              exact iteF (fin _ (by unfold okB; rw [hf']; rfl))
          · rintro H' ⟨hL, sm⟩
            rw [hlen, List.take_length] at hL
            refine ⟨L, _, rfl, sqL hL, _, rfl, ?_⟩
            by_cases ha : (ds.map okB).all id = true
            · rw [ha]
              refine iteF ?_
              have okAll : ∀ d ∈ ds, okB d = true := fun d hd => by
                have := List.all_eq_true.mp ha (okB d) (List.mem_map.mpr ⟨d, hd, rfl⟩)
                exact this
              have hs' := (tk_same sm).sq hs
              refine ⟨_, rfl, a, rfl, ⟨xs, hs'⟩, fun L2 nL2 => lc_tup (K := K) (a := a) (xs := xs) (fun i H2 => H2 L2 = some (.lst (((ds.take i).map posB).map V.bl)) ∧ Same H H2) ⟨upd_same, sm.trans (same_new nL2)⟩ (fun i H' _ h => tk_same h.2 |>.sq hs) ?_ ?_⟩
              · rintro i x H2 hx ⟨hL2, sm2⟩
                obtain ⟨d, hdi, th⟩ := (hd.same sm2).get hx
                have il := lt_get hx
                have hf : fracB d = true := by
                  have := okAll d (List.mem_of_getElem? hdi)
                  unfold okB at this
                  exact (Bool.and_eq_true_iff.mp this).1
                obtain ⟨t, b, rfl⟩ := frac_shape hf
                obtain ⟨p, rfl, hp⟩ := th_pair th
                refine ⟨rfl, tyes (iteT ⟨_, rfl, p, _, 0, .int t, rfl, rfl, hp, atI_nat (j := 0) rfl, t, 0, rfl, rfl, ?_⟩)⟩
                refine ⟨_, hL2, ?_, ?_, ?_⟩
                · rw [List.length_map, List.length_map, List.length_take]
                  exact small1000 (by omega)
                · rw [upd_same, take_more hdi, List.map_append, List.map_append]
                  rfl
                · exact ((Bt.of_same (S := []) sm2).upd0 (sm.free nL2)).same
              · rintro H2 ⟨hL2, sm2⟩
                rw [hlen, List.take_length] at hL2
                refine ⟨L2, _, rfl, sqL hL2, ?_⟩
                have e : (ds.map posB).any id = areB ds := by
                  unfold areB
                  rw [decide_eq_true ⟨l0, l1⟩, List.all_eq_true.mpr okAll, List.any_map]
                  rfl
                rw [e]
                exact q H2 sm2
            · have ha' : (ds.map okB).all id = false := by simpa using ha
              rw [ha']
              have e : areB ds = false := by
                unfold areB
                have : ds.all okB = false := by
                  rw [← ha', List.all_map]
                  rfl
                rw [this, Bool.and_false]
                rfl
              have q1 := q H' sm
              rw [e] at q1
              exact iteT q1
        · rw [decide_eq_false (show ¬ (xs.length : Int) ≤ 64 by omega)]
          have q1 := q H (Same.refl H)
          rw [no (fun z => l1 z.2)] at q1
          exact iteT q1
      · rw [decide_eq_false (show ¬ (1 : Int) ≤ (xs.length : Int) by omega)]
        have q1 := q H (Same.refl H)
        rw [no (fun z => l0 z.1)] at q1
        exact iteF ⟨_, rfl, iteT q1⟩
def spWts (K : PySem.W.Frag) : Sp := fun vs H Q _ => ∃ (v : V) (fs : List (Int × Int)), vs = [v] ∧ Sh K H v fs ∧ Good fs ∧ ∀ H' p, Same H H' → H p = none → H' p = some (.lst ((wtsOf fs).map V.int)) → Q (.ref p) H'
theorem ok_wts {f fC : Addr} {fd fdC : FuncData} {k : Nat} (D : Df K mg "whole_weights" sWts f fd ["shares"]) (DC : Df K mg "common_measure" sCm fC fdC ["one", "other"]) :
    FnOk P w K mg base CX0 (k + 2) f fd ["shares"] (spWts K) := by
  have GC : FnOk P w K mg base CX0 (k + 1) fC fdC ["one", "other"] spCm := ok_cm DC
  refine D.fn.ok scWts (fun vs H Q E h => ?_) (fun cdv A outer s H vs Q E hr h => ?_)
  · obtain ⟨v, f, rfl, _⟩ := h
    rfl
  · obtain ⟨v, fs, rfl, ⟨a, xs, rfl, hs, hf⟩, G, q⟩ := h
    have hlen : xs.length = fs.length := hf.1
    have l1 := G.len1
    refine ⟨_, pss_cons (ps_set (i := 1) scWts.nd rfl (.inr rfl) pe_int)
      (pss_cons (ps_for PassesOwn.never rfl (pi_tup (pv 0)) (pg_name (i := 2) scWts.nd rfl (.inl rfl))
        (pss_one (ps_set (i := 1) scWts.nd rfl (.inr rfl) (pe_op op_mulW (pe_op op_fdivW (pv 1) (pe_call GC hr (by rfl) DC.mg DC.fn.kp DC.bd .nil pass0 (pa_cons (pv 1) (pa_cons (pe_ix (r := rIxT K) ix_tup (pv 2) pe_int (fun _ _ => rfl)) pa_nil)))) (pe_ix (r := rIxT K) ix_tup (pv 2) pe_int (fun _ _ => rfl))))))
      (pss_one (ps_ret (pe_lc (own := [("share", 2)]) (g := gName 2) (tt := tYes) rfl scWts.nd (pi_tup (pv 0)) (blkOk_by (own := [("share", 2)]) (N := ["shares", "bottom", "share"]) (sc := defScope sWts) (by decide +kernel))
            (fun _ _ _ _ _ => pg_name (i := 2) scWts.nd rfl (Or.inl rfl)) (fun _ _ _ _ _ => pts_nil)
            (fun _ _ _ _ _ => pe_op op_mulW (pe_ix (r := rIxT K) ix_tup (pv 2) pe_int (fun _ _ => rfl)) (pe_op op_fdivW (pv 1) (pe_ix (r := rIxT K) ix_tup (pv 2) pe_int (fun _ _ => rfl)))))))), ?_⟩
    refine ⟨_, rfl, a, rfl, ⟨xs, hs⟩, for_tup (K := K) (a := a) (xs := xs) (fun i σ H' => ∃ y, σ = [some (.ref a), some (.int (lcmF 1 (fs.take i))), y] ∧ H' = H) ⟨none, rfl, rfl⟩ (fun i σ H' _ ⟨_, _, e⟩ => by rw [e]; exact hs) ?_ ?_⟩
    · rintro i x σ H' hx ⟨y, rfl, rfl⟩
      obtain ⟨f, p, hfi, rfl, hp⟩ := hf.get hx
      have ⟨e1, e2, e3, e4, e5⟩ := G.each f (List.mem_of_getElem? hfi)
      have hsub : ∀ g ∈ fs.take i, 0 < g.2 := fun g hg => G.pos g (List.mem_of_mem_take hg)
      have c := lcm_is (fs.take i) 1 (by decide) hsub
      have cb : (lcmF 1 (fs.take i)).natAbs < 2 ^ 4097 := Nat.lt_of_lt_of_le (lcm_bound (fs.take i) 1 1 (by decide) (by decide) (fun g hg => ⟨hsub g hg, (G.each g (List.mem_of_mem_take hg)).2.2.2.1⟩)) (pow_le (by rw [List.length_take]; omega))
      have g0 := gcd_pos (a := lcmF 1 (fs.take i)) e2
      refine ⟨_, rfl, _, rfl, _, rfl, p, _, 1, .int f.2, rfl, rfl, hp, atI_nat (j := 1) rfl, _, _, rfl, Int.le_of_lt c.pos, Int.le_of_lt e2, _, _, rfl, rfl,
        wide_div g0 (wide_le (Int.le_of_lt g0) (gcd_le e2) e4) (by decide) (by decide), _, rfl, p, _, 1, .int f.2, rfl, rfl, hp, atI_nat (j := 1) rfl, _, _, rfl, rfl, ?_, ?_⟩
      · exact wide_mul (wide_le (Int.ediv_nonneg (Int.le_of_lt c.pos) (Int.le_of_lt g0)) (Int.ediv_le_self _ (Int.le_of_lt c.pos)) cb) e4 (by decide) (by decide) (by decide)
      · refine ⟨some (.ref p), ?_, rfl⟩
        rw [take_more hfi, lcm_snoc]
        rfl
    · rintro σ H' ⟨y, rfl, rfl⟩
      rw [hlen, List.take_length]
      have c := G.lcm
      refine ⟨_, rfl, a, rfl, ⟨xs, hs⟩, fun L nL => lc_tup (K := K) (a := a) (xs := xs) (fun i H2 => H2 L = some (.lst (((wtsOf fs).take i).map V.int)) ∧ Same H' H2) ⟨upd_same, same_new nL⟩ (fun i H' _ h => tk_same h.2 |>.sq hs) ?_ ?_⟩
      · rintro i x H2 hx ⟨hL, sm⟩
        obtain ⟨f, p, hfi, rfl, hp⟩ := (hf.tk (tk_same sm)).get hx
        have hm := List.mem_of_getElem? hfi
        have ⟨e1, e2, e3, e4, e5⟩ := G.each f hm
        have ⟨q1, q2⟩ := G.quo f hm
        have hw : (wtsOf fs)[i]? = some (f.1 * (lcmF 1 fs / f.2)) := by
          unfold wtsOf wts
          rw [List.getElem?_map, hfi]
          rfl
        refine ⟨rfl, tyes (iteT ⟨_, rfl, p, _, 0, .int f.1, rfl, rfl, hp, atI_nat (j := 0) rfl, _, rfl, _, rfl, p, _, 1, .int f.2, rfl, rfl, hp, atI_nat (j := 1) rfl, _, _, rfl, rfl, wide_div e2 e4 (by decide) (by decide), _, _, rfl, rfl, wide_mul e3 q2 (by decide) (by decide) (by decide), ?_⟩)⟩
        have il := lt_get hx
        refine ⟨_, hL, ?_, ?_, ?_⟩
        · rw [List.length_map, List.length_take]
          exact small1000 (by omega)
        · rw [upd_same, take_more hw, List.map_append]
          rfl
        · exact ((Bt.of_same (S := []) sm).upd0 nL).same
      · rintro H2 ⟨hL, sm⟩
        rw [hlen, ← wtsOf_len fs, List.take_length] at hL
        exact q H2 L sm nL hL
theorem drop_get {α : Type} {l : List α} {i : Nat} {x : α} (h : l[i]? = some x) : l.drop i = x :: l.drop (i + 1) := by
  obtain ⟨hi, e⟩ := List.getElem?_eq_some_iff.mp h
  rw [List.drop_eq_getElem_cons hi, e]
theorem ixN_nat {n i : Nat} (h : i < n) : ixN n (i : Int) = some i := by
  unfold ixN
  rw [if_pos (by omega), if_pos (by omega)]
  rfl
theorem set_done {done r : List Int} {x y : Int} {i : Nat} (h : done.length = i) : ((done ++ x :: r).map V.int).set i (.int y) = ((done ++ [y]) ++ r).map V.int := by
  subst h
  simp
theorem get_done {done r : List Int} {x : Int} {i : Nat} (h : done.length = i) : ((done ++ x :: r).map V.int)[i]? = some (.int x) := by
  subst h
  simp
theorem deal_cons (a T k w : Int) (ws : List Int) : deal a T k (w :: ws) = if 0 < k ∧ a * w % T ≠ 0 then (a * w / T + 1) :: deal a T (k - 1) ws else a * w / T :: deal a T k ws := rfl
end
end Wd2

set_option Elab.async false
set_option linter.all false
set_option maxRecDepth 100000
set_option maxHeartbeats 4000000
set_option exponentiation.threshold 5000
namespace Wd2
open PySem PySem.Spec PyProof.Rows L2 WdM Wd
/-- what the top has written of the errors: NoSum at CS, its __init__ at fI, NoShares at CN, WordError at CW -/
structure ErF (K : PySem.W.Frag) (mg : Str → Option Value) (CS fI CN CW : Addr) : Prop where
  oS : OexC K CS
  noT : PySem.W.findIn K (.ref CS) "thing" = some none
  iS : PySem.W.findIn K (.ref CS) "__init__" = some (some (.ref fI))
  tI : PySem.W.typeIn K (.ref fI) = some (.type "function")
  gS : mg "NoSum" = some (.ref CS)
  gN : mg "NoShares" = some (.ref CN)
  xN : PySem.W.excIn K CN [.type "ValueError", .type "Exception", .type "BaseException", .type "object"] "ValueError.__new__" = true
  kN : PySem.W.keepIn K (.ref CN) = true
  bN : PySem.W.subIn K (.ref CN) (.type "BaseException") = some true
  tN : PySem.W.typeIn K (.ref CN) = some (.type "type")
  gW : mg "WordError" = some (.ref CW)
  mS : PySem.W.exmOne K (.ref CS) (.ref CW) = some true
  mN : PySem.W.exmOne K (.ref CN) (.ref CW) = some true
  cS : ExcC K CS
  cN : ExcC K CN
  fS : XfC K CS
section
variable {P : Program} {w : World} {K : PySem.W.Frag} {mg : Str → Option Value} {base : Heap} {CS fI CN CW : Addr}
def spInit (CS : Addr) : Sp := fun vs H Q _ => ∃ (a : Addr) (y : V), vs = [.ref a, y] ∧ H a = some (exo a CS none) ∧ ∀ dx, H dx = none → dx ≠ a → Q .non (upd (upd H dx (exd dx [("thing", y)])) a (exo a CS (some dx)))
theorem ok_init {fd : FuncData} {k : Nat} (T : ErF K mg CS fI CN CW) (F : Fun K "__init__" "NoSum.__init__" sInit fI fd) : FnOk P w K mg base CX0 (k + 1) fI fd ["self", "thing"] (spInit CS) := by
  refine F.ok scInit (fun vs H Q E h => ?_) (fun cdv A outer s H vs Q E hr h => ?_)
  · obtain ⟨a, y, rfl, _⟩ := h
    rfl
  · obtain ⟨a, y, rfl, ha, q⟩ := h
    exact ⟨_, pss_one (ps_ost (pv 0) (pv 1)), y, rfl, .ref a, rfl, a, CS, rfl, T.oS, T.noT, .inl ⟨ha, fun dx h1 h2 => q dx h1 h2⟩⟩
theorem heap_made {H : Hp} {a dx : Addr} {o1 o2 o3 o4 : HO} (ha : H a = none) (ne : dx ≠ a) : upd (del (upd (upd (upd H a o1) dx o2) a o3) a) dx o4 = upd H dx o4 := by
  funext b
  by_cases h1 : b = dx
  · rw [h1, upd_same, upd_same]
  · rw [upd_ne h1, upd_ne h1]
    by_cases h2 : b = a
    · rw [h2, del_same, ha]
    · rw [del_ne h2, upd_ne h2, upd_ne h1, upd_ne h2]
def amtB : PyData → Bool
  | .int a => decide (0 ≤ a ∧ a ≤ 1000000000000)
  | _ => false
/-- shares that are refused -/
def BadSh (K : PySem.W.Frag) (H : Hp) (v : V) : Prop := (∃ d, Th K H v d ∧ tupB d = false) ∨ ∃ (a : Addr) (xs : List V) (ds : List PyData), v = .ref a ∧ SqT K H a xs ∧ ThAll K H xs ds ∧ areB ds = false
def spParted (K : PySem.W.Frag) (CS CN : Addr) : Sp := fun vs H Q E => ∃ (x v : V), vs = [x, v] ∧
  ((∃ (a : Int) (fs : List (Int × Int)), x = .int a ∧ 0 ≤ a ∧ a ≤ 1000000000000 ∧ Sh K H v fs ∧ Good fs ∧ ∀ H' p, Same H H' → H p = none → H' p = some (.tup ((dealt a (wtsOf fs)).map V.int)) → Q (.ref p) H') ∨
   (∃ d, Th K H x d ∧ amtB d = false ∧ ∀ dd, H dd = none → E (.ref CS) (some dd) (upd H dd (.xd [("thing", x)]))) ∨
   (∃ a : Int, x = .int a ∧ 0 ≤ a ∧ a ≤ 1000000000000 ∧ BadSh K H v ∧ ∀ H', Same H H' → E (.ref CN) none H'))
theorem fr_th {H : Hp} {x : V} {f : Int × Int} (h : Fr K H x f) : Th K H x (.tuple [.int f.1, .int f.2]) := by
  obtain ⟨a, rfl, hs⟩ := h
  exact .dp (.tup hs (.cons (.int _) (.cons (.int _) .nil)))
theorem good_are {fs : List (Int × Int)} (G : Good fs) : areB (fs.map fun f => .tuple [.int f.1, .int f.2]) = true := by
  unfold areB
  have l0 := G.len0
  have l1 := G.len1
  rw [List.length_map, decide_eq_true ⟨l0, l1⟩, List.all_map, List.any_map]
  have a : fs.all (okB ∘ fun f => PyData.tuple [.int f.1, .int f.2]) = true := by
    rw [List.all_eq_true]
    intro f hf
    have ⟨e1, e2, _, _, e5⟩ := G.each f hf
    show (okB (.tuple [.int f.1, .int f.2])) = true
    unfold okB
    show ((decide (1 ≤ f.2) && decide (Int.gcd f.1 f.2 = 1)) && decide (0 ≤ f.1)) = true
    rw [decide_eq_true (show 1 ≤ f.2 by omega), decide_eq_true e5, decide_eq_true e1]
    rfl
  have b : fs.any (posB ∘ fun f => PyData.tuple [.int f.1, .int f.2]) = true := by
    rw [List.any_eq_true]
    obtain ⟨f, hf, hp⟩ := G.some
    exact ⟨f, hf, decide_eq_true hp⟩
  rw [a, b]
  rfl
theorem sh_th {H : Hp} {xs : List V} {fs : List (Int × Int)} (h : FrAll K H xs fs) : ThAll K H xs (fs.map fun f => .tuple [.int f.1, .int f.2]) := by
  refine ⟨by rw [List.length_map]; exact h.1, fun i x d a b => ?_⟩
  rw [List.getElem?_map] at b
  cases e : fs[i]? with
  | none => rw [e] at b; cases b
  | some f =>
    rw [e] at b
    cases b
    exact fr_th (h.2 i x f a e)
theorem ok_parted {f fW fC fF fA fT : Addr} {fd fdW fdC fdF fdA fdT fdI : FuncData} {tM tP : Tok} (B : Bl mg) (gM : mg "MOST_SHARES" = some (.int 64 tM)) (gP : mg "MOST_PENNIES" = some (.int 1000000000000 tP)) (T : ErF K mg CS fI CN CW) (FI : Fun K "__init__" "NoSum.__init__" sInit fI fdI) (bI : Binds K fdI ["self", "thing"] [])
    (D : Df K mg "parted" sParted f fd ["amount", "shares"]) (DA : Df K mg "are_shares" sAre fA fdA ["thing"]) (DT : Df K mg "whole_weights" sWts fT fdT ["shares"]) (DF : Df K mg "is_fraction" sFrac fF fdF ["thing"])
    (DW : Df K mg "is_whole" sWhole fW fdW ["thing"]) (DC : Df K mg "common_measure" sCm fC fdC ["one", "other"]) :
    FnOk P w K mg base (L2.CX P w) 4 f fd ["amount", "shares"] (spParted K CS CN) := by
  have GW : FnOk P w K mg base CX0 1 fW fdW ["thing"] (spWhole K) := ok_whole (k := 0) B DW
  have GT : FnOk P w K mg base CX0 2 fT fdT ["shares"] (spWts K) := ok_wts (k := 0) DT DC
  have GA : FnOk P w K mg base CX0 3 fA fdA ["thing"] (spAre K) := ok_are (k := 0) B gM DA DF DW DC
  have GI : FnOk P w K mg base CX0 1 fI fdI ["self", "thing"] (spInit CS) := ok_init (k := 0) T FI
  refine D.fn.okX scParted (fun vs H Q E h => ?_) (fun cdv A outer s H vs Q E hr h => ?_)
  · obtain ⟨x, v, rfl, _⟩ := h
    rfl
  · obtain ⟨x, v, rfl, hcase⟩ := h
    have r1 : Room 1 _ := hr.mono (by omega)
    have r2 : Room 2 _ := hr.mono (by omega)
    have r3 : Room 3 _ := hr.mono (by omega)
    refine ⟨_, pss_cons (ps_if (PW.pt (pw_or (pt_not (pt_val (pe_call GW r1 (by rfl) DW.mg DW.fn.kp DW.bd .nil pass0 (pa_cons (pv 0) pa_nil))))
          (pw_or1 (pt_not (pt_chain op_le op_le pe_int (pv 0) (pe_glob (v := .int 1000000000000) (by rfl) gP ⟨_, rfl⟩))))))
          (pss_one (ps_raise rfl (takes_of rfl rfl rfl rfl) (pmk_oex T.oS T.iS T.tI GI r2 bI .nil pass0 (by rfl) T.gS (pa_cons (pv 0) pa_nil)))) pss_nil)
      (pss_cons (ps_if (pt_not (pt_val (pe_call GA r3 (by rfl) DA.mg DA.fn.kp DA.bd .nil pass0 (pa_cons (pv 1) pa_nil))))
          (pss_one (ps_raise rfl (takes_of rfl rfl rfl rfl) (pmk_own0 PySem.F.excBase_ValueError T.xN T.gN T.kN (raises_own T.bN T.tN) (by rfl)))) pss_nil)
      (PSs.nox
      (pss_cons (ps_set (i := 2) scParted.nd rfl (.inl rfl) (pe_call GT r2 (by rfl) DT.mg DT.fn.kp DT.bd .nil pass0 (pa_cons (pv 1) pa_nil)))
      (pss_cons (ps_set (i := 3) scParted.nd rfl (.inr rfl) (pe_callB (cr_sum rfl) (by rfl) B.sum (by decide +kernel) (pa_cons (pv 2) pa_nil)))
      (pss_cons (ps_setLc (i := 5) (own := [("weight", 4)]) (g := gName 4) (tt := tYes) rfl scParted.nd rfl rfl (sw_true rfl rfl rfl (by decide +kernel)) (pi_list (pv 2))
            (blkOk_by (own := [("weight", 4)]) (N := ["amount", "shares", "weights", "together", "weight", "pennies", "lacking", "at"]) (sc := defScope sParted) (by decide +kernel))
            (fun _ _ _ _ _ => pg_name (i := 4) scParted.nd rfl (Or.inl rfl)) (fun _ _ _ _ _ => pts_nil)
            (fun _ _ _ _ _ => pe_op op_fdivW (pe_op op_mulW (pv 0) (pv 4)) (pv 3)))
      (pss_cons (ps_set (i := 6) scParted.nd rfl (.inl rfl) (pe_op op_sub (pv 0) (pe_callB (cr_sum rfl) (by rfl) B.sum (by decide +kernel) (pa_cons (pv 5) pa_nil))))
      (pss_cons (ps_for PassesOwn.never rfl (pi_enum (by rfl) B.enum (pa_cons (pv 2) pa_nil)) (pg_tup rfl (pgs_cons (pg_name (i := 7) scParted.nd rfl (.inl rfl)) (pgs_cons (pg_name (i := 4) scParted.nd rfl (.inl rfl)) pgs_nil)))
        (pss_one (ps_if (PW.pt (pw_and (pt_cmpR op_gt (pv 6) pe_int (nomark _)) (pw_and1 (pt_cmpR op_ne (pe_op op_mod (pe_op op_mulW (pv 0) (pv 4)) (pv 3)) pe_int (nomark _)))))
          (pss_cons (ps_augS (pv 5) (pv 7) (get_list (X := _)) pe_int ip_add set_list) (pss_one (ps_aug (i := 6) scParted.nd rfl (.inl rfl) pe_int ip_sub))) pss_nil)))
      (pss_one (ps_ret (pe_callTy call_tuple_of (by rfl) B.tuple boot_tuple (pa_cons (pv 5) pa_nil))))))))))), ?_⟩
    rcases hcase with ⟨a, fs, rfl, a0, a1, hsh, G, q⟩ | ⟨d, th, bad, q⟩ | ⟨a, rfl, a0, a1, bad, q⟩
    rotate_left
    · -- no sum
      obtain ⟨p1, p2, e1, e2, e3⟩ := kit_whole (K := K) d
      refine ⟨_, rfl, _, _, p1, p2, rfl, th.ty, e1, e2, _, rfl, ?_⟩
      rw [e3]
      have raise : ∀ Q2 : XK, (∀ dd, H dd = none → Q2 (.ref CS) (some dd) (upd H dd (.xd [("thing", x)]))) → ∀ σ : L2.St, σ[0]? = some (some x) → tMkO CS (spInit CS) [] (tCons (tVar 0) tNil) σ H Q2 := fun Q2 hq σ h0 =>
        ⟨x, h0, by show 1 ≤ 1000; decide, fun e ne => ⟨e, x, rfl, upd_same, fun dx h1 h2 => ⟨rfl, dx, [("thing", x)], upd_same, by rw [upd_ne h2, upd_same], by rw [upd_ne h2] at h1; exact h1, by
          rw [heap_made ne h2]
          exact hq dx (by rw [upd_ne h2] at h1; exact h1)⟩⟩⟩
      by_cases hw : wholeB d = true
      · rw [hw]
        obtain ⟨a, rfl⟩ := whole_of hw
        obtain rfl : x = .int a := by cases th with | dp h => cases h; rfl
        refine iteF ⟨_, rfl, 0, a, rfl, rfl, _, rfl, ?_⟩
        have nb : ¬ (0 ≤ a ∧ a ≤ 1000000000000) := of_decide_eq_false bad
        by_cases z0 : 0 ≤ a
        · rw [decide_eq_true z0]
          refine iteT ⟨a, _, rfl, rfl, _, rfl, ?_⟩
          rw [decide_eq_false (fun z => nb ⟨z0, z⟩)]
          exact iteT (raise _ (fun dd h => q dd h) _ rfl)
        · rw [decide_eq_false z0]
          exact iteF ⟨_, rfl, iteT (raise _ (fun dd h => q dd h) _ rfl)⟩
      · have hw' : wholeB d = false := by simpa using hw
        rw [hw']
        exact iteT (iteT (raise _ (fun dd h => q dd h) _ rfl))
    · -- no shares
      refine ⟨_, rfl, _, _, _, _, rfl, .base (.int _), kII, kIB, true, rfl, iteF ⟨_, rfl, 0, a, rfl, rfl, _, rfl, ?_⟩⟩
      rw [decide_eq_true a0]
      refine iteT ⟨a, _, rfl, rfl, _, rfl, ?_⟩
      rw [decide_eq_true a1]
      refine iteF ?_
      rcases bad with ⟨d, th, nt⟩ | ⟨b, xs, ds, rfl, hs, hd, na⟩
      · exact ⟨_, rfl, v, rfl, .inl ⟨d, th, nt, false, rfl, iteT (q H (Same.refl H))⟩⟩
      · refine ⟨_, rfl, _, rfl, .inr ⟨b, xs, ds, rfl, hs, hd, fun H1 sm1 => ?_⟩⟩
        rw [na]
        exact ⟨false, rfl, iteT (q H1 sm1)⟩
    refine ⟨_, rfl, _, _, _, _, rfl, .base (.int _), kII, kIB, true, rfl, iteF ⟨_, rfl, 0, a, rfl, rfl, _, rfl, ?_⟩⟩
    rw [decide_eq_true a0]
    refine iteT ⟨a, _, rfl, rfl, _, rfl, ?_⟩
    rw [decide_eq_true a1]
    obtain ⟨b, xs, rfl, hs, hf⟩ := id hsh
    refine iteF ⟨_, rfl, _, rfl, .inr ⟨b, xs, _, rfl, hs, sh_th hf, fun H1 sm1 => ?_⟩⟩
    rw [good_are G]
    refine ⟨true, rfl, iteF ?_⟩
    -- weights, together
    refine ⟨_, rfl, _, fs, rfl, hsh.tk (tk_same sm1), G, fun H2 wL sm2 nw hw => ?_⟩
    refine ⟨_, rfl, wL, _, rfl, sqL hw, ?_⟩
    have T0 := G.sum.1
    have TB := G.sumB
    have wB := G.wB
    have s2 : Same H H2 := sm1.trans sm2
    have lw : (wtsOf fs).length ≤ 64 := by
      rw [wtsOf_len]
      exact G.len1
    have nwH : H wL = none := sm1.free nw
    revert hw TB wB T0 lw q
    generalize wtsOf fs = ws
    intro q hw T0 TB wB lw
    have aB : a.natAbs < 2 ^ 64 := Nat.lt_of_le_of_lt (show a.natAbs ≤ 1000000000000 by omega) (by decide)
    have dv : ∀ x : Int, CDivW x ws.sum := fun x => wide_div T0 TB (by decide) (by decide)
    -- pennies
    refine ⟨_, rfl, wL, rfl, ⟨_, sqL hw⟩, fun pL nL => lc_list (K := K) (a := wL) (xs := ws.map V.int) (fun i H3 => H3 pL = some (.lst (((bases a ws.sum ws).take i).map V.int)) ∧ Same H2 H3) ⟨upd_same, same_new nL⟩ (fun i H' _ h => sqL (h.2 _ _ hw)) ?_ ?_⟩
    · rintro i x H3 hx ⟨hL, sm⟩
      obtain ⟨wt, hwt, rfl⟩ := ints_get hx
      refine ⟨rfl, tyes (iteT ⟨_, rfl, _, rfl, a, wt, rfl, rfl, wide_mul aB (wB wt (List.mem_of_getElem? hwt)) (by decide) (by decide) (by decide), _, rfl, _, ws.sum, rfl, rfl, dv _, ?_⟩)⟩
      have il := lt_get hwt
      have hb : (bases a ws.sum ws)[i]? = some (a * wt / ws.sum) := by
        unfold bases
        rw [List.getElem?_map, hwt]
        rfl
      refine ⟨_, hL, ?_, ?_, ?_⟩
      · rw [List.length_map, List.length_take]
        exact small1000 (by omega)
      · rw [upd_same, take_more hb, List.map_append]
        rfl
      · exact ((Bt.of_same (S := []) sm).upd0 nL).same
    · rintro H3 ⟨hp, sm3⟩
      have lb : (bases a ws.sum ws).length = ws.length := by unfold bases; rw [List.length_map]
      rw [List.length_map, ← lb, List.take_length] at hp
      have hw3 := sm3 _ _ hw
      have npw : wL ≠ pL := ne_of_none hw nL
      have s3 : Same H H3 := s2.trans sm3
      have npH : H pL = none := s2.free nL
      refine ⟨_, rfl, _, rfl, pL, bases a ws.sum ws, rfl, sqL hp, a, _, rfl, rfl, ?_⟩
      refine ⟨_, rfl, wL, ws.map V.int, rfl, sqL hw3, for_it (walk_enum (K := K) (a := wL) (xs := ws.map V.int)) (fun i σ H' => ∃ (y4 y7 : Option V) (k' : Int) (done : List Int), σ = [some (.int a), some (.ref b), some (.ref wL), some (.int ws.sum), y4, some (.ref pL), some (.int k'), y7] ∧
          done.length = i ∧ done ++ deal a ws.sum k' (ws.drop i) = dealt a ws ∧ H' pL = some (.lst ((done ++ bases a ws.sum (ws.drop i)).map V.int)) ∧ H' wL = some (.lst (ws.map V.int)) ∧ Same H H')
        ⟨none, none, _, [], rfl, rfl, rfl, hp, hw3, s3⟩ (fun i σ H' _ ⟨_, _, _, _, _, _, _, _, e, _⟩ => sqL e) ?_ ?_⟩
      · rintro i _ σ H4 _ _ ⟨y4, y7, k', done, rfl, hd, he, hp4, hw4, s4⟩ ⟨T, _, x, rfl, nT, rfl, ei, hx⟩
        cases ei
        obtain ⟨wt, hwt, rfl⟩ := ints_get hx
        have il := lt_get hwt
        have nTp : pL ≠ T := ne_of_none hp4 nT
        have nTw : wL ≠ T := ne_of_none hw4 nT
        have hp5 : (upd H4 T (.tup [.int (i : Nat), .int wt])) pL = some (.lst ((done ++ bases a ws.sum (ws.drop i)).map V.int)) := by rw [upd_ne nTp]; exact hp4
        have hw5 : (upd H4 T (.tup [.int (i : Nat), .int wt])) wL = some (.lst (ws.map V.int)) := by rw [upd_ne nTw]; exact hw4
        have s5 : Same H (upd H4 T (.tup [.int (i : Nat), .int wt])) := s4.trans (same_new nT)
        have ed := drop_get hwt
        have eb : bases a ws.sum (wt :: ws.drop (i + 1)) = a * wt / ws.sum :: bases a ws.sum (ws.drop (i + 1)) := rfl
        rw [ed, eb] at hp5
        rw [ed] at he
        refine ⟨T, _, rfl, sqT upd_same, rfl, _, _, rfl, _, _, rfl, rfl, ?_⟩
        refine ⟨_, rfl, k', 0, rfl, rfl, _, rfl, ?_⟩
        have skip : ∀ (h : ¬ (0 < k' ∧ a * wt % ws.sum ≠ 0)), ∃ (y4 y7 : Option V) (k'_1 : Int) (done : List Int), [some (V.int a), some (.ref b), some (.ref wL), some (.int ws.sum), some (.int wt), some (.ref pL), some (.int k'), some (.int (i : Nat))] = [some (.int a), some (.ref b), some (.ref wL), some (.int ws.sum), y4, some (.ref pL), some (.int k'_1), y7] ∧
          done.length = i + 1 ∧ done ++ deal a ws.sum k'_1 (ws.drop (i + 1)) = dealt a ws ∧ (upd H4 T (.tup [.int (i : Nat), .int wt])) pL = some (.lst ((done ++ bases a ws.sum (ws.drop (i + 1))).map V.int)) ∧ (upd H4 T (.tup [.int (i : Nat), .int wt])) wL = some (.lst (ws.map V.int)) ∧ Same H (upd H4 T (.tup [.int (i : Nat), .int wt])) := fun h => by
          refine ⟨_, _, k', done ++ [a * wt / ws.sum], rfl, by rw [List.length_append, hd]; rfl, ?_, ?_, hw5, s5⟩
          · rw [← he, List.append_assoc]
            rw [deal_cons, if_neg h]
            rfl
          · rw [hp5, List.append_assoc]
            rfl
        by_cases hk : 0 < k'
        · rw [decide_eq_true hk]
          refine iteT ⟨_, rfl, _, rfl, a, wt, rfl, rfl, wide_mul aB (wB wt (List.mem_of_getElem? hwt)) (by decide) (by decide) (by decide), _, rfl, _, ws.sum, rfl, rfl, T0, rfl, _, rfl, ?_⟩
          by_cases hz : a * wt % ws.sum = 0
          · rw [show (!decide (V.int (a * wt % ws.sum) = V.int 0)) = false by simp [hz]]
            exact iteF (skip (fun z => z.2 hz))
          · rw [show (!decide (V.int (a * wt % ws.sum) = V.int 0)) = true by simp [hz]]
            refine iteT ?_
            have lt2 : i < ((done ++ a * wt / ws.sum :: bases a ws.sum (ws.drop (i + 1))).map V.int).length := by
              rw [List.length_map, List.length_append, List.length_cons, hd]
              omega
            refine ⟨_, rfl, _, rfl, pL, _, (i : Int), .int (a * wt / ws.sum), rfl, rfl, by omega, sqL hp5, atI_nat (get_done hd), _, 1, rfl, rfl, pL, _, (i : Int), i, rfl, rfl, hp5, ixN_nat lt2, ?_⟩
            refine ⟨_, rfl, k', 1, rfl, rfl, ?_⟩
            refine ⟨_, _, k' - 1, done ++ [a * wt / ws.sum + 1], rfl, by rw [List.length_append, hd]; rfl, ?_, ?_, ?_, ?_⟩
            · rw [← he, List.append_assoc]
              rw [deal_cons, if_pos ⟨hk, hz⟩]
              rfl
            · rw [upd_same, set_done hd]
            · rw [upd_ne npw]
              exact hw5
            · exact ((Bt.of_same (S := []) s5).upd0 npH).same
        · rw [decide_eq_false hk]
          exact iteF (iteF (skip (fun z => hk z.1)))
      · rintro σ H4 ⟨y4, y7, k', done, rfl, hd, he, hp4, hw4, s4⟩
        rw [List.length_map, List.drop_length] at he hp4
        have e1 : done = dealt a ws := by
          rw [← he]
          unfold deal
          rw [List.append_nil]
        have e2 : done ++ bases a ws.sum [] = dealt a ws := by
          rw [e1]
          exact List.append_nil _
        rw [e2] at hp4
        refine ⟨_, rfl, pL, _, rfl, .inl ⟨sqL hp4, fun l nl => ?_⟩⟩
        exact q _ l (s4.trans (same_new nl)) (s4.free nl) upd_same
end
end Wd2

set_option Elab.async false
set_option linter.all false
set_option maxRecDepth 100000
set_option maxHeartbeats 4000000
set_option exponentiation.threshold 5000
namespace Wd2
open PySem PySem.Spec PyProof.Rows L2 WdM Wd
abbrev sPool : Stmt := topS 35
abbrev sTake : Stmt := topS 36
abbrev sLow : Stmt := topS 38
theorem scPool : FnScope ["_law_script", "_law_k", "_law_cell", "_law_more", "_law_found", "_law_turn"] ["_law_script", "_law_k"] (defScope sPool) := ⟨rfl, rfl, rfl, by decide +kernel, rfl, by decide +kernel, by decide +kernel⟩
theorem scTake : FnScope ["_law_pool_here", "_law_many", "_law_digit"] ["_law_pool_here", "_law_many"] (defScope sTake) := ⟨rfl, rfl, rfl, by decide +kernel, rfl, by decide +kernel, by decide +kernel⟩
theorem scLow : FnScope ["_law_top", "_law_bottom", "_law_a", "_law_b"] ["_law_top", "_law_bottom"] (defScope sLow) := ⟨rfl, rfl, rfl, by decide +kernel, rfl, by decide +kernel, by decide +kernel⟩
/-- the law's own built-ins -/
structure Bm (mg : Str → Option Value) : Prop where
  divmod : mg "divmod" = none
  range : mg "range" = none
  max : mg "max" = none
  min : mg "min" = none
  zip : mg "zip" = none
  list : mg "list" = none
def PoolAt (H : Hp) (l : Addr) : Prop := ∃ n : Int, H l = some (.lst [.int n]) ∧ 0 ≤ n ∧ n.natAbs < 2 ^ 1300
theorem PoolAt.lst {H : Hp} {l : Addr} (h : PoolAt H l) : ∀ a ∈ [l], ∃ zs, H a = some (.lst zs) := fun a ha => by
  obtain ⟨n, e, _⟩ := h
  rw [List.mem_singleton.mp ha]
  exact ⟨_, e⟩
theorem PoolAt.same {H H' : Hp} {l : Addr} (h : PoolAt H l) (e : Same H H') : PoolAt H' l := by
  obtain ⟨n, a, b⟩ := h
  exact ⟨n, e _ _ a, b⟩
theorem PoolAt.ne {H : Hp} {l p : Addr} (h : PoolAt H l) (e : H p = none) : l ≠ p := by
  obtain ⟨n, a, b⟩ := h
  exact ne_of_none a e
theorem PoolAt.upd {H : Hp} {l p : Addr} {o : HO} (h : PoolAt H l) (e : l ≠ p) : PoolAt (upd H p o) l := by
  obtain ⟨n, a, b⟩ := h
  exact ⟨n, by rw [upd_ne e]; exact a, b⟩
theorem kept {S : List Addr} {H H' : Hp} {b : Addr} {o : HO} (e : Bt S H H') (h : H b = some o) (n : b ∉ S) : H' b = some o := e b o n h
section
variable {P : Program} {w : World} {K : PySem.W.Frag} {mg : Str → Option Value} {base : Heap}
def spTake : Sp := fun vs H Q _ => ∃ (l : Addr) (m : Int), vs = [.ref l, .int m] ∧ PoolAt H l ∧ 0 < m ∧ ∀ H' d, Bt [l] H H' → PoolAt H' l → 0 ≤ d → d < m → Q (.int d) H'
theorem ok_take {f : Addr} {fd : FuncData} {k : Nat} (M : Bm mg) (D : Df K mg "_law_take" sTake f fd ["_law_pool_here", "_law_many"]) : FnOk P w K mg base CX0 (k + 1) f fd ["_law_pool_here", "_law_many"] spTake := by
  refine D.fn.ok scTake (fun vs H Q E h => ?_) (fun cdv A outer s H vs Q E hr h => ?_)
  · obtain ⟨l, m, rfl, _⟩ := h
    rfl
  · obtain ⟨l, m, rfl, ⟨n, hl, n0, nB⟩, m0, q⟩ := h
    refine ⟨_, pss_cons (ps_asg (pe_callB call_divmodW (by rfl) M.divmod (by decide +kernel) (pa_cons (pe_ix (r := rIxL K) ix_list (pv 0) pe_int (fun _ _ => rfl)) (pa_cons (pv 1) pa_nil)))
        (pg_tup rfl (pgs_cons (pg_sub (pv 0) pe_int set_list) (pgs_cons (pg_name (i := 2) scTake.nd rfl (.inl rfl)) pgs_nil))))
      (pss_one (ps_ret (pv 2))), ?_⟩
    refine ⟨_, rfl, l, _, 0, .int n, rfl, rfl, sqL hl, atI_nat (j := 0) rfl, _, rfl, n, m, rfl, divp_ok m0 ?_, fun p hp => ?_⟩
    · have := PyProof.Rows.intBits_le nB
      omega
    · have nlp : l ≠ p := ne_of_none hl hp
      have hl2 : (upd H p (.tup [.int (n / m), .int (n % m)])) l = some (.lst [.int n]) := by rw [upd_ne nlp]; exact hl
      refine ⟨p, _, rfl, sqT upd_same, rfl, _, _, rfl, _, rfl, l, _, 0, 0, rfl, rfl, hl2, ixN_nat (n := 1) (i := 0) (by decide), _, _, rfl, rfl, ?_⟩
      refine ⟨_, rfl, q _ _ (((Bt.refl H).new hp).upd1 (by simp)) ⟨n / m, upd_same, Int.ediv_nonneg n0 (Int.le_of_lt m0), ?_⟩ (Int.emod_nonneg n (by omega)) (Int.emod_lt_of_pos n m0)⟩
      exact wide_le (Int.ediv_nonneg n0 (Int.le_of_lt m0)) (Int.ediv_le_self _ n0) nB
def spLow : Sp := fun vs H Q _ => ∃ x y : Int, vs = [.int x, .int y] ∧ 0 ≤ x ∧ 0 < y ∧ y.natAbs < 2 ^ 64 ∧ ∀ (p : Addr) (f : Int × Int), H p = none → 0 ≤ f.1 → 0 < f.2 → Int.gcd f.1 f.2 = 1 → f.1 * y = x * f.2 → f.1 ≤ x → f.2 ≤ y → Q (.ref p) (upd H p (.tup [.int f.1, .int f.2]))
theorem low_math {x y : Int} (hx : 0 ≤ x) (hy : 0 < y) : 0 ≤ x / (Int.gcd x y : Int) ∧ 0 < y / (Int.gcd x y : Int) ∧ Int.gcd (x / (Int.gcd x y : Int)) (y / (Int.gcd x y : Int)) = 1 ∧ x / (Int.gcd x y : Int) * y = x * (y / (Int.gcd x y : Int)) ∧ x / (Int.gcd x y : Int) ≤ x ∧ y / (Int.gcd x y : Int) ≤ y := by
  have g0 := gcd_pos (a := x) hy
  obtain ⟨u, hu⟩ := Int.gcd_dvd_left x y
  obtain ⟨v, hv⟩ := Int.gcd_dvd_right x y
  have hg : Int.gcd (x / (Int.gcd x y : Int)) (y / (Int.gcd x y : Int)) = 1 := by
    exact Int.gcd_ediv_gcd_ediv_gcd (by omega)
  generalize (Int.gcd x y : Int) = g at *
  have e1 : x / g = u := by rw [hu]; exact Int.mul_ediv_cancel_left u (by omega)
  have e2 : y / g = v := by rw [hv]; exact Int.mul_ediv_cancel_left v (by omega)
  refine ⟨Int.ediv_nonneg hx (Int.le_of_lt g0), Int.ediv_pos_of_pos_of_dvd hy (Int.le_of_lt g0) ⟨v, hv⟩, hg, ?_, Int.ediv_le_self _ hx, Int.ediv_le_self _ (Int.le_of_lt hy)⟩
  rw [e1, e2]
  conv => lhs; rw [hv]
  conv => rhs; rw [hu]
  ac_rfl
theorem ok_low {f : Addr} {fd : FuncData} {k : Nat} (D : Df K mg "_law_low" sLow f fd ["_law_top", "_law_bottom"]) : FnOk P w K mg base CX0 (k + 1) f fd ["_law_top", "_law_bottom"] spLow := by
  refine D.fn.ok scLow (fun vs H Q E h => ?_) (fun cdv A outer s H vs Q E hr h => ?_)
  · obtain ⟨l, m, rfl, _⟩ := h
    rfl
  · obtain ⟨x, y, rfl, x0, y0, yB, q⟩ := h
    refine ⟨_, pss_cons (ps_par (i := 2) (j := 3) rfl scLow.nd rfl rfl (by decide) rfl rfl (pa_cons (pv 0) (pa_cons (pv 1) pa_nil)) (by rfl))
      (pss_cons (ps_while PassesOwn.never (pt_cmpR op_gt (pv 3) pe_int (nomark _))
        (pss_one (ps_par (i := 2) (j := 3) rfl scLow.nd rfl rfl (by decide) rfl rfl (pa_cons (pv 3) (pa_cons (pe_op op_mod (pv 2) (pv 3)) pa_nil)) (by rfl))))
      (pss_one (ps_ret (pe_tup (pa_cons (pe_op op_fdivW (pv 0) (pv 2)) (pa_cons (pe_op op_fdivW (pv 1) (pv 2)) pa_nil)))))), ?_⟩
    refine ⟨_, rfl, _, rfl, _, _, rfl, ?_⟩
    refine while_by (fun σ H' => ∃ a b : Int, σ = [some (.int x), some (.int y), some (.int a), some (.int b)] ∧ 0 ≤ a ∧ 0 ≤ b ∧ Int.gcd a b = Int.gcd x y ∧ H' = H)
      (fun σ _ => match σ with | [_, _, _, some (.int b)] => b.toNat | _ => 0) ⟨x, y, rfl, x0, Int.le_of_lt y0, rfl, rfl⟩ ?_ ?_
    · rintro σ H' ⟨a, b, rfl, ha, hb, hg, rfl⟩
      refine ⟨_, rfl, b, 0, rfl, rfl, _, rfl, ?_⟩
      by_cases hz : 0 < b
      · rw [decide_eq_true hz]
        refine iteT ?_
        refine ⟨_, rfl, _, rfl, _, rfl, a, b, rfl, rfl, hz, _, _, rfl, ⟨b, a % b, rfl, hb, Int.emod_nonneg a (by omega), ?_, rfl⟩, ?_⟩
        · rw [gcd_step ha hb, hg]
        · have := Int.emod_lt_of_pos a hz
          have := Int.emod_nonneg a (show b ≠ 0 by omega)
          show (a % b).toNat < b.toNat
          omega
      · rw [decide_eq_false hz]
        refine iteF ?_
        have hb0 : b = 0 := by omega
        subst hb0
        have e : a = (Int.gcd x y : Int) := by
          rw [← hg]
          exact (gcd_end ha).symm
        have g0 := gcd_pos (a := x) y0
        have gB := wide_le (Int.le_of_lt g0) (gcd_le (a := x) y0) yB
        subst e
        have ⟨m1, m2, m3, m4, m5, m6⟩ := low_math x0 y0
        refine ⟨_, rfl, _, rfl, x, _, rfl, rfl, wide_div g0 gB (by decide) (by decide), _, rfl, _, rfl, y, _, rfl, rfl, wide_div g0 gB (by decide) (by decide), by show 2 ≤ sizeLine; decide, fun p hp => ?_⟩
        exact q p (_, _) hp m1 m2 m3 m4 m5 m6
    · rintro σ H1 Q1 Q2 hq ⟨v, e, i, j, e1, e2, k, ek, z⟩
      exact ⟨v, e, i, j, e1, e2, k, ek, hq _ _ z⟩
def spPool (K : PySem.W.Frag) : Sp := fun vs H Q _ => ∃ (a : Addr) (ns : List Int) (i : Int), vs = [.ref a, .int i] ∧ SqL K H a (ns.map V.int) ∧ 0 ≤ i ∧ i < 64 ∧ ∀ H' l, Same H H' → H l = none → PoolAt H' l → Q (.ref l) H'
theorem found_step {f x : Int} {m : Nat} (h0 : 0 ≤ f) (h1 : f.natAbs < 2 ^ m) (h2 : 0 ≤ x) (h3 : x < 99999999977) : 0 ≤ f * 100000000000 + x ∧ (f * 100000000000 + x).natAbs < 2 ^ (m + 37) := by
  rw [Nat.pow_add]
  generalize 2 ^ m = B at *
  rw [show (2 : Nat) ^ 37 = 137438953472 by decide]
  omega
theorem cut_ints (ns : List Int) (lo hi : Option Int) : ∃ ms : List Int, cutV (ns.map V.int) lo hi = ms.map V.int := by
  unfold cutV
  exact ⟨(ns.drop _).take _, by rw [List.map_take, List.map_drop]⟩
theorem ok_pool {f : Addr} {fd : FuncData} {k : Nat} (B : Bl mg) (M : Bm mg) (D : Df K mg "_law_pool" sPool f fd ["_law_script", "_law_k"]) : FnOk P w K mg base CX0 (k + 1) f fd ["_law_script", "_law_k"] (spPool K) := by
  refine D.fn.ok scPool (fun vs H Q E h => ?_) (fun cdv A outer s H vs Q E hr h => ?_)
  · obtain ⟨l, m, i, rfl, _⟩ := h
    rfl
  · obtain ⟨a, ns, i, rfl, hs, i0, i1, q⟩ := h
    refine ⟨_, pss_cons (ps_set (i := 2) scPool.nd rfl (.inl rfl) (pe_callB (cr_sum rfl) (by rfl) B.sum (by decide +kernel) (pa_cons (pe_slice sl_list (pv 0) (po_some (pv 1)) (po_some (pe_op op_add (pv 1) pe_int))) pa_nil)))
      (pss_cons (ps_if (PW.pt (pw_or (pt_cmpR op_lt (pv 2) pe_int (nomark _)) (pw_or1 (pt_cmpR op_ge (pv 2) (pe_op op_pow pe_int pe_int) (nomark _)))))
        (pss_one (ps_ret (pe_lst (pa_cons (pe_op op_mod (pe_callB call_abs (by rfl) B.abs (by decide +kernel) (pa_cons (pv 2) pa_nil))
          (pe_op op_mulW (pe_op op_mulW (pe_op op_mulW (pe_op op_mulW (pe_op op_mulW (pe_op op_pow pe_int pe_int) (pe_op op_pow pe_int pe_int)) (pe_op op_pow pe_int pe_int)) (pe_op op_pow pe_int pe_int)) (pe_op op_pow pe_int pe_int)) (pe_op op_pow pe_int pe_int))) pa_nil)))) pss_nil)
      (pss_cons (ps_set (i := 3) scPool.nd rfl (.inl rfl) (pe_op op_add (pe_op op_add (pe_op op_mul (pv 2) pe_int) (pe_op op_mul (pe_op op_mul pe_int (pv 1)) (pv 1))) pe_int))
      (pss_cons (ps_set (i := 4) scPool.nd rfl (.inl rfl) pe_int)
      (pss_cons (ps_for PassesOwn.never rfl (pi_range1 (by rfl) M.range (pa_cons pe_int pa_nil)) (pg_name (i := 5) scPool.nd rfl (.inl rfl))
        (pss_cons (ps_set (i := 3) scPool.nd rfl (.inl rfl) (pe_op op_mod (pe_op op_add (pe_op op_add (pe_op op_mul (pe_op op_mod (pv 3) pe_int) pe_int) (pe_op op_mul pe_int (pv 5))) pe_int) pe_int))
        (pss_one (ps_set (i := 4) scPool.nd rfl (.inl rfl) (pe_op op_add (pe_op op_mulW (pv 4) (pe_op op_pow pe_int pe_int)) (pe_op op_mod (pe_op op_mul (pv 3) (pe_op op_add (pe_op op_mod (pv 3) pe_int) pe_int)) pe_int))))))
      (pss_one (ps_ret (pe_lst (pa_cons (pv 4) pa_nil)))))))), ?_⟩
    refine ⟨_, rfl, _, rfl, i, rfl, _, rfl, i, 1, rfl, rfl, i + 1, rfl, a, _, rfl, hs, fun p hp => ?_⟩
    obtain ⟨ms, em⟩ := cut_ints ns (some i) (some (i + 1))
    have sm : Same H (upd H p (.lst (cutV (ns.map V.int) (some i) (some (i + 1))))) := same_new hp
    refine ⟨p, ms, rfl, sqL (by rw [upd_same, em]), ?_⟩
    generalize ms.sum = c
    revert sm
    generalize upd H p (.lst (cutV (ns.map V.int) (some i) (some (i + 1)))) = H1
    intro sm
    refine ⟨_, rfl, c, 0, rfl, rfl, _, rfl, ?_⟩
    have huge : ∀ (Q2 : V → Hp → Prop), (∀ l n, H1 l = none → 0 ≤ n → n.natAbs < 2 ^ 1300 → Q2 (.ref l) (upd H1 l (.lst [.int n]))) →
        tLst (tCons (tOp (rI (fun _ j => 0 < j) fun i j => .int (i % j)) (tCB (fun xs H Q => ∃ i, xs = [.int i] ∧ Q (.int (if i < 0 then -i else i)) H) (tCons (tVar 2) tNil))
          (tOp (rI CMulW fun i j => .int (i * j)) (tOp (rI CMulW fun i j => .int (i * j)) (tOp (rI CMulW fun i j => .int (i * j)) (tOp (rI CMulW fun i j => .int (i * j)) (tOp (rI CMulW fun i j => .int (i * j)) (tOp (rI CPow fun i j => .int (i ^ j.toNat)) (tC (.int 10)) (tC (.int 64))) (tOp (rI CPow fun i j => .int (i ^ j.toNat)) (tC (.int 10)) (tC (.int 64)))) (tOp (rI CPow fun i j => .int (i ^ j.toNat)) (tC (.int 10)) (tC (.int 64)))) (tOp (rI CPow fun i j => .int (i ^ j.toNat)) (tC (.int 10)) (tC (.int 64)))) (tOp (rI CPow fun i j => .int (i ^ j.toNat)) (tC (.int 10)) (tC (.int 64)))) (tOp (rI CPow fun i j => .int (i ^ j.toNat)) (tC (.int 10)) (tC (.int 64))))) tNil)
          [some (.ref a), some (.int i), some (.int c), none, none, none] H1 Q2 := fun Q2 h => by
      have cp : CPow 10 64 := ⟨by decide, by decide, by decide⟩
      have t0 : ((10 : Int) ^ (64 : Int).toNat).natAbs < 2 ^ 213 := by decide
      have b0 : (0 : Int) < (10 : Int) ^ (64 : Int).toNat := by decide
      generalize he : (10 : Int) ^ (64 : Int).toNat = t at t0 b0
      have t1 := wide_lt t0 t0
      have t2 := wide_lt t1 t0
      have t3 := wide_lt t2 t0
      have t4 := wide_lt t3 t0
      have t5 := wide_lt t4 t0
      have b5 : 0 < t * t * t * t * t * t := Int.mul_pos (Int.mul_pos (Int.mul_pos (Int.mul_pos (Int.mul_pos b0 b0) b0) b0) b0) b0
      have hv := congrArg V.int he
      refine ⟨_, rfl, c, rfl, 10, 64, rfl, rfl, cp, 10, 64, rfl, rfl, cp, t, t, hv, hv, wide_mul t0 t0 (by decide) (by decide) (by decide), 10, 64, rfl, rfl, cp,
        t * t, t, rfl, hv, wide_mul t1 t0 (by decide) (by decide) (by decide), 10, 64, rfl, rfl, cp, t * t * t, t, rfl, hv, wide_mul t2 t0 (by decide) (by decide) (by decide), 10, 64, rfl, rfl, cp,
        t * t * t * t, t, rfl, hv, wide_mul t3 t0 (by decide) (by decide) (by decide), 10, 64, rfl, rfl, cp, t * t * t * t * t, t, rfl, hv, wide_mul t4 t0 (by decide) (by decide) (by decide),
        _, _, rfl, rfl, b5, by show 1 ≤ sizeLine; decide, fun l hl => h l _ hl (Int.emod_nonneg _ (by omega)) ?_⟩
      have := Int.emod_lt_of_pos (if c < 0 then -c else c) b5
      exact Nat.lt_of_lt_of_le (wide_le (Int.emod_nonneg _ (by omega)) (Int.le_of_lt this) t5) (pow_le (by decide))
    have fin : ∀ l n, H1 l = none → 0 ≤ n → n.natAbs < 2 ^ 1300 → Q (.ref l) (upd H1 l (.lst [.int n])) := fun l n hl h0 hB => q _ l (sm.trans (same_new hl)) (sm.free hl) ⟨n, upd_same, h0, hB⟩
    by_cases hneg : c < 0
    · rw [decide_eq_true hneg]
      exact iteT (iteT (huge Q fin))
    · rw [decide_eq_false hneg]
      refine iteF ⟨_, rfl, 10, 18, rfl, rfl, ⟨by decide, by decide, by decide⟩, c, _, rfl, rfl, _, rfl, ?_⟩
      by_cases hbig : (10 : Int) ^ (18 : Int).toNat ≤ c
      · rw [decide_eq_true hbig]
        exact iteT (huge Q fin)
      · rw [decide_eq_false hbig]
        have hc : c < 1000000000000000000 := by
          have : (10 : Int) ^ (18 : Int).toNat = 1000000000000000000 := by decide
          omega
        refine iteF ?_
        refine ⟨_, rfl, c, 48271, rfl, rfl, .inr ⟨by decide, by decide⟩, _, rfl, 977, i, rfl, rfl, .inl ⟨by decide, by decide⟩, _, rfl, _, i, rfl, rfl, .inr ⟨by omega, by omega⟩, _, _, rfl, rfl, _, 13, rfl, rfl, ?_⟩
        have m0 : 0 ≤ c * 48271 + 977 * i * i + 13 := by
          have := Int.mul_nonneg (show 0 ≤ 977 * i by omega) i0
          omega
        refine ⟨27, rfl, by decide, by decide, for_range (lo := 0) (n := 27) (fun j σ H' => ∃ (mm ff : Int) (y : Option V), σ = [some (.ref a), some (.int i), some (.int c), some (.int mm), some (.int ff), y] ∧ 0 ≤ mm ∧ 0 ≤ ff ∧ ff.natAbs < 2 ^ (37 * j) ∧ H' = H1)
          ⟨_, 0, none, rfl, m0, Int.le_refl 0, by decide, rfl⟩ ?_ ?_⟩
        · rintro j σ H' hj ⟨mm, ff, y, rfl, g1, g2, g3, rfl⟩
          have r0 := Int.emod_nonneg mm (show (999999999989 : Int) ≠ 0 by decide)
          have r1 := Int.emod_lt_of_pos mm (show (0 : Int) < 999999999989 by decide)
          refine ⟨_, rfl, mm, 999999999989, rfl, rfl, by show (0 : Int) < 999999999989; decide, _, 69621, rfl, rfl, .inr ⟨by decide, by decide⟩, _, rfl, 40503, _, rfl, rfl, .inl ⟨by decide, by decide⟩, _, _, rfl, rfl, _, 271, rfl, rfl, _, 999999999989, rfl, rfl, by show (0 : Int) < 999999999989; decide, ?_⟩
          have s0 := Int.emod_nonneg (mm % 999999999989 * 69621 + 40503 * (0 + (j : Int)) + 271) (show (999999999989 : Int) ≠ 0 by decide)
          have s1 := Int.emod_lt_of_pos (mm % 999999999989 * 69621 + 40503 * (0 + (j : Int)) + 271) (show (0 : Int) < 999999999989 by decide)
          have fB : ff.natAbs < 2 ^ 1000 := Nat.lt_of_lt_of_le g3 (pow_le (by omega))
          refine ⟨_, rfl, 10, 11, rfl, rfl, ⟨by decide, by decide, by decide⟩, ff, _, rfl, rfl, wide_mul fB (show ((10 : Int) ^ (11 : Int).toNat).natAbs < 2 ^ 64 by decide) (by decide) (by decide) (by decide), _, rfl, _, rfl, _, 65537, rfl, rfl, by show (0 : Int) < 65537; decide, _, 3, rfl, rfl, _, _, rfl, rfl, .inl ⟨Int.lt_of_lt_of_le (by decide) s0, Int.lt_trans s1 (by decide)⟩, _, 99999999977, rfl, rfl, by show (0 : Int) < 99999999977; decide, _, _, rfl, rfl, ?_⟩
          refine ⟨_, _, _, rfl, s0, ?_, ?_, rfl⟩
          · exact (found_step g2 g3 (Int.emod_nonneg _ (by decide)) (Int.emod_lt_of_pos _ (by decide))).1
          · exact (found_step g2 g3 (Int.emod_nonneg _ (by decide)) (Int.emod_lt_of_pos _ (by decide))).2
        · rintro σ H' ⟨mm, ff, y, rfl, g1, g2, g3, rfl⟩
          exact ⟨_, rfl, by show 1 ≤ sizeLine; decide, fun l hl => fin l ff hl g2 (Nat.lt_of_lt_of_le g3 (pow_le (by decide)))⟩
end
end Wd2

set_option Elab.async false
set_option linter.all false
set_option maxRecDepth 100000
set_option maxHeartbeats 4000000
set_option exponentiation.threshold 5000
namespace Wd2
open PySem PySem.Spec PyProof.Rows L2 WdM Wd
abbrev sSort : Stmt := topS 37
theorem scSort : FnScope ["_law_caught", "_law_kinds", "_law_words", "_law_at", "_law_families", "_law_own", "_law_due"] ["_law_caught"] (defScope sSort) := ⟨rfl, rfl, rfl, by decide +kernel, rfl, by decide +kernel, by decide +kernel⟩
/-- the classes of the errors, by the law's own order; 21, 22, 23: the families -/
structure ClsF (mg : Str → Option Value) (C : Nat → Addr) : Prop where
  g0 : mg "NoName" = some (.ref (C 0))
  g1 : mg "NoSum" = some (.ref (C 1))
  g2 : mg "NoShares" = some (.ref (C 2))
  g3 : mg "NoPeople" = some (.ref (C 3))
  g4 : mg "NoGoods" = some (.ref (C 4))
  g5 : mg "NoText" = some (.ref (C 5))
  g6 : mg "NoStory" = some (.ref (C 6))
  g7 : mg "NoDay" = some (.ref (C 7))
  g8 : mg "NoCond" = some (.ref (C 8))
  g9 : mg "NoWhom" = some (.ref (C 9))
  g10 : mg "NoClause" = some (.ref (C 10))
  g11 : mg "NoReading" = some (.ref (C 11))
  g12 : mg "NoWord" = some (.ref (C 12))
  g13 : mg "LabelStands" = some (.ref (C 13))
  g14 : mg "DayStands" = some (.ref (C 14))
  g15 : mg "NoRow" = some (.ref (C 15))
  g16 : mg "NoPerson" = some (.ref (C 16))
  g17 : mg "NoThing" = some (.ref (C 17))
  g18 : mg "NoLabel" = some (.ref (C 18))
  g19 : mg "NoUndo" = some (.ref (C 19))
  g20 : mg "TooMany" = some (.ref (C 20))
  g21 : mg "WordError" = some (.ref (C 21))
  g22 : mg "LostError" = some (.ref (C 22))
  g23 : mg "RoomError" = some (.ref (C 23))
  bV : mg "ValueError" = none
  bL : mg "LookupError" = none
  bA : mg "ArithmeticError" = none
/-- what an error of the class at D is an instance of: of the n-th one, of WordError and ValueError -/
structure KitF (K : PySem.W.Frag) (D : Addr) (C : Nat → Addr) (n : Nat) : Prop where
  kit : ∀ j, j < 21 → PySem.W.kitOne K (.ref D) (.ref (C j)) = some (decide (j = n))
  w : PySem.W.kitOne K (.ref D) (.ref (C 21)) = some true
  l : PySem.W.kitOne K (.ref D) (.ref (C 22)) = some false
  r : PySem.W.kitOne K (.ref D) (.ref (C 23)) = some false
  vV : PySem.W.kitOne K (.ref D) (.type "ValueError") = some true
  vL : PySem.W.kitOne K (.ref D) (.type "LookupError") = some false
  vA : PySem.W.kitOne K (.ref D) (.type "ArithmeticError") = some false
section
variable {P : Program} {w : World} {K : PySem.W.Frag} {mg : Str → Option Value} {base : Heap}
/-- what isinstance wants of a kept error -/
structure Kept (K : PySem.W.Frag) (H : Hp) (a D : Addr) (d : Option Addr) : Prop where
  at_ : H a = some (ExT a (.ref D) d)
  xd : ∀ dx, d = some dx → ∃ fs, H dx = some (.xd fs)
  cls : ExcC K D
theorem Kept.same {H H' : Hp} {a D : Addr} {d : Option Addr} (h : Kept K H a D d) (e : Same H H') : Kept K H' a D d := ⟨e _ _ h.at_, fun dx z => (h.xd dx z).elim fun fs q => ⟨fs, e _ _ q⟩, h.cls⟩
theorem data3 {H : Hp} {z : Addr} (h : H z = some (.lst [.bl true, .bl false, .bl false])) : Dp K H (.ref z) (.list [.bool true, .bool false, .bool false]) := .lst (sqL h) (.cons (.bl _) (.cons (.bl _) (.cons (.bl _) .nil)))
theorem shp3 : SeqAt.shaped (.list [.bool true, .bool false, .bool false]) = true := by decide
theorem eqq3 : (!PyData.eqv (.list [.bool true, .bool false, .bool false]) (.list [.bool true, .bool false, .bool false])) = false := by decide
def spSort (K : PySem.W.Frag) (C : Nat → Addr) : Sp := fun vs H Q _ => ∃ (a D : Addr) (d : Option Addr) (n : Nat), vs = [.ref a] ∧ Kept K H a D d ∧ KitF K D C n ∧ (n = 1 ∨ n = 2) ∧ ∀ H', Same H H' → Q (.str (if n = 1 then "sum" else "shares")) H'
theorem PE.wk {X : Cx} {e : Expr} {t t' : TE} (h : PE X e t) (w : ∀ σ H Q, t' σ H Q → t σ H Q) : PE X e t' := ⟨fun pins s σ H Q I hw => h.run pins s σ H Q I (w _ _ _ hw)⟩
/-- three questions of a kept error: the answers in a list of its own -/
def tThree (K : PySem.W.Frag) (c0 c1 c2 : Value) : TE := fun σ H Q => ∃ (a D : Addr) (d : Option Addr) (b0 b1 b2 : Bool), σ[0]? = some (some (.ref a)) ∧ Kept K H a D d ∧ PySem.W.kitOne K (.ref D) c0 = some b0 ∧ PySem.W.kitOne K (.ref D) c1 = some b1 ∧ PySem.W.kitOne K (.ref D) c2 = some b2 ∧ ∀ p H', Same H H' → H' p = some (.lst [.bl b0, .bl b1, .bl b2]) → Q (.ref p) H'
def tCat3 (K : PySem.W.Frag) (c0 c1 c2 : Addr) : TE := fun σ H Q => ∃ (a D : Addr) (d : Option Addr) (b0 b1 b2 : Bool) (p : Addr) (xs : List V), σ[0]? = some (some (.ref a)) ∧ Kept K H a D d ∧ PySem.W.kitOne K (.ref D) (.ref c0) = some b0 ∧ PySem.W.kitOne K (.ref D) (.ref c1) = some b1 ∧ PySem.W.kitOne K (.ref D) (.ref c2) = some b2 ∧ σ[1]? = some (some (.ref p)) ∧ H p = some (.lst xs) ∧ (xs.length + 3 ≤ 100) ∧ ∀ p' H', Same H H' → H' p' = some (.lst (xs ++ [.bl b0, .bl b1, .bl b2])) → Q (.ref p') H'
def tWords (ws : List V) : TE := fun σ H Q => ∀ p H', Same H H' → H' p = some (.lst ws) → Q (.ref p) H'
def tCatW (i : Nat) (ws : List V) : TE := fun σ H Q => ∃ p xs, σ[i]? = some (some (.ref p)) ∧ H p = some (.lst xs) ∧ (xs.length + ws.length ≤ 100) ∧ ∀ p' H', Same H H' → H' p' = some (.lst (xs ++ ws)) → Q (.ref p') H'
def wsA : List V := [.str "name", .str "sum", .str "shares", .str "people", .str "goods", .str "text", .str "story", .str "day", .str "cond", .str "whom", .str "clause", .str "reading"]
def wsB : List V := [.str "word", .str "label stands", .str "day stands", .str "row", .str "person", .str "thing", .str "label", .str "undo", .str "many"]
theorem ok_sort {C : Nat → Addr} {f : Addr} {fd : FuncData} {k : Nat} (B : Bl mg) (M : Bm mg) (T : ClsF mg C) (D : Df K mg "_law_sort" sSort f fd ["_law_caught"]) : FnOk P w K mg base CX0 (k + 1) f fd ["_law_caught"] (spSort K C) := by
  refine D.fn.ok scSort (fun vs H Q E h => ?_) (fun cdv A outer s H vs Q E hr h => ?_)
  · obtain ⟨a, D, d, n, rfl, _⟩ := h
    rfl
  · obtain ⟨a, D, d, n, rfl, kp, KF, hn, q⟩ := h
    have hu := hr.units
    refine ⟨_, pss_cons (ps_set (i := 1) scSort.nd rfl (.inl rfl) (PE.wk (t' := tThree K (.ref (C 0)) (.ref (C 1)) (.ref (C 2))) (pe_lst (pa_cons (pe_callB call_isT (by rfl) B.isi boot_isinstance (pa_cons (pv 0) (pa_cons (pe_glob (v := .ref (C 0)) (by rfl) T.g0 rfl) pa_nil))) (pa_cons (pe_callB call_isT (by rfl) B.isi boot_isinstance (pa_cons (pv 0) (pa_cons (pe_glob (v := .ref (C 1)) (by rfl) T.g1 rfl) pa_nil))) (pa_cons (pe_callB call_isT (by rfl) B.isi boot_isinstance (pa_cons (pv 0) (pa_cons (pe_glob (v := .ref (C 2)) (by rfl) T.g2 rfl) pa_nil))) pa_nil)))) (by (rintro σ H Q ⟨a, D, d, b0, b1, b2, h0, kp, e0, e1, e2, q⟩; exact ⟨_, h0, a, D, d, _, _, _, rfl, kp.at_, kp.xd, kp.cls, .own _, e0, _, h0, a, D, d, _, _, _, rfl, kp.at_, kp.xd, kp.cls, .own _, e1, _, h0, a, D, d, _, _, _, rfl, kp.at_, kp.xd, kp.cls, .own _, e2, by show 3 ≤ sizeLine; decide, fun p n => q p _ (same_new n) upd_same⟩))))
      (pss_cons (ps_set (i := 1) scSort.nd rfl (.inl rfl) (PE.wk (t' := tCat3 K (C 3) (C 4) (C 5)) (pe_op op_cat (pv 1) (pe_lst (pa_cons (pe_callB call_isT (by rfl) B.isi boot_isinstance (pa_cons (pv 0) (pa_cons (pe_glob (v := .ref (C 3)) (by rfl) T.g3 rfl) pa_nil))) (pa_cons (pe_callB call_isT (by rfl) B.isi boot_isinstance (pa_cons (pv 0) (pa_cons (pe_glob (v := .ref (C 4)) (by rfl) T.g4 rfl) pa_nil))) (pa_cons (pe_callB call_isT (by rfl) B.isi boot_isinstance (pa_cons (pv 0) (pa_cons (pe_glob (v := .ref (C 5)) (by rfl) T.g5 rfl) pa_nil))) pa_nil))))) (by (rintro σ H Q ⟨a, D, d, b0, b1, b2, p, xs, h0, kp, e0, e1, e2, h1, l, sz, q⟩; exact ⟨_, h1, _, h0, a, D, d, _, _, _, rfl, kp.at_, kp.xd, kp.cls, .own _, e0, _, h0, a, D, d, _, _, _, rfl, kp.at_, kp.xd, kp.cls, .own _, e1, _, h0, a, D, d, _, _, _, rfl, kp.at_, kp.xd, kp.cls, .own _, e2, by show 3 ≤ sizeLine; decide, fun p1 n1 => ⟨p, p1, xs, _, rfl, rfl, same_new n1 _ _ l, upd_same, (by show xs.length + 3 ≤ sizeLine; exact Nat.le_trans sz (by decide)), fun p2 n2 => q p2 _ ((same_new n1).trans (same_new n2)) upd_same⟩⟩))))
      (pss_cons (ps_set (i := 1) scSort.nd rfl (.inl rfl) (PE.wk (t' := tCat3 K (C 6) (C 7) (C 8)) (pe_op op_cat (pv 1) (pe_lst (pa_cons (pe_callB call_isT (by rfl) B.isi boot_isinstance (pa_cons (pv 0) (pa_cons (pe_glob (v := .ref (C 6)) (by rfl) T.g6 rfl) pa_nil))) (pa_cons (pe_callB call_isT (by rfl) B.isi boot_isinstance (pa_cons (pv 0) (pa_cons (pe_glob (v := .ref (C 7)) (by rfl) T.g7 rfl) pa_nil))) (pa_cons (pe_callB call_isT (by rfl) B.isi boot_isinstance (pa_cons (pv 0) (pa_cons (pe_glob (v := .ref (C 8)) (by rfl) T.g8 rfl) pa_nil))) pa_nil))))) (by (rintro σ H Q ⟨a, D, d, b0, b1, b2, p, xs, h0, kp, e0, e1, e2, h1, l, sz, q⟩; exact ⟨_, h1, _, h0, a, D, d, _, _, _, rfl, kp.at_, kp.xd, kp.cls, .own _, e0, _, h0, a, D, d, _, _, _, rfl, kp.at_, kp.xd, kp.cls, .own _, e1, _, h0, a, D, d, _, _, _, rfl, kp.at_, kp.xd, kp.cls, .own _, e2, by show 3 ≤ sizeLine; decide, fun p1 n1 => ⟨p, p1, xs, _, rfl, rfl, same_new n1 _ _ l, upd_same, (by show xs.length + 3 ≤ sizeLine; exact Nat.le_trans sz (by decide)), fun p2 n2 => q p2 _ ((same_new n1).trans (same_new n2)) upd_same⟩⟩))))
      (pss_cons (ps_set (i := 1) scSort.nd rfl (.inl rfl) (PE.wk (t' := tCat3 K (C 9) (C 10) (C 11)) (pe_op op_cat (pv 1) (pe_lst (pa_cons (pe_callB call_isT (by rfl) B.isi boot_isinstance (pa_cons (pv 0) (pa_cons (pe_glob (v := .ref (C 9)) (by rfl) T.g9 rfl) pa_nil))) (pa_cons (pe_callB call_isT (by rfl) B.isi boot_isinstance (pa_cons (pv 0) (pa_cons (pe_glob (v := .ref (C 10)) (by rfl) T.g10 rfl) pa_nil))) (pa_cons (pe_callB call_isT (by rfl) B.isi boot_isinstance (pa_cons (pv 0) (pa_cons (pe_glob (v := .ref (C 11)) (by rfl) T.g11 rfl) pa_nil))) pa_nil))))) (by (rintro σ H Q ⟨a, D, d, b0, b1, b2, p, xs, h0, kp, e0, e1, e2, h1, l, sz, q⟩; exact ⟨_, h1, _, h0, a, D, d, _, _, _, rfl, kp.at_, kp.xd, kp.cls, .own _, e0, _, h0, a, D, d, _, _, _, rfl, kp.at_, kp.xd, kp.cls, .own _, e1, _, h0, a, D, d, _, _, _, rfl, kp.at_, kp.xd, kp.cls, .own _, e2, by show 3 ≤ sizeLine; decide, fun p1 n1 => ⟨p, p1, xs, _, rfl, rfl, same_new n1 _ _ l, upd_same, (by show xs.length + 3 ≤ sizeLine; exact Nat.le_trans sz (by decide)), fun p2 n2 => q p2 _ ((same_new n1).trans (same_new n2)) upd_same⟩⟩))))
      (pss_cons (ps_set (i := 1) scSort.nd rfl (.inl rfl) (PE.wk (t' := tCat3 K (C 12) (C 13) (C 14)) (pe_op op_cat (pv 1) (pe_lst (pa_cons (pe_callB call_isT (by rfl) B.isi boot_isinstance (pa_cons (pv 0) (pa_cons (pe_glob (v := .ref (C 12)) (by rfl) T.g12 rfl) pa_nil))) (pa_cons (pe_callB call_isT (by rfl) B.isi boot_isinstance (pa_cons (pv 0) (pa_cons (pe_glob (v := .ref (C 13)) (by rfl) T.g13 rfl) pa_nil))) (pa_cons (pe_callB call_isT (by rfl) B.isi boot_isinstance (pa_cons (pv 0) (pa_cons (pe_glob (v := .ref (C 14)) (by rfl) T.g14 rfl) pa_nil))) pa_nil))))) (by (rintro σ H Q ⟨a, D, d, b0, b1, b2, p, xs, h0, kp, e0, e1, e2, h1, l, sz, q⟩; exact ⟨_, h1, _, h0, a, D, d, _, _, _, rfl, kp.at_, kp.xd, kp.cls, .own _, e0, _, h0, a, D, d, _, _, _, rfl, kp.at_, kp.xd, kp.cls, .own _, e1, _, h0, a, D, d, _, _, _, rfl, kp.at_, kp.xd, kp.cls, .own _, e2, by show 3 ≤ sizeLine; decide, fun p1 n1 => ⟨p, p1, xs, _, rfl, rfl, same_new n1 _ _ l, upd_same, (by show xs.length + 3 ≤ sizeLine; exact Nat.le_trans sz (by decide)), fun p2 n2 => q p2 _ ((same_new n1).trans (same_new n2)) upd_same⟩⟩))))
      (pss_cons (ps_set (i := 1) scSort.nd rfl (.inl rfl) (PE.wk (t' := tCat3 K (C 15) (C 16) (C 17)) (pe_op op_cat (pv 1) (pe_lst (pa_cons (pe_callB call_isT (by rfl) B.isi boot_isinstance (pa_cons (pv 0) (pa_cons (pe_glob (v := .ref (C 15)) (by rfl) T.g15 rfl) pa_nil))) (pa_cons (pe_callB call_isT (by rfl) B.isi boot_isinstance (pa_cons (pv 0) (pa_cons (pe_glob (v := .ref (C 16)) (by rfl) T.g16 rfl) pa_nil))) (pa_cons (pe_callB call_isT (by rfl) B.isi boot_isinstance (pa_cons (pv 0) (pa_cons (pe_glob (v := .ref (C 17)) (by rfl) T.g17 rfl) pa_nil))) pa_nil))))) (by (rintro σ H Q ⟨a, D, d, b0, b1, b2, p, xs, h0, kp, e0, e1, e2, h1, l, sz, q⟩; exact ⟨_, h1, _, h0, a, D, d, _, _, _, rfl, kp.at_, kp.xd, kp.cls, .own _, e0, _, h0, a, D, d, _, _, _, rfl, kp.at_, kp.xd, kp.cls, .own _, e1, _, h0, a, D, d, _, _, _, rfl, kp.at_, kp.xd, kp.cls, .own _, e2, by show 3 ≤ sizeLine; decide, fun p1 n1 => ⟨p, p1, xs, _, rfl, rfl, same_new n1 _ _ l, upd_same, (by show xs.length + 3 ≤ sizeLine; exact Nat.le_trans sz (by decide)), fun p2 n2 => q p2 _ ((same_new n1).trans (same_new n2)) upd_same⟩⟩))))
      (pss_cons (ps_set (i := 1) scSort.nd rfl (.inl rfl) (PE.wk (t' := tCat3 K (C 18) (C 19) (C 20)) (pe_op op_cat (pv 1) (pe_lst (pa_cons (pe_callB call_isT (by rfl) B.isi boot_isinstance (pa_cons (pv 0) (pa_cons (pe_glob (v := .ref (C 18)) (by rfl) T.g18 rfl) pa_nil))) (pa_cons (pe_callB call_isT (by rfl) B.isi boot_isinstance (pa_cons (pv 0) (pa_cons (pe_glob (v := .ref (C 19)) (by rfl) T.g19 rfl) pa_nil))) (pa_cons (pe_callB call_isT (by rfl) B.isi boot_isinstance (pa_cons (pv 0) (pa_cons (pe_glob (v := .ref (C 20)) (by rfl) T.g20 rfl) pa_nil))) pa_nil))))) (by (rintro σ H Q ⟨a, D, d, b0, b1, b2, p, xs, h0, kp, e0, e1, e2, h1, l, sz, q⟩; exact ⟨_, h1, _, h0, a, D, d, _, _, _, rfl, kp.at_, kp.xd, kp.cls, .own _, e0, _, h0, a, D, d, _, _, _, rfl, kp.at_, kp.xd, kp.cls, .own _, e1, _, h0, a, D, d, _, _, _, rfl, kp.at_, kp.xd, kp.cls, .own _, e2, by show 3 ≤ sizeLine; decide, fun p1 n1 => ⟨p, p1, xs, _, rfl, rfl, same_new n1 _ _ l, upd_same, (by show xs.length + 3 ≤ sizeLine; exact Nat.le_trans sz (by decide)), fun p2 n2 => q p2 _ ((same_new n1).trans (same_new n2)) upd_same⟩⟩))))
      (pss_cons (ps_set (i := 2) scSort.nd rfl (.inl rfl) (PE.wk (t' := tWords wsA) (pe_lst (pa_cons pe_str (pa_cons pe_str (pa_cons pe_str (pa_cons pe_str (pa_cons pe_str (pa_cons pe_str (pa_cons pe_str (pa_cons pe_str (pa_cons pe_str (pa_cons pe_str (pa_cons pe_str (pa_cons pe_str pa_nil))))))))))))) (by (intro σ H Q q; exact ⟨by show wsA.length ≤ sizeLine; decide, fun p n => q p _ (same_new n) upd_same⟩))))
      (pss_cons (ps_set (i := 2) scSort.nd rfl (.inl rfl) (PE.wk (t' := tCatW 2 wsB) (pe_op op_cat (pv 2) (pe_lst (pa_cons pe_str (pa_cons pe_str (pa_cons pe_str (pa_cons pe_str (pa_cons pe_str (pa_cons pe_str (pa_cons pe_str (pa_cons pe_str (pa_cons pe_str pa_nil))))))))))) (by (rintro σ H Q ⟨p, xs, h1, l, sz, q⟩; exact ⟨_, h1, by show 9 ≤ sizeLine; decide, fun p1 n1 => ⟨p, p1, xs, _, rfl, rfl, same_new n1 _ _ l, upd_same, (by show xs.length + 9 ≤ sizeLine; exact Nat.le_trans sz (by decide)), fun p2 n2 => q p2 _ ((same_new n1).trans (same_new n2)) upd_same⟩⟩))))
      (pss_cons (ps_if (pt_cmpR op_ne (pe_bm PySem.F.plainAttrs_list PySem.F.slot_list_count PySem.F.type_list_count mt_cnt (pv 1) (pa_cons pe_bl pa_nil)) pe_int (nomark _)) (pss_one (ps_ret pe_str)) pss_nil)
      (pss_cons (ps_set (i := 3) scSort.nd rfl (.inl rfl) (pe_bm PySem.F.plainAttrs_list PySem.F.slot_list_index PySem.F.type_list_index mt_index (pv 1) (pa_cons pe_bl pa_nil)))
      (pss_cons (ps_set (i := 4) scSort.nd rfl (.inl rfl) (PE.wk (t' := tThree K (.ref (C 21)) (.ref (C 22)) (.ref (C 23))) (pe_lst (pa_cons (pe_callB call_isT (by rfl) B.isi boot_isinstance (pa_cons (pv 0) (pa_cons (pe_glob (v := .ref (C 21)) (by rfl) T.g21 rfl) pa_nil))) (pa_cons (pe_callB call_isT (by rfl) B.isi boot_isinstance (pa_cons (pv 0) (pa_cons (pe_glob (v := .ref (C 22)) (by rfl) T.g22 rfl) pa_nil))) (pa_cons (pe_callB call_isT (by rfl) B.isi boot_isinstance (pa_cons (pv 0) (pa_cons (pe_glob (v := .ref (C 23)) (by rfl) T.g23 rfl) pa_nil))) pa_nil)))) (by (rintro σ H Q ⟨a, D, d, b0, b1, b2, h0, kp, e0, e1, e2, q⟩; exact ⟨_, h0, a, D, d, _, _, _, rfl, kp.at_, kp.xd, kp.cls, .own _, e0, _, h0, a, D, d, _, _, _, rfl, kp.at_, kp.xd, kp.cls, .own _, e1, _, h0, a, D, d, _, _, _, rfl, kp.at_, kp.xd, kp.cls, .own _, e2, by show 3 ≤ sizeLine; decide, fun p n => q p _ (same_new n) upd_same⟩))))
      (pss_cons (ps_set (i := 5) scSort.nd rfl (.inl rfl) (PE.wk (t' := tThree K (.type "ValueError") (.type "LookupError") (.type "ArithmeticError")) (pe_lst (pa_cons (pe_callB call_isT (by rfl) B.isi boot_isinstance (pa_cons (pv 0) (pa_cons (pe_bltn (v := .ty "ValueError") (by rfl) T.bV (by decide +kernel) rfl) pa_nil))) (pa_cons (pe_callB call_isT (by rfl) B.isi boot_isinstance (pa_cons (pv 0) (pa_cons (pe_bltn (v := .ty "LookupError") (by rfl) T.bL (by decide +kernel) rfl) pa_nil))) (pa_cons (pe_callB call_isT (by rfl) B.isi boot_isinstance (pa_cons (pv 0) (pa_cons (pe_bltn (v := .ty "ArithmeticError") (by rfl) T.bA (by decide +kernel) rfl) pa_nil))) pa_nil)))) (by (rintro σ H Q ⟨a, D, d, b0, b1, b2, h0, kp, e0, e1, e2, q⟩; exact ⟨_, h0, a, D, d, _, _, _, rfl, kp.at_, kp.xd, kp.cls, .ty _, e0, _, h0, a, D, d, _, _, _, rfl, kp.at_, kp.xd, kp.cls, .ty _, e1, _, h0, a, D, d, _, _, _, rfl, kp.at_, kp.xd, kp.cls, .ty _, e2, by show 3 ≤ sizeLine; decide, fun p n => q p _ (same_new n) upd_same⟩))))
      (pss_cons (ps_set (i := 6) scSort.nd rfl (.inl rfl) (pe_lst (pa_cons (pe_cmpR op_lt (pv 3) pe_int (nomark _)) (pa_cons (pe_chain op_le op_lt pe_int (pv 3) pe_int) (pa_cons (pe_cmpR op_eq (pv 3) pe_int (nomark _)) pa_nil)))))
      (pss_one (ps_ret (pe_ix (r := rIxL K) ix_list (pe_lst (pa_cons (pe_ix (r := rIxL K) ix_list (pv 2) (pv 3) (fun _ _ => rfl)) (pa_cons pe_str pa_nil))) (pe_callTy call_int1 (by rfl) B.int boot_int (pa_cons (pe_or (pe_cmpR (op_neD hu) (pv 4) (pv 6) (nomark _)) (pe_one (pe_cmpR (op_neD hu) (pv 5) (pv 6) (nomark _)))) pa_nil)) (fun _ _ => rfl))))))))))))))))), ?_⟩
    refine ⟨a, D, d, _, _, _, rfl, kp, KF.kit 0 (by decide), KF.kit 1 (by decide), KF.kit 2 (by decide), fun p0 H0 s0 l0 => ?_⟩
    refine ⟨a, D, d, _, _, _, p0, _, rfl, kp.same s0, KF.kit 3 (by decide), KF.kit 4 (by decide), KF.kit 5 (by decide), rfl, l0, Nat.le_of_ble_eq_true rfl, fun p1 H1 t1 l1 => ?_⟩
    have s1 := s0.trans t1
    refine ⟨a, D, d, _, _, _, p1, _, rfl, kp.same s1, KF.kit 6 (by decide), KF.kit 7 (by decide), KF.kit 8 (by decide), rfl, l1, Nat.le_of_ble_eq_true rfl, fun p2 H2 t2 l2 => ?_⟩
    have s2 := s1.trans t2
    refine ⟨a, D, d, _, _, _, p2, _, rfl, kp.same s2, KF.kit 9 (by decide), KF.kit 10 (by decide), KF.kit 11 (by decide), rfl, l2, Nat.le_of_ble_eq_true rfl, fun p3 H3 t3 l3 => ?_⟩
    have s3 := s2.trans t3
    refine ⟨a, D, d, _, _, _, p3, _, rfl, kp.same s3, KF.kit 12 (by decide), KF.kit 13 (by decide), KF.kit 14 (by decide), rfl, l3, Nat.le_of_ble_eq_true rfl, fun p4 H4 t4 l4 => ?_⟩
    have s4 := s3.trans t4
    refine ⟨a, D, d, _, _, _, p4, _, rfl, kp.same s4, KF.kit 15 (by decide), KF.kit 16 (by decide), KF.kit 17 (by decide), rfl, l4, Nat.le_of_ble_eq_true rfl, fun p5 H5 t5 l5 => ?_⟩
    have s5 := s4.trans t5
    refine ⟨a, D, d, _, _, _, p5, _, rfl, kp.same s5, KF.kit 18 (by decide), KF.kit 19 (by decide), KF.kit 20 (by decide), rfl, l5, Nat.le_of_ble_eq_true rfl, fun p6 H6 t6 l6 => ?_⟩
    have s6 := s5.trans t6
    intro w1 H7 t7 m1
    refine ⟨w1, _, rfl, m1, Nat.le_of_ble_eq_true rfl, fun w2 H8 t8 m2 => ?_⟩
    have l8 := t8 _ _ (t7 _ _ l6)
    have s8 := s6.trans (t7.trans t8)
    have k8 := kp.same s8
    clear l0 l1 l2 l3 l4 l5 l6 s0 s1 s2 s3 s4 s5 s6 t1 t2 t3 t4 t5 t6 m1 t7 t8 kp
    rcases hn with rfl | rfl
    · refine ⟨_, rfl, .inl ⟨rfl, _, sqL l8⟩, p6, _, _, rfl, rfl, sqL l8, rfl, rfl, rfl, _, rfl, iteF ?_⟩
      refine ⟨_, rfl, .inl ⟨rfl, _, sqL l8⟩, p6, _, _, 1, _, rfl, rfl, sqL l8, rfl, rfl, rfl, rfl, (fun m z hm hz => by
        match m, hm, hz with
        | 0, _, hz => (cases hz; rfl)
        | m + 1, hm, _ => exact absurd hm (by omega)), ?_⟩
      refine ⟨a, D, d, _, _, _, rfl, k8, KF.w, KF.l, KF.r, fun f1 H9 t9 lf => ?_⟩
      refine ⟨a, D, d, _, _, _, rfl, k8.same t9, KF.vV, KF.vL, KF.vA, fun f2 H10 t10 lo => ?_⟩
      have lf' := t10 _ _ lf
      have m3 := t10 _ _ (t9 _ _ m2)
      have s10 := s8.trans (t9.trans t10)
      clear l8 t9 t10 lf s8 m2 k8
      refine ⟨_, rfl, 1, 16, rfl, rfl, _, rfl, 16, 1, rfl, rfl, _, rfl, iteF ⟨_, rfl, rfl, by show 3 ≤ sizeLine; decide, fun d1 nd1 => ?_⟩⟩
      have s11 : Same H10 (upd H10 d1 (.lst [.bl (decide ((1 : Int) < 16)), .bl false, .bl (decide (V.int 1 = V.int 20))])) := same_new nd1
      have ld : (upd H10 d1 (.lst [.bl (decide ((1 : Int) < 16)), .bl false, .bl (decide (V.int 1 = V.int 20))])) d1 = some (.lst [.bl true, .bl false, .bl false]) := upd_same
      revert s11 ld
      generalize (upd H10 d1 (.lst [.bl (decide ((1 : Int) < 16)), .bl false, .bl (decide (V.int 1 = V.int 20))])) = H11
      intro s11 ld
      refine ⟨_, rfl, _, rfl, w2, _, 1, .str "sum", rfl, rfl, sqL (s11 _ _ m3), rfl, by show 2 ≤ sizeLine; decide, fun r1 nr1 => ?_⟩
      have s12 : Same H11 (upd H11 r1 (.lst [.str "sum", .str "other"])) := same_new nr1
      have lr : (upd H11 r1 (.lst [.str "sum", .str "other"])) r1 = some (.lst [.str "sum", .str "other"]) := upd_same
      revert s12 lr
      generalize (upd H11 r1 (.lst [.str "sum", .str "other"])) = H12
      intro s12 lr
      refine ⟨_, rfl, _, rfl, _, _, data3 (s12 _ _ (s11 _ _ lf')), data3 (s12 _ _ ld), shp3, shp3, _, rfl, ?_⟩
      rw [eqq3]
      refine iteF ⟨_, rfl, _, rfl, _, _, data3 (s12 _ _ (s11 _ _ lo)), data3 (s12 _ _ ld), shp3, shp3, ?_⟩
      rw [eqq3]
      exact .inr ⟨false, rfl, r1, _, 0, .str "sum", rfl, rfl, sqL lr, rfl, q H12 (s10.trans (s11.trans s12))⟩
    · refine ⟨_, rfl, .inl ⟨rfl, _, sqL l8⟩, p6, _, _, rfl, rfl, sqL l8, rfl, rfl, rfl, _, rfl, iteF ?_⟩
      refine ⟨_, rfl, .inl ⟨rfl, _, sqL l8⟩, p6, _, _, 2, _, rfl, rfl, sqL l8, rfl, rfl, rfl, rfl, (fun m z hm hz => by
        match m, hm, hz with
        | 0, _, hz => (cases hz; rfl)
        | 1, _, hz => (cases hz; rfl)
        | m + 2, hm, _ => exact absurd hm (by omega)), ?_⟩
      refine ⟨a, D, d, _, _, _, rfl, k8, KF.w, KF.l, KF.r, fun f1 H9 t9 lf => ?_⟩
      refine ⟨a, D, d, _, _, _, rfl, k8.same t9, KF.vV, KF.vL, KF.vA, fun f2 H10 t10 lo => ?_⟩
      have lf' := t10 _ _ lf
      have m3 := t10 _ _ (t9 _ _ m2)
      have s10 := s8.trans (t9.trans t10)
      clear l8 t9 t10 lf s8 m2 k8
      refine ⟨_, rfl, 2, 16, rfl, rfl, _, rfl, 16, 2, rfl, rfl, _, rfl, iteF ⟨_, rfl, rfl, by show 3 ≤ sizeLine; decide, fun d1 nd1 => ?_⟩⟩
      have s11 : Same H10 (upd H10 d1 (.lst [.bl (decide ((2 : Int) < 16)), .bl false, .bl (decide (V.int 2 = V.int 20))])) := same_new nd1
      have ld : (upd H10 d1 (.lst [.bl (decide ((2 : Int) < 16)), .bl false, .bl (decide (V.int 2 = V.int 20))])) d1 = some (.lst [.bl true, .bl false, .bl false]) := upd_same
      revert s11 ld
      generalize (upd H10 d1 (.lst [.bl (decide ((2 : Int) < 16)), .bl false, .bl (decide (V.int 2 = V.int 20))])) = H11
      intro s11 ld
      refine ⟨_, rfl, _, rfl, w2, _, 2, .str "shares", rfl, rfl, sqL (s11 _ _ m3), rfl, by show 2 ≤ sizeLine; decide, fun r1 nr1 => ?_⟩
      have s12 : Same H11 (upd H11 r1 (.lst [.str "shares", .str "other"])) := same_new nr1
      have lr : (upd H11 r1 (.lst [.str "shares", .str "other"])) r1 = some (.lst [.str "shares", .str "other"]) := upd_same
      revert s12 lr
      generalize (upd H11 r1 (.lst [.str "shares", .str "other"])) = H12
      intro s12 lr
      refine ⟨_, rfl, _, rfl, _, _, data3 (s12 _ _ (s11 _ _ lf')), data3 (s12 _ _ ld), shp3, shp3, _, rfl, ?_⟩
      rw [eqq3]
      refine iteF ⟨_, rfl, _, rfl, _, _, data3 (s12 _ _ (s11 _ _ lo)), data3 (s12 _ _ ld), shp3, shp3, ?_⟩
      rw [eqq3]
      exact .inr ⟨false, rfl, r1, _, 0, .str "shares", rfl, rfl, sqL lr, rfl, q H12 (s10.trans (s11.trans s12))⟩
end
end Wd2

set_option Elab.async false
set_option linter.all false
set_option maxRecDepth 100000
set_option maxHeartbeats 4000000
set_option exponentiation.threshold 5000
namespace Wd2
open PySem PySem.Spec PyProof.Rows L2 WdM Wd
abbrev sShares : Stmt := topS 39
abbrev nSh : List Str := ["_law_pool_here", "_law_size", "_law_wide", "_law_found", "_law_turn", "_law_top", "_law_bottom"]
theorem scShares : FnScope nSh ["_law_pool_here"] (defScope sShares) := ⟨rfl, rfl, rfl, by decide +kernel, rfl, by decide +kernel, by decide +kernel⟩
def Fine (f : Int × Int) : Prop := 0 ≤ f.1 ∧ f.1 ≤ 1000000000000 ∧ 0 < f.2 ∧ f.2 ≤ 1000000000000 ∧ Int.gcd f.1 f.2 = 1
structure Gd (fs : List (Int × Int)) : Prop where
  len0 : 1 ≤ fs.length
  len1 : fs.length ≤ 64
  each : ∀ f ∈ fs, Fine f
  some : ∃ f ∈ fs, 0 < f.1
theorem big_small {x : Int} (h0 : 0 ≤ x) (h1 : x ≤ 10000000000000) : x.natAbs < 2 ^ 64 := Nat.lt_of_le_of_lt (show x.natAbs ≤ 10000000000000 by omega) (by decide)
theorem Gd.good {fs : List (Int × Int)} (g : Gd fs) : Good fs := ⟨g.len0, g.len1, fun f hf => by
  have ⟨a, b, c, d, e⟩ := g.each f hf
  exact ⟨a, c, big_small a (by omega), big_small (by omega) (by omega), e⟩, g.some⟩
theorem menu6 {d : Int} (h0 : 0 ≤ d) (h1 : d < 6) : ∃ wd : Int, atI [V.int 3, .int 10, .int 10, .int 10, .int 10, .int 64] d = some (.int wd) ∧ 1 ≤ wd ∧ wd ≤ 64 := by
  have : d = 0 ∨ d = 1 ∨ d = 2 ∨ d = 3 ∨ d = 4 ∨ d = 5 := by omega
  rcases this with rfl | rfl | rfl | rfl | rfl | rfl
  · exact ⟨3, rfl, by decide, by decide⟩
  · exact ⟨10, rfl, by decide, by decide⟩
  · exact ⟨10, rfl, by decide, by decide⟩
  · exact ⟨10, rfl, by decide, by decide⟩
  · exact ⟨10, rfl, by decide, by decide⟩
  · exact ⟨64, rfl, by decide, by decide⟩
theorem menu4 {d : Int} (h0 : 0 ≤ d) (h1 : d < 4) : ∃ wd : Int, atI [V.int 2, .int 7, .int 1000, .int (10 ^ (12 : Int).toNat)] d = some (.int wd) ∧ 1 ≤ wd ∧ wd ≤ 1000000000000 := by
  have : d = 0 ∨ d = 1 ∨ d = 2 ∨ d = 3 := by omega
  rcases this with rfl | rfl | rfl | rfl
  · exact ⟨2, rfl, by decide, by decide⟩
  · exact ⟨7, rfl, by decide, by decide⟩
  · exact ⟨1000, rfl, by decide, by decide⟩
  · exact ⟨10 ^ (12 : Int).toNat, rfl, by decide, by decide⟩
theorem menu2 {d wd : Int} (h0 : 0 ≤ d) (h1 : d < 2) (hw : 1 ≤ wd) (hw' : wd ≤ 1000000000000) : ∃ x : Int, atI [V.int 1, .int wd] d = some (.int x) ∧ 1 ≤ x ∧ x ≤ 1000000000000 := by
  have : d = 0 ∨ d = 1 := by omega
  rcases this with rfl | rfl
  · exact ⟨1, rfl, by decide, by decide⟩
  · exact ⟨wd, rfl, hw, hw'⟩
theorem fr_set {K : PySem.W.Frag} {H : Hp} {xs : List V} {fs : List (Int × Int)} {x : V} {f : Int × Int} (h : FrAll K H xs fs) (h' : Fr K H x f) (j : Nat) : FrAll K H (xs.set j x) (fs.set j f) := by
  refine ⟨by rw [List.length_set, List.length_set]; exact h.1, fun i y g a b => ?_⟩
  by_cases e : j = i
  · subst e
    rw [List.getElem?_set] at a b
    simp only [if_true] at a b
    split at a
    · split at b
      · cases a
        cases b
        exact h'
      · cases b
    · cases a
  · rw [List.getElem?_set_ne e] at a b
    exact h.2 i y g a b
theorem ix_in {n : Nat} {d : Int} (h0 : 0 ≤ d) (h1 : d < n) : ixN n d = some d.toNat := by
  unfold ixN
  rw [if_pos h0, if_pos h1]
theorem mem_set2 {α : Type} : ∀ (l : List α) (i : Nat) (x y : α), y ∈ l.set i x → y ∈ l ∨ y = x
  | [], _, _, _, h => by cases h
  | z :: l, 0, x, y, h => by
    rcases List.mem_cons.mp h with h | h
    · exact .inr h
    · exact .inl (List.mem_cons_of_mem _ h)
  | z :: l, i + 1, x, y, h => by
    rcases List.mem_cons.mp h with h | h
    · exact .inl (by rw [h]; exact List.mem_cons_self)
    · rcases mem_set2 l i x y h with h | h
      · exact .inl (List.mem_cons_of_mem _ h)
      · exact .inr h
section
variable {P : Program} {w : World} {K : PySem.W.Frag} {mg : Str → Option Value} {base : Heap}
def spShares (K : PySem.W.Frag) : Sp := fun vs H Q _ => ∃ l : Addr, vs = [.ref l] ∧ PoolAt H l ∧ ∀ H' v fs, Bt [l] H H' → PoolAt H' l → Sh K H' v fs → Gd fs → Q v H'
theorem ok_shares {f fT fL : Addr} {fd fdT fdL : FuncData} {k : Nat} (B : Bl mg) (M : Bm mg) (D : Df K mg "_law_shares" sShares f fd ["_law_pool_here"]) (DT : Df K mg "_law_take" sTake fT fdT ["_law_pool_here", "_law_many"]) (DL : Df K mg "_law_low" sLow fL fdL ["_law_top", "_law_bottom"]) :
    FnOk P w K mg base CX0 (k + 2) f fd ["_law_pool_here"] (spShares K) := by
  have GT : FnOk P w K mg base CX0 (k + 1) fT fdT ["_law_pool_here", "_law_many"] spTake := ok_take M DT
  have GL : FnOk P w K mg base CX0 (k + 1) fL fdL ["_law_top", "_law_bottom"] spLow := ok_low DL
  refine D.fn.ok scShares (fun vs H Q E h => ?_) (fun cdv A outer s H vs Q E hr h => ?_)
  · obtain ⟨l, rfl, _⟩ := h
    rfl
  · obtain ⟨l, rfl, pl, q⟩ := h
    refine ⟨_, pss_cons (ps_set (i := 1) scShares.nd rfl (.inl rfl) (pe_ix (r := rIxL K) ix_list (pe_lst (pa_cons pe_int (pa_cons pe_int (pa_cons pe_int (pa_cons pe_int (pa_cons pe_int (pa_cons pe_int pa_nil))))))) (pe_call GT hr (by rfl) DT.mg DT.fn.kp DT.bd .nil pass0 (pa_cons (pv 0) (pa_cons pe_int pa_nil))) (fun _ _ => rfl)))
      (pss_cons (ps_set (i := 2) scShares.nd rfl (.inl rfl) (pe_ix (r := rIxL K) ix_list (pe_lst (pa_cons pe_int (pa_cons pe_int (pa_cons pe_int (pa_cons (pe_op op_pow pe_int pe_int) pa_nil))))) (pe_call GT hr (by rfl) DT.mg DT.fn.kp DT.bd .nil pass0 (pa_cons (pv 0) (pa_cons pe_int pa_nil))) (fun _ _ => rfl)))
      (pss_cons (ps_set (i := 3) scShares.nd rfl (.inl rfl) (pe_lst pa_nil))
      (pss_cons (ps_for PassesOwn.never rfl (pi_range1 (by rfl) M.range (pa_cons (pe_op op_add pe_int (pe_call GT hr (by rfl) DT.mg DT.fn.kp DT.bd .nil pass0 (pa_cons (pv 0) (pa_cons (pv 1) pa_nil)))) pa_nil)) (pg_name (i := 4) scShares.nd rfl (.inl rfl))
        (pss_one (ps_expr (pe_bm PySem.F.plainAttrs_list PySem.F.slot_list_append PySem.F.type_list_append mt_append (pv 3) (pa_cons (pe_call GL hr (by rfl) DL.mg DL.fn.kp DL.bd .nil pass0
          (pa_cons (pe_call GT hr (by rfl) DT.mg DT.fn.kp DT.bd .nil pass0 (pa_cons (pv 0) (pa_cons (pe_op op_add (pv 2) pe_int) pa_nil)))
          (pa_cons (pe_ix (r := rIxL K) ix_list (pe_lst (pa_cons pe_int (pa_cons (pe_op op_add pe_int (pe_call GT hr (by rfl) DT.mg DT.fn.kp DT.bd .nil pass0 (pa_cons (pv 0) (pa_cons (pv 2) pa_nil)))) pa_nil))) (pe_call GT hr (by rfl) DT.mg DT.fn.kp DT.bd .nil pass0 (pa_cons (pv 0) (pa_cons pe_int pa_nil))) (fun _ _ => rfl)) pa_nil))) pa_nil)))))
      (pss_cons (ps_if (pt_val (pe_callB (cr_all rfl) (by rfl) B.all (by decide +kernel) (pa_cons
          (pe_lc (own := [("_law_top", 5), ("_law_bottom", 6)]) (g := gTup K 2 (gCons (gName 5) (gCons (gName 6) gNil))) (tt := tYes) rfl scShares.nd (pi_list (pv 3)) (blkOk_by (own := [("_law_top", 5), ("_law_bottom", 6)]) (N := nSh) (sc := defScope sShares) (by decide +kernel))
            (fun _ _ _ _ _ => pg_tup rfl (pgs_cons (pg_name (i := 5) scShares.nd rfl (.inl rfl)) (pgs_cons (pg_name (i := 6) scShares.nd rfl (.inl rfl)) pgs_nil))) (fun _ _ _ _ _ => pts_nil)
            (fun _ _ _ _ _ => pe_cmpR op_eq (pv 5) pe_int (nomark _))) pa_nil)))
        (pss_one (ps_asg (pe_call GL hr (by rfl) DL.mg DL.fn.kp DL.bd .nil pass0 (pa_cons (pe_op op_add pe_int (pe_call GT hr (by rfl) DT.mg DT.fn.kp DT.bd .nil pass0 (pa_cons (pv 0) (pa_cons (pv 2) pa_nil)))) (pa_cons (pe_op op_add pe_int (pe_call GT hr (by rfl) DT.mg DT.fn.kp DT.bd .nil pass0 (pa_cons (pv 0) (pa_cons (pv 2) pa_nil)))) pa_nil)))
          (pg_sub (pv 3) (pe_call GT hr (by rfl) DT.mg DT.fn.kp DT.bd .nil pass0 (pa_cons (pv 0) (pa_cons (pe_callB call_len_seq (by rfl) B.len PySem.boot_len (pa_cons (pv 3) pa_nil)) pa_nil))) set_list))) pss_nil)
      (pss_one (ps_ret (pe_callTy call_tuple_of (by rfl) B.tuple boot_tuple (pa_cons (pv 3) pa_nil)))))))), ?_⟩
    -- size
    refine ⟨by show 6 ≤ sizeLine; decide, fun m1 n1 => ?_⟩
    have o1 : (upd H m1 (.lst [.int 3, .int 10, .int 10, .int 10, .int 10, .int 64])) m1 = some (.lst [.int 3, .int 10, .int 10, .int 10, .int 10, .int 64]) := upd_same
    have p1 : PoolAt (upd H m1 (.lst [.int 3, .int 10, .int 10, .int 10, .int 10, .int 64])) l := pl.upd (pl.ne n1)
    have b1 : Bt [l] H (upd H m1 (.lst [.int 3, .int 10, .int 10, .int 10, .int 10, .int 64])) := (Bt.refl H).new n1
    have m1l : m1 ∉ [l] := by simp [(pl.ne n1).symm]
    refine ⟨_, rfl, l, 6, rfl, p1, by decide, fun H2 d2 b2 p2 d20 d21 => ?_⟩
    obtain ⟨sz, hsz, z0, z1⟩ := menu6 d20 d21
    refine ⟨m1, _, d2, .int sz, rfl, rfl, sqL (kept b2 o1 m1l), hsz, ?_⟩
    have c2 := b1.trans b2
    clear b1 b2 o1 m1l p1
    -- wide
    refine ⟨10, 12, rfl, rfl, ⟨by decide, by decide, by decide⟩, by show 4 ≤ sizeLine; decide, fun m3 n3 => ?_⟩
    have o3 : (upd H2 m3 (.lst [.int 2, .int 7, .int 1000, .int (10 ^ (12 : Int).toNat)])) m3 = some (.lst [.int 2, .int 7, .int 1000, .int (10 ^ (12 : Int).toNat)]) := upd_same
    have p3 : PoolAt (upd H2 m3 (.lst [.int 2, .int 7, .int 1000, .int (10 ^ (12 : Int).toNat)])) l := p2.upd (p2.ne n3)
    have b3 : Bt [l] H (upd H2 m3 (.lst [.int 2, .int 7, .int 1000, .int (10 ^ (12 : Int).toNat)])) := c2.new n3
    have m3l : m3 ∉ [l] := by simp [(p2.ne n3).symm]
    refine ⟨_, rfl, l, 4, rfl, p3, by decide, fun H4 d4 b4 p4 d40 d41 => ?_⟩
    obtain ⟨wd, hwd, w0, w1⟩ := menu4 d40 d41
    refine ⟨m3, _, d4, .int wd, rfl, rfl, sqL (kept b4 o3 m3l), hwd, ?_⟩
    have c4 := b3.trans b4
    clear b3 b4 o3 m3l p3 c2 p2
    -- found
    refine ⟨Nat.zero_le _, fun L nL => ?_⟩
    have nlL : l ≠ L := p4.ne nL
    have nLl : L ∉ [l] := by simp [nlL.symm]
    have nL0 : H L = none := c4.none nLl nL
    have p5 : PoolAt (upd H4 L (.lst [])) l := p4.upd nlL
    refine ⟨_, rfl, _, rfl, l, sz, rfl, p5, by omega, fun H6 d6 b6 p6 d60 d61 => ?_⟩
    refine ⟨1, d6, rfl, rfl, 1 + d6, rfl, by omega, by omega, for_range (lo := 0) (n := (1 + d6).toNat) (fun i σ H' => ∃ (y4 : Option V) (xs : List V) (fs : List (Int × Int)), σ = [some (.ref l), some (.int sz), some (.int wd), some (.ref L), y4, none, none] ∧ H' L = some (.lst xs) ∧ xs.length = i ∧ FrAll K H' xs fs ∧ (∀ f ∈ fs, Fine f) ∧ PoolAt H' l ∧ Bt [l] H H')
      ⟨none, [], [], rfl, kept b6 upd_same nLl, rfl, .nil, fun f hf => by (cases hf), p6, (c4.new nL).trans b6⟩ ?_ ?_⟩
    · rintro i σ H7 hi ⟨y4, xs, fs, rfl, hL, hx, hf, hfi, p7, b7⟩
      refine ⟨_, rfl, .inl ⟨rfl, _, sqL hL⟩, ?_⟩
      -- top
      refine ⟨_, rfl, _, rfl, wd, 1, rfl, rfl, l, wd + 1, rfl, p7, by omega, fun H8 t b8 p8 t0 t1 => ?_⟩
      -- bottom
      refine ⟨_, rfl, _, rfl, l, wd, rfl, p8, by omega, fun H9 u b9 p9 u0 u1 => ⟨1, u, rfl, rfl, by show 2 ≤ sizeLine; decide, fun m nm => ?_⟩⟩
      have p10 : PoolAt (upd H9 m (.lst [.int 1, .int (1 + u)])) l := p9.upd (p9.ne nm)
      have nml : m ∉ [l] := by simp [(p9.ne nm).symm]
      refine ⟨_, rfl, l, 2, rfl, p10, by decide, fun H11 d5 b11 p11 d50 d51 => ?_⟩
      obtain ⟨x5, hx5, x50, x51⟩ := menu2 (wd := 1 + u) d50 d51 (by omega) (by omega)
      have bt : Bt [l] H7 H11 := ((b8.trans b9).new nm).trans b11
      refine ⟨m, _, d5, .int x5, rfl, rfl, sqL (kept b11 upd_same nml), hx5, t, x5, rfl, t0, by omega, big_small (by omega) (by omega), fun p f np f0 f1 fg fe fx fy => ?_⟩
      have hL6 : H11 L = some (.lst xs) := kept bt hL nLl
      have nLp : L ≠ p := ne_of_none hL6 np
      have hL7 : (upd H11 p (.tup [.int f.1, .int f.2])) L = some (.lst xs) := by rw [upd_ne nLp]; exact hL6
      refine ⟨L, xs, _, rfl, rfl, hL7, small1000 (by omega), ?_⟩
      have tk : Tk H7 (upd (upd H11 p (.tup [.int f.1, .int f.2])) L (.lst (xs ++ [.ref p]))) := (bt.tk p7.lst).trans ((tk_new np).trans (tk_lst hL7))
      refine ⟨_, xs ++ [.ref p], fs ++ [f], rfl, upd_same, by rw [List.length_append, hx]; rfl, (hf.tk tk).snoc ⟨p, rfl, sqT (by rw [upd_ne nLp.symm, upd_same])⟩, ?_, ?_, ?_⟩
      · intro g hg
        rcases List.mem_append.mp hg with hg | hg
        · exact hfi g hg
        · rw [List.mem_singleton.mp hg]
          exact ⟨f0, by omega, f1, by omega, fg⟩
      · exact (p11.upd (p11.ne np)).upd nlL
      · exact ((b7.trans bt).new np).upd0 nL0
    · rintro σ H7 ⟨y4, xs, fs, rfl, hL, hx, hf, hfi, p7, b7⟩
      have lf : fs.length = (1 + d6).toNat := by rw [← hf.1, hx]
      refine ⟨_, rfl, L, rfl, ⟨xs, sqL hL⟩, fun R nR => lc_list (K := K) (a := L) (xs := xs) (fun i H' => H' R = some (.lst (((fs.take i).map fun f => decide (V.int f.1 = V.int 0)).map V.bl)) ∧ Same H7 H') ⟨upd_same, same_new nR⟩ (fun i H' _ h => sqL (h.2 _ _ hL)) ?_ ?_⟩
      · rintro i x H8 hxi ⟨hR, sm⟩
        obtain ⟨f, p, hfx, rfl, hp⟩ := (hf.tk (tk_same sm)).get hxi
        refine ⟨p, _, rfl, hp, rfl, _, _, rfl, _, _, rfl, rfl, rfl, tyes (iteT ⟨_, rfl, rfl, _, hR, ?_, ?_, ?_⟩)⟩
        · have := lt_get hxi
          rw [List.length_map, List.length_map, List.length_take]
          exact small1000 (by omega)
        · rw [upd_same, take_more hfx, List.map_append, List.map_append]
          rfl
        · exact ((Bt.of_same (S := []) sm).upd0 nR).same
      · rintro H8 ⟨hR, sm⟩
        rw [hf.1, List.take_length] at hR
        have hL3 := sm _ _ hL
        have hf3 := hf.tk (tk_same sm)
        have b3 : Bt [l] H H8 := b7.trans (.of_same sm)
        have p3 := p7.same sm
        refine ⟨R, _, rfl, sqL hR, _, rfl, ?_⟩
        by_cases hall : ((fs.map fun f => decide (V.int f.1 = V.int 0)).all id) = true
        · rw [hall]
          refine iteT ?_
          refine ⟨_, rfl, _, rfl, l, wd, rfl, p3, by omega, fun H9 t b9 p9 t0 t1 => ⟨1, t, rfl, rfl, _, rfl, _, rfl, l, wd, rfl, p9, by omega, fun H10 u b10 p10 u0 u1 => ⟨1, u, rfl, rfl, 1 + t, 1 + u, rfl, by omega, by omega, big_small (by omega) (by omega), fun p f np f0 f1 fg fe fx fy => ?_⟩⟩⟩
          have bt : Bt [l] H8 (upd H10 p (.tup [.int f.1, .int f.2])) := (b9.trans b10).new np
          have pt : PoolAt (upd H10 p (.tup [.int f.1, .int f.2])) l := p10.upd (p10.ne np)
          have hL11 := kept bt hL3 nLl
          have hp11 : (upd H10 p (.tup [.int f.1, .int f.2])) p = some (.tup [.int f.1, .int f.2]) := upd_same
          have npl : p ∉ [l] := by simp [(p10.ne np).symm]
          have pL : p ≠ L := fun e => by
            rw [e, upd_same] at hL11
            cases hL11
          revert bt pt hL11 hp11
          generalize (upd H10 p (.tup [.int f.1, .int f.2])) = H11
          intro bt pt hL11 hp11
          refine ⟨_, rfl, _, rfl, _, rfl, L, _, rfl, .inl (sqL hL11), l, _, rfl, pt, by omega, fun H12 e b12 p12 e0 e1 => ?_⟩
          have hL12 := kept b12 hL11 nLl
          refine ⟨L, xs, e, e.toNat, rfl, rfl, hL12, ix_in e0 e1, ?_⟩
          have tk12 : Tk H8 (upd H12 L (.lst (xs.set e.toNat (.ref p)))) := ((bt.trans b12).tk p3.lst).trans (tk_lst hL12)
          have hfs := fr_set (hf3.tk tk12) (x := .ref p) (f := f) ⟨p, rfl, sqT (by rw [upd_ne pL]; exact kept b12 hp11 npl)⟩ e.toNat
          have p13 : PoolAt (upd H12 L (.lst (xs.set e.toNat (.ref p)))) l := p12.upd nlL
          have b13 : Bt [l] H (upd H12 L (.lst (xs.set e.toNat (.ref p)))) := ((b3.trans bt).trans b12).upd0 nL0
          have hL13 : (upd H12 L (.lst (xs.set e.toNat (.ref p)))) L = some (.lst (xs.set e.toNat (.ref p))) := upd_same
          revert tk12 hfs p13 b13 hL13
          generalize (upd H12 L (.lst (xs.set e.toNat (.ref p)))) = H13
          intro tk12 hfs p13 b13 hL13
          refine ⟨_, rfl, L, _, rfl, .inl ⟨sqL hL13, fun r nr => ?_⟩⟩
          have fpos : 0 < f.1 := by
            rcases Int.lt_or_lt_of_ne (show f.1 ≠ 0 from fun z => by
              rw [z, Int.zero_mul] at fe
              have : 0 < (1 + t) * f.2 := Int.mul_pos (by omega) f1
              omega) with h | h
            · omega
            · exact h
          have ej : e.toNat < fs.length := by
            rw [← hf.1]
            omega
          refine q _ _ (fs.set e.toNat f) (b13.new nr) (p13.upd (p13.ne nr)) ⟨r, _, rfl, sqT upd_same, hfs.tk (tk_new nr)⟩ ⟨by rw [List.length_set]; omega, by rw [List.length_set]; omega, fun g hg => ?_, ⟨f, List.mem_set ej f, fpos⟩⟩
          rcases mem_set2 _ _ _ _ hg with hg | hg
          · exact hfi g hg
          · rw [hg]
            exact ⟨f0, by omega, f1, by omega, fg⟩
        · rw [Bool.not_eq_true] at hall
          rw [hall]
          refine iteF ⟨_, rfl, L, xs, rfl, .inl ⟨sqL hL3, fun r nr => ?_⟩⟩
          refine q _ _ fs (b3.new nr) (p3.upd (p3.ne nr)) ⟨r, xs, rfl, sqT upd_same, hf3.tk (tk_new nr)⟩ ⟨by omega, by omega, hfi, ?_⟩
          rw [List.all_eq_false] at hall
          obtain ⟨b, hb, hb2⟩ := hall
          obtain ⟨f, hfm, rfl⟩ := List.mem_map.mp hb
          refine ⟨f, hfm, ?_⟩
          have := (hfi f hfm).1
          have ne : f.1 ≠ 0 := fun z => hb2 (by rw [z]; exact decide_eq_true rfl)
          omega
end
end Wd2

set_option Elab.async false
set_option linter.all false
set_option maxRecDepth 100000
set_option maxHeartbeats 4000000
set_option exponentiation.threshold 5000
namespace Wd2
open PySem PySem.Spec PyProof.Rows L2 WdM Wd
/-! ### the shares over the product of all bottoms -/
def prodF : Int → List (Int × Int) → Int
  | b, [] => b
  | b, f :: fs => prodF (b * f.2) fs
theorem prod_snoc : ∀ (fs : List (Int × Int)) (b : Int) (f : Int × Int), prodF b (fs ++ [f]) = prodF b fs * f.2
  | [], _, _ => rfl
  | g :: fs, b, f => prod_snoc fs (b * g.2) f
theorem prod_pos : ∀ (fs : List (Int × Int)) (b : Int), 0 < b → (∀ f ∈ fs, 0 < f.2) → 0 < prodF b fs
  | [], _, h, _ => h
  | g :: fs, b, h, hf => prod_pos fs (b * g.2) (Int.mul_pos h (hf g List.mem_cons_self)) fun f m => hf f (List.mem_cons_of_mem _ m)
theorem prod_dvd : ∀ (fs : List (Int × Int)) (b : Int), b ∣ prodF b fs ∧ ∀ f ∈ fs, f.2 ∣ prodF b fs
  | [], b => ⟨Int.dvd_refl b, fun f h => by cases h⟩
  | g :: fs, b => by
    have ⟨h1, h2⟩ := prod_dvd fs (b * g.2)
    refine ⟨Int.dvd_trans (Int.dvd_mul_right b g.2) h1, fun f hf => ?_⟩
    rcases List.mem_cons.mp hf with rfl | hf
    · exact Int.dvd_trans (Int.dvd_mul_left b f.2) h1
    · exact h2 f hf
theorem prod_bound : ∀ (fs : List (Int × Int)) (b : Int) (m : Nat), b.natAbs < 2 ^ m → (∀ f ∈ fs, f.2.natAbs < 2 ^ 64) → (prodF b fs).natAbs < 2 ^ (m + 64 * fs.length)
  | [], _, _, h, _ => h
  | g :: fs, b, m, h, hf => by
    have := prod_bound fs (b * g.2) (m + 64) (wide_lt (a := m) (b := 64) h (hf g List.mem_cons_self)) fun f z => hf f (List.mem_cons_of_mem _ z)
    rw [List.length_cons, show m + 64 * (fs.length + 1) = m + 64 + 64 * fs.length by omega]
    exact this
section
variable {fs : List (Int × Int)}
theorem Gp.pos (g : Good fs) : 0 < prodF 1 fs := prod_pos fs 1 (by decide) g.pos
theorem Gp.bd (g : Good fs) (i : Nat) : (prodF 1 (fs.take i)).natAbs < 2 ^ 4097 :=
  Nat.lt_of_lt_of_le (prod_bound (fs.take i) 1 1 (by decide) (fun f hf => (g.each f (List.mem_of_mem_take hf)).2.2.2.1)) (pow_le (by have := g.len1; rw [List.length_take]; omega))
theorem Gp.bd1 (g : Good fs) : (prodF 1 fs).natAbs < 2 ^ 4097 := by
  have := Gp.bd g fs.length
  rw [List.take_length] at this
  exact this
theorem Gp.quo (g : Good fs) : ∀ f ∈ fs, 0 ≤ prodF 1 fs / f.2 ∧ (prodF 1 fs / f.2).natAbs < 2 ^ 4097 := fun f hf => by
  have h0 : 0 ≤ prodF 1 fs / f.2 := Int.ediv_nonneg (Int.le_of_lt (Gp.pos g)) (Int.le_of_lt (g.pos f hf))
  exact ⟨h0, wide_le h0 (Int.ediv_le_self _ (Int.le_of_lt (Gp.pos g))) (Gp.bd1 g)⟩
theorem Gp.wB (g : Good fs) : ∀ w ∈ wts (prodF 1 fs) fs, w.natAbs < 2 ^ 4161 := fun w hw => by
  unfold wts at hw
  obtain ⟨f, hf, rfl⟩ := List.mem_map.mp hw
  exact wide_lt (a := 64) (b := 4097) (g.each f hf).2.2.1 (Gp.quo g f hf).2
theorem wts_len (L : Int) (fs : List (Int × Int)) : (wts L fs).length = fs.length := by unfold wts; rw [List.length_map]
theorem Gp.sumB (g : Good fs) : (wts (prodF 1 fs) fs).sum.natAbs < 2 ^ 4168 := by
  have h := sum_abs (wts (prodF 1 fs) fs) (Gp.wB g)
  rw [wts_len] at h
  have h2 : fs.length * 2 ^ 4161 ≤ 64 * 2 ^ 4161 := Nat.mul_le_mul_right _ g.len1
  have h3 : 64 * 2 ^ 4161 < 2 ^ 4168 := by
    rw [show (4168 : Nat) = 7 + 4161 by rfl, Nat.pow_add]
    exact Nat.mul_lt_mul_of_pos_right (by decide) (Nat.pow_pos (by decide))
  exact Nat.lt_of_le_of_lt h (Nat.lt_of_le_of_lt h2 h3)
theorem sum_nn : ∀ ws : List Int, (∀ w ∈ ws, 0 ≤ w) → 0 ≤ ws.sum
  | [], _ => Int.le_refl 0
  | w :: ws, h => by
    rw [List.sum_cons]
    have := sum_nn ws fun x m => h x (List.mem_cons_of_mem _ m)
    have := h w List.mem_cons_self
    omega
theorem sum_pos' : ∀ ws : List Int, (∀ w ∈ ws, 0 ≤ w) → (∃ w ∈ ws, 0 < w) → 0 < ws.sum
  | [], _, ⟨_, h, _⟩ => by cases h
  | w :: ws, h, ⟨x, hx, px⟩ => by
    rw [List.sum_cons]
    have h1 := sum_nn ws fun x m => h x (List.mem_cons_of_mem _ m)
    have h0 := h w List.mem_cons_self
    rcases List.mem_cons.mp hx with rfl | hx
    · omega
    · have := sum_pos' ws (fun x m => h x (List.mem_cons_of_mem _ m)) ⟨x, hx, px⟩
      omega
theorem Gp.sum (g : Good fs) : 0 < (wts (prodF 1 fs) fs).sum := by
  refine sum_pos' _ (fun w hw => ?_) ?_
  · unfold wts at hw
    obtain ⟨f, hf, rfl⟩ := List.mem_map.mp hw
    exact Int.mul_nonneg (g.each f hf).1 (Gp.quo g f hf).1
  · obtain ⟨f, hf, hp⟩ := g.some
    refine ⟨_, List.mem_map.mpr ⟨f, hf, rfl⟩, Int.mul_pos hp ?_⟩
    exact Int.ediv_pos_of_pos_of_dvd (Gp.pos g) (Int.le_of_lt (g.pos f hf)) ((prod_dvd fs 1).2 f hf)
theorem dealt_mult {a L L' : Int} {fs : List (Int × Int)} (p : 0 < L) (p' : 0 < L') (h : ∀ f ∈ fs, 0 < f.2 ∧ f.2 ∣ L) (h' : ∀ f ∈ fs, 0 < f.2 ∧ f.2 ∣ L') : dealt a (wts L fs) = dealt a (wts L' fs) :=
  dealt_like (p := 1 * L') (q := 1 * L) (by omega) (by omega) (wts_like (by decide) (by decide) fs fs rfl h h' (fun i f f' a b => by
    rw [a] at b
    cases b
    rw [Int.mul_one, Int.mul_one]))
theorem Gp.dealt (g : Good fs) (a : Int) : dealt a (wts (prodF 1 fs) fs) = dealt a (wtsOf fs) :=
  dealt_mult (Gp.pos g) g.lcm.pos (fun f hf => ⟨g.pos f hf, (prod_dvd fs 1).2 f hf⟩) (fun f hf => ⟨g.pos f hf, g.lcm.all f hf⟩)
end
end Wd2

set_option Elab.async false
set_option linter.all false
set_option maxRecDepth 100000
set_option maxHeartbeats 4000000
set_option exponentiation.threshold 5000
namespace Wd2
open PySem PySem.Spec PyProof.Rows L2 WdM Wd
abbrev sRight : Stmt := topS 40
abbrev nR : List Str := ["_law_sum_due", "_law_made", "_law_found", "_law_bottom", "_law_top", "_law_under", "_law_tops", "_law_together", "_law_part", "_law_more", "_law_due"]
theorem scR : FnScope nR ["_law_sum_due", "_law_made", "_law_found"] (defScope sRight) := ⟨rfl, rfl, rfl, by decide +kernel, rfl, by decide +kernel, by decide +kernel⟩
section
variable {P : Program} {w : World} {K : PySem.W.Frag} {mg : Str → Option Value} {base : Heap}
theorem neI {x : Int} : (!decide (V.int x = V.int x)) = false := by simp
theorem all_true (n : Nat) : (List.replicate n true).all id = true := by
  induction n with
  | zero => rfl
  | succ n ih => rw [List.replicate_succ, List.all_cons, ih]; rfl
def spRight (K : PySem.W.Frag) : Sp := fun vs H Q _ => ∃ (a : Int) (v : V) (t : Addr) (fs : List (Int × Int)), vs = [.int a, v, .ref t] ∧ 0 ≤ a ∧ a ≤ 1000000000000 ∧ Sh K H v fs ∧ Good fs ∧ SqT K H t ((dealt a (wtsOf fs)).map V.int) ∧ ∀ H', Same H H' → Q (.bl true) H'
theorem ok_right {f : Addr} {fd : FuncData} {k : Nat} (B : Bl mg) (M : Bm mg) (D : Df K mg "_law_right" sRight f fd ["_law_sum_due", "_law_made", "_law_found"]) : FnOk P w K mg base CX0 (k + 1) f fd ["_law_sum_due", "_law_made", "_law_found"] (spRight K) := by
  refine D.fn.ok scR (fun vs H Q E h => ?_) (fun cdv A outer s H vs Q E hr h => ?_)
  · obtain ⟨a, v, t, fs, rfl, _⟩ := h
    rfl
  · obtain ⟨a, v, t, fs, rfl, a0, a1, ⟨b, xs, rfl, hs, hf⟩, G, ht, q⟩ := h
    refine ⟨_, pss_cons (ps_set (i := 3) scR.nd rfl (.inr rfl) pe_int)
      (pss_cons (ps_for PassesOwn.never rfl (pi_tup (pv 1)) (pg_tup rfl (pgs_cons (pg_name (i := 4) scR.nd rfl (.inl rfl)) (pgs_cons (pg_name (i := 5) scR.nd rfl (.inl rfl)) pgs_nil)))
        (pss_one (ps_set (i := 3) scR.nd rfl (.inr rfl) (pe_op op_mulW (pv 3) (pv 5)))))
      (pss_cons (ps_setLc (i := 6) (own := [("_law_top", 4), ("_law_under", 5)]) (g := gTup K 2 (gCons (gName 4) (gCons (gName 5) gNil))) (tt := tYes) rfl scR.nd rfl rfl (sw_true rfl rfl rfl (by decide +kernel)) (pi_tup (pv 1))
            (blkOk_by (own := [("_law_top", 4), ("_law_under", 5)]) (N := nR) (sc := defScope sRight) (by decide +kernel))
            (fun _ _ _ _ _ => pg_tup rfl (pgs_cons (pg_name (i := 4) scR.nd rfl (.inl rfl)) (pgs_cons (pg_name (i := 5) scR.nd rfl (.inl rfl)) pgs_nil))) (fun _ _ _ _ _ => pts_nil)
            (fun _ _ _ _ _ => pe_op op_mulW (pv 4) (pe_op op_fdivW (pv 3) (pv 5))))
      (pss_cons (ps_set (i := 7) scR.nd rfl (.inr rfl) (pe_callB (cr_sum rfl) (by rfl) B.sum (by decide +kernel) (pa_cons (pv 6) pa_nil)))
      (pss_cons (ps_if (PW.pt (pw_or (pt_not (pt_val (pe_callB call_isi (by rfl) B.isi boot_isinstance (pa_cons (pv 2) (pa_cons (pe_bltn (v := .ty "tuple") (by rfl) B.tuple boot_tuple rfl) pa_nil)))))
          (pw_or1 (pt_cmpR op_ne (pe_callB call_len_seq (by rfl) B.len PySem.boot_len (pa_cons (pv 2) pa_nil)) (pe_callB call_len_seq (by rfl) B.len PySem.boot_len (pa_cons (pv 1) pa_nil)) (nomark _))))) (pss_one (ps_ret pe_bl)) pss_nil)
      (pss_cons (ps_if (PW.pt (pw_or (pt_not (pt_val (pe_callB (cr_all rfl) (by rfl) B.all (by decide +kernel) (pa_cons
            (pe_lc (own := [("_law_part", 8)]) (g := gName 8) (tt := tYes) rfl scR.nd (pi_tup (pv 2)) (blkOk_by (own := [("_law_part", 8)]) (N := nR) (sc := defScope sRight) (by decide +kernel))
              (fun _ _ _ _ _ => pg_name (i := 8) scR.nd rfl (.inl rfl)) (fun _ _ _ _ _ => pts_nil)
              (fun _ _ _ _ _ => pe_and (pe_callB (r := rIsi K) call_isi (by rfl) B.isi boot_isinstance (pa_cons (pv 8) (pa_cons (pe_bltn (v := .ty "int") (by rfl) B.int boot_int rfl) pa_nil)))
                (pe_one (pe_not (pe_callB (r := rIsi K) call_isi (by rfl) B.isi boot_isinstance (pa_cons (pv 8) (pa_cons (pe_bltn (v := .ty "bool") (by rfl) B.bool boot_bool rfl) pa_nil))))))) pa_nil))))
          (pw_or1 (pt_cmpR op_ne (pe_callB (cr_sumT rfl) (by rfl) B.sum (by decide +kernel) (pa_cons (pv 2) pa_nil)) (pv 0) (nomark _))))) (pss_one (ps_ret pe_bl)) pss_nil)
      (pss_cons (ps_set (i := 9) scR.nd rfl (.inl rfl) (pe_op op_sub (pv 0) (pe_callB (cr_sum rfl) (by rfl) B.sum (by decide +kernel) (pa_cons
            (pe_lc (own := [("_law_top", 4)]) (g := gName 4) (tt := tYes) rfl scR.nd (pi_list (pv 6)) (blkOk_by (own := [("_law_top", 4)]) (N := nR) (sc := defScope sRight) (by decide +kernel))
              (fun _ _ _ _ _ => pg_name (i := 4) scR.nd rfl (.inl rfl)) (fun _ _ _ _ _ => pts_nil)
              (fun _ _ _ _ _ => pe_op op_fdivW (pe_op op_mulW (pv 0) (pv 4)) (pv 7))) pa_nil))))
      (pss_cons (ps_for PassesOwn.never rfl (pi_Z .li .tu (by rfl) M.zip (pa_cons (pv 6) (pa_cons (pv 2) pa_nil))) (pg_tup rfl (pgs_cons (pg_name (i := 4) scR.nd rfl (.inl rfl)) (pgs_cons (pg_name (i := 8) scR.nd rfl (.inl rfl)) pgs_nil)))
        (pss_cons (ps_set (i := 10) scR.nd rfl (.inl rfl) (pe_op op_fdivW (pe_op op_mulW (pv 0) (pv 4)) (pv 7)))
        (pss_cons (ps_if (PW.pt (pw_and (pt_cmpR op_gt (pe_op op_mod (pe_op op_mulW (pv 0) (pv 4)) (pv 7)) pe_int (nomark _)) (pw_and1 (pt_cmpR op_gt (pv 9) pe_int (nomark _)))))
          (pss_one (ps_par (i := 10) (j := 9) rfl scR.nd rfl rfl (by decide) rfl rfl (pa_cons (pe_op op_add (pv 10) pe_int) (pa_cons (pe_op op_sub (pv 9) pe_int) pa_nil)) (by rfl))) pss_nil)
        (pss_one (ps_if (pt_cmpR op_ne (pv 8) (pv 10) (nomark _)) (pss_one (ps_ret pe_bl)) pss_nil)))))
      (pss_one (ps_ret pe_bl))))))))), ?_⟩
    have aB : a.natAbs < 2 ^ 64 := big_small a0 (by omega)
    refine ⟨_, rfl, b, rfl, ⟨xs, hs⟩, for_tup (K := K) (a := b) (xs := xs) (fun i σ H' => ∃ y4 y5, σ = [some (.int a), some (.ref b), some (.ref t), some (.int (prodF 1 (fs.take i))), y4, y5, none, none, none, none, none] ∧ H' = H) ⟨none, none, rfl, rfl⟩ (fun i σ H' _ ⟨_, _, _, e⟩ => by rw [e]; exact hs) ?_ ?_⟩
    · rintro i x σ H' hx ⟨y4, y5, rfl, rfl⟩
      obtain ⟨f, p, hfi, rfl, hp⟩ := hf.get hx
      have ⟨e1, e2, e3, e4, e5⟩ := G.each f (List.mem_of_getElem? hfi)
      refine ⟨p, _, rfl, hp, rfl, _, _, rfl, _, _, rfl, rfl, _, rfl, _, rfl, _, _, rfl, rfl, wide_mul (Gp.bd G i) e4 (by decide) (by decide) (by decide), ?_⟩
      refine ⟨some (.int f.1), some (.int f.2), ?_, rfl⟩
      rw [take_more hfi, prod_snoc]
      rfl
    · rintro σ H' ⟨y4, y5, rfl, rfl⟩
      rw [hf.1, List.take_length]
      -- tops
      refine ⟨_, rfl, b, rfl, ⟨xs, hs⟩, fun L nL => lc_tup (K := K) (a := b) (xs := xs) (fun i H2 => H2 L = some (.lst (((wts (prodF 1 fs) fs).take i).map V.int)) ∧ Same H' H2) ⟨upd_same, same_new nL⟩ (fun i H' _ h => tk_same h.2 |>.sq hs) ?_ ?_⟩
      · rintro i x H2 hx ⟨hL, sm⟩
        obtain ⟨f, p, hfi, rfl, hp⟩ := (hf.tk (tk_same sm)).get hx
        have hm := List.mem_of_getElem? hfi
        have ⟨e1, e2, e3, e4, e5⟩ := G.each f hm
        have ⟨q1, q2⟩ := Gp.quo G f hm
        have l1 := G.len1
        have hw : (wts (prodF 1 fs) fs)[i]? = some (f.1 * (prodF 1 fs / f.2)) := by
          unfold wts
          rw [List.getElem?_map, hfi]
          rfl
        refine ⟨p, _, rfl, hp, rfl, _, _, rfl, _, _, rfl, rfl, rfl, tyes (iteT ⟨_, rfl, _, rfl, _, rfl, _, _, rfl, rfl, wide_div e2 e4 (by decide) (by decide), _, _, rfl, rfl, wide_mul e3 q2 (by decide) (by decide) (by decide), ?_⟩)⟩
        have il := lt_get hfi
        refine ⟨_, hL, ?_, ?_, ?_⟩
        · rw [List.length_map, List.length_take]
          exact small1000 (by omega)
        · rw [upd_same, take_more hw, List.map_append]
          rfl
        · exact ((Bt.of_same (S := []) sm).upd0 nL).same
      · rintro H2 ⟨hw, s2⟩
        rw [hf.1, ← wts_len (prodF 1 fs) fs, List.take_length] at hw
        refine ⟨_, rfl, L, _, rfl, sqL hw, ?_⟩
        have T0 := Gp.sum G
        have TB := Gp.sumB G
        have wB := Gp.wB G
        have lw : (wts (prodF 1 fs) fs).length = fs.length := wts_len _ _
        have l64 := G.len1
        have lxs := hf.1
        have t2 := (tk_same s2).sq ht
        have h2 := (tk_same s2).sq hs
        rw [← Gp.dealt G a] at t2
        have hsum := dealt_sum a (wts (prodF 1 fs) fs) T0
        have lt := dealt_len a (wts (prodF 1 fs) fs)
        clear ht
        revert hw T0 TB wB lw t2 hsum lt
        generalize wts (prodF 1 fs) fs = ws
        intro hw T0 TB wB lw t2 hsum lt
        have dv : ∀ x : Int, CDivW x ws.sum := fun x => wide_div T0 TB (by decide) (by decide)
        -- a tuple, as long
        refine ⟨_, rfl, _, .ty "tuple", .type "tuple", .type "tuple", true, rfl, .ty _, tyT t2, kit_ty (by decide +kernel), true, rfl, iteF ⟨_, rfl, t, _, rfl, .inr t2, _, rfl, b, xs, rfl, .inr h2, rfl, _, rfl, ?_⟩⟩
        rw [List.length_map, lt, lw, ← lxs, neI]
        refine iteF ?_
        -- whole numbers
        refine ⟨_, rfl, t, rfl, ⟨_, t2⟩, fun R nR => lc_tup (K := K) (a := t) (xs := (dealt a ws).map V.int) (fun i H3 => H3 R = some (.lst ((List.replicate i true).map V.bl)) ∧ Same H2 H3) ⟨upd_same, same_new nR⟩ (fun i H' _ h => tk_same h.2 |>.sq t2) ?_ ?_⟩
        · rintro i x H3 hx ⟨hR, sm⟩
          obtain ⟨n, hn, rfl⟩ := ints_get hx
          have il := lt_get hn
          refine ⟨rfl, tyes (iteT ⟨_, rfl, _, .ty "int", .type "int", _, true, rfl, .ty _, .base (.int _), kII, true, rfl, iteT ⟨_, rfl, _, .ty "bool", .type "int", _, false, rfl, .ty _, .base (.int _), kIB, false, rfl, _, hR, ?_, ?_, ?_⟩⟩)⟩
          · rw [List.length_map, List.length_replicate]
            exact small1000 (by omega)
          · rw [upd_same, List.replicate_succ', List.map_append]
            rfl
          · exact ((Bt.of_same (S := []) sm).upd0 nR).same
        · rintro H3 ⟨hR, s3⟩
          refine ⟨R, _, rfl, sqL hR, ?_⟩
          rw [all_true]
          have t3 := (tk_same s3).sq t2
          have hw3 := s3 _ _ hw
          refine ⟨true, rfl, iteF ⟨_, rfl, t, _, rfl, t3, _, rfl, rfl, _, rfl, ?_⟩⟩
          rw [hsum, neI]
          refine iteF ?_
          -- more
          refine ⟨_, rfl, _, rfl, L, rfl, ⟨_, sqL hw3⟩, fun pL nP => lc_list (K := K) (a := L) (xs := ws.map V.int) (fun i H4 => H4 pL = some (.lst (((bases a ws.sum ws).take i).map V.int)) ∧ Same H3 H4) ⟨upd_same, same_new nP⟩ (fun i H' _ h => sqL (h.2 _ _ hw3)) ?_ ?_⟩
          · rintro i x H4 hx ⟨hP, sm⟩
            obtain ⟨wt, hwt, rfl⟩ := ints_get hx
            have il := lt_get hwt
            have hb : (bases a ws.sum ws)[i]? = some (a * wt / ws.sum) := by
              unfold bases
              rw [List.getElem?_map, hwt]
              rfl
            refine ⟨rfl, tyes (iteT ⟨_, rfl, _, rfl, a, wt, rfl, rfl, wide_mul aB (wB wt (List.mem_of_getElem? hwt)) (by decide) (by decide) (by decide), _, rfl, _, ws.sum, rfl, rfl, dv _, _, hP, ?_, ?_, ?_⟩)⟩
            · rw [List.length_map, List.length_take]
              exact small1000 (by omega)
            · rw [upd_same, take_more hb, List.map_append]
              rfl
            · exact ((Bt.of_same (S := []) sm).upd0 nP).same
          · rintro H4 ⟨hP, s4⟩
            have lb : (bases a ws.sum ws).length = ws.length := by unfold bases; rw [List.length_map]
            rw [List.length_map, ← lb, List.take_length] at hP
            have t4 := (tk_same s4).sq t3
            have hw4 := s4 _ _ hw3
            have s04 := s2.trans (s3.trans s4)
            refine ⟨pL, bases a ws.sum ws, rfl, sqL hP, a, _, rfl, rfl, ?_⟩
            refine ⟨_, rfl, _, rfl, L, t, _, _, rfl, sqL hw4, t4, for_it (walkZ (K := K) (k := .li) (m := .tu) (a := L) (b := t) (by rw [List.length_map, List.length_map]; exact lt.symm)) (fun i σ H5 => ∃ (y4 y8 y10 : Option V) (k' : Int), σ = [some (.int a), some (.ref b), some (.ref t), some (.int (prodF 1 fs)), y4, y5, some (.ref L), some (.int ws.sum), y8, some (.int k'), y10] ∧
                deal a ws.sum k' (ws.drop i) = (dealt a ws).drop i ∧ Same H4 H5)
              ⟨_, _, _, _, rfl, rfl, Same.refl _⟩ (fun i σ H5 _ ⟨_, _, _, _, _, _, e⟩ => ⟨sqL (e _ _ hw4), (tk_same e).sq t4⟩) ?_ ?_⟩
            · rintro i _ σ H5 _ _ ⟨y4, y8, y10, k', rfl, hd, s5⟩ ⟨T, x, y, rfl, nT, rfl, hxj, hyj⟩
              obtain ⟨wt, hwt, rfl⟩ := ints_get hxj
              obtain ⟨pt, hpt, rfl⟩ := ints_get hyj
              rw [drop_get hwt, drop_get hpt, deal_cons] at hd
              have m0 := Int.emod_nonneg (a * wt) (show ws.sum ≠ 0 by omega)
              have s6 : Same H4 (upd H5 T (.tup [.int wt, .int pt])) := s5.trans (same_new nT)
              have mulB := wide_mul aB (wB wt (List.mem_of_getElem? hwt)) (by decide) (by decide) (by decide)
              refine ⟨T, _, rfl, sqT upd_same, rfl, _, _, rfl, _, _, rfl, rfl, ?_⟩
              refine ⟨_, rfl, _, rfl, a, wt, rfl, rfl, mulB, _, rfl, _, ws.sum, rfl, rfl, dv _, ?_⟩
              refine ⟨_, rfl, _, rfl, a, wt, rfl, rfl, mulB, _, rfl, _, ws.sum, rfl, rfl, T0, _, 0, rfl, rfl, _, rfl, ?_⟩
              by_cases hz : 0 < a * wt % ws.sum
              · rw [decide_eq_true hz]
                refine iteT ⟨_, rfl, k', 0, rfl, rfl, _, rfl, ?_⟩
                by_cases hk : 0 < k'
                · rw [decide_eq_true hk]
                  rw [if_pos ⟨hk, show a * wt % ws.sum ≠ 0 by omega⟩] at hd
                  obtain ⟨rfl, hd2⟩ := List.cons.inj hd
                  refine iteT ⟨_, rfl, _, 1, rfl, rfl, _, rfl, k', 1, rfl, rfl, _, _, rfl, ?_⟩
                  refine ⟨_, rfl, _, rfl, rfl, _, rfl, ?_⟩
                  rw [neI]
                  exact iteF ⟨_, _, _, k' - 1, rfl, hd2, s6⟩
                · rw [decide_eq_false hk]
                  rw [if_neg (fun z => hk z.1)] at hd
                  obtain ⟨rfl, hd2⟩ := List.cons.inj hd
                  refine iteF ⟨_, rfl, _, rfl, rfl, _, rfl, ?_⟩
                  rw [neI]
                  exact iteF ⟨_, _, _, k', rfl, hd2, s6⟩
              · rw [decide_eq_false hz]
                rw [if_neg (fun z => z.2 (by omega))] at hd
                obtain ⟨rfl, hd2⟩ := List.cons.inj hd
                refine iteF (iteF ⟨_, rfl, _, rfl, rfl, _, rfl, ?_⟩)
                rw [neI]
                exact iteF ⟨_, _, _, k', rfl, hd2, s6⟩
            · rintro σ H5 ⟨y4, y8, y10, k', rfl, hd, s5⟩
              exact q H5 (s04.trans s5)
end
end Wd2

set_option Elab.async false
set_option linter.all false
set_option maxRecDepth 100000
set_option maxHeartbeats 4000000
set_option exponentiation.threshold 5000
namespace Wd2
open PySem PySem.Spec PyProof.Rows L2 WdM Wd
abbrev sRef : Stmt := topS 41
abbrev nRf : List Str := ["_law_sum_due", "_law_made", "_law_caught", "e", "_law_word"]
theorem scRf : FnScope nRf ["_law_sum_due", "_law_made"] (defScope sRef) := ⟨rfl, rfl, rfl, by decide +kernel, rfl, by decide +kernel, by decide +kernel⟩
section
variable {P : Program} {w : World} {K : PySem.W.Frag} {mg : Str → Option Value} {base : Heap} {CS fI CN CW : Addr}
/-- what can be shown, in each later heap -/
def Shows (K : PySem.W.Frag) (H : Hp) (x : V) (d : PyData) : Prop := (∀ H1, Same H H1 → Seen K H1 x d) ∧ PyData.showable d = true ∧ d.depth ≤ 8 ∧ d.shown.length ≤ sizeLine
theorem Shows.same {H H1 : Hp} {x : V} {d : PyData} (h : Shows K H x d) (e : Same H H1) : Shows K H1 x d := ⟨fun H2 e2 => h.1 H2 (e.trans e2), h.2⟩
def spRefused (K : PySem.W.Frag) : Sp := fun vs H Q _ => ∃ x v, vs = [x, v] ∧
  ((∃ d, Th K H x d ∧ amtB d = false ∧ Shows K H x d ∧ ∀ H' p, Same H H' → H' p = some (.tup [.str "sum", .str d.shown]) → Q (.ref p) H') ∨
   (∃ a : Int, x = .int a ∧ 0 ≤ a ∧ a ≤ 1000000000000 ∧ BadSh K H v ∧ ∀ H' p, Same H H' → H' p = some (.tup [.str "shares", .non]) → Q (.ref p) H'))
theorem eqSum : decide (V.str "sum" = V.str "sum") = true := by simp
theorem neSum : decide (V.str "shares" = V.str "sum") = false := by decide +kernel
theorem ok_refused {C : Nat → Addr} {f fS fP : Addr} {fd fdS fdP : FuncData} (B : Bl mg) (M : Bm mg) (hrp : mg "repr" = none) (T : ErF K mg CS fI CN CW) (TC : ClsF mg C) (K1 : KitF K CS C 1) (K2 : KitF K CN C 2)
    (D : Df K mg "_law_refused" sRef f fd ["_law_sum_due", "_law_made"]) (DS : Df K mg "_law_sort" sSort fS fdS ["_law_caught"]) (DP : Df K mg "parted" sParted fP fdP ["amount", "shares"])
    (GP : FnOk P w K mg base (L2.CX P w) 4 fP fdP ["amount", "shares"] (spParted K CS CN)) : FnG P w K mg base 5 f fd ["_law_sum_due", "_law_made"] (spRefused K) := by
  have GS : FnOk P w K mg base CX0 1 fS fdS ["_law_caught"] (spSort K C) := ok_sort (k := 0) B M TC DS
  refine okG D.fn scRf (fun vs H Q E h => ?_) (fun cdv A outer s H vs Q E gs hr h => ?_)
  · obtain ⟨x, v, rfl, _⟩ := h
    rfl
  · obtain ⟨x, v, rfl, hc⟩ := h
    have r1 : Room 1 _ := hr.mono (by omega)
    have hu := hr.units
    refine ⟨_, pss_cons (ps_set (i := 2) scRf.nd rfl (.inl rfl) pe_non)
      (pss_cons (ps_try_got (i := 3) (c := .ref CW) rfl rfl rfl scRf.nd rfl rfl ⟨rfl, by decide, .inl T.gW⟩
          (fun W pn xe tk _ => pss_one (ps_expr (pe_callS GP hr (by rfl) DP.mg DP.fn.kp DP.bd (fun σ => passAt tk σ) (pa_cons (pv 0) (pa_cons (pv 1) pa_nil)))))
          (fun a oe cls d pn _ _ => pss_one (ps_set (i := 2) scRf.nd rfl (.inl rfl) (pv 3))))
      (pss_cons (ps_set (i := 4) scRf.nd rfl (.inl rfl) (pe_call GS r1 (by rfl) DS.mg DS.fn.kp DS.bd .nil pass0 (pa_cons (pv 2) pa_nil)))
      (pss_cons (ps_if (pt_cmpR op_eq (pv 4) pe_str (nomark _)) (pss_one (ps_ret (pe_tup (pa_cons (pv 4) (pa_cons (pe_callB (call_reprD gs hu) (by rfl) hrp (by decide +kernel) (pa_cons (pe_xt (pv 2)) pa_nil)) pa_nil))))) pss_nil)
      (pss_one (ps_ret (pe_tup (pa_cons (pv 4) (pa_cons pe_non pa_nil)))))))), ?_⟩
    rcases hc with ⟨d, th, bad, sh, q⟩ | ⟨a, rfl, a0, a1, bad, q⟩
    · refine ⟨_, rfl, _, rfl, x, v, rfl, .inr (.inl ⟨d, th, bad, fun dd hdd => ⟨T.mS, fun e he => ⟨_, rfl, ?_⟩⟩⟩)⟩
      have s1 : Same H (upd (upd H dd (.xd [("thing", x)])) e (ExT e (.ref CS) (some dd))) := (same_new hdd).trans (same_new he)
      have l1 : (upd (upd H dd (.xd [("thing", x)])) e (ExT e (.ref CS) (some dd))) e = some (ExT e (.ref CS) (some dd)) := upd_same
      have l2 : (upd (upd H dd (.xd [("thing", x)])) e (ExT e (.ref CS) (some dd))) dd = some (.xd [("thing", x)]) := same_new he _ _ upd_same
      refine ⟨_, rfl, e, CS, some dd, 1, rfl, ⟨l1, fun dx z => (by cases z; exact ⟨_, l2⟩), T.cS⟩, K1, .inl rfl, fun H2 s2 => ?_⟩
      refine ⟨_, rfl, rfl, _, rfl, ?_⟩
      refine (congrArg (fun b : Bool => ite (b = true) _ _) eqSum).mpr (iteT ?_)
      refine ⟨_, rfl, _, rfl, e, CS, dd, _, x, rfl, s2 _ _ l1, T.fS, T.noT, s2 _ _ l2, rfl, x, d, rfl, sh.1 _ (s1.trans s2), sh.2.1, sh.2.2.1, sh.2.2.2, by show 2 ≤ sizeLine; decide, fun p np => q _ p ((s1.trans s2).trans (same_new np)) upd_same⟩
    · refine ⟨_, rfl, _, rfl, .int a, v, rfl, .inr (.inr ⟨a, rfl, a0, a1, bad, fun H1 s1 => ⟨T.mN, fun e he => ⟨_, rfl, ?_⟩⟩⟩)⟩
      have s2 : Same H (upd H1 e (ExT e (.ref CN) none)) := s1.trans (same_new he)
      refine ⟨_, rfl, e, CN, none, 2, rfl, ⟨upd_same, (fun dx z => nomatch z), T.cN⟩, K2, .inr rfl, fun H2 s3 => ?_⟩
      refine ⟨_, rfl, rfl, _, rfl, ?_⟩
      refine (congrArg (fun b : Bool => ite (b = true) _ _) neSum).mpr (iteF ?_)
      exact ⟨_, rfl, by show 2 ≤ sizeLine; decide, fun p np => q _ p ((s2.trans s3).trans (same_new np)) upd_same⟩
end
end Wd2

set_option Elab.async false
set_option linter.all false
set_option maxRecDepth 100000
set_option maxHeartbeats 4000000
set_option exponentiation.threshold 5000
namespace Wd2
open PySem PySem.Spec PyProof.Rows L2 WdM Wd
abbrev sNo : Stmt := topS 42
abbrev nNo : List Str := ["_law_pool_here", "_law_made", "_law_at", "_law_top", "_law_bottom", "_law_odd", "_law_found", "_law_part"]
theorem scNo : FnScope nNo ["_law_pool_here", "_law_made"] (defScope sNo) := ⟨rfl, rfl, rfl, by decide +kernel, rfl, by decide +kernel, by decide +kernel⟩
section
variable {X : Cx} {R : L2.St → Hp → Prop} {Bd : Hp → V → Prop} {e : Expr} {es : List Expr} {n : Nat}
theorem PA.wk {t t' : TA} (h : PA X es t) (w : ∀ σ H Q, t' σ H Q → t σ H Q) : PA X es t' := ⟨fun pos pins s σ H Q I hw => h.run pos pins s σ H Q I (w _ _ _ hw)⟩
/-- where R holds, a value that is Bd -/
def tB (R : L2.St → Hp → Prop) (Bd : Hp → V → Prop) : TE := fun σ H Q => R σ H ∧ ∀ v H', Same H H' → Bd H' v → Q v H'
def taB (R : L2.St → Hp → Prop) (Bd : Hp → V → Prop) (n : Nat) : TA := fun σ H Q => R σ H ∧ ∀ xs H', Same H H' → xs.length = n → (∀ x ∈ xs, Bd H' x) → Q xs H'
def tlB (R : L2.St → Hp → Prop) (Bd : Hp → V → Prop) (n : Nat) : TE := fun σ H Q => R σ H ∧ ∀ p xs H', Same H H' → xs.length = n → (∀ x ∈ xs, Bd H' x) → H' p = some (.lst xs) → Q (.ref p) H'
/-- kept where the heap grows -/
structure Kp (R : L2.St → Hp → Prop) (Bd : Hp → V → Prop) : Prop where
  r : ∀ σ H H', Same H H' → R σ H → R σ H'
  b : ∀ H H' v, Same H H' → Bd H v → Bd H' v
theorem paB_nil : PA X [] (taB R Bd 0) := PA.wk pa_nil fun σ H Q ⟨_, q⟩ => q [] H (Same.refl H) rfl (fun x hx => nomatch hx)
theorem paB_cons (k : Kp R Bd) (h : PE X e (tB R Bd)) (t : PA X es (taB R Bd n)) (hs : starEach (e :: es) X.env = (false, eval e X.env) :: starEach es X.env := by rfl) : PA X (e :: es) (taB R Bd (n + 1)) :=
  PA.wk (pa_cons h t hs) fun σ H Q ⟨r, q⟩ => ⟨r, fun v H1 s1 b1 => ⟨k.r _ _ _ s1 r, fun xs H2 s2 l2 b2 => q (v :: xs) H2 (s1.trans s2) (by rw [List.length_cons, l2]) (fun x hx => by
    rcases List.mem_cons.mp hx with rfl | hx
    · exact k.b _ _ _ s2 b1
    · exact b2 x hx)⟩⟩
theorem peB_lst (k : Kp R Bd) {pos : Pos} (t : PA X es (taB R Bd n)) (hn : n ≤ sizeLine) : PE X (.List es pos) (tlB R Bd n) :=
  PE.wk (pe_lst t) fun σ H Q ⟨r, q⟩ => ⟨r, fun xs H1 s1 l1 b1 => ⟨by rw [l1]; exact hn, fun p np => q p xs _ (s1.trans (same_new np)) l1 (fun x hx => k.b _ _ _ (same_new np) (b1 x hx)) upd_same⟩⟩
end
section
variable {P : Program} {w : World} {K : PySem.W.Frag} {mg : Str → Option Value} {base : Heap}
def R1 : L2.St → Hp → Prop := fun σ _ => ∃ t b : Int, σ[3]? = some (some (.int t)) ∧ σ[4]? = some (some (.int b)) ∧ t.natAbs < 2 ^ 64 ∧ b.natAbs < 2 ^ 64
def R2 (K : PySem.W.Frag) : L2.St → Hp → Prop := fun σ H => ∃ (a : Addr) (xs : List V) (fs : List (Int × Int)), σ[1]? = some (some (.ref a)) ∧ SqT K H a xs ∧ FrAll K H xs fs
def BadO (K : PySem.W.Frag) (H : Hp) (v : V) : Prop := ∃ d, Th K H v d ∧ okB d = false
theorem BadSh.same {H H' : Hp} {v : V} (e : Same H H') (h : BadSh K H v) : BadSh K H' v := by
  rcases h with ⟨d, th, nt⟩ | ⟨a, xs, ds, rfl, hs, hd, na⟩
  · exact .inl ⟨d, th.same e, nt⟩
  · exact .inr ⟨a, xs, ds, rfl, (tk_same e).sq hs, hd.same e, na⟩
theorem kp1 : Kp R1 (BadO K) := ⟨fun _ _ _ _ h => h, fun _ _ _ e ⟨d, th, n⟩ => ⟨d, th.same e, n⟩⟩
theorem kp2 : Kp (R2 K) (BadSh K) := ⟨fun _ _ _ e ⟨a, xs, fs, h, hs, hf⟩ => ⟨a, xs, fs, h, (tk_same e).sq hs, hf.tk (tk_same e)⟩, fun _ _ _ e h => h.same e⟩
theorem twice_bad (t b : Int) : okB (.tuple [.int (2 * t), .int (2 * b)]) = false := by
  unfold okB
  have : ¬ Int.gcd (2 * t) (2 * b) = 1 := by
    rw [Int.gcd_mul_left]
    have : (2 : Int).natAbs = 2 := rfl
    rw [this]
    omega
  show ((decide (1 ≤ 2 * b) && decide (Int.gcd (2 * t) (2 * b) = 1)) && _) = false
  rw [decide_eq_false this, Bool.and_false]
  rfl
theorem made_bad : ∀ fs : List (Int × Int), okB (.tuple (fs.map fun f => .tuple [.int f.1, .int f.2])) = false
  | [] => rfl
  | [_] => rfl
  | [_, _] => rfl
  | _ :: _ :: _ :: _ => rfl
theorem dp_frs {H : Hp} {xs : List V} {fs : List (Int × Int)} (h : FrAll K H xs fs) : DpAll K H xs (fs.map fun f => .tuple [.int f.1, .int f.2]) := by
  induction xs generalizing fs with
  | nil =>
    cases fs with
    | nil => exact .nil
    | cons f fs => exact absurd h.1 (by simp)
  | cons x xs ih =>
    cases fs with
    | nil => exact absurd h.1 (by simp)
    | cons f fs =>
      obtain ⟨a, rfl, hs⟩ := h.2 0 x f rfl rfl
      exact .cons (.tup hs (.cons (.int _) (.cons (.int _) .nil))) (ih ⟨by simpa using h.1, fun i x f a b => h.2 (i + 1) x f a b⟩)
theorem th_one {H : Hp} {x : V} {d : PyData} (h : Th K H x d) : ThAll K H [x] [d] := ⟨rfl, fun i y e a b => by
  cases i with
  | zero => cases a; cases b; exact h
  | succ i => cases a⟩
theorem th_rep {H : Hp} {x : V} {d : PyData} (h : Th K H x d) (n : Nat) : ThAll K H (List.replicate n x) (List.replicate n d) := ⟨by simp, fun i y e a b => by
  have a' := List.mem_of_getElem? a
  have b' := List.mem_of_getElem? b
  rw [List.eq_of_mem_replicate a', List.eq_of_mem_replicate b']
  exact h⟩
theorem are_one {d : PyData} (h : okB d = false) : areB [d] = false := by
  unfold areB
  simp [h]
theorem th_same_put {H : Hp} {xs : List V} {ds : List PyData} {i : Nat} {v : V} {d : PyData} (h : ThAll K H xs ds) (hv : Th K H v d) : ThAll K H (xs.take i ++ [v] ++ xs.drop (i + 1)) (ds.take i ++ [d] ++ ds.drop (i + 1)) := by
  have app : ∀ {xs ys : List V} {ds es : List PyData}, ThAll K H xs ds → ThAll K H ys es → ThAll K H (xs ++ ys) (ds ++ es) := fun {xs ys ds es} h1 h2 => ⟨by rw [List.length_append, List.length_append, h1.1, h2.1], fun j x e a b => by
    by_cases hj : j < xs.length
    · rw [List.getElem?_append_left hj] at a
      rw [List.getElem?_append_left (by rw [← h1.1]; exact hj)] at b
      exact h1.2 j x e a b
    · rw [List.getElem?_append_right (by omega)] at a
      rw [List.getElem?_append_right (by rw [← h1.1]; omega), ← h1.1] at b
      exact h2.2 _ x e a b⟩
  have tk : ThAll K H (xs.take i) (ds.take i) := ⟨by rw [List.length_take, List.length_take, h.1], fun j x e a b => by
    rw [List.getElem?_take] at a b
    split at a
    · rename_i hj
      rw [if_pos hj] at b
      exact h.2 j x e a b
    · cases a⟩
  have dr : ThAll K H (xs.drop (i + 1)) (ds.drop (i + 1)) := ⟨by rw [List.length_drop, List.length_drop, h.1], fun j x e a b => by
    rw [List.getElem?_drop] at a b
    exact h.2 _ x e a b⟩
  exact app (app tk (th_one hv)) dr
theorem are_put {ds : List PyData} {d : PyData} {i : Nat} (h : okB d = false) : areB (ds.take i ++ [d] ++ ds.drop (i + 1)) = false := by
  unfold areB
  simp [h]
def tPut (K : PySem.W.Frag) : TE := fun σ H Q => ∃ (a : Addr) (xs : List V) (i : Nat) (v : V), σ[1]? = some (some (.ref a)) ∧ SqT K H a xs ∧ σ[2]? = some (some (.int (i : Int))) ∧ i < xs.length ∧ xs.length ≤ 64 ∧ σ[7]? = some (some v) ∧ ∀ p H', Same H H' → SqT K H' p (xs.take i ++ [v] ++ xs.drop (i + 1)) → Q (.ref p) H'
def tCatT (K : PySem.W.Frag) (ta tb : TE) : TE := fun σ H Q => ta σ H fun x H1 => tb σ H1 fun y H2 => ∃ a b xs ys, x = .ref a ∧ y = .ref b ∧ SqT K H2 a xs ∧ SqT K H2 b ys ∧ xs.length + ys.length ≤ 1000 ∧ ∀ p H', Same H2 H' → SqT K H' p (xs ++ ys) → Q (.ref p) H'
theorem catT {H : Hp} {a b : Addr} {xs ys : List V} {Q : VK} (ha : SqT K H a xs) (hb : SqT K H b ys) (hl : xs.length + ys.length ≤ 1000) (q : ∀ p H', Same H H' → SqT K H' p (xs ++ ys) → Q (.ref p) H') : rCatA K (.ref a) (.ref b) H Q :=
  ⟨a, b, xs, ys, rfl, rfl, ha, hb, small_line hl, fun e => q b H (Same.refl H) (by rw [e]; exact hb), fun _ e => q a H (Same.refl H) (by rw [e, List.append_nil]; exact ha), fun _ _ p n => q p _ (same_new n) (sqT upd_same)⟩
theorem cutA {H : Hp} {a : Addr} {xs : List V} {lo hi : Option Int} {Q : VK} (ha : SqT K H a xs) (q : ∀ p H', Same H H' → SqT K H' p (cutV xs lo hi) → Q (.ref p) H') : rSlA K (.ref a) lo hi H Q :=
  ⟨a, xs, rfl, ha, fun ⟨e1, e2⟩ => q a H (Same.refl H) (by unfold cutV; rw [e1, e2, List.drop_zero, Nat.sub_zero, List.take_length]; exact ha), fun _ p n => q p _ (same_new n) (sqT upd_same)⟩
theorem cut_lo {xs : List V} {i : Nat} (h : i < xs.length) : cutV xs none (some (i : Int)) = xs.take i := by
  unfold cutV
  rw [HT.sIx_none, HT.sIx_nat, List.drop_zero, Nat.sub_zero, Nat.min_eq_left (by omega)]
theorem cut_hi {xs : List V} {i : Nat} (h : i < xs.length) : cutV xs (some ((i : Int) + 1)) none = xs.drop (i + 1) := by
  unfold cutV
  rw [show ((i : Int) + 1) = ((i + 1 : Nat) : Int) by omega, HT.sIx_nat, HT.sIx_none, Nat.min_eq_left (by omega)]
  exact List.take_of_length_le (by rw [List.length_drop]; omega)
def spNo (K : PySem.W.Frag) : Sp := fun vs H Q _ => ∃ (l : Addr) (v : V) (fs : List (Int × Int)), vs = [.ref l, v] ∧ PoolAt H l ∧ Sh K H v fs ∧ Gd fs ∧ ∀ H' L xs, Bt [l] H H' → PoolAt H' l → H' L = some (.lst xs) → xs.length ≤ 100 → (∀ x ∈ xs, BadSh K H' x) → Q (.ref L) H'
theorem ok_no {f fT : Addr} {fd fdT : FuncData} {k : Nat} (B : Bl mg) (M : Bm mg) (D : Df K mg "_law_no_shares" sNo f fd ["_law_pool_here", "_law_made"]) (DT : Df K mg "_law_take" sTake fT fdT ["_law_pool_here", "_law_many"]) : FnOk P w K mg base CX0 (k + 2) f fd ["_law_pool_here", "_law_made"] (spNo K) := by
  have GT : FnOk P w K mg base CX0 (k + 1) fT fdT ["_law_pool_here", "_law_many"] spTake := ok_take M DT
  refine D.fn.ok scNo (fun vs H Q E h => ?_) (fun cdv A outer s H vs Q E hr h => ?_)
  · obtain ⟨l, v, fs, rfl, _⟩ := h
    rfl
  · obtain ⟨l, v, fs, rfl, pl, ⟨a, xs, rfl, hs, hf⟩, G, q⟩ := h
    refine ⟨_, pss_cons (ps_set (i := 2) scNo.nd rfl (.inr rfl) (pe_call GT hr (by rfl) DT.mg DT.fn.kp DT.bd .nil pass0 (pa_cons (pv 0) (pa_cons (pe_callB call_len_seq (by rfl) B.len PySem.boot_len (pa_cons (pv 1) pa_nil)) pa_nil))))
      (pss_cons (ps_asg (pe_ix (r := rIxT K) ix_tup (pv 1) (pv 2) (fun _ _ => rfl)) (pg_tup rfl (pgs_cons (pg_name (i := 3) scNo.nd rfl (.inl rfl)) (pgs_cons (pg_name (i := 4) scNo.nd rfl (.inl rfl)) pgs_nil))))
      (pss_cons (ps_set (i := 5) scNo.nd rfl (.inl rfl) (peB_lst kp1 (paB_cons kp1 (PE.wk (t' := tB R1 (BadO K)) (pe_tup (pa_cons (pe_op op_mulW pe_int (pv 3)) (pa_cons (pe_op op_mulW pe_int (pv 4)) pa_nil))) (by rintro σ H Q ⟨⟨t, b, h3, h4, t6, b6⟩, q⟩; exact ⟨_, h3, 2, t, rfl, rfl, wide_mul (a := 2) (b := 64) (by decide) t6 (by decide) (by decide) (by decide), _, h4, 2, b, rfl, rfl, wide_mul (a := 2) (b := 64) (by decide) b6 (by decide) (by decide) (by decide), by show 2 ≤ sizeLine; decide, fun p n => q _ _ (same_new n) ⟨.tuple [.int (2 * t), .int (2 * b)], .dp (.tup (sqT upd_same) (.cons (.int _) (.cons (.int _) .nil))), twice_bad t b⟩⟩))
        (paB_cons kp1 (PE.wk (t' := tB R1 (BadO K)) (pe_tup (pa_cons (pe_un un_neg pe_int) (pa_cons pe_int pa_nil))) (by rintro σ H Q ⟨⟨t, b, h3, h4, t6, b6⟩, q⟩; exact ⟨1, rfl, by show 2 ≤ sizeLine; decide, fun p n => q _ _ (same_new n) ⟨.tuple [.int (-1), .int 1], .dp (.tup (sqT upd_same) (.cons (.int _) (.cons (.int _) .nil))), rfl⟩⟩))
        (paB_cons kp1 (PE.wk (t' := tB R1 (BadO K)) (pe_tup (pa_cons pe_int (pa_cons pe_int pa_nil))) (by rintro σ H Q ⟨⟨t, b, h3, h4, t6, b6⟩, q⟩; exact ⟨by show 2 ≤ sizeLine; decide, fun p n => q _ _ (same_new n) ⟨.tuple [.int 1, .int 0], .dp (.tup (sqT upd_same) (.cons (.int _) (.cons (.int _) .nil))), rfl⟩⟩))
        (paB_cons kp1 (PE.wk (t' := tB R1 (BadO K)) (pe_tup (pa_cons pe_int (pa_cons (pe_un un_neg pe_int) pa_nil))) (by rintro σ H Q ⟨⟨t, b, h3, h4, t6, b6⟩, q⟩; exact ⟨1, rfl, by show 2 ≤ sizeLine; decide, fun p n => q _ _ (same_new n) ⟨.tuple [.int 1, .int (-1)], .dp (.tup (sqT upd_same) (.cons (.int _) (.cons (.int _) .nil))), rfl⟩⟩))
        (paB_cons kp1 (PE.wk (t' := tB R1 (BadO K)) (pe_tup (pa_cons pe_bl (pa_cons pe_int pa_nil))) (by rintro σ H Q ⟨⟨t, b, h3, h4, t6, b6⟩, q⟩; exact ⟨by show 2 ≤ sizeLine; decide, fun p n => q _ _ (same_new n) ⟨.tuple [.bool true, .int 1], .dp (.tup (sqT upd_same) (.cons (.bl _) (.cons (.int _) .nil))), rfl⟩⟩))
        (paB_cons kp1 (PE.wk (t' := tB R1 (BadO K)) (pe_tup (pa_cons pe_int (pa_cons pe_bl pa_nil))) (by rintro σ H Q ⟨⟨t, b, h3, h4, t6, b6⟩, q⟩; exact ⟨by show 2 ≤ sizeLine; decide, fun p n => q _ _ (same_new n) ⟨.tuple [.int 1, .bool true], .dp (.tup (sqT upd_same) (.cons (.int _) (.cons (.bl _) .nil))), rfl⟩⟩))
        (paB_cons kp1 (PE.wk (t' := tB R1 (BadO K)) (pe_tup (pa_cons pe_int (pa_cons pe_int pa_nil))) (by rintro σ H Q ⟨⟨t, b, h3, h4, t6, b6⟩, q⟩; exact ⟨by show 2 ≤ sizeLine; decide, fun p n => q _ _ (same_new n) ⟨.tuple [.int 0, .int 2], .dp (.tup (sqT upd_same) (.cons (.int _) (.cons (.int _) .nil))), rfl⟩⟩))
        (paB_cons kp1 (PE.wk (t' := tB R1 (BadO K)) (pe_tup (pa_cons (pv 3) pa_nil)) (by rintro σ H Q ⟨⟨t, b, h3, h4, t6, b6⟩, q⟩; exact ⟨_, h3, by show 1 ≤ sizeLine; decide, fun p n => q _ _ (same_new n) ⟨.tuple [.int t], .dp (.tup (sqT upd_same) (.cons (.int _) .nil)), rfl⟩⟩))
        (paB_cons kp1 (PE.wk (t' := tB R1 (BadO K)) (pe_tup (pa_cons (pv 3) (pa_cons (pv 4) (pa_cons pe_int pa_nil)))) (by rintro σ H Q ⟨⟨t, b, h3, h4, t6, b6⟩, q⟩; exact ⟨_, h3, _, h4, by show 3 ≤ sizeLine; decide, fun p n => q _ _ (same_new n) ⟨.tuple [.int t, .int b, .int 1], .dp (.tup (sqT upd_same) (.cons (.int _) (.cons (.int _) (.cons (.int _) .nil)))), rfl⟩⟩))
        paB_nil))))))))) (by decide)))
      (pss_cons (ps_set (i := 5) scNo.nd rfl (.inl rfl) (pe_op op_cat (pv 5) (peB_lst kp1 (paB_cons kp1 (PE.wk (t' := tB R1 (BadO K)) (pe_lst (pa_cons (pv 3) (pa_cons (pv 4) pa_nil))) (by rintro σ H Q ⟨⟨t, b, h3, h4, t6, b6⟩, q⟩; exact ⟨_, h3, _, h4, by show 2 ≤ sizeLine; decide, fun p n => q _ _ (same_new n) ⟨.list [.int t, .int b], .dp (.lst (sqL upd_same) (.cons (.int _) (.cons (.int _) .nil))), rfl⟩⟩))
        (paB_cons kp1 (PE.wk (t' := tB R1 (BadO K)) pe_non (by rintro σ H Q ⟨⟨t, b, h3, h4, t6, b6⟩, q⟩; exact q _ _ (Same.refl H) ⟨.none, .dp .non, rfl⟩))
        (paB_cons kp1 (PE.wk (t' := tB R1 (BadO K)) pe_int (by rintro σ H Q ⟨⟨t, b, h3, h4, t6, b6⟩, q⟩; exact q _ _ (Same.refl H) ⟨.int 0, .dp (.int _), rfl⟩))
        (paB_cons kp1 (PE.wk (t' := tB R1 (BadO K)) pe_int (by rintro σ H Q ⟨⟨t, b, h3, h4, t6, b6⟩, q⟩; exact q _ _ (Same.refl H) ⟨.int 1, .dp (.int _), rfl⟩))
        (paB_cons kp1 (PE.wk (t' := tB R1 (BadO K)) pe_str (by rintro σ H Q ⟨⟨t, b, h3, h4, t6, b6⟩, q⟩; exact q _ _ (Same.refl H) ⟨.str "1", .dp (.str _), rfl⟩))
        (paB_cons kp1 (PE.wk (t' := tB R1 (BadO K)) (pe_tup (pa_cons pe_non (pa_cons pe_int pa_nil))) (by rintro σ H Q ⟨⟨t, b, h3, h4, t6, b6⟩, q⟩; exact ⟨by show 2 ≤ sizeLine; decide, fun p n => q _ _ (same_new n) ⟨.tuple [.none, .int 1], .dp (.tup (sqT upd_same) (.cons .non (.cons (.int _) .nil))), rfl⟩⟩))
        (paB_cons kp1 (PE.wk (t' := tB R1 (BadO K)) (pe_tup (pa_cons pe_int (pa_cons pe_non pa_nil))) (by rintro σ H Q ⟨⟨t, b, h3, h4, t6, b6⟩, q⟩; exact ⟨by show 2 ≤ sizeLine; decide, fun p n => q _ _ (same_new n) ⟨.tuple [.int 1, .none], .dp (.tup (sqT upd_same) (.cons (.int _) (.cons .non .nil))), rfl⟩⟩))
        (paB_cons kp1 (PE.wk (t' := tB R1 (BadO K)) (pe_tup (pa_cons pe_str (pa_cons pe_int pa_nil))) (by rintro σ H Q ⟨⟨t, b, h3, h4, t6, b6⟩, q⟩; exact ⟨by show 2 ≤ sizeLine; decide, fun p n => q _ _ (same_new n) ⟨.tuple [.str "1", .int 1], .dp (.tup (sqT upd_same) (.cons (.str _) (.cons (.int _) .nil))), rfl⟩⟩))
        (paB_cons kp1 (PE.wk (t' := tB R1 (BadO K)) (pe_tup (pa_cons (pe_lst (pa_cons pe_int pa_nil)) (pa_cons pe_int pa_nil))) (by rintro σ H Q ⟨⟨t, b, h3, h4, t6, b6⟩, q⟩; exact ⟨by show 1 ≤ sizeLine; decide, fun p1 n1 => ⟨by show 2 ≤ sizeLine; decide, fun p n => q _ _ ((same_new n1).trans (same_new n)) ⟨.tuple [.list [.int 1], .int 1], .dp (.tup (sqT upd_same) (.cons (.lst (sqL (same_new n _ _ upd_same)) (.cons (.int _) .nil)) (.cons (.int _) .nil))), rfl⟩⟩⟩))
        (paB_cons kp1 (PE.wk (t' := tB R1 (BadO K)) (pe_tup (pa_cons pe_int (pa_cons (pe_lst (pa_cons pe_int pa_nil)) pa_nil))) (by rintro σ H Q ⟨⟨t, b, h3, h4, t6, b6⟩, q⟩; exact ⟨by show 1 ≤ sizeLine; decide, fun p1 n1 => ⟨by show 2 ≤ sizeLine; decide, fun p n => q _ _ ((same_new n1).trans (same_new n)) ⟨.tuple [.int 1, .list [.int 1]], .dp (.tup (sqT upd_same) (.cons (.int _) (.cons (.lst (sqL (same_new n _ _ upd_same)) (.cons (.int _) .nil)) .nil))), rfl⟩⟩⟩))
        (paB_cons kp1 (PE.wk (t' := tB R1 (BadO K)) pe_dnewK (by rintro σ H Q ⟨⟨t, b, h3, h4, t6, b6⟩, q⟩; exact fun p n => q _ _ (same_new n) ⟨.dict [], .nod upd_same, rfl⟩))
        (paB_cons kp1 (PE.wk (t' := tB R1 (BadO K)) (pe_tup pa_nil) (by rintro σ H Q ⟨⟨t, b, h3, h4, t6, b6⟩, q⟩; exact ⟨by show 0 ≤ sizeLine; decide, fun p n => q _ _ (same_new n) ⟨.tuple [], .dp (.tup (sqT upd_same) .nil), rfl⟩⟩))
        paB_nil)))))))))))) (by decide))))
      (pss_cons (ps_expr (pe_bm PySem.F.plainAttrs_list PySem.F.slot_list_append PySem.F.type_list_append mt_append (pv 5) (pa_cons (pe_tup (pa_cons (pe_tup (pa_cons pe_int (pa_cons pe_int pa_nil))) (pa_cons pe_int pa_nil))) pa_nil)))
      (pss_cons (ps_setLc (i := 6) (own := [("_law_part", 7)]) (g := gName 7) (tt := tYes) rfl scNo.nd rfl rfl (sw_true rfl rfl rfl (by decide +kernel)) (pi_list (pv 5)) (blkOk_by (own := [("_law_part", 7)]) (N := nNo) (sc := defScope sNo) (by decide +kernel)) (fun _ _ _ _ _ => pg_name (i := 7) scNo.nd rfl (.inl rfl)) (fun _ _ _ _ _ => pts_nil)
            (fun _ _ _ _ _ => (PE.wk (t' := tPut K) (pe_op (r := rCatA K) op_catA (pe_op (r := rCatA K) op_catA (pe_slice (r := rSlA K) sl_tupA (pv 1) po_none (po_some (pv 2))) (pe_tup (pa_cons (pv 7) pa_nil))) (pe_slice (r := rSlA K) sl_tupA (pv 1) (po_some (pe_op op_add (pv 2) pe_int)) po_none)) (by rintro σ H Q ⟨a, xs, i, v, h1, hs, h2, hi, l64, h7, q⟩; exact ⟨_, h1, _, h2, _, rfl, cutA hs fun p1 H1 s1 c1 => ⟨_, h7, by show 1 ≤ sizeLine; decide, fun p2 n2 => catT ((tk_new n2).sq c1) (sqT upd_same) (by rw [cut_lo hi, List.length_take]; show _ + 1 ≤ 1000; omega) fun p3 H3 s3 c3 => ⟨_, h1, _, h2, (i : Int), 1, rfl, rfl, _, rfl, cutA (lo := some ((i : Int) + 1)) (hi := none) (Q := fun y H2 => rCatA K (.ref p3) y H2 Q) ((tk_same (s1.trans ((same_new n2).trans s3))).sq hs) fun p4 H4 s4 c4 => catT ((tk_same s4).sq c3) c4 (by rw [cut_lo hi, cut_hi hi, List.length_append, List.length_take, List.length_drop]; show _ + 1 + _ ≤ 1000; omega) fun p5 H5 s5 c5 => q p5 H5 (s1.trans ((same_new n2).trans (s3.trans (s4.trans s5)))) (by rw [cut_lo hi, cut_hi hi] at c5; exact c5)⟩⟩⟩))))
      (pss_cons (ps_set (i := 6) scNo.nd rfl (.inl rfl) (pe_op op_cat (pv 6) (peB_lst kp2 (paB_cons kp2 (PE.wk (t' := tB (R2 K) (BadSh K)) (pe_callTy call_list_of (by rfl) M.list boot_list (pa_cons (pv 1) pa_nil)) (by rintro σ H Q ⟨⟨a, xs, fs, h1, hs, hf⟩, q⟩; exact ⟨_, h1, a, xs, rfl, .inr hs, fun p n => q _ _ (same_new n) (.inl ⟨_, .dp (.lst (sqL upd_same) (dpAll_same (same_new n) (dp_frs hf))), rfl⟩)⟩))
        (paB_cons kp2 (PE.wk (t' := tB (R2 K) (BadSh K)) (pe_tup pa_nil) (by rintro σ H Q ⟨⟨a, xs, fs, h1, hs, hf⟩, q⟩; exact ⟨by show 0 ≤ sizeLine; decide, fun p n => q _ _ (same_new n) (.inr ⟨p, [], [], rfl, sqT upd_same, ⟨rfl, fun i x d z _ => nomatch z⟩, rfl⟩)⟩))
        (paB_cons kp2 (PE.wk (t' := tB (R2 K) (BadSh K)) pe_non (by rintro σ H Q ⟨⟨a, xs, fs, h1, hs, hf⟩, q⟩; exact q _ _ (Same.refl H) (.inl ⟨.none, .dp .non, rfl⟩)))
        (paB_cons kp2 (PE.wk (t' := tB (R2 K) (BadSh K)) pe_int (by rintro σ H Q ⟨⟨a, xs, fs, h1, hs, hf⟩, q⟩; exact q _ _ (Same.refl H) (.inl ⟨.int 0, .dp (.int _), rfl⟩)))
        (paB_cons kp2 (PE.wk (t' := tB (R2 K) (BadSh K)) pe_str (by rintro σ H Q ⟨⟨a, xs, fs, h1, hs, hf⟩, q⟩; exact q _ _ (Same.refl H) (.inl ⟨.str "", .dp (.str _), rfl⟩)))
        (paB_cons kp2 (PE.wk (t' := tB (R2 K) (BadSh K)) pe_dnewK (by rintro σ H Q ⟨⟨a, xs, fs, h1, hs, hf⟩, q⟩; exact fun p n => q _ _ (same_new n) (.inl ⟨.dict [], .nod upd_same, rfl⟩)))
        (paB_cons kp2 (PE.wk (t' := tB (R2 K) (BadSh K)) pe_bl (by rintro σ H Q ⟨⟨a, xs, fs, h1, hs, hf⟩, q⟩; exact q _ _ (Same.refl H) (.inl ⟨.bool true, .dp (.bl _), rfl⟩)))
        (paB_cons kp2 (PE.wk (t' := tB (R2 K) (BadSh K)) (pe_lst pa_nil) (by rintro σ H Q ⟨⟨a, xs, fs, h1, hs, hf⟩, q⟩; exact ⟨by show 0 ≤ sizeLine; decide, fun p n => q _ _ (same_new n) (.inl ⟨.list [], .dp (.lst (sqL upd_same) .nil), rfl⟩)⟩))
        (paB_cons kp2 (PE.wk (t' := tB (R2 K) (BadSh K)) (pe_tup (pa_cons (pe_tup (pa_cons pe_int (pa_cons pe_int pa_nil))) pa_nil)) (by rintro σ H Q ⟨⟨a, xs, fs, h1, hs, hf⟩, q⟩; exact ⟨by show 2 ≤ sizeLine; decide, fun p1 n1 => ⟨by show 1 ≤ sizeLine; decide, fun p n => q _ _ ((same_new n1).trans (same_new n)) (.inr ⟨p, [.ref p1], [.tuple [.int 0, .int 1]], rfl, sqT upd_same, th_one (.dp (.tup (sqT (same_new n _ _ upd_same)) (.cons (.int _) (.cons (.int _) .nil)))), by decide +kernel⟩)⟩⟩))
        (paB_cons kp2 (PE.wk (t' := tB (R2 K) (BadSh K)) (pe_op op_repT (pe_tup (pa_cons (pe_tup (pa_cons pe_int (pa_cons pe_int pa_nil))) pa_nil)) pe_int) (by rintro σ H Q ⟨⟨a, xs, fs, h1, hs, hf⟩, q⟩; exact ⟨by show 2 ≤ sizeLine; decide, fun p1 n1 => ⟨by show 1 ≤ sizeLine; decide, fun p2 n2 => ⟨p2, 3, [.ref p1], rfl, rfl, sqT upd_same, List.cons_ne_nil _ _, by decide, by decide, Nat.le_of_ble_eq_true rfl, fun p n => q _ _ ((same_new n1).trans ((same_new n2).trans (same_new n))) (.inr ⟨p, List.replicate 3 (.ref p1), List.replicate 3 (.tuple [.int 0, .int 1]), rfl, sqT upd_same, th_rep (.dp (.tup (sqT (same_new n _ _ (same_new n2 _ _ upd_same))) (.cons (.int _) (.cons (.int _) .nil)))) 3, by decide +kernel⟩)⟩⟩⟩))
        (paB_cons kp2 (PE.wk (t' := tB (R2 K) (BadSh K)) (pe_tup (pa_cons (pv 1) pa_nil)) (by rintro σ H Q ⟨⟨a, xs, fs, h1, hs, hf⟩, q⟩; exact ⟨_, h1, by show 1 ≤ sizeLine; decide, fun p n => q _ _ (same_new n) (.inr ⟨p, [.ref a], [_], rfl, sqT upd_same, th_one (.dp (.tup ((tk_new n).sq hs) (dpAll_same (same_new n) (dp_frs hf)))), are_one (made_bad fs)⟩)⟩))
        (paB_cons kp2 (PE.wk (t' := tB (R2 K) (BadSh K)) (pe_op op_repT (pe_tup (pa_cons (pe_tup (pa_cons pe_int (pa_cons pe_int pa_nil))) pa_nil)) pe_int) (by rintro σ H Q ⟨⟨a, xs, fs, h1, hs, hf⟩, q⟩; exact ⟨by show 2 ≤ sizeLine; decide, fun p1 n1 => ⟨by show 1 ≤ sizeLine; decide, fun p2 n2 => ⟨p2, 65, [.ref p1], rfl, rfl, sqT upd_same, List.cons_ne_nil _ _, by decide, by decide, Nat.le_of_ble_eq_true rfl, fun p n => q _ _ ((same_new n1).trans ((same_new n2).trans (same_new n))) (.inr ⟨p, List.replicate 65 (.ref p1), List.replicate 65 (.tuple [.int 1, .int 1]), rfl, sqT upd_same, th_rep (.dp (.tup (sqT (same_new n _ _ (same_new n2 _ _ upd_same))) (.cons (.int _) (.cons (.int _) .nil)))) 65, by decide +kernel⟩)⟩⟩⟩))
        paB_nil)))))))))))) (by decide))))
      (pss_one (ps_ret (pv 6))))))))), ?_⟩
    have hlen := hf.1
    have l0 := G.len0
    have l64 := G.len1
    refine ⟨_, rfl, _, rfl, a, xs, rfl, .inr hs, l, _, rfl, pl, by omega, fun H1 i b1 p1 i0 i1 => ?_⟩
    obtain ⟨j, rfl⟩ : ∃ j : Nat, i = (j : Int) := ⟨i.toNat, by omega⟩
    have hj : j < xs.length := by omega
    have s1 := (b1.tk pl.lst).sq hs
    have f1 := hf.tk (b1.tk pl.lst)
    obtain ⟨f, p, hfj, ex, hp⟩ := f1.get (List.getElem?_eq_getElem hj)
    have ⟨g0, g1, g2, g3, _⟩ := G.each f (List.mem_of_getElem? hfj)
    have t6 : f.1.natAbs < 2 ^ 64 := big_small g0 (by omega)
    have b6 : f.2.natAbs < 2 ^ 64 := big_small (by omega) (by omega)
    refine ⟨_, rfl, _, rfl, a, xs, (j : Int), .ref p, rfl, rfl, s1, atI_nat (by rw [List.getElem?_eq_getElem hj, ex]), p, _, rfl, hp, rfl, _, _, rfl, _, _, rfl, rfl, ?_⟩
    -- the odd ones
    refine ⟨⟨f.1, f.2, rfl, rfl, t6, b6⟩, fun o1 ys1 H2 s2 n1 bad1 l1 => ?_⟩
    refine ⟨_, rfl, ⟨f.1, f.2, rfl, rfl, t6, b6⟩, fun o2 ys2 H3 s3 n2 bad2 l2 => ⟨o1, o2, ys1, ys2, rfl, rfl, s3 _ _ l1, l2, small_line (show ys1.length + ys2.length ≤ 1000 by omega), fun o3 no3 => ?_⟩⟩
    have s13 := s2.trans s3
    have bad3 : ∀ y ∈ ys1 ++ ys2, BadO K H3 y := fun y hy => by
      rcases List.mem_append.mp hy with hy | hy
      · exact kp1.b _ _ _ s3 (bad1 y hy)
      · exact bad2 y hy
    have l4 : (upd H3 o3 (.lst (ys1 ++ ys2))) o3 = some (.lst (ys1 ++ ys2)) := upd_same
    have n4 : (ys1 ++ ys2).length = 21 := by rw [List.length_append, n1, n2]
    revert bad3 l4 n4
    generalize ys1 ++ ys2 = ys
    intro bad3 l4 n4
    refine ⟨_, rfl, .inl ⟨rfl, _, sqL l4⟩, by show 2 ≤ sizeLine; decide, fun q1 m1 => ⟨by show 2 ≤ sizeLine; decide, fun q2 m2 => ⟨o3, ys, _, rfl, rfl, same_new m2 _ _ (same_new m1 _ _ l4), small1000 (by omega), ?_⟩⟩⟩
    have l5 := same_new (o := .tup [.int 1, .int 1]) m1 _ _ l4
    have nq1 : q1 ≠ o3 := (ne_of_none l4 m1).symm
    have nq2 : q2 ≠ o3 := (ne_of_none l5 m2).symm
    have nq3 : q1 ≠ q2 := ne_of_none (upd_same (H := upd H3 o3 (.lst ys)) (a := q1) (o := .tup [.int 1, .int 1])) m2
    have s36 : Same H3 (upd (upd (upd (upd H3 o3 (.lst ys)) q1 (.tup [.int 1, .int 1])) q2 (.tup [.ref q1, .int 1])) o3 (.lst (ys ++ [.ref q2]))) := ((((Bt.refl (S := []) H3).new no3).trans (((Bt.refl _).new m1).new m2)).upd0 no3).same
    have l6 : (upd (upd (upd (upd H3 o3 (.lst ys)) q1 (.tup [.int 1, .int 1])) q2 (.tup [.ref q1, .int 1])) o3 (.lst (ys ++ [.ref q2]))) o3 = some (.lst (ys ++ [.ref q2])) := upd_same
    have bad6 : BadO K (upd (upd (upd (upd H3 o3 (.lst ys)) q1 (.tup [.int 1, .int 1])) q2 (.tup [.ref q1, .int 1])) o3 (.lst (ys ++ [.ref q2]))) (.ref q2) :=
      ⟨.tuple [.tuple [.int 1, .int 1], .int 1], .dp (.tup (sqT (by rw [upd_ne nq2, upd_same])) (.cons (.tup (sqT (by rw [upd_ne nq1, upd_ne nq3, upd_same])) (.cons (.int _) (.cons (.int _) .nil))) (.cons (.int _) .nil))), rfl⟩
    revert s36 l6 bad6
    generalize (upd (upd (upd (upd H3 o3 (.lst ys)) q1 (.tup [.int 1, .int 1])) q2 (.tup [.ref q1, .int 1])) o3 (.lst (ys ++ [.ref q2]))) = H6
    intro s36 l6 bad6
    have s16 := s13.trans s36
    have badz : ∀ y ∈ ys ++ [V.ref q2], BadO K H6 y := fun y hy => by
      rcases List.mem_append.mp hy with hy | hy
      · exact kp1.b _ _ _ s36 (bad3 y hy)
      · rw [List.mem_singleton.mp hy]
        exact bad6
    have nz : (ys ++ [V.ref q2]).length = 22 := by rw [List.length_append, n4]; rfl
    revert badz l6 nz
    generalize ys ++ [V.ref q2] = zs
    intro l6 badz nz
    have sq6 := (tk_same s16).sq s1
    have f6 := f1.tk (tk_same s16)
    -- each in a row of shares
    refine ⟨_, rfl, o3, rfl, ⟨zs, sqL l6⟩, fun R nR => lc_list (K := K) (a := o3) (xs := zs) (fun i H' => ∃ ws, H' R = some (.lst ws) ∧ ws.length = i ∧ (∀ x ∈ ws, ∃ (p : Addr) (ys : List V) (ds : List PyData), x = .ref p ∧ SqT K H' p ys ∧ ThAll K H6 ys ds ∧ areB ds = false) ∧ Same H6 H') ⟨[], upd_same, rfl, (fun x hx => nomatch hx), same_new nR⟩ (fun i H' _ ⟨_, _, _, _, e⟩ => sqL (e _ _ l6)) ?_ ?_⟩
    · rintro i x H7 hx ⟨ws, hR, lw, bw, s7⟩
      have il := lt_get hx
      refine ⟨rfl, tyes (iteT ⟨a, xs, j, x, rfl, (tk_same s7).sq sq6, rfl, hj, by omega, rfl, fun p8 H8 s8 c8 => ⟨ws, s8 _ _ hR, small1000 (by omega), ws ++ [.ref p8], upd_same, by rw [List.length_append, lw]; rfl, fun y hy => ?_, ?_⟩⟩)⟩
      · have tk : Tk H8 (upd H8 R (.lst (ws ++ [.ref p8]))) := tk_lst (s8 _ _ hR)
        rcases List.mem_append.mp hy with hy | hy
        · obtain ⟨p, ys, ds, rfl, h1, h2, h3⟩ := bw y hy
          exact ⟨p, ys, ds, rfl, tk.sq ((tk_same s8).sq h1), h2, h3⟩
        · rw [List.mem_singleton.mp hy]
          obtain ⟨d, th, bd⟩ := badz x (List.mem_of_getElem? hx)
          exact ⟨p8, _, _, rfl, tk.sq c8, th_same_put (sh_th f6) th, are_put bd⟩
      · exact ((Bt.of_same (S := []) (s7.trans s8)).upd0 nR).same
    · rintro H7 ⟨ws, hR, lw, bw, s7⟩
      have s17 := s16.trans s7
      refine ⟨_, rfl, ⟨a, xs, fs, rfl, (tk_same s17).sq s1, f1.tk (tk_same s17)⟩, fun o5 vs5 H8 s8 n8 b8 l8 => ⟨R, o5, ws, vs5, rfl, rfl, s8 _ _ hR, l8, small_line (show ws.length + vs5.length ≤ 1000 by omega), fun o6 no6 => ?_⟩⟩
      have s18 := s17.trans (s8.trans (same_new (o := .lst (ws ++ vs5)) no6))
      refine ⟨_, rfl, q _ o6 (ws ++ vs5) (b1.trans (.of_same s18)) (p1.same s18) upd_same (by rw [List.length_append]; omega) fun x hx => ?_⟩
      rcases List.mem_append.mp hx with hx | hx
      · obtain ⟨p, ys, ds, rfl, h1, h2, h3⟩ := bw x hx
        exact .inr ⟨p, ys, ds, rfl, (tk_same (s8.trans (same_new no6))).sq h1, h2.same (s7.trans (s8.trans (same_new no6))), h3⟩
      · exact (b8 x hx).same (same_new no6)
end
end Wd2

set_option Elab.async false
set_option linter.all false
set_option maxRecDepth 100000
set_option maxHeartbeats 4000000
set_option exponentiation.threshold 5000
namespace Wd2
open PySem PySem.Spec PyProof.Rows L2 WdM Wd
abbrev sLaw : Stmt := topS 43
abbrev nL : List Str := ["_law_script", "_law_k", "_law_pool_here", "_law_made", "_law_some", "_law_sum_due", "_law_times", "_law_thing", "_law_top", "_law_bottom"]
theorem scLaw : FnScope nL ["_law_script"] (defScope sLaw) := ⟨rfl, rfl, rfl, by decide +kernel, rfl, by decide +kernel, by decide +kernel⟩
section
variable {P : Program} {w : World} {K : PySem.W.Frag} {mg : Str → Option Value} {base : Heap} {CS fI CN CW : Addr}
theorem kb1 {f : Addr} {fd : FuncData} (F : Fun K "parted" "parted" sParted f fd) : KBn K fd ["amount", "shares"] 0 ["amount", "shares"] (fun _ ws => ws) (fun _ zs => zs) where
  to := fun s us ws _ h1 h2 => by
    obtain ⟨oc, od, kV, doc, pm, an, cdv, ct, osl, rfl, lk, hcd⟩ := F.ex
    match us, ws, h1, h2 with
    | [], [x, y], _, _ => exact .of_eq rfl
  rel := fun _ r => r
def RT : L2.St → Hp → Prop := fun _ _ => True
def BdT (K : PySem.W.Frag) (H : Hp) (v : V) : Prop := ∃ d, Th K H v d ∧ amtB d = false ∧ Shows K H v d ∧ PyData.strOk d.shown = true
theorem kpT : Kp RT (BdT K) := ⟨fun _ _ _ _ h => h, fun _ _ _ e ⟨d, th, n, s, k⟩ => ⟨d, th.same e, n, s.same e, k⟩⟩
theorem bd_of {H : Hp} {v : V} {d : PyData} (h : Dp K H v d) (n : amtB d = false) (nd : d.hasDict = false) (s : PyData.showable d = true) (p : d.depth ≤ 8) (l : d.shown.length ≤ sizeLine) (k : PyData.strOk d.shown = true) : BdT K H v :=
  ⟨d, .dp h, n, ⟨fun H1 e => .dp (dp_same e h) nd, s, p, l⟩, k⟩
theorem shS {a b : Str} (ha : PyData.strOk a = true) (hb : PyData.strOk b = true) : SeqAt.shaped (.tuple [.str a, .str b]) = true := by
  unfold SeqAt.shaped PyData.canLay0 PyData.depth
  simp [PyData.canLayAll0, PyData.canLay0, PyData.depthAll, PyData.depth, ha, hb]
theorem eqS (a b : Str) : (!PyData.eqv (.tuple [.str a, .str b]) (.tuple [.str a, .str b])) = false := by simp [PyData.eqv, PyData.eqvAll]
theorem okSum : PyData.strOk "sum" = true := by decide +kernel
theorem shN {a : Str} (ha : PyData.strOk a = true) : SeqAt.shaped (.tuple [.str a, .none]) = true := by
  unfold SeqAt.shaped PyData.canLay0 PyData.depth
  simp [PyData.canLayAll0, PyData.canLay0, PyData.depthAll, PyData.depth, ha]
theorem okSh : PyData.strOk "shares" = true := by decide +kernel
theorem eqN (a : Str) : (PyData.eqv (.tuple [.str a, .none]) (.tuple [.str a, .none])) = true := by simp [PyData.eqv, PyData.eqvAll]
theorem neT (ns : List Int) : (!PyData.eqv (.tuple (ns.map .int)) (.tuple (ns.map .int))) = false := by rw [eqvT]; rfl
theorem Bt.same1 {l : Addr} {H H' : Hp} (e : Bt [l] H H') (h : H l = none) : Same H H' := fun b o q => e b o (by simp [ne_of_none q h]) q
structure Lk (A : Int) (fs gs : List (Int × Int)) : Prop where
  len : fs.length = gs.length
  each : ∀ (i : Nat) (f g : Int × Int), fs[i]? = some f → gs[i]? = some g → 0 ≤ g.1 ∧ 0 < g.2 ∧ Int.gcd g.1 g.2 = 1 ∧ g.1 * f.2 = f.1 * A * g.2 ∧ g.1 ≤ f.1 * A ∧ g.2 ≤ f.2
theorem mul_le9 {x A : Int} (h0 : 0 ≤ x) (h1 : x ≤ 1000000000000) (a0 : 1 ≤ A) (a1 : A ≤ 9) : 0 ≤ x * A ∧ x * A ≤ 9000000000000 := by
  have h2 : x * A ≤ x * 9 := Int.mul_le_mul_of_nonneg_left a1 h0
  have h3 : 0 ≤ x * A := Int.mul_nonneg h0 (by omega)
  omega
theorem Lk.good {A : Int} {fs gs : List (Int × Int)} (h : Lk A fs gs) (G : Gd fs) (a0 : 1 ≤ A) (a1 : A ≤ 9) : Good gs := by
  have get : ∀ g ∈ gs, ∃ f, f ∈ fs ∧ 0 ≤ g.1 ∧ 0 < g.2 ∧ Int.gcd g.1 g.2 = 1 ∧ g.1 * f.2 = f.1 * A * g.2 ∧ g.1 ≤ f.1 * A ∧ g.2 ≤ f.2 := fun g hg => by
    obtain ⟨i, hi, e⟩ := List.mem_iff_getElem.mp hg
    have hi2 : i < fs.length := by rw [h.len]; exact hi
    exact ⟨fs[i], List.getElem_mem hi2, h.each i fs[i] g (List.getElem?_eq_getElem hi2) (by rw [List.getElem?_eq_getElem hi, e])⟩
  refine ⟨by rw [← h.len]; exact G.len0, by rw [← h.len]; exact G.len1, fun g hg => ?_, ?_⟩
  · obtain ⟨f, hf, e1, e2, e3, e4, e5, e6⟩ := get g hg
    have ⟨f1, f2, f3, f4, _⟩ := G.each f hf
    have q1 := mul_le9 f1 f2 a0 a1
    exact ⟨e1, e2, big_small e1 (by omega), big_small (by omega) (by omega), e3⟩
  · obtain ⟨f, hf, hp⟩ := G.some
    obtain ⟨i, hi, e⟩ := List.mem_iff_getElem.mp hf
    have hi2 : i < gs.length := by rw [← h.len]; exact hi
    have ⟨e1, e2, e3, e4, _⟩ := h.each i f gs[i] (by rw [List.getElem?_eq_getElem hi, e]) (List.getElem?_eq_getElem hi2)
    refine ⟨gs[i], List.getElem_mem hi2, ?_⟩
    rcases Int.lt_or_le 0 (gs[i]).1 with z | z
    · exact z
    · have e0 : (gs[i]).1 = 0 := by omega
      rw [e0, Int.zero_mul] at e4
      have := Int.mul_pos (Int.mul_pos hp (show 0 < A by omega)) e2
      omega
theorem Lk.dealt {A : Int} {fs gs : List (Int × Int)} (h : Lk A fs gs) (G : Gd fs) (a0 : 1 ≤ A) (a1 : A ≤ 9) (a : Int) : dealt a (wtsOf gs) = dealt a (wtsOf fs) :=
  (dealt_frac (A := A) (B := 1) (by omega) (by omega) h.len (G.good).pos (h.good G a0 a1).pos (fun i f g hf hg => by
    have e := (h.each i f g hf hg).2.2.2.1
    rw [Int.mul_one]
    exact e)).symm
theorem Lk.snoc {A : Int} {fs gs : List (Int × Int)} {f g : Int × Int} (h : Lk A fs gs) (e : 0 ≤ g.1 ∧ 0 < g.2 ∧ Int.gcd g.1 g.2 = 1 ∧ g.1 * f.2 = f.1 * A * g.2 ∧ g.1 ≤ f.1 * A ∧ g.2 ≤ f.2) : Lk A (fs ++ [f]) (gs ++ [g]) := by
  refine ⟨by rw [List.length_append, List.length_append, h.len]; rfl, fun i x y hx hy => ?_⟩
  by_cases hi : i < fs.length
  · rw [List.getElem?_append_left hi] at hx
    rw [List.getElem?_append_left (by rw [← h.len]; exact hi)] at hy
    exact h.each i x y hx hy
  · rw [List.getElem?_append_right (by omega)] at hx
    rw [List.getElem?_append_right (by rw [← h.len]; omega)] at hy
    have i0 : i - fs.length = 0 := by
      have := lt_get hx
      simp at this
      omega
    rw [i0] at hx
    rw [← h.len, i0] at hy
    cases hx
    cases hy
    exact e
theorem good_h : Good [(1, 2), (1, 2)] := ⟨by decide, by decide, fun f hf => by
  have : f = (1, 2) := by simpa using hf
  rw [this]
  decide, ⟨(1, 2), by simp, by decide⟩⟩
theorem good_t : Good [(1, 3), (1, 3), (1, 3)] := ⟨by decide, by decide, fun f hf => by
  have : f = (1, 3) := by simpa using hf
  rw [this]
  decide, ⟨(1, 3), by simp, by decide⟩⟩
theorem deal_h : dealt 7 (wtsOf [(1, 2), (1, 2)]) = [4, 3] := by decide +kernel
theorem deal_t : dealt 2 (wtsOf [(1, 3), (1, 3), (1, 3)]) = [1, 1, 0] := by decide +kernel
def spLaw (K : PySem.W.Frag) : Sp := fun vs H Q _ => ∃ (a : Addr) (ns : List Int), vs = [.ref a] ∧ SqL K H a (ns.map V.int) ∧ ns.length ≤ 63 ∧ ∀ H', Q (.bl true) H'
theorem ok_law {f fO fS fT fR fL fN fF fP : Addr} {fd fdO fdS fdT fdR fdL fdN fdF fdP : FuncData} (B : Bl mg) (M : Bm mg) (hrp : mg "repr" = none) (D : Df K mg "law" sLaw f fd ["_law_script"]) (DO : Df K mg "_law_pool" sPool fO fdO ["_law_script", "_law_k"]) (DS : Df K mg "_law_shares" sShares fS fdS ["_law_pool_here"])
    (DT : Df K mg "_law_take" sTake fT fdT ["_law_pool_here", "_law_many"]) (DR : Df K mg "_law_right" sRight fR fdR ["_law_sum_due", "_law_made", "_law_found"]) (DL : Df K mg "_law_low" sLow fL fdL ["_law_top", "_law_bottom"]) (DN : Df K mg "_law_no_shares" sNo fN fdN ["_law_pool_here", "_law_made"])
    (DF : Df K mg "_law_refused" sRef fF fdF ["_law_sum_due", "_law_made"]) (DP : Df K mg "parted" sParted fP fdP ["amount", "shares"])
    (GS : FnOk P w K mg base CX0 2 fS fdS ["_law_pool_here"] (spShares K)) (GR : FnOk P w K mg base CX0 1 fR fdR ["_law_sum_due", "_law_made", "_law_found"] (spRight K)) (GN : FnOk P w K mg base CX0 2 fN fdN ["_law_pool_here", "_law_made"] (spNo K))
    (GF : FnG P w K mg base 5 fF fdF ["_law_sum_due", "_law_made"] (spRefused K)) (GP : FnOk P w K mg base (L2.CX P w) 4 fP fdP ["amount", "shares"] (spParted K CS CN)) :
    FnG P w K mg base 6 f fd ["_law_script"] (spLaw K) := by
  have GO : FnOk P w K mg base CX0 1 fO fdO ["_law_script", "_law_k"] (spPool K) := ok_pool (k := 0) B M DO
  have GT : FnOk P w K mg base CX0 1 fT fdT ["_law_pool_here", "_law_many"] spTake := ok_take (k := 0) M DT
  have GL : FnOk P w K mg base CX0 1 fL fdL ["_law_top", "_law_bottom"] spLow := ok_low (k := 0) DL
  refine okG D.fn scLaw (fun vs H Q E h => ?_) (fun cdv A outer s H vs Q E gs hr h => ?_)
  · obtain ⟨a, ns, rfl, _⟩ := h
    rfl
  · obtain ⟨a, ns, rfl, hs, hlen, q⟩ := h
    have r1 : Room 1 _ := hr.mono (by omega)
    have r2 : Room 2 _ := hr.mono (by omega)
    have r4 : Room 4 _ := hr.mono (by omega)
    have hu := hr.units
    refine ⟨_, pss_cons (ps_for PassesOwn.never rfl (pi_range1 (by rfl) M.range (pa_cons (pe_callB (call_max2 rfl) (by rfl) M.max (by decide +kernel) (pa_cons pe_int (pa_cons (pe_callB (call_min2 rfl) (by rfl) M.min (by decide +kernel) (pa_cons (pe_callB call_len_seq (by rfl) B.len PySem.boot_len (pa_cons (pv 0) pa_nil)) (pa_cons pe_int pa_nil))) pa_nil))) pa_nil)) (pg_name (i := 1) scLaw.nd rfl (.inl rfl))
      (pss_cons (ps_set (i := 2) scLaw.nd rfl (.inl rfl) (pe_call GO r1 (by rfl) DO.mg DO.fn.kp DO.bd .nil pass0 (pa_cons (pv 0) (pa_cons (pv 1) pa_nil))))
      (pss_cons (ps_set (i := 3) scLaw.nd rfl (.inl rfl) (pe_call GS r2 (by rfl) DS.mg DS.fn.kp DS.bd .nil pass0 (pa_cons (pv 2) pa_nil)))
      (pss_cons (ps_set (i := 4) scLaw.nd rfl (.inr rfl) (pe_lst (pa_cons pe_int (pa_cons pe_int (pa_cons (pe_op op_pow pe_int pe_int) (pa_cons (pe_call GT r1 (by rfl) DT.mg DT.fn.kp DT.bd .nil pass0 (pa_cons (pv 2) (pa_cons pe_int pa_nil))) (pa_cons (pe_call GT r1 (by rfl) DT.mg DT.fn.kp DT.bd .nil pass0 (pa_cons (pv 2) (pa_cons pe_int pa_nil))) (pa_cons (pe_call GT r1 (by rfl) DT.mg DT.fn.kp DT.bd .nil pass0 (pa_cons (pv 2) (pa_cons (pe_op op_add (pe_op op_pow pe_int pe_int) pe_int) pa_nil))) pa_nil))))))))
      (pss_cons (ps_for PassesOwn.never rfl (pi_list (pv 4)) (pg_name (i := 5) scLaw.nd rfl (.inl rfl)) (pss_one (ps_if (pt_not (pt_val (pe_call GR r1 (by rfl) DR.mg DR.fn.kp DR.bd .nil pass0 (pa_cons (pv 5) (pa_cons (pv 3) (pa_cons (pe_call GP r4 (by rfl) DP.mg DP.fn.kp DP.bd .nil passL (pa_cons (pv 5) (pa_cons (pv 3) pa_nil))) pa_nil)))))) (pss_one (ps_ret pe_bl)) pss_nil)))
      (pss_cons (ps_set (i := 6) scLaw.nd rfl (.inr rfl) (pe_op op_add pe_int (pe_call GT r1 (by rfl) DT.mg DT.fn.kp DT.bd .nil pass0 (pa_cons (pv 2) (pa_cons pe_int pa_nil)))))
      (pss_cons (ps_if (pt_cmpR (op_neD hu) (pe_call GP r4 (by rfl) DP.mg DP.fn.kp DP.bd .nil passL (pa_cons (pe_ix (r := rIxL K) ix_list (pv 4) pe_int (fun _ _ => rfl)) (pa_cons (pe_callTy call_tuple_of (by rfl) B.tuple boot_tuple (pa_cons (pe_lc (own := [("_law_top", 8), ("_law_bottom", 9)]) (g := gTup K 2 (gCons (gName 8) (gCons (gName 9) gNil))) (tt := tYes) rfl scLaw.nd (pi_tup (pv 3)) (blkOk_by (own := [("_law_top", 8), ("_law_bottom", 9)]) (N := nL) (sc := defScope sLaw) (by decide +kernel))
            (fun _ _ _ _ _ => pg_tup rfl (pgs_cons (pg_name (i := 8) scLaw.nd rfl (.inl rfl)) (pgs_cons (pg_name (i := 9) scLaw.nd rfl (.inl rfl)) pgs_nil))) (fun _ _ _ _ _ => pts_nil)
            (fun _ _ _ _ _ => (pe_call GL r1 (by rfl) DL.mg DL.fn.kp DL.bd .nil pass0 (pa_cons (pe_op op_mulW (pv 8) (pv 6)) (pa_cons (pv 9) pa_nil))))) pa_nil)) pa_nil))) (pe_call GP r4 (by rfl) DP.mg DP.fn.kp DP.bd .nil passL (pa_cons (pe_ix (r := rIxL K) ix_list (pv 4) pe_int (fun _ _ => rfl)) (pa_cons (pv 3) pa_nil))) (nomark _)) (pss_one (ps_ret pe_bl)) pss_nil)
      (pss_cons (ps_for PassesOwn.never rfl (pi_list (peB_lst kpT (paB_cons kpT (PE.wk (t' := tB RT (BdT K)) (pe_un un_neg pe_int) (by rintro σ H Q ⟨_, q⟩; exact ⟨1, rfl, q _ _ (Same.refl H) (bd_of (d := .int (-1)) (.int _) (by decide +kernel) (by decide +kernel) (by decide +kernel) (by decide +kernel) (by decide +kernel) (by decide +kernel))⟩))
        (paB_cons kpT (PE.wk (t' := tB RT (BdT K)) (pe_op op_add (pe_op op_pow pe_int pe_int) pe_int) (by rintro σ H Q ⟨_, q⟩; exact ⟨10, 12, rfl, rfl, ⟨by decide, by decide, by decide⟩, _, 1, rfl, rfl, q _ _ (Same.refl H) (bd_of (d := .int (10 ^ (12 : Int).toNat + 1)) (.int _) (by decide +kernel) (by decide +kernel) (by decide +kernel) (by decide +kernel) (by decide +kernel) (by decide +kernel))⟩))
        (paB_cons kpT (PE.wk (t' := tB RT (BdT K)) pe_bl (by rintro σ H Q ⟨_, q⟩; exact q _ _ (Same.refl H) (bd_of (d := .bool true) (.bl _) (by decide +kernel) (by decide +kernel) (by decide +kernel) (by decide +kernel) (by decide +kernel) (by decide +kernel))))
        (paB_cons kpT (PE.wk (t' := tB RT (BdT K)) pe_bl (by rintro σ H Q ⟨_, q⟩; exact q _ _ (Same.refl H) (bd_of (d := .bool false) (.bl _) (by decide +kernel) (by decide +kernel) (by decide +kernel) (by decide +kernel) (by decide +kernel) (by decide +kernel))))
        (paB_cons kpT (PE.wk (t' := tB RT (BdT K)) pe_non (by rintro σ H Q ⟨_, q⟩; exact q _ _ (Same.refl H) (bd_of (d := .none) .non (by decide +kernel) (by decide +kernel) (by decide +kernel) (by decide +kernel) (by decide +kernel) (by decide +kernel))))
        (paB_cons kpT (PE.wk (t' := tB RT (BdT K)) pe_str (by rintro σ H Q ⟨_, q⟩; exact q _ _ (Same.refl H) (bd_of (d := .str "5") (.str _) (by decide +kernel) (by decide +kernel) (by decide +kernel) (by decide +kernel) (by decide +kernel) (by decide +kernel))))
        (paB_cons kpT (PE.wk (t' := tB RT (BdT K)) (pe_tup (pa_cons pe_int pa_nil)) (by rintro σ H Q ⟨_, q⟩; exact ⟨by show 1 ≤ sizeLine; decide, fun p n => q _ _ (same_new n) (bd_of (d := .tuple [.int 5]) (.tup (sqT upd_same) (.cons (.int _) .nil)) (by decide +kernel) (by decide +kernel) (by decide +kernel) (by decide +kernel) (by decide +kernel) (by decide +kernel))⟩))
        (paB_cons kpT (PE.wk (t' := tB RT (BdT K)) (pe_lst (pa_cons pe_int pa_nil)) (by rintro σ H Q ⟨_, q⟩; exact ⟨by show 1 ≤ sizeLine; decide, fun p n => q _ _ (same_new n) (bd_of (d := .list [.int 5]) (.lst (sqL upd_same) (.cons (.int _) .nil)) (by decide +kernel) (by decide +kernel) (by decide +kernel) (by decide +kernel) (by decide +kernel) (by decide +kernel))⟩))
        (paB_cons kpT (PE.wk (t' := tB RT (BdT K)) pe_dnewK (by rintro σ H Q ⟨_, q⟩; exact fun p n => q _ _ (same_new n) ⟨.dict [], .nod upd_same, rfl, ⟨fun H1 e => .nod (e _ _ upd_same), by decide +kernel, by decide +kernel, by decide +kernel⟩, by decide +kernel⟩))
        (paB_cons kpT (PE.wk (t' := tB RT (BdT K)) (pe_op op_pow pe_int pe_int) (by rintro σ H Q ⟨_, q⟩; exact ⟨10, 30, rfl, rfl, ⟨by decide, by decide, by decide⟩, q _ _ (Same.refl H) (bd_of (d := .int (10 ^ (30 : Int).toNat)) (.int _) (by decide +kernel) (by decide +kernel) (by decide +kernel) (by decide +kernel) (by decide +kernel) (by decide +kernel))⟩))
        (paB_cons kpT (PE.wk (t' := tB RT (BdT K)) (pe_tup (pa_cons (pe_lst (pa_cons pe_int pa_nil)) pa_nil)) (by rintro σ H Q ⟨_, q⟩; exact ⟨by show 1 ≤ sizeLine; decide, fun p1 n1 => ⟨by show 1 ≤ sizeLine; decide, fun p n => q _ _ ((same_new n1).trans (same_new n)) (bd_of (d := .tuple [.list [.int 5]]) (.tup (sqT upd_same) (.cons (.lst (sqL (same_new n _ _ upd_same)) (.cons (.int _) .nil)) .nil)) (by decide +kernel) (by decide +kernel) (by decide +kernel) (by decide +kernel) (by decide +kernel) (by decide +kernel))⟩⟩))
        paB_nil))))))))))) (by decide))) (pg_name (i := 7) scLaw.nd rfl (.inl rfl)) (pss_one (ps_if (PW.pt (pw_or (pt_cmpR (op_neD hu) (pe_callG GF gs hr (by rfl) DF.mg DF.fn.kp DF.bd (pa_cons (pv 7) (pa_cons (pv 3) pa_nil))) (pe_tup (pa_cons pe_str (pa_cons (pe_callB (call_reprD gs hu) (by rfl) hrp (by decide +kernel) (pa_cons (pv 7) pa_nil)) pa_nil))) (nomark _)) (pw_or1 (pt_cmpR (op_neD hu) (pe_callG GF gs hr (by rfl) DF.mg DF.fn.kp DF.bd (pa_cons (pv 7) (pa_cons pe_non pa_nil))) (pe_tup (pa_cons pe_str (pa_cons (pe_callB (call_reprD gs hu) (by rfl) hrp (by decide +kernel) (pa_cons (pv 7) pa_nil)) pa_nil))) (nomark _))))) (pss_one (ps_ret pe_bl)) pss_nil)))
      (pss_cons (ps_if (pt_not (pt_val (pe_callB (cr_all rfl) (by rfl) B.all (by decide +kernel) (pa_cons (pe_lc (own := [("_law_thing", 7)]) (g := gName 7) (tt := tYes) rfl scLaw.nd (pi_list (pe_call GN r2 (by rfl) DN.mg DN.fn.kp DN.bd .nil pass0 (pa_cons (pv 2) (pa_cons (pv 3) pa_nil)))) (blkOk_by (own := [("_law_thing", 7)]) (N := nL) (sc := defScope sLaw) (by decide +kernel))
            (fun _ _ _ _ _ => pg_name (i := 7) scLaw.nd rfl (.inl rfl)) (fun _ _ _ _ _ => pts_nil)
            (fun _ _ _ _ _ => pe_cmpR (r := rEqD K) (op_eqD hu) (pe_callG GF gs hr (by rfl) DF.mg DF.fn.kp DF.bd (pa_cons (pe_ix (r := rIxL K) ix_list (pv 4) pe_int (fun _ _ => rfl)) (pa_cons (pv 7) pa_nil))) (pe_tup (pa_cons pe_str (pa_cons pe_non pa_nil))) (nomark _))) pa_nil)))) (pss_one (ps_ret pe_bl)) pss_nil)
      (pss_one (ps_if (PW.pt (pw_or (pt_cmpR (op_neD hu) (pe_callN0 GP r4 (by rfl) DP.mg DP.fn.kp (kb1 DP.fn) passL (pk_cons pe_int (pk_cons (pe_tup (pa_cons (pe_tup (pa_cons pe_int (pa_cons pe_int pa_nil))) (pa_cons (pe_tup (pa_cons pe_int (pa_cons pe_int pa_nil))) pa_nil))) pk_nil))) (pe_tup (pa_cons pe_int (pa_cons pe_int pa_nil))) (nomark _)) (pw_or1 (pt_cmpR (op_neD hu) (pe_call GP r4 (by rfl) DP.mg DP.fn.kp DP.bd .nil passL (pa_cons pe_int (pa_cons (pe_op op_repT (pe_tup (pa_cons (pe_tup (pa_cons pe_int (pa_cons pe_int pa_nil))) pa_nil)) pe_int) pa_nil))) (pe_tup (pa_cons pe_int (pa_cons pe_int (pa_cons pe_int pa_nil)))) (nomark _))))) (pss_one (ps_ret pe_bl)) pss_nil)))))))))))
      (pss_one (ps_ret pe_bl)), ?_⟩
    refine ⟨_, rfl, a, _, rfl, .inl hs, _, _, rfl, 2, _, rfl, _, rfl, ?_, ?_, for_range (lo := 0) (n := _) (fun i σ H' => (∃ y1 y2 y3 y4 y5 y6 y7 : Option V, σ = [some (.ref a), y1, y2, y3, y4, y5, y6, y7, none, none]) ∧ Same H H') ⟨⟨none, none, none, none, none, none, none, rfl⟩, Same.refl _⟩ ?_ ?_⟩
    · split <;> (try split) <;> omega
    · rw [List.length_map]
      split <;> (try split) <;> omega
    · rintro i σ H1 hi ⟨⟨y1, y2, y3, y4, y5, y6, y7, rfl⟩, s1⟩
      have i8 : i < 13 := by
        revert hi
        split <;> (try split) <;> omega
      refine ⟨_, rfl, _, rfl, a, ns, _, rfl, s1.seq hs, by omega, by omega, fun H2 l s2 nl p2 => ?_⟩
      have nl0 : H l = none := s1.free nl
      refine ⟨_, rfl, l, rfl, p2, fun H3 v fs b3 p3 h3 Gf => ?_⟩
      have G := Gf.good
      have e12 : (10 : Int) ^ (12 : Int).toNat = 1000000000000 := by decide
      refine ⟨10, 12, rfl, rfl, ⟨by decide, by decide, by decide⟩, _, rfl, l, 10, rfl, p3, by decide, fun H4 d4 b4 p4 d40 d41 => ⟨_, rfl, l, 1000, rfl, p4, by decide, fun H5 d5 b5 p5 d50 d51 => ⟨_, rfl, 10, 12, rfl, rfl, ⟨by decide, by decide, by decide⟩, _, 1, rfl, rfl, l, _, rfl, p5, by decide, fun H6 d6 b6 p6 d60 d61 => ⟨by show 6 ≤ sizeLine; decide, fun mL nM => ?_⟩⟩⟩⟩
      rw [e12] at d61
      have okP : ∀ t ∈ [0, 1, (10 : Int) ^ (12 : Int).toNat, d4, d5, d6], 0 ≤ t ∧ t ≤ 1000000000000 := by
        intro t ht
        rw [e12] at ht
        have h5 : t = 0 ∨ t = 1 ∨ t = 1000000000000 ∨ t = d4 ∨ t = d5 ∨ t = d6 := by simpa using ht
        rcases h5 with rfl | rfl | rfl | rfl | rfl | rfl <;> omega
      have bt7 : Bt [l] H3 (upd H6 mL (.lst [.int 0, .int 1, .int ((10 : Int) ^ (12 : Int).toNat), .int d4, .int d5, .int d6])) := (b4.trans (b5.trans b6)).new nM
      have p7 : PoolAt (upd H6 mL (.lst [.int 0, .int 1, .int ((10 : Int) ^ (12 : Int).toNat), .int d4, .int d5, .int d6])) l := p6.upd (p6.ne nM)
      have nMl : mL ∉ [l] := by simp [(p6.ne nM).symm]
      have hM : (upd H6 mL (.lst [.int 0, .int 1, .int ((10 : Int) ^ (12 : Int).toNat), .int d4, .int d5, .int d6])) mL = some (.lst ([0, 1, (10 : Int) ^ (12 : Int).toNat, d4, d5, d6].map V.int)) := upd_same
      revert bt7 p7 hM
      generalize upd H6 mL (.lst [.int 0, .int 1, .int ((10 : Int) ^ (12 : Int).toNat), .int d4, .int d5, .int d6]) = H7
      intro bt7 p7 hM
      have at5 : atI ([0, 1, (10 : Int) ^ (12 : Int).toNat, d4, d5, d6].map V.int) 5 = some (.int d6) := rfl
      have at4 : atI ([0, 1, (10 : Int) ^ (12 : Int).toNat, d4, d5, d6].map V.int) 4 = some (.int d5) := rfl
      revert hM okP at5 at4
      generalize [0, 1, (10 : Int) ^ (12 : Int).toNat, d4, d5, d6] = som
      intro okP hM at5 at4
      have h7 : Sh K H7 v fs := h3.tk (bt7.tk p3.lst)
      have b17 : Bt [l] H H7 := (Bt.of_same (s1.trans s2)).trans (b3.trans bt7)
      obtain ⟨b, ys, rfl, hs7, hf7⟩ := id h7
      clear bt7 h3 p2 p3 p4 p5 p6 b3 b4 b5 b6 nM
      -- right
      refine ⟨_, rfl, mL, rfl, ⟨_, sqL hM⟩, for_list (K := K) (a := mL) (xs := som.map V.int) (fun j σ H' => (∃ y5, σ = [some (.ref a), some (.int (0 + (i : Int))), some (.ref l), some (.ref b), some (.ref mL), y5, y6, y7, none, none]) ∧ Same H7 H') ⟨⟨_, rfl⟩, Same.refl _⟩ (fun j σ H' _ h => sqL (h.2 _ _ hM)) ?_ ?_⟩
      · rintro j x σ H8 hx ⟨⟨y, rfl⟩, s8⟩
        obtain ⟨t, ht, rfl⟩ := ints_get hx
        have ⟨t0, t1⟩ := okP t (List.mem_of_getElem? ht)
        have h8 := h7.tk (tk_same s8)
        exact ⟨_, rfl, _, rfl, _, rfl, _, rfl, .int t, .ref b, rfl, .inl ⟨t, fs, rfl, t0, t1, h8, G, fun H9 r s9 nr hr9 => ⟨t, .ref b, r, fs, rfl, t0, t1, h8.tk (tk_same s9), G, sqT hr9, fun H10 s10 => ⟨true, rfl, iteF ⟨⟨_, rfl⟩, s8.trans (s9.trans s10)⟩⟩⟩⟩⟩
      · rintro σ H8 ⟨⟨y, rfl⟩, s8⟩
        have p8 := p7.same s8
        refine ⟨_, rfl, l, 9, rfl, p8, by decide, fun H9 d9 b9 p9 d90 d91 => ⟨1, d9, rfl, rfl, ?_⟩⟩
        have hM9 := kept b9 (s8 _ _ hM) nMl
        have tk9 := (tk_same s8).trans (b9.tk p8.lst)
        have hs9 := tk9.sq hs7
        have hf9 := hf7.tk tk9
        have h9 := h7.tk tk9
        have b19 := (b17.trans (.of_same s8)).trans b9
        have A0 : 1 ≤ 1 + d9 := by omega
        have A1 : 1 + d9 ≤ 9 := by omega
        clear s8 b9 hM b17 p7 p8 hs7 hf7 h7 tk9
        -- times
        have l64 := Gf.len1
        refine ⟨_, rfl, mL, _, 5, .int d6, rfl, rfl, sqL hM9, at5, _, rfl, b, rfl, ⟨ys, hs9⟩, fun R nR => lc_tup (K := K) (a := b) (xs := ys) (fun i H' => ∃ zs gs, H' R = some (.lst zs) ∧ FrAll K H' zs gs ∧ Lk (1 + d9) (fs.take i) gs ∧ Same H9 H') ⟨[], [], upd_same, .nil, ⟨rfl, fun i f g hf _ => by simp at hf⟩, same_new nR⟩ (fun i H' _ ⟨_, _, _, _, _, sm⟩ => (tk_same sm).sq hs9) ?_ ?_⟩
        · rintro j x H10 hx ⟨zs, gs, hR, hz, lk, sm⟩
          obtain ⟨f, p, hfi, rfl, hp⟩ := (hf9.tk (tk_same sm)).get hx
          have ⟨f1, f2, f3, f4, _⟩ := Gf.each f (List.mem_of_getElem? hfi)
          have q1 := mul_le9 f1 f2 A0 A1
          refine ⟨p, _, rfl, hp, rfl, _, _, rfl, _, _, rfl, rfl, rfl, tyes (iteT ⟨_, rfl, _, rfl, f.1, 1 + d9, rfl, rfl, wide_mul (big_small f1 (by omega)) (big_small (x := 1 + d9) (by omega) (by omega)) (by decide) (by decide) (by decide), _, rfl, f.1 * (1 + d9), f.2, rfl, q1.1, f3, big_small (by omega) (by omega), fun o g no g0 g1 gg ge gx gy => ?_⟩)⟩
          have hR2 : (upd H10 o (.tup [.int g.1, .int g.2])) R = some (.lst zs) := same_new no _ _ hR
          have nRo : R ≠ o := ne_of_none hR no
          refine ⟨zs, hR2, ?_, _, gs ++ [g], upd_same, ?_, ?_, ?_⟩
          · rw [hz.1, ← lk.len, List.length_take]
            exact small1000 (by omega)
          · exact (hz.tk ((tk_new no).trans (tk_lst hR2))).append (FrAll.one ⟨o, rfl, sqT (by rw [upd_ne nRo.symm, upd_same])⟩)
          · rw [take_more hfi]
            exact lk.snoc ⟨g0, g1, gg, ge, gx, gy⟩
          · exact ((Bt.of_same (S := []) (sm.trans (same_new no))).upd0 nR).same
        · rintro H10 ⟨zs, gs, hR, hz, lk, sm⟩
          rw [hf9.1, List.take_length] at lk
          refine ⟨R, zs, rfl, .inl ⟨sqL hR, fun u nu => ⟨.int d6, .ref u, rfl, .inl ⟨d6, gs, rfl, d60, by omega, ⟨u, zs, rfl, sqT upd_same, hz.tk (tk_new nu)⟩, lk.good Gf A0 A1, fun H11 r s11 nr hr11 => ?_⟩⟩⟩⟩
          have s911 : Same H9 H11 := (sm.trans (same_new nu)).trans s11
          rw [lk.dealt Gf A0 A1] at hr11
          refine ⟨_, rfl, mL, _, 5, .int d6, rfl, rfl, sqL (s911 _ _ hM9), at5, _, rfl, .int d6, .ref b, rfl, .inl ⟨d6, fs, rfl, d60, by omega, h9.tk (tk_same s911), G, fun H12 r2 s12 nr2 hr12 => ⟨_, _, dT (sqT (s12 _ _ hr11)), dT (sqT hr12), shT _, shT _, _, rfl, ?_⟩⟩⟩
          rw [neT]
          refine iteF ?_
          have s912 := s911.trans s12
          clear s911 s11 s12 hr11 hr12 nr nr2 nu hz hR sm lk
          -- no sums
          refine ⟨trivial, fun tL ts H13 s13 n13 b13 l13 => ⟨tL, rfl, ⟨_, sqL l13⟩, for_list (K := K) (a := tL) (xs := ts) (fun j σ H' => (∃ y7, σ = [some (.ref a), some (.int (0 + (i : Int))), some (.ref l), some (.ref b), some (.ref mL), y, some (.int (1 + d9)), y7, none, none]) ∧ Same H13 H') ⟨⟨_, rfl⟩, Same.refl _⟩ (fun j σ H' _ h => sqL (h.2 _ _ l13)) ?_ ?_⟩⟩
          · rintro j x σ H14 hx ⟨⟨y8, rfl⟩, s14⟩
            obtain ⟨d, th, bad, sh, ok⟩ := kpT.b _ _ _ s14 (b13 x (List.mem_of_getElem? hx))
            refine ⟨_, rfl, _, rfl, x, .ref b, rfl, .inl ⟨d, th, bad, sh, fun H15 p15 s15 l15 => ⟨_, rfl, x, d, rfl, sh.1 _ s15, sh.2.1, sh.2.2.1, sh.2.2.2, by show 2 ≤ sizeLine; decide, fun u nu => ⟨.tuple [.str "sum", .str d.shown], .tuple [.str "sum", .str d.shown], .tup (sqT (same_new nu _ _ l15)) (.cons (.str _) (.cons (.str _) .nil)), .tup (sqT upd_same) (.cons (.str _) (.cons (.str _) .nil)), shS okSum ok, shS okSum ok, _, rfl, ?_⟩⟩⟩⟩
            rw [eqS]
            have s16 : Same H14 (upd H15 u (.tup [.str "sum", .str d.shown])) := s15.trans (same_new nu)
            refine iteF ⟨_, rfl, x, .non, rfl, .inl ⟨d, th.same s16, bad, sh.same s16, fun H17 p17 s17 l17 => ⟨_, rfl, x, d, rfl, sh.1 _ (s16.trans s17), sh.2.1, sh.2.2.1, sh.2.2.2, by show 2 ≤ sizeLine; decide, fun u2 nu2 => ⟨.tuple [.str "sum", .str d.shown], .tuple [.str "sum", .str d.shown], .tup (sqT (same_new nu2 _ _ l17)) (.cons (.str _) (.cons (.str _) .nil)), .tup (sqT upd_same) (.cons (.str _) (.cons (.str _) .nil)), shS okSum ok, shS okSum ok, _, rfl, ?_⟩⟩⟩⟩
            rw [eqS]
            exact iteF ⟨⟨_, rfl⟩, s14.trans (s16.trans (s17.trans (same_new nu2)))⟩
          · rintro σ H14 ⟨⟨y8, rfl⟩, s14⟩
            have s914 := s912.trans (s13.trans s14)
            have p14 := p9.same s914
            -- no shares
            refine ⟨_, rfl, _, rfl, l, .ref b, fs, rfl, p14, h9.tk (tk_same s914), Gf, fun H20 L20 xs20 b20 p20 l20 n20 bad20 => ⟨L20, rfl, ⟨_, sqL l20⟩, fun R nR => lc_list (K := K) (a := L20) (xs := xs20) (fun i H' => H' R = some (.lst ((List.replicate i true).map V.bl)) ∧ Same H20 H') ⟨upd_same, same_new nR⟩ (fun i H' _ h => sqL (h.2 _ _ l20)) ?_ ?_⟩⟩
            · rintro j x H21 hx ⟨hR, s21⟩
              have il := lt_get hx
              have hM21 := s21 _ _ (kept b20 (s914 _ _ hM9) nMl)
              refine ⟨rfl, tyes (iteT ⟨_, rfl, mL, _, 4, .int d5, rfl, rfl, sqL hM21, at4, _, rfl, .int d5, x, rfl, .inr ⟨d5, rfl, d50, by omega, (bad20 x (List.mem_of_getElem? hx)).same s21, fun H22 p22 s22 l22 => ⟨by show 2 ≤ sizeLine; decide, fun u nu => ⟨.tuple [.str "shares", .none], .tuple [.str "shares", .none], .tup (sqT (same_new nu _ _ l22)) (.cons (.str _) (.cons .non .nil)), .tup (sqT upd_same) (.cons (.str _) (.cons .non .nil)), shN okSh, shN okSh, _, same_new nu _ _ (s22 _ _ hR), ?_, ?_, ?_⟩⟩⟩⟩)⟩
              · rw [List.length_map, List.length_replicate]
                exact small1000 (by omega)
              · rw [upd_same, List.replicate_succ', List.map_append, eqN]
                rfl
              · exact ((Bt.of_same (S := []) (s21.trans (s22.trans (same_new nu)))).upd0 nR).same
            · rintro H21 ⟨hR, s21⟩
              refine ⟨R, _, rfl, sqL hR, ?_⟩
              rw [all_true]
              refine ⟨true, rfl, iteF ?_⟩
              have b121 := ((b19.trans (.of_same s914)).trans b20).trans (.of_same s21)
              clear hR s21 bad20 l20 s914 p14 s912 s13 s14 b13 l13 b20
              -- two more
              refine ⟨by show 2 ≤ sizeLine; decide, fun q1 n1 => ⟨by show 2 ≤ sizeLine; decide, fun q2 n2 => ⟨by show 2 ≤ sizeLine; decide, fun q3 n3 => ?_⟩⟩⟩
              have c1 : (upd (upd (upd H21 q1 (.tup [.int 1, .int 2])) q2 (.tup [.int 1, .int 2])) q3 (.tup [.ref q1, .ref q2])) q1 = some (.tup [.int 1, .int 2]) := same_new n3 _ _ (same_new n2 _ _ upd_same)
              have c2 : (upd (upd (upd H21 q1 (.tup [.int 1, .int 2])) q2 (.tup [.int 1, .int 2])) q3 (.tup [.ref q1, .ref q2])) q2 = some (.tup [.int 1, .int 2]) := same_new n3 _ _ upd_same
              refine ⟨rfl, .int 7, .ref q3, rfl, .inl ⟨7, [(1, 2), (1, 2)], rfl, by decide, by decide, ⟨q3, [.ref q1, .ref q2], rfl, sqT upd_same, (FrAll.one ⟨q1, rfl, sqT c1⟩).append (FrAll.one ⟨q2, rfl, sqT c2⟩)⟩, good_h, fun H22 r s22 nr hr22 => ⟨by show 2 ≤ sizeLine; decide, fun u nu => ?_⟩⟩⟩
              rw [deal_h] at hr22
              refine ⟨_, _, dT (sqT (same_new nu _ _ hr22)), dT (ns := [4, 3]) (sqT upd_same), shT _, shT _, _, rfl, ?_⟩
              rw [neT]
              have s2122 : Same H21 (upd H22 u (.tup [.int 4, .int 3])) := (same_new n1).trans ((same_new n2).trans ((same_new n3).trans (s22.trans (same_new nu))))
              refine iteF ⟨by show 2 ≤ sizeLine; decide, fun q4 n4 => ⟨by show 1 ≤ sizeLine; decide, fun q5 n5 => ⟨q5, 3, [.ref q4], rfl, rfl, sqT upd_same, List.cons_ne_nil _ _, by decide, by decide, Nat.le_of_ble_eq_true rfl, fun q6 n6 => ?_⟩⟩⟩
              have c4 := same_new (o := .tup (List.replicate (3 : Int).toNat [V.ref q4]).flatten) n6 _ _ (same_new (o := .tup [.ref q4]) n5 _ _ (upd_same (H := upd H22 u (.tup [.int 4, .int 3])) (a := q4) (o := .tup [.int 1, .int 3])))
              refine ⟨.int 2, .ref q6, rfl, .inl ⟨2, [(1, 3), (1, 3), (1, 3)], rfl, by decide, by decide, ⟨q6, [.ref q4, .ref q4, .ref q4], rfl, sqT upd_same, (FrAll.one ⟨q4, rfl, sqT c4⟩).append ((FrAll.one ⟨q4, rfl, sqT c4⟩).append (FrAll.one ⟨q4, rfl, sqT c4⟩))⟩, good_t, fun H24 r2 s24 nr2 hr24 => ⟨by show 3 ≤ sizeLine; decide, fun u2 nu2 => ?_⟩⟩⟩
              rw [deal_t] at hr24
              refine ⟨_, _, dT (sqT (same_new nu2 _ _ hr24)), dT (ns := [1, 1, 0]) (sqT upd_same), shT _, shT _, _, rfl, ?_⟩
              rw [neT]
              refine iteF ⟨⟨_, _, _, _, _, _, _, rfl⟩, ?_⟩
              have s2124 := s2122.trans ((same_new n4).trans ((same_new n5).trans ((same_new n6).trans (s24.trans (same_new (o := .tup [.int 1, .int 1, .int 0]) nu2)))))
              exact Bt.same1 (b121.trans (.of_same s2124)) nl0
    · rintro σ H1 ⟨⟨y1, y2, y3, y4, y5, y6, y7, rfl⟩, s1⟩
      exact q H1
end
end Wd2

set_option Elab.async false
set_option linter.all false
set_option maxRecDepth 100000
set_option maxHeartbeats 4000000
namespace Wd2
open PySem PySem.Spec PyProof.Rows L2 WdM Wd
theorem all_mk {l : PySem.W.OpenLaw} {w : World} {K : PySem.W.Frag} {h : Heap} {mg : Str → Option Value} {fa fI f1 f2 f3 f4 f5 f6 f7 f8 f9 f10 f11 f12 f13 f14 f15 c0 c1 c2 c3 c4 c5 c6 c7 c8 c9 c10 c11 c12 c13 c14 c15 c16 c17 c18 c19 c20 c21 c22 c23 : Addr} (X : K.In h) (G : h.Ns mainGlobals mg) (hfa : mg "law" = some (.ref fa))
    {odI anI od1 an1 od2 an2 od3 an3 od4 an4 od5 an5 od6 an6 od7 an7 od8 an8 od9 an9 od10 an10 od11 an11 od12 an12 od13 an13 od14 an14 od15 an15 : Option Addr} {slI sl1 sl2 sl3 sl4 sl5 sl6 sl7 sl8 sl9 sl10 sl11 sl12 sl13 sl14 sl15 : Array (Option Value)} {ocI kVI dcI pmI cdI ctI oc1 kV1 dc1 pm1 cd1 ct1 oc2 kV2 dc2 pm2 cd2 ct2 oc3 kV3 dc3 pm3 cd3 ct3 oc4 kV4 dc4 pm4 cd4 ct4 oc5 kV5 dc5 pm5 cd5 ct5 oc6 kV6 dc6 pm6 cd6 ct6 oc7 kV7 dc7 pm7 cd7 ct7 oc8 kV8 dc8 pm8 cd8 ct8 oc9 kV9 dc9 pm9 cd9 ct9 oc10 kV10 dc10 pm10 cd10 ct10 oc11 kV11 dc11 pm11 cd11 ct11 oc12 kV12 dc12 pm12 cd12 ct12 oc13 kV13 dc13 pm13 cd13 ct13 oc14 kV14 dc14 pm14 cd14 ct14 oc15 kV15 dc15 pm15 cd15 ct15 : Value} {tM tP : Tok}
    (a1 : PySem.W.nsIn K mainGlobals "is_whole" = some (some (.ref f1)))
    (l1 : K.lookup f1 = some ⟨oc1, od1, .func (PySem.W.fnOf "is_whole" "is_whole" (defArgs sWhole) (defBody sWhole) (defScope sWhole) .none kV1 dc1 pm1 an1 cd1 ct1), sl1⟩)
    (d1 : PySem.W.codeIn K cd1 "is_whole" = true)
    (k1 : PySem.W.keepIn K (.ref f1) = true)
    (a2 : PySem.W.nsIn K mainGlobals "common_measure" = some (some (.ref f2)))
    (l2 : K.lookup f2 = some ⟨oc2, od2, .func (PySem.W.fnOf "common_measure" "common_measure" (defArgs sCm) (defBody sCm) (defScope sCm) .none kV2 dc2 pm2 an2 cd2 ct2), sl2⟩)
    (d2 : PySem.W.codeIn K cd2 "common_measure" = true)
    (k2 : PySem.W.keepIn K (.ref f2) = true)
    (a3 : PySem.W.nsIn K mainGlobals "is_fraction" = some (some (.ref f3)))
    (l3 : K.lookup f3 = some ⟨oc3, od3, .func (PySem.W.fnOf "is_fraction" "is_fraction" (defArgs sFrac) (defBody sFrac) (defScope sFrac) .none kV3 dc3 pm3 an3 cd3 ct3), sl3⟩)
    (d3 : PySem.W.codeIn K cd3 "is_fraction" = true)
    (k3 : PySem.W.keepIn K (.ref f3) = true)
    (a4 : PySem.W.nsIn K mainGlobals "are_shares" = some (some (.ref f4)))
    (l4 : K.lookup f4 = some ⟨oc4, od4, .func (PySem.W.fnOf "are_shares" "are_shares" (defArgs sAre) (defBody sAre) (defScope sAre) .none kV4 dc4 pm4 an4 cd4 ct4), sl4⟩)
    (d4 : PySem.W.codeIn K cd4 "are_shares" = true)
    (k4 : PySem.W.keepIn K (.ref f4) = true)
    (a5 : PySem.W.nsIn K mainGlobals "whole_weights" = some (some (.ref f5)))
    (l5 : K.lookup f5 = some ⟨oc5, od5, .func (PySem.W.fnOf "whole_weights" "whole_weights" (defArgs sWts) (defBody sWts) (defScope sWts) .none kV5 dc5 pm5 an5 cd5 ct5), sl5⟩)
    (d5 : PySem.W.codeIn K cd5 "whole_weights" = true)
    (k5 : PySem.W.keepIn K (.ref f5) = true)
    (a6 : PySem.W.nsIn K mainGlobals "parted" = some (some (.ref f6)))
    (l6 : K.lookup f6 = some ⟨oc6, od6, .func (PySem.W.fnOf "parted" "parted" (defArgs sParted) (defBody sParted) (defScope sParted) .none kV6 dc6 pm6 an6 cd6 ct6), sl6⟩)
    (d6 : PySem.W.codeIn K cd6 "parted" = true)
    (k6 : PySem.W.keepIn K (.ref f6) = true)
    (a7 : PySem.W.nsIn K mainGlobals "_law_pool" = some (some (.ref f7)))
    (l7 : K.lookup f7 = some ⟨oc7, od7, .func (PySem.W.fnOf "_law_pool" "_law_pool" (defArgs sPool) (defBody sPool) (defScope sPool) .none kV7 dc7 pm7 an7 cd7 ct7), sl7⟩)
    (d7 : PySem.W.codeIn K cd7 "_law_pool" = true)
    (k7 : PySem.W.keepIn K (.ref f7) = true)
    (a8 : PySem.W.nsIn K mainGlobals "_law_take" = some (some (.ref f8)))
    (l8 : K.lookup f8 = some ⟨oc8, od8, .func (PySem.W.fnOf "_law_take" "_law_take" (defArgs sTake) (defBody sTake) (defScope sTake) .none kV8 dc8 pm8 an8 cd8 ct8), sl8⟩)
    (d8 : PySem.W.codeIn K cd8 "_law_take" = true)
    (k8 : PySem.W.keepIn K (.ref f8) = true)
    (a9 : PySem.W.nsIn K mainGlobals "_law_sort" = some (some (.ref f9)))
    (l9 : K.lookup f9 = some ⟨oc9, od9, .func (PySem.W.fnOf "_law_sort" "_law_sort" (defArgs sSort) (defBody sSort) (defScope sSort) .none kV9 dc9 pm9 an9 cd9 ct9), sl9⟩)
    (d9 : PySem.W.codeIn K cd9 "_law_sort" = true)
    (k9 : PySem.W.keepIn K (.ref f9) = true)
    (a10 : PySem.W.nsIn K mainGlobals "_law_low" = some (some (.ref f10)))
    (l10 : K.lookup f10 = some ⟨oc10, od10, .func (PySem.W.fnOf "_law_low" "_law_low" (defArgs sLow) (defBody sLow) (defScope sLow) .none kV10 dc10 pm10 an10 cd10 ct10), sl10⟩)
    (d10 : PySem.W.codeIn K cd10 "_law_low" = true)
    (k10 : PySem.W.keepIn K (.ref f10) = true)
    (a11 : PySem.W.nsIn K mainGlobals "_law_shares" = some (some (.ref f11)))
    (l11 : K.lookup f11 = some ⟨oc11, od11, .func (PySem.W.fnOf "_law_shares" "_law_shares" (defArgs sShares) (defBody sShares) (defScope sShares) .none kV11 dc11 pm11 an11 cd11 ct11), sl11⟩)
    (d11 : PySem.W.codeIn K cd11 "_law_shares" = true)
    (k11 : PySem.W.keepIn K (.ref f11) = true)
    (a12 : PySem.W.nsIn K mainGlobals "_law_right" = some (some (.ref f12)))
    (l12 : K.lookup f12 = some ⟨oc12, od12, .func (PySem.W.fnOf "_law_right" "_law_right" (defArgs sRight) (defBody sRight) (defScope sRight) .none kV12 dc12 pm12 an12 cd12 ct12), sl12⟩)
    (d12 : PySem.W.codeIn K cd12 "_law_right" = true)
    (k12 : PySem.W.keepIn K (.ref f12) = true)
    (a13 : PySem.W.nsIn K mainGlobals "_law_refused" = some (some (.ref f13)))
    (l13 : K.lookup f13 = some ⟨oc13, od13, .func (PySem.W.fnOf "_law_refused" "_law_refused" (defArgs sRef) (defBody sRef) (defScope sRef) .none kV13 dc13 pm13 an13 cd13 ct13), sl13⟩)
    (d13 : PySem.W.codeIn K cd13 "_law_refused" = true)
    (k13 : PySem.W.keepIn K (.ref f13) = true)
    (a14 : PySem.W.nsIn K mainGlobals "_law_no_shares" = some (some (.ref f14)))
    (l14 : K.lookup f14 = some ⟨oc14, od14, .func (PySem.W.fnOf "_law_no_shares" "_law_no_shares" (defArgs sNo) (defBody sNo) (defScope sNo) .none kV14 dc14 pm14 an14 cd14 ct14), sl14⟩)
    (d14 : PySem.W.codeIn K cd14 "_law_no_shares" = true)
    (k14 : PySem.W.keepIn K (.ref f14) = true)
    (a15 : PySem.W.nsIn K mainGlobals "law" = some (some (.ref f15)))
    (l15 : K.lookup f15 = some ⟨oc15, od15, .func (PySem.W.fnOf "law" "law" (defArgs sLaw) (defBody sLaw) (defScope sLaw) .none kV15 dc15 pm15 an15 cd15 ct15), sl15⟩)
    (d15 : PySem.W.codeIn K cd15 "law" = true)
    (k15 : PySem.W.keepIn K (.ref f15) = true)
    (gM : PySem.W.nsIn K mainGlobals "MOST_SHARES" = some (some (.int 64 tM)))
    (gP : PySem.W.nsIn K mainGlobals "MOST_PENNIES" = some (some (.int 1000000000000 tP)))
    (g0 : PySem.W.nsIn K mainGlobals "NoName" = some (some (.ref c0)))
    (g1 : PySem.W.nsIn K mainGlobals "NoSum" = some (some (.ref c1)))
    (g2 : PySem.W.nsIn K mainGlobals "NoShares" = some (some (.ref c2)))
    (g3 : PySem.W.nsIn K mainGlobals "NoPeople" = some (some (.ref c3)))
    (g4 : PySem.W.nsIn K mainGlobals "NoGoods" = some (some (.ref c4)))
    (g5 : PySem.W.nsIn K mainGlobals "NoText" = some (some (.ref c5)))
    (g6 : PySem.W.nsIn K mainGlobals "NoStory" = some (some (.ref c6)))
    (g7 : PySem.W.nsIn K mainGlobals "NoDay" = some (some (.ref c7)))
    (g8 : PySem.W.nsIn K mainGlobals "NoCond" = some (some (.ref c8)))
    (g9 : PySem.W.nsIn K mainGlobals "NoWhom" = some (some (.ref c9)))
    (g10 : PySem.W.nsIn K mainGlobals "NoClause" = some (some (.ref c10)))
    (g11 : PySem.W.nsIn K mainGlobals "NoReading" = some (some (.ref c11)))
    (g12 : PySem.W.nsIn K mainGlobals "NoWord" = some (some (.ref c12)))
    (g13 : PySem.W.nsIn K mainGlobals "LabelStands" = some (some (.ref c13)))
    (g14 : PySem.W.nsIn K mainGlobals "DayStands" = some (some (.ref c14)))
    (g15 : PySem.W.nsIn K mainGlobals "NoRow" = some (some (.ref c15)))
    (g16 : PySem.W.nsIn K mainGlobals "NoPerson" = some (some (.ref c16)))
    (g17 : PySem.W.nsIn K mainGlobals "NoThing" = some (some (.ref c17)))
    (g18 : PySem.W.nsIn K mainGlobals "NoLabel" = some (some (.ref c18)))
    (g19 : PySem.W.nsIn K mainGlobals "NoUndo" = some (some (.ref c19)))
    (g20 : PySem.W.nsIn K mainGlobals "TooMany" = some (some (.ref c20)))
    (g21 : PySem.W.nsIn K mainGlobals "WordError" = some (some (.ref c21)))
    (g22 : PySem.W.nsIn K mainGlobals "LostError" = some (some (.ref c22)))
    (g23 : PySem.W.nsIn K mainGlobals "RoomError" = some (some (.ref c23)))
    (z_isinstance : PySem.W.nsIn K mainGlobals "isinstance" = some none)
    (z_int : PySem.W.nsIn K mainGlobals "int" = some none)
    (z_bool : PySem.W.nsIn K mainGlobals "bool" = some none)
    (z_tuple : PySem.W.nsIn K mainGlobals "tuple" = some none)
    (z_len : PySem.W.nsIn K mainGlobals "len" = some none)
    (z_abs : PySem.W.nsIn K mainGlobals "abs" = some none)
    (z_all : PySem.W.nsIn K mainGlobals "all" = some none)
    (z_any : PySem.W.nsIn K mainGlobals "any" = some none)
    (z_sum : PySem.W.nsIn K mainGlobals "sum" = some none)
    (z_enumerate : PySem.W.nsIn K mainGlobals "enumerate" = some none)
    (z_divmod : PySem.W.nsIn K mainGlobals "divmod" = some none)
    (z_range : PySem.W.nsIn K mainGlobals "range" = some none)
    (z_max : PySem.W.nsIn K mainGlobals "max" = some none)
    (z_min : PySem.W.nsIn K mainGlobals "min" = some none)
    (z_zip : PySem.W.nsIn K mainGlobals "zip" = some none)
    (z_list : PySem.W.nsIn K mainGlobals "list" = some none)
    (z_repr : PySem.W.nsIn K mainGlobals "repr" = some none)
    (z_ValueError : PySem.W.nsIn K mainGlobals "ValueError" = some none)
    (z_LookupError : PySem.W.nsIn K mainGlobals "LookupError" = some none)
    (z_ArithmeticError : PySem.W.nsIn K mainGlobals "ArithmeticError" = some none)
    (iS : PySem.W.findIn K (.ref c1) "__init__" = some (some (.ref fI)))
    (lI : K.lookup fI = some ⟨ocI, odI, .func (PySem.W.fnOf "__init__" "NoSum.__init__" (defArgs sInit) (defBody sInit) (defScope sInit) .none kVI dcI pmI anI cdI ctI), slI⟩)
    (dI : PySem.W.codeIn K cdI "NoSum.__init__" = true)
    (kI : PySem.W.keepIn K (.ref fI) = true)
    (tI : PySem.W.typeIn K (.ref fI) = some (.type "function"))
    (oS1 : ∃ nm q N bs bm sn sub ab col dd k0 k1 k2 k3 k5, K.lookup c1 = some (excClassObj nm q c1 N bs bm true sn sub ab col dd k0 k1 k2 k3 k5 "ValueError.__new__") ∧ PySem.HandSPX.refsVE bm = true)
    (oS2 : PySem.W.findIn K (.ref c1) "__setattr__" = some (some (.builtin "object.__setattr__")))
    (oS3 : PySem.W.subIn K (.ref c1) (.type "BaseException") = some true)
    (oS4 : PySem.W.typeIn K (.ref c1) = some (.type "type"))
    (oS5 : PySem.W.keepIn K (.ref c1) = true)
    (noT : PySem.W.findIn K (.ref c1) "thing" = some none)
    (xN : PySem.W.excIn K c2 [.type "ValueError", .type "Exception", .type "BaseException", .type "object"] "ValueError.__new__" = true)
    (kN : PySem.W.keepIn K (.ref c2) = true)
    (bN : PySem.W.subIn K (.ref c2) (.type "BaseException") = some true)
    (tN : PySem.W.typeIn K (.ref c2) = some (.type "type"))
    (mS : PySem.W.exmOne K (.ref c1) (.ref c21) = some true)
    (mN : PySem.W.exmOne K (.ref c2) (.ref c21) = some true)
    (eS1 : PySem.W.findIn K (.ref c1) "__getattribute__" = some (some (.builtin "BaseException.__getattribute__")))
    (eS2 : PySem.W.findIn K (.ref c1) "__getattr__" = some none)
    (eS4 : PySem.W.hasDictIn K c1 = true)
    (eS5 : PySem.W.findIn K (.ref c1) "__class__" = some (some (.builtin "object.__class__")))
    (eS8 : PySem.W.mroIn K c1 (.type "object") = some true)
    (eN1 : PySem.W.findIn K (.ref c2) "__getattribute__" = some (some (.builtin "BaseException.__getattribute__")))
    (eN2 : PySem.W.findIn K (.ref c2) "__getattr__" = some none)
    (eN4 : PySem.W.hasDictIn K c2 = true)
    (eN5 : PySem.W.findIn K (.ref c2) "__class__" = some (some (.builtin "object.__class__")))
    (eN8 : PySem.W.mroIn K c2 (.type "object") = some true)
    (e6 : PySem.W.specialIn K (.builtin "object.__class__") "__get__" = some (some (.builtin "getset_descriptor.__get__")))
    (e7 : PySem.W.takesIn K (.builtin "object.__class__") = some true)
    (qS0 : PySem.W.kitOne K (.ref c1) (.ref c0) = some false)
    (qS1 : PySem.W.kitOne K (.ref c1) (.ref c1) = some true)
    (qS2 : PySem.W.kitOne K (.ref c1) (.ref c2) = some false)
    (qS3 : PySem.W.kitOne K (.ref c1) (.ref c3) = some false)
    (qS4 : PySem.W.kitOne K (.ref c1) (.ref c4) = some false)
    (qS5 : PySem.W.kitOne K (.ref c1) (.ref c5) = some false)
    (qS6 : PySem.W.kitOne K (.ref c1) (.ref c6) = some false)
    (qS7 : PySem.W.kitOne K (.ref c1) (.ref c7) = some false)
    (qS8 : PySem.W.kitOne K (.ref c1) (.ref c8) = some false)
    (qS9 : PySem.W.kitOne K (.ref c1) (.ref c9) = some false)
    (qS10 : PySem.W.kitOne K (.ref c1) (.ref c10) = some false)
    (qS11 : PySem.W.kitOne K (.ref c1) (.ref c11) = some false)
    (qS12 : PySem.W.kitOne K (.ref c1) (.ref c12) = some false)
    (qS13 : PySem.W.kitOne K (.ref c1) (.ref c13) = some false)
    (qS14 : PySem.W.kitOne K (.ref c1) (.ref c14) = some false)
    (qS15 : PySem.W.kitOne K (.ref c1) (.ref c15) = some false)
    (qS16 : PySem.W.kitOne K (.ref c1) (.ref c16) = some false)
    (qS17 : PySem.W.kitOne K (.ref c1) (.ref c17) = some false)
    (qS18 : PySem.W.kitOne K (.ref c1) (.ref c18) = some false)
    (qS19 : PySem.W.kitOne K (.ref c1) (.ref c19) = some false)
    (qS20 : PySem.W.kitOne K (.ref c1) (.ref c20) = some false)
    (qSw : PySem.W.kitOne K (.ref c1) (.ref c21) = some true)
    (qSl : PySem.W.kitOne K (.ref c1) (.ref c22) = some false)
    (qSr : PySem.W.kitOne K (.ref c1) (.ref c23) = some false)
    (qSV : PySem.W.kitOne K (.ref c1) (.type "ValueError") = some true)
    (qSL : PySem.W.kitOne K (.ref c1) (.type "LookupError") = some false)
    (qSA : PySem.W.kitOne K (.ref c1) (.type "ArithmeticError") = some false)
    (qN0 : PySem.W.kitOne K (.ref c2) (.ref c0) = some false)
    (qN1 : PySem.W.kitOne K (.ref c2) (.ref c1) = some false)
    (qN2 : PySem.W.kitOne K (.ref c2) (.ref c2) = some true)
    (qN3 : PySem.W.kitOne K (.ref c2) (.ref c3) = some false)
    (qN4 : PySem.W.kitOne K (.ref c2) (.ref c4) = some false)
    (qN5 : PySem.W.kitOne K (.ref c2) (.ref c5) = some false)
    (qN6 : PySem.W.kitOne K (.ref c2) (.ref c6) = some false)
    (qN7 : PySem.W.kitOne K (.ref c2) (.ref c7) = some false)
    (qN8 : PySem.W.kitOne K (.ref c2) (.ref c8) = some false)
    (qN9 : PySem.W.kitOne K (.ref c2) (.ref c9) = some false)
    (qN10 : PySem.W.kitOne K (.ref c2) (.ref c10) = some false)
    (qN11 : PySem.W.kitOne K (.ref c2) (.ref c11) = some false)
    (qN12 : PySem.W.kitOne K (.ref c2) (.ref c12) = some false)
    (qN13 : PySem.W.kitOne K (.ref c2) (.ref c13) = some false)
    (qN14 : PySem.W.kitOne K (.ref c2) (.ref c14) = some false)
    (qN15 : PySem.W.kitOne K (.ref c2) (.ref c15) = some false)
    (qN16 : PySem.W.kitOne K (.ref c2) (.ref c16) = some false)
    (qN17 : PySem.W.kitOne K (.ref c2) (.ref c17) = some false)
    (qN18 : PySem.W.kitOne K (.ref c2) (.ref c18) = some false)
    (qN19 : PySem.W.kitOne K (.ref c2) (.ref c19) = some false)
    (qN20 : PySem.W.kitOne K (.ref c2) (.ref c20) = some false)
    (qNw : PySem.W.kitOne K (.ref c2) (.ref c21) = some true)
    (qNl : PySem.W.kitOne K (.ref c2) (.ref c22) = some false)
    (qNr : PySem.W.kitOne K (.ref c2) (.ref c23) = some false)
    (qNV : PySem.W.kitOne K (.ref c2) (.type "ValueError") = some true)
    (qNL : PySem.W.kitOne K (.ref c2) (.type "LookupError") = some false)
    (qNA : PySem.W.kitOne K (.ref c2) (.type "ArithmeticError") = some false)
    : ∃ fd : FuncData, (∀ (s : Shared) (v : Value), BindsTo s fd ⟨[v], []⟩ [("_law_script", v)]) ∧ ∀ base : Heap, K.In base → base.Ns mainGlobals mg → FnG l.prog w K mg base 6 fa fd ["_law_script"] (spLaw K) := by
  have e := hfa.symm.trans (PySem.W.mg_of X G a15)
  cases e
  have F1 := fun_mk (st := sWhole) l1 d1 k1
  have D1 : Df K mg "is_whole" sWhole f1 _ ["thing"] := ⟨F1, PySem.W.mg_of X G a1, F1.binds (ps := ["thing"]) fun _ _ _ _ _ _ us hl => match us, hl with | [_], _ => rfl⟩
  have F2 := fun_mk (st := sCm) l2 d2 k2
  have D2 : Df K mg "common_measure" sCm f2 _ ["one", "other"] := ⟨F2, PySem.W.mg_of X G a2, F2.binds (ps := ["one", "other"]) fun _ _ _ _ _ _ us hl => match us, hl with | [_, _], _ => rfl⟩
  have F3 := fun_mk (st := sFrac) l3 d3 k3
  have D3 : Df K mg "is_fraction" sFrac f3 _ ["thing"] := ⟨F3, PySem.W.mg_of X G a3, F3.binds (ps := ["thing"]) fun _ _ _ _ _ _ us hl => match us, hl with | [_], _ => rfl⟩
  have F4 := fun_mk (st := sAre) l4 d4 k4
  have D4 : Df K mg "are_shares" sAre f4 _ ["thing"] := ⟨F4, PySem.W.mg_of X G a4, F4.binds (ps := ["thing"]) fun _ _ _ _ _ _ us hl => match us, hl with | [_], _ => rfl⟩
  have F5 := fun_mk (st := sWts) l5 d5 k5
  have D5 : Df K mg "whole_weights" sWts f5 _ ["shares"] := ⟨F5, PySem.W.mg_of X G a5, F5.binds (ps := ["shares"]) fun _ _ _ _ _ _ us hl => match us, hl with | [_], _ => rfl⟩
  have F6 := fun_mk (st := sParted) l6 d6 k6
  have D6 : Df K mg "parted" sParted f6 _ ["amount", "shares"] := ⟨F6, PySem.W.mg_of X G a6, F6.binds (ps := ["amount", "shares"]) fun _ _ _ _ _ _ us hl => match us, hl with | [_, _], _ => rfl⟩
  have F7 := fun_mk (st := sPool) l7 d7 k7
  have D7 : Df K mg "_law_pool" sPool f7 _ ["_law_script", "_law_k"] := ⟨F7, PySem.W.mg_of X G a7, F7.binds (ps := ["_law_script", "_law_k"]) fun _ _ _ _ _ _ us hl => match us, hl with | [_, _], _ => rfl⟩
  have F8 := fun_mk (st := sTake) l8 d8 k8
  have D8 : Df K mg "_law_take" sTake f8 _ ["_law_pool_here", "_law_many"] := ⟨F8, PySem.W.mg_of X G a8, F8.binds (ps := ["_law_pool_here", "_law_many"]) fun _ _ _ _ _ _ us hl => match us, hl with | [_, _], _ => rfl⟩
  have F9 := fun_mk (st := sSort) l9 d9 k9
  have D9 : Df K mg "_law_sort" sSort f9 _ ["_law_caught"] := ⟨F9, PySem.W.mg_of X G a9, F9.binds (ps := ["_law_caught"]) fun _ _ _ _ _ _ us hl => match us, hl with | [_], _ => rfl⟩
  have F10 := fun_mk (st := sLow) l10 d10 k10
  have D10 : Df K mg "_law_low" sLow f10 _ ["_law_top", "_law_bottom"] := ⟨F10, PySem.W.mg_of X G a10, F10.binds (ps := ["_law_top", "_law_bottom"]) fun _ _ _ _ _ _ us hl => match us, hl with | [_, _], _ => rfl⟩
  have F11 := fun_mk (st := sShares) l11 d11 k11
  have D11 : Df K mg "_law_shares" sShares f11 _ ["_law_pool_here"] := ⟨F11, PySem.W.mg_of X G a11, F11.binds (ps := ["_law_pool_here"]) fun _ _ _ _ _ _ us hl => match us, hl with | [_], _ => rfl⟩
  have F12 := fun_mk (st := sRight) l12 d12 k12
  have D12 : Df K mg "_law_right" sRight f12 _ ["_law_sum_due", "_law_made", "_law_found"] := ⟨F12, PySem.W.mg_of X G a12, F12.binds (ps := ["_law_sum_due", "_law_made", "_law_found"]) fun _ _ _ _ _ _ us hl => match us, hl with | [_, _, _], _ => rfl⟩
  have F13 := fun_mk (st := sRef) l13 d13 k13
  have D13 : Df K mg "_law_refused" sRef f13 _ ["_law_sum_due", "_law_made"] := ⟨F13, PySem.W.mg_of X G a13, F13.binds (ps := ["_law_sum_due", "_law_made"]) fun _ _ _ _ _ _ us hl => match us, hl with | [_, _], _ => rfl⟩
  have F14 := fun_mk (st := sNo) l14 d14 k14
  have D14 : Df K mg "_law_no_shares" sNo f14 _ ["_law_pool_here", "_law_made"] := ⟨F14, PySem.W.mg_of X G a14, F14.binds (ps := ["_law_pool_here", "_law_made"]) fun _ _ _ _ _ _ us hl => match us, hl with | [_, _], _ => rfl⟩
  have F15 := fun_mk (st := sLaw) l15 d15 k15
  have D15 : Df K mg "law" sLaw fa _ ["_law_script"] := ⟨F15, PySem.W.mg_of X G a15, F15.binds (ps := ["_law_script"]) fun _ _ _ _ _ _ us hl => match us, hl with | [_], _ => rfl⟩
  have FI := fun_mk (st := sInit) lI dI kI
  have bI : Binds K _ ["self", "thing"] [] := FI.binds (ps := ["self", "thing"]) fun _ _ _ _ _ _ us hl => match us, hl with | [_, _], _ => rfl
  have B : Bl mg := ⟨PySem.W.mg_none_of X G z_isinstance, PySem.W.mg_none_of X G z_int, PySem.W.mg_none_of X G z_bool, PySem.W.mg_none_of X G z_tuple, PySem.W.mg_none_of X G z_len, PySem.W.mg_none_of X G z_abs, PySem.W.mg_none_of X G z_all, PySem.W.mg_none_of X G z_any, PySem.W.mg_none_of X G z_sum, PySem.W.mg_none_of X G z_enumerate⟩
  have M : Bm mg := ⟨PySem.W.mg_none_of X G z_divmod, PySem.W.mg_none_of X G z_range, PySem.W.mg_none_of X G z_max, PySem.W.mg_none_of X G z_min, PySem.W.mg_none_of X G z_zip, PySem.W.mg_none_of X G z_list⟩
  have T : ErF K mg c1 fI c2 c21 := ⟨⟨oS1, oS2, oS3, oS4, oS5⟩, noT, iS, tI, PySem.W.mg_of X G g1, PySem.W.mg_of X G g2, xN, kN, bN, tN, PySem.W.mg_of X G g21, mS, mN, ⟨eS1, eS2, oS3, eS4, eS5, e6, e7, eS8⟩, ⟨eN1, eN2, bN, eN4, eN5, e6, e7, eN8⟩, ⟨eS1, eS2, oS3, eS4⟩⟩
  have TC : ClsF mg (fun i => [c0, c1, c2, c3, c4, c5, c6, c7, c8, c9, c10, c11, c12, c13, c14, c15, c16, c17, c18, c19, c20, c21, c22, c23].getD i 0) := ⟨PySem.W.mg_of X G g0, PySem.W.mg_of X G g1, PySem.W.mg_of X G g2, PySem.W.mg_of X G g3, PySem.W.mg_of X G g4, PySem.W.mg_of X G g5, PySem.W.mg_of X G g6, PySem.W.mg_of X G g7, PySem.W.mg_of X G g8, PySem.W.mg_of X G g9, PySem.W.mg_of X G g10, PySem.W.mg_of X G g11, PySem.W.mg_of X G g12, PySem.W.mg_of X G g13, PySem.W.mg_of X G g14, PySem.W.mg_of X G g15, PySem.W.mg_of X G g16, PySem.W.mg_of X G g17, PySem.W.mg_of X G g18, PySem.W.mg_of X G g19, PySem.W.mg_of X G g20, PySem.W.mg_of X G g21, PySem.W.mg_of X G g22, PySem.W.mg_of X G g23, PySem.W.mg_none_of X G z_ValueError, PySem.W.mg_none_of X G z_LookupError, PySem.W.mg_none_of X G z_ArithmeticError⟩
  have KS : KitF K c1 (fun i => [c0, c1, c2, c3, c4, c5, c6, c7, c8, c9, c10, c11, c12, c13, c14, c15, c16, c17, c18, c19, c20, c21, c22, c23].getD i 0) 1 := by
    refine ⟨fun j hj => ?_, qSw, qSl, qSr, qSV, qSL, qSA⟩
    match j, hj with
    | 0, _ => exact qS0
    | 1, _ => exact qS1
    | 2, _ => exact qS2
    | 3, _ => exact qS3
    | 4, _ => exact qS4
    | 5, _ => exact qS5
    | 6, _ => exact qS6
    | 7, _ => exact qS7
    | 8, _ => exact qS8
    | 9, _ => exact qS9
    | 10, _ => exact qS10
    | 11, _ => exact qS11
    | 12, _ => exact qS12
    | 13, _ => exact qS13
    | 14, _ => exact qS14
    | 15, _ => exact qS15
    | 16, _ => exact qS16
    | 17, _ => exact qS17
    | 18, _ => exact qS18
    | 19, _ => exact qS19
    | 20, _ => exact qS20
    | j + 21, hj => exact absurd hj (by omega)
  have KN : KitF K c2 (fun i => [c0, c1, c2, c3, c4, c5, c6, c7, c8, c9, c10, c11, c12, c13, c14, c15, c16, c17, c18, c19, c20, c21, c22, c23].getD i 0) 2 := by
    refine ⟨fun j hj => ?_, qNw, qNl, qNr, qNV, qNL, qNA⟩
    match j, hj with
    | 0, _ => exact qN0
    | 1, _ => exact qN1
    | 2, _ => exact qN2
    | 3, _ => exact qN3
    | 4, _ => exact qN4
    | 5, _ => exact qN5
    | 6, _ => exact qN6
    | 7, _ => exact qN7
    | 8, _ => exact qN8
    | 9, _ => exact qN9
    | 10, _ => exact qN10
    | 11, _ => exact qN11
    | 12, _ => exact qN12
    | 13, _ => exact qN13
    | 14, _ => exact qN14
    | 15, _ => exact qN15
    | 16, _ => exact qN16
    | 17, _ => exact qN17
    | 18, _ => exact qN18
    | 19, _ => exact qN19
    | 20, _ => exact qN20
    | j + 21, hj => exact absurd hj (by omega)
  refine ⟨PySem.W.fnOf "law" "law" (defArgs sLaw) (defBody sLaw) (defScope sLaw) .none kV15 dc15 pm15 an15 cd15 ct15, fun s v => .of_eq rfl, fun base _ _ => ?_⟩
  have GP : FnOk l.prog w K mg base (L2.CX l.prog w) 4 f6 _ ["amount", "shares"] (spParted K c1 c2) := ok_parted B (PySem.W.mg_of X G gM) (PySem.W.mg_of X G gP) T FI bI D6 D4 D5 D3 D1 D2
  have GS : FnOk l.prog w K mg base CX0 2 f11 _ ["_law_pool_here"] (spShares K) := ok_shares (k := 0) B M D11 D8 D10
  have GR : FnOk l.prog w K mg base CX0 1 f12 _ ["_law_sum_due", "_law_made", "_law_found"] (spRight K) := ok_right (k := 0) B M D12
  have GN : FnOk l.prog w K mg base CX0 2 f14 _ ["_law_pool_here", "_law_made"] (spNo K) := ok_no (k := 0) B M D14 D8
  have GF : FnG l.prog w K mg base 5 f13 _ ["_law_sum_due", "_law_made"] (spRefused K) := ok_refused B M (PySem.W.mg_none_of X G z_repr) T TC KS KN D13 D9 D6 GP
  exact ok_law B M (PySem.W.mg_none_of X G z_repr) D15 D7 D11 D8 D12 D10 D14 D13 D6 GS GR GN GF GP
end Wd2
open PySem PySem.W PyProof.Rows
set_option maxRecDepth 100000 in
set_option maxHeartbeats 0 in
theorem PySem.Challenge.cw_willdealt_k02_pennies_by_shares_holds : PySem.Challenge.rw_willdealt_k02_pennies_by_shares.Holds := by
  w_on; o_law; k_head; (case hw => w_witness2)
  k_fill
  refine Wd.walk_G (l := PySem.Challenge.rw_willdealt_k02_pennies_by_shares) (n := 63) (k := 6) (x := "_law_script") (sp := fun w => Wd2.spLaw _) rfl (by decide) rfl ⟨rfl, by decide, by decide⟩ (fun w h Y => PySem.W.kIn_of Y) ?F (fun _ _ a ns hl hS => ⟨a, ns, rfl, hS, hl, fun _ => rfl⟩)
  case F =>
    intro w mg fa h KX G hmg
    refine' Wd2.all_mk KX G hmg ?Wd_a1 ?Wd_l1 ?Wd_d1 ?Wd_k1 ?Wd_a2 ?Wd_l2 ?Wd_d2 ?Wd_k2 ?Wd_a3 ?Wd_l3 ?Wd_d3 ?Wd_k3 ?Wd_a4 ?Wd_l4 ?Wd_d4 ?Wd_k4 ?Wd_a5 ?Wd_l5 ?Wd_d5 ?Wd_k5 ?Wd_a6 ?Wd_l6 ?Wd_d6 ?Wd_k6 ?Wd_a7 ?Wd_l7 ?Wd_d7 ?Wd_k7 ?Wd_a8 ?Wd_l8 ?Wd_d8 ?Wd_k8 ?Wd_a9 ?Wd_l9 ?Wd_d9 ?Wd_k9 ?Wd_a10 ?Wd_l10 ?Wd_d10 ?Wd_k10 ?Wd_a11 ?Wd_l11 ?Wd_d11 ?Wd_k11 ?Wd_a12 ?Wd_l12 ?Wd_d12 ?Wd_k12 ?Wd_a13 ?Wd_l13 ?Wd_d13 ?Wd_k13 ?Wd_a14 ?Wd_l14 ?Wd_d14 ?Wd_k14 ?Wd_a15 ?Wd_l15 ?Wd_d15 ?Wd_k15 ?Wd_gM ?Wd_gP ?Wd_g0 ?Wd_g1 ?Wd_g2 ?Wd_g3 ?Wd_g4 ?Wd_g5 ?Wd_g6 ?Wd_g7 ?Wd_g8 ?Wd_g9 ?Wd_g10 ?Wd_g11 ?Wd_g12 ?Wd_g13 ?Wd_g14 ?Wd_g15 ?Wd_g16 ?Wd_g17 ?Wd_g18 ?Wd_g19 ?Wd_g20 ?Wd_g21 ?Wd_g22 ?Wd_g23 ?Wd_z_isinstance ?Wd_z_int ?Wd_z_bool ?Wd_z_tuple ?Wd_z_len ?Wd_z_abs ?Wd_z_all ?Wd_z_any ?Wd_z_sum ?Wd_z_enumerate ?Wd_z_divmod ?Wd_z_range ?Wd_z_max ?Wd_z_min ?Wd_z_zip ?Wd_z_list ?Wd_z_repr ?Wd_z_ValueError ?Wd_z_LookupError ?Wd_z_ArithmeticError ?Wd_iS ?Wd_lI ?Wd_dI ?Wd_kI ?Wd_tI ?Wd_oS1 ?Wd_oS2 ?Wd_oS3 ?Wd_oS4 ?Wd_oS5 ?Wd_noT ?Wd_xN ?Wd_kN ?Wd_bN ?Wd_tN ?Wd_mS ?Wd_mN ?Wd_eS1 ?Wd_eS2 ?Wd_eS4 ?Wd_eS5 ?Wd_eS8 ?Wd_eN1 ?Wd_eN2 ?Wd_eN4 ?Wd_eN5 ?Wd_eN8 ?Wd_e6 ?Wd_e7 ?Wd_qS0 ?Wd_qS1 ?Wd_qS2 ?Wd_qS3 ?Wd_qS4 ?Wd_qS5 ?Wd_qS6 ?Wd_qS7 ?Wd_qS8 ?Wd_qS9 ?Wd_qS10 ?Wd_qS11 ?Wd_qS12 ?Wd_qS13 ?Wd_qS14 ?Wd_qS15 ?Wd_qS16 ?Wd_qS17 ?Wd_qS18 ?Wd_qS19 ?Wd_qS20 ?Wd_qSw ?Wd_qSl ?Wd_qSr ?Wd_qSV ?Wd_qSL ?Wd_qSA ?Wd_qN0 ?Wd_qN1 ?Wd_qN2 ?Wd_qN3 ?Wd_qN4 ?Wd_qN5 ?Wd_qN6 ?Wd_qN7 ?Wd_qN8 ?Wd_qN9 ?Wd_qN10 ?Wd_qN11 ?Wd_qN12 ?Wd_qN13 ?Wd_qN14 ?Wd_qN15 ?Wd_qN16 ?Wd_qN17 ?Wd_qN18 ?Wd_qN19 ?Wd_qN20 ?Wd_qNw ?Wd_qNl ?Wd_qNr ?Wd_qNV ?Wd_qNL ?Wd_qNA
    (case Wd_a1 => k_is); (case Wd_l1 => k_is); (case Wd_d1 => k_is); (case Wd_k1 => k_is); (case Wd_a2 => k_is); (case Wd_l2 => k_is)
    (case Wd_d2 => k_is); (case Wd_k2 => k_is); (case Wd_a3 => k_is); (case Wd_l3 => k_is); (case Wd_d3 => k_is); (case Wd_k3 => k_is)
    (case Wd_a4 => k_is); (case Wd_l4 => k_is); (case Wd_d4 => k_is); (case Wd_k4 => k_is); (case Wd_a5 => k_is); (case Wd_l5 => k_is)
    (case Wd_d5 => k_is); (case Wd_k5 => k_is); (case Wd_a6 => k_is); (case Wd_l6 => k_is); (case Wd_d6 => k_is); (case Wd_k6 => k_is)
    (case Wd_a7 => k_is); (case Wd_l7 => k_is); (case Wd_d7 => k_is); (case Wd_k7 => k_is); (case Wd_a8 => k_is); (case Wd_l8 => k_is)
    (case Wd_d8 => k_is); (case Wd_k8 => k_is); (case Wd_a9 => k_is); (case Wd_l9 => k_is); (case Wd_d9 => k_is); (case Wd_k9 => k_is)
    (case Wd_a10 => k_is); (case Wd_l10 => k_is); (case Wd_d10 => k_is); (case Wd_k10 => k_is); (case Wd_a11 => k_is); (case Wd_l11 => k_is)
    (case Wd_d11 => k_is); (case Wd_k11 => k_is); (case Wd_a12 => k_is); (case Wd_l12 => k_is); (case Wd_d12 => k_is); (case Wd_k12 => k_is)
    (case Wd_a13 => k_is); (case Wd_l13 => k_is); (case Wd_d13 => k_is); (case Wd_k13 => k_is); (case Wd_a14 => k_is); (case Wd_l14 => k_is)
    (case Wd_d14 => k_is); (case Wd_k14 => k_is); (case Wd_a15 => k_is); (case Wd_l15 => k_is); (case Wd_d15 => k_is); (case Wd_k15 => k_is)
    (case Wd_gM => k_is); (case Wd_gP => k_is); (case Wd_g0 => k_is); (case Wd_g1 => k_is); (case Wd_g2 => k_is); (case Wd_g3 => k_is)
    (case Wd_g4 => k_is); (case Wd_g5 => k_is); (case Wd_g6 => k_is); (case Wd_g7 => k_is); (case Wd_g8 => k_is); (case Wd_g9 => k_is)
    (case Wd_g10 => k_is); (case Wd_g11 => k_is); (case Wd_g12 => k_is); (case Wd_g13 => k_is); (case Wd_g14 => k_is); (case Wd_g15 => k_is)
    (case Wd_g16 => k_is); (case Wd_g17 => k_is); (case Wd_g18 => k_is); (case Wd_g19 => k_is); (case Wd_g20 => k_is); (case Wd_g21 => k_is)
    (case Wd_g22 => k_is); (case Wd_g23 => k_is); (case Wd_z_isinstance => k_is); (case Wd_z_int => k_is); (case Wd_z_bool => k_is); (case Wd_z_tuple => k_is)
    (case Wd_z_len => k_is); (case Wd_z_abs => k_is); (case Wd_z_all => k_is); (case Wd_z_any => k_is); (case Wd_z_sum => k_is); (case Wd_z_enumerate => k_is)
    (case Wd_z_divmod => k_is); (case Wd_z_range => k_is); (case Wd_z_max => k_is); (case Wd_z_min => k_is); (case Wd_z_zip => k_is); (case Wd_z_list => k_is)
    (case Wd_z_repr => k_is); (case Wd_z_ValueError => k_is); (case Wd_z_LookupError => k_is); (case Wd_z_ArithmeticError => k_is); (case Wd_iS => k_is); (case Wd_lI => k_is)
    (case Wd_dI => k_is); (case Wd_kI => k_is); (case Wd_tI => k_is); (case Wd_oS1 => exact ⟨_, _, _, _, _, _, _, _, _, _, _, _, _, _, _, by k_is, by decide +kernel⟩); (case Wd_oS2 => k_is); (case Wd_oS3 => k_is)
    (case Wd_oS4 => k_is); (case Wd_oS5 => k_is); (case Wd_noT => k_is); (case Wd_xN => k_exc); (case Wd_kN => k_is); (case Wd_bN => k_is)
    (case Wd_tN => k_is); (case Wd_mS => kts_exm); (case Wd_mN => kts_exm); (case Wd_eS1 => k_is); (case Wd_eS2 => k_is); (case Wd_eS4 => k_is)
    (case Wd_eS5 => k_is); (case Wd_eS8 => k_is); (case Wd_eN1 => k_is); (case Wd_eN2 => k_is); (case Wd_eN4 => k_is); (case Wd_eN5 => k_is)
    (case Wd_eN8 => k_is); (case Wd_e6 => k_is); (case Wd_e7 => k_is); (case Wd_qS0 => kit_is); (case Wd_qS1 => kit_is); (case Wd_qS2 => kit_is)
    (case Wd_qS3 => kit_is); (case Wd_qS4 => kit_is); (case Wd_qS5 => kit_is); (case Wd_qS6 => kit_is); (case Wd_qS7 => kit_is); (case Wd_qS8 => kit_is)
    (case Wd_qS9 => kit_is); (case Wd_qS10 => kit_is); (case Wd_qS11 => kit_is); (case Wd_qS12 => kit_is); (case Wd_qS13 => kit_is); (case Wd_qS14 => kit_is)
    (case Wd_qS15 => kit_is); (case Wd_qS16 => kit_is); (case Wd_qS17 => kit_is); (case Wd_qS18 => kit_is); (case Wd_qS19 => kit_is); (case Wd_qS20 => kit_is)
    (case Wd_qSw => kit_is); (case Wd_qSl => kit_is); (case Wd_qSr => kit_is); (case Wd_qSV => kit_is); (case Wd_qSL => kit_is); (case Wd_qSA => kit_is)
    (case Wd_qN0 => kit_is); (case Wd_qN1 => kit_is); (case Wd_qN2 => kit_is); (case Wd_qN3 => kit_is); (case Wd_qN4 => kit_is); (case Wd_qN5 => kit_is)
    (case Wd_qN6 => kit_is); (case Wd_qN7 => kit_is); (case Wd_qN8 => kit_is); (case Wd_qN9 => kit_is); (case Wd_qN10 => kit_is); (case Wd_qN11 => kit_is)
    (case Wd_qN12 => kit_is); (case Wd_qN13 => kit_is); (case Wd_qN14 => kit_is); (case Wd_qN15 => kit_is); (case Wd_qN16 => kit_is); (case Wd_qN17 => kit_is)
    (case Wd_qN18 => kit_is); (case Wd_qN19 => kit_is); (case Wd_qN20 => kit_is); (case Wd_qNw => kit_is); (case Wd_qNl => kit_is); (case Wd_qNr => kit_is)
    (case Wd_qNV => kit_is); (case Wd_qNL => kit_is); (case Wd_qNA => kit_is)


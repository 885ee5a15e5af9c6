import PyProof.Rows.All
import Wide.All
import OpenK.AllK
import Wide.FinOn
import KE.GoesMore
import KE.GoesEnum
import KE.KTupSum
import KE.KRevSl
import HandS.ForMost
import HandS.Walk
import HandS.IsInst
import HandS.Wide
import HandS.WideBits
import HandS.Defaults
import HandS.TupAny
import HandS.Exc
import HandS.ExcInit
import HandS.ExcOwn
import HandS.ExcIs
import HandS.ExcField
import HandS.WordsExc
import HandS.CallSlots
import HandS.TupMul
import KE.KExcIs
import PyProof.FactsAll.list_3
import PyProof.Draws
import KE.RegKIsAll
import KE.RegKTryMore
import PySem.Challenge.RW_willdealt_k16_what_a_whom_is
set_option Elab.async false
set_option linter.all false
set_option maxRecDepth 100000
set_option maxHeartbeats 4000000
namespace Wd
open PySem PySem.Spec PyProof.Rows L2
/-! ### zip of a list or tuple with a list or tuple: one rule for the four mixes. A feed is what zip draws from. -/
inductive Feed where
  | li
  | tu
namespace Feed
def sq : Feed → PySem.W.Frag → Hp → Addr → List V → Prop
  | .li => SqL
  | .tu => SqT
def stands : Feed → Heap → Addr → Array Value → Prop
  | .li => Heap.IsList
  | .tu => Heap.IsTuple
def at_ : Feed → Heap → Addr → Addr → Nat → Prop
  | .li => Heap.IsListIter
  | .tu => Heap.IsTupleIter
def head : Feed → Addr → Obj
  | .li, a => { cls := .type "list_iterator", data := .fields #[.ref a, .int 0 0] }
  | .tu, a => { cls := .type "tuple_iterator", data := .fields #[.ref a, .int 0 0] }
variable (k : Feed)
theorem begins (a : Addr) (its : Array Value) : Begins (.ref a) (k.head a) fun h => k.stands h a its := by
  cases k
  · exact begins_list a its
  · exact begins_tuple a its
theorem draws {prog : Program} {w : World} {A : Around} (hA : A.handled = none) {it a : Addr} (ne : a ≠ it) (its : Array Value) : Draws prog w A it [it, a] its.size (fun i v => its[i]? = some v) (fun i h => k.at_ h it a i ∧ k.stands h a its) := by
  cases k
  · exact Draws.list hA it a ne its
  · exact Draws.tuple hA it a ne its
theorem first {h : Heap} {it a : Addr} (e : h.get? it = some (k.head a)) : k.at_ h it a 0 := by
  cases k <;> exact ⟨_, e, rfl, rfl⟩
theorem lives {h : Heap} {it a : Addr} {i : Nat} (e : k.at_ h it a i) : ∃ o, h.get? it = some o ∧ ∀ v, o.data ≠ .cell v := by
  cases k
  all_goals
    obtain ⟨o, e1, _, e2⟩ := e
    exact ⟨o, e1, fun v z => by rw [e2] at z; cases z⟩
theorem moved {h h' : Heap} {it a : Addr} {i : Nat} (e : k.at_ h it a i) (m : ∀ o, h.get? it = some o → h'.get? it = some o) : k.at_ h' it a i := by
  cases k
  · exact Heap.IsListIter.at e m
  · exact Heap.IsTupleIter.at e m
theorem known {X : Cx} {pins : List (Addr × Obj)} {σ : L2.St} {H : Hp} {s : Shared} {a : Addr} {xs : List V} (I : Inv X pins σ H s) (e : k.sq X.K H a xs) : ∃ its : List Value, Vals xs its ∧ k.stands s.heap a its.toArray ∧ a < s.heap.objs.size := by
  cases k
  · obtain ⟨its, v, p, _⟩ := I.list e
    exact ⟨its, v, p.isList, p.lt⟩
  · obtain ⟨its, v, p, _⟩ := I.tuple e
    obtain ⟨o, e1, _⟩ := id p
    exact ⟨its, v, p, Heap.lt_size e1⟩
theorem one {X : Cx} {pins : List (Addr × Obj)} {σ : L2.St} {H : Hp} {s : Shared} {a : Addr} {xs ys : List V} (I : Inv X pins σ H s) (e : k.sq X.K H a xs) (e' : k.sq X.K H a ys) : xs = ys := by
  cases k
  · exact I.list_inj e e'
  · exact I.tuple_inj e e'
end Feed
/-- the walk over zip of two feeds of one length -/
def ItZ (K : PySem.W.Frag) (k m : Feed) (a b : Addr) : It where
  go i H := ∃ xs ys x y, k.sq K H a xs ∧ m.sq K H b ys ∧ xs[i]? = some x ∧ ys[i]? = some y
  yld i H v H' := ∃ T x y, v = .ref T ∧ H T = none ∧ H' = upd H T (.tup [x, y]) ∧ (∀ xs, k.sq K H a xs → xs[i]? = some x) ∧ ∀ ys, m.sq K H b ys → ys[i]? = some y
  stop i H := ∃ xs ys, k.sq K H a xs ∧ m.sq K H b ys ∧ xs.length = i ∧ ys.length = i
theorem walkZ {K : PySem.W.Frag} {k m : Feed} {a b : Addr} {xs ys : List V} (hl : xs.length = ys.length) : Walk (ItZ K k m a b) xs.length (fun H => k.sq K H a xs ∧ m.sq K H b ys) (YPair (fun i => xs[i]?) fun i => ys[i]?) where
  goes := fun i H hi g => ⟨xs, ys, xs[i], ys[i]'(hl ▸ hi), g.1, g.2, List.getElem?_eq_getElem hi, List.getElem?_eq_getElem (hl ▸ hi)⟩
  stops := fun H g => ⟨xs, ys, g.1, g.2, rfl, hl.symm⟩
  yields := fun i H v H' _ g ⟨T, x, y, e1, e2, e3, e4, e5⟩ => ⟨T, x, y, e1, e2, e3, e4 xs g.1, e5 ys g.2⟩
/-- what holds of each of five cells holds of any of them -/
theorem of_five {z p q i j c : Addr} {R : Addr → Prop} (hc : c ∈ [z, p, q, i, j]) (hz : R z) (hp : R p) (hq : R q) (hi : R i) (hj : R j) : R c := by
  simp only [List.mem_cons, List.not_mem_nil, or_false] at hc
  rcases hc with e | e | e | e | e <;> (rw [e]; assumption)
theorem turnZ {P : Program} {w : World} {K : PySem.W.Frag} {elts : List Expr} {kk : Nat} {tpos : Pos} {k m : Feed} {a b z p q i1 i2 : Addr} (S : ZipSep2 z p q i1 i2 [i1, a] [i2, b]) (na : a ≠ i1) (nb : b ≠ i2) :
    Turn P w K (.Tuple elts kk tpos) (ItZ K k m a b) [z, p, q, i1, i2] z fun i h => IsZip h z p q .none ∧ IsTupOf2 h p (.ref i1) (.ref i2) ∧ (∃ x y, IsTupOf2 h q x y) ∧ k.at_ h i1 a i ∧ m.at_ h i2 b i where
  mem := List.mem_cons_self
  obj := by
    rintro i h ⟨gz, gp, ⟨x, y, gq⟩, g1, g2⟩ c hc
    exact of_five (R := fun c => ∃ o, h.get? c = some o ∧ ∀ v, o.data ≠ .cell v) hc ⟨_, gz, fun _ e => nomatch e⟩ ⟨_, gp, fun _ e => nomatch e⟩ ⟨_, gq, fun _ e => nomatch e⟩ (k.lives g1) (m.lives g2)
  keep := by
    rintro i h h' ⟨gz, gp, ⟨x, y, gq⟩, g1, g2⟩ same
    exact ⟨same _ (by simp) _ gz, same _ (by simp) _ gp, ⟨x, y, same _ (by simp) _ gq⟩, k.moved g1 (same _ (by simp)), m.moved g2 (same _ (by simp))⟩
  item := by
    rintro X rfl rfl rfl calm i pins s σ H E I free ⟨gz, gp, ⟨x0, y0, gq⟩, g1, g2⟩ ⟨xs, ys, x, y, hxs, hys, hx, hy⟩
    obtain ⟨us, rel1, st1, _⟩ := k.known I hxs
    obtain ⟨vs, rel2, st2, _⟩ := m.known I hys
    obtain ⟨u, hu, ru⟩ := rel1.get hx
    obtain ⟨v, hv, rv⟩ := rel2.get hy
    have hA : X.A.in1.handled = none := I.ok.hd calm
    have zlt := Heap.lt_size gz
    have n1 : i < us.toArray.size := by
      rw [List.size_toArray]
      exact (List.getElem?_eq_some_iff.mp hu).1
    have n2 : i < vs.toArray.size := by
      rw [List.size_toArray]
      exact (List.getElem?_eq_some_iff.mp hv).1
    refine wpAny_pyNext_zipD2_item S (k.draws hA na _) (m.draws hA nb _) gz gp gq ⟨g1, st1⟩ ⟨g2, st2⟩ n1 n2 ?_
    rintro u' v' h1 t1 eu ev gz1 gq1 ⟨d1, _⟩ ⟨d2, _⟩ gT _ same
    obtain rfl : u = u' := Option.some.inj (hu.symm.trans (by simpa using eu))
    obtain rfl : v = v' := Option.some.inj (hv.symm.trans (by simpa using ev))
    refine ⟨_, rfl, wpAny_letOwnedTupleGo_zip (s := { s with heap := h1, toks := t1 }) gz1 fun h2 gz2 sb => ?_⟩
    have all : ∀ c o, c ∉ [z, p, q, i1, i2] → s.heap.get? c = some o → h2.get? c = some o := fun c o hc e => by
      simp only [List.mem_cons, List.not_mem_nil, or_false, not_or] at hc
      rw [sb.2 c hc.1]
      exact same c o hc.1 hc.2.2.1 hc.2.2.2.1 hc.2.2.2.2 e
    have pair : h2.get? s.heap.objs.size = some { cls := .type "tuple", data := .seq #[u, v] } := (sb.2 _ (Nat.ne_of_gt zlt)).trans gT
    have made : ObjOk X.prog X.w (upd H s.heap.objs.size (.tup [x, y])) h2 s.heap.objs.size (.tup [x, y]) := ⟨by show 2 ≤ sizeLine; decide, [u, v], .cons ru (.cons rv .nil), _, pair, rfl, _, rfl⟩
    refine ⟨.ref s.heap.objs.size, _, I.turnedNew (t' := t1) all free (Nat.le_refl _) made, rfl, ?_, ?_, ?_⟩
    · exact ⟨_, x, y, rfl, I.hok.fresh (Nat.le_refl _), rfl, fun l e => k.one I e hxs ▸ hx, fun l e => m.one I e hys ▸ hy⟩
    · exact ⟨gz2, (sb.2 _ S.TIz).trans (same _ _ S.TIz S.TITO S.TIi1 S.TIi2 gp), ⟨u, v, (sb.2 _ S.TOz).trans gq1⟩, k.moved d1 fun o e => (sb.2 _ S.zi1.symm).trans e, m.moved d2 fun o e => (sb.2 _ S.zi2.symm).trans e⟩
    · intro c hc
      have old : c < s.heap.objs.size := by
        obtain ⟨o1, e1, _⟩ := k.lives g1
        obtain ⟨o2, e2, _⟩ := m.lives g2
        exact of_five (R := fun c => c < s.heap.objs.size) hc zlt (Heap.lt_size gp) (Heap.lt_size gq) (Heap.lt_size e1) (Heap.lt_size e2)
      rw [upd_ne (Nat.ne_of_lt old)]
      exact (free c hc).1
  done := by
    rintro X rfl rfl rfl calm i pins s σ H E I free ⟨gz, gp, ⟨x0, y0, gq⟩, g1, g2⟩ ⟨xs, ys, hxs, hys, n1, n2⟩
    obtain ⟨us, rel1, st1, _⟩ := k.known I hxs
    obtain ⟨vs, rel2, st2, _⟩ := m.known I hys
    have hA : X.A.in1.handled = none := I.ok.hd calm
    have z1 : us.toArray.size = i := by rw [List.size_toArray, ← rel1.length, n1]
    have z2 : vs.toArray.size = i := by rw [List.size_toArray, ← rel2.length, n2]
    refine wpAny_pyNext_zipD2_end S (k.draws hA na _) (m.draws hA nb _) gz gp gq ⟨g1, st1⟩ ⟨g2, st2⟩ (by omega) (by omega) (by omega) fun h1 t1 same => ⟨rfl, I.turnedL (t' := t1) (fun c o hc e => ?_) free⟩
    simp only [List.mem_cons, List.not_mem_nil, or_false, not_or] at hc
    exact same c o hc.1 hc.2.2.1 hc.2.2.2.1 hc.2.2.2.2 e
  self := fun _ _ _ _ _ g e => wpAny_pyIter_zip g.1 e
def iZ (K : PySem.W.Frag) (k m : Feed) (ta : TA) : TI := fun σ H R => ta σ H fun vs H1 => ∃ a b xs ys, vs = [.ref a, .ref b] ∧ k.sq K H1 a xs ∧ m.sq K H1 b ys ∧ R (ItZ K k m a b) H1
theorem pi_Z {X : Cx} {e e2 : Expr} {ta : TA} {pz pos tpos : Pos} {elts : List Expr} {kk : Nat} (k m : Feed) (hg : Gl X "zip") (hm : X.mg "zip" = none) (ha : PA X [e, e2] ta)
    (star : starEach [e, e2] X.env = (false, eval e X.env) :: starEach [e2] X.env := by rfl) (plain : (backTo pos (starEach [e2] X.env)).any (·.1) = false := by rfl) :
    PI X (.Tuple elts kk tpos) (.Call (.Name "zip" pz) [e, e2] [] pos) (iZ X.K k m ta) where
  run := by
    intro pins s σ H R I h
    refine Call_ (ld_blt I hg hm PyProof.Rows.boot_zip (PyProof.Rows.callWith_type1 (thn (ha.run pos pins s σ H _ I h) ?_) star plain))
    rintro us s1 ⟨vs, H1, I1, rel, a, b, xs, ys, rfl, hxs, hys, r⟩
    obtain ⟨ua, ub, rfl, ra, rb⟩ := vals2 rel
    cases ra
    cases rb
    obtain ⟨its1, _, st1, la⟩ := k.known I1 hxs
    obtain ⟨its2, _, st2, lb⟩ := m.known I1 hys
    have S : ZipSep2 (s1.heap.objs.size + 4) (s1.heap.objs.size + 2) (s1.heap.objs.size + 3) s1.heap.objs.size (s1.heap.objs.size + 1) [s1.heap.objs.size, a] [s1.heap.objs.size + 1, b] :=
      zip_sep2 (fun c hc => by rw [List.mem_singleton.mp hc]; exact la) (fun c hc => by rw [List.mem_singleton.mp hc]; exact lb)
    have far : ∀ c, s1.heap.objs.size ≤ c → FpOk X pins H1 c := fun c hc => I1.fpOk hc (I1.hok.fresh hc)
    refine zip_begins2 (k.begins a _) (m.begins b _) st1 st2 fun h1 gz gp gq f1 f2 _ same => wpAny_pyIter_zip gz ?_
    refine ⟨_, _, _, _, H1, rfl, I1.kept (t' := s1.toks) same, turnZ S (Nat.ne_of_lt la) (Nat.ne_of_lt (Nat.lt_succ_of_lt lb)), ⟨gz, gp, ⟨_, _, gq⟩, k.first f1, m.first f2⟩, fun c hc => ?_, r⟩
    exact of_five hc (far _ (Nat.le_add_right _ _)) (far _ (Nat.le_add_right _ _)) (far _ (Nat.le_add_right _ _)) (far _ (Nat.le_refl _)) (far _ (Nat.le_add_right _ _))
/-! ### sum of a tuple of ints -/
def rSumT (K : PySem.W.Frag) : List V → Hp → VK → Prop := fun vs H Q => ∃ (t : Addr) (ns : List Int), vs = [V.ref t] ∧ SqT K H t (ns.map V.int) ∧ Q (.int ns.sum) H
theorem cr_sumT {X : Cx} (calm : X.calm = true) : CallR X (.builtin "sum") (rSumT X.K) := by
  rintro pins s σ H vs us Q I rel ⟨t, ns, rfl, hs, want⟩
  obtain ⟨its, vals, tup, _⟩ := I.tuple hs
  rw [Vals.ref1 rel]
  have aI : IntsAre its ns := vals.ints
  obtain ⟨zs, ez⟩ := aI.allInts.items
  have sum_is : preSum (numAt zs) zs.size = ns.sum := by
    rw [preSum_eq, List.take_of_length_le (by simp), ← nums_intItems, ← ez]
    exact congrArg List.sum aI.numsOf
  have tup2 : s.heap.IsTuple t (intItems zs) := ez ▸ tup
  refine PySem.W.ktm_sumG (I.ok.hd calm) tup2 fun h1 k1 t1 same => ?_
  rw [sum_is]
  exact ⟨.int _, H, I.kept same, ⟨_, rfl⟩, want⟩
/-! ### xs[i] read by values, for xs[i] += e -/
def rGetL (K : PySem.W.Frag) : V → V → Hp → VK → Prop := fun x y H Q => ∃ p xs i v, x = .ref p ∧ y = .int i ∧ 0 ≤ i ∧ SqL K H p xs ∧ atI xs i = some v ∧ Q v H
theorem get_list {X : Cx} : PGet X (rGetL X.K) := by
  rintro pins s σ H _ _ ov iv Q I ro ri ⟨p, xs, i, v, rfl, rfl, i0, hxs, hat, want⟩
  cases ro
  obtain ⟨t, rfl⟩ := ri
  obtain ⟨its, vals, plain, small⟩ := I.list hxs
  obtain ⟨j, sj, gj, _, _, hi⟩ := atI_get hat
  obtain ⟨u, gu, ru⟩ := vals.get gj
  have ej : i.toNat = j := Option.some.inj ((seqIndex_of i0 hi).symm.trans sj)
  have line := line63
  exact wpAny_getItem_list plain.isList i0 (by omega) (by rw [ej]; simpa using gu) ⟨v, H, I, ru, want⟩
/-! ### f(k = v, ..), keywords alone -/
def tCallN0 (m : Nat) (sp : Sp) (gV : List V → List V → List V) (E : XK) (tk : TA) : TE := fun σ H Q => tk σ H fun zs H2 => zs.length = m ∧ sp (gV [] zs) H2 Q E
theorem pe_callN0 {X : Cx} {CX : CXT} {k : Nat} {f : Addr} {fd : FuncData} {ps ks : List Str} {sp : Sp} {E : XK} {x : Str} {p pos : Pos} {kws : List Keyword} {tk : TA} {g : List Value → List Value → List Value} {gV : List V → List V → List V}
    (F : FnOk X.prog X.w X.K X.mg X.base CX k f fd ps sp) (room : Room k X.A) (glob : Gl X x) (is : X.mg x = some (.ref f)) (kp : PySem.W.keepIn X.K (.ref f) = true) (bind : KBn X.K fd ps 0 ks g gV) (pass : Passes CX X E) (args : PK X kws tk)
    (named : (backToKw pos (keywordEach kws X.env)).all (·.1.isSome) = true := by rfl) (names : (backToKw pos (keywordEach kws X.env)).filterMap (·.1) = ks := by rfl)
    (nodebug : (x == ("__debug__" : Str)) = false := by decide) (plain : ((backTo pos (starEach [] X.env)).any (·.1) || (backToKw pos (keywordEach kws X.env)).any (·.1.isNone)) = false := by rfl) :
    PE X (.Call (.Name x p) [] kws pos) (tCallN0 ks.length sp gV E tk) where
  run := by
    intro pins s σ H Q I h
    refine wpAny_Call_Name_kw (ld_glob I glob is (PySem.W.callWith_KW0 (h₀ := X.base) I.ok.mod.kin kp named (thn (args.run pos pins s σ H _ I h) ?_) plain) nodebug)
    rintro ws s2 ⟨zs, H2, I2, rel, len, want⟩
    rw [names]
    exact ⟨I2.kIn, run_fnN F room bind pass I2 .nil rel rfl len want⟩
/-! ### t[::-1] of a tuple -/
section
variable {prog : Program} {w : World} {A : Around} {E : Value → Shared → Prop} {s : Shared}
theorem back_parts {sl : Addr} {v0 v1 v2 : Value} {n : Nat} {R : Int × Int × Nat → Shared → Prop} (cut : s.heap.IsSliceOf sl v0 v1 v2) (p0 : IsPart v0 none) (p1 : IsPart v1 none) (p2 : IsPart v2 (some (-1))) (want : R ((n : Int) - 1, -1, n) s) :
    wpAny (model prog w) A (Builtin.Slice.sliceApplied (.ref sl) (pure (n : Int))) R E s := by
  obtain ⟨o, eo, _, eds⟩ := cut
  have num : Builtin.Slice.slicePlaces ((n : Int) - 1) (-1) (-1) = n := by
    show (if (-1 : Int) > 0 then _ else if (n : Int) - 1 > -1 then ((n : Int) - 1 - -1 - 1) / (- -1) + 1 else 0).toNat = n
    rw [if_neg (by decide)]
    by_cases some : (n : Int) - 1 > -1
    · rw [if_pos some, show (- -1 : Int) = 1 by decide, Int.ediv_one]
      omega
    · rw [if_neg some]
      omega
  show wpAny _ _ (Builtin.Slice.sliceFields (.ref sl) >>= _) _ _ _
  refine wpAny_bind (wpAny_bind (wpAny_field eo eds (x := v0) rfl (wpAny_bind (wpAny_field eo eds (x := v1) rfl (wpAny_bind (wpAny_field eo eds (x := v2) rfl (wpAny_pure (wpAny_bind (HT.slicePart_ p2 ?_)))))))))
  show wpAny _ _ (if ((-1 : Int) == 0) = true then _ else _) _ _ _
  rw [if_neg (by decide)]
  refine wpAny_bind (HT.slicePart_ p0 (wpAny_bind (HT.slicePart_ p1 (wpAny_bind (wpAny_pure (wpAny_pure ?_))))))
  show R ((n : Int) - 1, -1, Builtin.Slice.slicePlaces ((n : Int) - 1) (-1) (-1)) s
  rw [num]
  exact want
theorem back_items (xs : Array Value) : ((List.range xs.size).filterMap fun (m : Nat) => xs[(((xs.size : Nat) : Int) - 1 + (m : Int) * (-1)).toNat]?).toArray = xs.toList.reverse.toArray := by
  have e : (fun (m : Nat) => xs[(((xs.size : Nat) : Int) - 1 + (m : Int) * (-1)).toNat]?) = (xs[·]?) ∘ fun m => xs.size - 1 - m := funext fun m => by
    show xs[(((xs.size : Nat) : Int) - 1 + (m : Int) * (-1)).toNat]? = xs[xs.size - 1 - m]?
    congr 1
    omega
  rw [e, ← List.filterMap_map, PySem.W.krv_range, List.filterMap_reverse, PySem.W.krv_all xs]
theorem tuple_back {t sl : Addr} {its : Array Value} {v0 v1 v2 : Value} {R : Value → Shared → Prop} (tup : IsTup s.heap t its) (cut : s.heap.IsSliceOf sl v0 v1 v2) (p0 : IsPart v0 none) (p1 : IsPart v1 none) (p2 : IsPart v2 (some (-1))) (small : its.size ≤ sizeLine)
    (want : R (.ref s.heap.objs.size) { s with heap := s.heap.push { cls := .type "tuple", data := .seq its.toList.reverse.toArray } }) : wpAny (model prog w) A (getItem (.ref t) (.ref sl)) R E s := by
  obtain ⟨o, eo, ecs, _⟩ := id cut
  have isSl : s.TypeIs (.ref sl) "slice" := ⟨o, eo, ecs⟩
  have fits : sizeOk (.seq its.toList.reverse.toArray) := by
    show its.toList.reverse.toArray.size ≤ sizeLine
    simpa using small
  unfold getItem
  (try with_reducible refine wpAny_holding ?_); (first | refine wpAny_bind (wpAny_pure ?_) | skip)
  refine wpAny_bind (wpAny_sequenceKey tup.typeIs (by decide) (wpAny_bind (wpAny_callSpecial?_slot (name := Str.ofString "__getitem__") tup.typeIs PyProof.Rows.slot_tuple_getitem (wpAny_call_entry PyProof.Rows.slot_tuple_getitem tup.typeIs entry_tuple_getitem ?_ (args_tuple_getitem _ _)))))
  refine wpAny_bind (m := Builtin.Tuple.tupleItemsOf (.ref t)) (tupleItemsOf_ tup (wpAny_bind (wpAny_typeOf isSl ?_)))
  rw [if_pos (by decide)]
  refine wpAny_bind (back_parts cut p0 p1 p2 ?_)
  show wpAny _ _ (if ((((its.size : Int) - 1) == 0 && (-1 : Int) == 1 && its.size == its.size) = true) then _ else _) _ _ _
  rw [if_neg (by simp), back_items]
  first
    | exact wpAny_bind (m := Builtin.Tuple.tupleExact _) (wpAny_newObj_type (wpAny_pure ⟨_, rfl, wpAny_pure want⟩) fits)
    | exact wpAny_bind (m := Builtin.Tuple.tupleExact _) (wpAny_newObj_type (wpAny_bind (wpAny_pure (wpAny_pure ⟨_, rfl, wpAny_pure want⟩))) fits)
end
def tRevT (K : PySem.W.Frag) (te : TE) : TE := fun σ H Q => te σ H fun x H1 => ∃ t xs, x = .ref t ∧ SqT K H1 t xs ∧ ∀ p, H1 p = none → Q (.ref p) (upd H1 p (.tup xs.reverse))
theorem pe_revT {X : Cx} {e : Expr} {te : TE} {k : Nat} {q1 q2 q3 pos : Pos} (he : PE X e te) : PE X (.Subscript e (.Slice none none (some (.UnaryOp .USub (.Constant (.int 1) k q1) q2)) q3) pos) (tRevT X.K te) where
  run := by
    intro pins s σ H Q I h
    have minus : PO X (some (.UnaryOp .USub (.Constant (.int 1) k q1) q2)) (tPart (tUn (rU fun i => .int (-i)) (tC (.int 1)))) := po_some (pe_un un_neg pe_int)
    refine Subscript_ (thn (he.run pins s σ H _ I h) ?_)
    rintro _ s1 ⟨_, H1, I1, rel, t, xs, rfl, hxs, want⟩
    cases rel
    refine wpAny_Slice (thn (po_none.run pins s1 σ H1 (fun o G => o = none ∧ G = H1) I1 ⟨rfl, rfl⟩) ?_)
    rintro v0 s2 ⟨_, _, I2, p0, rfl, rfl⟩
    refine thn (po_none.run pins s2 σ _ (fun o G => o = none ∧ G = _) I2 ⟨rfl, rfl⟩) ?_
    rintro v1 s3 ⟨_, _, I3, p1, rfl, rfl⟩
    refine thn (minus.run pins s3 σ _ (fun o G => o = some (-1) ∧ G = _) I3 ⟨1, rfl, -1, rfl, rfl, rfl⟩) ?_
    rintro v2 s4 ⟨_, _, I4, p2, rfl, rfl⟩
    have I5 := I4.kept (h' := s4.heap.push { cls := .type "slice", data := .fields #[v0, v1, v2] }) (t' := s4.toks) fun c o g => Heap.get?_push_of_some _ g
    obtain ⟨its, vals, tup, small⟩ := I5.tuple hxs
    refine tail_any (ops := [.ref t, .ref s4.heap.objs.size]) tup.typeIs PyProof.Rows.slot_tuple_getitem.lookup (tuple_back tup (Heap.IsSliceOf.new _ v0 v1 v2) p0 p1 p2 (by rw [List.size_toArray, ← vals.length]; exact small) ?_) (by with_unfolding_all rfl)
    exact ⟨.ref _, _, I5.laid (t' := s4.toks) (o := .tup xs.reverse) (fun c o g => Heap.get?_push_of_some _ g) (Nat.le_refl _) ⟨by rw [List.length_reverse]; exact small, _, vals.reverse, IsTup.new _ _⟩, rfl, want _ (I5.hok.fresh (Nat.le_refl _))⟩
end Wd

set_option linter.all false
namespace WdM
/-! ### pennies by weights -/
def deal (a T : Int) : Int → List Int → List Int
  | _, [] => []
  | k, w :: ws => if 0 < k ∧ a * w % T ≠ 0 then (a * w / T + 1) :: deal a T (k - 1) ws else a * w / T :: deal a T k ws
def bases (a T : Int) (ws : List Int) : List Int := ws.map fun w => a * w / T
def cnt (a T : Int) : List Int → Int
  | [] => 0
  | w :: ws => (if a * w % T ≠ 0 then 1 else 0) + cnt a T ws
def dealt (a : Int) (ws : List Int) : List Int := deal a ws.sum (a - (bases a ws.sum ws).sum) ws

theorem deal_len (a T : Int) : ∀ (k : Int) (ws : List Int), (deal a T k ws).length = ws.length
  | _, [] => rfl
  | k, w :: ws => by
    unfold deal
    split
    · rw [List.length_cons, deal_len a T (k - 1) ws, List.length_cons]
    · rw [List.length_cons, deal_len a T k ws, List.length_cons]
theorem dealt_len (a : Int) (ws : List Int) : (dealt a ws).length = ws.length := deal_len _ _ _ _
theorem cnt_cons (a T w : Int) (ws : List Int) : cnt a T (w :: ws) = (if a * w % T ≠ 0 then 1 else 0) + cnt a T ws := rfl
theorem cnt_nonneg (a T : Int) : ∀ ws, 0 ≤ cnt a T ws
  | [] => Int.le_refl 0
  | w :: ws => by
    have := cnt_nonneg a T ws
    unfold cnt
    split <;> omega
theorem deal_sum (a T : Int) : ∀ (k : Int) (ws : List Int), 0 ≤ k → (deal a T k ws).sum = (bases a T ws).sum + min k (cnt a T ws)
  | k, [], hk => by
    show (0 : Int) = 0 + min k 0
    omega
  | k, w :: ws, hk => by
    have hb : (bases a T (w :: ws)).sum = a * w / T + (bases a T ws).sum := by unfold bases; rw [List.map_cons, List.sum_cons]
    have hc := cnt_nonneg a T ws
    unfold deal
    split
    · rename_i h
      have ih := deal_sum a T (k - 1) ws (by omega)
      rw [List.sum_cons, ih, hb]
      rw [cnt_cons, if_pos h.2]
      generalize a * w / T = q
      omega
    · rename_i h
      have ih := deal_sum a T k ws hk
      rw [List.sum_cons, ih, hb]
      rw [cnt_cons]
      generalize a * w / T = q
      by_cases hz : a * w % T ≠ 0
      · have : ¬ 0 < k := fun z => h ⟨z, hz⟩
        rw [if_pos hz]
        omega
      · rw [if_neg hz]
        omega
def rems (a T : Int) (ws : List Int) : List Int := ws.map fun w => a * w % T
theorem bases_rems (a T : Int) : ∀ ws : List Int, T * (bases a T ws).sum + (rems a T ws).sum = a * ws.sum
  | [] => by
    show T * 0 + 0 = a * 0
    simp
  | w :: ws => by
    have ih := bases_rems a T ws
    have e : T * (a * w / T) + a * w % T = a * w := Int.mul_ediv_add_emod (a * w) T
    unfold bases rems at *
    rw [List.map_cons, List.map_cons, List.sum_cons, List.sum_cons, List.sum_cons, Int.mul_add, Int.mul_add]
    omega
theorem rems_bound (a T : Int) (hT : 0 < T) : ∀ ws : List Int, 0 ≤ (rems a T ws).sum ∧ (rems a T ws).sum ≤ (T - 1) * cnt a T ws
  | [] => by
    constructor
    · exact Int.le_refl 0
    · show (0 : Int) ≤ (T - 1) * 0
      simp
  | w :: ws => by
    have ih := rems_bound a T hT ws
    have h0 := Int.emod_nonneg (a * w) (show T ≠ 0 by omega)
    have h1 := Int.emod_lt_of_pos (a * w) hT
    unfold rems at *
    rw [List.map_cons, List.sum_cons]
    rw [cnt_cons]
    generalize hr : a * w % T = r at *
    by_cases hz : r ≠ 0
    · rw [if_pos hz, Int.mul_add, Int.mul_one]
      omega
    · rw [if_neg hz]
      have : r = 0 := by omega
      subst this
      rw [Int.zero_add, Int.zero_add]
      omega
theorem lack_bounds (a : Int) (ws : List Int) (hT : 0 < ws.sum) : 0 ≤ a - (bases a ws.sum ws).sum ∧ a - (bases a ws.sum ws).sum ≤ cnt a ws.sum ws := by
  have h1 := bases_rems a ws.sum ws
  have ⟨h2, h3⟩ := rems_bound a ws.sum hT ws
  have hc := cnt_nonneg a ws.sum ws
  generalize ws.sum = T at *
  generalize (bases a T ws).sum = B at *
  generalize (rems a T ws).sum = R at *
  generalize cnt a T ws = c at *
  have e : T * (a - B) = R := by
    rw [Int.mul_sub]
    have : a * T = T * a := Int.mul_comm _ _
    omega
  constructor
  · rcases Int.lt_or_le (a - B) 0 with h | h
    · have : T * (a - B) < 0 := Int.mul_neg_of_pos_of_neg hT h
      omega
    · exact h
  · rcases Int.lt_or_le c (a - B) with h | h
    · have h4 : T * (c + 1) ≤ T * (a - B) := Int.mul_le_mul_of_nonneg_left (by omega) (by omega)
      have h5 : (T - 1) * c = T * c - c := by rw [Int.sub_mul, Int.one_mul]
      rw [Int.mul_add, Int.mul_one] at h4
      omega
    · exact h
theorem dealt_sum (a : Int) (ws : List Int) (hT : 0 < ws.sum) : (dealt a ws).sum = a := by
  have ⟨h1, h2⟩ := lack_bounds a ws hT
  unfold dealt
  rw [deal_sum _ _ _ _ h1]
  omega
/-- each is its exact part, rounded down or up -/
theorem deal_get (a T : Int) : ∀ (k : Int) (ws : List Int) (i : Nat) (v : Int), (deal a T k ws)[i]? = some v → ∃ w, ws[i]? = some w ∧ (v = a * w / T ∨ v = a * w / T + 1)
  | _, [], i, v, h => by unfold deal at h; simp at h
  | k, w :: ws, i, v, h => by
    unfold deal at h
    split at h
    · cases i with
      | zero => exact ⟨w, rfl, .inr (by simpa using h.symm)⟩
      | succ i => exact deal_get a T _ ws i v (by simpa using h)
    · cases i with
      | zero => exact ⟨w, rfl, .inl (by simpa using h.symm)⟩
      | succ i => exact deal_get a T _ ws i v (by simpa using h)
/-! ### the same by other numbers of the same shares -/
theorem sum_scale (p : Int) : ∀ ws : List Int, (ws.map (p * ·)).sum = p * ws.sum
  | [] => by simp
  | w :: ws => by rw [List.map_cons, List.sum_cons, List.sum_cons, sum_scale p ws, Int.mul_add]
theorem part_scale {a T w p : Int} (hp : 0 < p) : a * (p * w) / (p * T) = a * w / T := by
  rw [show a * (p * w) = p * (a * w) by rw [← Int.mul_assoc, Int.mul_comm a p, Int.mul_assoc]]
  exact Int.mul_ediv_mul_of_pos _ _ hp
theorem rem_scale {a T w p : Int} (hp : 0 < p) : (a * (p * w) % (p * T) ≠ 0) ↔ (a * w % T ≠ 0) := by
  rw [show a * (p * w) = p * (a * w) by rw [← Int.mul_assoc, Int.mul_comm a p, Int.mul_assoc], Int.mul_emod_mul_of_pos _ _ hp]
  constructor
  · intro h z
    exact h (by rw [z, Int.mul_zero])
  · intro h z
    rcases Int.mul_eq_zero.mp z with q | q
    · omega
    · exact h q
theorem deal_scale {a T p : Int} (hp : 0 < p) : ∀ (k : Int) (ws : List Int), deal a (p * T) k (ws.map (p * ·)) = deal a T k ws
  | _, [] => rfl
  | k, w :: ws => by
    rw [List.map_cons]
    unfold deal
    rw [part_scale hp]
    by_cases h : 0 < k ∧ a * w % T ≠ 0
    · rw [if_pos h, if_pos ⟨h.1, (rem_scale hp).mpr h.2⟩, deal_scale hp (k - 1) ws]
    · rw [if_neg h, if_neg (fun z => h ⟨z.1, (rem_scale hp).mp z.2⟩), deal_scale hp k ws]
theorem bases_scale {a T p : Int} (hp : 0 < p) (ws : List Int) : bases a (p * T) (ws.map (p * ·)) = bases a T ws := by
  unfold bases
  rw [List.map_map]
  apply List.map_congr_left
  intro w _
  exact part_scale hp
theorem dealt_scale {a p : Int} (hp : 0 < p) (ws : List Int) : dealt a (ws.map (p * ·)) = dealt a ws := by
  unfold dealt
  rw [sum_scale, bases_scale hp, deal_scale hp]
theorem dealt_like {a p q : Int} (hp : 0 < p) (hq : 0 < q) {ws ws' : List Int} (h : ws.map (p * ·) = ws'.map (q * ·)) : dealt a ws = dealt a ws' := by
  rw [← dealt_scale hp ws, h, dealt_scale hq]
/-! ### weights of fractions -/
def lcmF : Int → List (Int × Int) → Int
  | b, [] => b
  | b, f :: fs => lcmF (b / (Int.gcd b f.2 : Int) * f.2) fs
def wts (L : Int) (fs : List (Int × Int)) : List Int := fs.map fun f => f.1 * (L / f.2)
def wtsOf (fs : List (Int × Int)) : List Int := wts (lcmF 1 fs) fs
structure Lcm (b L : Int) (fs : List (Int × Int)) : Prop where
  pos : 0 < L
  dvd : b ∣ L
  all : ∀ f ∈ fs, f.2 ∣ L
theorem step_lcm {b d : Int} (hb : 0 < b) (hd : 0 < d) : 0 < b / (Int.gcd b d : Int) * d ∧ b ∣ b / (Int.gcd b d : Int) * d ∧ d ∣ b / (Int.gcd b d : Int) * d := by
  have g0 : (0 : Int) < (Int.gcd b d : Int) := by
    have : Int.gcd b d ≠ 0 := fun z => by
      have := (Int.gcd_eq_zero_iff.mp z).1
      omega
    omega
  obtain ⟨x, hx⟩ := Int.gcd_dvd_left b d
  obtain ⟨y, hy⟩ := Int.gcd_dvd_right b d
  generalize hg : (Int.gcd b d : Int) = g at *
  have e : b / g = x := by rw [hx]; exact Int.mul_ediv_cancel_left x (by omega)
  have xp : 0 < x := by
    rcases Int.lt_or_le 0 x with h | h
    · exact h
    · have : g * x ≤ 0 := Int.mul_nonpos_of_nonneg_of_nonpos (by omega) h
      omega
  rw [e]
  refine ⟨Int.mul_pos xp hd, ⟨y, ?_⟩, ⟨x, Int.mul_comm _ _⟩⟩
  rw [hy, hx, ← Int.mul_assoc, Int.mul_comm x g]
theorem lcm_is : ∀ (fs : List (Int × Int)) (b : Int), 0 < b → (∀ f ∈ fs, 0 < f.2) → Lcm b (lcmF b fs) fs
  | [], b, hb, _ => ⟨hb, Int.dvd_refl b, fun f h => by cases h⟩
  | f :: fs, b, hb, h => by
    have hd := h f List.mem_cons_self
    have ⟨s1, s2, s3⟩ := step_lcm hb hd
    have ih := lcm_is fs _ s1 (fun g hg => h g (List.mem_cons_of_mem _ hg))
    refine ⟨ih.pos, Int.dvd_trans s2 ih.dvd, fun g hg => ?_⟩
    rcases List.mem_cons.mp hg with rfl | hg
    · exact Int.dvd_trans s3 ih.dvd
    · exact ih.all g hg
theorem wt_eq {L t d : Int} (h : d ∣ L) : t * (L / d) * d = t * L := by
  rw [Int.mul_assoc, Int.ediv_mul_cancel h]
/-- two rows of fractions that stand as B to A -/
theorem wts_like {A B L L' : Int} (hA : 0 < A) (hB : 0 < B) : ∀ (fs fs' : List (Int × Int)), fs.length = fs'.length → (∀ f ∈ fs, 0 < f.2 ∧ f.2 ∣ L) → (∀ f ∈ fs', 0 < f.2 ∧ f.2 ∣ L') →
    (∀ (i : Nat) (f f' : Int × Int), fs[i]? = some f → fs'[i]? = some f' → f'.1 * f.2 * B = f.1 * A * f'.2) → (wts L fs).map (A * L' * ·) = (wts L' fs').map (B * L * ·)
  | [], [], _, _, _, _ => rfl
  | f :: fs, f' :: fs', hl, h1, h2, h3 => by
    have ih := wts_like (L := L) (L' := L') hA hB fs fs' (by simpa using hl) (fun g hg => h1 g (List.mem_cons_of_mem _ hg)) (fun g hg => h2 g (List.mem_cons_of_mem _ hg)) (fun i g g' a b => h3 (i + 1) g g' (by simpa using a) (by simpa using b))
    have e := h3 0 f f' rfl rfl
    have ⟨p1, d1⟩ := h1 f List.mem_cons_self
    have ⟨p2, d2⟩ := h2 f' List.mem_cons_self
    unfold wts at *
    rw [List.map_cons, List.map_cons, List.map_cons, List.map_cons, ih]
    congr 1
    have w1 := wt_eq (t := f.1) d1
    have w2 := wt_eq (t := f'.1) d2
    generalize f.1 * (L / f.2) = w at *
    generalize f'.1 * (L' / f'.2) = w' at *
    have ne : f.2 * f'.2 ≠ 0 := Int.ne_of_gt (Int.mul_pos p1 p2)
    apply Int.eq_of_mul_eq_mul_right ne
    have l1 : A * L' * w * (f.2 * f'.2) = (w * f.2) * (A * L' * f'.2) := by
      ac_rfl
    have l2 : B * L * w' * (f.2 * f'.2) = (w' * f'.2) * (B * L * f.2) := by
      ac_rfl
    rw [l1, l2, w1, w2]
    have l3 : f.1 * L * (A * L' * f'.2) = (f.1 * A * f'.2) * (L * L') := by ac_rfl
    have l4 : f'.1 * L' * (B * L * f.2) = (f'.1 * f.2 * B) * (L * L') := by ac_rfl
    rw [l3, l4, e]
theorem dealt_frac {a A B : Int} (hA : 0 < A) (hB : 0 < B) {fs fs' : List (Int × Int)} (hl : fs.length = fs'.length) (h1 : ∀ f ∈ fs, 0 < f.2) (h2 : ∀ f ∈ fs', 0 < f.2)
    (h3 : ∀ (i : Nat) (f f' : Int × Int), fs[i]? = some f → fs'[i]? = some f' → f'.1 * f.2 * B = f.1 * A * f'.2) : dealt a (wtsOf fs) = dealt a (wtsOf fs') := by
  have c1 := lcm_is fs 1 (by decide) h1
  have c2 := lcm_is fs' 1 (by decide) h2
  exact dealt_like (Int.mul_pos hA c2.pos) (Int.mul_pos hB c1.pos) (wts_like hA hB fs fs' hl (fun f hf => ⟨h1 f hf, c1.all f hf⟩) (fun f hf => ⟨h2 f hf, c2.all f hf⟩) h3)
theorem wtsOf_sum_pos {fs : List (Int × Int)} (h1 : ∀ f ∈ fs, 0 ≤ f.1 ∧ 0 < f.2) (h2 : ∃ f ∈ fs, 0 < f.1) : 0 < (wtsOf fs).sum ∧ ∀ w ∈ wtsOf fs, 0 ≤ w := by
  have c := lcm_is fs 1 (by decide) (fun f hf => (h1 f hf).2)
  unfold wtsOf
  generalize lcmF 1 fs = L at *
  have q : ∀ f ∈ fs, 0 < L / f.2 := fun f hf => Int.ediv_pos_of_pos_of_dvd c.pos (Int.le_of_lt (h1 f hf).2) (c.all f hf)
  clear c
  have nn : ∀ w ∈ wts L fs, 0 ≤ w := fun w hw => by
    unfold wts at hw
    obtain ⟨f, hf, rfl⟩ := List.mem_map.mp hw
    exact Int.mul_nonneg (h1 f hf).1 (Int.le_of_lt (q f hf))
  refine ⟨?_, nn⟩
  induction fs with
  | nil => obtain ⟨f, hf, _⟩ := h2; cases hf
  | cons g fs ih =>
    unfold wts
    rw [List.map_cons, List.sum_cons]
    have g0 : 0 ≤ g.1 * (L / g.2) := nn _ (by unfold wts; rw [List.map_cons]; exact List.mem_cons_self)
    have rest : ∀ (xs : List Int), (∀ w ∈ xs, 0 ≤ w) → 0 ≤ xs.sum := fun xs => by
      induction xs with
      | nil => intro _; exact Int.le_refl 0
      | cons x xs ihx =>
        intro hx
        rw [List.sum_cons]
        have a := hx x List.mem_cons_self
        have b := ihx (fun w hw => hx w (List.mem_cons_of_mem _ hw))
        omega
    have r0 : 0 ≤ (fs.map fun f => f.1 * (L / f.2)).sum := rest _ (fun w hw => nn w (by unfold wts; rw [List.map_cons]; exact List.mem_cons_of_mem _ hw))
    obtain ⟨f, hf, hp⟩ := h2
    rcases List.mem_cons.mp hf with rfl | hf
    · have := Int.mul_pos hp (q f List.mem_cons_self)
      omega
    · have ih2 := ih (fun f hf => h1 f (List.mem_cons_of_mem _ hf)) ⟨f, hf, hp⟩ (fun f hf => q f (List.mem_cons_of_mem _ hf)) (fun w hw => nn w (by unfold wts at *; rw [List.map_cons]; exact List.mem_cons_of_mem _ hw))
      unfold wts at ih2
      omega
theorem wtsOf_len (fs : List (Int × Int)) : (wtsOf fs).length = fs.length := by unfold wtsOf wts; rw [List.length_map]
/-! ### whole shares -/
theorem lcm_whole : ∀ fs : List (Int × Int), (∀ f ∈ fs, f.2 = 1) → lcmF 1 fs = 1
  | [], _ => rfl
  | f :: fs, h => by
    unfold lcmF
    rw [h f List.mem_cons_self]
    show lcmF (1 / (Int.gcd 1 1 : Int) * 1) fs = 1
    rw [show (1 : Int) / (Int.gcd 1 1 : Int) * 1 = 1 by decide]
    exact lcm_whole fs (fun g hg => h g (List.mem_cons_of_mem _ hg))
theorem wtsOf_whole (ts : List Int) : wtsOf (ts.map fun t => (t, 1)) = ts := by
  unfold wtsOf
  rw [lcm_whole _ (fun f hf => by obtain ⟨t, _, rfl⟩ := List.mem_map.mp hf; rfl)]
  unfold wts
  rw [List.map_map]
  have e : ((fun f : Int × Int => f.1 * (1 / f.2)) ∘ fun t : Int => (t, (1 : Int))) = id := by
    funext t
    show t * (1 / 1) = t
    rw [show (1 : Int) / 1 = 1 by decide, Int.mul_one]
  rw [e, List.map_id]
theorem deal_self {T : Int} (hT : 0 < T) : ∀ (k : Int) (ws : List Int), deal T T k ws = ws
  | _, [] => rfl
  | k, w :: ws => by
    unfold deal
    have e : T * w % T = 0 := Int.mul_emod_right T w
    rw [if_neg (fun z => z.2 e), Int.mul_ediv_cancel_left w (by omega), deal_self hT k ws]
theorem dealt_self {ws : List Int} (hT : 0 < ws.sum) : dealt ws.sum ws = ws := deal_self hT _ _
theorem deal_more {a T t : Int} (hT : 0 < T) : ∀ (k : Int) (ws : List Int), deal (a + t * T) T k ws = List.zipWith (fun p w => p + t * w) (deal a T k ws) ws
  | _, [] => rfl
  | k, w :: ws => by
    have e : (a + t * T) * w = a * w + T * (t * w) := by
      rw [Int.add_mul]
      congr 1
      ac_rfl
    have e1 : (a + t * T) * w / T = a * w / T + t * w := by
      rw [e, Int.add_mul_ediv_left _ _ (by omega)]
    have e2 : (a + t * T) * w % T = a * w % T := by
      rw [e, Int.add_mul_emod_self_left]
    unfold deal
    rw [e1, e2]
    by_cases h : 0 < k ∧ a * w % T ≠ 0
    · rw [if_pos h, if_pos h, deal_more hT (k - 1) ws, List.zipWith_cons_cons]
      congr 1
      omega
    · rw [if_neg h, if_neg h, deal_more hT k ws, List.zipWith_cons_cons]
theorem bases_more {a T t : Int} (hT : 0 < T) : ∀ ws : List Int, (bases (a + t * T) T ws).sum = (bases a T ws).sum + t * ws.sum
  | [] => by
    show (0 : Int) = 0 + t * 0
    simp
  | w :: ws => by
    have ih := bases_more (a := a) (t := t) hT ws
    have e : (a + t * T) * w = a * w + T * (t * w) := by
      rw [Int.add_mul]
      congr 1
      ac_rfl
    have e1 : (a + t * T) * w / T = a * w / T + t * w := by
      rw [e, Int.add_mul_ediv_left _ _ (by omega)]
    unfold bases at *
    rw [List.map_cons, List.map_cons, List.sum_cons, List.sum_cons, List.sum_cons, ih, e1, Int.mul_add]
    omega
theorem dealt_more {a t : Int} {ws : List Int} (hT : 0 < ws.sum) : dealt (a + t * ws.sum) ws = List.zipWith (fun p w => p + t * w) (dealt a ws) ws := by
  unfold dealt
  rw [bases_more hT, deal_more hT]
  congr 2
  omega
/-! ### noughts between -/
def trues : Nat → List Bool → List Nat
  | _, [] => []
  | n, true :: r => n :: trues (n + 1) r
  | n, false :: r => trues (n + 1) r
theorem trues_append : ∀ (a b : List Bool) (n : Nat), trues n (a ++ b) = trues n a ++ trues (n + a.length) b
  | [], b, n => by simp [trues]
  | true :: a, b, n => by
    have := trues_append a b (n + 1)
    simp only [List.cons_append, trues, this, List.length_cons]
    rw [show n + 1 + a.length = n + (a.length + 1) by omega]
  | false :: a, b, n => by
    have := trues_append a b (n + 1)
    simp only [List.cons_append, trues, this, List.length_cons]
    rw [show n + 1 + a.length = n + (a.length + 1) by omega]
theorem trues_false : ∀ (z n : Nat), trues n (List.replicate z false) = []
  | 0, n => rfl
  | z + 1, n => by rw [List.replicate_succ]; exact trues_false z (n + 1)
theorem trues_mem : ∀ (m : List Bool) (n q : Nat), q ∈ trues n m ↔ n ≤ q ∧ m[q - n]? = some true
  | [], n, q => by simp [trues]
  | true :: m, n, q => by
    have ih := trues_mem m (n + 1) q
    simp only [trues, List.mem_cons, ih]
    constructor
    · rintro (rfl | ⟨h1, h2⟩)
      · simp
      · refine ⟨by omega, ?_⟩
        rw [show q - n = (q - (n + 1)) + 1 by omega]
        simpa using h2
    · rintro ⟨h1, h2⟩
      by_cases e : q = n
      · exact .inl e
      · right
        refine ⟨by omega, ?_⟩
        rw [show q - n = (q - (n + 1)) + 1 by omega] at h2
        simpa using h2
  | false :: m, n, q => by
    have ih := trues_mem m (n + 1) q
    simp only [trues, ih]
    constructor
    · rintro ⟨h1, h2⟩
      refine ⟨by omega, ?_⟩
      rw [show q - n = (q - (n + 1)) + 1 by omega]
      simpa using h2
    · rintro ⟨h1, h2⟩
      by_cases e : q = n
      · subst e
        simp at h2
      · refine ⟨by omega, ?_⟩
        rw [show q - n = (q - (n + 1)) + 1 by omega] at h2
        simpa using h2
theorem trues_lt {m : List Bool} {q : Nat} (h : q ∈ trues 0 m) : q < m.length := by
  have := ((trues_mem m 0 q).mp h).2
  rw [Nat.sub_zero] at this
  exact (List.getElem?_eq_some_iff.mp this).1
/-- what stands at the marked places -/
theorem trues_pick : ∀ (m : List (Bool × Int)) (pre : List Int), (trues pre.length (m.map (·.1))).map (fun p => (pre ++ m.map (·.2)).getD p 0) = (m.filter (·.1)).map (·.2)
  | [], pre => rfl
  | (true, v) :: m, pre => by
    have ih := trues_pick m (pre ++ [v])
    simp only [List.length_append, List.length_cons, List.length_nil, List.append_assoc, List.cons_append, List.nil_append] at ih
    simp only [List.map_cons, trues, List.filter_cons, if_true]
    rw [show pre.length + 1 = pre.length + (0 + 1) by omega, ih]
    congr 1
    simp [List.getD]
  | (false, v) :: m, pre => by
    have ih := trues_pick m (pre ++ [v])
    simp only [List.length_append, List.length_cons, List.length_nil, List.append_assoc, List.cons_append, List.nil_append] at ih
    simp only [List.map_cons, trues, List.filter_cons]
    rw [show pre.length + 1 = pre.length + (0 + 1) by omega, ih]
    simp
def Naught (m : List (Bool × Int)) : Prop := ∀ x ∈ m, x.1 = false → x.2 = 0
theorem sum_naught : ∀ m : List (Bool × Int), Naught m → (m.map (·.2)).sum = ((m.filter (·.1)).map (·.2)).sum
  | [], _ => rfl
  | (true, v) :: m, h => by
    have ih := sum_naught m (fun x hx => h x (List.mem_cons_of_mem _ hx))
    simp only [List.map_cons, List.sum_cons, List.filter_cons, if_true, ih]
  | (false, v) :: m, h => by
    have ih := sum_naught m (fun x hx => h x (List.mem_cons_of_mem _ hx))
    have e : v = 0 := h _ List.mem_cons_self rfl
    subst e
    simp only [List.map_cons, List.sum_cons, List.filter_cons, ih]
    simp
/-- the pennies with their marks -/
def marked (a T : Int) : Int → List (Bool × Int) → List (Bool × Int)
  | _, [] => []
  | k, (b, w) :: m => if 0 < k ∧ a * w % T ≠ 0 then (b, a * w / T + 1) :: marked a T (k - 1) m else (b, a * w / T) :: marked a T k m
theorem marked_snd (a T : Int) : ∀ (k : Int) (m : List (Bool × Int)), (marked a T k m).map (·.2) = deal a T k (m.map (·.2))
  | _, [] => rfl
  | k, (b, w) :: m => by
    unfold marked
    rw [List.map_cons]
    unfold deal
    split
    · rw [List.map_cons, marked_snd a T (k - 1) m]
    · rw [List.map_cons, marked_snd a T k m]
theorem marked_fst (a T : Int) : ∀ (k : Int) (m : List (Bool × Int)), (marked a T k m).map (·.1) = m.map (·.1)
  | _, [] => rfl
  | k, (b, w) :: m => by
    unfold marked
    rw [List.map_cons]
    split
    · rw [List.map_cons, marked_fst a T (k - 1) m]
    · rw [List.map_cons, marked_fst a T k m]
theorem marked_pick (a T : Int) : ∀ (k : Int) (m : List (Bool × Int)), Naught m → ((marked a T k m).filter (·.1)).map (·.2) = deal a T k ((m.filter (·.1)).map (·.2))
  | _, [], _ => rfl
  | k, (true, w) :: m, h => by
    have ih := fun k => marked_pick a T k m (fun x hx => h x (List.mem_cons_of_mem _ hx))
    unfold marked
    simp only [List.filter_cons, if_true, List.map_cons]
    unfold deal
    split
    · simp only [List.filter_cons, if_true, List.map_cons, ih]
    · simp only [List.filter_cons, if_true, List.map_cons, ih]
  | k, (false, w) :: m, h => by
    have ih := fun k => marked_pick a T k m (fun x hx => h x (List.mem_cons_of_mem _ hx))
    have e : w = 0 := h _ List.mem_cons_self rfl
    subst e
    unfold marked
    have e0 : a * 0 % T = 0 := by rw [Int.mul_zero, Int.zero_emod]
    rw [if_neg (fun z => z.2 e0)]
    simp [List.filter_cons, ih]
theorem marked_naught (a T : Int) : ∀ (k : Int) (m : List (Bool × Int)), Naught m → Naught (marked a T k m)
  | _, [], _ => fun x hx => by cases hx
  | k, (b, w) :: m, h => by
    have ih := fun k => marked_naught a T k m (fun x hx => h x (List.mem_cons_of_mem _ hx))
    have h0 := h _ List.mem_cons_self
    unfold marked
    split
    · rename_i hc
      intro x hx hf
      rcases List.mem_cons.mp hx with rfl | hx
      · have e : w = 0 := h0 hf
        subst e
        exact absurd (by rw [Int.mul_zero, Int.zero_emod]) hc.2
      · exact ih _ x hx hf
    · intro x hx hf
      rcases List.mem_cons.mp hx with rfl | hx
      · have e : w = 0 := h0 hf
        subst e
        show a * 0 / T = 0
        rw [Int.mul_zero, Int.zero_ediv]
      · exact ih _ x hx hf
theorem bases_naught (a T : Int) (m : List (Bool × Int)) (h : Naught m) : (bases a T (m.map (·.2))).sum = (bases a T ((m.filter (·.1)).map (·.2))).sum := by
  have e := sum_naught (m.map fun x => (x.1, a * x.2 / T)) (fun x hx hf => by
    obtain ⟨y, hy, rfl⟩ := List.mem_map.mp hx
    have : y.2 = 0 := h y hy hf
    show a * y.2 / T = 0
    rw [this, Int.mul_zero, Int.zero_ediv])
  unfold bases
  simp only [List.map_map, List.filter_map] at *
  exact e
/-- the pennies of a row with noughts between -/
theorem dealt_naught (a : Int) (m : List (Bool × Int)) (h : Naught m) : ∃ m' : List (Bool × Int), m'.map (·.2) = dealt a (m.map (·.2)) ∧ m'.map (·.1) = m.map (·.1) ∧ Naught m' ∧ (m'.filter (·.1)).map (·.2) = dealt a ((m.filter (·.1)).map (·.2)) := by
  refine ⟨marked a (m.map (·.2)).sum (a - (bases a (m.map (·.2)).sum (m.map (·.2))).sum) m, marked_snd .., marked_fst .., marked_naught _ _ _ _ h, ?_⟩
  rw [marked_pick _ _ _ _ h, bases_naught _ _ _ h, sum_naught m h]
  rfl
end WdM

set_option Elab.async false
set_option linter.all false
set_option maxRecDepth 100000
set_option maxHeartbeats 4000000
namespace Wd
open PySem PySem.Spec PyProof.Rows L2 WdM
/-! ### heaps: all but some addresses stand -/
def Bt (S : List Addr) (H H' : Hp) : Prop := ∀ b o, b ∉ S → H b = some o → H' b = some o
theorem Bt.refl {S : List Addr} (H : Hp) : Bt S H H := fun _ _ _ h => h
theorem Bt.trans {S : List Addr} {H H1 H2 : Hp} (a : Bt S H H1) (b : Bt S H1 H2) : Bt S H H2 := fun c o n h => b c o n (a c o n h)
theorem Bt.of_same {S : List Addr} {H H' : Hp} (e : Same H H') : Bt S H H' := fun b o _ h => e b o h
theorem Bt.same {H H' : Hp} (e : Bt [] H H') : Same H H' := fun b o h => e b o (by simp) h
theorem Bt.wide {S T : List Addr} {H H' : Hp} (h : ∀ a ∈ S, a ∈ T) (e : Bt S H H') : Bt T H H' := fun b o n q => e b o (fun z => n (h b z)) q
theorem Bt.new {S : List Addr} {H H1 : Hp} {p : Addr} {o : HO} (e : Bt S H H1) (h : H1 p = none) : Bt S H (upd H1 p o) := fun b x n q => by
  have q1 := e b x n q
  rw [upd_ne (ne_of_none q1 h)]
  exact q1
theorem Bt.upd0 {S : List Addr} {H H1 : Hp} {p : Addr} {o : HO} (e : Bt S H H1) (h : H p = none) : Bt S H (upd H1 p o) := fun b x n q => by
  rw [upd_ne (ne_of_none q h)]
  exact e b x n q
theorem Bt.upd1 {S : List Addr} {H H1 : Hp} {p : Addr} {o : HO} (e : Bt S H H1) (h : p ∈ S) : Bt S H (upd H1 p o) := fun b x n q => by
  rw [upd_ne (fun z => n (by rw [z]; exact h))]
  exact e b x n q
theorem Bt.none {S : List Addr} {H H' : Hp} (e : Bt S H H') {p : Addr} (hS : p ∉ S) (h : H' p = none) : H p = none := by
  cases q : H p with
  | none => rfl
  | some o => rw [e p o hS q] at h; cases h
/-! ### tuples stand where lists change -/
def Tk (H H' : Hp) : Prop := ∀ a xs, Rd H a (.tup xs) → Rd H' a (.tup xs)
theorem Tk.refl (H : Hp) : Tk H H := fun _ _ h => h
theorem Tk.trans {H H1 H2 : Hp} (a : Tk H H1) (b : Tk H1 H2) : Tk H H2 := fun c xs h => b c xs (a c xs h)
theorem Tk.sq {K : PySem.W.Frag} {H H' : Hp} {a : Addr} {xs : List V} (t : Tk H H') (h : SqT K H a xs) : SqT K H' a xs := by
  rcases h with h | h
  · exact .inl (t _ _ h)
  · exact .inr h
theorem Bt.tk {S : List Addr} {H H' : Hp} (e : Bt S H H') (h : ∀ l ∈ S, ∃ zs, H l = some (.lst zs)) : Tk H H' := fun a xs r => by
  rcases r with r | ⟨o, r⟩
  · refine .inl (e a _ (fun z => ?_) r)
    obtain ⟨zs, q⟩ := h a z
    rw [q] at r; cases r
  · refine .inr ⟨o, e a _ (fun z => ?_) r⟩
    obtain ⟨zs, q⟩ := h a z
    rw [q] at r; cases r
theorem tk_same {H H' : Hp} (e : Same H H') : Tk H H' := (Bt.of_same (S := []) e).tk (fun l h => by cases h)
theorem tk_new {H : Hp} {p : Addr} {o : HO} (h : H p = none) : Tk H (upd H p o) := tk_same ((Bt.refl (S := []) H).new h).same
theorem tk_lst {H : Hp} {p : Addr} {zs : List V} {o : HO} (h : H p = some (.lst zs)) : Tk H (upd H p o) := ((Bt.refl (S := [p]) H).upd1 (by simp)).tk (fun l hl => by
  rw [List.mem_singleton.mp hl]; exact ⟨zs, h⟩)
theorem sqT {K : PySem.W.Frag} {H : Hp} {a : Addr} {xs : List V} (h : H a = some (.tup xs)) : SqT K H a xs := .inl (.inl h)
theorem sqL {K : PySem.W.Frag} {H : Hp} {a : Addr} {xs : List V} (h : H a = some (.lst xs)) : SqL K H a xs := .inl (.inl h)
theorem same_new {H : Hp} {p : Addr} {o : HO} (h : H p = none) : Same H (upd H p o) := ((Bt.refl (S := []) H).new h).same
/-! ### fractions in the heap -/
def Fr (K : PySem.W.Frag) (H : Hp) (v : V) (f : Int × Int) : Prop := ∃ a, v = .ref a ∧ SqT K H a [.int f.1, .int f.2]
def FrAll (K : PySem.W.Frag) (H : Hp) (xs : List V) (fs : List (Int × Int)) : Prop := xs.length = fs.length ∧ ∀ (i : Nat) (x : V) (f : Int × Int), xs[i]? = some x → fs[i]? = some f → Fr K H x f
def Sh (K : PySem.W.Frag) (H : Hp) (v : V) (fs : List (Int × Int)) : Prop := ∃ a xs, v = .ref a ∧ SqT K H a xs ∧ FrAll K H xs fs
theorem Fr.tk {K : PySem.W.Frag} {H H' : Hp} {v : V} {f : Int × Int} (t : Tk H H') (h : Fr K H v f) : Fr K H' v f := by
  obtain ⟨a, e, s⟩ := h
  exact ⟨a, e, t.sq s⟩
theorem FrAll.tk {K : PySem.W.Frag} {H H' : Hp} {xs : List V} {fs : List (Int × Int)} (t : Tk H H') (h : FrAll K H xs fs) : FrAll K H' xs fs := ⟨h.1, fun i x f a b => (h.2 i x f a b).tk t⟩
theorem Sh.tk {K : PySem.W.Frag} {H H' : Hp} {v : V} {fs : List (Int × Int)} (t : Tk H H') (h : Sh K H v fs) : Sh K H' v fs := by
  obtain ⟨a, xs, e, s, q⟩ := h
  exact ⟨a, xs, e, t.sq s, q.tk t⟩
theorem FrAll.nil {K : PySem.W.Frag} {H : Hp} : FrAll K H [] [] := ⟨rfl, fun i x f a _ => by simp at a⟩
theorem FrAll.append {K : PySem.W.Frag} {H : Hp} {xs ys : List V} {fs gs : List (Int × Int)} (h : FrAll K H xs fs) (h' : FrAll K H ys gs) : FrAll K H (xs ++ ys) (fs ++ gs) := by
  refine ⟨by rw [List.length_append, List.length_append, h.1, h'.1], fun i x f a b => ?_⟩
  by_cases hi : i < xs.length
  · rw [List.getElem?_append_left hi] at a
    rw [List.getElem?_append_left (by rw [← h.1]; exact hi)] at b
    exact h.2 i x f a b
  · rw [List.getElem?_append_right (by omega)] at a
    rw [List.getElem?_append_right (by rw [← h.1]; omega)] at b
    exact h'.2 (i - xs.length) x f a (by rw [h.1]; exact b)
theorem FrAll.one {K : PySem.W.Frag} {H : Hp} {x : V} {f : Int × Int} (h : Fr K H x f) : FrAll K H [x] [f] := ⟨rfl, fun i y g a b => by
  cases i with
  | zero => cases a; cases b; exact h
  | succ i => simp at a⟩
theorem FrAll.snoc {K : PySem.W.Frag} {H : Hp} {xs : List V} {fs : List (Int × Int)} {x : V} {f : Int × Int} (h : FrAll K H xs fs) (h' : Fr K H x f) : FrAll K H (xs ++ [x]) (fs ++ [f]) := h.append (.one h')
theorem FrAll.reverse {K : PySem.W.Frag} {H : Hp} {xs : List V} {fs : List (Int × Int)} (h : FrAll K H xs fs) : FrAll K H xs.reverse fs.reverse := by
  refine ⟨by rw [List.length_reverse, List.length_reverse, h.1], fun i x f a b => ?_⟩
  have hi : i < xs.length := by
    have := (List.getElem?_eq_some_iff.mp a).1
    rwa [List.length_reverse] at this
  rw [List.getElem?_reverse hi] at a
  rw [List.getElem?_reverse (by rw [← h.1]; exact hi), ← h.1] at b
  exact h.2 _ x f a b
theorem FrAll.drop {K : PySem.W.Frag} {H : Hp} {xs : List V} {fs : List (Int × Int)} (n : Nat) (h : FrAll K H xs fs) : FrAll K H (xs.drop n) (fs.drop n) := by
  refine ⟨by rw [List.length_drop, List.length_drop, h.1], fun i x f a b => ?_⟩
  rw [List.getElem?_drop] at a b
  exact h.2 _ x f a b
theorem FrAll.get {K : PySem.W.Frag} {H : Hp} {xs : List V} {fs : List (Int × Int)} {i : Nat} {x : V} (h : FrAll K H xs fs) (e : xs[i]? = some x) : ∃ f p, fs[i]? = some f ∧ x = .ref p ∧ SqT K H p [.int f.1, .int f.2] := by
  have hi : i < fs.length := by
    rw [← h.1]
    exact (List.getElem?_eq_some_iff.mp e).1
  obtain ⟨p, rfl, s⟩ := h.2 i x _ e (List.getElem?_eq_getElem hi)
  exact ⟨_, p, List.getElem?_eq_getElem hi, rfl, s⟩
/-! ### ints of lists by place -/
theorem ints_get {ns : List Int} {i : Nat} {x : V} (h : (ns.map V.int)[i]? = some x) : ∃ n, ns[i]? = some n ∧ x = .int n := by
  rw [List.getElem?_map] at h
  cases e : ns[i]? with
  | none => rw [e] at h; cases h
  | some n => rw [e] at h; exact ⟨n, rfl, (Option.some.inj h).symm⟩
theorem take_more {α : Type} {l : List α} {i : Nat} {x : α} (h : l[i]? = some x) : l.take (i + 1) = l.take i ++ [x] := by
  rw [List.take_add_one, h]
  rfl
theorem lt_get {α : Type} {l : List α} {i : Nat} {x : α} (h : l[i]? = some x) : i < l.length := (List.getElem?_eq_some_iff.mp h).1
theorem small_line {n m : Nat} (h : n ≤ m) (hm : m ≤ 1000 := by decide) : n ≤ sizeLine := Nat.le_of_lt (small1000 (Nat.le_trans h hm))
/-! ### Euclid -/
theorem gcd_step {a b : Int} (ha : 0 ≤ a) (hb : 0 ≤ b) : Int.gcd b (a % b) = Int.gcd a b := by
  obtain ⟨m, rfl⟩ := Int.eq_ofNat_of_zero_le ha
  obtain ⟨n, rfl⟩ := Int.eq_ofNat_of_zero_le hb
  show Nat.gcd n (((m : Int) % (n : Int))).natAbs = Nat.gcd m n
  rw [← Int.natCast_emod, Int.natAbs_natCast, Nat.gcd_comm n, ← Nat.gcd_rec, Nat.gcd_comm]
theorem gcd_end {a : Int} (ha : 0 ≤ a) : (Int.gcd a 0 : Int) = a := by
  rw [Int.gcd_zero_right]
  omega
theorem canLay_ints : ∀ ns : List Int, PyData.canLayAll0 (ns.map .int) = true
  | [] => by simp [PyData.canLayAll0]
  | n :: ns => by
    rw [List.map_cons]
    unfold PyData.canLayAll0
    rw [canLay_ints ns]
    simp [PyData.canLay0]
theorem depth_ints : ∀ ns : List Int, PyData.depthAll (ns.map .int) = 0
  | [] => by simp [PyData.depthAll]
  | n :: ns => by
    rw [List.map_cons]
    unfold PyData.depthAll
    rw [depth_ints ns]
    simp [PyData.depth]
theorem eqv_ints : ∀ ns : List Int, PyData.eqvAll (ns.map .int) (ns.map .int) = true
  | [] => by simp [PyData.eqvAll]
  | n :: ns => by
    rw [List.map_cons]
    unfold PyData.eqvAll
    rw [eqv_ints ns]
    simp [PyData.eqv]
theorem shT (ns : List Int) : SeqAt.shaped (.tuple (ns.map .int)) = true := by
  unfold SeqAt.shaped PyData.canLay0 PyData.depth
  rw [canLay_ints, depth_ints]
  rfl
theorem shL (ns : List Int) : SeqAt.shaped (.list (ns.map .int)) = true := by
  unfold SeqAt.shaped PyData.canLay0 PyData.depth
  rw [canLay_ints, depth_ints]
  rfl
theorem eqvT (ns : List Int) : PyData.eqv (.tuple (ns.map .int)) (.tuple (ns.map .int)) = true := by
  unfold PyData.eqv
  exact eqv_ints ns
theorem eqvL (ns : List Int) : PyData.eqv (.list (ns.map .int)) (.list (ns.map .int)) = true := by
  unfold PyData.eqv
  exact eqv_ints ns
theorem dInts {K : PySem.W.Frag} {H : Hp} : ∀ ns : List Int, DpAll K H (ns.map V.int) (ns.map PyData.int)
  | [] => .nil
  | n :: ns => .cons (.int n) (dInts ns)
theorem dT {K : PySem.W.Frag} {H : Hp} {a : Addr} {ns : List Int} (h : SqT K H a (ns.map V.int)) : Dp K H (.ref a) (.tuple (ns.map .int)) := .tup h (dInts ns)
theorem dL {K : PySem.W.Frag} {H : Hp} {a : Addr} {ns : List Int} (h : SqL K H a (ns.map V.int)) : Dp K H (.ref a) (.list (ns.map .int)) := .lst h (dInts ns)
theorem tyT {K : PySem.W.Frag} {H : Hp} {a : Addr} {xs : List V} (h : SqT K H a xs) : TyX K H (.ref a) (.type "tuple") := by
  rcases h with (h | ⟨o, h⟩) | ⟨o, its, n, e, c, _⟩
  · exact .base (.tup h)
  · exact .fTuple h
  · exact .kTuple e c
/-! ### sizes -/
theorem lcm_snoc : ∀ (fs : List (Int × Int)) (b : Int) (f : Int × Int), lcmF b (fs ++ [f]) = lcmF b fs / (Int.gcd (lcmF b fs) f.2 : Int) * f.2
  | [], b, f => rfl
  | g :: fs, b, f => lcm_snoc fs _ f
theorem gcd_pos {a b : Int} (h : 0 < b) : (0 : Int) < (Int.gcd a b : Int) := by
  have : Int.gcd a b ≠ 0 := fun z => by
    have := (Int.gcd_eq_zero_iff.mp z).2
    omega
  omega
theorem gcd_le {a b : Int} (h : 0 < b) : (Int.gcd a b : Int) ≤ b := Int.le_of_dvd h (Int.gcd_dvd_right a b)
theorem lcm_bound : ∀ (fs : List (Int × Int)) (b : Int) (m : Nat), 0 < b → b.natAbs < 2 ^ m → (∀ f ∈ fs, 0 < f.2 ∧ f.2.natAbs < 2 ^ 64) → (lcmF b fs).natAbs < 2 ^ (m + 64 * fs.length)
  | [], b, m, _, h, _ => h
  | f :: fs, b, m, hb, h, hf => by
    have ⟨f1, f2⟩ := hf f List.mem_cons_self
    have g0 := gcd_pos (a := b) f1
    have s := step_lcm hb f1
    have q : (b / (Int.gcd b f.2 : Int) * f.2).natAbs < 2 ^ (m + 64) := wide_lt (wide_le (Int.ediv_nonneg (Int.le_of_lt hb) (Int.le_of_lt g0)) (Int.ediv_le_self _ (Int.le_of_lt hb)) h) f2
    have ih := lcm_bound fs _ _ s.1 q (fun g hg => hf g (List.mem_cons_of_mem _ hg))
    rw [List.length_cons, show m + 64 * (fs.length + 1) = m + 64 + 64 * fs.length by omega]
    exact ih
theorem pow_le {a b : Nat} (h : a ≤ b) : 2 ^ a ≤ 2 ^ b := Nat.pow_le_pow_right (by decide) h
/-- shares that can be parted by -/
structure Good (fs : List (Int × Int)) : Prop where
  len0 : 1 ≤ fs.length
  len1 : fs.length ≤ 64
  each : ∀ f ∈ fs, 0 ≤ f.1 ∧ 0 < f.2 ∧ f.1.natAbs < 2 ^ 64 ∧ f.2.natAbs < 2 ^ 64 ∧ Int.gcd f.1 f.2 = 1
  some : ∃ f ∈ fs, 0 < f.1
theorem Good.pos {fs : List (Int × Int)} (g : Good fs) : ∀ f ∈ fs, 0 < f.2 := fun f hf => (g.each f hf).2.1
theorem Good.lcm {fs : List (Int × Int)} (g : Good fs) : Lcm 1 (lcmF 1 fs) fs := lcm_is fs 1 (by decide) g.pos
theorem Good.sum {fs : List (Int × Int)} (g : Good fs) : 0 < (wtsOf fs).sum ∧ ∀ w ∈ wtsOf fs, 0 ≤ w := wtsOf_sum_pos (fun f hf => ⟨(g.each f hf).1, (g.each f hf).2.1⟩) g.some
theorem Good.lcmB {fs : List (Int × Int)} (g : Good fs) : (lcmF 1 fs).natAbs < 2 ^ 4097 :=
  Nat.lt_of_lt_of_le (lcm_bound fs 1 1 (by decide) (by decide) (fun f hf => ⟨(g.each f hf).2.1, (g.each f hf).2.2.2.1⟩)) (pow_le (by have := g.len1; omega))
theorem Good.quo {fs : List (Int × Int)} (g : Good fs) : ∀ f ∈ fs, 0 ≤ lcmF 1 fs / f.2 ∧ (lcmF 1 fs / f.2).natAbs < 2 ^ 4097 := fun f hf => by
  have h0 : 0 ≤ lcmF 1 fs / f.2 := Int.ediv_nonneg (Int.le_of_lt g.lcm.pos) (Int.le_of_lt (g.pos f hf))
  exact ⟨h0, wide_le h0 (Int.ediv_le_self _ (Int.le_of_lt g.lcm.pos)) g.lcmB⟩
theorem Good.wB {fs : List (Int × Int)} (g : Good fs) : ∀ w ∈ wtsOf fs, w.natAbs < 2 ^ 4161 := fun w hw => by
  unfold wtsOf wts at hw
  obtain ⟨f, hf, rfl⟩ := List.mem_map.mp hw
  exact wide_lt (a := 64) (b := 4097) (g.each f hf).2.2.1 (g.quo f hf).2
theorem sum_abs {B : Nat} : ∀ ws : List Int, (∀ w ∈ ws, w.natAbs < B) → ws.sum.natAbs ≤ ws.length * B
  | [], _ => by simp
  | w :: ws, h => by
    have ih := sum_abs ws (fun x hx => h x (List.mem_cons_of_mem _ hx))
    have h0 := h w List.mem_cons_self
    rw [List.sum_cons, List.length_cons, Nat.add_mul, Nat.one_mul]
    have := Int.natAbs_add_le w ws.sum
    omega
theorem Good.sumB {fs : List (Int × Int)} (g : Good fs) : (wtsOf fs).sum.natAbs < 2 ^ 4168 := by
  have h := sum_abs (wtsOf fs) g.wB
  rw [wtsOf_len] at h
  have h1 := g.len1
  have h2 : fs.length * 2 ^ 4161 ≤ 64 * 2 ^ 4161 := Nat.mul_le_mul_right _ h1
  have h3 : 64 * 2 ^ 4161 < 2 ^ 4168 := by
    rw [show (4168 : Nat) = 7 + 4161 by rfl, Nat.pow_add]
    exact Nat.mul_lt_mul_of_pos_right (by decide) (Nat.pow_pos (by decide))
  exact Nat.lt_of_le_of_lt h (Nat.lt_of_le_of_lt h2 h3)
/-! ### a def of the text -/
structure Df (K : PySem.W.Frag) (mg : Str → Option Value) (name : Str) (st : Stmt) (f : Addr) (fd : FuncData) (ps : List Str) : Prop where
  fn : Fun K name name st f fd
  mg : mg name = some (.ref f)
  bd : Binds K fd ps []
end Wd

set_option Elab.async false
set_option linter.all false
set_option maxRecDepth 100000
set_option maxHeartbeats 4000000
namespace Wd
open PySem PySem.Spec PyProof.Rows L2 WdM
/-! ### an exception that was caught and is kept: tracked from then on -/
def ExT (a : Addr) (cls : Value) (d : Option Addr) : HO := .ext fun h => ∃ oe vs, h.get? a = some oe ∧ Zc cls d oe ∧ oe.data = .fields vs
theorem exT_ok {P : Program} {w : World} {H : Hp} {h : Heap} {a : Addr} {cls : Value} {d : Option Addr} {oe : Obj} {vs : Array Value} (g : h.get? a = some oe) (z : Zc cls d oe) (f : oe.data = .fields vs) : ObjOk P w H h a (ExT a cls d) :=
  ⟨⟨oe, vs, g, z, f⟩, ⟨oe, g⟩, fun _ _ ⟨oe, vs, e, r⟩ k => ⟨oe, vs, k _ e, r⟩⟩
theorem exT_at {P : Program} {w : World} {H : Hp} {h : Heap} {a : Addr} {cls : Value} {d : Option Addr} (ok : HOk P w H h) (e : H a = some (ExT a cls d)) : ∃ oe vs, h.get? a = some oe ∧ Zc cls d oe ∧ oe.data = .fields vs := by
  have x : ObjOk P w H h a (.ext fun h => ∃ oe vs, h.get? a = some oe ∧ Zc cls d oe ∧ oe.data = .fields vs) := ok a _ e
  exact x.1
section
variable {X : Cx} {pins : List (Addr × Obj)} {σ : L2.St} {H : Hp} {s : Shared}
theorem track {a : Addr} {oe : Obj} {vs : Array Value} {cls : Value} {d : Option Addr} (I : Inv X ((a, oe) :: pins) σ H s) (hx : X.ex = []) (n0 : X.s_0.heap.get? a = none) (np : ∀ p ∈ X.pn ++ pins, p.1 ≠ a) (z : Zc cls d oe) (f : oe.data = .fields vs) :
    Inv X pins σ (upd H a (ExT a cls d)) s := by
  obtain ⟨ga, na, nl, nf, nc⟩ := I.pin (a, oe) (List.mem_append_right _ List.mem_cons_self)
  have far : ∀ {b : Addr} {u : HO}, H b = some u → b ≠ a := fun {b u} e z => by rw [z, na] at e; cases e
  refine { ok := I.ok, os := I.os, bare := I.bare, loc := I.loc, cell := I.cell, len := I.len, base := ?_, free := ?_, freeC := ?_, pin := ?_, hok := ?_ }
  · exact { keep := I.base.keep, slot := I.base.slot, there := I.base.there,
            free := fun b o e n k => by
              rw [upd_ne (fun z => by rw [z, n0] at e; cases e)]
              exact I.base.free b o e n k
            tups := fun b xs e => by
              have q := I.base.tups b xs e
              rw [upd_ne (far q)]
              exact q
            frzs := fun b o u e => by
              have q := I.base.frzs b o u e
              rw [upd_ne (far q)]
              exact q
            tbls := fun b ps e => by
              obtain ⟨m, q⟩ := I.base.tbls b ps e
              exact ⟨m, by rw [upd_ne (far q)]; exact q⟩ }
  · rw [upd_ne (Ne.symm nl)]
    exact I.free
  · intro x c e
    rw [upd_ne (fun z => by
      obtain ⟨v, o, go, eo⟩ := I.cell x c e
      rw [z, ga] at go
      cases go
      exact nc _ eo)]
    exact I.freeC x c e
  · intro p hp
    obtain ⟨e1, e2, e3⟩ := I.pin p (by
      rcases List.mem_append.mp hp with h | h
      · exact List.mem_append_left _ h
      · exact List.mem_append_right _ (List.mem_cons_of_mem _ h))
    exact ⟨e1, by rw [upd_ne (np p hp)]; exact e2, e3⟩
  · intro b u e
    by_cases hb : b = a
    · subst hb
      rw [upd_same] at e
      cases e
      exact exT_ok ga z f
    · rw [upd_ne hb] at e
      exact (I.hok b u e).stay (fun _ _ _ q => q) (fun c q => by rw [upd_ne (far q)]; exact q) fun c xs q => by rw [upd_ne (far q)]; exact q
end
/-- what «except x as n» wishes, where what was caught is looked at behind the suite: all that is raised is of x, and the suite runs to its end -/
def wGot (K : PySem.W.Frag) (c : Value) (i : Nat) (ts : Addr → Value → Option Addr → TS) (D : Ends) : WX := fun cls d σ H =>
  PySem.W.exmOne K cls c = some true ∧ ∀ a, H a = none → ts a cls d { nx := fun σ' H' => D.nx (σ'.set i none) (upd H' a (ExT a cls d)), rt := fun _ _ => False, bk := fun _ _ => False, ct := fun _ _ => False } (σ.set i (some (.ref a))) H
section
variable {X : Cx} {x n : Str} {c : Value} {i : Nat} {body suite : List Stmt} {b0 : Stmt} {np pos pos' : Pos} {tb : WX → TS} {ts : Addr → Value → Option Addr → TS}
theorem ps_try_got (top : X.stack = X.env :: X.outer) (fr : X.env.frame = some X.env.locals) (hex : X.ex = []) (nd : X.N.Nodup) (hi : X.N[i]? = some n) (loc : X.env.kindOf n = some .local) (hc : Names X x c)
    (runs : ∀ (W : WX) (pn : List (Addr × Obj)) (xe : Value → Shared → Prop), Takes (X.tr pn xe) W → PassesOwn (model X.prog X.w) X.A X.env xe → PSs (X.tr pn xe) body (tb W))
    (hsu : ∀ (a : Addr) (oe : Obj) (cls : Value) (d : Option Addr) (pn : List (Addr × Obj)), Zc cls d oe → (∃ vs, oe.data = .fields vs) → PSs (X.suite a ((a, oe) :: pn)) (b0 :: suite) (ts a cls d)) :
    PS X (.Try body [.ExceptHandler (some (.Name x np)) (some n) (b0 :: suite) pos'] [] [] pos) (fun D σ H => tb (wGot X.K c i ts D) D σ H) where
  run := by
    intro pins s σ H D I h
    have ok := I.ok
    have frames : X.A.frames = some (X.env :: X.outer) := by rw [ok.frames, top]
    refine wpAny_Try_except (wpAny_mono ((runs (wGot X.K c i ts D) (X.pn ++ pins) (fun e s₁ => wpAny (model X.prog X.w) X.A (noteFrame e X.env) (fun _ s₂ => wpAny (model X.prog X.w) X.A (setFlight e none) (fun _ s₃ =>
      wpAny (model X.prog X.w) X.A (handleBy e X.env [.ExceptHandler (some (.Name x np)) (some n) (b0 :: suite) pos']) (SP X pins D) X.xe s₃) X.xe s₂) X.xe s₁) ?_ PassesOwn.looking).run [] s σ H D (I.toTry _) h) ?_ (fun e s1 he => he))
    · rintro _ s' ⟨a, B, sI, pins', σ', H', cls, d, rfl, J0, nb, up, sky, na, os, ag, is, go⟩
      have J : Inv X pins σ' H' sI := J0.ofTry ok
      show wpAny (model X.prog X.w) X.A (noteFrame (Value.ref a) X.env) _ _ _
      refine Sky.land Zc.steady frames fr (top ▸ sky) fun h3 fl3 up3 => ?_
      have J3 : Inv X pins σ' H' { s' with heap := h3 } := Inv.landed J nb fl3.1 (up.trans up3) os ag
      obtain ⟨oe3, vs3, g3, z3, d3⟩ := fl3.there
      have gone : B.get? a = none := fl3.2.1
      have out : a ∉ frs (X.env :: X.outer) := fun m => by
        obtain ⟨_, o, e, no⟩ := fl3.2.2.1.mem m
        rw [g3] at e
        cases e
        exact no _ d3
      have nL : a ≠ X.env.locals := fun z => out (List.mem_filterMap.mpr ⟨X.env, List.mem_cons_self, by rw [fr, z]⟩)
      have nF : a ∉ X.fs := fun m => by
        obtain ⟨e, he, q⟩ := List.mem_filterMap.mp m
        exact out (List.mem_filterMap.mpr ⟨e, List.mem_cons_of_mem _ he, q⟩)
      have fresh : ∀ b o, sI.heap.get? b = some o → b ∉ frs X.stack → b ≠ a := fun b o e m z => by
        have q := nb b o e m
        rw [z, gone] at q
        cases q
      have n0 : X.s_0.heap.get? a = Option.none := by
        cases e : Heap.get? X.s_0.heap a with
        | none => rfl
        | some o =>
          obtain ⟨o', e'⟩ := J.base.there a o e (by rw [hex]; exact fun z => nomatch z)
          exact absurd rfl (fresh a o' e' (by rw [top]; exact out))
      have npin : ∀ p ∈ X.pn ++ pins, p.1 ≠ a := fun p hp => by
        obtain ⟨e1, _, e3, e4, _⟩ := J.pin p hp
        refine fresh p.1 p.2 e1 (fun m => ?_)
        rw [top] at m
        obtain ⟨e, he, q⟩ := List.mem_filterMap.mp m
        rcases List.mem_cons.mp he with rfl | he
        · rw [fr] at q
          exact e3 (Option.some.inj q).symm
        · exact e4 (List.mem_filterMap.mpr ⟨e, he, q⟩)
      have S3 := J3.suite g3 d3 na nL nF
      refine wpAny_handleBy_cons (codeAny_handlers_test ?_) (fun z => by cases z)
      have isCls : PySem.W.Looks (model X.prog X.w) h3 (typeOf (.ref a)) cls := fun A Q E s k q => wpAny_typeOf_ref (k _ _ g3) (by rw [z3.1]; exact q)
      have matches_ := PySem.W.exm_one (M := model X.prog X.w) J3.kIn isCls is
      have named : ∀ {Q : Value → Shared → Prop} {E : Value → Shared → Prop}, Q c { s' with heap := h3 } → wpAny (model X.prog X.w) (X.A.mark (some (.ref a))) (eval (.Name x np) X.env) Q E { s' with heap := h3 } := fun {Q E} q => by
        rcases hc with ⟨gl, nb2, own | ⟨no, blt, nn⟩⟩
        · exact ld_glob (X := X.suite a ((a, oe3) :: (X.pn ++ pins))) S3 gl own q nb2
        · exact ld_blt (X := X.suite a ((a, oe3) :: (X.pn ++ pins))) S3 gl no blt q nn nb2
      refine named (matches_.here (codeAny_handlers_suite_as (HandSPX.lands_againZ fl3 fun h4 fl4 up4 => ?_)))
      have J4 : Inv X pins σ' H' { s' with heap := h4 } := Inv.landed J nb fl4.1 ((up.trans up3).trans up4) os ag
      obtain ⟨oe4, vs4, g4, z4, d4⟩ := fl4.there
      refine store_ok (X := X.suite a ((a, oe4) :: (X.pn ++ pins))) (v := .ref a) (J4.suite g4 d4 na nL nF) nd hi (.inl loc) rfl (fun s5 S5 => ?_) (.inr loc)
      refine wpAny_mono ((hsu a oe4 cls d (X.pn ++ pins) z4 ⟨_, d4⟩).run [] s5 _ H' _ S5 (go a na)) (fun f s6 ends => ?_) (fun _ _ z => False.elim z)
      cases f with
      | next =>
        obtain ⟨σ6, H6, S6, q6⟩ := ends
        have K6 : Inv X ((a, oe4) :: pins) σ6 H6 s6 := { ok := ok, os := S6.os, bare := S6.bare, base := S6.base, loc := S6.loc, cell := S6.cell, free := S6.free, freeC := S6.freeC, hok := S6.hok, len := S6.len, pin := fun p hp => S6.pin p (by
          rw [List.append_nil]
          rcases List.mem_append.mp hp with h | h
          · exact List.mem_cons_of_mem _ (List.mem_append_left _ h)
          · rcases List.mem_cons.mp h with rfl | h
            · exact List.mem_cons_self
            · exact List.mem_cons_of_mem _ (List.mem_append_right _ h)) }
        exact gone_ok K6 nd hi loc fun s7 K7 => ⟨_, _, track K7 hex n0 npin z4 d4, q6⟩
      | brk => exact ends.elim fun _ e => e.elim fun _ e => e.2.elim
      | cont => exact ends.elim fun _ e => e.elim fun _ e => e.2.elim
      | ret u => exact ends.elim fun _ e => e.elim fun _ e => e.elim fun _ e => e.2.2.elim
    · intro f s1 ends
      cases f with
      | next => exact ends.elim fun σ' e => e.elim fun H' e => wpAny_execs_nil ⟨σ', H', e.1.ofTry ok, e.2⟩
      | brk => exact ends.elim fun σ' e => e.elim fun H' e => ⟨σ', H', e.1.ofTry ok, e.2⟩
      | cont => exact ends.elim fun σ' e => e.elim fun H' e => ⟨σ', H', e.1.ofTry ok, e.2⟩
      | ret u => exact ends.elim fun v e => e.elim fun σ' e => e.elim fun H' e => ⟨v, σ', H', e.1.ofTry ok, e.2⟩
end
/-! ### what is asked of a kept error -/
/-- isinstance(e, c) -/
def rIsT (K : PySem.W.Frag) : List V → Hp → VK → Prop := fun xs H Q => ∃ (a D : Addr) (d : Option Addr) (c : V) (cv : Value) (b : Bool), xs = [.ref a, c] ∧ H a = some (ExT a (.ref D) d) ∧ (∀ dx, d = some dx → ∃ fs, H dx = some (.xd fs)) ∧ ExcC K D ∧ ClsV c cv ∧ PySem.W.kitOne K (.ref D) cv = some b ∧ Q (.bl b) H
theorem instT {P : Program} {w : World} {H : Hp} {h : Heap} {a D : Addr} {d : Option Addr} (ok : HOk P w H h) (e : H a = some (ExT a (.ref D) d)) (xd : ∀ dx, d = some dx → ∃ fs, H dx = some (.xd fs)) : ∃ oe od, PySem.W.InstAt h a oe D od := by
  obtain ⟨oe, vs, g, ⟨z1, z2⟩, f⟩ := exT_at ok e
  cases d with
  | none => exact ⟨oe, none, g, z1, by unfold PySem.W.notCls; rw [f], by rw [z2]; trivial⟩
  | some dx =>
    obtain ⟨fs, ed⟩ := xd dx rfl
    have at_ : ObjOk P w H h dx (.xd fs) := ok dx _ ed
    obtain ⟨m, ns, _⟩ := at_
    obtain ⟨od, ho, _⟩ := lookIn_ns ns
    exact ⟨oe, some od, g, z1, by unfold PySem.W.notCls; rw [f], by rw [z2]; exact ho⟩
theorem call_isT {X : Cx} : CallR X (.builtin "isinstance") (rIsT X.K) := by
  rintro pins s σ H _ us Q I rel ⟨a, D, d, c, cv, b, rfl, e, xd, C, cls, ans, want⟩
  obtain ⟨u1, u2, rfl, r1, r2⟩ := vals2 rel
  cases r1
  obtain rfl := cls.eq r2
  obtain ⟨oe, od, J⟩ := instT I.hok e xd
  have some_ : (PySem.W.clsIn X.K D).isSome = true := by
    obtain ⟨cd, hc, _⟩ := PySem.W.any_some C.hd
    rw [hc]
    rfl
  exact PySem.W.kia_one (PySem.W.kitx_exc some_ C.hg C.hk C.hs C.ha C.hn C.ht C.hm) I.kIn J ans (fun z => nomatch z) fun tk => ⟨.bl b, H, I.tok tk, rfl, want⟩
/-- e.n -/
def tXt (K : PySem.W.Frag) (n : Str) (te : TE) : TE := fun σ H Q => te σ H fun x H1 => ∃ (a C dd : Addr) (fs : List (Str × V)) (v : V), x = .ref a ∧ H1 a = some (ExT a (.ref C) (some dd)) ∧ XfC K C ∧ PySem.W.findIn K (.ref C) n = some none ∧ H1 dd = some (.xd fs) ∧ fs.lookup n = some v ∧ Q v H1
theorem pe_xt {X : Cx} {e : Expr} {te : TE} {pos : Pos} {n : Str} (he : PE X e te) (plain : attributeBase e n X.env (eval e X.env) = eval e X.env := by rfl) : PE X (.Attribute e n pos) (tXt X.K n te) where
  run := by
    intro pins s σ H Q I h
    refine attr_of plain (thn (he.run pins s σ H _ I h) ?_)
    rintro _ s1 ⟨_, H1, I1, rel, a, C, dd, fs, v, rfl, e1, T, no, e2, has, want⟩
    cases rel
    obtain ⟨oe, vs, g, ⟨z1, z2⟩, f⟩ := exT_at I1.hok e1
    have at_ : ObjOk X.prog X.w H1 s1.heap dd (.xd fs) := I1.hok dd _ e2
    obtain ⟨m, ns, rels⟩ := at_
    obtain ⟨od, ho, hl⟩ := lookIn_ns ns
    obtain ⟨u, hu, ru⟩ := RelO.some_of (v := v) (o := m n) (has ▸ rels n)
    have J : PySem.W.InstAt s1.heap a oe C (some od) := ⟨g, z1, by unfold PySem.W.notCls; rw [f], by rw [z2]; exact ho⟩
    exact HandSPX.exc_get I1.kIn J T.ga T.gg T.exC (PySem.W.findObj_own T.hdC no rfl (by rw [hl, hu])) (handed_of ru) ⟨v, H1, I1.tok _, ru, want⟩
/-- X(), an own error without an __init__ of its own -/
theorem pmk_own0 {X : Cx} {C : Addr} {bmB : List Value} {B newId initId : String} {x : Str} {p pos : Pos} (F : ExcBaseFacts B newId initId bmB) (q : PySem.W.excIn X.K C bmB newId = true) (is : X.mg x = some (.ref C)) (kp : PySem.W.keepIn X.K (.ref C) = true) (r : Raises X (.ref C)) (glob : Gl X x)
    (nodebug : (x == ("__debug__" : Str)) = false := by decide) : PMk X (.Call (.Name x p) [] [] pos) (fun _ H Q => Q (.ref C) none H) := by
  intro pins s σ H Q I want
  refine wpAny_Call_Name_kw (ld_glob I glob is ?_ nodebug)
  refine PySem.W.callWith_KW0 (kws := []) (h₀ := X.base) I.ok.mod.kin kp rfl (wpAny_pure ⟨I.kIn, ?_⟩) rfl
  obtain ⟨bm, N, nm, qn, bs, hdct, sn, sub, ab, col, dd, k0, k1, k2, k3, k5, mN, hC, hN, hni, T⟩ := exc_obj I.kIn q
  exact wpAny_call_exc_subT F T hC hN hni (fun h' e made => mk_of I made r want (I.hok.gone made.new)) (Nat.zero_le _)
/-! ### how often a flat value stands in a list -/
def rCnt (K : PySem.W.Frag) : V → List V → Hp → VK → Prop := fun x xs H Q => ∃ p ys y, x = .ref p ∧ xs = [y] ∧ SqL K H p ys ∧ flatV y = true ∧ ys.all flatV = true ∧ Q (.int (ys.countP (fun z => eqV z y) : Nat)) H
theorem count_eqU {y : V} : ∀ {ys : List V} {us : List Value}, Vals ys us → ys.all flatV = true → us.countP (eqU y) = ys.countP fun z => eqV z y
  | _, _, .nil, _ => rfl
  | z :: ys, u :: us, .cons r t, f => by
    simp only [List.all_cons, Bool.and_eq_true] at f
    simp only [List.countP_cons, eqU_of r f.1, count_eqU t f.2]
theorem mt_cnt {X : Cx} : MtR X "list.count" (rCnt X.K) := by
  rintro pins s σ H _ _ v us Q I rx rxs ⟨p, ys, y, rfl, rfl, hs, fy, fys, want⟩
  cases rx
  obtain ⟨u, rfl, ru⟩ := rxs.one
  obtain ⟨its, vals, ⟨⟨cls, dd, data, sl⟩, n, ho, hc, hdn, hd⟩, small⟩ := I.list hs
  dsimp only at hc hd
  subst hc hd
  refine call_meets PySem.F.slot_list_count ⟨_, ho, rfl⟩ PySem.F.entry_list_count (PySem.F.args_list_count_2 _ _) (SeqAt.list_countAt p its.toArray n dd sl u (eqU y)) ⟨ho, fun z hz => mem_eqAt ru fy vals fys z (by simpa using hz), ?_⟩
  refine ⟨.int (ys.countP (fun z => eqV z y) : Nat), H, I.tok _, ⟨s.toks, ?_⟩, want⟩
  rw [← count_eqU vals fys]
/-! ### repr of data -/
inductive Seen (K : PySem.W.Frag) (H : Hp) : V → PyData → Prop
  | dp {x : V} {d : PyData} (h : Dp K H x d) (nd : d.hasDict = false) : Seen K H x d
  | nod {a : Addr} (h : H a = some (.dK [])) : Seen K H (.ref a) (.dict [])
def rRepr (K : PySem.W.Frag) : List V → Hp → VK → Prop := fun xs H Q => ∃ x d, xs = [x] ∧ Seen K H x d ∧ PyData.showable d = true ∧ d.depth ≤ 8 ∧ d.shown.length ≤ sizeLine ∧ Q (.str d.shown) H
theorem reads_nod {P : Program} {w : World} {H : Hp} {h : Heap} {a : Addr} (ok : HOk P w H h) (e : H a = some (.dK [])) : Reads h (.ref a) (.dict []) [a] ∧ sysModules ∉ [a] := by
  have at_ : ObjOk P w H h a (.dK []) := ok a _ e
  obtain ⟨_, ns, vs, kv, o, es, ep, g, ex, d, _, el, _⟩ := at_
  cases kv
  have z : es.toList = [] := List.eq_nil_of_length_eq_zero el.length
  have r0 : ReadsAll h (es.toList.map (·.key)) (([] : List (PyData × PyData)).map (·.1)) [] := by rw [z]; exact .nil
  have r1 : ReadsAll h (es.toList.map (·.val)) (([] : List (PyData × PyData)).map (·.2)) [] := by rw [z]; exact .nil
  exact ⟨.dict g ex.1 d r0 r1, fun m => by rw [List.mem_singleton.mp m] at ns; simp at ns⟩
theorem call_reprD {X : Cx} (gs : X.A.guards = some []) (hu : X.A.units + 64 < cLine) : CallR X (.builtin "repr") (rRepr X.K) := by
  rintro pins s σ H _ us Q I rel ⟨x, d, rfl, seen, sh, dep, len, want⟩
  cases rel with
  | cons ru rn =>
    cases rn
    rename_i u
    have boxed : ∀ (a : Addr) (as : List Addr), Reads s.heap (.ref a) d as → (d.hasDict = true → sysModules ∉ as) → wpAny (model X.prog X.w) X.A (call (.builtin "repr") [.ref a]) (EP X pins σ Q) X.xe s := fun a as r sm =>
      repr_of_reads' r sh sm gs (by omega) (fun _ _ e => e) (fun h' _ tk same => ⟨.str d.shown, H, I.kept (t' := tk) same, ⟨_, rfl⟩, want⟩) len
    cases seen with
    | nod h =>
      cases ru
      obtain ⟨r, n⟩ := reads_nod I.hok h
      exact boxed _ _ r fun _ => n
    | dp h nd =>
      obtain ⟨as, r⟩ := Dp.reads I d _ u h ru
      have no : d.hasDict = true → sysModules ∉ as := fun z => by rw [nd] at z; cases z
      have fin : ∀ {z : Str} {t k : Tok}, z = d.shown → EP X pins σ Q (.str z t) { s with toks := k } := fun {z t k} e => ⟨.str z, H, I.tok k, ⟨_, rfl⟩, e ▸ want⟩
      cases h with
      | non => cases ru; exact PySem.P.repr_of_none (fin (by simp [PyData.shown]))
      | bl b => cases ru; exact PySem.P.repr_of_bool (fin (by simp [PyData.shown]))
      | int i =>
        obtain ⟨t, rfl⟩ := ru
        exact PySem.P.repr_of_int (by simpa [PyData.showable] using sh) (fin (by simp [PyData.shown]))
      | str z =>
        obtain ⟨t, rfl⟩ := ru
        exact PySem.P.repr_of_str (fin (by simp [PyData.shown])) (by simpa [PyData.shown] using len)
      | lst _ _ => cases ru; exact boxed _ _ r no
      | tup _ _ => cases ru; exact boxed _ _ r no
end Wd

set_option Elab.async false
set_option linter.all false
set_option maxRecDepth 100000
set_option maxHeartbeats 4000000
namespace Wd
open PySem PySem.Spec PyProof.Rows L2 WdM
/-! ### defs whose promise wants that no repr is under way around the call -/
structure FnG (P : Program) (w : World) (K : PySem.W.Frag) (mg : Str → Option Value) (base : Heap) (k : Nat) (f : Addr) (fd : FuncData) (ps : List Str) (sp : Sp) : Prop where
  len : ∀ vs H Q E, sp vs H Q E → vs.length = ps.length
  run : ∀ (A : Around) (outer : List Env) (s : Shared) (H : Hp) (args : Args) (us : List Value) (vs : List V) (Q : VK) (E : XK), A.guards = some [] → Room k A → Env0 P w K mg base A outer s H → BindsTo s fd args (ps.zip us) → Vals vs us → sp vs H Q E →
    codeAny (model P w) A (.call (.ref f) args) (CR CX0 outer P w H s Q E) s
section
variable {P : Program} {w : World} {K : PySem.W.Frag} {mg : Str → Option Value} {base : Heap}
theorem okG {x qual : Str} {st : Stmt} {f : Addr} {fd : FuncData} {N ps : List Str} {k : Nat} {sp : Sp} (F : Fun K x qual st f fd) (S : FnScope N ps (defScope st)) (len : ∀ vs H Q E, sp vs H Q E → vs.length = ps.length)
    (body : ∀ (cdv : Value) (A : Around) (outer : List Env) (s : Shared) (H : Hp) (vs : List V) (Q : VK) (E : XK), A.guards = some [] → Room k (A.deeper (envOfC qual (defScope st) s.heap.objs.size f cdv)) → sp vs H Q E →
      ∃ t, PSs (cxOf CX0 P w K mg base N qual (defScope st) f cdv A outer s H E).nox (defBody st) t ∧ t { nx := fun _ H' => Q .non H', rt := Q } (start N vs) H) : FnG P w K mg base (k + 1) f fd ps sp where
  len := len
  run := by
    intro A outer s H args us vs Q E gs room e0 binds rel want
    obtain ⟨oc, od, kV, doc, pm, an, cdv, ct, osl, rfl, at_, code⟩ := F.ex
    have kin : K.In s.heap := e0.mod.kin.keeps fun b o e => (e0.bs b o e).1
    have kinds : ∀ y ∈ ps.zip us, (defScope st).names.lookup y.1 = some .local ∨ ((defScope st).names.lookup y.1 = some .cell ∧ ((cellsFrom (s.heap.objs.size + 1) (defScope st).names []).lookup y.1).isSome = true) := by
      rintro ⟨n, v⟩ hy
      exact (S.par n (List.of_mem_zip hy).1).imp id fun q => ⟨q, PySem.W.cellsFrom_some _ _ _ (.inl q)⟩
    refine codeAny_call_function room.depth (kin _ _ at_) rfl S.co S.gen rfl (PySem.W.codeRec_of kin code) (binds _ _ _ _ (wpAny_newFunctionEnv_cells S.kind kinds ?_))
    rintro env rfl s1 inside
    refine ⟨(e0.mod.nolimit.keeps fun b o e => (e0.bs b o e).1).keeps inside.toInCall.keep, codeAny_func ?_⟩
    obtain ⟨t, ht, good⟩ := body cdv A outer s H vs Q E gs (room.deeper _) want
    refine wpAny_mono (ht.nox.run [] s1 (start N vs) H _ (inv_start S room.hd e0 (len _ _ _ _ want) rel inside) good) (fun fl s' ends => ?_) fun _ _ z => z
    cases fl with
    | ret u => exact ends.elim fun v e => e.elim fun σ' e => e.elim fun H' ⟨J, rv, q⟩ => ⟨v, H', J.os, J.bare, J.base, J.hok, rv, q⟩
    | next => exact ends.elim fun σ' e => e.elim fun H' ⟨J, q⟩ => ⟨.non, H', J.os, J.bare, J.base, J.hok, rfl, q⟩
    | brk => exact ends.elim fun _ e => e.elim fun _ e => e.2.elim
    | cont => exact ends.elim fun _ e => e.elim fun _ e => e.2.elim
end
section
variable {X : Cx} {k : Nat} {f : Addr} {fd : FuncData} {ps : List Str} {sp : Sp} {x : Str} {p pos : Pos} {e : Expr} {es : List Expr} {t : TA}
theorem pe_callG (F : FnG X.prog X.w X.K X.mg X.base k f fd ps sp) (gs : X.A.guards = some []) (room : Room k X.A) (glob : Gl X x) (is : X.mg x = some (.ref f)) (kp : PySem.W.keepIn X.K (.ref f) = true) (bd : Binds X.K fd ps []) (args : PA X (e :: es) t)
    (nodebug : (x == ("__debug__" : Str)) = false := by decide) (star : starEach (e :: es) X.env = (false, eval e X.env) :: starEach es X.env := by rfl) (plain : (backTo pos (starEach es X.env)).any (·.1) = false := by rfl) :
    PE X (.Call (.Name x p) (e :: es) [] pos) (tCall sp [] E0 t) where
  run := by
    intro pins s σ H Q I h
    refine wpAny_Call_Name_kw (ld_glob I glob is (PySem.W.callWith_K (h₀ := X.base) I.ok.mod.kin kp (thn (args.run pos pins s σ H _ I h) ?_) star plain) nodebug)
    rintro us s1 ⟨vs, H1, I1, rel, want⟩
    have rel2 : Vals (vs ++ []) (us ++ []) := rel.append .nil
    refine ⟨I1.kIn, wpAny_call (codeAny_mono (F.run X.A X.stack s1 H1 ⟨us, []⟩ (us ++ []) (vs ++ []) Q E0 gs room I1.env0 (bd s1 us I1.kIn (by rw [← rel2.length]; exact F.len _ _ _ _ want)) rel2 want) fun r s' res => ?_)⟩
    cases r with
    | error er => exact False.elim res
    | ok fl =>
      cases fl with
      | ret u => exact I1.after res
      | next => exact False.elim res
      | brk => exact False.elim res
      | cont => exact False.elim res
end
/-! ### the law's own call -/
theorem law_callG {P : Program} {w : World} {K : PySem.W.Frag} {mg mb : Str → Option Value} {k : Nat} {fa a : Addr} {fd : FuncData} {x : Str} {sp : Sp} {s1 : Shared} {vs : List Value} {ns : List Int}
    (kin : K.In s1.heap) (globs : s1.heap.Ns mainGlobals mg) (blts : s1.heap.Ns builtinsNs mb) (boot : ∀ x : Str, x ≠ "__name__" → mb x = bootBuiltins x) (lim : s1.heap.NoLimit) (nogens : s1.gens = #[])
    (at_ : s1.heap.get? a = some { cls := .type "list", data := .seq vs.toArray }) (its : IntsAre vs ns) (small : ns.length ≤ sizeLine) (room : Room k callerA)
    (F : ∀ base : Heap, K.In base → base.Ns mainGlobals mg → FnG P w K mg base k fa fd [x] sp) (binds : ∀ (s : Shared) (u : Value), BindsTo s fd ⟨[u], []⟩ [(x, u)])
    (good : ∀ H : Hp, SqL K H a (ns.map V.int) → sp [.ref a] H (fun v _ => v = .bl true) fun _ _ _ => False) :
    codeAny (model P w) callerA (.call (.ref fa) ⟨[.ref a], []⟩) (fun r s' => r = .ok (.ret (.bool true)) ∧ OldK s1.heap s'.heap ∧ s'.os = s1.os ∧ AllBare s'.gens) s1 := by
  have go : ∀ H : Hp, (∀ b, H b = none ∨ (b = a ∧ K.lookup a = none ∧ ∃ o u, H b = some (.frz o u))) → SqL K H a (ns.map V.int) → HOk P w H s1.heap →
      codeAny (model P w) callerA (.call (.ref fa) ⟨[.ref a], []⟩) (fun r s' => r = .ok (.ret (.bool true)) ∧ OldK s1.heap s'.heap ∧ s'.os = s1.os ∧ AllBare s'.gens) s1 := by
    intro H only hS hok
    have free : ∀ b o, K.lookup b = some o → H b = none := fun b o e => by
      rcases only b with z | ⟨rfl, z, _⟩
      · exact z
      · rw [z] at e; cases e
    have dicts : ∀ {b : Addr} {m : Str → Option Value}, s1.heap.Ns b m → (hidT s1.heap H).Ns b m := by
      rintro b m ⟨o, es, ep, g, d, r⟩
      refine ⟨o, es, ep, hidT_get g ?_, d, r⟩
      rcases only b with z | ⟨rfl, _, _⟩
      · exact z
      · rw [at_] at g
        cases g
        exact absurd (show Data.seq vs.toArray _ = Data.dict es ep from d) (fun z => by cases z)
    have kb : K.In (hidT s1.heap H) := fun b o e => hidT_get (kin b o e) (free b o e)
    obtain ⟨mc, l1, l2⟩ := lim
    have md : Mod K mg (hidT s1.heap H) := ⟨kb, dicts globs, ⟨mb, dicts blts, boot⟩, mc, dicts l1, l2⟩
    have e0 : Env0 P w K mg (hidT s1.heap H) callerA [] s1 H := ⟨rfl, md, fun b o e => of_hidT e, Nat.le_of_eq (hidT_size _ _), trivial, fun b hb => (by cases hb), hok, .of_eq nogens⟩
    refine codeAny_mono ((F _ kb (dicts globs)).run callerA [] s1 H ⟨[.ref a], []⟩ [.ref a] [.ref a] _ _ rfl room e0 (binds s1 (.ref a)) (.cons rfl .nil) (good H hS)) fun r s' res => ?_
    cases r with
    | error er => exact False.elim res
    | ok fl =>
      cases fl with
      | next => exact False.elim res
      | brk => exact False.elim res
      | cont => exact False.elim res
      | ret u =>
        obtain ⟨v, H', os, bare, un, hok', rv, rfl⟩ := res
        obtain rfl : u = Value.bool true := rv
        refine ⟨rfl, .of_keep fun b o e => ?_, os, bare⟩
        rcases only b with z | ⟨rfl, _, ob, u, z⟩
        · exact un.keep b o e z (fun m => by cases m) (fun m => by cases m)
        · have was := (hok _ _ z).1
          rw [e] at was
          cases was
          exact (hok' _ _ (un.frzs _ _ _ z)).1
  cases own : K.lookup a with
  | some o =>
    have e := kin a o own
    rw [at_] at e
    cases e
    exact go (fun _ => none) (fun _ => .inl rfl) (.inr ⟨_, vs.toArray, _, own, rfl, rfl, rfl, by rw [List.size_toArray, its.length]; exact small, by simpa using vals_ints its⟩) fun b u z => by cases z
  | none =>
    refine go (fun b => if b = a then some (.frz { cls := .type "list", data := .seq vs.toArray } (.lst (ns.map V.int))) else none) (fun b => ?_) (.inl (.inr ⟨_, if_pos rfl⟩)) (fun b u z => ?_)
    · by_cases hb : b = a
      · exact .inr ⟨hb, own, _, _, if_pos hb⟩
      · exact .inl (if_neg hb)
    · by_cases hb : b = a
      · subst hb
        cases (if_pos rfl).symm.trans z
        exact ⟨at_, by rw [List.length_map]; exact small, vs, _, vals_ints its, at_⟩
      · cases (if_neg hb).symm.trans z
theorem walk_G {l : PySem.W.OpenLaw} {n k : Nat} {q : Program} {loose : List Str} {XP : (Str → Option Value) → Heap → Prop} {YP : World → Heap → Prop} {d : DefRec} {K : Params → PySem.W.Frag} {sp : World → Sp} {x : Str}
    (most : l.most = some n) (small : n ≤ sizeLine) (plain : d.params.defaults = []) (room : Room k callerA) (hY : ∀ (w : World) (h : Heap), YP w h → (K w.params).In h)
    (F : ∀ (w : World) (mg : Str → Option Value) (fa : Addr) (h : Heap), (K w.params).In h → h.Ns mainGlobals mg → mg d.name = some (.ref fa) → ∃ fd : FuncData, (∀ (s : Shared) (u : Value), BindsTo s fd ⟨[u], []⟩ [(x, u)]) ∧ ∀ base : Heap, (K w.params).In base → base.Ns mainGlobals mg → FnG l.prog w (K w.params) mg base k fa fd [x] (sp w))
    (good : ∀ (w : World) (H : Hp) (a : Addr) (ns : List Int), ns.length ≤ n → SqL (K w.params) H a (ns.map V.int) → sp w [.ref a] H (fun v _ => v = .bl true) fun _ _ _ => False) :
    PySem.W.WalkO q loose XP YP l.row.toRowW d [] (fun f vs => PySem.call f vs) := by
  refine Att.attach_call most plain fun w s0 s1 mg mb fa o pm cd doc a vs ns G Y _ _ _ is at_ its len gens => ?_
  obtain ⟨fd, binds, promise⟩ := F w mg fa _ (hY w _ Y) G.T.g is
  exact law_callG (hY w _ Y) G.T.g G.T.b G.T.builtins G.T.nolimit gens at_ its (Nat.le_trans len small) room promise binds fun H hS => good w H a ns len hS
end Wd

set_option Elab.async false
set_option linter.all false
set_option maxRecDepth 100000
set_option maxHeartbeats 4000000
namespace Wd
open PySem PySem.Spec PyProof.Rows L2 WdM
/-! ### C(e, ..) where __init__ may raise, what is raised wished for at the caller's slots -/
section
variable {X : Cx} {CX : CXT} {k : Nat} {f C : Addr} {fd : FuncData} {ps : List Str} {sp : Sp} {dvs : List V} {ds : List Value} {E : L2.St → XK} {x : Str} {p pos : Pos} {e : Expr} {es : List Expr} {t : TA}
def tMakeS (C : Addr) (sp : Sp) (dvs : List V) (E : L2.St → XK) (t : TA) : TE := fun σ H Q => t σ H fun vs G => ∀ o d, G o = none → G d = none → d ≠ o → sp (.ref o :: (vs ++ dvs)) (upd (upd G d (.own o)) o (.ins C d [])) (fun v G' => v = .non ∧ Q (.ref o) G') (E σ)
theorem run_makeS {pins : List (Addr × Obj)} {σ : L2.St} {H : Hp} {s : Shared} {Q : VK} {us : List Value} {vs : List V} (M : Mk X.K C f) (F : FnOk X.prog X.w X.K X.mg X.base CX k f fd ps sp) (room : Room (k + 1) X.A) (bd : Binds X.K fd ps ds) (rd : Vals dvs ds) (out : PassesAt CX X σ (E σ)) (I : Inv X pins σ H s) (rel : Vals vs us)
    (want : ∀ o d, H o = none → H d = none → d ≠ o → sp (.ref o :: (vs ++ dvs)) (upd (upd H d (.own o)) o (.ins C d [])) (fun v G' => v = .non ∧ Q (.ref o) G') (E σ)) :
    wpAny (model X.prog X.w) X.A (call (.ref C) us) (EP X pins σ Q) X.xe s := by
  have good := want (s.heap.objs.size + 1) s.heap.objs.size (I.hok.fresh (Nat.le_succ _)) (I.hok.fresh (Nat.le_refl _)) (Nat.ne_of_lt (Nat.lt_succ_self _))
  have J := Inv.made (C := C) I
  have full : Vals (V.ref (s.heap.objs.size + 1) :: (vs ++ dvs)) (Value.ref (s.heap.objs.size + 1) :: (us ++ ds)) := .cons rfl (rel.append rd)
  have many : (Value.ref (s.heap.objs.size + 1) :: us ++ ds).length = ps.length := full.length.symm.trans (F.len _ _ _ _ good)
  refine wpAny_call (make_map (f := f) I.kIn M.makes M.init (beq_iff_eq.mp M.fn) (codeAny_mono (F.run _ X.stack _ _ ⟨Value.ref (s.heap.objs.size + 1) :: us, []⟩ (Value.ref (s.heap.objs.size + 1) :: (us ++ ds)) _ _ (E σ) (room.make C us []) (J.env0.make C us []) (bd _ (Value.ref (s.heap.objs.size + 1) :: us) J.kIn many) full good) fun r s' res => ?_))
  cases r with
  | error er => exact out pins _ _ er s' J res
  | ok fl =>
    cases fl with
    | next => exact False.elim res
    | brk => exact False.elim res
    | cont => exact False.elim res
    | ret u =>
      obtain ⟨v, G, J3, rv, ev, q⟩ := J.after res
      subst ev
      exact ⟨rv, .ref (s.heap.objs.size + 1), G, J3, rfl, q⟩
theorem pe_makeS (M : Mk X.K C f) (F : FnOk X.prog X.w X.K X.mg X.base CX k f fd ps sp) (room : Room (k + 1) X.A) (glob : Gl X x) (is : X.mg x = some (.ref C)) (bd : Binds X.K fd ps ds) (rd : Vals dvs ds) (out : ∀ σ, PassesAt CX X σ (E σ)) (args : PA X (e :: es) t)
    (nodebug : (x == ("__debug__" : Str)) = false := by decide) (star : starEach (e :: es) X.env = (false, eval e X.env) :: starEach es X.env := by rfl) (plain : (backTo pos (starEach es X.env)).any (·.1) = false := by rfl) :
    PE X (.Call (.Name x p) (e :: es) [] pos) (tMakeS C sp dvs E t) where
  run := by
    intro pins s σ H Q I h
    refine wpAny_Call_Name_kw (ld_glob I glob is (PySem.W.callWith_K (h₀ := X.base) I.ok.mod.kin M.kp (thn (args.run pos pins s σ H _ I h) ?_) star plain) nodebug)
    rintro us s1 ⟨vs, H1, I1, rel, want⟩
    exact ⟨I1.kIn, run_makeS M F room bd rd (out σ) I1 rel want⟩
end
/-! ### what is never reached -/
theorem pe_no {X : Cx} {e : Expr} : PE X e (fun _ _ _ => False) := ⟨fun _ _ _ _ _ _ h => h.elim⟩
theorem pt_no {X : Cx} {e : Expr} : PT X e (fun _ _ _ => False) := ⟨fun _ _ _ _ _ _ h => h.elim⟩
theorem ps_no {X : Cx} {st : Stmt} : PS X st (fun _ _ _ => False) := ⟨fun _ _ _ _ _ _ h => h.elim⟩
theorem pss_no {X : Cx} {st : List Stmt} : PSs X st (fun _ _ _ => False) := ⟨fun _ _ _ _ _ _ h => h.elim⟩
/-! ### enumerate of a list or tuple -/
theorem enum_new {v : Value} {o : Obj} {G : Heap → Prop} (B : Begins v o G) :
    Meets (Builtin.«enumerate.__new__» ⟨[.type "enumerate", v], []⟩) (fun _ R s => G s.heap ∧ R (.ok (.ret (.ref (s.heap.push o).objs.size))) { s with heap := (s.heap.push o).push { cls := .type "enumerate", data := .fields #[.none, .bool false, .ref s.heap.objs.size, rawInt 0, .none, .none] } }) :=
  .of_wp fun prog w A R s h => by
    obtain ⟨hp, gs, ds, tk, os⟩ := s
    obtain ⟨g0, fin⟩ := h
    have sub := sub_enumerate
    have iter : ∀ {A' : Around} {E : Value → Shared → Prop} {Q : Value → Shared → Prop}, Q (.ref hp.objs.size) ⟨hp.push o, gs, ds, tk, os⟩ → wpAny (model prog w) A' (pyIter v) Q E ⟨hp, gs, ds, tk, os⟩ := fun q => B.iter prog w _ _ _ _ g0 q
    wp_walk using iter
    refine wpAny_stack_any fun st => wpAny_pure ?_
    split
    · rename_i c _ _ _ _ _
      cases c == Value.type "enumerate" <;> (wp_walk using iter) <;> exact ⟨_, rfl, fin⟩
    · wp_walk using iter
      exact ⟨_, rfl, fin⟩
theorem enum_made {prog : Program} {w : World} {A : Around} {E : Value → Shared → Prop} {s : Shared} {v : Value} {o : Obj} {G : Heap → Prop} {Q : Value → Shared → Prop} (B : Begins v o G) (g0 : G s.heap)
    (want : ∀ h1, IsEnum h1 (s.heap.objs.size + 1) s.heap.objs.size 0 .none → h1.get? s.heap.objs.size = some o → (∀ b o, s.heap.get? b = some o → h1.get? b = some o) → Q (.ref (s.heap.objs.size + 1)) { s with heap := h1 }) :
    wpAny (model prog w) A (call (.type "enumerate") [v]) Q E s := by
  refine callType_new F.called_enumerate (by decide) (F.typeCall_enumerate_1 _) (F.newCall_enumerate_1 _) (fun obj => F.args_object_init_2 obj _) F.entry_enumerate_new (enum_new B) ⟨g0, ?_⟩
  have size1 : (s.heap.push o).objs.size = s.heap.objs.size + 1 := Heap.size_push ..
  have made := Heap.get?_push_size (s.heap.push o) (o := { cls := .type "enumerate", data := .fields #[.none, .bool false, .ref s.heap.objs.size, rawInt 0, .none, .none] }) rfl
  show _ ∧ _
  rw [size1] at made ⊢
  exact ⟨⟨_, made, rfl⟩, want _ made (Heap.get?_push_of_some _ (Heap.get?_push_size _ B.free)) fun b o g => Heap.get?_push_of_some _ (Heap.get?_push_of_some _ g)⟩
def ItE (K : PySem.W.Frag) (k : Feed) (a : Addr) : It where
  go i H := ∃ xs x, k.sq K H a xs ∧ xs[i]? = some x
  yld i H v H' := ∃ T x, v = .ref T ∧ H T = none ∧ H' = upd H T (.tup [.int (i : Nat), x]) ∧ ∀ xs, k.sq K H a xs → xs[i]? = some x
  stop i H := ∃ xs, k.sq K H a xs ∧ xs.length = i
theorem walkE {K : PySem.W.Frag} {k : Feed} {a : Addr} {xs : List V} : Walk (ItE K k a) xs.length (fun H => k.sq K H a xs) (YPair (fun i => some (.int (i : Nat))) fun i => xs[i]?) where
  goes := fun i H hi g => ⟨xs, xs[i], g, List.getElem?_eq_getElem hi⟩
  stops := fun H g => ⟨xs, g, rfl⟩
  yields := fun i H v H' _ g ⟨T, x, e1, e2, e3, e4⟩ => ⟨T, .int (i : Nat), x, e1, e2, e3, rfl, e4 xs g⟩
theorem turnE {P : Program} {w : World} {K : PySem.W.Frag} {elts : List Expr} {kk : Nat} {tpos : Pos} {k : Feed} {a e it : Addr} (na : a ≠ it) (ea : e ≠ a) (ei : e ≠ it) :
    Turn P w K (.Tuple elts kk tpos) (ItE K k a) [e, it] e fun i h => (∃ old, IsEnum h e it ((i : Nat) : Int) old) ∧ k.at_ h it a i where
  mem := List.mem_cons_self
  obj := by
    rintro i h ⟨⟨old, ge⟩, gi⟩ c hc
    rcases List.mem_cons.mp hc with rfl | hc
    · exact ⟨_, ge, fun _ z => nomatch z⟩
    · rw [List.mem_singleton.mp hc]
      exact k.lives gi
  keep := by
    rintro i h h' ⟨⟨old, ge⟩, gi⟩ same
    exact ⟨⟨old, same _ (by simp) _ ge⟩, k.moved gi (same _ (by simp))⟩
  item := by
    rintro X rfl rfl rfl calm i pins s σ H E I free ⟨⟨old, ge⟩, gi⟩ ⟨xs, x, hxs, hx⟩
    obtain ⟨us, rel, st, _⟩ := k.known I hxs
    obtain ⟨u, hu, ru⟩ := rel.get hx
    have hA : X.A.in1.handled = none := I.ok.hd calm
    have el := Heap.lt_size ge
    have n1 : i < us.toArray.size := by
      rw [List.size_toArray]
      exact (List.getElem?_eq_some_iff.mp hu).1
    refine wpAny_pyNext_enum_itemD (k.draws hA na _) ge ⟨gi, st⟩ n1 ei (by simp [ei, ea]) ?_
    rintro u' h1 t1 eu out ⟨d1, _⟩ gT _ same
    obtain rfl : u = u' := Option.some.inj (hu.symm.trans (by simpa using eu))
    refine ⟨_, rfl, wpAny_letOwnedTupleGo_enum (s := { s with heap := h1, toks := t1 + 1 }) out fun h2 ge2 sb => ?_⟩
    have all : ∀ c o, c ∉ [e, it] → s.heap.get? c = some o → h2.get? c = some o := fun c o hc g => by
      simp only [List.mem_cons, List.not_mem_nil, or_false, not_or] at hc
      exact (sb.2 c hc.1).trans (same c o hc.1 hc.2 g)
    have pair : h2.get? s.heap.objs.size = some { cls := .type "tuple", data := .seq #[.int i t1, u] } := (sb.2 _ (Nat.ne_of_gt el)).trans gT
    have made : ObjOk X.prog X.w (upd H s.heap.objs.size (.tup [.int (i : Nat), x])) h2 s.heap.objs.size (.tup [.int (i : Nat), x]) := ⟨by show 2 ≤ sizeLine; decide, [.int i t1, u], .cons ⟨_, rfl⟩ (.cons ru .nil), _, pair, rfl, _, rfl⟩
    refine ⟨.ref s.heap.objs.size, _, I.turnedNew (t' := t1 + 1) all free (Nat.le_refl _) made, rfl, ?_, ?_, ?_⟩
    · exact ⟨_, x, rfl, I.hok.fresh (Nat.le_refl _), rfl, fun l g => k.one I g hxs ▸ hx⟩
    · refine ⟨⟨u, ?_⟩, k.moved d1 fun o g => (sb.2 _ ei.symm).trans g⟩
      rw [show ((i + 1 : Nat) : Int) = (i : Int) + 1 by omega]
      exact ge2
    · intro c hc
      have old : c < s.heap.objs.size := by
        rcases List.mem_cons.mp hc with rfl | hc
        · exact el
        · rw [List.mem_singleton.mp hc]
          obtain ⟨o1, e1, _⟩ := k.lives gi
          exact Heap.lt_size e1
      rw [upd_ne (Nat.ne_of_lt old)]
      exact (free c hc).1
  done := by
    rintro X rfl rfl rfl calm i pins s σ H E I free ⟨⟨old, ge⟩, gi⟩ ⟨xs, hxs, n⟩
    obtain ⟨us, rel, st, _⟩ := k.known I hxs
    have hA : X.A.in1.handled = none := I.ok.hd calm
    have z : us.toArray.size = i := by rw [List.size_toArray, ← rel.length, n]
    refine wpAny_pyNext_enum_endD (k.draws hA na us.toArray) ge ⟨z ▸ gi, st⟩ fun h1 same => ⟨rfl, I.turnedL (t' := s.toks) (fun c o hc g => ?_) free⟩
    simp only [List.mem_cons, List.not_mem_nil, or_false, not_or] at hc
    exact same c o hc.2 g
  self := fun _ _ _ _ _ g q => g.1.elim fun _ ge => wpAny_pyIter_enum ge q
def iE (K : PySem.W.Frag) (k : Feed) (ta : TA) : TI := fun σ H R => ta σ H fun vs H1 => ∃ a xs, vs = [.ref a] ∧ k.sq K H1 a xs ∧ R (ItE K k a) H1
theorem pi_E {X : Cx} {e : Expr} {ta : TA} {p pos tpos : Pos} {elts : List Expr} {kk : Nat} (k : Feed) (hg : Gl X "enumerate") (hm : X.mg "enumerate" = none) (ha : PA X [e] ta) (star : starEach [e] X.env = [(false, eval e X.env)] := by rfl) :
    PI X (.Tuple elts kk tpos) (.Call (.Name "enumerate" p) [e] [] pos) (iE X.K k ta) where
  run := by
    intro pins s σ H R I h
    refine Call_ (ld_blt I hg hm boot_enumerate (PyProof.Rows.callWith_type1 (thn (ha.run pos pins s σ H _ I h) ?_) star rfl))
    rintro us s1 ⟨vs, H1, I1, rel, a, xs, rfl, hxs, r⟩
    rw [Vals.ref1 rel]
    obtain ⟨its, _, st, la⟩ := k.known I1 hxs
    refine enum_made (k.begins a its.toArray) st fun h1 ge gi same => wpAny_pyIter_enum ge ?_
    have I2 : Inv X pins σ H1 { s1 with heap := h1 } := I1.kept (t' := s1.toks) same
    have na : a ≠ s1.heap.objs.size := Nat.ne_of_lt la
    have ea : s1.heap.objs.size + 1 ≠ a := fun z => absurd la (by rw [← z]; exact Nat.not_lt.mpr (Nat.le_succ _))
    refine ⟨s1.heap.objs.size + 1, [s1.heap.objs.size + 1, s1.heap.objs.size], _, _, H1, rfl, I2, turnE na ea (Nat.succ_ne_self _), ⟨⟨.none, ge⟩, k.first gi⟩, fun b hb => ?_, r⟩
    have le : s1.heap.objs.size ≤ b := by
      rcases List.mem_cons.mp hb with rfl | hb
      · exact Nat.le_succ _
      · exact Nat.le_of_eq (List.mem_singleton.mp hb).symm
    exact I1.fpOk le (I1.hok.fresh le)
end Wd

set_option Elab.async false
set_option linter.all false
set_option maxRecDepth 100000
set_option maxHeartbeats 4000000
namespace Wd
open PySem PySem.Spec PyProof.Rows L2 WdM
/-! ### readings may be weakened -/
theorem PE.wk {X : Cx} {e : Expr} {t t' : TE} (h : PE X e t) (w : ∀ σ H Q, t' σ H Q → t σ H Q) : PE X e t' := ⟨fun pins s σ H Q I hw => h.run pins s σ H Q I (w _ _ _ hw)⟩
theorem PA.wk {X : Cx} {es : List Expr} {t t' : TA} (h : PA X es t) (w : ∀ σ H Q, t' σ H Q → t σ H Q) : PA X es t' := ⟨fun pos pins s σ H Q I hw => h.run pos pins s σ H Q I (w _ _ _ hw)⟩
theorem PT.wk {X : Cx} {e : Expr} {t t' : TT} (h : PT X e t) (w : ∀ σ H Q, t' σ H Q → t σ H Q) : PT X e t' := ⟨fun pins s σ H Q I hw => h.run pins s σ H Q I (w _ _ _ hw)⟩
theorem PS.wk {X : Cx} {st : Stmt} {t t' : TS} (h : PS X st t) (w : ∀ D σ H, t' D σ H → t D σ H) : PS X st t' := ⟨fun pins s σ H D I hw => h.run pins s σ H D I (w _ _ _ hw)⟩
theorem PSs.wk {X : Cx} {st : List Stmt} {t t' : TS} (h : PSs X st t) (w : ∀ D σ H, t' D σ H → t D σ H) : PSs X st t' := ⟨fun pins s σ H D I hw => h.run pins s σ H D I (w _ _ _ hw)⟩
theorem tyes {σ : L2.St} {H : Hp} {f : Bool → Hp → Prop} (h : f true H) : tYes σ H f := h
theorem bt_same1 {l : Addr} {H H' : Hp} (e : Bt [l] H H') (h : H l = none) : Same H H' := fun b o q => e b o (by simp [ne_of_none q h]) q
/-- the built-ins' names, which the top leaves alone -/
structure Bi (mg : Str → Option Value) : Prop where
  isi : mg "isinstance" = none
  int : mg "int" = none
  bool : mg "bool" = none
  str : mg "str" = none
  tuple : mg "tuple" = none
  list : mg "list" = none
  len : mg "len" = none
  abs : mg "abs" = none
  all : mg "all" = none
  any : mg "any" = none
  sum : mg "sum" = none
  enum : mg "enumerate" = none
  divmod : mg "divmod" = none
  range : mg "range" = none
  max : mg "max" = none
  min : mg "min" = none
  zip : mg "zip" = none
  repr : mg "repr" = none
section
variable {K : PySem.W.Frag}
/-! ### things of any kind -/
inductive Th (K : PySem.W.Frag) (H : Hp) : V → PyData → Prop
  | dp {x : V} {d : PyData} (h : Dp K H x d) : Th K H x d
  | nod {a : Addr} (h : H a = some (.dK [])) : Th K H (.ref a) (.dict [])
mutual
theorem dp_same {H H' : Hp} (e : Same H H') : ∀ {v : V} {d : PyData}, Dp K H v d → Dp K H' v d
  | _, _, .non => .non
  | _, _, .bl b => .bl b
  | _, _, .int i => .int i
  | _, _, .str x => .str x
  | _, _, .lst h a => .lst (e.seq h) (dpAll_same e a)
  | _, _, .tup h a => .tup ((tk_same e).sq h) (dpAll_same e a)
theorem dpAll_same {H H' : Hp} (e : Same H H') : ∀ {vs : List V} {ds : List PyData}, DpAll K H vs ds → DpAll K H' vs ds
  | _, _, .nil => .nil
  | _, _, .cons h t => .cons (dp_same e h) (dpAll_same e t)
end
theorem Th.same {H H' : Hp} {v : V} {d : PyData} (e : Same H H') (h : Th K H v d) : Th K H' v d := by
  cases h with
  | dp h => exact .dp (dp_same e h)
  | nod h => exact .nod (e _ _ h)
def tyN : PyData → String
  | .none => "NoneType"
  | .bool _ => "bool"
  | .int _ => "int"
  | .str _ => "str"
  | .list _ => "list"
  | .tuple _ => "tuple"
  | .dict _ => "dict"
theorem Th.ty {H : Hp} {v : V} {d : PyData} (h : Th K H v d) : TyX K H v (.type (tyN d)) := by
  cases h with
  | nod h => exact .base (.dK h)
  | dp h =>
    cases h with
    | non => exact .base .non
    | bl b => exact .base (.bl b)
    | int i => exact .base (.int i)
    | str x => exact .base (.str x)
    | lst h _ =>
      rcases h with (h | ⟨o, h⟩) | ⟨o, its, n, e, c, _⟩
      · exact .base (.lst h)
      · exact .base (.frz h)
      · exact .kList e c
    | tup h _ => exact tyT h
/-- whether a thing is an instance of a built-in class -/
def isaB (T : String) : PyData → Bool
  | .none => T == "NoneType"
  | .bool _ => T == "bool" || T == "int"
  | .int _ => T == "int"
  | .str _ => T == "str"
  | .list _ => T == "list"
  | .tuple _ => T == "tuple"
  | .dict _ => T == "dict"
theorem kit_all : ∀ T ∈ ["int", "bool", "str", "tuple", "list"], kitB "NoneType" T = some (T == "NoneType") ∧ kitB "bool" T = some (T == "bool" || T == "int") ∧ kitB "int" T = some (T == "int") ∧ kitB "str" T = some (T == "str") ∧ kitB "list" T = some (T == "list") ∧ kitB "tuple" T = some (T == "tuple") ∧ kitB "dict" T = some (T == "dict") := by
  decide +kernel
theorem kit_isa {T : String} (h : T ∈ ["int", "bool", "str", "tuple", "list"]) (d : PyData) : PySem.W.kitOne K (.type (tyN d)) (.type T) = some (isaB T d) := by
  obtain ⟨a0, a1, a2, a3, a4, a5, a6⟩ := kit_all T h
  cases d
  · exact kit_ty a0
  · exact kit_ty a1
  · exact kit_ty a2
  · exact kit_ty a3
  · exact kit_ty a4
  · exact kit_ty a5
  · exact kit_ty a6
def strB : PyData → Bool
  | .str _ => true
  | _ => false
def tupB : PyData → Bool
  | .tuple _ => true
  | _ => false
def wholeB : PyData → Bool
  | .int _ => true
  | _ => false
theorem kit_str (d : PyData) : PySem.W.kitOne K (.type (tyN d)) (.type "str") = some (strB d) := by
  rw [kit_isa (by decide) d]
  cases d <;> rfl
theorem kit_tup (d : PyData) : PySem.W.kitOne K (.type (tyN d)) (.type "tuple") = some (tupB d) := by
  rw [kit_isa (by decide) d]
  cases d <;> rfl
theorem kit_whole (d : PyData) : ∃ b1 b2, PySem.W.kitOne K (.type (tyN d)) (.type "int") = some b1 ∧ PySem.W.kitOne K (.type (tyN d)) (.type "bool") = some b2 ∧ (b1 && !b2) = wholeB d := by
  refine ⟨_, _, kit_isa (by decide) d, kit_isa (by decide) d, ?_⟩
  cases d <;> rfl
theorem str_of {d : PyData} (h : strB d = true) : ∃ z, d = .str z := by
  cases d with
  | str z => exact ⟨z, rfl⟩
  | _ => cases h
theorem tup_of {d : PyData} (h : tupB d = true) : ∃ ds, d = .tuple ds := by
  cases d with
  | tuple ds => exact ⟨ds, rfl⟩
  | _ => cases h
theorem whole_of {d : PyData} (h : wholeB d = true) : ∃ i, d = .int i := by
  cases d with
  | int i => exact ⟨i, rfl⟩
  | _ => cases h
theorem th_str {H : Hp} {v : V} {z : Str} (h : Th K H v (.str z)) : v = .str z := by
  cases h with
  | dp h => cases h; rfl
theorem th_tup {H : Hp} {v : V} {ds : List PyData} (h : Th K H v (.tuple ds)) : ∃ a xs, v = .ref a ∧ SqT K H a xs ∧ DpAll K H xs ds := by
  cases h with
  | dp h => cases h with | tup hs hd => exact ⟨_, _, rfl, hs, hd⟩
theorem dpAll_len {H : Hp} : ∀ {xs : List V} {ds : List PyData}, DpAll K H xs ds → xs.length = ds.length
  | _, _, .nil => rfl
  | _, _, .cons _ t => congrArg (· + 1) (dpAll_len t)
end
/-! ### names -/
def lettersS : Str := "abcdefghijklmnopqrstuvwxyz"
def noNames : List V := [.str "all", .str "and", .str "children", .str "childless", .str "crown", .str "else", .str "if", .str "lives", .str "not", .str "of", .str "or", .str "stock", .str "to"]
def letB (c : Nat) : Bool := decide (c ∈ lettersS.cps.toList)
def nmB (z : Str) : Bool := decide (1 ≤ z.length ∧ z.length ≤ 8) && !inV (.str z) noNames && z.cps.toList.all letB
def nameB : PyData → Bool
  | .str z => nmB z
  | _ => false
theorem name_no {d : PyData} (h : strB d = false) : nameB d = false := by
  cases d <;> first | rfl | cases h
/-- texts that are not too long -/
def Short (d : PyData) : Prop := ∀ z, d = .str z → z.length ≤ 1000
theorem ixN_nat {n i : Nat} (h : i < n) : ixN n (i : Int) = some i := by
  unfold ixN
  rw [if_pos (by omega), if_pos (by omega)]
  rfl
theorem small_len {n : Nat} (h : n ≤ 1000) : n ≤ sizeLine := Nat.le_trans h (by decide)
end Wd

set_option Elab.async false
set_option linter.all false
set_option maxRecDepth 100000
set_option maxHeartbeats 4000000
namespace Wd
open PySem PySem.Spec PyProof.Rows L2 WdM
/-- what the top has written of an own error with one field: the class x at C, its __init__ at fI; CW its family -/
structure ErC (K : PySem.W.Frag) (mg : Str → Option Value) (x fld : Str) (C fI CW : Addr) : Prop where
  o : OexC K C
  no : PySem.W.findIn K (.ref C) fld = some none
  i : PySem.W.findIn K (.ref C) "__init__" = some (some (.ref fI))
  t : PySem.W.typeIn K (.ref fI) = some (.type "function")
  g : mg x = some (.ref C)
  m : PySem.W.exmOne K (.ref C) (.ref CW) = some true
  c : ExcC K C
  f : XfC K C
def spInitE (C : Addr) (fld : Str) : Sp := fun vs H Q _ => ∃ (a : Addr) (y : V), vs = [.ref a, y] ∧ H a = some (exo a C none) ∧ ∀ dx, H dx = none → dx ≠ a → Q .non (upd (upd H dx (exd dx [(fld, y)])) a (exo a C (some dx)))
theorem heap_made {H : Hp} {a dx : Addr} {o1 o2 o3 o4 : HO} (ha : H a = none) (ne : dx ≠ a) : upd (del (upd (upd (upd H a o1) dx o2) a o3) a) dx o4 = upd H dx o4 := by
  funext b
  by_cases h1 : b = dx
  · rw [h1, upd_same, upd_same]
  · rw [upd_ne h1, upd_ne h1]
    by_cases h2 : b = a
    · rw [h2, del_same, ha]
    · rw [del_ne h2, upd_ne h2, upd_ne h1, upd_ne h2]
theorem raise_var {C : Addr} {fld : Str} {i : Nat} {x : V} {H : Hp} {σ : L2.St} {R : XK} (h0 : σ[i]? = some (some x)) (hq : ∀ dd, H dd = none → R (.ref C) (some dd) (upd H dd (.xd [(fld, x)]))) : tMkO C (spInitE C fld) [] (tCons (tVar i) tNil) σ H R :=
  ⟨x, h0, by show 1 ≤ 1000; decide, fun e ne => ⟨e, x, rfl, upd_same, fun dx h1 h2 => ⟨rfl, dx, [(fld, x)], upd_same, by rw [upd_ne h2, upd_same], by rw [upd_ne h2] at h1; exact h1, by
    rw [heap_made ne h2]
    exact hq dx (by rw [upd_ne h2] at h1; exact h1)⟩⟩⟩
end Wd

set_option Elab.async false
set_option linter.all false
set_option maxRecDepth 100000
set_option maxHeartbeats 4000000
namespace Wd
open PySem PySem.Spec PyProof.Rows L2 WdM
/-! ### displays of values that are all of one sort -/
section
variable {X : Cx} {R : L2.St → Hp → Prop} {Bd : Hp → V → Prop} {e : Expr} {es : List Expr} {n : Nat}
/-- where R holds, a value that is Bd -/
def tB (R : L2.St → Hp → Prop) (Bd : Hp → V → Prop) : TE := fun σ H Q => R σ H ∧ ∀ v H', Same H H' → Bd H' v → Q v H'
def taB (R : L2.St → Hp → Prop) (Bd : Hp → V → Prop) (n : Nat) : TA := fun σ H Q => R σ H ∧ ∀ xs H', Same H H' → xs.length = n → (∀ x ∈ xs, Bd H' x) → Q xs H'
def tlB (R : L2.St → Hp → Prop) (Bd : Hp → V → Prop) (n : Nat) : TE := fun σ H Q => R σ H ∧ ∀ p xs H', Same H H' → H' p = none → xs.length = n → (∀ x ∈ xs, Bd H' x) → Q (.ref p) (upd H' p (.lst xs))
/-- kept where the heap grows -/
structure Kp (R : L2.St → Hp → Prop) (Bd : Hp → V → Prop) : Prop where
  r : ∀ σ H H', Same H H' → R σ H → R σ H'
  b : ∀ H H' v, Same H H' → Bd H v → Bd H' v
theorem paB_nil : PA X [] (taB R Bd 0) := PA.wk pa_nil fun σ H Q ⟨_, q⟩ => q [] H (Same.refl H) rfl (fun x hx => nomatch hx)
theorem paB_cons (k : Kp R Bd) (h : PE X e (tB R Bd)) (t : PA X es (taB R Bd n)) (hs : starEach (e :: es) X.env = (false, eval e X.env) :: starEach es X.env := by rfl) : PA X (e :: es) (taB R Bd (n + 1)) :=
  PA.wk (pa_cons h t hs) fun σ H Q ⟨r, q⟩ => ⟨r, fun v H1 s1 b1 => ⟨k.r _ _ _ s1 r, fun xs H2 s2 l2 b2 => q (v :: xs) H2 (s1.trans s2) (by rw [List.length_cons, l2]) (fun x hx => by
    rcases List.mem_cons.mp hx with rfl | hx
    · exact k.b _ _ _ s2 b1
    · exact b2 x hx)⟩⟩
theorem peB_lst {pos : Pos} (t : PA X es (taB R Bd n)) (hn : n ≤ sizeLine) : PE X (.List es pos) (tlB R Bd n) :=
  PE.wk (pe_lst t) fun σ H Q ⟨r, q⟩ => ⟨r, fun xs H1 s1 l1 b1 => ⟨by rw [l1]; exact hn, fun p np => q p xs _ s1 np l1 b1⟩⟩
end
def RT : L2.St → Hp → Prop := fun _ _ => True
section
variable {K : PySem.W.Frag} {X : Cx}
/-- a thing whose texts aren't too long -/
def ThS (K : PySem.W.Frag) (H : Hp) (v : V) : Prop := ∃ d, Th K H v d ∧ Short d
theorem kpS : Kp RT (ThS K) := ⟨fun _ _ _ _ _ => trivial, fun _ _ _ e ⟨d, th, n⟩ => ⟨d, th.same e, n⟩⟩
theorem short_of {d : PyData} (h : strB d = false) : Short d := fun z e => by rw [e] at h; cases h
/-- texts of at most b signs -/
def StrL (b : Nat) (v : V) : Prop := ∃ z : Str, v = .str z ∧ z.length ≤ b
theorem StrL.th {b : Nat} {v : V} {H : Hp} (h : StrL b v) (hb : b ≤ 1000) : ThS K H v := by
  obtain ⟨z, rfl, l⟩ := h
  exact ⟨.str z, .dp (.str z), fun y e => by cases e; omega⟩
theorem at_of {P : V → Prop} {xs : List V} {d : Int} (h : ∀ x ∈ xs, P x) (d0 : 0 ≤ d) (d1 : d < xs.length) : ∃ v, atI xs d = some v ∧ P v := by
  obtain ⟨n, rfl⟩ := Int.eq_ofNat_of_zero_le d0
  have hn : n < xs.length := by omega
  exact ⟨xs[n], atI_nat (List.getElem?_eq_getElem hn), h _ (List.getElem_mem hn)⟩
end
end Wd

set_option Elab.async false
set_option linter.all false
set_option maxRecDepth 100000
set_option maxHeartbeats 4000000
namespace Wd
open PySem PySem.Spec PyProof.Rows L2 WdM
/-- what is never reached, by a name -/
def tsNo : TS := fun _ _ _ => False
theorem pss_noS {X : Cx} {st : List Stmt} : PSs X st tsNo := ⟨fun _ _ _ _ _ _ h => h.elim⟩
/-! ### data with empty dicts in it; its lists and dicts aren't at the places S -/
mutual
inductive Dz (S : List Addr) (K : PySem.W.Frag) (H : Hp) : V → PyData → Prop
  | non : Dz S K H .non .none
  | bl (b : Bool) : Dz S K H (.bl b) (.bool b)
  | int (i : Int) : Dz S K H (.int i) (.int i)
  | str (x : Str) : Dz S K H (.str x) (.str x)
  | lst {a : Addr} {xs : List V} {ds : List PyData} (n : a ∉ S) (h : SqL K H a xs) (t : DzAll S K H xs ds) : Dz S K H (.ref a) (.list ds)
  | tup {a : Addr} {xs : List V} {ds : List PyData} (h : SqT K H a xs) (t : DzAll S K H xs ds) : Dz S K H (.ref a) (.tuple ds)
  | nod {a : Addr} (n : a ∉ S) (h : H a = some (.dK [])) : Dz S K H (.ref a) (.dict [])
inductive DzAll (S : List Addr) (K : PySem.W.Frag) (H : Hp) : List V → List PyData → Prop
  | nil : DzAll S K H [] []
  | cons {v : V} {vs : List V} {d : PyData} {ds : List PyData} (h : Dz S K H v d) (t : DzAll S K H vs ds) : DzAll S K H (v :: vs) (d :: ds)
end
section
variable {S : List Addr} {K : PySem.W.Frag}
structure Stay (S : List Addr) (K : PySem.W.Frag) (H H' : Hp) : Prop where
  l : ∀ a xs, a ∉ S → SqL K H a xs → SqL K H' a xs
  t : ∀ a xs, SqT K H a xs → SqT K H' a xs
  d : ∀ a, a ∉ S → H a = some (.dK []) → H' a = some (.dK [])
mutual
theorem dz_stay {H H' : Hp} (e : Stay S K H H') : ∀ {v : V} {d : PyData}, Dz S K H v d → Dz S K H' v d
  | _, _, .non => .non
  | _, _, .bl b => .bl b
  | _, _, .int i => .int i
  | _, _, .str x => .str x
  | _, _, .lst n h a => .lst n (e.l _ _ n h) (dzAll_stay e a)
  | _, _, .tup h a => .tup (e.t _ _ h) (dzAll_stay e a)
  | _, _, .nod n h => .nod n (e.d _ n h)
theorem dzAll_stay {H H' : Hp} (e : Stay S K H H') : ∀ {vs : List V} {ds : List PyData}, DzAll S K H vs ds → DzAll S K H' vs ds
  | _, _, .nil => .nil
  | _, _, .cons h t => .cons (dz_stay e h) (dzAll_stay e t)
end
theorem stay_same {H H' : Hp} (e : Same H H') : Stay S K H H' := ⟨fun a xs _ h => e.seq h, fun a xs h => (tk_same e).sq h, fun a _ h => e _ _ h⟩
theorem stay_bt {H H' : Hp} (e : Bt S H H') (hl : ∀ a ∈ S, ∃ zs, H a = some (.lst zs)) : Stay S K H H' := ⟨fun a xs n h => by
  rcases h with (h | ⟨o, h⟩) | h
  · exact .inl (.inl (e _ _ n h))
  · exact .inl (.inr ⟨o, e _ _ n h⟩)
  · exact .inr h, fun a xs h => (e.tk hl).sq h, fun a n h => e _ _ n h⟩
theorem Dz.same {H H' : Hp} {v : V} {d : PyData} (h : Dz S K H v d) (e : Same H H') : Dz S K H' v d := dz_stay (stay_same e) h
theorem DzAll.same {H H' : Hp} {v : List V} {d : List PyData} (h : DzAll S K H v d) (e : Same H H') : DzAll S K H' v d := dzAll_stay (stay_same e) h
mutual
theorem Dz.less {H : Hp} : ∀ {v : V} {d : PyData}, Dz S K H v d → Dz [] K H v d
  | _, _, .non => .non
  | _, _, .bl b => .bl b
  | _, _, .int i => .int i
  | _, _, .str x => .str x
  | _, _, .lst n h a => .lst (by simp) h a.less
  | _, _, .tup h a => .tup h a.less
  | _, _, .nod n h => .nod (by simp) h
theorem DzAll.less {H : Hp} : ∀ {vs : List V} {ds : List PyData}, DzAll S K H vs ds → DzAll [] K H vs ds
  | _, _, .nil => .nil
  | _, _, .cons h t => .cons h.less t.less
end
theorem Dz.ty {H : Hp} {v : V} {d : PyData} (h : Dz S K H v d) : TyX K H v (.type (tyN d)) := by
  cases h with
  | non => exact .base .non
  | bl b => exact .base (.bl b)
  | int i => exact .base (.int i)
  | str x => exact .base (.str x)
  | lst _ h _ =>
    rcases h with (h | ⟨o, h⟩) | ⟨o, its, n, e, c, _⟩
    · exact .base (.lst h)
    · exact .base (.frz h)
    · exact .kList e c
  | tup h _ => exact tyT h
  | nod _ h => exact .base (.dK h)
theorem dz_str {H : Hp} {v : V} {z : Str} (h : Dz S K H v (.str z)) : v = .str z := by cases h; rfl
theorem dz_tup {H : Hp} {v : V} {ds : List PyData} (h : Dz S K H v (.tuple ds)) : ∃ a xs, v = .ref a ∧ SqT K H a xs ∧ DzAll S K H xs ds := by
  cases h with
  | tup h t => exact ⟨_, _, rfl, h, t⟩
theorem DzAll.len {H : Hp} : ∀ {xs : List V} {ds : List PyData}, DzAll S K H xs ds → xs.length = ds.length
  | _, _, .nil => rfl
  | _, _, .cons _ t => congrArg (· + 1) t.len
theorem DzAll.get {H : Hp} : ∀ {xs : List V} {ds : List PyData} {i : Nat} {x : V}, DzAll S K H xs ds → xs[i]? = some x → ∃ d, ds[i]? = some d ∧ Dz S K H x d
  | _, _, 0, _, .cons h t, e => by cases e; exact ⟨_, rfl, h⟩
  | _, _, i + 1, _, .cons h t, e => t.get (i := i) e
  | _, _, 0, _, .nil, e => by cases e
  | _, _, i + 1, _, .nil, e => by cases e
theorem DzAll.app {H : Hp} : ∀ {xs ys : List V} {ds es : List PyData}, DzAll S K H xs ds → DzAll S K H ys es → DzAll S K H (xs ++ ys) (ds ++ es)
  | _, _, _, _, .nil, q => q
  | _, _, _, _, .cons h t, q => .cons h (t.app q)
theorem DzAll.take {H : Hp} : ∀ {xs : List V} {ds : List PyData} (n : Nat), DzAll S K H xs ds → DzAll S K H (xs.take n) (ds.take n)
  | _, _, 0, _ => by simp only [List.take_zero]; exact .nil
  | _, _, n + 1, .nil => .nil
  | _, _, n + 1, .cons h t => .cons h (t.take n)
theorem DzAll.drop {H : Hp} : ∀ {xs : List V} {ds : List PyData} (n : Nat), DzAll S K H xs ds → DzAll S K H (xs.drop n) (ds.drop n)
  | _, _, 0, h => h
  | _, _, n + 1, .nil => .nil
  | _, _, n + 1, .cons h t => t.drop n
theorem DzAll.rev {H : Hp} : ∀ {xs : List V} {ds : List PyData}, DzAll S K H xs ds → DzAll S K H xs.reverse ds.reverse
  | _, _, .nil => .nil
  | _, _, .cons h t => by simp only [List.reverse_cons]; exact t.rev.app (.cons h .nil)
theorem DzAll.two {H : Hp} {xs : List V} {ds : List PyData} (h : DzAll S K H xs ds) (l : xs.length = 2) : ∃ x1 x2 d1 d2, xs = [x1, x2] ∧ ds = [d1, d2] ∧ Dz S K H x1 d1 ∧ Dz S K H x2 d2 := by
  cases h with
  | nil => cases l
  | cons h1 t =>
    cases t with
    | nil => cases l
    | cons h2 t =>
      cases t with
      | nil => exact ⟨_, _, _, _, rfl, rfl, h1, h2⟩
      | cons _ _ => simp only [List.length_cons] at l; omega
end
/-- what is asked of a thing at the door -/
structure Is (K : PySem.W.Frag) (H : Hp) (v : V) (d : PyData) : Prop where
  ty0 : ∀ H', Same H H' → TyX K H' v (.type (tyN d))
  str : ∀ z, d = .str z → v = .str z
theorem Is.ty {K : PySem.W.Frag} {H : Hp} {v : V} {d : PyData} (h : Is K H v d) : TyX K H v (.type (tyN d)) := h.ty0 H (Same.refl H)
theorem Dz.is {S : List Addr} {K : PySem.W.Frag} {H : Hp} {v : V} {d : PyData} (h : Dz S K H v d) : Is K H v d := ⟨fun _ e => (h.same e).ty, fun z e => by subst e; exact dz_str h⟩
theorem Th.is {K : PySem.W.Frag} {H : Hp} {v : V} {d : PyData} (h : Th K H v d) : Is K H v d := ⟨fun _ e => (h.same e).ty, fun z e => by subst e; exact th_str h⟩
/-! ### data that is small: depth n, b: lists, no dicts; else dicts, no lists -/
def okS (x : Str) : Prop := ∀ c ∈ x.cps.toList, c < 1114112
def Fine (b : Bool) : Nat → PyData → Prop
  | _, .none => True
  | _, .bool _ => True
  | _, .int i => -1 ≤ i ∧ i ≤ 1
  | _, .str x => okS x ∧ x.length ≤ 30
  | 0, .list _ => False
  | 0, .tuple _ => False
  | 0, .dict _ => False
  | n + 1, .list ds => b = true ∧ ds.length ≤ 8 ∧ ∀ d ∈ ds, Fine b n d
  | n + 1, .tuple ds => ds.length ≤ 8 ∧ ∀ d ∈ ds, Fine b n d
  | _ + 1, .dict [] => b = false
  | _ + 1, .dict (_ :: _) => False
theorem Fine.up {b : Bool} : ∀ {n : Nat} {d : PyData}, Fine b n d → Fine b (n + 1) d
  | n, .none, _ => trivial
  | n, .bool _, _ => trivial
  | n, .int _, h => by cases n <;> exact h
  | n, .str _, h => by cases n <;> exact h
  | n + 1, .list ds, h => ⟨h.1, h.2.1, fun d hd => (h.2.2 d hd).up⟩
  | n + 1, .tuple ds, h => ⟨h.1, fun d hd => (h.2 d hd).up⟩
  | n + 1, .dict [], h => h
  | n + 1, .dict (_ :: _), h => h.elim
theorem Fine.mono {b : Bool} {n : Nat} {d : PyData} (h : Fine b n d) : ∀ {m : Nat}, n ≤ m → Fine b m d := by
  intro m hm
  induction hm with
  | refl => exact h
  | step _ ih => exact ih.up
theorem Fine.short {b : Bool} {n : Nat} {d : PyData} (h : Fine b n d) : Short d := fun z e => by
  subst e
  have h : okS z ∧ z.length ≤ 30 := by cases n <;> exact h
  omega
theorem Fine.mem {b : Bool} {n : Nat} {ds : List PyData} {d : PyData} (h : Fine b n (.tuple ds)) (m : d ∈ ds) : ∃ n, Fine b n d := by
  cases n with
  | zero => exact h.elim
  | succ n => exact ⟨n, h.2 d m⟩
/-- small, in either way -/
def Fin (d : PyData) : Prop := ∃ b n, Fine b n d
theorem Fin.short {d : PyData} (h : Fin d) : Short d := h.elim fun _ h => h.elim fun _ h => h.short
theorem Fin.mem {ds : List PyData} {d : PyData} (h : Fin (.tuple ds)) (m : d ∈ ds) : Fin d := by
  obtain ⟨b, n, h⟩ := h
  exact ⟨b, h.mem m⟩
theorem Fin.len {ds : List PyData} (h : Fin (.tuple ds)) : ds.length ≤ 8 := by
  obtain ⟨b, n, h⟩ := h
  cases n with
  | zero => exact h.elim
  | succ n => exact h.1
def LL : Nat → Nat
  | 0 => 302
  | n + 1 => 8 * (LL n + 2) + 3
theorem LL_up (n : Nat) : LL n ≤ LL (n + 1) := by
  show LL n ≤ 8 * (LL n + 2) + 3
  omega
theorem piled_le {B : Nat} : ∀ {ts : List Str}, (∀ t ∈ ts, t.length ≤ B) → piled ts ≤ ts.length * (B + 2)
  | [], _ => by simp [piled]
  | t :: ts, h => by
    rw [piled_cons, List.length_cons, Nat.succ_mul]
    have h1 := h t List.mem_cons_self
    have h2 := piled_le (ts := ts) fun x hx => h x (List.mem_cons_of_mem _ hx)
    omega
theorem from_le : ∀ (ts : List Str) (k : Nat) (acc : Str), (textFrom k acc ts).length ≤ acc.length + piled ts
  | [], k, acc => by simp [textFrom, piled]
  | t :: ts, k, acc => by
    have ih := from_le ts (k + 1) (acc ++ (if k > 0 then ", " else "" : String) ++ t)
    rw [piled_cons]
    have e : (acc ++ (if k > 0 then ", " else "" : String) ++ t).length ≤ acc.length + (2 + t.length) := by
      rw [strLen_append, strLen_append]
      have : (((if k > 0 then ", " else "" : String) : Str)).length ≤ 2 := by
        split <;> decide
      omega
    show (textFrom (k + 1) _ ts).length ≤ _
    omega
theorem list_le {B : Nat} {ts : List Str} (h : ∀ t ∈ ts, t.length ≤ B) (l : ts.length ≤ 8) : (listText ts).length ≤ 8 * (B + 2) + 3 := by
  unfold listText
  rw [strLen_append]
  have a := from_le ts 0 "["
  have b := piled_le h
  have c : ts.length * (B + 2) ≤ 8 * (B + 2) := Nat.mul_le_mul_right _ l
  have d : ("[" : Str).length = 1 := by decide
  have e : ("]" : Str).length = 1 := by decide
  omega
theorem tuple_le {B : Nat} {ts : List Str} (h : ∀ t ∈ ts, t.length ≤ B) (l : ts.length ≤ 8) : (tupleText ts).length ≤ 8 * (B + 2) + 3 := by
  unfold tupleText
  rw [strLen_append, strLen_append]
  have b := piled_le h
  have c : ts.length * (B + 2) ≤ 8 * (B + 2) := Nat.mul_le_mul_right _ l
  have d : ("(" : Str).length = 1 := by decide
  have e : (((if ts.length == 1 then ",)" else ")" : String) : Str)).length ≤ 2 := by split <;> decide
  by_cases z : ts = []
  · subst z
    have : (Str.join ", " []).length = 0 := by decide
    omega
  · have := join_length_add ts z
    omega
theorem shownAll_eq : ∀ ds : List PyData, PyData.shownAll ds = ds.map PyData.shown
  | [] => by simp [PyData.shownAll]
  | d :: ds => by simp only [PyData.shownAll, List.map_cons, shownAll_eq ds]
theorem showableAll_eq : ∀ {ds : List PyData}, (∀ d ∈ ds, PyData.showable d = true) → PyData.showableAll ds = true
  | [], _ => by simp [PyData.showableAll]
  | d :: ds, h => by
    simp only [PyData.showableAll, h d List.mem_cons_self, Bool.true_and]
    exact showableAll_eq fun x hx => h x (List.mem_cons_of_mem _ hx)
theorem depthAll_le {n : Nat} : ∀ {ds : List PyData}, (∀ d ∈ ds, PyData.depth d ≤ n) → PyData.depthAll ds ≤ n
  | [], _ => by simp [PyData.depthAll]
  | d :: ds, h => by
    simp only [PyData.depthAll]
    exact Nat.max_le.mpr ⟨h d List.mem_cons_self, depthAll_le fun x hx => h x (List.mem_cons_of_mem _ hx)⟩
theorem hasDictAll_no : ∀ {ds : List PyData}, (∀ d ∈ ds, PyData.hasDict d = false) → PyData.hasDictAll ds = false
  | [], _ => by simp [PyData.hasDictAll]
  | d :: ds, h => by
    simp only [PyData.hasDictAll, h d List.mem_cons_self, Bool.false_or]
    exact hasDictAll_no fun x hx => h x (List.mem_cons_of_mem _ hx)
theorem Fine.shown {b : Bool} : ∀ {n : Nat} {d : PyData}, Fine b n d → (PyData.shown d).length ≤ LL n ∧ PyData.showable d = true ∧ PyData.depth d ≤ n ∧ (b = true → PyData.hasDict d = false) := by
  have l0 : ∀ n, 302 ≤ LL n := fun n => by
    induction n with
    | zero => exact Nat.le_refl _
    | succ n ih => exact Nat.le_trans ih (LL_up n)
  intro n
  induction n with
  | zero =>
    intro d h
    cases d with
    | none => exact ⟨by simp only [PyData.shown]; decide, by simp [PyData.showable], by simp [PyData.depth], fun _ => by simp [PyData.hasDict]⟩
    | bool c => exact ⟨by simp only [PyData.shown]; cases c <;> decide, by simp [PyData.showable], by simp [PyData.depth], fun _ => by simp [PyData.hasDict]⟩
    | int i =>
      have h : -1 ≤ i ∧ i ≤ 1 := h
      have : i = -1 ∨ i = 0 ∨ i = 1 := by omega
      rcases this with rfl | rfl | rfl <;> exact ⟨by simp only [PyData.shown]; decide, by simp only [PyData.showable]; decide, by simp [PyData.depth], fun _ => by simp [PyData.hasDict]⟩
    | str x =>
      have h : okS x ∧ x.length ≤ 30 := h
      refine ⟨?_, by simp [PyData.showable], by simp [PyData.depth], fun _ => by simp [PyData.hasDict]⟩
      simp only [PyData.shown]
      have := StrLaws.reprText_len x (fun c hc => Nat.lt_of_lt_of_le (h.1 c hc) (by decide))
      show _ ≤ 302
      omega
    | list ds => exact h.elim
    | tuple ds => exact h.elim
    | dict ds => exact h.elim
  | succ n ih =>
    intro d h
    cases d with
    | none => exact ⟨Nat.le_trans (by simp only [PyData.shown]; decide) (l0 _), by simp [PyData.showable], by simp [PyData.depth], fun _ => by simp [PyData.hasDict]⟩
    | bool c => exact ⟨Nat.le_trans (by simp only [PyData.shown]; cases c <;> decide) (l0 _), by simp [PyData.showable], by simp [PyData.depth], fun _ => by simp [PyData.hasDict]⟩
    | int i =>
      have h : -1 ≤ i ∧ i ≤ 1 := h
      have : i = -1 ∨ i = 0 ∨ i = 1 := by omega
      rcases this with rfl | rfl | rfl <;> exact ⟨Nat.le_trans (by simp only [PyData.shown]; decide) (l0 _), by simp only [PyData.showable]; decide, by simp [PyData.depth], fun _ => by simp [PyData.hasDict]⟩
    | str x =>
      have h : okS x ∧ x.length ≤ 30 := h
      refine ⟨?_, by simp [PyData.showable], by simp [PyData.depth], fun _ => by simp [PyData.hasDict]⟩
      simp only [PyData.shown]
      have := StrLaws.reprText_len x (fun c hc => Nat.lt_of_lt_of_le (h.1 c hc) (by decide))
      have := l0 (n + 1)
      omega
    | list ds =>
      have h : b = true ∧ ds.length ≤ 8 ∧ ∀ d ∈ ds, Fine b n d := h
      refine ⟨?_, ?_, ?_, fun hb => ?_⟩
      · simp only [PyData.shown, shownAll_eq]
        exact list_le (fun t ht => by obtain ⟨d, hd, rfl⟩ := List.mem_map.mp ht; exact (ih (h.2.2 d hd)).1) (by rw [List.length_map]; exact h.2.1)
      · simp only [PyData.showable]
        exact showableAll_eq fun d hd => (ih (h.2.2 d hd)).2.1
      · simp only [PyData.depth]
        have := depthAll_le fun d hd => (ih (h.2.2 d hd)).2.2.1
        omega
      · simp only [PyData.hasDict]
        exact hasDictAll_no fun d hd => (ih (h.2.2 d hd)).2.2.2 hb
    | tuple ds =>
      have h : ds.length ≤ 8 ∧ ∀ d ∈ ds, Fine b n d := h
      refine ⟨?_, ?_, ?_, fun hb => ?_⟩
      · simp only [PyData.shown, shownAll_eq]
        exact tuple_le (fun t ht => by obtain ⟨d, hd, rfl⟩ := List.mem_map.mp ht; exact (ih (h.2 d hd)).1) (by rw [List.length_map]; exact h.1)
      · simp only [PyData.showable]
        exact showableAll_eq fun d hd => (ih (h.2 d hd)).2.1
      · simp only [PyData.depth]
        have := depthAll_le fun d hd => (ih (h.2 d hd)).2.2.1
        omega
      · simp only [PyData.hasDict]
        exact hasDictAll_no fun d hd => (ih (h.2 d hd)).2.2.2 hb
    | dict kvs =>
      cases kvs with
      | nil =>
        have h : b = false := h
        refine ⟨Nat.le_trans ?_ (l0 _), by simp [PyData.showable, PyData.showableKv], by simp [PyData.depth, PyData.depthKv], fun hb => by rw [h] at hb; cases hb⟩
        simp only [PyData.shown, PyData.shownKv]
        decide
      | cons kv r => exact h.elim
theorem LL5 : LL 5 ≤ sizeLine := by decide
/-! ### such data in the machine's heap -/
section
variable {S : List Addr} {X : Cx} {pins : List (Addr × Obj)} {σ : L2.St} {H : Hp} {s : Shared}
mutual
theorem Dz.reads (I : Inv X pins σ H s) : ∀ (d : PyData) (v : V) (u : Value), Dz S X.K H v d → RelV v u → ∃ as, Reads s.heap u d as ∧ ∀ n, Fine false n d → sysModules ∉ as
  | .none, _, _, h, r => by
    cases h; cases r
    exact ⟨_, .none, fun _ _ => by simp⟩
  | .bool b, _, _, h, r => by
    cases h; cases r
    exact ⟨_, .bool b, fun _ _ => by simp⟩
  | .int i, _, _, h, r => by
    cases h
    obtain ⟨t, rfl⟩ := r
    exact ⟨_, .int i t, fun _ _ => by simp⟩
  | .str x, _, _, h, r => by
    cases h
    obtain ⟨t, rfl⟩ := r
    exact ⟨_, .str x t, fun _ _ => by simp⟩
  | .list ds, _, _, h, r => by
    cases h with
    | lst _ hs ha =>
      cases r
      obtain ⟨its, rv, ⟨o, n, ho, hc, _, hd⟩, _⟩ := I.list hs
      obtain ⟨as, hr, _⟩ := Dz.readsAll I ds _ its ha rv
      refine ⟨_, .list ho hc hd hr, fun n f => ?_⟩
      cases n with
      | zero => exact f.elim
      | succ n => exact nomatch f.1
  | .tuple ds, _, _, h, r => by
    cases h with
    | tup hs ha =>
      cases r
      obtain ⟨its, rv, ⟨o, ho, hc, n, hd⟩, _⟩ := I.tuple hs
      obtain ⟨as, hr, no⟩ := Dz.readsAll I ds _ its ha rv
      refine ⟨_, .tuple ho hc hd hr, fun n f => ?_⟩
      cases n with
      | zero => exact f.elim
      | succ n => exact no n f.2
  | .dict kvs, _, _, h, r => by
    cases h with
    | nod _ h =>
      cases r
      obtain ⟨q, n⟩ := reads_nod I.hok h
      exact ⟨_, q, fun _ _ => n⟩
theorem Dz.readsAll (I : Inv X pins σ H s) : ∀ (ds : List PyData) (vs : List V) (us : List Value), DzAll S X.K H vs ds → Vals vs us → ∃ as, ReadsAll s.heap us ds as ∧ ∀ n, (∀ d ∈ ds, Fine false n d) → sysModules ∉ as
  | [], _, _, h, r => by
    cases h; cases r
    exact ⟨_, .nil, fun _ _ => by simp⟩
  | d :: ds, _, _, h, r => by
    cases h with
    | cons h1 h2 =>
      cases r with
      | cons r1 r2 =>
        obtain ⟨as, q1, n1⟩ := Dz.reads I d _ _ h1 r1
        obtain ⟨bs, q2, n2⟩ := Dz.readsAll I ds _ _ h2 r2
        exact ⟨_, .cons q1 q2, fun n f m => (List.mem_append.mp m).elim (n1 n (f d List.mem_cons_self)) (n2 n fun x hx => f x (List.mem_cons_of_mem _ hx))⟩
end
end
def rReprZ (K : PySem.W.Frag) : List V → Hp → VK → Prop := fun xs H Q => ∃ x d b, xs = [x] ∧ Dz [] K H x d ∧ Fine b 5 d ∧ Q (.str d.shown) H
theorem call_reprZ {X : Cx} (gs : X.A.guards = some []) (hu : X.A.units + 64 < cLine) : CallR X (.builtin "repr") (rReprZ X.K) := by
  rintro pins s σ H _ us Q I rel ⟨x, d, b, rfl, dz, fine, want⟩
  obtain ⟨len, sh, dep, nd⟩ := fine.shown
  have len : d.shown.length ≤ sizeLine := Nat.le_trans len LL5
  cases rel with
  | cons ru rn =>
    cases rn
    rename_i u
    obtain ⟨as, r, sm⟩ := Dz.reads I d _ u dz ru
    have sm : d.hasDict = true → sysModules ∉ as := fun h => by
      cases b with
      | true => rw [nd rfl] at h; cases h
      | false => exact sm 5 fine
    have boxed : ∀ a : Addr, Reads s.heap (.ref a) d as → wpAny (model X.prog X.w) X.A (call (.builtin "repr") [.ref a]) (EP X pins σ Q) X.xe s := fun a r =>
      repr_of_reads' r sh sm gs (by omega) (fun _ _ e => e) (fun h' _ tk same => ⟨.str d.shown, H, I.kept (t' := tk) same, ⟨_, rfl⟩, want⟩) len
    have fin : ∀ {z : Str} {t k : Tok}, z = d.shown → EP X pins σ Q (.str z t) { s with toks := k } := fun {z t k} e => ⟨.str z, H, I.tok k, ⟨_, rfl⟩, e ▸ want⟩
    cases dz with
    | non => cases ru; exact PySem.P.repr_of_none (fin (by simp [PyData.shown]))
    | bl b => cases ru; exact PySem.P.repr_of_bool (fin (by simp [PyData.shown]))
    | int i =>
      obtain ⟨t, rfl⟩ := ru
      exact PySem.P.repr_of_int (by simpa [PyData.showable] using sh) (fin (by simp [PyData.shown]))
    | str z =>
      obtain ⟨t, rfl⟩ := ru
      exact PySem.P.repr_of_str (fin (by simp [PyData.shown])) (by simpa [PyData.shown] using len)
    | lst _ _ _ => cases ru; exact boxed _ r
    | tup _ _ => cases ru; exact boxed _ r
    | nod _ _ => cases ru; exact boxed _ r
end Wd

set_option Elab.async false
set_option linter.all false
set_option maxRecDepth 100000
set_option maxHeartbeats 4000000
namespace Wd
open PySem PySem.Spec PyProof.Rows L2 WdM
/-! ### clean data: tuples of small letters -/
def okL (x : Str) : Prop := ∀ c ∈ x.cps.toList, letB c = true
def Cl : Nat → PyData → Prop
  | _, .none => False
  | _, .bool _ => False
  | _, .int _ => False
  | _, .str x => okL x ∧ x.length ≤ 9
  | _, .list _ => False
  | 0, .tuple _ => False
  | n + 1, .tuple ds => ds.length ≤ 7 ∧ ∀ d ∈ ds, Cl n d
  | _, .dict _ => False
theorem let_lt : ∀ c ∈ lettersS.cps.toList, c < 128 := by decide +kernel
theorem okL.ok {x : Str} (h : okL x) : okS x := fun c hc => Nat.lt_trans (let_lt c (of_decide_eq_true (h c hc))) (by decide)
theorem Cl.str {n : Nat} {x : Str} (h : Cl n (.str x)) : okL x ∧ x.length ≤ 9 := by cases n <;> exact h
theorem Cl.of_str {n : Nat} {x : Str} (h : okL x ∧ x.length ≤ 9) : Cl n (.str x) := by cases n <;> exact h
theorem Cl.fine {b : Bool} : ∀ {n : Nat} {d : PyData}, Cl n d → Fine b n d
  | n, .none, h => by cases n <;> exact h.elim
  | n, .bool _, h => by cases n <;> exact h.elim
  | n, .int _, h => by cases n <;> exact h.elim
  | n, .str x, h => by
    have := h.str
    have : okS x ∧ x.length ≤ 30 := ⟨this.1.ok, by omega⟩
    cases n <;> exact this
  | n, .list _, h => by cases n <;> exact h.elim
  | n, .dict _, h => by cases n <;> exact h.elim
  | 0, .tuple _, h => h.elim
  | n + 1, .tuple ds, h => ⟨by have := h.1; omega, fun d hd => (h.2 d hd).fine⟩
/-- a clean value -/
def Cz (K : PySem.W.Frag) (n : Nat) (H : Hp) (v : V) : Prop := ∃ d, Dz [] K H v d ∧ Cl n d
section
variable {K : PySem.W.Frag} {S S' : List Addr}
theorem cl_tk {H H' : Hp} (e : Tk H H') : ∀ {n : Nat} {v : V} {d : PyData}, Cl n d → Dz S K H v d → Dz S' K H' v d := by
  intro n
  induction n with
  | zero =>
    intro v d c h
    cases h with
    | str x => exact .str x
    | _ => exact c.elim
  | succ n ih =>
    intro v d c h
    have all : ∀ {xs : List V} {ds : List PyData}, (∀ d ∈ ds, Cl n d) → DzAll S K H xs ds → DzAll S' K H' xs ds := by
      intro xs
      induction xs with
      | nil =>
        intro ds _ h
        cases h
        exact .nil
      | cons x xs ih2 =>
        intro ds hc h
        cases h with
        | cons h t => exact .cons (ih (hc _ List.mem_cons_self) h) (ih2 (fun d hd => hc d (List.mem_cons_of_mem _ hd)) t)
    cases h with
    | str x => exact .str x
    | tup h t => exact .tup (e.sq h) (all c.2 t)
    | _ => exact c.elim
theorem Cz.tk {H H' : Hp} {n : Nat} {v : V} (h : Cz K n H v) (e : Tk H H') : Cz K n H' v := by
  obtain ⟨d, h, c⟩ := h
  exact ⟨d, cl_tk e c h, c⟩
/-- a value of small data: lists where b, else dicts -/
def Bz (K : PySem.W.Frag) (S : List Addr) (b : Bool) (n : Nat) (H : Hp) (v : V) : Prop := ∃ d, Dz S K H v d ∧ Fine b n d
theorem Cz.bz {H : Hp} {n : Nat} {v : V} {b : Bool} (h : Cz K n H v) : Bz K S b n H v := by
  obtain ⟨d, h, c⟩ := h
  exact ⟨d, cl_tk (Tk.refl H) c h, c.fine⟩
theorem Bz.same {H H' : Hp} {n : Nat} {v : V} {b : Bool} (h : Bz K S b n H v) (e : Same H H') : Bz K S b n H' v := by
  obtain ⟨d, h, c⟩ := h
  exact ⟨d, h.same e, c⟩
theorem Bz.mono {H : Hp} {n m : Nat} {v : V} {b : Bool} (h : Bz K S b n H v) (l : n ≤ m) : Bz K S b m H v := by
  obtain ⟨d, h, c⟩ := h
  exact ⟨d, h, c.mono l⟩
theorem Bz.bt {H H' : Hp} {n : Nat} {v : V} {b : Bool} (h : Bz K S b n H v) (e : Bt S H H') (hl : ∀ a ∈ S, ∃ zs, H a = some (.lst zs)) : Bz K S b n H' v := by
  obtain ⟨d, h, c⟩ := h
  exact ⟨d, dz_stay (stay_bt e hl) h, c⟩
theorem Bz.less {H : Hp} {n : Nat} {v : V} {b : Bool} (h : Bz K S b n H v) : Bz K [] b n H v := by
  obtain ⟨d, h, c⟩ := h
  exact ⟨d, h.less, c⟩
theorem bz_all {H : Hp} {n : Nat} {b : Bool} : ∀ {xs : List V}, (∀ x ∈ xs, Bz K S b n H x) → ∃ ds, DzAll S K H xs ds ∧ ∀ d ∈ ds, Fine b n d
  | [], _ => ⟨[], .nil, fun _ h => nomatch h⟩
  | x :: xs, h => by
    obtain ⟨d, h1, f1⟩ := h x List.mem_cons_self
    obtain ⟨ds, h2, f2⟩ := bz_all (xs := xs) fun y hy => h y (List.mem_cons_of_mem _ hy)
    exact ⟨d :: ds, .cons h1 h2, fun e he => (List.mem_cons.mp he).elim (fun z => z ▸ f1) (f2 e)⟩
theorem bz_tup {H : Hp} {n : Nat} {b : Bool} {a : Addr} {xs : List V} (h : SqT K H a xs) (l : xs.length ≤ 8) (e : ∀ x ∈ xs, Bz K S b n H x) : Bz K S b (n + 1) H (.ref a) := by
  obtain ⟨ds, h1, f1⟩ := bz_all e
  exact ⟨.tuple ds, .tup h h1, by rw [← h1.len]; exact l, f1⟩
theorem bz_lst {H : Hp} {n : Nat} {a : Addr} {xs : List V} (na : a ∉ S) (h : SqL K H a xs) (l : xs.length ≤ 8) (e : ∀ x ∈ xs, Bz K S true n H x) : Bz K S true (n + 1) H (.ref a) := by
  obtain ⟨ds, h1, f1⟩ := bz_all e
  exact ⟨.list ds, .lst na h h1, rfl, by rw [← h1.len]; exact l, f1⟩
theorem cz_all {H : Hp} {n : Nat} : ∀ {xs : List V}, (∀ x ∈ xs, Cz K n H x) → ∃ ds, DzAll [] K H xs ds ∧ ∀ d ∈ ds, Cl n d
  | [], _ => ⟨[], .nil, fun _ h => nomatch h⟩
  | x :: xs, h => by
    obtain ⟨d, h1, f1⟩ := h x List.mem_cons_self
    obtain ⟨ds, h2, f2⟩ := cz_all (xs := xs) fun y hy => h y (List.mem_cons_of_mem _ hy)
    exact ⟨d :: ds, .cons h1 h2, fun e he => (List.mem_cons.mp he).elim (fun z => z ▸ f1) (f2 e)⟩
theorem cz_tup {H : Hp} {n : Nat} {a : Addr} {xs : List V} (h : SqT K H a xs) (l : xs.length ≤ 7) (e : ∀ x ∈ xs, Cz K n H x) : Cz K (n + 1) H (.ref a) := by
  obtain ⟨ds, h1, f1⟩ := cz_all e
  exact ⟨.tuple ds, .tup h h1, by rw [← h1.len]; exact l, f1⟩
theorem cz_str {H : Hp} {n : Nat} {z : Str} (h : okL z ∧ z.length ≤ 9) : Cz K n H (.str z) := ⟨.str z, .str z, Cl.of_str h⟩
/-- a clean value is a text or a tuple of clean ones -/
theorem cz_cases {H : Hp} {n : Nat} {v : V} (h : Cz K n H v) : (∃ z, v = .str z ∧ okL z ∧ z.length ≤ 9) ∨ ∃ (m : Nat) (a : Addr) (xs : List V), n = m + 1 ∧ v = .ref a ∧ SqT K H a xs ∧ xs.length ≤ 7 ∧ ∀ x ∈ xs, Cz K m H x := by
  obtain ⟨d, h, c⟩ := h
  cases h with
  | str x => exact .inl ⟨x, rfl, c.str⟩
  | tup h t =>
    cases n with
    | zero => exact c.elim
    | succ m =>
      refine .inr ⟨m, _, _, rfl, rfl, h, by rw [t.len]; exact c.1, fun x hx => ?_⟩
      obtain ⟨i, hi⟩ := List.mem_iff_getElem?.mp hx
      obtain ⟨e, he, q⟩ := t.get hi
      exact ⟨e, q, c.2 e (List.mem_of_getElem? he)⟩
  | non => cases n <;> exact c.elim
  | bl => cases n <;> exact c.elim
  | int => cases n <;> exact c.elim
  | lst => cases n <;> exact c.elim
  | nod => cases n <;> exact c.elim
theorem cl_dp {H : Hp} : ∀ {n : Nat} {v : V} {d : PyData}, Cl n d → Dz S K H v d → Dp K H v d := by
  intro n
  induction n with
  | zero =>
    intro v d c h
    cases h with
    | str x => exact .str x
    | _ => exact c.elim
  | succ n ih =>
    intro v d c h
    have all : ∀ {xs : List V} {ds : List PyData}, (∀ d ∈ ds, Cl n d) → DzAll S K H xs ds → DpAll K H xs ds := by
      intro xs
      induction xs with
      | nil =>
        intro ds _ h
        cases h
        exact .nil
      | cons x xs ih2 =>
        intro ds hc h
        cases h with
        | cons h t => exact .cons (ih (hc _ List.mem_cons_self) h) (ih2 (fun d hd => hc d (List.mem_cons_of_mem _ hd)) t)
    cases h with
    | str x => exact .str x
    | tup h t => exact .tup h (all c.2 t)
    | _ => exact c.elim
end
theorem strOk_of {x : Str} (h : okS x) : PyData.strOk x = true := by
  unfold PyData.strOk
  rw [Array.all_eq_true']
  intro c hc
  exact decide_eq_true (h c (Array.mem_toList_iff.mpr hc))
theorem canLayAll_of : ∀ {ds : List PyData}, (∀ d ∈ ds, PyData.canLay0 d = true) → PyData.canLayAll0 ds = true
  | [], _ => by simp [PyData.canLayAll0]
  | d :: ds, h => by
    simp only [PyData.canLayAll0, h d List.mem_cons_self, Bool.true_and]
    exact canLayAll_of fun x hx => h x (List.mem_cons_of_mem _ hx)
theorem cl_lay : ∀ {n : Nat} {d : PyData}, Cl n d → PyData.canLay0 d = true := by
  intro n
  induction n with
  | zero =>
    intro d c
    cases d with
    | str x => simp only [PyData.canLay0]; exact strOk_of c.1.ok
    | _ => exact c.elim
  | succ n ih =>
    intro d c
    cases d with
    | str x => simp only [PyData.canLay0]; exact strOk_of c.1.ok
    | tuple ds => simp only [PyData.canLay0]; exact canLayAll_of fun d hd => ih (c.2 d hd)
    | _ => exact c.elim
theorem cl_shaped {n : Nat} {d : PyData} (c : Cl n d) (hn : n ≤ 64) : SeqAt.shaped d = true := by
  unfold SeqAt.shaped
  rw [cl_lay c, decide_eq_true (Nat.le_trans (c.fine (b := true)).shown.2.2.1 hn)]
  rfl
/-! ### great letters -/
theorem up_lt : ∀ c ∈ lettersS.cps.toList, ∀ e ∈ Unicode.upperOf c, e < 1114112 := by decide +kernel
theorem up_ok {x : Str} (h : okL x) : okS (Txt.upper x) := by
  intro e he
  have he : e ∈ (Txt.upper x).cps := Array.mem_toList_iff.mp he
  unfold Txt.upper placed at he
  obtain ⟨ys, hy, hm⟩ := Array.mem_flatten.mp he
  obtain ⟨i, hi, rfl⟩ := Array.mem_mapIdx.mp hy
  exact up_lt _ (of_decide_eq_true (h _ (Array.mem_toList_iff.mpr (Array.getElem_mem hi)))) e (by simpa using hm)
/-! ### cuts of a list -/
theorem cut_front {xs : List V} {k : Nat} (h : k ≤ xs.length) : cutV xs none (some (k : Int)) = xs.take k := by
  unfold cutV
  rw [HT.sIx_none, HT.sIx_nat, Nat.min_eq_left h]
  simp
theorem cut_back {xs : List V} {k : Nat} (h : k ≤ xs.length) : cutV xs (some (k : Int)) none = xs.drop k := by
  unfold cutV
  rw [HT.sIx_none, HT.sIx_nat, Nat.min_eq_left h]
  rw [List.take_of_length_le (by rw [List.length_drop]; omega)]
theorem cut_mem {xs : List V} {lo hi : Option Int} {x : V} (h : x ∈ cutV xs lo hi) : x ∈ xs := by
  unfold cutV at h
  exact List.mem_of_mem_drop (List.mem_of_mem_take h)
end Wd

set_option Elab.async false
set_option linter.all false
set_option maxRecDepth 100000
set_option maxHeartbeats 4000000
set_option exponentiation.threshold 5000
namespace WdQ
open PySem PySem.Spec PyProof.Rows L2 WdM Wd
def topS (i : Nat) : Stmt := PySem.Challenge.pw_willdealt_k16_what_a_whom_is.main.body.getD i (.Pass ⟨0, 0, 0, 0⟩)
abbrev sName : Stmt := topS 25
theorem scName : FnScope ["thing", "sign"] ["thing"] (defScope sName) := ⟨rfl, rfl, rfl, by decide +kernel, rfl, by decide +kernel, by decide +kernel⟩
/-- what the top holds for names -/
structure NmF (K : PySem.W.Frag) (mg : Str → Option Value) (aW : Addr) : Prop where
  gL : ∃ t, mg "LETTERS" = some (.str lettersS t)
  gN : ∃ t, mg "LONGEST" = some (.int 8 t)
  gW : mg "WORDS" = some (.ref aW)
  tW : ∀ H, SqT K H aW noNames
section
variable {P : Program} {w : World} {K : PySem.W.Frag} {mg : Str → Option Value} {base : Heap}
def spName (K : PySem.W.Frag) : Sp := fun vs H Q _ => ∃ (v : V) (d : PyData), vs = [v] ∧ Is K H v d ∧ Short d ∧ ∀ H', Same H H' → Q (.bl (nameB d)) H'
theorem ok_name {f : Addr} {fd : FuncData} {k : Nat} {aW : Addr} (B : Bi mg) (T : NmF K mg aW) (D : Df K mg "is_name" sName f fd ["thing"]) : FnOk P w K mg base CX0 (k + 1) f fd ["thing"] (spName K) := by
  refine D.fn.ok scName (fun vs H Q E h => ?_) (fun cdv A outer s H vs Q E hr h => ?_)
  · obtain ⟨v, d, rfl, _⟩ := h
    rfl
  · obtain ⟨v, d, rfl, th, sk, q⟩ := h
    obtain ⟨tL, gL⟩ := T.gL
    obtain ⟨tN, gN⟩ := T.gN
    refine ⟨_, pss_cons (ps_if (PW.pt (pw_or (pt_not (pt_val (pe_callB call_isi (by rfl) B.isi boot_isinstance (pa_cons (pv 0) (pa_cons (pe_bltn (v := .ty "str") (by rfl) B.str boot_str rfl) pa_nil)))))
          (pw_or1 (pt_not (pt_chain op_le op_le pe_int (pe_callB call_len_str (by rfl) B.len PySem.boot_len (pa_cons (pv 0) pa_nil)) (pe_glob (v := .int 8) (by rfl) gN ⟨_, rfl⟩)))))) (pss_one (ps_ret pe_bl)) pss_nil)
      (pss_one (ps_ret (pe_and (pe_cmpR op_notIn_seq (pv 0) (pe_glob (v := .ref aW) (by rfl) T.gW rfl) (by rfl)) (pe_one (pe_callB (cr_all rfl) (by rfl) B.all (by decide +kernel) (pa_cons
          (pe_lc (own := [("sign", 1)]) (g := gName 1) (tt := tYes) rfl scName.nd (pi_str (pv 0)) (blkOk_by (own := [("sign", 1)]) (N := ["thing", "sign"]) (sc := defScope sName) (by decide +kernel))
            (fun _ _ _ _ _ => pg_name (i := 1) scName.nd rfl (Or.inl rfl)) (fun _ _ _ _ _ => pts_nil)
            (fun _ _ _ _ _ => pe_cmpR op_in_sign (pv 1) (pe_glob (v := .str lettersS) (by rfl) gL ⟨_, rfl⟩) (by rfl))) pa_nil)))))), ?_⟩
    refine ⟨_, rfl, _, .ty "str", _, .type "str", _, rfl, .ty _, th.ty, kit_str d, _, rfl, ?_⟩
    by_cases hs : strB d = true
    · rw [hs]
      obtain ⟨z, rfl⟩ := str_of hs
      obtain rfl := th.str z rfl
      have zl := sk z rfl
      have no : ¬ (1 ≤ z.length ∧ z.length ≤ 8) → nameB (.str z) = false := fun e => by
        show (decide _ && _ && _) = false
        rw [decide_eq_false e]
        rfl
      refine iteF ⟨_, rfl, z, rfl, small_len zl, 1, _, rfl, rfl, _, rfl, ?_⟩
      by_cases l0 : 1 ≤ z.length
      · rw [decide_eq_true (show (1 : Int) ≤ (z.length : Int) by omega)]
        refine iteT ⟨_, 8, rfl, rfl, _, rfl, ?_⟩
        by_cases l1 : z.length ≤ 8
        · rw [decide_eq_true (show (z.length : Int) ≤ 8 by omega)]
          refine iteF ⟨_, rfl, aW, noNames, rfl, .inr (T.tW H), rfl, rfl, _, rfl, ?_⟩
          have yes : nameB (.str z) = (!inV (.str z) noNames && z.cps.toList.all letB) := by
            show (decide _ && _ && _) = _
            rw [decide_eq_true ⟨l0, l1⟩]
            rfl
          rw [yes] at q
          by_cases hi : inV (.str z) noNames = true
          · rw [hi] at q ⊢
            exact iteF (q H (Same.refl H))
          · have hi' : inV (.str z) noNames = false := by simpa using hi
            rw [hi'] at q ⊢
            refine iteT ⟨_, rfl, z, rfl, fun L nL => lc_it walk_str (fun i H' => H' L = some (.lst (((z.cps.toList.take i).map letB).map V.bl)) ∧ Same H H') ⟨upd_same, same_new nL⟩ (fun _ _ _ _ => trivial) ?_ ?_⟩
            · rintro i x H1 H' hx ⟨hL, sm⟩ ⟨rfl, c, hc, rfl⟩
              refine ⟨rfl, tyes (iteT ⟨_, rfl, c, lettersS, rfl, rfl, ?_⟩)⟩
              have hc' : z.cps.toList[i]? = some c := by simpa using hc
              refine ⟨_, hL, ?_, ?_, ?_⟩
              · rw [List.length_map, List.length_map, List.length_take]
                exact small1000 (by have := lt_get hc'; have : z.cps.toList.length = z.length := by simp [Str.length]
                                    omega)
              · rw [upd_same, take_more hc', List.map_append, List.map_append]
                rfl
              · exact ((Bt.of_same (S := []) sm).upd0 nL).same
            · rintro H' ⟨hL, sm⟩
              have e : z.cps.toList.take z.cps.size = z.cps.toList := List.take_of_length_le (by simp)
              rw [e] at hL
              refine ⟨L, _, rfl, sqL hL, ?_⟩
              have e2 : (z.cps.toList.map letB).all id = z.cps.toList.all letB := by rw [List.all_map]; rfl
              rw [e2]
              exact q H' sm
        · rw [decide_eq_false (show ¬ (z.length : Int) ≤ 8 by omega)]
          rw [no (fun e => l1 e.2)] at q
          exact iteT (q H (Same.refl H))
      · rw [decide_eq_false (show ¬ (1 : Int) ≤ (z.length : Int) by omega)]
        rw [no (fun e => l0 e.1)] at q
        exact iteF ⟨_, rfl, iteT (q H (Same.refl H))⟩
    · have hs' : strB d = false := by simpa using hs
      rw [hs']
      rw [name_no hs'] at q
      exact iteT (iteT (q H (Same.refl H)))
end
end WdQ

set_option Elab.async false
set_option linter.all false
set_option maxRecDepth 100000
set_option maxHeartbeats 4000000
set_option exponentiation.threshold 5000
namespace WdQ
open PySem PySem.Spec PyProof.Rows L2 WdM Wd
abbrev sWord : Stmt := topS 24
abbrev sPart : Stmt := topS 41
abbrev sAlt : Stmt := topS 42
abbrev sWhom : Stmt := topS 43
theorem scWord : FnScope ["thing", "words"] ["thing", "words"] (defScope sWord) := ⟨rfl, rfl, rfl, by decide +kernel, rfl, by decide +kernel, by decide +kernel⟩
theorem scPart : FnScope ["thing"] ["thing"] (defScope sPart) := ⟨rfl, rfl, rfl, by decide +kernel, rfl, by decide +kernel, by decide +kernel⟩
theorem scAlt : FnScope ["thing", "part"] ["thing"] (defScope sAlt) := ⟨rfl, rfl, rfl, by decide +kernel, rfl, by decide +kernel, by decide +kernel⟩
theorem scWhom : FnScope ["thing", "alternative"] ["thing"] (defScope sWhom) := ⟨rfl, rfl, rfl, by decide +kernel, rfl, by decide +kernel, by decide +kernel⟩
def partW : List V := [.str "one", .str "children", .str "stock"]
def wordB (ws : List V) : PyData → Bool
  | .str z => inV (.str z) ws
  | _ => false
def partB : PyData → Bool
  | .tuple [a, n] => wordB partW a && nameB n
  | _ => false
def altB : PyData → Bool
  | .tuple ps => decide (1 ≤ ps.length ∧ ps.length ≤ 6) && ps.all partB
  | _ => false
def whomB : PyData → Bool
  | .tuple as => decide (1 ≤ as.length ∧ as.length ≤ 4) && as.all altB
  | _ => false
theorem word_no {ws : List V} {d : PyData} (h : strB d = false) : wordB ws d = false := by cases d <;> first | rfl | cases h
theorem part_no {d : PyData} (h : tupB d = false) : partB d = false := by cases d <;> first | rfl | cases h
theorem alt_no {d : PyData} (h : tupB d = false) : altB d = false := by cases d <;> first | rfl | cases h
theorem whom_no {d : PyData} (h : tupB d = false) : whomB d = false := by cases d <;> first | rfl | cases h
theorem part_len {ds : List PyData} (h : ds.length ≠ 2) : partB (.tuple ds) = false := by
  match ds with
  | [] => rfl
  | [_] => rfl
  | [_, _] => exact absurd rfl h
  | _ :: _ :: _ :: _ => rfl
/-- what the top holds for WHOMs -/
structure WhF (K : PySem.W.Frag) (mg : Str → Option Value) (aP : Addr) : Prop where
  gP : mg "PART_WORDS" = some (.ref aP)
  tP : ∀ H, SqT K H aP partW
  g6 : ∃ t, mg "MOST_PARTS" = some (.int 6 t)
  g4 : ∃ t, mg "MOST_ALTERNATIVES" = some (.int 4 t)
section
variable {P : Program} {w : World} {K : PySem.W.Frag} {mg : Str → Option Value} {base : Heap}
def spWord (K : PySem.W.Frag) : Sp := fun vs H Q _ => ∃ (v : V) (d : PyData) (a : Addr) (ws : List V), vs = [v, .ref a] ∧ Is K H v d ∧ (SqL K H a ws ∨ SqT K H a ws) ∧ ws.all flatV = true ∧ Q (.bl (wordB ws d)) H
theorem ok_word {f : Addr} {fd : FuncData} {k : Nat} (B : Bi mg) (D : Df K mg "is_word" sWord f fd ["thing", "words"]) : FnOk P w K mg base CX0 (k + 1) f fd ["thing", "words"] (spWord K) := by
  refine D.fn.ok scWord (fun vs H Q E h => ?_) (fun cdv A outer s H vs Q E hr h => ?_)
  · obtain ⟨v, d, a, ws, rfl, _⟩ := h
    rfl
  · obtain ⟨v, d, a, ws, rfl, th, hw, fl, q⟩ := h
    refine ⟨_, pss_one (ps_ret (pe_and (pe_callB call_isi (by rfl) B.isi boot_isinstance (pa_cons (pv 0) (pa_cons (pe_bltn (v := .ty "str") (by rfl) B.str boot_str rfl) pa_nil))) (pe_one (pe_cmpR op_in_seq (pv 0) (pv 1) (by rfl))))), ?_⟩
    refine ⟨_, rfl, _, .ty "str", _, .type "str", _, rfl, .ty _, th.ty, kit_str d, _, rfl, ?_⟩
    by_cases hs : strB d = true
    · rw [hs]
      obtain ⟨z, rfl⟩ := str_of hs
      obtain rfl := th.str z rfl
      exact iteT ⟨_, rfl, _, rfl, a, ws, rfl, hw, rfl, fl, q⟩
    · have hs' : strB d = false := by simpa using hs
      rw [hs']
      rw [word_no hs'] at q
      exact iteF q
def spData (K : PySem.W.Frag) (f : PyData → Bool) : Sp := fun vs H Q _ => ∃ (S : List Addr) (v : V) (d : PyData), vs = [v] ∧ Dz S K H v d ∧ Fin d ∧ ∀ H', Same H H' → Q (.bl (f d)) H'
theorem ok_part {f fW fN aP : Addr} {fd fdW fdN : FuncData} {k : Nat} (B : Bi mg) (T : WhF K mg aP) (D : Df K mg "is_part" sPart f fd ["thing"]) (DW : Df K mg "is_word" sWord fW fdW ["thing", "words"]) (DN : Df K mg "is_name" sName fN fdN ["thing"])
    (GN : FnOk P w K mg base CX0 (k + 1) fN fdN ["thing"] (spName K)) : FnOk P w K mg base CX0 (k + 2) f fd ["thing"] (spData K partB) := by
  have GW : FnOk P w K mg base CX0 (k + 1) fW fdW ["thing", "words"] (spWord K) := ok_word B DW
  refine D.fn.ok scPart (fun vs H Q E h => ?_) (fun cdv A outer s H vs Q E hr h => ?_)
  · obtain ⟨S, v, d, rfl, _⟩ := h
    rfl
  · obtain ⟨S, v, d, rfl, dz, fin, q⟩ := h
    refine ⟨_, pss_cons (ps_if (PW.pt (pw_or (pt_not (pt_val (pe_callB call_isi (by rfl) B.isi boot_isinstance (pa_cons (pv 0) (pa_cons (pe_bltn (v := .ty "tuple") (by rfl) B.tuple boot_tuple rfl) pa_nil)))))
          (pw_or1 (pt_cmpR op_ne (pe_callB call_len_seq (by rfl) B.len PySem.boot_len (pa_cons (pv 0) pa_nil)) pe_int (nomark _))))) (pss_one (ps_ret pe_bl)) pss_nil)
      (pss_one (ps_ret (pe_and (pe_call GW hr (by rfl) DW.mg DW.fn.kp DW.bd .nil pass0 (pa_cons (pe_ix (r := rIxT K) ix_tup (pv 0) pe_int (fun _ _ => rfl)) (pa_cons (pe_glob (v := .ref aP) (by rfl) T.gP rfl) pa_nil)))
        (pe_one (pe_call GN hr (by rfl) DN.mg DN.fn.kp DN.bd .nil pass0 (pa_cons (pe_ix (r := rIxT K) ix_tup (pv 0) pe_int (fun _ _ => rfl)) pa_nil)))))), ?_⟩
    refine ⟨_, rfl, _, .ty "tuple", _, .type "tuple", _, rfl, .ty _, dz.ty, kit_tup d, _, rfl, ?_⟩
    by_cases ht : tupB d = true
    · rw [ht]
      obtain ⟨ds, rfl⟩ := tup_of ht
      obtain ⟨a, xs, rfl, hs, hd⟩ := dz_tup dz
      refine iteF ⟨_, rfl, a, _, rfl, .inr hs, rfl, _, rfl, ?_⟩
      by_cases hl : xs.length = 2
      · obtain ⟨x1, x2, d1, d2, rfl, rfl, h1, h2⟩ := hd.two hl
        refine iteF ⟨_, rfl, a, _, 0, x1, rfl, rfl, hs, atI_nat (j := 0) rfl, x1, d1, aP, partW, rfl, h1.is, .inr (T.tP H), rfl, _, rfl, ?_⟩
        have e : partB (.tuple [d1, d2]) = (wordB partW d1 && nameB d2) := rfl
        rw [e] at q
        by_cases hw : wordB partW d1 = true
        · rw [hw] at q ⊢
          exact iteT ⟨_, rfl, a, _, 1, x2, rfl, rfl, hs, atI_nat (j := 1) rfl, x2, d2, rfl, h2.is, (fin.mem (by simp)).short, fun H1 s1 => q H1 s1⟩
        · have hw' : wordB partW d1 = false := by simpa using hw
          rw [hw'] at q ⊢
          exact iteF (q H (Same.refl H))
      · have e : (!decide (V.int (xs.length : Nat) = V.int 2)) = true := by
          have : (xs.length : Int) ≠ 2 := by omega
          simpa using this
        rw [e]
        rw [part_len (by rw [← hd.len]; exact hl)] at q
        exact iteT (q H (Same.refl H))
    · have ht' : tupB d = false := by simpa using ht
      rw [ht']
      rw [part_no ht'] at q
      exact iteT (iteT (q H (Same.refl H)))
theorem all_len {f : PyData → Bool} {lo hi : Nat} {ds : List PyData} (h : ¬ (lo ≤ ds.length ∧ ds.length ≤ hi)) : (decide (lo ≤ ds.length ∧ ds.length ≤ hi) && ds.all f) = false := by
  rw [decide_eq_false h]
  rfl
theorem all_yes {f : PyData → Bool} {lo hi : Nat} {ds : List PyData} (h : lo ≤ ds.length ∧ ds.length ≤ hi) : (decide (lo ≤ ds.length ∧ ds.length ≤ hi) && ds.all f) = ds.all f := by
  rw [decide_eq_true h]
  rfl
theorem ok_alt {f fA aP : Addr} {fd fdA : FuncData} {k : Nat} (B : Bi mg) (T : WhF K mg aP) (D : Df K mg "is_alternative" sAlt f fd ["thing"]) (DA : Df K mg "is_part" sPart fA fdA ["thing"])
    (GA : FnOk P w K mg base CX0 (k + 2) fA fdA ["thing"] (spData K partB)) : FnOk P w K mg base CX0 (k + 3) f fd ["thing"] (spData K altB) := by
  obtain ⟨tM, gM⟩ := T.g6
  refine D.fn.ok scAlt (fun vs H Q E h => ?_) (fun cdv A outer s H vs Q E hr h => ?_)
  · obtain ⟨S, v, d, rfl, _⟩ := h
    rfl
  · obtain ⟨S, v, d, rfl, dz, fin, q⟩ := h
    refine ⟨_, pss_cons (ps_if (PW.pt (pw_or (pt_not (pt_val (pe_callB call_isi (by rfl) B.isi boot_isinstance (pa_cons (pv 0) (pa_cons (pe_bltn (v := .ty "tuple") (by rfl) B.tuple boot_tuple rfl) pa_nil)))))
          (pw_or1 (pt_not (pt_chain op_le op_le pe_int (pe_callB call_len_seq (by rfl) B.len PySem.boot_len (pa_cons (pv 0) pa_nil)) (pe_glob (v := .int 6) (by rfl) gM ⟨_, rfl⟩)))))) (pss_one (ps_ret pe_bl)) pss_nil)
      (pss_one (ps_ret (pe_callB (cr_all rfl) (by rfl) B.all (by decide +kernel) (pa_cons
          (pe_lc (own := [("part", 1)]) (g := gName 1) (tt := tYes) rfl scAlt.nd (pi_tup (pv 0)) (blkOk_by (own := [("part", 1)]) (N := ["thing", "part"]) (sc := defScope sAlt) (by decide +kernel))
            (fun _ _ _ _ _ => pg_name (i := 1) scAlt.nd rfl (Or.inl rfl)) (fun _ _ _ _ _ => pts_nil)
            (fun _ _ _ _ _ => pe_call GA hr (by rfl) DA.mg DA.fn.kp DA.bd .nil pass0 (pa_cons (pv 1) pa_nil))) pa_nil)))), ?_⟩
    refine ⟨_, rfl, _, .ty "tuple", _, .type "tuple", _, rfl, .ty _, dz.ty, kit_tup d, _, rfl, ?_⟩
    by_cases ht : tupB d = true
    · rw [ht]
      obtain ⟨ds, rfl⟩ := tup_of ht
      obtain ⟨a, xs, rfl, hs, hd⟩ := dz_tup dz
      have hlen := hd.len
      have q : ∀ H', Same H H' → Q (.bl (decide (1 ≤ ds.length ∧ ds.length ≤ 6) && ds.all partB)) H' := q
      refine iteF ⟨_, rfl, a, _, rfl, .inr hs, 1, _, rfl, rfl, _, rfl, ?_⟩
      by_cases l0 : 1 ≤ ds.length
      · rw [decide_eq_true (show (1 : Int) ≤ (xs.length : Int) by omega)]
        refine iteT ⟨_, 6, rfl, rfl, _, rfl, ?_⟩
        by_cases l1 : ds.length ≤ 6
        · rw [decide_eq_true (show (xs.length : Int) ≤ 6 by omega)]
          rw [all_yes ⟨l0, l1⟩] at q
          refine iteF ⟨_, rfl, a, rfl, ⟨xs, hs⟩, fun L nL => lc_tup (K := K) (a := a) (xs := xs) (fun i H' => H' L = some (.lst (((ds.take i).map partB).map V.bl)) ∧ Same H H') ⟨upd_same, same_new nL⟩ (fun i H' _ h => tk_same h.2 |>.sq hs) ?_ ?_⟩
          · rintro i x H' hx ⟨hL, sm⟩
            obtain ⟨e, he, dx⟩ := hd.get hx
            have il := lt_get hx
            refine ⟨rfl, tyes (iteT ⟨_, rfl, S, x, e, rfl, dx.same sm, fin.mem (List.mem_of_getElem? he), fun H2 s2 => ?_⟩)⟩
            refine ⟨_, s2 _ _ hL, ?_, ?_, ?_⟩
            · rw [List.length_map, List.length_map, List.length_take]
              exact small1000 (by omega)
            · rw [upd_same, take_more he, List.map_append, List.map_append]
              rfl
            · exact ((Bt.of_same (S := []) (sm.trans s2)).upd0 nL).same
          · rintro H' ⟨hL, sm⟩
            rw [hlen, List.take_length] at hL
            refine ⟨L, _, rfl, sqL hL, ?_⟩
            rw [show (ds.map partB).all id = ds.all partB by rw [List.all_map]; rfl]
            exact q H' sm
        · rw [decide_eq_false (show ¬ (xs.length : Int) ≤ 6 by omega)]
          rw [all_len (fun e => l1 e.2)] at q
          exact iteT (q H (Same.refl H))
      · rw [decide_eq_false (show ¬ (1 : Int) ≤ (xs.length : Int) by omega)]
        rw [all_len (fun e => l0 e.1)] at q
        exact iteF ⟨_, rfl, iteT (q H (Same.refl H))⟩
    · have ht' : tupB d = false := by simpa using ht
      rw [ht']
      rw [alt_no ht'] at q
      exact iteT (iteT (q H (Same.refl H)))
theorem ok_whom {f fA aP : Addr} {fd fdA : FuncData} {k : Nat} (B : Bi mg) (T : WhF K mg aP) (D : Df K mg "is_whom" sWhom f fd ["thing"]) (DA : Df K mg "is_alternative" sAlt fA fdA ["thing"])
    (GA : FnOk P w K mg base CX0 (k + 3) fA fdA ["thing"] (spData K altB)) : FnOk P w K mg base CX0 (k + 4) f fd ["thing"] (spData K whomB) := by
  obtain ⟨tM, gM⟩ := T.g4
  refine D.fn.ok scWhom (fun vs H Q E h => ?_) (fun cdv A outer s H vs Q E hr h => ?_)
  · obtain ⟨S, v, d, rfl, _⟩ := h
    rfl
  · obtain ⟨S, v, d, rfl, dz, fin, q⟩ := h
    refine ⟨_, pss_cons (ps_if (PW.pt (pw_or (pt_not (pt_val (pe_callB call_isi (by rfl) B.isi boot_isinstance (pa_cons (pv 0) (pa_cons (pe_bltn (v := .ty "tuple") (by rfl) B.tuple boot_tuple rfl) pa_nil)))))
          (pw_or1 (pt_not (pt_chain op_le op_le pe_int (pe_callB call_len_seq (by rfl) B.len PySem.boot_len (pa_cons (pv 0) pa_nil)) (pe_glob (v := .int 4) (by rfl) gM ⟨_, rfl⟩)))))) (pss_one (ps_ret pe_bl)) pss_nil)
      (pss_one (ps_ret (pe_callB (cr_all rfl) (by rfl) B.all (by decide +kernel) (pa_cons
          (pe_lc (own := [("alternative", 1)]) (g := gName 1) (tt := tYes) rfl scWhom.nd (pi_tup (pv 0)) (blkOk_by (own := [("alternative", 1)]) (N := ["thing", "alternative"]) (sc := defScope sWhom) (by decide +kernel))
            (fun _ _ _ _ _ => pg_name (i := 1) scWhom.nd rfl (Or.inl rfl)) (fun _ _ _ _ _ => pts_nil)
            (fun _ _ _ _ _ => pe_call GA hr (by rfl) DA.mg DA.fn.kp DA.bd .nil pass0 (pa_cons (pv 1) pa_nil))) pa_nil)))), ?_⟩
    refine ⟨_, rfl, _, .ty "tuple", _, .type "tuple", _, rfl, .ty _, dz.ty, kit_tup d, _, rfl, ?_⟩
    by_cases ht : tupB d = true
    · rw [ht]
      obtain ⟨ds, rfl⟩ := tup_of ht
      obtain ⟨a, xs, rfl, hs, hd⟩ := dz_tup dz
      have hlen := hd.len
      have q : ∀ H', Same H H' → Q (.bl (decide (1 ≤ ds.length ∧ ds.length ≤ 4) && ds.all altB)) H' := q
      refine iteF ⟨_, rfl, a, _, rfl, .inr hs, 1, _, rfl, rfl, _, rfl, ?_⟩
      by_cases l0 : 1 ≤ ds.length
      · rw [decide_eq_true (show (1 : Int) ≤ (xs.length : Int) by omega)]
        refine iteT ⟨_, 4, rfl, rfl, _, rfl, ?_⟩
        by_cases l1 : ds.length ≤ 4
        · rw [decide_eq_true (show (xs.length : Int) ≤ 4 by omega)]
          rw [all_yes ⟨l0, l1⟩] at q
          refine iteF ⟨_, rfl, a, rfl, ⟨xs, hs⟩, fun L nL => lc_tup (K := K) (a := a) (xs := xs) (fun i H' => H' L = some (.lst (((ds.take i).map altB).map V.bl)) ∧ Same H H') ⟨upd_same, same_new nL⟩ (fun i H' _ h => tk_same h.2 |>.sq hs) ?_ ?_⟩
          · rintro i x H' hx ⟨hL, sm⟩
            obtain ⟨e, he, dx⟩ := hd.get hx
            have il := lt_get hx
            refine ⟨rfl, tyes (iteT ⟨_, rfl, S, x, e, rfl, dx.same sm, fin.mem (List.mem_of_getElem? he), fun H2 s2 => ?_⟩)⟩
            refine ⟨_, s2 _ _ hL, ?_, ?_, ?_⟩
            · rw [List.length_map, List.length_map, List.length_take]
              exact small1000 (by omega)
            · rw [upd_same, take_more he, List.map_append, List.map_append]
              rfl
            · exact ((Bt.of_same (S := []) (sm.trans s2)).upd0 nL).same
          · rintro H' ⟨hL, sm⟩
            rw [hlen, List.take_length] at hL
            refine ⟨L, _, rfl, sqL hL, ?_⟩
            rw [show (ds.map altB).all id = ds.all altB by rw [List.all_map]; rfl]
            exact q H' sm
        · rw [decide_eq_false (show ¬ (xs.length : Int) ≤ 4 by omega)]
          rw [all_len (fun e => l1 e.2)] at q
          exact iteT (q H (Same.refl H))
      · rw [decide_eq_false (show ¬ (1 : Int) ≤ (xs.length : Int) by omega)]
        rw [all_len (fun e => l0 e.1)] at q
        exact iteF ⟨_, rfl, iteT (q H (Same.refl H))⟩
    · have ht' : tupB d = false := by simpa using ht
      rw [ht']
      rw [whom_no ht'] at q
      exact iteT (iteT (q H (Same.refl H)))
end
end WdQ

set_option Elab.async false
set_option linter.all false
set_option maxRecDepth 100000
set_option maxHeartbeats 4000000
set_option exponentiation.threshold 5000
namespace WdQ
open PySem PySem.Spec PyProof.Rows L2 WdM Wd
abbrev sPool : Stmt := topS 58
abbrev sTake : Stmt := topS 59
theorem scPool : FnScope ["_law_script", "_law_k", "_law_cell", "_law_more", "_law_found", "_law_turn"] ["_law_script", "_law_k"] (defScope sPool) := ⟨rfl, rfl, rfl, by decide +kernel, rfl, by decide +kernel, by decide +kernel⟩
theorem scTake : FnScope ["_law_pool_here", "_law_many", "_law_digit"] ["_law_pool_here", "_law_many"] (defScope sTake) := ⟨rfl, rfl, rfl, by decide +kernel, rfl, by decide +kernel, by decide +kernel⟩
def PoolAt (H : Hp) (l : Addr) : Prop := ∃ n : Int, H l = some (.lst [.int n]) ∧ 0 ≤ n ∧ n.natAbs < 2 ^ 1300
theorem PoolAt.lst {H : Hp} {l : Addr} (h : PoolAt H l) : ∀ a ∈ [l], ∃ zs, H a = some (.lst zs) := fun a ha => by
  obtain ⟨n, e, _⟩ := h
  rw [List.mem_singleton.mp ha]
  exact ⟨_, e⟩
theorem PoolAt.same {H H' : Hp} {l : Addr} (h : PoolAt H l) (e : Same H H') : PoolAt H' l := by
  obtain ⟨n, a, b⟩ := h
  exact ⟨n, e _ _ a, b⟩
theorem PoolAt.ne {H : Hp} {l p : Addr} (h : PoolAt H l) (e : H p = none) : l ≠ p := by
  obtain ⟨n, a, b⟩ := h
  exact ne_of_none a e
theorem PoolAt.upd {H : Hp} {l p : Addr} {o : HO} (h : PoolAt H l) (e : l ≠ p) : PoolAt (upd H p o) l := by
  obtain ⟨n, a, b⟩ := h
  exact ⟨n, by rw [upd_ne e]; exact a, b⟩
theorem kept {S : List Addr} {H H' : Hp} {b : Addr} {o : HO} (e : Bt S H H') (h : H b = some o) (n : b ∉ S) : H' b = some o := e b o n h
section
variable {P : Program} {w : World} {K : PySem.W.Frag} {mg : Str → Option Value} {base : Heap}
def spTake : Sp := fun vs H Q _ => ∃ (l : Addr) (m : Int), vs = [.ref l, .int m] ∧ PoolAt H l ∧ 0 < m ∧ ∀ H' d, Bt [l] H H' → PoolAt H' l → 0 ≤ d → d < m → Q (.int d) H'
theorem ok_take {f : Addr} {fd : FuncData} {k : Nat} (B : Bi mg) (D : Df K mg "_law_take" sTake f fd ["_law_pool_here", "_law_many"]) : FnOk P w K mg base CX0 (k + 1) f fd ["_law_pool_here", "_law_many"] spTake := by
  refine D.fn.ok scTake (fun vs H Q E h => ?_) (fun cdv A outer s H vs Q E hr h => ?_)
  · obtain ⟨l, m, rfl, _⟩ := h
    rfl
  · obtain ⟨l, m, rfl, ⟨n, hl, n0, nB⟩, m0, q⟩ := h
    refine ⟨_, pss_cons (ps_asg (pe_callB call_divmodW (by rfl) B.divmod (by decide +kernel) (pa_cons (pe_ix (r := rIxL K) ix_list (pv 0) pe_int (fun _ _ => rfl)) (pa_cons (pv 1) pa_nil)))
        (pg_tup rfl (pgs_cons (pg_sub (pv 0) pe_int set_list) (pgs_cons (pg_name (i := 2) scTake.nd rfl (.inl rfl)) pgs_nil))))
      (pss_one (ps_ret (pv 2))), ?_⟩
    refine ⟨_, rfl, l, _, 0, .int n, rfl, rfl, sqL hl, atI_nat (j := 0) rfl, _, rfl, n, m, rfl, divp_ok m0 ?_, fun p hp => ?_⟩
    · have := PyProof.Rows.intBits_le nB
      omega
    · have nlp : l ≠ p := ne_of_none hl hp
      have hl2 : (upd H p (.tup [.int (n / m), .int (n % m)])) l = some (.lst [.int n]) := by rw [upd_ne nlp]; exact hl
      refine ⟨p, _, rfl, sqT upd_same, rfl, _, _, rfl, _, rfl, l, _, 0, 0, rfl, rfl, hl2, ixN_nat (n := 1) (i := 0) (by decide), _, _, rfl, rfl, ?_⟩
      refine ⟨_, rfl, q _ _ (((Bt.refl H).new hp).upd1 (by simp)) ⟨n / m, upd_same, Int.ediv_nonneg n0 (Int.le_of_lt m0), ?_⟩ (Int.emod_nonneg n (by omega)) (Int.emod_lt_of_pos n m0)⟩
      exact wide_le (Int.ediv_nonneg n0 (Int.le_of_lt m0)) (Int.ediv_le_self _ n0) nB
def spPool (K : PySem.W.Frag) : Sp := fun vs H Q _ => ∃ (a : Addr) (ns : List Int) (i : Int), vs = [.ref a, .int i] ∧ SqL K H a (ns.map V.int) ∧ 0 ≤ i ∧ i < 64 ∧ ∀ H' l, Same H H' → H l = none → PoolAt H' l → Q (.ref l) H'
theorem found_step {f x : Int} {m : Nat} (h0 : 0 ≤ f) (h1 : f.natAbs < 2 ^ m) (h2 : 0 ≤ x) (h3 : x < 99999999977) : 0 ≤ f * 100000000000 + x ∧ (f * 100000000000 + x).natAbs < 2 ^ (m + 37) := by
  rw [Nat.pow_add]
  generalize 2 ^ m = B at *
  rw [show (2 : Nat) ^ 37 = 137438953472 by decide]
  omega
theorem cut_ints (ns : List Int) (lo hi : Option Int) : ∃ ms : List Int, cutV (ns.map V.int) lo hi = ms.map V.int := by
  unfold cutV
  exact ⟨(ns.drop _).take _, by rw [List.map_take, List.map_drop]⟩
theorem ok_pool {f : Addr} {fd : FuncData} {k : Nat} (B : Bi mg) (D : Df K mg "_law_pool" sPool f fd ["_law_script", "_law_k"]) : FnOk P w K mg base CX0 (k + 1) f fd ["_law_script", "_law_k"] (spPool K) := by
  refine D.fn.ok scPool (fun vs H Q E h => ?_) (fun cdv A outer s H vs Q E hr h => ?_)
  · obtain ⟨l, m, i, rfl, _⟩ := h
    rfl
  · obtain ⟨a, ns, i, rfl, hs, i0, i1, q⟩ := h
    refine ⟨_, pss_cons (ps_set (i := 2) scPool.nd rfl (.inl rfl) (pe_callB (cr_sum rfl) (by rfl) B.sum (by decide +kernel) (pa_cons (pe_slice sl_list (pv 0) (po_some (pv 1)) (po_some (pe_op op_add (pv 1) pe_int))) pa_nil)))
      (pss_cons (ps_if (PW.pt (pw_or (pt_cmpR op_lt (pv 2) pe_int (nomark _)) (pw_or1 (pt_cmpR op_ge (pv 2) (pe_op op_pow pe_int pe_int) (nomark _)))))
        (pss_one (ps_ret (pe_lst (pa_cons (pe_op op_mod (pe_callB call_abs (by rfl) B.abs (by decide +kernel) (pa_cons (pv 2) pa_nil))
          (pe_op op_mulW (pe_op op_mulW (pe_op op_mulW (pe_op op_mulW (pe_op op_mulW (pe_op op_pow pe_int pe_int) (pe_op op_pow pe_int pe_int)) (pe_op op_pow pe_int pe_int)) (pe_op op_pow pe_int pe_int)) (pe_op op_pow pe_int pe_int)) (pe_op op_pow pe_int pe_int))) pa_nil)))) pss_nil)
      (pss_cons (ps_set (i := 3) scPool.nd rfl (.inl rfl) (pe_op op_add (pe_op op_add (pe_op op_mul (pv 2) pe_int) (pe_op op_mul (pe_op op_mul pe_int (pv 1)) (pv 1))) pe_int))
      (pss_cons (ps_set (i := 4) scPool.nd rfl (.inl rfl) pe_int)
      (pss_cons (ps_for PassesOwn.never rfl (pi_range1 (by rfl) B.range (pa_cons pe_int pa_nil)) (pg_name (i := 5) scPool.nd rfl (.inl rfl))
        (pss_cons (ps_set (i := 3) scPool.nd rfl (.inl rfl) (pe_op op_mod (pe_op op_add (pe_op op_add (pe_op op_mul (pe_op op_mod (pv 3) pe_int) pe_int) (pe_op op_mul pe_int (pv 5))) pe_int) pe_int))
        (pss_one (ps_set (i := 4) scPool.nd rfl (.inl rfl) (pe_op op_add (pe_op op_mulW (pv 4) (pe_op op_pow pe_int pe_int)) (pe_op op_mod (pe_op op_mul (pv 3) (pe_op op_add (pe_op op_mod (pv 3) pe_int) pe_int)) pe_int))))))
      (pss_one (ps_ret (pe_lst (pa_cons (pv 4) pa_nil)))))))), ?_⟩
    refine ⟨_, rfl, _, rfl, i, rfl, _, rfl, i, 1, rfl, rfl, i + 1, rfl, a, _, rfl, hs, fun p hp => ?_⟩
    obtain ⟨ms, em⟩ := cut_ints ns (some i) (some (i + 1))
    have sm : Same H (upd H p (.lst (cutV (ns.map V.int) (some i) (some (i + 1))))) := same_new hp
    refine ⟨p, ms, rfl, sqL (by rw [upd_same, em]), ?_⟩
    generalize ms.sum = c
    revert sm
    generalize upd H p (.lst (cutV (ns.map V.int) (some i) (some (i + 1)))) = H1
    intro sm
    refine ⟨_, rfl, c, 0, rfl, rfl, _, rfl, ?_⟩
    have huge : ∀ (Q2 : V → Hp → Prop), (∀ l n, H1 l = none → 0 ≤ n → n.natAbs < 2 ^ 1300 → Q2 (.ref l) (upd H1 l (.lst [.int n]))) →
        tLst (tCons (tOp (rI (fun _ j => 0 < j) fun i j => .int (i % j)) (tCB (fun xs H Q => ∃ i, xs = [.int i] ∧ Q (.int (if i < 0 then -i else i)) H) (tCons (tVar 2) tNil))
          (tOp (rI CMulW fun i j => .int (i * j)) (tOp (rI CMulW fun i j => .int (i * j)) (tOp (rI CMulW fun i j => .int (i * j)) (tOp (rI CMulW fun i j => .int (i * j)) (tOp (rI CMulW fun i j => .int (i * j)) (tOp (rI CPow fun i j => .int (i ^ j.toNat)) (tC (.int 10)) (tC (.int 64))) (tOp (rI CPow fun i j => .int (i ^ j.toNat)) (tC (.int 10)) (tC (.int 64)))) (tOp (rI CPow fun i j => .int (i ^ j.toNat)) (tC (.int 10)) (tC (.int 64)))) (tOp (rI CPow fun i j => .int (i ^ j.toNat)) (tC (.int 10)) (tC (.int 64)))) (tOp (rI CPow fun i j => .int (i ^ j.toNat)) (tC (.int 10)) (tC (.int 64)))) (tOp (rI CPow fun i j => .int (i ^ j.toNat)) (tC (.int 10)) (tC (.int 64))))) tNil)
          [some (.ref a), some (.int i), some (.int c), none, none, none] H1 Q2 := fun Q2 h => by
      have cp : CPow 10 64 := ⟨by decide, by decide, by decide⟩
      have t0 : ((10 : Int) ^ (64 : Int).toNat).natAbs < 2 ^ 213 := by decide
      have b0 : (0 : Int) < (10 : Int) ^ (64 : Int).toNat := by decide
      generalize he : (10 : Int) ^ (64 : Int).toNat = t at t0 b0
      have t1 := wide_lt t0 t0
      have t2 := wide_lt t1 t0
      have t3 := wide_lt t2 t0
      have t4 := wide_lt t3 t0
      have t5 := wide_lt t4 t0
      have b5 : 0 < t * t * t * t * t * t := Int.mul_pos (Int.mul_pos (Int.mul_pos (Int.mul_pos (Int.mul_pos b0 b0) b0) b0) b0) b0
      have hv := congrArg V.int he
      refine ⟨_, rfl, c, rfl, 10, 64, rfl, rfl, cp, 10, 64, rfl, rfl, cp, t, t, hv, hv, wide_mul t0 t0 (by decide) (by decide) (by decide), 10, 64, rfl, rfl, cp,
        t * t, t, rfl, hv, wide_mul t1 t0 (by decide) (by decide) (by decide), 10, 64, rfl, rfl, cp, t * t * t, t, rfl, hv, wide_mul t2 t0 (by decide) (by decide) (by decide), 10, 64, rfl, rfl, cp,
        t * t * t * t, t, rfl, hv, wide_mul t3 t0 (by decide) (by decide) (by decide), 10, 64, rfl, rfl, cp, t * t * t * t * t, t, rfl, hv, wide_mul t4 t0 (by decide) (by decide) (by decide),
        _, _, rfl, rfl, b5, by show 1 ≤ sizeLine; decide, fun l hl => h l _ hl (Int.emod_nonneg _ (by omega)) ?_⟩
      have := Int.emod_lt_of_pos (if c < 0 then -c else c) b5
      exact Nat.lt_of_lt_of_le (wide_le (Int.emod_nonneg _ (by omega)) (Int.le_of_lt this) t5) (pow_le (by decide))
    have fin : ∀ l n, H1 l = none → 0 ≤ n → n.natAbs < 2 ^ 1300 → Q (.ref l) (upd H1 l (.lst [.int n])) := fun l n hl h0 hB => q _ l (sm.trans (same_new hl)) (sm.free hl) ⟨n, upd_same, h0, hB⟩
    by_cases hneg : c < 0
    · rw [decide_eq_true hneg]
      exact iteT (iteT (huge Q fin))
    · rw [decide_eq_false hneg]
      refine iteF ⟨_, rfl, 10, 18, rfl, rfl, ⟨by decide, by decide, by decide⟩, c, _, rfl, rfl, _, rfl, ?_⟩
      by_cases hbig : (10 : Int) ^ (18 : Int).toNat ≤ c
      · rw [decide_eq_true hbig]
        exact iteT (huge Q fin)
      · rw [decide_eq_false hbig]
        have hc : c < 1000000000000000000 := by
          have : (10 : Int) ^ (18 : Int).toNat = 1000000000000000000 := by decide
          omega
        refine iteF ?_
        refine ⟨_, rfl, c, 48271, rfl, rfl, .inr ⟨by decide, by decide⟩, _, rfl, 977, i, rfl, rfl, .inl ⟨by decide, by decide⟩, _, rfl, _, i, rfl, rfl, .inr ⟨by omega, by omega⟩, _, _, rfl, rfl, _, 13, rfl, rfl, ?_⟩
        have m0 : 0 ≤ c * 48271 + 977 * i * i + 13 := by
          have := Int.mul_nonneg (show 0 ≤ 977 * i by omega) i0
          omega
        refine ⟨27, rfl, by decide, by decide, for_range (lo := 0) (n := 27) (fun j σ H' => ∃ (mm ff : Int) (y : Option V), σ = [some (.ref a), some (.int i), some (.int c), some (.int mm), some (.int ff), y] ∧ 0 ≤ mm ∧ 0 ≤ ff ∧ ff.natAbs < 2 ^ (37 * j) ∧ H' = H1)
          ⟨_, 0, none, rfl, m0, Int.le_refl 0, by decide, rfl⟩ ?_ ?_⟩
        · rintro j σ H' hj ⟨mm, ff, y, rfl, g1, g2, g3, rfl⟩
          have r0 := Int.emod_nonneg mm (show (999999999989 : Int) ≠ 0 by decide)
          have r1 := Int.emod_lt_of_pos mm (show (0 : Int) < 999999999989 by decide)
          refine ⟨_, rfl, mm, 999999999989, rfl, rfl, by show (0 : Int) < 999999999989; decide, _, 69621, rfl, rfl, .inr ⟨by decide, by decide⟩, _, rfl, 40503, _, rfl, rfl, .inl ⟨by decide, by decide⟩, _, _, rfl, rfl, _, 271, rfl, rfl, _, 999999999989, rfl, rfl, by show (0 : Int) < 999999999989; decide, ?_⟩
          have s0 := Int.emod_nonneg (mm % 999999999989 * 69621 + 40503 * (0 + (j : Int)) + 271) (show (999999999989 : Int) ≠ 0 by decide)
          have s1 := Int.emod_lt_of_pos (mm % 999999999989 * 69621 + 40503 * (0 + (j : Int)) + 271) (show (0 : Int) < 999999999989 by decide)
          have fB : ff.natAbs < 2 ^ 1000 := Nat.lt_of_lt_of_le g3 (pow_le (by omega))
          refine ⟨_, rfl, 10, 11, rfl, rfl, ⟨by decide, by decide, by decide⟩, ff, _, rfl, rfl, wide_mul fB (show ((10 : Int) ^ (11 : Int).toNat).natAbs < 2 ^ 64 by decide) (by decide) (by decide) (by decide), _, rfl, _, rfl, _, 65537, rfl, rfl, by show (0 : Int) < 65537; decide, _, 3, rfl, rfl, _, _, rfl, rfl, .inl ⟨Int.lt_of_lt_of_le (by decide) s0, Int.lt_trans s1 (by decide)⟩, _, 99999999977, rfl, rfl, by show (0 : Int) < 99999999977; decide, _, _, rfl, rfl, ?_⟩
          refine ⟨_, _, _, rfl, s0, ?_, ?_, rfl⟩
          · exact (found_step g2 g3 (Int.emod_nonneg _ (by decide)) (Int.emod_lt_of_pos _ (by decide))).1
          · exact (found_step g2 g3 (Int.emod_nonneg _ (by decide)) (Int.emod_lt_of_pos _ (by decide))).2
        · rintro σ H' ⟨mm, ff, y, rfl, g1, g2, g3, rfl⟩
          exact ⟨_, rfl, by show 1 ≤ sizeLine; decide, fun l hl => fin l ff hl g2 (Nat.lt_of_lt_of_le g3 (pow_le (by decide)))⟩
end
end WdQ

set_option Elab.async false
set_option linter.all false
set_option maxRecDepth 100000
set_option maxHeartbeats 4000000
set_option exponentiation.threshold 5000
namespace WdQ
open PySem PySem.Spec PyProof.Rows L2 WdM Wd
abbrev sNm : Stmt := topS 60
abbrev sMk : Stmt := topS 61
theorem scNm : FnScope ["_law_pool_here", "_law_own", "_law_letters", "_law_found", "_law_place"] ["_law_pool_here"] (defScope sNm) := ⟨rfl, rfl, rfl, by decide +kernel, rfl, by decide +kernel, by decide +kernel⟩
abbrev nMk : List Str := ["_law_pool_here", "_law_found", "_law_turn", "_law_many", "_law_words", "_law_place", "_law_some"]
theorem scMk : FnScope nMk ["_law_pool_here"] (defScope sMk) := ⟨rfl, rfl, rfl, by decide +kernel, rfl, by decide +kernel, by decide +kernel⟩
/-- a text of small letters -/
def ClS (v : V) : Prop := ∃ z : Str, v = .str z ∧ okL z ∧ z.length ≤ 9
def tWs (ws : List V) : TE := fun σ H Q => ∀ p H', Same H H' → H p = none → H' p = some (.lst ws) → Q (.ref p) H'
def tCatWs (i : Nat) (ws : List V) : TE := fun σ H Q => ∃ p xs, σ[i]? = some (some (.ref p)) ∧ H p = some (.lst xs) ∧ (xs.length + ws.length ≤ 100) ∧ ∀ p' H', Same H H' → H p' = none → H' p' = some (.lst (xs ++ ws)) → Q (.ref p') H'
def own12 : List V := [.str "one", .str "none", .str "abcdefgh", .str "abcdefghi", .str "ann", .str "ben", .str "x", .str "give", .str "rest", .str "wait", .str "alls", .str "stocks"]
theorem clsD : ∀ z ∈ ["all", "and", "children", "childless", "crown", "else", "if", "lives", "not", "of", "or", "stock", "to", "one", "none", "abcdefgh", "abcdefghi", "ann", "ben", "x", "give", "rest", "wait", "alls", "stocks"].map Str.ofString, (∀ c ∈ z.cps.toList, letB c = true) ∧ z.length ≤ 9 := by decide +kernel
theorem own_cl : ∀ x ∈ noNames ++ own12, ClS x := by
  intro x hx
  have e : noNames ++ own12 = (["all", "and", "children", "childless", "crown", "else", "if", "lives", "not", "of", "or", "stock", "to", "one", "none", "abcdefgh", "abcdefghi", "ann", "ben", "x", "give", "rest", "wait", "alls", "stocks"].map Str.ofString).map V.str := rfl
  rw [e] at hx
  obtain ⟨z, hz, rfl⟩ := List.mem_map.mp hx
  exact ⟨z, rfl, clsD z hz⟩
theorem part_cl : ∀ x ∈ partW, ClS x := by
  intro x hx
  have e : partW = (["one", "children", "stock"].map Str.ofString).map V.str := rfl
  rw [e] at hx
  obtain ⟨z, hz, rfl⟩ := List.mem_map.mp hx
  refine ⟨z, rfl, clsD z ?_⟩
  revert z
  decide +kernel
theorem at_let {d : Int} (d0 : 0 ≤ d) (d1 : d < 26) : ∃ c, atI lettersS.cps.toList d = some c ∧ letB c = true := by
  obtain ⟨n, rfl⟩ := Int.eq_ofNat_of_zero_le d0
  have hn : n < lettersS.cps.toList.length := by
    show n < 26
    omega
  exact ⟨_, atI_nat (List.getElem?_eq_getElem hn), decide_eq_true (List.getElem_mem hn)⟩
theorem len_app (x y : Str) : (x ++ y).length = x.length + y.length := strLen_append x y
theorem okL_app {x : Str} {c : Nat} (h : okL x) (hc : letB c = true) : okL (x ++ ⟨#[c]⟩) := by
  intro e he
  have he : e ∈ (x.cps ++ #[c]).toList := he
  rw [Array.toList_append] at he
  rcases List.mem_append.mp he with z | z
  · exact h e z
  · have : e = c := by simpa using z
    rw [this]
    exact hc
section
variable {P : Program} {w : World} {K : PySem.W.Frag} {mg : Str → Option Value} {base : Heap}
theorem lst_ne {H : Hp} {l p : Addr} {ws : List V} (h : PoolAt H l) (e : H p = some (.lst ws)) (n : ws.length ≠ 1) : p ≠ l := fun z => by
  obtain ⟨m, q, _⟩ := h
  rw [← z, e] at q
  exact n (congrArg (fun o : Option HO => match o with | some (.lst xs) => xs.length | _ => 0) q)
def spNm : Sp := fun vs H Q _ => ∃ l : Addr, vs = [.ref l] ∧ PoolAt H l ∧ ∀ H' v, Bt [l] H H' → PoolAt H' l → ClS v → Q v H'
theorem ok_nm {f fT : Addr} {fd fdT : FuncData} {k : Nat} (B : Bi mg) (D : Df K mg "_law_name" sNm f fd ["_law_pool_here"]) (DT : Df K mg "_law_take" sTake fT fdT ["_law_pool_here", "_law_many"]) : FnOk P w K mg base CX0 (k + 2) f fd ["_law_pool_here"] spNm := by
  have GT : FnOk P w K mg base CX0 (k + 1) fT fdT ["_law_pool_here", "_law_many"] spTake := ok_take (k := k) B DT
  refine D.fn.ok scNm (fun vs H Q E h => ?_) (fun cdv A outer s H vs Q E hr h => ?_)
  · obtain ⟨l, rfl, _⟩ := h
    rfl
  · obtain ⟨l, rfl, pool, q⟩ := h
    refine ⟨_, pss_cons (ps_set (i := 1) scNm.nd rfl (.inl rfl) (PE.wk (t' := tWs noNames) (pe_lst (pa_cons pe_str (pa_cons pe_str (pa_cons pe_str (pa_cons pe_str (pa_cons pe_str (pa_cons pe_str (pa_cons pe_str (pa_cons pe_str (pa_cons pe_str (pa_cons pe_str (pa_cons pe_str (pa_cons pe_str (pa_cons pe_str pa_nil)))))))))))))) (by intro σ H Q q; exact ⟨by show noNames.length ≤ sizeLine; decide, fun p n => q p _ (same_new n) n upd_same⟩)))
      (pss_cons (ps_set (i := 1) scNm.nd rfl (.inl rfl) (PE.wk (t' := tCatWs 1 own12) (pe_op op_cat (pv 1) (pe_lst (pa_cons pe_str (pa_cons pe_str (pa_cons pe_str (pa_cons pe_str (pa_cons pe_str (pa_cons pe_str (pa_cons pe_str (pa_cons pe_str (pa_cons pe_str (pa_cons pe_str (pa_cons pe_str (pa_cons pe_str pa_nil)))))))))))))) (by
          rintro σ H Q ⟨p, xs, h1, l, sz, q⟩
          exact ⟨_, h1, by show 12 ≤ sizeLine; decide, fun p1 n1 => ⟨p, p1, xs, _, rfl, rfl, same_new n1 _ _ l, upd_same, (by show xs.length + 12 ≤ sizeLine; exact Nat.le_trans sz (by decide)), fun p2 n2 => q p2 _ ((same_new n1).trans (same_new n2)) ((same_new n1).free n2) upd_same⟩⟩)))
      (pss_cons (ps_if (pt_cmpR op_eq (pe_call GT hr (by rfl) DT.mg DT.fn.kp DT.bd .nil pass0 (pa_cons (pv 0) (pa_cons pe_int pa_nil))) pe_int (nomark _))
        (pss_one (ps_ret (pe_ix (r := rIxL K) ix_list (pv 1) (pe_call GT hr (by rfl) DT.mg DT.fn.kp DT.bd .nil pass0 (pa_cons (pv 0) (pa_cons pe_int pa_nil))) (fun _ _ => rfl)))) pss_nil)
      (pss_cons (ps_asg (pe_tup (pa_cons pe_str (pa_cons pe_str pa_nil))) (pg_tup rfl (pgs_cons (pg_name (i := 2) scNm.nd rfl (.inl rfl)) (pgs_cons (pg_name (i := 3) scNm.nd rfl (.inl rfl)) pgs_nil))))
      (pss_cons (ps_for PassesOwn.never rfl (pi_range1 (by rfl) B.range (pa_cons (pe_op op_add pe_int (pe_call GT hr (by rfl) DT.mg DT.fn.kp DT.bd .nil pass0 (pa_cons (pv 0) (pa_cons pe_int pa_nil)))) pa_nil)) (pg_name (i := 4) scNm.nd rfl (.inl rfl))
          (pss_one (ps_set (i := 3) scNm.nd rfl (.inl rfl) (pe_op op_add_str (pv 3) (pe_ix (r := rIxS) ix_str (pv 2) (pe_call GT hr (by rfl) DT.mg DT.fn.kp DT.bd .nil pass0 (pa_cons (pv 0) (pa_cons pe_int pa_nil))) (fun _ _ => rfl))))))
      (pss_one (ps_ret (pv 3))))))), ?_⟩
    intro p1 H1 s1 _ l1
    refine ⟨p1, _, rfl, l1, by decide, fun p2 H2 s2 _ l2 => ?_⟩
    have pool2 := (pool.same s1).same s2
    have n2 : p2 ≠ l := lst_ne pool2 l2 (by decide)
    have b2 : Bt [l] H H2 := .of_same (s1.trans s2)
    clear s1 s2 l1
    refine ⟨_, rfl, l, 5, rfl, pool2, by decide, fun H3 d3 b3 pool3 d30 d31 => ⟨rfl, _, rfl, ?_⟩⟩
    have l3 := kept b3 l2 (by simp [n2])
    by_cases hz : d3 = 0
    · subst hz
      refine iteT ⟨_, rfl, _, rfl, l, 25, rfl, pool3, by decide, fun H4 d4 b4 pool4 d40 d41 => ?_⟩
      obtain ⟨v, e, cl⟩ := at_of (d := d4) own_cl d40 (by show d4 < 25; omega)
      exact ⟨p2, _, d4, v, rfl, rfl, sqL (kept b4 l3 (by simp [n2])), e, q H4 v ((b2.trans b3).trans b4) pool4 cl⟩
    · rw [show decide (V.int d3 = V.int 0) = false by simp [hz]]
      refine iteF ⟨by show 2 ≤ sizeLine; decide, fun tp ntp => ⟨tp, _, rfl, sqT upd_same, rfl, _, _, rfl, _, _, rfl, rfl, ?_⟩⟩
      have b3 : Bt [l] H2 (upd H3 tp (.tup [.str lettersS, .str ""])) := b3.new ntp
      have pool3 := pool3.upd (o := .tup [.str lettersS, .str ""]) (pool3.ne ntp)
      refine ⟨_, rfl, l, 8, rfl, pool3, by decide, fun H4 d4 b4 pool4 d40 d41 => ⟨1, d4, rfl, rfl, 1 + d4, rfl, by omega, by omega, ?_⟩⟩
      refine for_range (lo := 0) (n := (1 + d4).toNat) (fun i σ H' => ∃ (z : Str) (y : Option V), σ = [some (.ref l), some (.ref p2), some (.str lettersS), some (.str z), y] ∧ okL z ∧ z.length ≤ i ∧ Bt [l] H H' ∧ PoolAt H' l) ⟨"", none, rfl, (fun c hc => nomatch hc), by decide, (b2.trans b3).trans b4, pool4⟩ ?_ ?_
      · rintro i σ H5 hi ⟨z, y3, rfl, zk, zl, b5, pool5⟩
        refine ⟨_, rfl, _, rfl, _, rfl, l, 26, rfl, pool5, by decide, fun H6 d6 b6 pool6 d60 d61 => ?_⟩
        obtain ⟨c, hc, lc⟩ := at_let d60 d61
        have e := len_app z ⟨#[c]⟩
        have e1 : (⟨#[c]⟩ : Str).length = 1 := rfl
        exact ⟨lettersS, d6, c, rfl, rfl, by show 26 ≤ sizeLine; decide, hc, _, _, rfl, rfl, small_len (by omega), _, _, rfl, okL_app zk lc, by omega, b5.trans b6, pool6⟩
      · rintro σ H5 ⟨z, y3, rfl, zk, zl, b5, pool5⟩
        exact ⟨_, rfl, q H5 _ b5 pool5 ⟨z, rfl, zk, by omega⟩⟩
/-! ### a WHOM is made -/
def numR (hi : Int) (v : V) : Prop := ∃ n : Int, v = .int n ∧ 1 ≤ n ∧ n ≤ hi
def tNum (hi : Int) : TE := fun σ H Q => ∃ l, σ[0]? = some (some (.ref l)) ∧ PoolAt H l ∧ ∀ H' n, Bt [l] H H' → PoolAt H' l → 1 ≤ n → n ≤ hi → Q (.int n) H'
def spMk (K : PySem.W.Frag) : Sp := fun vs H Q _ => ∃ l : Addr, vs = [.ref l] ∧ PoolAt H l ∧ ∀ H' v, Bt [l] H H' → PoolAt H' l → Cz K 3 H' v → Q v H'
theorem ok_mk {f fT fN : Addr} {fd fdT fdN : FuncData} {k : Nat} (B : Bi mg) (D : Df K mg "_law_whom" sMk f fd ["_law_pool_here"]) (DT : Df K mg "_law_take" sTake fT fdT ["_law_pool_here", "_law_many"]) (DN : Df K mg "_law_name" sNm fN fdN ["_law_pool_here"]) :
    FnOk P w K mg base CX0 (k + 3) f fd ["_law_pool_here"] (spMk K) := by
  have GT : FnOk P w K mg base CX0 (k + 2) fT fdT ["_law_pool_here", "_law_many"] spTake := ok_take (k := k + 1) B DT
  have GN : FnOk P w K mg base CX0 (k + 2) fN fdN ["_law_pool_here"] spNm := ok_nm (k := k) B DN DT
  refine D.fn.ok scMk (fun vs H Q E h => ?_) (fun cdv A outer s H vs Q E hr h => ?_)
  · obtain ⟨l, rfl, _⟩ := h
    rfl
  · obtain ⟨l, rfl, pool, q⟩ := h
    refine ⟨_, pss_cons (ps_set (i := 1) scMk.nd rfl (.inl rfl) (pe_lst pa_nil))
      (pss_cons (ps_for PassesOwn.never rfl (pi_range1 (by rfl) B.range (pa_cons (PE.wk (t' := tNum 5) (pe_ix (r := rIxL K) ix_list (pe_lst (pa_cons pe_int (pa_cons pe_int (pa_cons pe_int (pa_cons (pe_op op_add pe_int (pe_call GT hr (by rfl) DT.mg DT.fn.kp DT.bd .nil pass0 (pa_cons (pv 0) (pa_cons pe_int pa_nil)))) (pa_cons pe_int (pa_cons pe_int pa_nil)))))))
            (pe_call GT hr (by rfl) DT.mg DT.fn.kp DT.bd .nil pass0 (pa_cons (pv 0) (pa_cons pe_int pa_nil))) (fun _ _ => rfl)) (by
              rintro σ H Q ⟨l, h0, pool, q⟩
              refine ⟨_, h0, l, 4, rfl, pool, by decide, fun H1 d1 b1 pool1 d10 d11 => ⟨1, d1, rfl, rfl, by show 6 ≤ sizeLine; decide, fun p np => ?_⟩⟩
              have pool2 := pool1.upd (o := .lst [.int 1, .int 2, .int 4, .int (1 + d1), .int 3, .int 5]) (pool1.ne np)
              refine ⟨_, h0, l, 6, rfl, pool2, by decide, fun H3 d3 b3 pool3 d30 d31 => ?_⟩
              obtain ⟨v, e, n, rfl, n1, n5⟩ := at_of (P := numR 5) (xs := [.int 1, .int 2, .int 4, .int (1 + d1), .int 3, .int 5]) (d := d3) (by
                intro x hx
                simp only [List.mem_cons, List.not_mem_nil, or_false] at hx
                rcases hx with rfl | rfl | rfl | rfl | rfl | rfl <;> exact ⟨_, rfl, by omega, by omega⟩) d30 (by show d3 < 6; omega)
              exact ⟨p, _, d3, _, rfl, rfl, sqL (kept b3 upd_same (by simp [(pool1.ne np).symm])), e, q H3 n ((b1.new np).trans b3) pool3 n1 n5⟩)) pa_nil)) (pg_name (i := 2) scMk.nd rfl (.inl rfl))
        (pss_cons (ps_set (i := 3) scMk.nd rfl (.inl rfl) (PE.wk (t' := tNum 7) (pe_ix (r := rIxL K) ix_list (pe_lst (pa_cons pe_int (pa_cons (pe_op op_add pe_int (pe_call GT hr (by rfl) DT.mg DT.fn.kp DT.bd .nil pass0 (pa_cons (pv 0) (pa_cons pe_int pa_nil)))) (pa_cons pe_int (pa_cons pe_int (pa_cons pe_int (pa_cons pe_int (pa_cons pe_int (pa_cons pe_int (pa_cons pe_int (pa_cons pe_int (pa_cons pe_int (pa_cons pe_int pa_nil)))))))))))))
            (pe_call GT hr (by rfl) DT.mg DT.fn.kp DT.bd .nil pass0 (pa_cons (pv 0) (pa_cons pe_int pa_nil))) (fun _ _ => rfl)) (by
              rintro σ H Q ⟨l, h0, pool, q⟩
              refine ⟨_, h0, l, 6, rfl, pool, by decide, fun H1 d1 b1 pool1 d10 d11 => ⟨1, d1, rfl, rfl, by show 12 ≤ sizeLine; decide, fun p np => ?_⟩⟩
              have pool2 := pool1.upd (o := .lst [.int 1, .int (1 + d1), .int 6, .int 2, .int 1, .int 7, .int 3, .int 1, .int 1, .int 2, .int 4, .int 2]) (pool1.ne np)
              refine ⟨_, h0, l, 12, rfl, pool2, by decide, fun H3 d3 b3 pool3 d30 d31 => ?_⟩
              obtain ⟨v, e, n, rfl, n1, n5⟩ := at_of (P := numR 7) (xs := [.int 1, .int (1 + d1), .int 6, .int 2, .int 1, .int 7, .int 3, .int 1, .int 1, .int 2, .int 4, .int 2]) (d := d3) (by
                intro x hx
                simp only [List.mem_cons, List.not_mem_nil, or_false] at hx
                rcases hx with rfl | rfl | rfl | rfl | rfl | rfl | rfl | rfl | rfl | rfl | rfl | rfl <;> exact ⟨_, rfl, by omega, by omega⟩) d30 (by show d3 < 12; omega)
              exact ⟨p, _, d3, _, rfl, rfl, sqL (kept b3 upd_same (by simp [(pool1.ne np).symm])), e, q H3 n ((b1.new np).trans b3) pool3 n1 n5⟩)))
        (pss_cons (ps_set (i := 4) scMk.nd rfl (.inr rfl) (PE.wk (t' := tWs partW) (pe_lst (pa_cons pe_str (pa_cons pe_str (pa_cons pe_str pa_nil)))) (by intro σ H Q q; exact ⟨by show partW.length ≤ sizeLine; decide, fun p n => q p _ (same_new n) n upd_same⟩)))
        (pss_cons (ps_setLc (i := 6) (own := [("_law_place", 5)]) (g := gName 5) (tt := tYes) rfl scMk.nd rfl rfl (sw_true rfl rfl rfl (by decide +kernel)) (pi_range1 (by rfl) B.range (pa_cons (pv 3) pa_nil))
            (blkOk_by (own := [("_law_place", 5)]) (N := nMk) (sc := defScope sMk) (by decide +kernel))
            (fun _ _ _ _ _ => pg_name (i := 5) scMk.nd rfl (Or.inl rfl)) (fun _ _ _ _ _ => pts_nil)
            (fun _ _ _ _ _ => pe_tup (pa_cons (pe_ix (r := rIxL K) ix_list (pv 4) (pe_call GT hr (by rfl) DT.mg DT.fn.kp DT.bd .nil pass0 (pa_cons (pv 0) (pa_cons pe_int pa_nil))) (fun _ _ => rfl)) (pa_cons (pe_call GN hr (by rfl) DN.mg DN.fn.kp DN.bd .nil pass0 (pa_cons (pv 0) pa_nil)) pa_nil))))
        (pss_one (ps_expr (pe_bm PySem.F.plainAttrs_list PySem.F.slot_list_append PySem.F.type_list_append mt_append (pv 1) (pa_cons (pe_callTy call_tuple_of (by rfl) B.tuple boot_tuple (pa_cons (pv 6) pa_nil)) pa_nil))))))))
      (pss_one (ps_ret (pe_callTy call_tuple_of (by rfl) B.tuple boot_tuple (pa_cons (pv 1) pa_nil))))), ?_⟩
    refine ⟨by show 0 ≤ sizeLine; decide, fun fL nF => ?_⟩
    have nlf : l ≠ fL := pool.ne nF
    refine ⟨l, rfl, pool.upd nlf, fun H1 n b1 pool1 n1 n5 => ⟨n, rfl, by omega, by omega, ?_⟩⟩
    have lf1 : H1 fL = some (.lst []) := kept b1 upd_same (by simp [nlf.symm])
    have bt1 : Bt [l] H H1 := ((Bt.refl H).new nF).trans b1
    refine for_range (lo := 0) (n := n.toNat) (fun i σ H' => (∃ y2 y3 y4 y6 : Option V, σ = [some (.ref l), some (.ref fL), y2, y3, y4, none, y6]) ∧ (∃ xs, H' fL = some (.lst xs) ∧ xs.length = i ∧ ∀ x ∈ xs, Cz K 2 H' x) ∧ Bt [l] H H' ∧ PoolAt H' l) ⟨⟨none, none, none, none, rfl⟩, ⟨[], lf1, rfl, fun x hx => nomatch hx⟩, bt1, pool1⟩ ?_ ?_
    · rintro i σ H2 hi ⟨⟨y2, y3, y4, y6, rfl⟩, ⟨xs, hf, xl, cx⟩, b2, pool2⟩
      refine ⟨l, rfl, pool2, fun H3 m b3 pool3 m1 m7 => ?_⟩
      have tk3 : Tk H2 H3 := b3.tk pool2.lst
      have hf3 := kept b3 hf (by simp [nlf.symm])
      intro wL H4 s4 nw lw
      have pool4 := pool3.same s4
      have nlw : wL ≠ l := lst_ne pool4 lw (by decide)
      have hf4 := s4 _ _ hf3
      refine ⟨_, rfl, m, rfl, by omega, by omega, fun sL nS => ?_⟩
      have nls : l ≠ sL := pool4.ne nS
      refine lc_range (lo := 0) (n := m.toNat) (fun j H' => ∃ zs : List V, H' sL = some (.lst zs) ∧ zs.length = j ∧ (∀ x ∈ zs, Cz K 1 H' x) ∧ PoolAt H' l ∧ Bt [l] H4 H') ⟨[], upd_same, rfl, (fun x hx => nomatch hx), pool4.upd nls, (Bt.refl H4).new nS⟩ ?_ ?_
      · rintro j H5 hj ⟨zs, hS, zl, cz, pool5, b5⟩
        refine ⟨rfl, tyes (iteT ⟨_, rfl, _, rfl, l, 3, rfl, pool5, by decide, fun H6 d6 b6 pool6 d60 d61 => ?_⟩)⟩
        obtain ⟨v0, e0, z0, rfl, k0⟩ := at_of (d := d6) part_cl d60 (by show d6 < 3; omega)
        refine ⟨wL, _, d6, _, rfl, rfl, sqL (kept (b5.trans b6) lw (by simp [nlw])), e0, ?_⟩
        refine ⟨_, rfl, l, rfl, pool6, fun H7 v7 b7 pool7 c7 => ⟨by show 2 ≤ sizeLine; decide, fun tp ntp => ?_⟩⟩
        obtain ⟨z7, rfl, k7⟩ := c7
        have nlt : l ≠ tp := pool7.ne ntp
        have hS8 : (upd H7 tp (.tup [.str z0, .str z7])) sL = some (.lst zs) := by
          have := kept (b6.trans b7) hS (by simp [nls.symm])
          rw [upd_ne (ne_of_none this ntp)]
          exact this
        have pool8 := pool7.upd (o := .tup [.str z0, .str z7]) nlt
        have tk8 : Tk H5 (upd H7 tp (.tup [.str z0, .str z7])) := ((b6.trans b7).tk pool5.lst).trans (tk_new ntp)
        have b8 : Bt [l] H4 (upd H7 tp (.tup [.str z0, .str z7])) := ((b5.trans b6).trans b7).new ntp
        have cN : Cz K 1 (upd H7 tp (.tup [.str z0, .str z7])) (.ref tp) := cz_tup (sqT upd_same) (by show 2 ≤ 7; decide) (fun x hx => by
          simp only [List.mem_cons, List.not_mem_nil, or_false] at hx
          rcases hx with rfl | rfl
          · exact cz_str k0
          · exact cz_str k7)
        revert hS8 pool8 tk8 b8 cN
        generalize upd H7 tp (.tup [.str z0, .str z7]) = H8
        intro hS8 pool8 tk8 b8 cN
        have tk9 : Tk H8 (upd H8 sL (.lst (zs ++ [.ref tp]))) := tk_lst hS8
        refine ⟨zs, hS8, by rw [zl]; exact Nat.lt_of_lt_of_le (show j < 8 by omega) (by decide), zs ++ [.ref tp], upd_same, by rw [List.length_append, zl]; rfl, fun x hx => ?_, pool8.upd nls, b8.upd0 nS⟩
        rcases List.mem_append.mp hx with h | h
        · exact ((cz x h).tk tk8).tk tk9
        · rw [List.mem_singleton.mp h]
          exact cN.tk tk9
      · rintro H5 ⟨zs, hS, zl, cz, pool5, b5⟩
        have hf5 := kept b5 hf4 (by simp [nlf.symm])
        refine ⟨_, rfl, .inl ⟨rfl, _, sqL hf5⟩, _, rfl, sL, zs, rfl, .inl ⟨sqL hS, fun tp ntp => ?_⟩⟩
        have nlt : l ≠ tp := pool5.ne ntp
        have hf6 : (upd H5 tp (.tup zs)) fL = some (.lst xs) := by
          rw [upd_ne (ne_of_none hf5 ntp)]
          exact hf5
        have tk6 : Tk H2 (upd H5 tp (.tup zs)) := ((tk3.trans (tk_same s4)).trans (b5.tk pool4.lst)).trans (tk_new ntp)
        have cN : Cz K 2 (upd H5 tp (.tup zs)) (.ref tp) := cz_tup (sqT upd_same) (by rw [zl]; omega) (fun x hx => (cz x hx).tk (tk_new ntp))
        have pool6 := pool5.upd (o := .tup zs) nlt
        have b6 : Bt [l] H (upd H5 tp (.tup zs)) := (((b2.trans b3).trans (.of_same s4)).trans b5).new ntp
        revert hf6 tk6 cN pool6 b6
        generalize upd H5 tp (.tup zs) = H6
        intro hf6 tk6 cN pool6 b6
        refine ⟨fL, xs, _, rfl, rfl, hf6, by rw [xl]; exact Nat.lt_of_lt_of_le (show i < 6 by omega) (by decide), ?_⟩
        have tk7 : Tk H6 (upd H6 fL (.lst (xs ++ [.ref tp]))) := tk_lst hf6
        refine ⟨⟨_, _, _, _, rfl⟩, ⟨xs ++ [.ref tp], upd_same, by rw [List.length_append, xl]; rfl, fun x hx => ?_⟩, b6.upd0 nF, pool6.upd nlf⟩
        rcases List.mem_append.mp hx with h | h
        · exact ((cx x h).tk tk6).tk tk7
        · rw [List.mem_singleton.mp h]
          exact cN.tk tk7
    · rintro σ H2 ⟨⟨y2, y3, y4, y6, rfl⟩, ⟨xs, hf, xl, cx⟩, b2, pool2⟩
      refine ⟨_, rfl, fL, xs, rfl, .inl ⟨sqL hf, fun tp ntp => q _ _ (b2.new ntp) (pool2.upd (pool2.ne ntp)) (cz_tup (sqT upd_same) (by rw [xl]; omega) (fun x hx => (cx x hx).tk (tk_new ntp)))⟩⟩
end
end WdQ

set_option Elab.async false
set_option linter.all false
set_option maxRecDepth 100000
set_option maxHeartbeats 4000000
set_option exponentiation.threshold 5000
namespace WdQ
open PySem PySem.Spec PyProof.Rows L2 WdM Wd
abbrev sLN : Stmt := topS 62
abbrev sDue : Stmt := topS 63
theorem scLN : FnScope ["_law_thing", "_law_odd_here", "_law_sign"] ["_law_thing"] (defScope sLN) := ⟨rfl, rfl, rfl, by decide +kernel, rfl, by decide +kernel, by decide +kernel⟩
theorem scDue : FnScope ["_law_thing", "_law_parts", "_law_part"] ["_law_thing"] (defScope sDue) := ⟨rfl, rfl, rfl, by decide +kernel, rfl, by decide +kernel, by decide +kernel⟩
def ns4 : List V := [.int 1, .int 2, .int 3, .int 4]
def ns6 : List V := [.int 1, .int 2, .int 3, .int 4, .int 5, .int 6]
theorem in4 (n : Nat) : inV (.int (n : Nat)) ns4 = decide (1 ≤ n ∧ n ≤ 4) := by
  by_cases h : n ≤ 4
  · have : n = 0 ∨ n = 1 ∨ n = 2 ∨ n = 3 ∨ n = 4 := by omega
    rcases this with rfl | rfl | rfl | rfl | rfl <;> decide
  · rw [decide_eq_false (fun z => h z.2)]
    have e : ∀ m : Nat, m ≤ 4 → ((m : Int) == (n : Int)) = false := fun m hm => by simp; omega
    show ((1 : Int) == (n : Int) || ((2 : Int) == (n : Int) || ((3 : Int) == (n : Int) || ((4 : Int) == (n : Int) || false)))) = false
    rw [show ((1 : Int) == (n : Int)) = false from e 1 (by omega), show ((2 : Int) == (n : Int)) = false from e 2 (by omega), show ((3 : Int) == (n : Int)) = false from e 3 (by omega), show ((4 : Int) == (n : Int)) = false from e 4 (by omega)]
    rfl
theorem in6 (n : Nat) : inV (.int (n : Nat)) ns6 = decide (1 ≤ n ∧ n ≤ 6) := by
  by_cases h : n ≤ 6
  · have : n = 0 ∨ n = 1 ∨ n = 2 ∨ n = 3 ∨ n = 4 ∨ n = 5 ∨ n = 6 := by omega
    rcases this with rfl | rfl | rfl | rfl | rfl | rfl | rfl <;> decide
  · rw [decide_eq_false (fun z => h z.2)]
    have e : ∀ m : Nat, m ≤ 6 → ((m : Int) == (n : Int)) = false := fun m hm => by simp; omega
    show ((1 : Int) == (n : Int) || ((2 : Int) == (n : Int) || ((3 : Int) == (n : Int) || ((4 : Int) == (n : Int) || ((5 : Int) == (n : Int) || ((6 : Int) == (n : Int) || false)))))) = false
    rw [show ((1 : Int) == (n : Int)) = false from e 1 (by omega), show ((2 : Int) == (n : Int)) = false from e 2 (by omega), show ((3 : Int) == (n : Int)) = false from e 3 (by omega), show ((4 : Int) == (n : Int)) = false from e 4 (by omega), show ((5 : Int) == (n : Int)) = false from e 5 (by omega), show ((6 : Int) == (n : Int)) = false from e 6 (by omega)]
    rfl
theorem all_false {f : PyData → Bool} {ds : List PyData} {i : Nat} {e : PyData} (h : ds[i]? = some e) (n : f e = false) : ds.all f = false := by
  rw [List.all_eq_false]
  exact ⟨e, List.mem_of_getElem? h, by simp [n]⟩
theorem all_more {f : PyData → Bool} {ds : List PyData} {i : Nat} {e : PyData} (h : ds[i]? = some e) (a : (ds.take i).all f = true) (y : f e = true) : (ds.take (i + 1)).all f = true := by
  rw [take_more h, List.all_append, a]
  simp [y]
section
variable {P : Program} {w : World} {K : PySem.W.Frag} {mg : Str → Option Value} {base : Heap}
theorem ok_lname {f : Addr} {fd : FuncData} {k : Nat} (B : Bi mg) (D : Df K mg "_law_is_name" sLN f fd ["_law_thing"]) : FnOk P w K mg base CX0 (k + 1) f fd ["_law_thing"] (spName K) := by
  refine D.fn.ok scLN (fun vs H Q E h => ?_) (fun cdv A outer s H vs Q E hr h => ?_)
  · obtain ⟨v, d, rfl, _⟩ := h
    rfl
  · obtain ⟨v, d, rfl, th, sk, q⟩ := h
    refine ⟨_, pss_cons (ps_set (i := 1) scLN.nd rfl (.inl rfl) (PE.wk (t' := tWs noNames) (pe_lst (pa_cons pe_str (pa_cons pe_str (pa_cons pe_str (pa_cons pe_str (pa_cons pe_str (pa_cons pe_str (pa_cons pe_str (pa_cons pe_str (pa_cons pe_str (pa_cons pe_str (pa_cons pe_str (pa_cons pe_str (pa_cons pe_str pa_nil)))))))))))))) (by intro σ H Q q; exact ⟨by show noNames.length ≤ sizeLine; decide, fun p n => q p _ (same_new n) n upd_same⟩)))
      (pss_cons (ps_if (PW.pt (pw_or (pt_not (pt_val (pe_callB call_isi (by rfl) B.isi boot_isinstance (pa_cons (pv 0) (pa_cons (pe_bltn (v := .ty "str") (by rfl) B.str boot_str rfl) pa_nil)))))
          (pw_or (pt_cmpR op_lt (pe_callB call_len_str (by rfl) B.len PySem.boot_len (pa_cons (pv 0) pa_nil)) pe_int (nomark _))
          (pw_or (pt_cmpR op_gt (pe_callB call_len_str (by rfl) B.len PySem.boot_len (pa_cons (pv 0) pa_nil)) pe_int (nomark _))
          (pw_or1 (pt_cmpR op_in_seq (pv 0) (pv 1) (by rfl))))))) (pss_one (ps_ret pe_bl)) pss_nil)
      (pss_one (ps_ret (pe_callB (cr_all rfl) (by rfl) B.all (by decide +kernel) (pa_cons
          (pe_lc (own := [("_law_sign", 2)]) (g := gName 2) (tt := tYes) rfl scLN.nd (pi_str (pv 0)) (blkOk_by (own := [("_law_sign", 2)]) (N := ["_law_thing", "_law_odd_here", "_law_sign"]) (sc := defScope sLN) (by decide +kernel))
            (fun _ _ _ _ _ => pg_name (i := 2) scLN.nd rfl (Or.inl rfl)) (fun _ _ _ _ _ => pts_nil)
            (fun _ _ _ _ _ => pe_cmpR op_in_sign (pv 2) pe_str (by rfl))) pa_nil))))), ?_⟩
    intro p0 H0 s0 _ l0
    have q : ∀ H', Same H0 H' → Q (.bl (nameB d)) H' := fun H' e => q H' (s0.trans e)
    have ty : TyX K H0 v (.type (tyN d)) := th.ty0 H0 s0
    clear s0
    refine ⟨_, rfl, _, .ty "str", _, .type "str", _, rfl, .ty _, ty, kit_str d, _, rfl, ?_⟩
    by_cases hs : strB d = true
    · rw [hs]
      obtain ⟨z, rfl⟩ := str_of hs
      obtain rfl := th.str z rfl
      have zl := sk z rfl
      have no : ¬ (1 ≤ z.length ∧ z.length ≤ 8) → nameB (.str z) = false := fun e => by
        show (decide _ && _ && _) = false
        rw [decide_eq_false e]
        rfl
      refine iteF ⟨_, rfl, z, rfl, small_len zl, _, 1, rfl, rfl, _, rfl, ?_⟩
      by_cases g0 : 1 ≤ z.length
      · rw [decide_eq_false (show ¬ (z.length : Int) < 1 by omega)]
        refine iteF ⟨_, rfl, z, rfl, small_len zl, _, 8, rfl, rfl, _, rfl, ?_⟩
        by_cases g1 : z.length ≤ 8
        · rw [decide_eq_false (show ¬ (8 : Int) < (z.length : Int) by omega)]
          refine iteF ⟨_, rfl, _, rfl, p0, noNames, rfl, .inl (sqL l0), rfl, rfl, _, rfl, ?_⟩
          have yes : nameB (.str z) = (!inV (.str z) noNames && z.cps.toList.all letB) := by
            show (decide _ && _ && _) = _
            rw [decide_eq_true ⟨g0, g1⟩]
            rfl
          rw [yes] at q
          by_cases hi : inV (.str z) noNames = true
          · rw [hi] at q ⊢
            exact iteT (q H0 (Same.refl H0))
          · have hi' : inV (.str z) noNames = false := by simpa using hi
            rw [hi'] at q ⊢
            refine iteF ⟨_, rfl, z, rfl, fun L nL => lc_it walk_str (fun i H' => H' L = some (.lst (((z.cps.toList.take i).map letB).map V.bl)) ∧ Same H0 H') ⟨upd_same, same_new nL⟩ (fun _ _ _ _ => trivial) ?_ ?_⟩
            · rintro i x H1 H' hx ⟨hL, sm⟩ ⟨rfl, c, hc, rfl⟩
              refine ⟨rfl, tyes (iteT ⟨_, rfl, c, lettersS, rfl, rfl, ?_⟩)⟩
              have hc' : z.cps.toList[i]? = some c := by simpa using hc
              refine ⟨_, hL, ?_, ?_, ?_⟩
              · rw [List.length_map, List.length_map, List.length_take]
                exact small1000 (by have := lt_get hc'; have : z.cps.toList.length = z.length := by simp [Str.length]
                                    omega)
              · rw [upd_same, take_more hc', List.map_append, List.map_append]
                rfl
              · exact ((Bt.of_same (S := []) sm).upd0 nL).same
            · rintro H' ⟨hL, sm⟩
              have e : z.cps.toList.take z.cps.size = z.cps.toList := List.take_of_length_le (by simp)
              rw [e] at hL
              refine ⟨L, _, rfl, sqL hL, ?_⟩
              have e2 : (z.cps.toList.map letB).all id = z.cps.toList.all letB := by rw [List.all_map]; rfl
              rw [e2]
              exact q H' sm
        · rw [decide_eq_true (show (8 : Int) < (z.length : Int) by omega)]
          rw [no (fun e => g1 e.2)] at q
          exact iteT (iteT (q H0 (Same.refl H0)))
      · rw [decide_eq_true (show (z.length : Int) < 1 by omega)]
        rw [no (fun e => g0 e.1)] at q
        exact iteT (iteT (q H0 (Same.refl H0)))
    · have hs' : strB d = false := by simpa using hs
      rw [hs']
      rw [name_no hs'] at q
      exact iteT (iteT (q H0 (Same.refl H0)))
theorem ok_due {f fN : Addr} {fd fdN : FuncData} {k : Nat} (B : Bi mg) (D : Df K mg "_law_due" sDue f fd ["_law_thing"]) (DN : Df K mg "_law_is_name" sLN fN fdN ["_law_thing"]) : FnOk P w K mg base CX0 (k + 2) f fd ["_law_thing"] (spData K whomB) := by
  have GN : FnOk P w K mg base CX0 (k + 1) fN fdN ["_law_thing"] (spName K) := ok_lname B DN
  refine D.fn.ok scDue (fun vs H Q E h => ?_) (fun cdv A outer s H vs Q E hr h => ?_)
  · obtain ⟨S, v, d, rfl, _⟩ := h
    rfl
  · obtain ⟨S, v, d, rfl, dz, fin, q⟩ := h
    refine ⟨_, pss_cons (ps_if (PW.pt (pw_or (pt_not (pt_val (pe_callB call_isi (by rfl) B.isi boot_isinstance (pa_cons (pv 0) (pa_cons (pe_bltn (v := .ty "tuple") (by rfl) B.tuple boot_tuple rfl) pa_nil)))))
          (pw_or1 (pt_cmpR op_notIn_seq (pe_callB call_len_seq (by rfl) B.len PySem.boot_len (pa_cons (pv 0) pa_nil)) (PE.wk (t' := tWs ns4) (pe_lst (pa_cons pe_int (pa_cons pe_int (pa_cons pe_int (pa_cons pe_int pa_nil))))) (by intro σ H Q q; exact ⟨by show ns4.length ≤ sizeLine; decide, fun p n => q p _ (same_new n) n upd_same⟩)) (by rfl))))) (pss_one (ps_ret pe_bl)) pss_nil)
      (pss_cons (ps_for PassesOwn.never rfl (pi_tup (pv 0)) (pg_name (i := 1) scDue.nd rfl (.inl rfl))
        (pss_cons (ps_if (PW.pt (pw_or (pt_not (pt_val (pe_callB call_isi (by rfl) B.isi boot_isinstance (pa_cons (pv 1) (pa_cons (pe_bltn (v := .ty "tuple") (by rfl) B.tuple boot_tuple rfl) pa_nil)))))
          (pw_or1 (pt_cmpR op_notIn_seq (pe_callB call_len_seq (by rfl) B.len PySem.boot_len (pa_cons (pv 1) pa_nil)) (PE.wk (t' := tWs ns6) (pe_lst (pa_cons pe_int (pa_cons pe_int (pa_cons pe_int (pa_cons pe_int (pa_cons pe_int (pa_cons pe_int pa_nil))))))) (by intro σ H Q q; exact ⟨by show ns6.length ≤ sizeLine; decide, fun p n => q p _ (same_new n) n upd_same⟩)) (by rfl))))) (pss_one (ps_ret pe_bl)) pss_nil)
        (pss_one (ps_for PassesOwn.never rfl (pi_tup (pv 1)) (pg_name (i := 2) scDue.nd rfl (.inl rfl))
          (pss_cons (ps_if (PW.pt (pw_or (pt_not (pt_val (pe_callB call_isi (by rfl) B.isi boot_isinstance (pa_cons (pv 2) (pa_cons (pe_bltn (v := .ty "tuple") (by rfl) B.tuple boot_tuple rfl) pa_nil)))))
            (pw_or (pt_cmpR op_ne (pe_callB call_len_seq (by rfl) B.len PySem.boot_len (pa_cons (pv 2) pa_nil)) pe_int (nomark _))
            (pw_or1 (pt_not (pt_val (pe_callB call_isi (by rfl) B.isi boot_isinstance (pa_cons (pe_ix (r := rIxT K) ix_tup (pv 2) pe_int (fun _ _ => rfl)) (pa_cons (pe_bltn (v := .ty "str") (by rfl) B.str boot_str rfl) pa_nil))))))))) (pss_one (ps_ret pe_bl)) pss_nil)
          (pss_one (ps_if (PW.pt (pw_or (pt_cmpR op_notIn_seq (pe_ix (r := rIxT K) ix_tup (pv 2) pe_int (fun _ _ => rfl)) (PE.wk (t' := tWs partW) (pe_lst (pa_cons pe_str (pa_cons pe_str (pa_cons pe_str pa_nil)))) (by intro σ H Q q; exact ⟨by show partW.length ≤ sizeLine; decide, fun p n => q p _ (same_new n) n upd_same⟩)) (by rfl))
            (pw_or1 (pt_not (pt_val (pe_call GN hr (by rfl) DN.mg DN.fn.kp DN.bd .nil pass0 (pa_cons (pe_ix (r := rIxT K) ix_tup (pv 2) pe_int (fun _ _ => rfl)) pa_nil))))))) (pss_one (ps_ret pe_bl)) pss_nil)))))))
      (pss_one (ps_ret pe_bl))), ?_⟩
    refine ⟨_, rfl, _, .ty "tuple", _, .type "tuple", _, rfl, .ty _, dz.ty, kit_tup d, _, rfl, ?_⟩
    by_cases ht : tupB d = true
    rotate_left
    · have ht' : tupB d = false := by simpa using ht
      rw [ht']
      rw [whom_no ht'] at q
      exact iteT (iteT (q H (Same.refl H)))
    rw [ht]
    obtain ⟨ds, rfl⟩ := tup_of ht
    obtain ⟨a, xs, rfl, hs, hd⟩ := dz_tup dz
    have hlen := hd.len
    have q : ∀ H', Same H H' → Q (.bl (decide (1 ≤ ds.length ∧ ds.length ≤ 4) && ds.all altB)) H' := q
    refine iteF ⟨_, rfl, a, _, rfl, .inr hs, ?_⟩
    intro p1 H1 s1 _ l1
    refine ⟨p1, ns4, rfl, .inl (sqL l1), rfl, rfl, _, rfl, ?_⟩
    show if (!inV (.int (xs.length : Nat)) ns4) = true then _ else _
    rw [in4, hlen]
    by_cases hl : 1 ≤ ds.length ∧ ds.length ≤ 4
    rotate_left
    · rw [decide_eq_false hl]
      rw [all_len hl] at q
      exact iteT (q H1 s1)
    rw [decide_eq_true hl]
    rw [all_yes hl] at q
    refine iteF ⟨_, rfl, a, rfl, ⟨xs, (tk_same s1).sq hs⟩, for_tup (K := K) (a := a) (xs := xs) (fun i σ H' => (∃ y1 y2, σ = [some (.ref a), y1, y2]) ∧ Same H H' ∧ (ds.take i).all altB = true) ⟨⟨none, none, rfl⟩, s1, rfl⟩ (fun i σ H' _ h => (tk_same h.2.1).sq hs) ?_ ?_⟩
    · rintro i x σ H2 hx ⟨⟨y1, y2, rfl⟩, s2, al⟩
      obtain ⟨e, he, dx⟩ := hd.get hx
      have fe := fin.mem (List.mem_of_getElem? he)
      have dx2 := dx.same s2
      refine ⟨_, rfl, _, .ty "tuple", _, .type "tuple", _, rfl, .ty _, dx2.ty, kit_tup e, _, rfl, ?_⟩
      by_cases te : tupB e = true
      rotate_left
      · have te' : tupB e = false := by simpa using te
        rw [te']
        have := q H2 s2
        rw [all_false he (alt_no te')] at this
        exact iteT (iteT this)
      rw [te]
      obtain ⟨es, rfl⟩ := tup_of te
      obtain ⟨b, ys, rfl, hb, hbd⟩ := dz_tup dx2
      have blen := hbd.len
      refine iteF ⟨_, rfl, b, _, rfl, .inr hb, ?_⟩
      intro p3 H3 s3 _ l3
      refine ⟨p3, ns6, rfl, .inl (sqL l3), rfl, rfl, _, rfl, ?_⟩
      show if (!inV (.int (ys.length : Nat)) ns6) = true then _ else _
      rw [in6, blen]
      have s23 := s2.trans s3
      by_cases hl6 : 1 ≤ es.length ∧ es.length ≤ 6
      rotate_left
      · rw [decide_eq_false hl6]
        have := q H3 s23
        rw [all_false he (show altB (.tuple es) = false from all_len hl6)] at this
        exact iteT this
      rw [decide_eq_true hl6]
      have altE : altB (.tuple es) = es.all partB := all_yes hl6
      refine iteF ⟨_, rfl, b, rfl, ⟨ys, (tk_same s3).sq hb⟩, for_tup (K := K) (a := b) (xs := ys) (fun j σ H' => (∃ y2, σ = [some (.ref a), some (.ref b), y2]) ∧ Same H3 H' ∧ (es.take j).all partB = true) ⟨⟨_, rfl⟩, Same.refl _, rfl⟩ (fun j σ H' _ h => (tk_same (s3.trans h.2.1)).sq hb) ?_ ?_⟩
      · rintro j x2 σ H4 hx2 ⟨⟨z2, rfl⟩, s4, al4⟩
        obtain ⟨g, hg, dg⟩ := hbd.get hx2
        have fg := fe.mem (List.mem_of_getElem? hg)
        have s34 := s3.trans s4
        have dg4 := dg.same s34
        have s24 := s2.trans s34
        have bad : partB g = false → ∀ H', Same H4 H' → Q (.bl false) H' := fun h H' e => by
          have := q H' (s24.trans e)
          rw [all_false he (altE.trans (all_false hg h))] at this
          exact this
        refine ⟨_, rfl, _, .ty "tuple", _, .type "tuple", _, rfl, .ty _, dg4.ty, kit_tup g, _, rfl, ?_⟩
        by_cases tg : tupB g = true
        rotate_left
        · have tg' : tupB g = false := by simpa using tg
          rw [tg']
          exact iteT (iteT (bad (part_no tg') H4 (Same.refl _)))
        rw [tg]
        obtain ⟨gs, rfl⟩ := tup_of tg
        obtain ⟨c, ws, rfl, hc, hcd⟩ := dz_tup dg4
        refine iteF ⟨_, rfl, c, _, rfl, .inr hc, rfl, _, rfl, ?_⟩
        by_cases l2 : ws.length = 2
        rotate_left
        · have e : (!decide (V.int (ws.length : Nat) = V.int 2)) = true := by
            have : (ws.length : Int) ≠ 2 := by omega
            simpa using this
          rw [e]
          exact iteT (iteT (bad (part_len (by rw [← hcd.len]; exact l2)) H4 (Same.refl _)))
        obtain ⟨x1, x2, d1, d2, rfl, rfl, h1, h2⟩ := hcd.two l2
        refine iteF ⟨_, rfl, c, _, 0, x1, rfl, rfl, hc, atI_nat (j := 0) rfl, _, .ty "str", _, .type "str", _, rfl, .ty _, h1.ty, kit_str d1, _, rfl, ?_⟩
        have pe : partB (.tuple [d1, d2]) = (wordB partW d1 && nameB d2) := rfl
        by_cases s1' : strB d1 = true
        rotate_left
        · have t1 : strB d1 = false := by simpa using s1'
          rw [t1]
          exact iteT (bad (by rw [pe, word_no t1]; rfl) H4 (Same.refl _))
        rw [s1']
        obtain ⟨z, rfl⟩ := str_of s1'
        obtain rfl := dz_str h1
        refine iteF ⟨_, rfl, c, _, 0, .str z, rfl, rfl, hc, atI_nat (j := 0) rfl, ?_⟩
        intro p5 H5 s5 _ l5
        refine ⟨p5, partW, rfl, .inl (sqL l5), rfl, rfl, _, rfl, ?_⟩
        show if (!inV (.str z) partW) = true then _ else _
        have wz : wordB partW (.str z) = inV (.str z) partW := rfl
        by_cases iw : inV (.str z) partW = true
        rotate_left
        · have iw' : inV (.str z) partW = false := by simpa using iw
          rw [iw']
          exact iteT (iteT (bad (by rw [pe, wz, iw']; rfl) H5 s5))
        rw [iw]
        have hc5 := (tk_same s5).sq hc
        refine iteF ⟨_, rfl, c, _, 1, x2, rfl, rfl, hc5, atI_nat (j := 1) rfl, x2, d2, rfl, (h2.same s5).is, (fg.mem (by simp)).short, fun H6 s6 => ⟨_, rfl, ?_⟩⟩
        by_cases nm : nameB d2 = true
        · rw [nm]
          exact iteF ⟨⟨_, rfl⟩, s4.trans (s5.trans s6), all_more hg al4 (by rw [pe, wz, iw, nm]; rfl)⟩
        · have nm' : nameB d2 = false := by simpa using nm
          rw [nm']
          exact iteT (bad (by rw [pe, nm']; exact Bool.and_false _) H6 (s5.trans s6))
      · rintro σ H4 ⟨⟨z2, rfl⟩, s4, al4⟩
        rw [blen, List.take_length] at al4
        exact ⟨⟨_, _, rfl⟩, s23.trans s4, all_more he al (altE.trans al4)⟩
    · rintro σ H2 ⟨⟨y1, y2, rfl⟩, s2, al⟩
      rw [hlen, List.take_length] at al
      have := q H2 s2
      rw [al] at this
      exact this
end
end WdQ

set_option Elab.async false
set_option linter.all false
set_option maxRecDepth 100000
set_option maxHeartbeats 4000000
set_option exponentiation.threshold 5000
namespace WdQ
open PySem PySem.Spec PyProof.Rows L2 WdM Wd
abbrev sOdd : Stmt := topS 64
theorem scOdd : FnScope ["_law_pool_here", "_law_thing", "_law_some"] ["_law_pool_here", "_law_thing"] (defScope sOdd) := ⟨rfl, rfl, rfl, by decide +kernel, rfl, by decide +kernel, by decide +kernel⟩
theorem fine_str {b : Bool} {n : Nat} {x : Str} (h : okS x) (l : x.length ≤ 30) : Fine b n (.str x) := by cases n <;> exact ⟨h, l⟩
theorem fine_none {b : Bool} {n : Nat} : Fine b n .none := by cases n <;> trivial
theorem fine_bool {b c : Bool} {n : Nat} : Fine b n (.bool c) := by cases n <;> trivial
theorem fine_zero {b : Bool} {n : Nat} : Fine b n (.int 0) := by cases n <;> exact ⟨by decide, by decide⟩
theorem okS_of {x : Str} (h : x.cps.toList.all (fun c => decide (c < 1114112)) = true) : okS x := fun c hc => of_decide_eq_true (List.all_eq_true.mp h c hc)
theorem okS_app {x y : Str} (h : okS x) (g : okS y) : okS (x ++ y) := by
  intro e he
  have he : e ∈ (x.cps ++ y.cps).toList := he
  rw [Array.toList_append] at he
  exact (List.mem_append.mp he).elim (h e) (g e)
section
variable {P : Program} {w : World} {K : PySem.W.Frag} {mg : Str → Option Value} {base : Heap}
/-- a thing that may stand for one of depth m -/
def Bd (K : PySem.W.Frag) (l : Addr) (m : Nat) (H : Hp) (v : V) : Prop := ∃ b, Bz K [l] b (m + 2) H v
theorem bd_str {l : Addr} {m : Nat} {H : Hp} {x : Str} (h : okS x) (g : x.length ≤ 30) : Bd K l m H (.str x) := ⟨true, .str x, .str x, fine_str h g⟩
theorem bz_clean {S : List Addr} {b : Bool} {n : Nat} {H : Hp} {z : Str} (zk : okL z) (zl : z.length ≤ 9) : Bz K S b n H (.str z) := ⟨.str z, .str z, fine_str zk.ok (by omega)⟩
theorem bz_one {S : List Addr} {b : Bool} {n : Nat} {H : Hp} : Bz K S b n H (.str "one") := bz_clean (show ∀ c ∈ (Str.ofString "one").cps.toList, letB c = true by decide +kernel) (by decide)
def RS (l : Addr) : L2.St → Hp → Prop := fun σ H => σ[0]? = some (some (.ref l)) ∧ PoolAt H l ∧ ∃ z, σ[1]? = some (some (.str z)) ∧ okL z ∧ z.length ≤ 9
def RU (K : PySem.W.Frag) (l : Addr) (m : Nat) : L2.St → Hp → Prop := fun σ H => σ[0]? = some (some (.ref l)) ∧ PoolAt H l ∧ ∃ (k : Nat) (a : Addr) (xs : List V), m = k + 1 ∧ σ[1]? = some (some (.ref a)) ∧ SqT K H a xs ∧ xs.length ≤ 7 ∧ ∀ x ∈ xs, Cz K k H x
theorem kpRS {l : Addr} {m : Nat} : Kp (RS l) (Bd K l m) := ⟨fun _ _ _ e ⟨h0, p, r⟩ => ⟨h0, p.same e, r⟩, fun _ _ _ e ⟨b, h⟩ => ⟨b, h.same e⟩⟩
theorem kpRU {l : Addr} {m : Nat} : Kp (RU K l m) (Bd K l m) := ⟨fun _ _ _ e ⟨h0, p, k, a, xs, em, h1, hs, xl, cx⟩ => ⟨h0, p.same e, k, a, xs, em, h1, (tk_same e).sq hs, xl, fun x hx => (cx x hx).tk (tk_same e)⟩, fun _ _ _ e ⟨b, h⟩ => ⟨b, h.same e⟩⟩
theorem cat_tup {H : Hp} {a b : Addr} {xs ys : List V} {Q : VK} (ha : SqT K H a xs) (hb : SqT K H b ys) (l : xs.length + ys.length ≤ 100) (q : ∀ p H', Same H H' → SqT K H' p (xs ++ ys) → Q (.ref p) H') : rCatA K (.ref a) (.ref b) H Q :=
  ⟨a, b, xs, ys, rfl, rfl, ha, hb, Nat.le_trans l (by decide), fun e => q b H (Same.refl H) (by rw [e]; exact hb), fun _ e => q a H (Same.refl H) (by rw [e, List.append_nil]; exact ha), fun _ _ p np => q p _ (same_new np) (sqT upd_same)⟩
theorem cut_tup {H : Hp} {a : Addr} {xs : List V} {lo hi : Option Int} {Q : VK} (ha : SqT K H a xs) (q : ∀ p H', Same H H' → SqT K H' p (cutV xs lo hi) → Q (.ref p) H') : rSlA K (.ref a) lo hi H Q :=
  ⟨a, xs, rfl, ha, fun ⟨e1, e2⟩ => q a H (Same.refl H) (by unfold cutV; rw [e1, e2]; simpa using ha), fun _ p np => q p _ (same_new np) (sqT upd_same)⟩
theorem cut_one (xs : List V) : (cutV xs none (some ((1 : Nat) : Int))).length ≤ 1 := by
  unfold cutV
  rw [HT.sIx_none, HT.sIx_nat, List.length_take]
  omega
def spOdd (K : PySem.W.Frag) : Sp := fun vs H Q _ => ∃ (l : Addr) (v : V) (m : Nat), vs = [.ref l, v] ∧ PoolAt H l ∧ Cz K m H v ∧ ∀ H' v', Bt [l] H H' → PoolAt H' l → Bd K l m H' v' → Q v' H'
/-- one of two lists is drawn -/
theorem ok_odd {f fT : Addr} {fd fdT : FuncData} {k : Nat} (B : Bi mg) (D : Df K mg "_law_odd" sOdd f fd ["_law_pool_here", "_law_thing"]) (DT : Df K mg "_law_take" sTake fT fdT ["_law_pool_here", "_law_many"]) : FnOk P w K mg base CX0 (k + 2) f fd ["_law_pool_here", "_law_thing"] (spOdd K) := by
  have GT : FnOk P w K mg base CX0 (k + 1) fT fdT ["_law_pool_here", "_law_many"] spTake := ok_take (k := k) B DT
  refine D.fn.ok scOdd (fun vs H Q E h => ?_) (fun cdv A outer s H vs Q E hr h => ?_)
  · obtain ⟨l, v, m, rfl, _⟩ := h
    rfl
  · obtain ⟨l, v, m, rfl, pool, cz, q⟩ := h
    refine ⟨_, pss_cons (ps_if (pt_val (pe_callB call_isi (by rfl) B.isi boot_isinstance (pa_cons (pv 1) (pa_cons (pe_bltn (v := .ty "str") (by rfl) B.str boot_str rfl) pa_nil))))
        (pss_cons (ps_set (i := 2) scOdd.nd rfl (.inl rfl) (peB_lst (paB_cons kpRS (PE.wk (t' := tB (RS l) (Bd K l m)) (pe_upper (pv 1)) (by rintro σ H Q ⟨⟨h0, pool, z, h1, zk, zl⟩, q⟩; exact ⟨_, h1, ⟨z, rfl⟩, z, rfl, rfl, by omega, q _ _ (Same.refl H) (bd_str (up_ok zk) (by have := PyProof.Rows.len_upper z; omega))⟩))
          (paB_cons kpRS (PE.wk (t' := tB (RS l) (Bd K l m)) (pe_op op_add_str (pv 1) pe_str) (by rintro σ H Q ⟨⟨h0, pool, z, h1, zk, zl⟩, q⟩; exact ⟨_, h1, z, _, rfl, rfl, small_len (Nat.le_trans (Nat.add_le_add zl (show _ ≤ 1 by decide)) (by decide)), q _ _ (Same.refl H) (bd_str (okS_app zk.ok (okS_of (by decide +kernel))) (by rw [len_app]; exact Nat.le_trans (Nat.add_le_add zl (show _ ≤ 1 by decide)) (by decide)))⟩))
          (paB_cons kpRS (PE.wk (t' := tB (RS l) (Bd K l m)) pe_str (by rintro σ H Q ⟨⟨h0, pool, z, h1, zk, zl⟩, q⟩; exact q _ _ (Same.refl H) (bd_str (okS_of (by decide +kernel)) (by decide))))
          (paB_cons kpRS (PE.wk (t' := tB (RS l) (Bd K l m)) (pe_op op_add_str (pv 1) pe_str) (by rintro σ H Q ⟨⟨h0, pool, z, h1, zk, zl⟩, q⟩; exact ⟨_, h1, z, _, rfl, rfl, small_len (Nat.le_trans (Nat.add_le_add zl (show _ ≤ 1 by decide)) (by decide)), q _ _ (Same.refl H) (bd_str (okS_app zk.ok (okS_of (by decide +kernel))) (by rw [len_app]; exact Nat.le_trans (Nat.add_le_add zl (show _ ≤ 1 by decide)) (by decide)))⟩))
          (paB_cons kpRS (PE.wk (t' := tB (RS l) (Bd K l m)) (pe_op op_add_str (pv 1) pe_str) (by rintro σ H Q ⟨⟨h0, pool, z, h1, zk, zl⟩, q⟩; exact ⟨_, h1, z, _, rfl, rfl, small_len (Nat.le_trans (Nat.add_le_add zl (show _ ≤ 1 by decide)) (by decide)), q _ _ (Same.refl H) (bd_str (okS_app zk.ok (okS_of (by decide +kernel))) (by rw [len_app]; exact Nat.le_trans (Nat.add_le_add zl (show _ ≤ 1 by decide)) (by decide)))⟩))
          (paB_cons kpRS (PE.wk (t' := tB (RS l) (Bd K l m)) pe_str (by rintro σ H Q ⟨⟨h0, pool, z, h1, zk, zl⟩, q⟩; exact q _ _ (Same.refl H) (bd_str (okS_of (by decide +kernel)) (by decide))))
          (paB_cons kpRS (PE.wk (t' := tB (RS l) (Bd K l m)) pe_str (by rintro σ H Q ⟨⟨h0, pool, z, h1, zk, zl⟩, q⟩; exact q _ _ (Same.refl H) (bd_str (okS_of (by decide +kernel)) (by decide))))
          (paB_cons kpRS (PE.wk (t' := tB (RS l) (Bd K l m)) pe_non (by rintro σ H Q ⟨⟨h0, pool, z, h1, zk, zl⟩, q⟩; exact q _ _ (Same.refl H) (⟨true, .none, .non, fine_none⟩)))
          (paB_cons kpRS (PE.wk (t' := tB (RS l) (Bd K l m)) pe_int (by rintro σ H Q ⟨⟨h0, pool, z, h1, zk, zl⟩, q⟩; exact q _ _ (Same.refl H) (⟨true, .int 0, .int _, fine_zero⟩)))
          (paB_cons kpRS (PE.wk (t' := tB (RS l) (Bd K l m)) pe_bl (by rintro σ H Q ⟨⟨h0, pool, z, h1, zk, zl⟩, q⟩; exact q _ _ (Same.refl H) (⟨true, .bool true, .bl _, fine_bool⟩)))
          (paB_cons kpRS (PE.wk (t' := tB (RS l) (Bd K l m)) (pe_tup (pa_cons (pv 1) pa_nil)) (by rintro σ H Q ⟨⟨h0, pool, z, h1, zk, zl⟩, q⟩; exact ⟨_, h1, by show 1 ≤ sizeLine; decide, fun p n => q _ _ (same_new n) ⟨true, bz_tup (sqT upd_same) (by show 1 ≤ 8; decide) (fun x hx => by rw [List.mem_singleton.mp hx]; exact bz_clean zk zl)⟩⟩))
          paB_nil))))))))))) (by decide)))
        (pss_one (ps_ret (pe_ix (r := rIxL K) ix_list (pe_op op_cat (pv 2) (peB_lst (paB_cons kpRS (PE.wk (t' := tB (RS l) (Bd K l m)) (pe_lst (pa_cons (pv 1) pa_nil)) (by rintro σ H Q ⟨⟨h0, pool, z, h1, zk, zl⟩, q⟩; exact ⟨_, h1, by show 1 ≤ sizeLine; decide, fun p n => q _ _ (same_new n) ⟨true, bz_lst (by simp [(pool.ne n).symm]) (sqL upd_same) (by show 1 ≤ 8; decide) (fun x hx => by rw [List.mem_singleton.mp hx]; exact bz_clean zk zl)⟩⟩))
          (paB_cons kpRS (PE.wk (t' := tB (RS l) (Bd K l m)) pe_dnewK (by rintro σ H Q ⟨⟨h0, pool, z, h1, zk, zl⟩, q⟩; exact fun p n => q _ _ (same_new n) ⟨false, .dict [], .nod (by simp [(pool.ne n).symm]) upd_same, rfl⟩))
          (paB_cons kpRS (PE.wk (t' := tB (RS l) (Bd K l m)) (pe_tup (pa_cons (pe_lst (pa_cons (pv 1) pa_nil)) pa_nil)) (by rintro σ H Q ⟨⟨h0, pool, z, h1, zk, zl⟩, q⟩; exact ⟨_, h1, by show 1 ≤ sizeLine; decide, fun p1 n1 => ⟨by show 1 ≤ sizeLine; decide, fun p n => q _ _ ((same_new n1).trans (same_new n)) ⟨true, bz_tup (sqT upd_same) (by show 1 ≤ 8; decide) (fun x hx => by rw [List.mem_singleton.mp hx]; exact bz_lst (by simp [(pool.ne n1).symm]) (sqL (same_new n _ _ upd_same)) (by show 1 ≤ 8; decide) (fun x hx => by rw [List.mem_singleton.mp hx]; exact bz_clean zk zl))⟩⟩⟩))
          (paB_cons kpRS (PE.wk (t' := tB (RS l) (Bd K l m)) pe_str (by rintro σ H Q ⟨⟨h0, pool, z, h1, zk, zl⟩, q⟩; exact q _ _ (Same.refl H) (bd_str (okS_of (by decide +kernel)) (by decide))))
          (paB_cons kpRS (PE.wk (t' := tB (RS l) (Bd K l m)) pe_str (by rintro σ H Q ⟨⟨h0, pool, z, h1, zk, zl⟩, q⟩; exact q _ _ (Same.refl H) (bd_str (okS_of (by decide +kernel)) (by decide))))
          paB_nil))))) (by decide))) (pe_call GT hr (by rfl) DT.mg DT.fn.kp DT.bd .nil pass0 (pa_cons (pv 0) (pa_cons pe_int pa_nil))) (fun _ _ => rfl))))) pss_nil)
      (pss_cons (ps_set (i := 2) scOdd.nd rfl (.inl rfl) (peB_lst (paB_cons kpRU (PE.wk (t' := tB (RU K l m) (Bd K l m)) (pe_callTy call_list_of (by rfl) B.list boot_list (pa_cons (pv 1) pa_nil)) (by rintro σ H Q ⟨⟨h0, pool, k, a, xs, em, h1, hs, xl, cx⟩, q⟩; exact ⟨_, h1, a, xs, rfl, .inr hs, fun p n => q _ _ (same_new n) ⟨true, (bz_lst (n := k) (by simp [(pool.ne n).symm]) (sqL upd_same) (by omega) (fun x hx => ((cx x hx).tk (tk_new n)).bz)).mono (by omega)⟩⟩))
          (paB_cons kpRU (PE.wk (t' := tB (RU K l m) (Bd K l m)) (pe_op op_catA (pv 1) (pe_tup (pa_cons pe_str pa_nil))) (by rintro σ H Q ⟨⟨h0, pool, k, a, xs, em, h1, hs, xl, cx⟩, q⟩; exact ⟨_, h1, by show 1 ≤ sizeLine; decide, fun t nt => cat_tup ((tk_new nt).sq hs) (sqT upd_same) (by show xs.length + 1 ≤ 100; omega) (fun p H' s sq => q _ _ ((same_new nt).trans s) ⟨true, (bz_tup (n := k) sq (by rw [List.length_append]; show xs.length + 1 ≤ 8; omega) (fun x hx => (List.mem_append.mp hx).elim (fun h => (((cx x h).tk (tk_new nt)).tk (tk_same s)).bz) (fun h => by rw [List.mem_singleton.mp h]; exact bz_one))).mono (by omega)⟩)⟩))
          (paB_cons kpRU (PE.wk (t' := tB (RU K l m) (Bd K l m)) (pe_slice sl_tupA (pv 1) po_none (po_some pe_int)) (by rintro σ H Q ⟨⟨h0, pool, k, a, xs, em, h1, hs, xl, cx⟩, q⟩; exact ⟨_, h1, 1, rfl, cut_tup hs (fun p H' s sq => q _ _ s ⟨true, (bz_tup (n := k) sq (by have := cutV_length xs none (some 1); omega) (fun x hx => ((cx x (cut_mem hx)).tk (tk_same s)).bz)).mono (by omega)⟩)⟩))
          (paB_cons kpRU (PE.wk (t' := tB (RU K l m) (Bd K l m)) (pe_tup pa_nil) (by rintro σ H Q ⟨⟨h0, pool, k, a, xs, em, h1, hs, xl, cx⟩, q⟩; exact ⟨by show 0 ≤ sizeLine; decide, fun p n => q _ _ (same_new n) ⟨true, bz_tup (sqT upd_same) (by show 0 ≤ 8; decide) (fun x hx => nomatch hx)⟩⟩))
          (paB_cons kpRU (PE.wk (t' := tB (RU K l m) (Bd K l m)) (pe_lst pa_nil) (by rintro σ H Q ⟨⟨h0, pool, k, a, xs, em, h1, hs, xl, cx⟩, q⟩; exact ⟨by show 0 ≤ sizeLine; decide, fun p n => q _ _ (same_new n) ⟨true, bz_lst (by simp [(pool.ne n).symm]) (sqL upd_same) (by show 0 ≤ 8; decide) (fun x hx => nomatch hx)⟩⟩))
          (paB_cons kpRU (PE.wk (t' := tB (RU K l m) (Bd K l m)) pe_non (by rintro σ H Q ⟨⟨h0, pool, k, a, xs, em, h1, hs, xl, cx⟩, q⟩; exact q _ _ (Same.refl H) (⟨true, .none, .non, fine_none⟩)))
          (paB_cons kpRU (PE.wk (t' := tB (RU K l m) (Bd K l m)) pe_int (by rintro σ H Q ⟨⟨h0, pool, k, a, xs, em, h1, hs, xl, cx⟩, q⟩; exact q _ _ (Same.refl H) (⟨true, .int 0, .int _, fine_zero⟩)))
          (paB_cons kpRU (PE.wk (t' := tB (RU K l m) (Bd K l m)) pe_str (by rintro σ H Q ⟨⟨h0, pool, k, a, xs, em, h1, hs, xl, cx⟩, q⟩; exact q _ _ (Same.refl H) (bd_str (okS_of (by decide +kernel)) (by decide))))
          (paB_cons kpRU (PE.wk (t' := tB (RU K l m) (Bd K l m)) pe_dnewK (by rintro σ H Q ⟨⟨h0, pool, k, a, xs, em, h1, hs, xl, cx⟩, q⟩; exact fun p n => q _ _ (same_new n) ⟨false, .dict [], .nod (by simp [(pool.ne n).symm]) upd_same, rfl⟩))
          (paB_cons kpRU (PE.wk (t' := tB (RU K l m) (Bd K l m)) (pe_revT (pv 1)) (by rintro σ H Q ⟨⟨h0, pool, k, a, xs, em, h1, hs, xl, cx⟩, q⟩; exact ⟨_, h1, a, xs, rfl, hs, fun p n => q _ _ (same_new n) ⟨true, (bz_tup (n := k) (sqT upd_same) (by rw [List.length_reverse]; omega) (fun x hx => ((cx x (List.mem_reverse.mp hx)).tk (tk_new n)).bz)).mono (by omega)⟩⟩))
          (paB_cons kpRU (PE.wk (t' := tB (RU K l m) (Bd K l m)) (pe_tup (pa_cons (pv 1) pa_nil)) (by rintro σ H Q ⟨⟨h0, pool, k, a, xs, em, h1, hs, xl, cx⟩, q⟩; exact ⟨_, h1, by show 1 ≤ sizeLine; decide, fun p n => q _ _ (same_new n) ⟨true, (bz_tup (n := k + 1) (sqT upd_same) (by show 1 ≤ 8; decide) (fun x hx => by rw [List.mem_singleton.mp hx]; exact bz_tup ((tk_new n).sq hs) (by omega) (fun x hx => ((cx x hx).tk (tk_new n)).bz))).mono (by omega)⟩⟩))
          (paB_cons kpRU (PE.wk (t' := tB (RU K l m) (Bd K l m)) pe_bl (by rintro σ H Q ⟨⟨h0, pool, k, a, xs, em, h1, hs, xl, cx⟩, q⟩; exact q _ _ (Same.refl H) (⟨true, .bool true, .bl _, fine_bool⟩)))
          paB_nil)))))))))))) (by decide)))
      (pss_one (ps_ret (pe_ix (r := rIxL K) ix_list (pe_op op_cat (pv 2) (peB_lst (paB_cons kpRU (PE.wk (t' := tB (RU K l m) (Bd K l m)) (pe_op op_catA (pv 1) (pe_slice sl_tupA (pv 1) po_none (po_some pe_int))) (by rintro σ H Q ⟨⟨h0, pool, k, a, xs, em, h1, hs, xl, cx⟩, q⟩; exact ⟨_, h1, _, h1, 1, rfl, cut_tup hs (fun p H' s sq => cat_tup ((tk_same s).sq hs) sq (by have := cutV_length xs none (some 1); omega) (fun p2 H2 s2 sq2 => q _ _ (s.trans s2) ⟨true, (bz_tup (n := k) sq2 (by rw [List.length_append]; have : (cutV xs none (some ((1 : Nat) : Int))).length ≤ 1 := cut_one xs; have e : cutV xs none (some ((1 : Nat) : Int)) = cutV xs none (some 1) := rfl; rw [e] at this; omega) (fun x hx => (((cx x ((List.mem_append.mp hx).elim id cut_mem)).tk (tk_same s)).tk (tk_same s2)).bz)).mono (by omega)⟩))⟩))
          paB_nil) (by decide))) (pe_call GT hr (by rfl) DT.mg DT.fn.kp DT.bd .nil pass0 (pa_cons (pv 0) (pa_cons pe_int pa_nil))) (fun _ _ => rfl))))), ?_⟩
    rcases cz_cases cz with ⟨z, rfl, zk, zl⟩ | ⟨j, a, zs, rfl, rfl, hs, xl, cx⟩
    · refine ⟨_, rfl, _, .ty "str", .type "str", .type "str", true, rfl, .ty _, .base (.str z), kit_ty (by decide +kernel), true, rfl, iteT ?_⟩
      refine ⟨⟨rfl, pool, z, rfl, zk, zl⟩, fun p1 xs H1 s1 n1 x1 a1 => ?_⟩
      have pool1 := (pool.same s1).upd (o := .lst xs) ((pool.same s1).ne n1)
      have l1 : (upd H1 p1 (.lst xs)) p1 = some (.lst xs) := upd_same
      have s2 : Same H (upd H1 p1 (.lst xs)) := s1.trans (same_new n1)
      have a2 : ∀ x ∈ xs, Bd K l m (upd H1 p1 (.lst xs)) x := fun x hx => (kpRS (K := K)).b _ _ _ (same_new n1) (a1 x hx)
      revert pool1 l1 s2 a2
      generalize upd H1 p1 (.lst xs) = H2
      intro pool2 l2 s2 a2
      clear a1 n1 s1
      refine ⟨_, rfl, ⟨rfl, pool2, z, rfl, zk, zl⟩, fun p3 ys H3 s3 n3 y3 a3 => ?_⟩
      refine ⟨p1, p3, xs, ys, rfl, rfl, same_new n3 _ _ (s3 _ _ l2), upd_same, by rw [x1, y3]; decide, fun p4 n4 => ?_⟩
      have s4 : Same H2 (upd (upd H3 p3 (.lst ys)) p4 (.lst (xs ++ ys))) := s3.trans ((same_new n3).trans (same_new n4))
      have s34 : Same H3 (upd (upd H3 p3 (.lst ys)) p4 (.lst (xs ++ ys))) := (same_new n3).trans (same_new n4)
      have l4 : (upd (upd H3 p3 (.lst ys)) p4 (.lst (xs ++ ys))) p4 = some (.lst (xs ++ ys)) := upd_same
      have a4 : ∀ x ∈ xs ++ ys, Bd K l m (upd (upd H3 p3 (.lst ys)) p4 (.lst (xs ++ ys))) x := fun x hx => (List.mem_append.mp hx).elim (fun h => (kpRS (K := K)).b _ _ _ s4 (a2 x h)) (fun h => (kpRS (K := K)).b _ _ _ s34 (a3 x h))
      revert s4 l4 a4
      generalize upd (upd H3 p3 (.lst ys)) p4 (.lst (xs ++ ys)) = H4
      intro s4 l4 a4
      have pool4 := pool2.same s4
      have n4 : p4 ≠ l := lst_ne pool4 l4 (by rw [List.length_append, x1, y3]; decide)
      refine ⟨_, rfl, l, 16, rfl, pool4, by decide, fun H5 d5 b5 pool5 d50 d51 => ?_⟩
      obtain ⟨v5, e5, c5⟩ := at_of (P := Bd K l m H4) (xs := xs ++ ys) (d := d5) a4 d50 (by rw [List.length_append, x1, y3]; omega)
      refine ⟨p4, _, d5, v5, rfl, rfl, sqL (kept b5 l4 (by simp [n4])), e5, q H5 v5 ((Bt.of_same (s2.trans s4)).trans b5) pool5 ?_⟩
      obtain ⟨b, c5⟩ := c5
      exact ⟨b, c5.bt b5 pool4.lst⟩
    · refine ⟨_, rfl, _, .ty "str", .type "tuple", .type "str", false, rfl, .ty _, tyT hs, kit_ty (by decide +kernel), false, rfl, iteF ?_⟩
      refine ⟨⟨rfl, pool, j, a, zs, rfl, rfl, hs, xl, cx⟩, fun p1 xs H1 s1 n1 x1 a1 => ?_⟩
      have pool1 := (pool.same s1).upd (o := .lst xs) ((pool.same s1).ne n1)
      have l1 : (upd H1 p1 (.lst xs)) p1 = some (.lst xs) := upd_same
      have s2 : Same H (upd H1 p1 (.lst xs)) := s1.trans (same_new n1)
      have a2 : ∀ x ∈ xs, Bd K l (j + 1) (upd H1 p1 (.lst xs)) x := fun x hx => (kpRU (K := K)).b _ _ _ (same_new n1) (a1 x hx)
      revert pool1 l1 s2 a2
      generalize upd H1 p1 (.lst xs) = H2
      intro pool2 l2 s2 a2
      clear a1 n1 s1
      refine ⟨_, rfl, ⟨rfl, pool2, j, a, zs, rfl, rfl, (tk_same s2).sq hs, xl, fun x hx => (cx x hx).tk (tk_same s2)⟩, fun p3 ys H3 s3 n3 y3 a3 => ?_⟩
      refine ⟨p1, p3, xs, ys, rfl, rfl, same_new n3 _ _ (s3 _ _ l2), upd_same, by rw [x1, y3]; decide, fun p4 n4 => ?_⟩
      have s4 : Same H2 (upd (upd H3 p3 (.lst ys)) p4 (.lst (xs ++ ys))) := s3.trans ((same_new n3).trans (same_new n4))
      have s34 : Same H3 (upd (upd H3 p3 (.lst ys)) p4 (.lst (xs ++ ys))) := (same_new n3).trans (same_new n4)
      have l4 : (upd (upd H3 p3 (.lst ys)) p4 (.lst (xs ++ ys))) p4 = some (.lst (xs ++ ys)) := upd_same
      have a4 : ∀ x ∈ xs ++ ys, Bd K l (j + 1) (upd (upd H3 p3 (.lst ys)) p4 (.lst (xs ++ ys))) x := fun x hx => (List.mem_append.mp hx).elim (fun h => (kpRU (K := K)).b _ _ _ s4 (a2 x h)) (fun h => (kpRU (K := K)).b _ _ _ s34 (a3 x h))
      revert s4 l4 a4
      generalize upd (upd H3 p3 (.lst ys)) p4 (.lst (xs ++ ys)) = H4
      intro s4 l4 a4
      have pool4 := pool2.same s4
      have n4 : p4 ≠ l := lst_ne pool4 l4 (by rw [List.length_append, x1, y3]; decide)
      refine ⟨_, rfl, l, 13, rfl, pool4, by decide, fun H5 d5 b5 pool5 d50 d51 => ?_⟩
      obtain ⟨v5, e5, c5⟩ := at_of (P := Bd K l (j + 1) H4) (xs := xs ++ ys) (d := d5) a4 d50 (by rw [List.length_append, x1, y3]; omega)
      refine ⟨p4, _, d5, v5, rfl, rfl, sqL (kept b5 l4 (by simp [n4])), e5, q H5 v5 ((Bt.of_same (s2.trans s4)).trans b5) pool5 ?_⟩
      obtain ⟨b, c5⟩ := c5
      exact ⟨b, c5.bt b5 pool4.lst⟩
end
end WdQ

set_option Elab.async false
set_option linter.all false
set_option maxRecDepth 100000
set_option maxHeartbeats 4000000
set_option exponentiation.threshold 5000
namespace WdQ
open PySem PySem.Spec PyProof.Rows L2 WdM Wd
abbrev sBent : Stmt := topS 65
theorem scBent : FnScope ["_law_pool_here", "_law_thing", "_law_deep", "_law_at", "_law_way"] ["_law_pool_here", "_law_thing", "_law_deep"] (defScope sBent) := ⟨rfl, rfl, rfl, by decide +kernel, rfl, by decide +kernel, by decide +kernel⟩
section
variable {P : Program} {w : World} {K : PySem.W.Frag} {mg : Str → Option Value} {base : Heap}
def spBent (K : PySem.W.Frag) (n : Nat) : Sp := fun vs H Q _ => ∃ (l : Addr) (v : V) (m : Nat), vs = [.ref l, v, .int (n : Nat)] ∧ PoolAt H l ∧ Cz K m H v ∧ m ≤ 3 ∧ ∀ H' v', Bt [l] H H' → PoolAt H' l → Bd K l m H' v' → Q v' H'
def spRec (K : PySem.W.Frag) : Nat → Sp
  | 0 => fun _ _ _ _ => False
  | n + 1 => spBent K n
theorem shT0 : SeqAt.shaped (.tuple []) = true := by decide
theorem eqv_nil {ds : List PyData} (h : PyData.eqv (.tuple ds) (.tuple []) = false) : 1 ≤ ds.length := by
  cases ds with
  | nil => exact absurd h (by decide)
  | cons d ds => exact Nat.succ_le_succ (Nat.zero_le _)
theorem cut_tupN {σ : L2.St} {H : Hp} {a : Addr} {xs : List V} {lo : Option Int} {Q : VK} (ha : SqT K H a xs) (q : ∀ p H', Same H H' → SqT K H' p (cutV xs lo none) → Q (.ref p) H') : tNoPart σ H fun u H3 => rSlA K (.ref a) lo u H3 Q := cut_tup ha q
theorem cz_cases2 {H : Hp} {n : Nat} {v : V} (h : Cz K n H v) : (∃ z, v = .str z ∧ okL z ∧ z.length ≤ 9) ∨ ∃ (m : Nat) (a : Addr) (xs : List V) (ds : List PyData), n = m + 1 ∧ v = .ref a ∧ SqT K H a xs ∧ xs.length ≤ 7 ∧ (∀ x ∈ xs, Cz K m H x) ∧ Dz [] K H v (.tuple ds) ∧ Cl n (.tuple ds) ∧ xs.length = ds.length := by
  obtain ⟨d, h, c⟩ := h
  cases h with
  | str x => exact .inl ⟨x, rfl, c.str⟩
  | tup h t =>
    cases n with
    | zero => exact c.elim
    | succ m =>
      refine .inr ⟨m, _, _, _, rfl, rfl, h, by rw [t.len]; exact c.1, fun x hx => ?_, .tup h t, c, t.len⟩
      obtain ⟨i, hi⟩ := List.mem_iff_getElem?.mp hx
      obtain ⟨e, he, q⟩ := t.get hi
      exact ⟨e, q, c.2 e (List.mem_of_getElem? he)⟩
  | non => cases n <;> exact c.elim
  | bl => cases n <;> exact c.elim
  | int => cases n <;> exact c.elim
  | lst => cases n <;> exact c.elim
  | nod => cases n <;> exact c.elim
theorem bent_step {f fO fT : Addr} {fd fdO fdT : FuncData} {k n : Nat} (B : Bi mg) (D : Df K mg "_law_bent" sBent f fd ["_law_pool_here", "_law_thing", "_law_deep"]) (DO : Df K mg "_law_odd" sOdd fO fdO ["_law_pool_here", "_law_thing"]) (DT : Df K mg "_law_take" sTake fT fdT ["_law_pool_here", "_law_many"])
    (GB : FnOk P w K mg base CX0 (k + 2 + n) f fd ["_law_pool_here", "_law_thing", "_law_deep"] (spRec K n)) : FnOk P w K mg base CX0 (k + 3 + n) f fd ["_law_pool_here", "_law_thing", "_law_deep"] (spBent K n) := by
  have GT : FnOk P w K mg base CX0 (k + 1) fT fdT ["_law_pool_here", "_law_many"] spTake := ok_take (k := k) B DT
  have GO : FnOk P w K mg base CX0 (k + 2) fO fdO ["_law_pool_here", "_law_thing"] (spOdd K) := ok_odd (k := k) B DO DT
  have e : k + 3 + n = (k + 2 + n) + 1 := by omega
  rw [e]
  refine D.fn.ok scBent (fun vs H Q E h => ?_) (fun cdv A outer s H vs Q E hr h => ?_)
  · obtain ⟨l, v, m, rfl, _⟩ := h
    rfl
  · obtain ⟨l, v, m, rfl, pool, cz, m3, q⟩ := h
    have hu := hr.units
    have r1 : Room (k + 1) _ := hr.mono (by omega)
    have r2 : Room (k + 2) _ := hr.mono (by omega)
    refine ⟨_, pss_cons (ps_if (PW.pt (pw_or (pt_not (pt_val (pe_callB call_isi (by rfl) B.isi boot_isinstance (pa_cons (pv 1) (pa_cons (pe_bltn (v := .ty "tuple") (by rfl) B.tuple boot_tuple rfl) pa_nil)))))
          (pw_or (pt_cmpR (op_eqD hu) (pv 1) (pe_tup pa_nil) (nomark _))
          (pw_or (pt_cmpR op_eq (pv 2) pe_int (nomark _))
          (pw_or1 (pt_cmpR op_eq (pe_call GT r1 (by rfl) DT.mg DT.fn.kp DT.bd .nil pass0 (pa_cons (pv 0) (pa_cons pe_int pa_nil))) pe_int (nomark _)))))))
          (pss_one (ps_ret (pe_call GO r2 (by rfl) DO.mg DO.fn.kp DO.bd .nil pass0 (pa_cons (pv 0) (pa_cons (pv 1) pa_nil))))) pss_nil)
      (pss_cons (ps_par (i := 3) (j := 4) rfl scBent.nd rfl rfl (by decide) rfl rfl (pa_cons (pe_call GT r1 (by rfl) DT.mg DT.fn.kp DT.bd .nil pass0 (pa_cons (pv 0) (pa_cons (pe_callB call_len_seq (by rfl) B.len PySem.boot_len (pa_cons (pv 1) pa_nil)) pa_nil))) (pa_cons (pe_call GT r1 (by rfl) DT.mg DT.fn.kp DT.bd .nil pass0 (pa_cons (pv 0) (pa_cons pe_int pa_nil))) pa_nil)) (by rfl))
      (pss_cons (ps_if (pt_cmpR op_eq (pv 4) pe_int (nomark _)) (pss_one (ps_ret (pe_op op_catA (pe_slice sl_tupA (pv 1) po_none (po_some (pv 3))) (pe_slice sl_tupA (pv 1) (po_some (pe_op op_add (pv 3) pe_int)) po_none)))) pss_nil)
      (pss_cons (ps_if (pt_cmpR op_eq (pv 4) pe_int (nomark _)) (pss_one (ps_ret (pe_op op_catA (pe_slice sl_tupA (pv 1) po_none (po_some (pe_op op_add (pv 3) pe_int))) (pe_slice sl_tupA (pv 1) (po_some (pv 3)) po_none)))) pss_nil)
      (pss_one (ps_ret (pe_op op_catA (pe_op op_catA (pe_slice sl_tupA (pv 1) po_none (po_some (pv 3))) (pe_tup (pa_cons (pe_call GB hr (by rfl) D.mg D.fn.kp D.bd .nil pass0 (pa_cons (pv 0) (pa_cons (pe_ix (r := rIxT K) ix_tup (pv 1) (pv 3) (fun _ _ => rfl)) (pa_cons (pe_op op_sub (pv 2) pe_int) pa_nil)))) pa_nil))) (pe_slice sl_tupA (pv 1) (po_some (pe_op op_add (pv 3) pe_int)) po_none))))))), ?_⟩
    have odd : ∀ H1, Bt [l] H H1 → PoolAt H1 l → Cz K m H1 v → spOdd K [.ref l, v] H1 Q E0 := fun H1 b1 pool1 cz1 => ⟨l, v, m, rfl, pool1, cz1, fun H' v' b p h => q H' v' (b1.trans b) p h⟩
    rcases cz_cases2 cz with ⟨z, rfl, zk, zl⟩ | ⟨j, a, xs, ds, rfl, rfl, hs, xl, cx, dz, cl, xd⟩
    · exact ⟨_, rfl, _, .ty "tuple", .type "str", .type "tuple", false, rfl, .ty _, .base (.str z), kit_ty (by decide +kernel), false, rfl, iteT (iteT ⟨_, rfl, _, rfl, odd H (Bt.refl H) pool cz⟩)⟩
    refine ⟨_, rfl, _, .ty "tuple", .type "tuple", .type "tuple", true, rfl, .ty _, tyT hs, kit_ty (by decide +kernel), true, rfl, iteF ?_⟩
    refine ⟨_, rfl, by show 0 ≤ sizeLine; decide, fun t0 nt0 => ?_⟩
    have s0 : Same H (upd H t0 (.tup [])) := same_new nt0
    have g0 : (upd H t0 (.tup [])) t0 = some (.tup []) := upd_same
    revert s0 g0
    generalize upd H t0 (.tup []) = H0
    intro s0 g0
    have pool0 := pool.same s0
    have cz0 := cz.tk (tk_same s0)
    refine ⟨.tuple ds, .tuple [], cl_dp cl (dz.same s0), .tup (sqT g0) .nil, cl_shaped cl (by omega), shT0, _, rfl, ?_⟩
    by_cases h0 : PyData.eqv (.tuple ds) (.tuple []) = true
    · rw [h0]
      exact iteT (iteT ⟨_, rfl, _, rfl, odd H0 (.of_same s0) pool0 cz0⟩)
    have h0' : PyData.eqv (.tuple ds) (.tuple []) = false := by simpa using h0
    rw [h0']
    have x1 : 1 ≤ xs.length := by
      rw [xd]
      exact eqv_nil h0'
    clear dz cl xd
    refine iteF ⟨_, rfl, rfl, _, rfl, ?_⟩
    cases n with
    | zero => exact iteT (iteT ⟨_, rfl, _, rfl, odd H0 (.of_same s0) pool0 cz0⟩)
    | succ n =>
      rw [show decide (V.int ((n + 1 : Nat) : Int) = V.int 0) = false by simp; omega]
      refine iteF ⟨_, rfl, l, 7, rfl, pool0, by decide, fun H1 d1 b1 pool1 d10 d11 => ⟨rfl, _, rfl, ?_⟩⟩
      have bt1 : Bt [l] H H1 := (Bt.of_same s0).trans b1
      have cz1 := cz0.tk (b1.tk pool0.lst)
      by_cases z1 : d1 = 0
      · subst z1
        exact iteT ⟨_, rfl, _, rfl, odd H1 bt1 pool1 cz1⟩
      rw [show decide (V.int d1 = V.int 0) = false by simp [z1]]
      have tk1 : Tk H H1 := bt1.tk pool.lst
      have hs1 := tk1.sq hs
      refine iteF ⟨_, rfl, _, rfl, a, _, rfl, .inr hs1, l, _, rfl, pool1, by omega, fun H2 d2 b2 pool2 d20 d21 => ⟨_, rfl, l, 9, rfl, pool2, by decide, fun H3 d3 b3 pool3 d30 d31 => ⟨_, _, rfl, ?_⟩⟩⟩
      have bt3 : Bt [l] H H3 := bt1.trans (b2.trans b3)
      have tk3 : Tk H H3 := bt3.tk pool.lst
      have hs3 := tk3.sq hs
      have cx3 : ∀ x ∈ xs, Cz K j H3 x := fun x hx => (cx x hx).tk tk3
      obtain ⟨i, rfl⟩ := Int.eq_ofNat_of_zero_le d20
      have ix : i < xs.length := by omega
      have fr : ∀ (t : Nat) (z : Int), z = t → t ≤ xs.length → ∀ (p : Addr) (H' : Hp), SqT K H' p (cutV xs none (some z)) → SqT K H' p (xs.take t) := fun t z ez ht p H' h => by rw [ez, cut_front ht] at h; exact h
      have bk : ∀ (t : Nat) (z : Int), z = t → t ≤ xs.length → ∀ (p : Addr) (H' : Hp), SqT K H' p (cutV xs (some z) none) → SqT K H' p (xs.drop t) := fun t z ez ht p H' h => by rw [ez, cut_back ht] at h; exact h
      have sc : ((i : Int) + 1) = ((i + 1 : Nat) : Int) := by omega
      clear b1 b2 b3 bt1 tk1 hs1 cz1 pool1 pool2 cz0 pool0 g0 s0 hs cx h0 h0'
      refine ⟨_, rfl, rfl, _, rfl, ?_⟩
      have good : ∀ (H' : Hp) (p : Addr) (ys : List V), Same H3 H' → SqT K H' p ys → ys.length ≤ 8 → (∀ y ∈ ys, y ∈ xs) → Q (.ref p) H' := fun H' p ys s sq yl ym => q H' _ (bt3.trans (.of_same s)) (pool3.same s) ⟨true, (bz_tup (n := j) sq yl (fun y hy => ((cx3 y (ym y hy)).tk (tk_same s)).bz)).mono (by omega)⟩
      by_cases w0 : d3 = 0
      · subst w0
        refine iteT ⟨_, rfl, _, rfl, (i : Int), rfl, cut_tup hs3 (fun p1 H4 s4 sq4 => ?_)⟩
        have sq4 := fr i _ rfl (by omega) _ _ sq4
        refine ⟨_, rfl, _, rfl, (i : Int), 1, rfl, rfl, (i : Int) + 1, rfl, cut_tupN ((tk_same s4).sq hs3) (fun p2 H5 s5 sq5 => ?_)⟩
        have sq5 := bk (i + 1) _ sc (by omega) _ _ sq5
        refine cat_tup ((tk_same s5).sq sq4) sq5 (by rw [List.length_take, List.length_drop]; omega) (fun p H6 s6 sq6 => good H6 p _ (s4.trans (s5.trans s6)) sq6 (by rw [List.length_append, List.length_take, List.length_drop]; omega) (fun y hy => (List.mem_append.mp hy).elim List.mem_of_mem_take List.mem_of_mem_drop))
      rw [show decide (V.int d3 = V.int 0) = false by simp [w0]]
      refine iteF ⟨_, rfl, rfl, _, rfl, ?_⟩
      by_cases w1 : d3 = 1
      · subst w1
        refine iteT ⟨_, rfl, _, rfl, (i : Int), 1, rfl, rfl, (i : Int) + 1, rfl, cut_tup hs3 (fun p1 H4 s4 sq4 => ?_)⟩
        have sq4 := fr (i + 1) _ sc (by omega) _ _ sq4
        refine ⟨_, rfl, _, rfl, (i : Int), rfl, cut_tupN ((tk_same s4).sq hs3) (fun p2 H5 s5 sq5 => ?_)⟩
        have sq5 := bk i _ rfl (by omega) _ _ sq5
        refine cat_tup ((tk_same s5).sq sq4) sq5 (by rw [List.length_take, List.length_drop]; omega) (fun p H6 s6 sq6 => good H6 p _ (s4.trans (s5.trans s6)) sq6 (by rw [List.length_append, List.length_take, List.length_drop]; omega) (fun y hy => (List.mem_append.mp hy).elim List.mem_of_mem_take List.mem_of_mem_drop))
      rw [show decide (V.int d3 = V.int 1) = false by simp [w1]]
      refine iteF ⟨_, rfl, _, rfl, (i : Int), rfl, cut_tup hs3 (fun p1 H4 s4 sq4 => ?_)⟩
      have sq4 := fr i _ rfl (by omega) _ _ sq4
      have hs4 := (tk_same s4).sq hs3
      have pool4 := pool3.same s4
      have xi : xs[i]? = some xs[i] := List.getElem?_eq_getElem ix
      refine ⟨_, rfl, _, rfl, _, rfl, a, xs, (i : Int), xs[i], rfl, rfl, hs4, atI_nat xi, _, rfl, _, 1, rfl, rfl, ?_⟩
      refine ⟨l, xs[i], j, ?_, pool4, (cx3 _ (List.getElem_mem ix)).tk (tk_same s4), by omega, fun H5 v5 b5 pool5 g5 => ?_⟩
      · show [V.ref l, xs[i], V.int (((n + 1 : Nat) : Int) - 1)] = _
        rw [show (((n + 1 : Nat) : Int) - 1) = (n : Int) by omega]
      obtain ⟨bb, bz5⟩ := g5
      have tk5 : Tk H4 H5 := b5.tk pool4.lst
      refine ⟨by show 1 ≤ sizeLine; decide, fun t6 nt6 => ?_⟩
      have s6 : Same H5 (upd H5 t6 (.tup [v5])) := same_new nt6
      have g6 : (upd H5 t6 (.tup [v5])) t6 = some (.tup [v5]) := upd_same
      revert s6 g6
      generalize upd H5 t6 (.tup [v5]) = H6
      intro s6 g6
      have tk6 : Tk H4 H6 := tk5.trans (tk_same s6)
      refine cat_tup (tk6.sq sq4) (sqT g6) (by rw [List.length_take]; show _ + 1 ≤ 100; omega) (fun p7 H7 s7 sq7 => ?_)
      have tk7 : Tk H3 H7 := (tk_same s4).trans (tk6.trans (tk_same s7))
      refine ⟨_, rfl, _, rfl, (i : Int), 1, rfl, rfl, (i : Int) + 1, rfl, cut_tupN (tk7.sq hs3) (fun p8 H8 s8 sq8 => ?_)⟩
      have sq8 := bk (i + 1) _ sc (by omega) _ _ sq8
      refine cat_tup ((tk_same s8).sq sq7) sq8 (by rw [List.length_append, List.length_take, List.length_drop]; show _ + 1 + _ ≤ 100; omega) (fun p9 H9 s9 sq9 => ?_)
      have s59 : Same H5 H9 := s6.trans (s7.trans (s8.trans s9))
      have tk9 : Tk H3 H9 := tk7.trans ((tk_same s8).trans (tk_same s9))
      refine q H9 _ ((bt3.trans (.of_same s4)).trans (b5.trans (.of_same s59))) (pool5.same s59) ⟨bb, bz_tup (n := j + 2) sq9 ?_ ?_⟩
      · rw [List.length_append, List.length_append, List.length_take, List.length_drop]
        show _ + 1 + _ ≤ 8
        omega
      · intro y hy
        rcases List.mem_append.mp hy with hy | hy
        · rcases List.mem_append.mp hy with hy | hy
          · exact (((cx3 y (List.mem_of_mem_take hy)).tk tk9).bz).mono (by omega)
          · rw [List.mem_singleton.mp hy]
            exact bz5.same s59
        · exact (((cx3 y (List.mem_of_mem_drop hy)).tk tk9).bz).mono (by omega)
theorem ok_bent {f fO fT : Addr} {fd fdO fdT : FuncData} {k : Nat} (B : Bi mg) (D : Df K mg "_law_bent" sBent f fd ["_law_pool_here", "_law_thing", "_law_deep"]) (DO : Df K mg "_law_odd" sOdd fO fdO ["_law_pool_here", "_law_thing"]) (DT : Df K mg "_law_take" sTake fT fdT ["_law_pool_here", "_law_many"]) :
    ∀ n : Nat, FnOk P w K mg base CX0 (k + 3 + n) f fd ["_law_pool_here", "_law_thing", "_law_deep"] (spBent K n)
  | 0 => bent_step B D DO DT ⟨fun _ _ _ _ h => h.elim, fun _ _ _ _ _ _ _ _ _ _ _ _ _ h => h.elim⟩
  | n + 1 => bent_step (n := n + 1) B D DO DT (by
    have := ok_bent (k := k) B D DO DT n
    have e : k + 2 + (n + 1) = k + 3 + n := by omega
    rw [e]
    exact this)
end
end WdQ

set_option Elab.async false
set_option linter.all false
set_option maxRecDepth 100000
set_option maxHeartbeats 4000000
set_option exponentiation.threshold 5000
namespace WdQ
open PySem PySem.Spec PyProof.Rows L2 WdM Wd
abbrev sWhole : Stmt := topS 14
abbrev sSum : Stmt := topS 15
abbrev sPerson : Stmt := topS 29
abbrev sChkP : Stmt := topS 31
abbrev sChkG : Stmt := topS 32
abbrev sHouse : Stmt := topS 35
abbrev sHI : Stmt := inClass sHouse 0
abbrev sChkD : Stmt := topS 54
abbrev sStory : Stmt := topS 56
abbrev sSI : Stmt := inClass sStory 0
theorem scWhole : FnScope ["thing"] ["thing"] (defScope sWhole) := ⟨rfl, rfl, rfl, by decide +kernel, rfl, by decide +kernel, by decide +kernel⟩
theorem scSum : FnScope ["thing"] ["thing"] (defScope sSum) := ⟨rfl, rfl, rfl, by decide +kernel, rfl, by decide +kernel, by decide +kernel⟩
theorem scPerson : FnScope ["thing", "ahead", "name", "parent"] ["thing", "ahead"] (defScope sPerson) := ⟨rfl, rfl, rfl, by decide +kernel, rfl, by decide +kernel, by decide +kernel⟩
theorem scChkP : FnScope ["people", "ahead", "number", "person"] ["people"] (defScope sChkP) := ⟨rfl, rfl, rfl, by decide +kernel, rfl, by decide +kernel, by decide +kernel⟩
theorem scChkG : FnScope ["goods", "ahead", "number", "good"] ["goods"] (defScope sChkG) := ⟨rfl, rfl, rfl, by decide +kernel, rfl, by decide +kernel, by decide +kernel⟩
theorem scChkD : FnScope ["deaths", "ahead", "number", "death"] ["deaths"] (defScope sChkD) := ⟨rfl, rfl, rfl, by decide +kernel, rfl, by decide +kernel, by decide +kernel⟩
theorem scHI : FnScope ["self", "people", "goods", "purse", "debts", "things", "amount"] ["self", "people", "goods", "purse", "debts"] (defScope sHI) := ⟨rfl, rfl, rfl, by decide +kernel, rfl, by decide +kernel, by decide +kernel⟩
theorem scSI : FnScope ["self", "deaths", "rows"] ["self", "deaths"] (defScope sSI) := ⟨rfl, rfl, rfl, by decide +kernel, rfl, by decide +kernel, by decide +kernel⟩
section
variable {P : Program} {w : World} {K : PySem.W.Frag} {mg : Str → Option Value} {base : Heap} {CH CY : Addr}
def spWhole (K : PySem.W.Frag) : Sp := fun vs H Q _ => ∃ (x : V) (d : PyData), vs = [x] ∧ Is K H x d ∧ Q (.bl (wholeB d)) H
theorem ok_whole {f : Addr} {fd : FuncData} {k : Nat} (B : Bi mg) (D : Df K mg "is_whole" sWhole f fd ["thing"]) : FnOk P w K mg base CX0 (k + 1) f fd ["thing"] (spWhole K) := by
  refine D.fn.ok scWhole (fun vs H Q E h => ?_) (fun cdv A outer s H vs Q E hr h => ?_)
  · obtain ⟨x, d, rfl, _⟩ := h
    rfl
  · obtain ⟨x, d, rfl, th, q⟩ := h
    obtain ⟨b1, b2, k1, k2, e⟩ := kit_whole (K := K) d
    rw [← e] at q
    refine ⟨_, pss_one (ps_ret (pe_and (pe_callB call_isi (by rfl) B.isi boot_isinstance (pa_cons (pv 0) (pa_cons (pe_bltn (v := .ty "int") (by rfl) B.int boot_int rfl) pa_nil)))
      (pe_one (pe_not (pe_callB call_isi (by rfl) B.isi boot_isinstance (pa_cons (pv 0) (pa_cons (pe_bltn (v := .ty "bool") (by rfl) B.bool boot_bool rfl) pa_nil))))))), ?_⟩
    refine ⟨x, rfl, x, .ty "int", _, _, b1, rfl, .ty _, th.ty, k1, b1, rfl, ?_⟩
    cases b1 with
    | false => exact iteF q
    | true => exact iteT ⟨x, rfl, x, .ty "bool", _, _, b2, rfl, .ty _, th.ty, k2, b2, rfl, q⟩
def spZero : Sp := fun vs H Q _ => vs = [.int 0] ∧ Q (.bl true) H
theorem ok_zero {f fW : Addr} {fd fdW : FuncData} {k : Nat} {tS : Tok} (B : Bi mg) (gS : mg "MOST_SUM" = some (.int 1000000000 tS)) (D : Df K mg "is_sum" sSum f fd ["thing"]) (DW : Df K mg "is_whole" sWhole fW fdW ["thing"]) : FnOk P w K mg base CX0 (k + 2) f fd ["thing"] spZero := by
  have GW : FnOk P w K mg base CX0 (k + 1) fW fdW ["thing"] (spWhole K) := ok_whole B DW
  refine D.fn.ok scSum (fun vs H Q E h => ?_) (fun cdv A outer s H vs Q E hr h => ?_)
  · obtain ⟨rfl, _⟩ := h
    rfl
  · obtain ⟨rfl, q⟩ := h
    refine ⟨_, pss_one (ps_ret (pe_and (pe_call GW hr (by rfl) DW.mg DW.fn.kp DW.bd .nil pass0 (pa_cons (pv 0) pa_nil)) (pe_one (pe_chain op_le op_le pe_int (pv 0) (pe_glob (v := .int 1000000000) (by rfl) gS ⟨_, rfl⟩))))), ?_⟩
    exact ⟨_, rfl, .int 0, .int 0, rfl, (Th.dp (.int 0)).is, true, rfl, iteT ⟨_, rfl, 0, 0, rfl, rfl, true, rfl, iteT ⟨0, _, rfl, rfl, q⟩⟩⟩
/-! ### one person without a parent -/
def spPerson1 (K : PySem.W.Frag) : Sp := fun vs H Q _ => ∃ (t l : Addr) (z : Str), vs = [.ref t, .ref l] ∧ SqT K H t [.str z, .non] ∧ H l = some (.lst []) ∧ nmB z = true ∧ z.length ≤ 1000 ∧ ∀ H', Same H H' → Q (.bl true) H'
theorem ok_person1 {f fN : Addr} {fd fdN : FuncData} {k : Nat} (B : Bi mg) (GN : FnOk P w K mg base CX0 (k + 1) fN fdN ["thing"] (spName K)) (D : Df K mg "is_person" sPerson f fd ["thing", "ahead"]) (DN : Df K mg "is_name" sName fN fdN ["thing"]) :
    FnOk P w K mg base CX0 (k + 2) f fd ["thing", "ahead"] (spPerson1 K) := by
  refine D.fn.ok scPerson (fun vs H Q E h => ?_) (fun cdv A outer s H vs Q E hr h => ?_)
  · obtain ⟨t, l, z, rfl, _⟩ := h
    rfl
  · obtain ⟨t, l, z, rfl, hs, hl, nm, zl, q⟩ := h
    refine ⟨_, pss_cons (ps_if (PW.pt (pw_or (pt_not (pt_val (pe_callB call_isi (by rfl) B.isi boot_isinstance (pa_cons (pv 0) (pa_cons (pe_bltn (v := .ty "tuple") (by rfl) B.tuple boot_tuple rfl) pa_nil)))))
          (pw_or1 (pt_cmpR op_ne (pe_callB call_len_seq (by rfl) B.len PySem.boot_len (pa_cons (pv 0) pa_nil)) pe_int (nomark _))))) (pss_one (ps_ret pe_bl)) pss_nil)
      (pss_cons (ps_asg (pv 0) (pg_tup rfl (pgs_cons (pg_name (i := 2) scPerson.nd rfl (.inl rfl)) (pgs_cons (pg_name (i := 3) scPerson.nd rfl (.inl rfl)) pgs_nil))))
      (pss_cons (ps_if (PW.pt (pw_or (pt_not (pt_val (pe_call GN hr (by rfl) DN.mg DN.fn.kp DN.bd .nil pass0 (pa_cons (pv 2) pa_nil)))) (pw_or1 (pt_cmpR op_in_seq (pv 2) (pv 1) (by rfl))))) (pss_one (ps_ret pe_bl)) pss_nil)
      (pss_one (ps_ret (pe_or (pe_cmpR op_isN (pv 3) pe_non (nomark _)) (pe_one pe_no)))))), ?_⟩
    refine ⟨_, rfl, _, .ty "tuple", _, .type "tuple", true, rfl, .ty _, tyT hs, kit_ty (by decide +kernel), true, rfl, iteF ⟨_, rfl, t, _, rfl, .inr hs, rfl, _, rfl, iteF ?_⟩⟩
    refine ⟨_, rfl, t, _, rfl, hs, rfl, _, _, rfl, _, _, rfl, rfl, ?_⟩
    refine ⟨_, rfl, .str z, .str z, rfl, (Th.dp (.str z)).is, (fun y e => by cases e; exact zl), fun H1 sm => ?_⟩
    rw [show nameB (.str z) = true from nm]
    refine ⟨true, rfl, iteF ⟨_, rfl, _, rfl, l, [], rfl, .inl (sqL (sm _ _ hl)), rfl, rfl, false, rfl, iteF ⟨_, rfl, rfl, true, rfl, iteT (q H1 sm)⟩⟩⟩
/-- one row, a name and None -/
def One1 (K : PySem.W.Frag) (H : Hp) (v : V) : Prop := ∃ (t t2 : Addr) (z : Str), v = .ref t ∧ SqT K H t [.ref t2] ∧ SqT K H t2 [.str z, .non] ∧ nmB z = true ∧ z.length ≤ 1000
theorem One1.same {H H' : Hp} {v : V} (h : One1 K H v) (e : Same H H') : One1 K H' v := by
  obtain ⟨t, t2, z, rfl, h1, h2, r⟩ := h
  exact ⟨t, t2, z, rfl, (tk_same e).sq h1, (tk_same e).sq h2, r⟩
def spChk1 (K : PySem.W.Frag) : Sp := fun vs H Q _ => ∃ v, vs = [v] ∧ One1 K H v ∧ ∀ H', Same H H' → Q .non H'
theorem ok_chkP1 {f fD : Addr} {fd fdD : FuncData} {tM : Tok} (B : Bi mg) (gM : mg "MOST_PEOPLE" = some (.int 8 tM))
    (GD : FnOk P w K mg base CX0 2 fD fdD ["thing", "ahead"] (spPerson1 K)) (D : Df K mg "check_people" sChkP f fd ["people"]) (DD : Df K mg "is_person" sPerson fD fdD ["thing", "ahead"]) : FnOk P w K mg base (L2.CX P w) 3 f fd ["people"] (spChk1 K) := by
  refine D.fn.okX scChkP (fun vs H Q E h => ?_) (fun cdv A outer s H vs Q E hr h => ?_)
  · obtain ⟨v, rfl, _⟩ := h
    rfl
  · obtain ⟨v, rfl, ⟨t, t2, z, rfl, ht, ht2, nm, zl⟩, q⟩ := h
    refine ⟨_, pss_cons (ps_if (PW.pt (pw_or (pt_not (pt_val (pe_callB call_isi (by rfl) B.isi boot_isinstance (pa_cons (pv 0) (pa_cons (pe_bltn (v := .ty "tuple") (by rfl) B.tuple boot_tuple rfl) pa_nil)))))
          (pw_or1 (pt_not (pt_chain op_le op_le pe_int (pe_callB call_len_seq (by rfl) B.len PySem.boot_len (pa_cons (pv 0) pa_nil)) (pe_glob (v := .int 8) (by rfl) gM ⟨_, rfl⟩)))))) (pss_one ps_no) pss_nil)
      (pss_cons (ps_set (i := 1) scChkP.nd rfl (.inl rfl) (pe_lst pa_nil))
      (pss_one (ps_for (passes_of rfl) rfl (pi_E .tu (by rfl) B.enum (pa_cons (pv 0) pa_nil)) (pg_tup rfl (pgs_cons (pg_name (i := 2) scChkP.nd rfl (.inl rfl)) (pgs_cons (pg_name (i := 3) scChkP.nd rfl (.inl rfl)) pgs_nil)))
        (pss_cons (ps_if (pt_not (pt_val (pe_call GD hr (by rfl) DD.mg DD.fn.kp DD.bd .nil pass0 (pa_cons (pv 3) (pa_cons (pv 1) pa_nil))))) (pss_one ps_no) pss_nil)
        (pss_one (ps_expr (pe_bm PySem.F.plainAttrs_list PySem.F.slot_list_append PySem.F.type_list_append mt_append (pv 1) (pa_cons (pe_ix (r := rIxT K) ix_tup (pv 3) pe_int (fun _ _ => rfl)) pa_nil)))))))), ?_⟩
    refine ⟨_, rfl, _, .ty "tuple", _, .type "tuple", true, rfl, .ty _, tyT ht, kit_ty (by decide +kernel), true, rfl, iteF ⟨_, rfl, t, _, rfl, .inr ht, 1, _, rfl, rfl, _, rfl, iteT ⟨_, 8, rfl, rfl, _, rfl, iteF ?_⟩⟩⟩
    refine ⟨by show 0 ≤ sizeLine; decide, fun l nl => ?_⟩
    have sm0 : Same H (upd H l (.lst [])) := same_new nl
    have hl0 : (upd H l (.lst [])) l = some (.lst []) := upd_same
    revert sm0 hl0
    generalize upd H l (.lst []) = H1
    intro sm0 hl0
    have ht1 := (tk_same sm0).sq ht
    refine ⟨_, rfl, t, _, rfl, ht1, for_it (walkE (K := K) (k := .tu) (a := t) (xs := [.ref t2])) (fun i σ H' => ∃ y2 y3, σ = [some (.ref t), some (.ref l), y2, y3] ∧ Same H H' ∧ (i = 0 → H' l = some (.lst []))) ⟨none, none, rfl, sm0, fun _ => hl0⟩ (fun i σ H' _ ⟨_, _, _, s, _⟩ => (tk_same s).sq ht) ?_ ?_⟩
    · rintro i _ σ H4 _ i1 ⟨y2, y3, rfl, s4, h4⟩ ⟨T1, _, y, rfl, nT, rfl, ei, hx⟩
      cases ei
      have i0 : i = 0 := by
        have : i < 1 := i1
        omega
      subst i0
      cases hx
      have hl4 := h4 rfl
      have s5 : Same H4 (upd H4 T1 (.tup [.int (0 : Nat), .ref t2])) := same_new nT
      have g5 : (upd H4 T1 (.tup [.int (0 : Nat), .ref t2])) T1 = some (.tup [.int (0 : Nat), .ref t2]) := upd_same
      revert s5 g5
      generalize upd H4 T1 (.tup [.int (0 : Nat), .ref t2]) = H5
      intro s5 g5
      refine ⟨T1, _, rfl, sqT g5, rfl, _, _, rfl, _, _, rfl, rfl, ?_⟩
      have h25 := (tk_same (s4.trans s5)).sq ht2
      refine ⟨_, rfl, _, rfl, t2, l, z, rfl, h25, s5 _ _ hl4, nm, zl, fun H6 s6 => ⟨true, rfl, iteF ?_⟩⟩
      have hl6 := s6 _ _ (s5 _ _ hl4)
      refine ⟨_, rfl, .inl ⟨rfl, _, sqL hl6⟩, _, rfl, t2, _, 0, .str z, rfl, rfl, (tk_same s6).sq h25, atI_nat (j := 0) rfl, l, _, _, rfl, rfl, hl6, by decide, ?_⟩
      exact ⟨_, _, rfl, ((Bt.of_same (S := []) (s4.trans (s5.trans s6))).upd0 nl).same, fun z => nomatch z⟩
    · rintro σ H4 ⟨y2, y3, rfl, s4, _⟩
      exact q H4 s4
/-! ### nothing at all -/
def spChk0 (K : PySem.W.Frag) : Sp := fun vs H Q _ => ∃ t, vs = [.ref t] ∧ SqT K H t [] ∧ ∀ H', Same H H' → Q .non H'
theorem ok_chkG0 {f : Addr} {fd : FuncData} {tM : Tok} {k : Nat} (B : Bi mg) (gM : mg "MOST_GOODS" = some (.int 8 tM)) (D : Df K mg "check_goods" sChkG f fd ["goods"]) : FnOk P w K mg base (L2.CX P w) (k + 1) f fd ["goods"] (spChk0 K) := by
  refine D.fn.okX scChkG (fun vs H Q E h => ?_) (fun cdv A outer s H vs Q E hr h => ?_)
  · obtain ⟨t, rfl, _⟩ := h
    rfl
  · obtain ⟨t, rfl, ht, q⟩ := h
    refine ⟨_, pss_cons (ps_if (PW.pt (pw_or (pt_not (pt_val (pe_callB call_isi (by rfl) B.isi boot_isinstance (pa_cons (pv 0) (pa_cons (pe_bltn (v := .ty "tuple") (by rfl) B.tuple boot_tuple rfl) pa_nil)))))
          (pw_or1 (pt_cmpR op_gt (pe_callB call_len_seq (by rfl) B.len PySem.boot_len (pa_cons (pv 0) pa_nil)) (pe_glob (v := .int 8) (by rfl) gM ⟨_, rfl⟩) (nomark _))))) (pss_one ps_no) pss_nil)
      (pss_cons (ps_set (i := 1) scChkG.nd rfl (.inl rfl) (pe_lst pa_nil))
      (pss_one (ps_for (passes_of rfl) rfl (pi_E .tu (by rfl) B.enum (pa_cons (pv 0) pa_nil)) (pg_tup rfl (pgs_cons (pg_name (i := 2) scChkG.nd rfl (.inl rfl)) (pgs_cons (pg_name (i := 3) scChkG.nd rfl (.inl rfl)) pgs_nil))) pss_noS))), ?_⟩
    refine ⟨_, rfl, _, .ty "tuple", _, .type "tuple", true, rfl, .ty _, tyT ht, kit_ty (by decide +kernel), true, rfl, iteF ⟨_, rfl, t, _, rfl, .inr ht, _, 8, rfl, rfl, _, rfl, iteF ?_⟩⟩
    refine ⟨by show 0 ≤ sizeLine; decide, fun l nl => ?_⟩
    have sm0 : Same H (upd H l (.lst [])) := same_new nl
    revert sm0
    generalize upd H l (.lst []) = H1
    intro sm0
    refine ⟨_, rfl, t, _, rfl, (tk_same sm0).sq ht, for_it (walkE (K := K) (k := .tu) (a := t) (xs := [])) (fun i σ H' => Same H H') sm0 (fun i σ H' _ s => (tk_same s).sq ht) ?_ ?_⟩
    · intro i x σ H3 H4 hi
      exact absurd hi (Nat.not_lt_zero _)
    · intro σ H' s
      exact q H' s
theorem ok_chkD0 {f : Addr} {fd : FuncData} {tM : Tok} {k : Nat} (B : Bi mg) (gM : mg "MOST_DEATHS" = some (.int 8 tM)) (D : Df K mg "check_deaths" sChkD f fd ["deaths"]) : FnOk P w K mg base (L2.CX P w) (k + 1) f fd ["deaths"] (spChk0 K) := by
  refine D.fn.okX scChkD (fun vs H Q E h => ?_) (fun cdv A outer s H vs Q E hr h => ?_)
  · obtain ⟨t, rfl, _⟩ := h
    rfl
  · obtain ⟨t, rfl, ht, q⟩ := h
    refine ⟨_, pss_cons (ps_if (PW.pt (pw_or (pt_not (pt_val (pe_callB call_isi (by rfl) B.isi boot_isinstance (pa_cons (pv 0) (pa_cons (pe_bltn (v := .ty "tuple") (by rfl) B.tuple boot_tuple rfl) pa_nil)))))
          (pw_or1 (pt_cmpR op_gt (pe_callB call_len_seq (by rfl) B.len PySem.boot_len (pa_cons (pv 0) pa_nil)) (pe_glob (v := .int 8) (by rfl) gM ⟨_, rfl⟩) (nomark _))))) (pss_one ps_no) pss_nil)
      (pss_cons (ps_set (i := 1) scChkD.nd rfl (.inl rfl) pe_non)
      (pss_one (ps_for (passes_of rfl) rfl (pi_E .tu (by rfl) B.enum (pa_cons (pv 0) pa_nil)) (pg_tup rfl (pgs_cons (pg_name (i := 2) scChkD.nd rfl (.inl rfl)) (pgs_cons (pg_name (i := 3) scChkD.nd rfl (.inl rfl)) pgs_nil))) pss_noS))), ?_⟩
    refine ⟨_, rfl, _, .ty "tuple", _, .type "tuple", true, rfl, .ty _, tyT ht, kit_ty (by decide +kernel), true, rfl, iteF ⟨_, rfl, t, _, rfl, .inr ht, _, 8, rfl, rfl, _, rfl, iteF ?_⟩⟩
    refine ⟨_, rfl, t, _, rfl, ht, for_it (walkE (K := K) (k := .tu) (a := t) (xs := [])) (fun i σ H' => Same H H') (Same.refl H) (fun i σ H' _ s => (tk_same s).sq ht) ?_ ?_⟩
    · intro i x σ H3 H4 hi
      exact absurd hi (Nat.not_lt_zero _)
    · intro σ H' s
      exact q H' s
/-! ### House and Story -/
structure HsF (K : PySem.W.Frag) (C : Addr) : Prop where
  cl : Cls K C
  n1 : NoAttr K C "folk"
  n2 : NoAttr K C "things"
  n3 : NoAttr K C "purse"
  n4 : NoAttr K C "debts"
def spHI1 (K : PySem.W.Frag) (CH : Addr) : Sp := fun vs H Q _ => ∃ (o dx : Addr) (v : V), vs = [.ref o, v, .non, .int 0, .int 0] ∧ H o = some (.ins CH dx []) ∧ One1 K H v ∧ ∀ H', Bt [o] H H' → Q .non H'
theorem ok_HI1 {f fC fG fS : Addr} {fd fdC fdG fdS : FuncData} (B : Bi mg) (T : HsF K CH) (F : FunD K "__init__" "House.__init__" (defArgs sHI) (defBody sHI) (defScope sHI) [.non, .int 0, .int 0] [] f fd) (GC : FnOk P w K mg base (L2.CX P w) 3 fC fdC ["people"] (spChk1 K)) (DC : Df K mg "check_people" sChkP fC fdC ["people"])
    (GG : FnOk P w K mg base (L2.CX P w) 1 fG fdG ["goods"] (spChk0 K)) (DG : Df K mg "check_goods" sChkG fG fdG ["goods"]) (GS : FnOk P w K mg base CX0 2 fS fdS ["thing"] spZero) (DS : Df K mg "is_sum" sSum fS fdS ["thing"]) :
    FnOk P w K mg base (L2.CX P w) 4 f fd ["self", "people", "goods", "purse", "debts"] (spHI1 K CH) := by
  refine F.ok scHI (fun vs H Q E h => ?_) (fun cdv A outer s H vs Q E hr h => ?_)
  · obtain ⟨o, dx, v, rfl, _⟩ := h
    rfl
  · obtain ⟨o, dx, v, rfl, ho, hv, q⟩ := h
    have r1 : Room 1 _ := hr.mono (by omega)
    have r2 : Room 2 _ := hr.mono (by omega)
    refine ⟨_, pss_cons (ps_expr (pe_callS GC hr (by rfl) DC.mg DC.fn.kp DC.bd (fun σ => passAt (takes_of rfl rfl rfl rfl) σ) (pa_cons (pv 1) pa_nil)))
      (pss_cons (ps_set (i := 5) scHI.nd rfl (.inl rfl) (pe_ifExp (pt_cmpR op_isN (pv 2) pe_non (nomark _)) (pe_tup pa_nil) pe_no))
      (pss_cons (ps_expr (pe_callS GG r1 (by rfl) DG.mg DG.fn.kp DG.bd (fun σ => passAt (takes_of rfl rfl rfl rfl) σ) (pa_cons (pv 5) pa_nil)))
      (pss_cons (ps_for (passes_of rfl) rfl (pi_tup (pe_tup (pa_cons (pv 3) (pa_cons (pv 4) pa_nil)))) (pg_name (i := 6) scHI.nd rfl (.inl rfl))
        (pss_one (ps_if (pt_not (pt_val (pe_call GS r2 (by rfl) DS.mg DS.fn.kp DS.bd .nil pass0 (pa_cons (pv 6) pa_nil)))) (pss_one ps_no) pss_nil)))
      (pss_cons (ps_fld (pv 0) (pv 1) rfl) (pss_cons (ps_fld (pv 0) (pv 5) rfl) (pss_cons (ps_fld (pv 0) (pv 3) rfl) (pss_one (ps_fld (pv 0) (pv 4) rfl)))))))), ?_⟩
    refine ⟨_, rfl, v, rfl, hv, fun H1 s1 => ?_⟩
    refine ⟨_, rfl, rfl, _, rfl, iteT ⟨by show 0 ≤ sizeLine; decide, fun t nt => ?_⟩⟩
    refine ⟨_, rfl, t, rfl, sqT upd_same, fun H2 s2 => ?_⟩
    have s12 : Same H H2 := s1.trans ((same_new nt).trans s2)
    refine ⟨_, rfl, _, rfl, by show 2 ≤ sizeLine; decide, fun t2 nt2 => ⟨t2, rfl, ⟨_, sqT upd_same⟩, ?_⟩⟩
    have s3 : Same H (upd H2 t2 (.tup [.int 0, .int 0])) := s12.trans (same_new nt2)
    have g3 : (upd H2 t2 (.tup [.int 0, .int 0])) t2 = some (.tup [.int 0, .int 0]) := upd_same
    revert s3 g3
    generalize upd H2 t2 (.tup [.int 0, .int 0]) = H3
    intro s3 g3
    refine for_tup (K := K) (a := t2) (xs := [.int 0, .int 0]) (fun i σ H' => (∃ y, σ = [some (.ref o), some v, some .non, some (.int 0), some (.int 0), some (.ref t), y]) ∧ H' = H3) ⟨⟨_, rfl⟩, rfl⟩ (fun i σ H' _ h => h.2 ▸ sqT g3) ?_ ?_
    · rintro i x σ H4 hx ⟨⟨y, rfl⟩, rfl⟩
      have : x = .int 0 := by
        match i, hx with
        | 0, hx => cases hx; rfl
        | 1, hx => cases hx; rfl
        | i + 2, hx => cases hx
      subst this
      exact ⟨_, rfl, rfl, true, rfl, iteF ⟨⟨_, rfl⟩, rfl⟩⟩
    · rintro σ H4 ⟨⟨y, rfl⟩, rfl⟩
      refine ⟨_, rfl, _, rfl, o, CH, dx, _, rfl, s3 _ _ ho, T.cl, T.n1, by show 0 < 1000; decide, ?_⟩
      refine ⟨_, rfl, _, rfl, o, CH, dx, _, rfl, upd_same, T.cl, T.n2, by show 1 < 1000; decide, ?_⟩
      refine ⟨_, rfl, _, rfl, o, CH, dx, _, rfl, upd_same, T.cl, T.n3, by show 2 < 1000; decide, ?_⟩
      refine ⟨_, rfl, _, rfl, o, CH, dx, _, rfl, upd_same, T.cl, T.n4, by show 3 < 1000; decide, ?_⟩
      exact q _ (((((Bt.of_same s3).upd1 (by simp)).upd1 (by simp)).upd1 (by simp)).upd1 (by simp))
structure SyF (K : PySem.W.Frag) (C : Addr) : Prop where
  cl : Cls K C
  n1 : NoAttr K C "deaths"
def spSI0 (K : PySem.W.Frag) (CY : Addr) : Sp := fun vs H Q _ => ∃ (o dx t : Addr), vs = [.ref o, .ref t] ∧ H o = some (.ins CY dx []) ∧ SqT K H t [] ∧ ∀ H', Bt [o] H H' → Q .non H'
theorem ok_SI0 {f fC : Addr} {fd fdC : FuncData} (T : SyF K CY) (F : FunD K "__init__" "Story.__init__" (defArgs sSI) (defBody sSI) (defScope sSI) [.non] [] f fd) (GC : FnOk P w K mg base (L2.CX P w) 1 fC fdC ["deaths"] (spChk0 K)) (DC : Df K mg "check_deaths" sChkD fC fdC ["deaths"]) :
    FnOk P w K mg base (L2.CX P w) 4 f fd ["self", "deaths"] (spSI0 K CY) := by
  refine F.ok scSI (fun vs H Q E h => ?_) (fun cdv A outer s H vs Q E hr h => ?_)
  · obtain ⟨o, dx, t, rfl, _⟩ := h
    rfl
  · obtain ⟨o, dx, t, rfl, ho, ht, q⟩ := h
    have r1 : Room 1 _ := hr.mono (by omega)
    refine ⟨_, pss_cons (ps_set (i := 2) scSI.nd rfl (.inl rfl) (pe_ifExp (pt_cmpR op_isN (pv 1) pe_non (nomark _)) pe_no (pv 1)))
      (pss_cons (ps_expr (pe_callS GC r1 (by rfl) DC.mg DC.fn.kp DC.bd (fun σ => passAt (takes_of rfl rfl rfl rfl) σ) (pa_cons (pv 2) pa_nil)))
      (pss_one (ps_fld (pv 0) (pv 2) rfl))), ?_⟩
    refine ⟨_, rfl, rfl, _, rfl, iteF ⟨_, rfl, _, rfl, t, rfl, ht, fun H1 s1 => ?_⟩⟩
    refine ⟨_, rfl, _, rfl, o, CY, dx, _, rfl, s1 _ _ ho, T.cl, T.n1, by show 0 < 1000; decide, ?_⟩
    exact q _ ((Bt.of_same s1).upd1 (by simp))
end
end WdQ

set_option Elab.async false
set_option linter.all false
set_option maxRecDepth 100000
set_option maxHeartbeats 4000000
set_option exponentiation.threshold 5000
namespace WdQ
open PySem PySem.Spec PyProof.Rows L2 WdM Wd
abbrev sTk : Stmt := topS 50
abbrev sRef : Stmt := topS 66
abbrev sRt : Stmt := topS 67
theorem scTk : FnScope ["house", "whom", "story", "wait", "alternative", "part", "rows"] ["house", "whom", "story", "wait"] (defScope sTk) := ⟨rfl, rfl, rfl, by decide +kernel, rfl, by decide +kernel, by decide +kernel⟩
theorem scRef : FnScope ["_law_thing", "e"] ["_law_thing"] (defScope sRef) := ⟨rfl, rfl, rfl, by decide +kernel, rfl, by decide +kernel, by decide +kernel⟩
theorem scRt : FnScope ["_law_thing", "_law_shown", "_law_found"] ["_law_thing"] (defScope sRt) := ⟨rfl, rfl, rfl, by decide +kernel, rfl, by decide +kernel, by decide +kernel⟩
/-- an own error without a field: the class x at C, CW its family -/
structure ErN (K : PySem.W.Frag) (mg : Str → Option Value) (x : Str) (C CW : Addr) : Prop where
  x_ : PySem.W.excIn K C [.type "ValueError", .type "Exception", .type "BaseException", .type "object"] "ValueError.__new__" = true
  g : mg x = some (.ref C)
  k : PySem.W.keepIn K (.ref C) = true
  b : PySem.W.subIn K (.ref C) (.type "BaseException") = some true
  t : PySem.W.typeIn K (.ref C) = some (.type "type")
  m : PySem.W.exmOne K (.ref C) (.ref CW) = some true
  c : ExcC K C
  i : PySem.W.kitOne K (.ref C) (.ref C) = some true
section
variable {P : Program} {w : World} {K : PySem.W.Frag} {mg : Str → Option Value} {base : Heap} {CH CY CN CW : Addr}
def spTk0 (K : PySem.W.Frag) (CN : Addr) : Sp := fun vs H _ E => ∃ (h v st : V) (d : PyData), vs = [h, v, st, .int 0] ∧ Dz [] K H v d ∧ Fin d ∧ whomB d = false ∧ ∀ H', Same H H' → E (.ref CN) none H'
theorem ok_tk0 {f fW : Addr} {fd fdW : FuncData} (T : ErN K mg "NoWhom" CN CW) (F : FunD K "takers" "takers" (defArgs sTk) (defBody sTk) (defScope sTk) [.int 0] [] f fd) (GW : FnOk P w K mg base CX0 4 fW fdW ["thing"] (spData K whomB)) (DW : Df K mg "is_whom" sWhom fW fdW ["thing"]) :
    FnOk P w K mg base (L2.CX P w) 5 f fd ["house", "whom", "story", "wait"] (spTk0 K CN) := by
  refine F.ok scTk (fun vs H Q E h => ?_) (fun cdv A outer s H vs Q E hr h => ?_)
  · obtain ⟨h, v, st, d, rfl, _⟩ := h
    rfl
  · obtain ⟨h, v, st, d, rfl, dz, fin, bad, q⟩ := h
    refine ⟨_, pss_cons (ps_if (pt_not (pt_val (pe_call GW hr (by rfl) DW.mg DW.fn.kp DW.bd .nil pass0 (pa_cons (pv 1) pa_nil))))
          (pss_one (ps_raise rfl (takes_of rfl rfl rfl rfl) (pmk_own0 PySem.F.excBase_ValueError T.x_ T.g T.k (raises_own T.b T.t) (by rfl)))) pss_nil) pss_no, ?_⟩
    refine ⟨_, rfl, [], v, d, rfl, dz, fin, fun H1 s1 => ?_⟩
    rw [bad]
    exact ⟨false, rfl, iteT (q H1 s1)⟩
/-! ### refused where takers are asked -/
def tsIs (CN : Addr) : Addr → Value → Option Addr → TS := fun a cls d D σ H => cls = .ref CN ∧ d = none ∧ σ[1]? = some (some (.ref a)) ∧ D.rt (.bl true) H
def spRef (K : PySem.W.Frag) : Sp := fun vs H Q _ => ∃ (v : V) (d : PyData), vs = [v] ∧ Dz [] K H v d ∧ Fin d ∧ whomB d = false ∧ ∀ H', Same H H' → Q (.bl true) H'
theorem annOk : nmB "ann" = true := by decide +kernel
theorem same_made {G H' : Hp} {o d : Addr} {h1 h2 : HO} (no : G o = none) (nd : G d = none) (b : Bt [o] (upd (upd G d h1) o h2) H') : Same G H' := fun c x e => by
  have c1 : c ≠ o := ne_of_none e no
  have c2 : c ≠ d := ne_of_none e nd
  exact b c x (by simp [c1]) (by rw [upd_ne c1, upd_ne c2]; exact e)
theorem ok_ref {f fT fH fY : Addr} {fd fdT fdH fdY : FuncData} {dT dH dY : List Value} (B : Bi mg) (T : ErN K mg "NoWhom" CN CW) (gW : mg "WordError" = some (.ref CW)) (D : Df K mg "_law_refused" sRef f fd ["_law_thing"])
    (gT : mg "takers" = some (.ref fT)) (kT : PySem.W.keepIn K (.ref fT) = true) (GT : FnOk P w K mg base (L2.CX P w) 5 fT fdT ["house", "whom", "story", "wait"] (spTk0 K CN)) (bT : Binds K fdT ["house", "whom", "story", "wait"] dT) (vT : Vals [.int 0] dT)
    (MH : Mk K CH fH) (gH : mg "House" = some (.ref CH)) (GH : FnOk P w K mg base (L2.CX P w) 4 fH fdH ["self", "people", "goods", "purse", "debts"] (spHI1 K CH)) (bH : Binds K fdH ["self", "people", "goods", "purse", "debts"] dH) (vH : Vals [.non, .int 0, .int 0] dH)
    (MY : Mk K CY fY) (gY : mg "Story" = some (.ref CY)) (GY : FnOk P w K mg base (L2.CX P w) 4 fY fdY ["self", "deaths"] (spSI0 K CY)) (bY : Binds K fdY ["self", "deaths"] dY) (vY : Vals [] dY) :
    FnOk P w K mg base CX0 6 f fd ["_law_thing"] (spRef K) := by
  refine D.fn.ok scRef (fun vs H Q E h => ?_) (fun cdv A outer s H vs Q E hr h => ?_)
  · obtain ⟨v, d, rfl, _⟩ := h
    rfl
  · obtain ⟨v, d, rfl, dz, fin, bad, q⟩ := h
    refine ⟨_, pss_cons (ps_try_as (i := 1) (c := .ref CW) rfl rfl scRef.nd rfl rfl ⟨rfl, by decide, .inl gW⟩ takes0
          (fun W pn xe tk _ => pss_one (ps_expr (pe_callSD GT hr (by rfl) gT kT bT vT (fun σ => passAt tk σ)
            (pa_cons (pe_makeS MH GH hr (by rfl) gH bH vH (fun σ => passAt tk σ) (pa_cons (pe_tup (pa_cons (pe_tup (pa_cons pe_str (pa_cons pe_non pa_nil))) pa_nil)) pa_nil)) (pa_cons (pv 0) (pa_cons (pe_makeS MY GY hr (by rfl) gY bY vY (fun σ => passAt tk σ) (pa_cons (pe_tup pa_nil) pa_nil)) pa_nil))))))
          (ts := tsIs CN) (fun a oe cls d pn hz hf => ⟨fun pins s σ H D I hw => by
            obtain ⟨rfl, rfl, h1, h⟩ := hw
            exact (pss_one (ps_ret (pe_callB (call_isE T.c hz hf) (by rfl) B.isi boot_isinstance (pa_cons (pv 1) (pa_cons (pe_glob (v := .ref CN) (by rfl) T.g rfl) pa_nil))))).run pins s σ H D I ⟨_, h1, .ref CN, .ref CN, true, rfl, (fun u r => r.symm ▸ rfl), T.i, h⟩⟩))
      (pss_one (ps_ret pe_bl)), ?_⟩
    refine ⟨by show 2 ≤ sizeLine; decide, fun t2 n2 => ⟨by show 1 ≤ sizeLine; decide, fun t1 n1 => ?_⟩⟩
    intro o dx no nd ne
    have s0 : Same H (upd (upd H t2 (.tup [.str "ann", .non])) t1 (.tup [.ref t2])) := (same_new n2).trans (same_new n1)
    have g1 : (upd (upd H t2 (.tup [.str "ann", .non])) t1 (.tup [.ref t2])) t1 = some (.tup [.ref t2]) := upd_same
    have g2 : (upd (upd H t2 (.tup [.str "ann", .non])) t1 (.tup [.ref t2])) t2 = some (.tup [.str "ann", .non]) := same_new n1 _ _ upd_same
    revert s0 g1 g2 no nd
    generalize upd (upd H t2 (.tup [.str "ann", .non])) t1 (.tup [.ref t2]) = G
    intro no nd s0 g1 g2
    have sO : Same G (upd (upd G dx (.own o)) o (.ins CH dx [])) := (same_new nd).trans (same_new (by rw [upd_ne ne.symm]; exact no))
    refine ⟨o, dx, .ref t1, rfl, upd_same, ⟨t1, t2, "ann", rfl, sqT (sO _ _ g1), sqT (sO _ _ g2), annOk, by decide⟩, fun H1 b1 => ⟨rfl, ?_⟩⟩
    have s1 : Same H H1 := s0.trans (same_made no nd b1)
    refine ⟨_, rfl, by show 0 ≤ sizeLine; decide, fun t3 n3 => ?_⟩
    intro o2 dx2 no2 nd2 ne2
    have s2 : Same H1 (upd H1 t3 (.tup [])) := same_new n3
    have g3 : (upd H1 t3 (.tup [])) t3 = some (.tup []) := upd_same
    revert s2 g3 no2 nd2
    generalize upd H1 t3 (.tup []) = G2
    intro no2 nd2 s2 g3
    have sO2 : Same G2 (upd (upd G2 dx2 (.own o2)) o2 (.ins CY dx2 [])) := (same_new nd2).trans (same_new (by rw [upd_ne ne2.symm]; exact no2))
    refine ⟨o2, dx2, t3, rfl, upd_same, sqT (sO2 _ _ g3), fun H3 b3 => ⟨rfl, ?_⟩⟩
    have s3 : Same H H3 := (s1.trans s2).trans (same_made no2 nd2 b3)
    exact ⟨_, v, _, d, rfl, dz.same s3, fin, bad, fun H4 s4 => ⟨true, T.m, fun _ a ha => ⟨rfl, rfl, rfl, q H4 (s3.trans s4)⟩, fun z => nomatch z⟩⟩
/-! ### right -/
def B5 (K : PySem.W.Frag) (H : Hp) (v : V) : Prop := ∃ b, Bz K [] b 5 H v
def spRt (K : PySem.W.Frag) : Sp := fun vs H Q _ => ∃ v, vs = [v] ∧ B5 K H v ∧ ∀ H', Same H H' → Q (.bl true) H'
theorem eq_bl (b : Bool) : decide (V.bl b = V.bl b) = true := by simp
theorem eq_str (b : Str) : decide (V.str b = V.str b) = true := by simp
theorem neq_bl (b : Bool) : (!decide (V.bl b = V.bl b)) = false := by simp
theorem eq_bl' (b : Bool) : V.bl (decide (V.bl b = V.bl b)) = .bl true := by simp
def tLast (K : PySem.W.Frag) : TS := fun D σ H => ∃ v d b, σ = [some v, some (.str (PyData.shown d)), some (.bl (whomB d))] ∧ Dz [] K H v d ∧ Fine b 5 d ∧ ∀ H', Same H H' → D.rt (.bl true) H'
theorem ok_rt {f fW fD fR : Addr} {fd fdW fdD fdR : FuncData} (B : Bi mg) (D : Df K mg "_law_right" sRt f fd ["_law_thing"]) (DW : Df K mg "is_whom" sWhom fW fdW ["thing"]) (DD : Df K mg "_law_due" sDue fD fdD ["_law_thing"]) (DR : Df K mg "_law_refused" sRef fR fdR ["_law_thing"])
    (GW : FnOk P w K mg base CX0 4 fW fdW ["thing"] (spData K whomB)) (GD : FnOk P w K mg base CX0 2 fD fdD ["_law_thing"] (spData K whomB)) (GR : FnOk P w K mg base CX0 6 fR fdR ["_law_thing"] (spRef K)) : FnG P w K mg base 7 f fd ["_law_thing"] (spRt K) := by
  refine okG D.fn scRt (fun vs H Q E h => ?_) (fun cdv A outer s H vs Q E gs hr h => ?_)
  · obtain ⟨v, rfl, _⟩ := h
    rfl
  · obtain ⟨v, rfl, ⟨b, d, dz, fine⟩, q⟩ := h
    have hu := hr.units
    have fin : Fin d := ⟨b, 5, fine⟩
    have r4 : Room 4 _ := hr.mono (by omega)
    have r2 : Room 2 _ := hr.mono (by omega)
    refine ⟨_, pss_cons (ps_set (i := 1) scRt.nd rfl (.inl rfl) (pe_callB (call_reprZ gs hu) (by rfl) B.repr (by decide +kernel) (pa_cons (pv 0) pa_nil)))
      (pss_cons (ps_set (i := 2) scRt.nd rfl (.inl rfl) (pe_call GW r4 (by rfl) DW.mg DW.fn.kp DW.bd .nil pass0 (pa_cons (pv 0) pa_nil)))
      (pss_cons (ps_if (PW.pt (pw_or (pt_not (pt_val (pe_callB call_isi (by rfl) B.isi boot_isinstance (pa_cons (pv 2) (pa_cons (pe_bltn (v := .ty "bool") (by rfl) B.bool boot_bool rfl) pa_nil))))) (pw_or1 (pt_cmpR op_ne (pv 2) (pe_call GD r2 (by rfl) DD.mg DD.fn.kp DD.bd .nil pass0 (pa_cons (pv 0) pa_nil)) (nomark _))))) (pss_one (ps_ret pe_bl)) pss_nil)
      (pss_cons (ps_if (PW.pt (pw_and (pt_not (pt_val (pv 2))) (pw_and1 (pt_not (pt_val (pe_call GR hr (by rfl) DR.mg DR.fn.kp DR.bd .nil pass0 (pa_cons (pv 0) pa_nil))))))) (pss_one (ps_ret pe_bl)) pss_nil)
      (pss_one (PS.wk (t' := tLast K) (ps_ret (pe_and (pe_cmpR op_eq (pe_call GW r4 (by rfl) DW.mg DW.fn.kp DW.bd .nil pass0 (pa_cons (pv 0) pa_nil)) (pv 2) (nomark _)) (pe_one (pe_cmpR op_eq (pe_callB (call_reprZ gs hu) (by rfl) B.repr (by decide +kernel) (pa_cons (pv 0) pa_nil)) (pv 1) (nomark _))))) (by
          rintro D σ H ⟨v, d, b, rfl, dz, fine, q⟩
          refine ⟨_, rfl, [], v, d, rfl, dz, ⟨b, 5, fine⟩, fun H4 s4 => ⟨_, rfl, rfl, true, eq_bl' _, ?_⟩⟩
          refine iteT ⟨_, rfl, v, d, b, rfl, dz.same s4, fine, _, rfl, rfl, ?_⟩
          rw [eq_str]
          exact q H4 s4)))))), ?_⟩
    refine ⟨_, rfl, v, d, b, rfl, dz, fine, ?_⟩
    refine ⟨_, rfl, [], v, d, rfl, dz, fin, fun H1 s1 => ?_⟩
    refine ⟨_, rfl, _, .ty "bool", .type "bool", .type "bool", true, rfl, .ty _, .base (.bl _), kit_ty (by decide +kernel), true, rfl, iteF ?_⟩
    refine ⟨_, rfl, _, rfl, [], v, d, rfl, dz.same s1, fin, fun H2 s2 => ⟨rfl, _, rfl, ?_⟩⟩
    rw [neq_bl]
    have s12 := s1.trans s2
    have last : ∀ H3, Same H H3 → tLast K { nx := fun x H' => Q V.non H', rt := Q } [some v, some (.str d.shown), some (.bl (whomB d))] H3 := fun H3 s3 => ⟨v, d, b, rfl, dz.same s3, fine, fun H4 s4 => q H4 (s3.trans s4)⟩
    refine iteF ⟨_, rfl, _, rfl, ?_⟩
    by_cases hw : whomB d = true
    · rw [hw]
      rw [hw] at last
      exact iteF (last H2 s12)
    · have bad : whomB d = false := by simpa using hw
      rw [bad]
      rw [bad] at last
      exact iteT ⟨_, rfl, v, d, rfl, dz.same s12, fin, bad, fun H3 s3 => ⟨true, rfl, iteF (last H3 (s12.trans s3))⟩⟩
end
end WdQ

set_option Elab.async false
set_option linter.all false
set_option maxRecDepth 100000
set_option maxHeartbeats 4000000
set_option exponentiation.threshold 5000
namespace WdQ
open PySem PySem.Spec PyProof.Rows L2 WdM Wd
abbrev sLaw : Stmt := topS 68
abbrev nL : List Str := ["_law_script", "_law_k", "_law_pool_here", "_law_turn", "_law_spoils", "_law_made", "_law_spoil", "_law_more", "_law_some", "_law_one", "_law_thing"]
theorem scLaw : FnScope nL ["_law_script"] (defScope sLaw) := ⟨rfl, rfl, rfl, by decide +kernel, rfl, by decide +kernel, by decide +kernel⟩
theorem rep_mem {x y : V} {k : Nat} (h : x ∈ (List.replicate k [y]).flatten) : x = y := by
  obtain ⟨l, hl, hx⟩ := List.mem_flatten.mp h
  rw [(List.mem_replicate.mp hl).2] at hx
  exact List.mem_singleton.mp hx
theorem rep_len (y : V) (k : Nat) : ((List.replicate k [y]).flatten).length = k := by
  rw [List.length_flatten, List.map_replicate, List.sum_replicate_nat]
  simp
section
variable {P : Program} {w : World} {K : PySem.W.Frag} {mg : Str → Option Value} {base : Heap}
theorem bz_oa {S : List Addr} {b : Bool} {n : Nat} {H : Hp} : ∀ x ∈ [V.str "one", V.str "ann"], Bz K S b n H x := by
  intro x hx
  simp only [List.mem_cons, List.not_mem_nil, or_false] at hx
  rcases hx with rfl | rfl
  · exact bz_one
  · exact bz_clean (show ∀ c ∈ (Str.ofString "ann").cps.toList, letB c = true by decide +kernel) (by decide)
theorem kp5 : Kp RT (B5 K) := ⟨fun _ _ _ _ _ => trivial, fun _ _ _ e ⟨b, h⟩ => ⟨b, h.same e⟩⟩
def RO (K : PySem.W.Frag) : L2.St → Hp → Prop := fun σ H => ∃ a t2, σ[9]? = some (some (.ref a)) ∧ SqT K H a [.ref t2] ∧ Bz K [] true 1 H (.ref t2)
theorem kpO : Kp (RO K) (B5 K) := ⟨fun _ _ _ e ⟨a, t2, h, hs, hb⟩ => ⟨a, t2, h, (tk_same e).sq hs, hb.same e⟩, fun _ _ _ e ⟨b, h⟩ => ⟨b, h.same e⟩⟩
theorem one_of {H : Hp} {p : Addr} {y : V} {n : Nat} (h : SqT K H p [y]) (e : Bz K [] true n H y) : Bz K [] true (n + 1) H (.ref p) := bz_tup h (by show 1 ≤ 8; decide) (fun x hx => by rw [List.mem_singleton.mp hx]; exact e)
theorem rep_of {H : Hp} {p : Addr} {y : V} {n k : Nat} (h : SqT K H p (List.replicate k [y]).flatten) (l : k ≤ 8) (e : Bz K [] true n H y) : Bz K [] true (n + 1) H (.ref p) := bz_tup h (by rw [rep_len]; exact l) (fun x hx => by rw [rep_mem hx]; exact e)
theorem nil_of {H : Hp} {p : Addr} {n : Nat} (h : SqT K H p []) : Bz K [] true (n + 1) H (.ref p) := bz_tup h (by show 0 ≤ 8; decide) (fun x hx => nomatch hx)
theorem more_ok {z : Int} (z0 : 0 ≤ z) (z1 : z < 1000000000) : 0 ≤ z * 48271 % 999999999989 + 10 ^ (12 : Int).toNat * (z * 69621 % 999999999961 + 1) ∧ (z * 48271 % 999999999989 + 10 ^ (12 : Int).toNat * (z * 69621 % 999999999961 + 1)).natAbs < 2 ^ 1300 := by
  have e : (10 : Int) ^ (12 : Int).toNat = 1000000000000 := by decide
  rw [e]
  have a0 := Int.emod_nonneg (z * 48271) (show (999999999989 : Int) ≠ 0 by decide)
  have a1 := Int.emod_lt_of_pos (z * 48271) (show (0 : Int) < 999999999989 by decide)
  have b0 := Int.emod_nonneg (z * 69621) (show (999999999961 : Int) ≠ 0 by decide)
  have b1 := Int.emod_lt_of_pos (z * 69621) (show (0 : Int) < 999999999961 by decide)
  refine ⟨by omega, Nat.lt_of_lt_of_le (show _ < 2 ^ 100 by omega) (Nat.pow_le_pow_right (by decide) (by decide))⟩
def spLaw (K : PySem.W.Frag) : Sp := fun vs H Q _ => ∃ (a : Addr) (ns : List Int), vs = [.ref a] ∧ SqL K H a (ns.map V.int) ∧ ns.length ≤ 63 ∧ ∀ H', Q (.bl true) H'
theorem ok_law {f fO fT fM fB fR : Addr} {fd fdO fdT fdM fdB fdR : FuncData} (B : Bi mg) (D : Df K mg "law" sLaw f fd ["_law_script"]) (DO : Df K mg "_law_pool" sPool fO fdO ["_law_script", "_law_k"]) (DT : Df K mg "_law_take" sTake fT fdT ["_law_pool_here", "_law_many"]) (DM : Df K mg "_law_whom" sMk fM fdM ["_law_pool_here"])
    (DB : Df K mg "_law_bent" sBent fB fdB ["_law_pool_here", "_law_thing", "_law_deep"]) (DR : Df K mg "_law_right" sRt fR fdR ["_law_thing"])
    (GM : FnOk P w K mg base CX0 3 fM fdM ["_law_pool_here"] (spMk K)) (GB : FnOk P w K mg base CX0 7 fB fdB ["_law_pool_here", "_law_thing", "_law_deep"] (spBent K 4)) (GR : FnG P w K mg base 7 fR fdR ["_law_thing"] (spRt K)) : FnG P w K mg base 8 f fd ["_law_script"] (spLaw K) := by
  have GO : FnOk P w K mg base CX0 1 fO fdO ["_law_script", "_law_k"] (spPool K) := ok_pool (k := 0) B DO
  have GT : FnOk P w K mg base CX0 1 fT fdT ["_law_pool_here", "_law_many"] spTake := ok_take (k := 0) B DT
  refine okG D.fn scLaw (fun vs H Q E h => ?_) (fun cdv A outer s H vs Q E gs hr h => ?_)
  · obtain ⟨a, ns, rfl, _⟩ := h
    rfl
  · obtain ⟨a, ns, rfl, hs, hlen, q⟩ := h
    have r1 : Room 1 _ := hr.mono (by omega)
    have r3 : Room 3 _ := hr.mono (by omega)
    refine ⟨_, pss_cons (ps_for PassesOwn.never rfl (pi_range1 (by rfl) B.range (pa_cons (pe_callB (call_max2 rfl) (by rfl) B.max (by decide +kernel) (pa_cons pe_int (pa_cons (pe_callB (call_min2 rfl) (by rfl) B.min (by decide +kernel) (pa_cons (pe_callB call_len_seq (by rfl) B.len PySem.boot_len (pa_cons (pv 0) pa_nil)) (pa_cons pe_int pa_nil))) pa_nil))) pa_nil)) (pg_name (i := 1) scLaw.nd rfl (.inl rfl))
        (pss_cons (ps_set (i := 2) scLaw.nd rfl (.inr rfl) (pe_call GO r1 (by rfl) DO.mg DO.fn.kp DO.bd .nil pass0 (pa_cons (pv 0) (pa_cons (pv 1) pa_nil))))
        (pss_cons (ps_setLc (i := 4) (own := [("_law_turn", 3)]) (g := gName 3) (tt := tYes) rfl scLaw.nd rfl rfl (sw_true rfl rfl rfl (by decide +kernel)) (pi_range1 (by rfl) B.range (pa_cons pe_int pa_nil))
            (blkOk_by (own := [("_law_turn", 3)]) (N := nL) (sc := defScope sLaw) (by decide +kernel))
            (fun _ _ _ _ _ => pg_name (i := 3) scLaw.nd rfl (Or.inl rfl)) (fun _ _ _ _ _ => pts_nil)
            (fun _ _ _ _ _ => pe_call GT r1 (by rfl) DT.mg DT.fn.kp DT.bd .nil pass0 (pa_cons (pv 2) (pa_cons (pe_op op_pow pe_int pe_int) pa_nil))))
        (pss_cons (ps_set (i := 5) scLaw.nd rfl (.inl rfl) (pe_call GM r3 (by rfl) DM.mg DM.fn.kp DM.bd .nil pass0 (pa_cons (pv 2) pa_nil)))
        (pss_cons (ps_if (pt_not (pt_val (pe_callG GR gs hr (by rfl) DR.mg DR.fn.kp DR.bd (pa_cons (pv 5) pa_nil)))) (pss_one (ps_ret pe_bl)) pss_nil)
        (pss_one (ps_for PassesOwn.never rfl (pi_list (pv 4)) (pg_name (i := 6) scLaw.nd rfl (.inl rfl))
          (pss_cons (ps_set (i := 7) scLaw.nd rfl (.inl rfl) (pe_op op_add (pe_op op_mod (pe_op op_mul (pv 6) pe_int) pe_int) (pe_op op_mul (pe_op op_pow pe_int pe_int) (pe_op op_add (pe_op op_mod (pe_op op_mul (pv 6) pe_int) pe_int) pe_int))))
          (pss_one (ps_if (pt_not (pt_val (pe_callG GR gs hr (by rfl) DR.mg DR.fn.kp DR.bd (pa_cons (pe_call GB hr (by rfl) DB.mg DB.fn.kp DB.bd .nil pass0 (pa_cons (pe_lst (pa_cons (pv 7) pa_nil)) (pa_cons (pv 5) (pa_cons pe_int pa_nil)))) pa_nil)))) (pss_one (ps_ret pe_bl)) pss_nil))))))))))
      (pss_cons (ps_set (i := 8) scLaw.nd rfl (.inl rfl) (peB_lst
        (paB_cons kp5 (PE.wk (t' := tB RT (B5 K)) pe_non (by rintro σ H Q ⟨_, q⟩; exact q _ _ (Same.refl H) ⟨true, .none, .non, fine_none⟩))
        (paB_cons kp5 (PE.wk (t' := tB RT (B5 K)) pe_int (by rintro σ H Q ⟨_, q⟩; exact q _ _ (Same.refl H) ⟨true, .int 0, .int _, fine_zero⟩))
        (paB_cons kp5 (PE.wk (t' := tB RT (B5 K)) pe_bl (by rintro σ H Q ⟨_, q⟩; exact q _ _ (Same.refl H) ⟨true, .bool true, .bl _, fine_bool⟩))
        (paB_cons kp5 (PE.wk (t' := tB RT (B5 K)) pe_str (by rintro σ H Q ⟨_, q⟩; exact q _ _ (Same.refl H) ⟨true, .str _, .str _, fine_str (okS_of (by decide +kernel)) (by decide)⟩))
        (paB_cons kp5 (PE.wk (t' := tB RT (B5 K)) pe_str (by rintro σ H Q ⟨_, q⟩; exact q _ _ (Same.refl H) ⟨true, .str _, .str _, fine_str (okS_of (by decide +kernel)) (by decide)⟩))
        (paB_cons kp5 (PE.wk (t' := tB RT (B5 K)) (pe_tup (pa_cons pe_str (pa_cons pe_str pa_nil))) (by rintro σ H Q ⟨_, q⟩; exact ⟨by show 2 ≤ sizeLine; decide, fun p n => q _ _ (same_new n) ⟨true, bz_tup (sqT upd_same) (by show 2 ≤ 8; decide) bz_oa⟩⟩))
        (paB_cons kp5 (PE.wk (t' := tB RT (B5 K)) (pe_tup (pa_cons (pe_tup (pa_cons pe_str (pa_cons pe_str pa_nil))) pa_nil)) (by rintro σ H Q ⟨_, q⟩; exact ⟨by show 2 ≤ sizeLine; decide, fun p1 n1 => ⟨by show 1 ≤ sizeLine; decide, fun p n => q _ _ ((same_new n1).trans (same_new n)) ⟨true, one_of (sqT upd_same) (bz_tup (sqT (same_new n _ _ upd_same)) (by show 2 ≤ 8; decide) bz_oa)⟩⟩⟩))
        (paB_cons kp5 (PE.wk (t' := tB RT (B5 K)) (pe_lst (pa_cons (pe_tup (pa_cons (pe_tup (pa_cons pe_str (pa_cons pe_str pa_nil))) pa_nil)) pa_nil)) (by rintro σ H Q ⟨_, q⟩; exact ⟨by show 2 ≤ sizeLine; decide, fun p1 n1 => ⟨by show 1 ≤ sizeLine; decide, fun p2 n2 => ⟨by show 1 ≤ sizeLine; decide, fun p n => q _ _ ((same_new n1).trans ((same_new n2).trans (same_new n))) ⟨true, bz_lst (by simp) (sqL upd_same) (by show 1 ≤ 8; decide) (fun x hx => by rw [List.mem_singleton.mp hx]; exact one_of (sqT (same_new n _ _ upd_same)) (bz_tup (sqT (same_new n _ _ (same_new n2 _ _ upd_same))) (by show 2 ≤ 8; decide) bz_oa))⟩⟩⟩⟩))
        (paB_cons kp5 (PE.wk (t' := tB RT (B5 K)) pe_dnewK (by rintro σ H Q ⟨_, q⟩; exact fun p n => q _ _ (same_new n) ⟨false, .dict [], .nod (by simp) upd_same, rfl⟩))
        (paB_cons kp5 (PE.wk (t' := tB RT (B5 K)) (pe_tup pa_nil) (by rintro σ H Q ⟨_, q⟩; exact ⟨by show 0 ≤ sizeLine; decide, fun p n => q _ _ (same_new n) ⟨true, nil_of (sqT upd_same)⟩⟩))
        (paB_cons kp5 (PE.wk (t' := tB RT (B5 K)) (pe_tup (pa_cons (pe_tup pa_nil) pa_nil)) (by rintro σ H Q ⟨_, q⟩; exact ⟨by show 0 ≤ sizeLine; decide, fun p1 n1 => ⟨by show 1 ≤ sizeLine; decide, fun p n => q _ _ ((same_new n1).trans (same_new n)) ⟨true, one_of (sqT upd_same) (nil_of (sqT (same_new n _ _ upd_same)))⟩⟩⟩))
        (paB_cons kp5 (PE.wk (t' := tB RT (B5 K)) (pe_tup (pa_cons (pe_tup (pa_cons (pe_tup pa_nil) pa_nil)) pa_nil)) (by rintro σ H Q ⟨_, q⟩; exact ⟨by show 0 ≤ sizeLine; decide, fun p1 n1 => ⟨by show 1 ≤ sizeLine; decide, fun p2 n2 => ⟨by show 1 ≤ sizeLine; decide, fun p n => q _ _ ((same_new n1).trans ((same_new n2).trans (same_new n))) ⟨true, one_of (sqT upd_same) (one_of (sqT (same_new n _ _ upd_same)) (nil_of (sqT (same_new n _ _ (same_new n2 _ _ upd_same)))))⟩⟩⟩⟩))
        paB_nil)))))))))))) (by decide)))
      (pss_cons (ps_set (i := 9) scLaw.nd rfl (.inl rfl) (pe_tup (pa_cons (pe_tup (pa_cons pe_str (pa_cons pe_str pa_nil))) pa_nil)))
      (pss_cons (ps_set (i := 8) scLaw.nd rfl (.inl rfl) (pe_op op_cat (pv 8) (peB_lst
        (paB_cons kpO (PE.wk (t' := tB (RO K) (B5 K)) (pe_tup (pa_cons (pv 9) pa_nil)) (by rintro σ H Q ⟨⟨a, t2, h9, hs, hb⟩, q⟩; exact ⟨_, h9, by show 1 ≤ sizeLine; decide, fun p n => q _ _ (same_new n) ⟨true, (one_of (sqT upd_same) (one_of ((tk_new n).sq hs) (hb.same (same_new n)))).mono (by decide)⟩⟩))
        (paB_cons kpO (PE.wk (t' := tB (RO K) (B5 K)) (pe_op op_repT (pe_tup (pa_cons (pe_op op_repT (pv 9) pe_int) pa_nil)) pe_int) (by
          rintro σ H Q ⟨⟨a, t2, h9, hs, hb⟩, q⟩
          refine ⟨_, h9, a, 6, [.ref t2], rfl, rfl, hs, by simp, by decide, by decide, by show 1 ≤ 1000; decide, fun p1 n1 => ⟨by show 1 ≤ sizeLine; decide, fun p2 n2 => ⟨p2, 4, [.ref p1], rfl, rfl, sqT upd_same, by simp, by decide, by decide, by show 1 ≤ 1000; decide, fun p3 n3 => ?_⟩⟩⟩
          have s : Same H _ := (same_new (o := .tup (List.replicate (6 : Int).toNat [V.ref t2]).flatten) n1).trans ((same_new (o := .tup [.ref p1]) n2).trans (same_new (o := .tup (List.replicate (4 : Int).toNat [V.ref p1]).flatten) n3))
          exact q _ _ s ⟨true, (rep_of (n := 2) (sqT upd_same) (by decide) (rep_of (n := 1) (sqT (same_new n3 _ _ (same_new n2 _ _ upd_same))) (by decide) (hb.same s))).mono (by decide)⟩))
        (paB_cons kpO (PE.wk (t' := tB (RO K) (B5 K)) (pe_tup (pa_cons (pe_op op_repT (pv 9) pe_int) pa_nil)) (by
          rintro σ H Q ⟨⟨a, t2, h9, hs, hb⟩, q⟩
          refine ⟨_, h9, a, 7, [.ref t2], rfl, rfl, hs, by simp, by decide, by decide, by show 1 ≤ 1000; decide, fun p1 n1 => ⟨by show 1 ≤ sizeLine; decide, fun p2 n2 => ?_⟩⟩
          have s : Same H _ := (same_new (o := .tup (List.replicate (7 : Int).toNat [V.ref t2]).flatten) n1).trans (same_new (o := .tup [.ref p1]) n2)
          exact q _ _ s ⟨true, (one_of (n := 2) (sqT upd_same) (rep_of (n := 1) (sqT (same_new n2 _ _ upd_same)) (by decide) (hb.same s))).mono (by decide)⟩))
        (paB_cons kpO (PE.wk (t' := tB (RO K) (B5 K)) (pe_op op_repT (pe_tup (pa_cons (pv 9) pa_nil)) pe_int) (by
          rintro σ H Q ⟨⟨a, t2, h9, hs, hb⟩, q⟩
          refine ⟨_, h9, by show 1 ≤ sizeLine; decide, fun p1 n1 => ⟨p1, 5, [.ref a], rfl, rfl, sqT upd_same, by simp, by decide, by decide, by show 1 ≤ 1000; decide, fun p2 n2 => ?_⟩⟩
          have s : Same H _ := (same_new (o := .tup [.ref a]) n1).trans (same_new (o := .tup (List.replicate (5 : Int).toNat [V.ref a]).flatten) n2)
          exact q _ _ s ⟨true, (rep_of (n := 2) (sqT upd_same) (by decide) (one_of (n := 1) ((tk_same s).sq hs) (hb.same s))).mono (by decide)⟩))
        paB_nil)))) (by decide))))
      (pss_one (ps_ret (pe_callB (cr_all rfl) (by rfl) B.all (by decide +kernel) (pa_cons
          (pe_lc (own := [("_law_thing", 10)]) (g := gName 10) (tt := tYes) rfl scLaw.nd (pi_list (pv 8)) (blkOk_by (own := [("_law_thing", 10)]) (N := nL) (sc := defScope sLaw) (by decide +kernel))
            (fun _ _ _ _ _ => pg_name (i := 10) scLaw.nd rfl (Or.inl rfl)) (fun _ _ _ _ _ => pts_nil)
            (fun _ _ _ _ _ => pe_callG GR gs hr (by rfl) DR.mg DR.fn.kp DR.bd (pa_cons (pv 10) pa_nil))) pa_nil))))))), ?_⟩
    refine ⟨_, rfl, a, _, rfl, .inl hs, _, _, rfl, 2, _, rfl, _, rfl, ?_, ?_, for_range (lo := 0) (n := _) (fun i σ H' => (∃ y1 y2 y4 y5 y6 y7 : Option V, σ = [some (.ref a), y1, y2, none, y4, y5, y6, y7, none, none, none]) ∧ Same H H') ⟨⟨none, none, none, none, none, none, rfl⟩, Same.refl H⟩ ?_ ?_⟩
    · split <;> (try split) <;> omega
    · rw [List.length_map]
      split <;> (try split) <;> omega
    · rintro i σ H1 hi ⟨⟨y1, y2, y4, y5, y6, y7, rfl⟩, s1⟩
      have i64 : i < 64 := by
        revert hi
        rw [List.length_map]
        split <;> (try split) <;> omega
      refine ⟨_, rfl, _, rfl, a, ns, _, rfl, s1.seq hs, by omega, by omega, fun H2 l s2 nl pool2 => ?_⟩
      refine ⟨6, rfl, by decide, by decide, fun sL nS => ?_⟩
      have nls : l ≠ sL := pool2.ne nS
      have e9 : (10 : Int) ^ (9 : Int).toNat = 1000000000 := by decide
      refine lc_range (lo := 0) (n := 6) (fun j H' => ∃ zs : List Int, H' sL = some (.lst (zs.map V.int)) ∧ zs.length = j ∧ (∀ z ∈ zs, 0 ≤ z ∧ z < 1000000000) ∧ PoolAt H' l ∧ Bt [l] H2 H') ⟨[], upd_same, rfl, (fun x hx => nomatch hx), pool2.upd nls, (Bt.refl H2).new nS⟩ ?_ ?_
      · rintro j H5 hj ⟨zs, hS, zl, az, pool5, b5⟩
        refine ⟨rfl, tyes (iteT ⟨_, rfl, 10, 9, rfl, rfl, ⟨by decide, by decide, by decide⟩, l, _, rfl, pool5, by decide, fun H6 z b6 pool6 z0 z1 => ?_⟩)⟩
        have hS6 := kept b6 hS (by simp [nls.symm])
        refine ⟨_, hS6, by rw [List.length_map, zl]; exact Nat.lt_of_lt_of_le (show j < 7 by omega) (by decide), zs ++ [z], by rw [upd_same, List.map_append]; rfl, by rw [List.length_append, zl]; rfl, fun x hx => ?_, pool6.upd nls, (b5.trans b6).upd0 nS⟩
        rcases List.mem_append.mp hx with h | h
        · exact az x h
        · rw [List.mem_singleton.mp h]
          rw [e9] at z1
          exact ⟨z0, z1⟩
      · rintro H5 ⟨zs, hS, zl, az, pool5, b5⟩
        refine ⟨_, rfl, l, rfl, pool5, fun H6 v b6 pool6 cz => ?_⟩
        have hS6 := kept b6 hS (by simp [nls.symm])
        have s6 : Same H1 H6 := bt_same1 ((Bt.of_same s2).trans (b5.trans b6)) nl
        refine ⟨_, rfl, v, rfl, ⟨true, cz.bz.mono (by decide)⟩, fun H7 s7 => ⟨true, rfl, iteF ?_⟩⟩
        have hS7 := s7 _ _ hS6
        have cz7 := cz.tk (tk_same s7)
        have s17 : Same H H7 := s1.trans (s6.trans s7)
        clear b5 b6 pool5 pool6 pool2 nls nS s2 s6 s7 hS hS6 cz
        refine ⟨_, rfl, sL, rfl, ⟨_, sqL hS7⟩, for_list (K := K) (a := sL) (xs := zs.map V.int) (fun j σ H' => (∃ y6 y7, σ = [some (.ref a), some (.int (0 + (i : Int))), some (.ref l), none, some (.ref sL), some v, y6, y7, none, none, none]) ∧ Same H7 H') ⟨⟨_, _, rfl⟩, Same.refl H7⟩ (fun j σ H' _ h => sqL (h.2 _ _ hS7)) ?_ ?_⟩
        · rintro j x σ H8 hx ⟨⟨y6, y7, rfl⟩, s8⟩
          obtain ⟨z, hz, rfl⟩ := ints_get hx
          have ⟨z0, z1⟩ := az z (List.mem_of_getElem? hz)
          refine ⟨_, rfl, z, 48271, rfl, rfl, .inr ⟨by decide, by decide⟩, _, 999999999989, rfl, rfl, by show (0 : Int) < 999999999989; decide, 10, 12, rfl, rfl, ⟨by decide, by decide, by decide⟩, _, rfl, z, 69621, rfl, rfl, .inr ⟨by decide, by decide⟩, _, 999999999961, rfl, rfl, by show (0 : Int) < 999999999961; decide, _, 1, rfl, rfl, _, _, rfl, rfl, .inl ⟨by decide, by decide⟩, _, _, rfl, rfl, ?_⟩
          obtain ⟨m0, mB⟩ := more_ok z0 z1
          refine ⟨_, rfl, by show 1 ≤ sizeLine; decide, fun pl npl => ?_⟩
          have tk9 : Tk H7 _ := (tk_same s8).trans (tk_new (o := .lst [.int (z * 48271 % 999999999989 + 10 ^ (12 : Int).toNat * (z * 69621 % 999999999961 + 1))]) npl)
          refine ⟨_, rfl, pl, v, 3, rfl, ⟨_, upd_same, m0, mB⟩, cz7.tk tk9, by decide, fun H9 v9 b9 pool9 bd9 => ?_⟩
          have s9 : Same H8 H9 := bt_same1 (((Bt.refl H8).new npl).trans b9) npl
          obtain ⟨bb, bz⟩ := bd9
          exact ⟨v9, rfl, ⟨bb, bz.less⟩, fun H10 s10 => ⟨true, rfl, iteF ⟨⟨_, _, rfl⟩, s8.trans (s9.trans s10)⟩⟩⟩
        · rintro σ H8 ⟨⟨y6, y7, rfl⟩, s8⟩
          exact ⟨⟨_, _, _, _, _, _, rfl⟩, s17.trans s8⟩
    · rintro σ H1 ⟨⟨y1, y2, y4, y5, y6, y7, rfl⟩, s1⟩
      refine ⟨trivial, fun p1 xs H2 s2 n2 x2 a2 => ?_⟩
      have g2 : (upd H2 p1 (.lst xs)) p1 = some (.lst xs) := upd_same
      have a2 : ∀ x ∈ xs, B5 K (upd H2 p1 (.lst xs)) x := fun x hx => kp5.b _ _ _ (same_new n2) (a2 x hx)
      revert g2 a2
      generalize upd H2 p1 (.lst xs) = H3
      intro g2 a2
      refine ⟨by show 2 ≤ sizeLine; decide, fun t2 nt2 => ⟨by show 1 ≤ sizeLine; decide, fun t1 nt1 => ?_⟩⟩
      have s3 : Same H3 (upd (upd H3 t2 (.tup [.str "one", .str "ann"])) t1 (.tup [.ref t2])) := (same_new nt2).trans (same_new nt1)
      have ro : SqT K (upd (upd H3 t2 (.tup [.str "one", .str "ann"])) t1 (.tup [.ref t2])) t1 [.ref t2] := sqT upd_same
      have rb : Bz K [] true 1 (upd (upd H3 t2 (.tup [.str "one", .str "ann"])) t1 (.tup [.ref t2])) (.ref t2) := bz_tup (sqT (same_new nt1 _ _ upd_same)) (by show 2 ≤ 8; decide) bz_oa
      revert s3 ro rb
      generalize upd (upd H3 t2 (.tup [.str "one", .str "ann"])) t1 (.tup [.ref t2]) = H4
      intro s3 ro rb
      refine ⟨_, rfl, ⟨t1, t2, rfl, ro, rb⟩, fun p5 ys H5 s5 n5 y5 a5 => ?_⟩
      refine ⟨p1, p5, xs, ys, rfl, rfl, same_new n5 _ _ (s5 _ _ (s3 _ _ g2)), upd_same, by rw [x2, y5]; decide, fun p6 n6 => ?_⟩
      have s6 : Same H5 (upd (upd H5 p5 (.lst ys)) p6 (.lst (xs ++ ys))) := (same_new n5).trans (same_new n6)
      have g6 : (upd (upd H5 p5 (.lst ys)) p6 (.lst (xs ++ ys))) p6 = some (.lst (xs ++ ys)) := upd_same
      have a6 : ∀ x ∈ xs ++ ys, B5 K (upd (upd H5 p5 (.lst ys)) p6 (.lst (xs ++ ys))) x := fun x hx => (List.mem_append.mp hx).elim (fun h => kp5.b _ _ _ (s3.trans (s5.trans s6)) (a2 x h)) (fun h => kp5.b _ _ _ s6 (a5 x h))
      revert g6 a6
      generalize upd (upd H5 p5 (.lst ys)) p6 (.lst (xs ++ ys)) = H6
      intro g6 a6
      have lz : (xs ++ ys).length = 16 := by rw [List.length_append, x2, y5]
      refine ⟨_, rfl, p6, rfl, ⟨_, sqL g6⟩, fun L nL => lc_list (K := K) (a := p6) (xs := xs ++ ys) (fun j H' => H' L = some (.lst ((List.replicate j true).map V.bl)) ∧ Same H6 H') ⟨upd_same, same_new nL⟩ (fun j H' _ h => sqL (h.2 _ _ g6)) ?_ ?_⟩
      · rintro j x H7 hx ⟨hL, s7⟩
        have jl := lt_get hx
        refine ⟨rfl, tyes (iteT ⟨_, rfl, x, rfl, kp5.b _ _ _ s7 (a6 x (List.mem_of_getElem? hx)), fun H8 s8 => ?_⟩)⟩
        refine ⟨_, s8 _ _ hL, by rw [List.length_map, List.length_replicate]; exact Nat.lt_of_lt_of_le (show j < 17 by omega) (by decide), ?_, ((Bt.of_same (S := []) (s7.trans s8)).upd0 nL).same⟩
        rw [upd_same, List.replicate_succ', List.map_append]
        rfl
      · rintro H7 ⟨hL, s7⟩
        refine ⟨L, _, rfl, sqL hL, ?_⟩
        rw [show (List.replicate (xs ++ ys).length true).all id = true by simp]
        exact q H7
end
end WdQ

set_option Elab.async false
set_option linter.all false
set_option maxRecDepth 100000
set_option maxHeartbeats 4000000
namespace WdQ
open PySem PySem.Spec PyProof.Rows L2 WdM Wd
theorem all_mk {l : PySem.W.OpenLaw} {w : World} {K : PySem.W.Frag} {h : Heap} {mg : Str → Option Value} {fa f1 f2 f3 f4 f5 f6 f7 f8 f9 f10 f11 f12 f13 f14 f15 f16 f17 f18 f19 f20 f21 f22 cW cN aW aP CH fiH dtH CY fiY dtY fdT dtT : Addr} (X : K.In h) (G : h.Ns mainGlobals mg) (hfa : mg "law" = some (.ref fa))
    {od1 an1 od2 an2 od3 an3 od4 an4 od5 an5 od6 an6 od7 an7 od8 an8 od9 an9 od10 an10 od11 an11 od12 an12 od13 an13 od14 an14 od15 an15 od16 an16 od17 an17 od18 an18 od19 an19 od20 an20 od21 an21 od22 an22 odW odP odH anH oddH odY anY oddY odT anT oddT : Option Addr} {sl1 sl2 sl3 sl4 sl5 sl6 sl7 sl8 sl9 sl10 sl11 sl12 sl13 sl14 sl15 sl16 sl17 sl18 sl19 sl20 sl21 sl22 slW slP slH sldH slY sldY slT sldT : Array (Option Value)} {oc1 kV1 dc1 pm1 cd1 ct1 oc2 kV2 dc2 pm2 cd2 ct2 oc3 kV3 dc3 pm3 cd3 ct3 oc4 kV4 dc4 pm4 cd4 ct4 oc5 kV5 dc5 pm5 cd5 ct5 oc6 kV6 dc6 pm6 cd6 ct6 oc7 kV7 dc7 pm7 cd7 ct7 oc8 kV8 dc8 pm8 cd8 ct8 oc9 kV9 dc9 pm9 cd9 ct9 oc10 kV10 dc10 pm10 cd10 ct10 oc11 kV11 dc11 pm11 cd11 ct11 oc12 kV12 dc12 pm12 cd12 ct12 oc13 kV13 dc13 pm13 cd13 ct13 oc14 kV14 dc14 pm14 cd14 ct14 oc15 kV15 dc15 pm15 cd15 ct15 oc16 kV16 dc16 pm16 cd16 ct16 oc17 kV17 dc17 pm17 cd17 ct17 oc18 kV18 dc18 pm18 cd18 ct18 oc19 kV19 dc19 pm19 cd19 ct19 oc20 kV20 dc20 pm20 cd20 ct20 oc21 kV21 dc21 pm21 cd21 ct21 oc22 kV22 dc22 pm22 cd22 ct22 ocH kVH dcH pmH cdH ctH ocdH ocY kVY dcY pmY cdY ctY ocdY ocT kVT dcT pmT cdT ctT ocdT : Value} {tL tN w0 w1 w2 w3 w4 w5 w6 w7 w8 w9 w10 w11 w12 Pw0 Pw1 Pw2 t_MOST_PARTS t_MOST_ALTERNATIVES t_MOST_SUM t_MOST_PEOPLE t_MOST_GOODS t_MOST_DEATHS tdH1 tdH2 tdT0 : Tok} {nW nP ndH ndY ndT : Nat}
    (a1 : PySem.W.nsIn K mainGlobals "is_name" = some (some (.ref f1)))
    (l1 : K.lookup f1 = some ⟨oc1, od1, .func (PySem.W.fnOf "is_name" "is_name" (defArgs sName) (defBody sName) (defScope sName) .none kV1 dc1 pm1 an1 cd1 ct1), sl1⟩)
    (d1 : PySem.W.codeIn K cd1 "is_name" = true)
    (k1 : PySem.W.keepIn K (.ref f1) = true)
    (a2 : PySem.W.nsIn K mainGlobals "is_word" = some (some (.ref f2)))
    (l2 : K.lookup f2 = some ⟨oc2, od2, .func (PySem.W.fnOf "is_word" "is_word" (defArgs sWord) (defBody sWord) (defScope sWord) .none kV2 dc2 pm2 an2 cd2 ct2), sl2⟩)
    (d2 : PySem.W.codeIn K cd2 "is_word" = true)
    (k2 : PySem.W.keepIn K (.ref f2) = true)
    (a3 : PySem.W.nsIn K mainGlobals "is_part" = some (some (.ref f3)))
    (l3 : K.lookup f3 = some ⟨oc3, od3, .func (PySem.W.fnOf "is_part" "is_part" (defArgs sPart) (defBody sPart) (defScope sPart) .none kV3 dc3 pm3 an3 cd3 ct3), sl3⟩)
    (d3 : PySem.W.codeIn K cd3 "is_part" = true)
    (k3 : PySem.W.keepIn K (.ref f3) = true)
    (a4 : PySem.W.nsIn K mainGlobals "is_alternative" = some (some (.ref f4)))
    (l4 : K.lookup f4 = some ⟨oc4, od4, .func (PySem.W.fnOf "is_alternative" "is_alternative" (defArgs sAlt) (defBody sAlt) (defScope sAlt) .none kV4 dc4 pm4 an4 cd4 ct4), sl4⟩)
    (d4 : PySem.W.codeIn K cd4 "is_alternative" = true)
    (k4 : PySem.W.keepIn K (.ref f4) = true)
    (a5 : PySem.W.nsIn K mainGlobals "is_whom" = some (some (.ref f5)))
    (l5 : K.lookup f5 = some ⟨oc5, od5, .func (PySem.W.fnOf "is_whom" "is_whom" (defArgs sWhom) (defBody sWhom) (defScope sWhom) .none kV5 dc5 pm5 an5 cd5 ct5), sl5⟩)
    (d5 : PySem.W.codeIn K cd5 "is_whom" = true)
    (k5 : PySem.W.keepIn K (.ref f5) = true)
    (a6 : PySem.W.nsIn K mainGlobals "is_whole" = some (some (.ref f6)))
    (l6 : K.lookup f6 = some ⟨oc6, od6, .func (PySem.W.fnOf "is_whole" "is_whole" (defArgs sWhole) (defBody sWhole) (defScope sWhole) .none kV6 dc6 pm6 an6 cd6 ct6), sl6⟩)
    (d6 : PySem.W.codeIn K cd6 "is_whole" = true)
    (k6 : PySem.W.keepIn K (.ref f6) = true)
    (a7 : PySem.W.nsIn K mainGlobals "is_sum" = some (some (.ref f7)))
    (l7 : K.lookup f7 = some ⟨oc7, od7, .func (PySem.W.fnOf "is_sum" "is_sum" (defArgs sSum) (defBody sSum) (defScope sSum) .none kV7 dc7 pm7 an7 cd7 ct7), sl7⟩)
    (d7 : PySem.W.codeIn K cd7 "is_sum" = true)
    (k7 : PySem.W.keepIn K (.ref f7) = true)
    (a8 : PySem.W.nsIn K mainGlobals "is_person" = some (some (.ref f8)))
    (l8 : K.lookup f8 = some ⟨oc8, od8, .func (PySem.W.fnOf "is_person" "is_person" (defArgs sPerson) (defBody sPerson) (defScope sPerson) .none kV8 dc8 pm8 an8 cd8 ct8), sl8⟩)
    (d8 : PySem.W.codeIn K cd8 "is_person" = true)
    (k8 : PySem.W.keepIn K (.ref f8) = true)
    (a9 : PySem.W.nsIn K mainGlobals "check_people" = some (some (.ref f9)))
    (l9 : K.lookup f9 = some ⟨oc9, od9, .func (PySem.W.fnOf "check_people" "check_people" (defArgs sChkP) (defBody sChkP) (defScope sChkP) .none kV9 dc9 pm9 an9 cd9 ct9), sl9⟩)
    (d9 : PySem.W.codeIn K cd9 "check_people" = true)
    (k9 : PySem.W.keepIn K (.ref f9) = true)
    (a10 : PySem.W.nsIn K mainGlobals "check_goods" = some (some (.ref f10)))
    (l10 : K.lookup f10 = some ⟨oc10, od10, .func (PySem.W.fnOf "check_goods" "check_goods" (defArgs sChkG) (defBody sChkG) (defScope sChkG) .none kV10 dc10 pm10 an10 cd10 ct10), sl10⟩)
    (d10 : PySem.W.codeIn K cd10 "check_goods" = true)
    (k10 : PySem.W.keepIn K (.ref f10) = true)
    (a11 : PySem.W.nsIn K mainGlobals "check_deaths" = some (some (.ref f11)))
    (l11 : K.lookup f11 = some ⟨oc11, od11, .func (PySem.W.fnOf "check_deaths" "check_deaths" (defArgs sChkD) (defBody sChkD) (defScope sChkD) .none kV11 dc11 pm11 an11 cd11 ct11), sl11⟩)
    (d11 : PySem.W.codeIn K cd11 "check_deaths" = true)
    (k11 : PySem.W.keepIn K (.ref f11) = true)
    (a12 : PySem.W.nsIn K mainGlobals "_law_pool" = some (some (.ref f12)))
    (l12 : K.lookup f12 = some ⟨oc12, od12, .func (PySem.W.fnOf "_law_pool" "_law_pool" (defArgs sPool) (defBody sPool) (defScope sPool) .none kV12 dc12 pm12 an12 cd12 ct12), sl12⟩)
    (d12 : PySem.W.codeIn K cd12 "_law_pool" = true)
    (k12 : PySem.W.keepIn K (.ref f12) = true)
    (a13 : PySem.W.nsIn K mainGlobals "_law_take" = some (some (.ref f13)))
    (l13 : K.lookup f13 = some ⟨oc13, od13, .func (PySem.W.fnOf "_law_take" "_law_take" (defArgs sTake) (defBody sTake) (defScope sTake) .none kV13 dc13 pm13 an13 cd13 ct13), sl13⟩)
    (d13 : PySem.W.codeIn K cd13 "_law_take" = true)
    (k13 : PySem.W.keepIn K (.ref f13) = true)
    (a14 : PySem.W.nsIn K mainGlobals "_law_name" = some (some (.ref f14)))
    (l14 : K.lookup f14 = some ⟨oc14, od14, .func (PySem.W.fnOf "_law_name" "_law_name" (defArgs sNm) (defBody sNm) (defScope sNm) .none kV14 dc14 pm14 an14 cd14 ct14), sl14⟩)
    (d14 : PySem.W.codeIn K cd14 "_law_name" = true)
    (k14 : PySem.W.keepIn K (.ref f14) = true)
    (a15 : PySem.W.nsIn K mainGlobals "_law_whom" = some (some (.ref f15)))
    (l15 : K.lookup f15 = some ⟨oc15, od15, .func (PySem.W.fnOf "_law_whom" "_law_whom" (defArgs sMk) (defBody sMk) (defScope sMk) .none kV15 dc15 pm15 an15 cd15 ct15), sl15⟩)
    (d15 : PySem.W.codeIn K cd15 "_law_whom" = true)
    (k15 : PySem.W.keepIn K (.ref f15) = true)
    (a16 : PySem.W.nsIn K mainGlobals "_law_is_name" = some (some (.ref f16)))
    (l16 : K.lookup f16 = some ⟨oc16, od16, .func (PySem.W.fnOf "_law_is_name" "_law_is_name" (defArgs sLN) (defBody sLN) (defScope sLN) .none kV16 dc16 pm16 an16 cd16 ct16), sl16⟩)
    (d16 : PySem.W.codeIn K cd16 "_law_is_name" = true)
    (k16 : PySem.W.keepIn K (.ref f16) = true)
    (a17 : PySem.W.nsIn K mainGlobals "_law_due" = some (some (.ref f17)))
    (l17 : K.lookup f17 = some ⟨oc17, od17, .func (PySem.W.fnOf "_law_due" "_law_due" (defArgs sDue) (defBody sDue) (defScope sDue) .none kV17 dc17 pm17 an17 cd17 ct17), sl17⟩)
    (d17 : PySem.W.codeIn K cd17 "_law_due" = true)
    (k17 : PySem.W.keepIn K (.ref f17) = true)
    (a18 : PySem.W.nsIn K mainGlobals "_law_odd" = some (some (.ref f18)))
    (l18 : K.lookup f18 = some ⟨oc18, od18, .func (PySem.W.fnOf "_law_odd" "_law_odd" (defArgs sOdd) (defBody sOdd) (defScope sOdd) .none kV18 dc18 pm18 an18 cd18 ct18), sl18⟩)
    (d18 : PySem.W.codeIn K cd18 "_law_odd" = true)
    (k18 : PySem.W.keepIn K (.ref f18) = true)
    (a19 : PySem.W.nsIn K mainGlobals "_law_bent" = some (some (.ref f19)))
    (l19 : K.lookup f19 = some ⟨oc19, od19, .func (PySem.W.fnOf "_law_bent" "_law_bent" (defArgs sBent) (defBody sBent) (defScope sBent) .none kV19 dc19 pm19 an19 cd19 ct19), sl19⟩)
    (d19 : PySem.W.codeIn K cd19 "_law_bent" = true)
    (k19 : PySem.W.keepIn K (.ref f19) = true)
    (a20 : PySem.W.nsIn K mainGlobals "_law_refused" = some (some (.ref f20)))
    (l20 : K.lookup f20 = some ⟨oc20, od20, .func (PySem.W.fnOf "_law_refused" "_law_refused" (defArgs sRef) (defBody sRef) (defScope sRef) .none kV20 dc20 pm20 an20 cd20 ct20), sl20⟩)
    (d20 : PySem.W.codeIn K cd20 "_law_refused" = true)
    (k20 : PySem.W.keepIn K (.ref f20) = true)
    (a21 : PySem.W.nsIn K mainGlobals "_law_right" = some (some (.ref f21)))
    (l21 : K.lookup f21 = some ⟨oc21, od21, .func (PySem.W.fnOf "_law_right" "_law_right" (defArgs sRt) (defBody sRt) (defScope sRt) .none kV21 dc21 pm21 an21 cd21 ct21), sl21⟩)
    (d21 : PySem.W.codeIn K cd21 "_law_right" = true)
    (k21 : PySem.W.keepIn K (.ref f21) = true)
    (a22 : PySem.W.nsIn K mainGlobals "law" = some (some (.ref f22)))
    (l22 : K.lookup f22 = some ⟨oc22, od22, .func (PySem.W.fnOf "law" "law" (defArgs sLaw) (defBody sLaw) (defScope sLaw) .none kV22 dc22 pm22 an22 cd22 ct22), sl22⟩)
    (d22 : PySem.W.codeIn K cd22 "law" = true)
    (k22 : PySem.W.keepIn K (.ref f22) = true)
    (z_isinstance : PySem.W.nsIn K mainGlobals "isinstance" = some none)
    (z_int : PySem.W.nsIn K mainGlobals "int" = some none)
    (z_bool : PySem.W.nsIn K mainGlobals "bool" = some none)
    (z_str : PySem.W.nsIn K mainGlobals "str" = some none)
    (z_tuple : PySem.W.nsIn K mainGlobals "tuple" = some none)
    (z_list : PySem.W.nsIn K mainGlobals "list" = some none)
    (z_len : PySem.W.nsIn K mainGlobals "len" = some none)
    (z_abs : PySem.W.nsIn K mainGlobals "abs" = some none)
    (z_all : PySem.W.nsIn K mainGlobals "all" = some none)
    (z_any : PySem.W.nsIn K mainGlobals "any" = some none)
    (z_sum : PySem.W.nsIn K mainGlobals "sum" = some none)
    (z_enumerate : PySem.W.nsIn K mainGlobals "enumerate" = some none)
    (z_divmod : PySem.W.nsIn K mainGlobals "divmod" = some none)
    (z_range : PySem.W.nsIn K mainGlobals "range" = some none)
    (z_max : PySem.W.nsIn K mainGlobals "max" = some none)
    (z_min : PySem.W.nsIn K mainGlobals "min" = some none)
    (z_zip : PySem.W.nsIn K mainGlobals "zip" = some none)
    (z_repr : PySem.W.nsIn K mainGlobals "repr" = some none)
    (e6 : PySem.W.specialIn K (.builtin "object.__class__") "__get__" = some (some (.builtin "getset_descriptor.__get__")))
    (e7 : PySem.W.takesIn K (.builtin "object.__class__") = some true)
    (gcW : PySem.W.nsIn K mainGlobals "WordError" = some (some (.ref cW)))
    (gcN : PySem.W.nsIn K mainGlobals "NoWhom" = some (some (.ref cN)))
    (ncN_x : PySem.W.excIn K cN [.type "ValueError", .type "Exception", .type "BaseException", .type "object"] "ValueError.__new__" = true)
    (ncN_k : PySem.W.keepIn K (.ref cN) = true)
    (ncN_b : PySem.W.subIn K (.ref cN) (.type "BaseException") = some true)
    (ncN_t : PySem.W.typeIn K (.ref cN) = some (.type "type"))
    (ncN_m : PySem.W.exmOne K (.ref cN) (.ref cW) = some true)
    (ncN_1 : PySem.W.findIn K (.ref cN) "__getattribute__" = some (some (.builtin "BaseException.__getattribute__")))
    (ncN_2 : PySem.W.findIn K (.ref cN) "__getattr__" = some none)
    (ncN_4 : PySem.W.hasDictIn K cN = true)
    (ncN_5 : PySem.W.findIn K (.ref cN) "__class__" = some (some (.builtin "object.__class__")))
    (ncN_8 : PySem.W.mroIn K cN (.type "object") = some true)
    (ncN_i : PySem.W.kitOne K (.ref cN) (.ref cN) = some true)
    (gL : PySem.W.nsIn K mainGlobals "LETTERS" = some (some (.str "abcdefghijklmnopqrstuvwxyz" tL)))
    (gN : PySem.W.nsIn K mainGlobals "LONGEST" = some (some (.int 8 tN)))
    (gW : PySem.W.nsIn K mainGlobals "WORDS" = some (some (.ref aW)))
    (lW : K.lookup aW = some ⟨.type "tuple", odW, .seq #[.str "all" w0, .str "and" w1, .str "children" w2, .str "childless" w3, .str "crown" w4, .str "else" w5, .str "if" w6, .str "lives" w7, .str "not" w8, .str "of" w9, .str "or" w10, .str "stock" w11, .str "to" w12] nW, slW⟩)
    (gP : PySem.W.nsIn K mainGlobals "PART_WORDS" = some (some (.ref aP)))
    (lP : K.lookup aP = some ⟨.type "tuple", odP, .seq #[.str "one" Pw0, .str "children" Pw1, .str "stock" Pw2] nP, slP⟩)
    (g_MOST_PARTS : PySem.W.nsIn K mainGlobals "MOST_PARTS" = some (some (.int 6 t_MOST_PARTS)))
    (g_MOST_ALTERNATIVES : PySem.W.nsIn K mainGlobals "MOST_ALTERNATIVES" = some (some (.int 4 t_MOST_ALTERNATIVES)))
    (g_MOST_SUM : PySem.W.nsIn K mainGlobals "MOST_SUM" = some (some (.int 1000000000 t_MOST_SUM)))
    (g_MOST_PEOPLE : PySem.W.nsIn K mainGlobals "MOST_PEOPLE" = some (some (.int 8 t_MOST_PEOPLE)))
    (g_MOST_GOODS : PySem.W.nsIn K mainGlobals "MOST_GOODS" = some (some (.int 8 t_MOST_GOODS)))
    (g_MOST_DEATHS : PySem.W.nsIn K mainGlobals "MOST_DEATHS" = some (some (.int 8 t_MOST_DEATHS)))
    (gH : PySem.W.nsIn K mainGlobals "House" = some (some (.ref CH)))
    (mkH : PySem.W.makesIn K CH = true)
    (fi_H : PySem.W.findIn K (.ref CH) "__init__" = some (some (.ref fiH)))
    (fnH : PySem.W.isFn K (.ref fiH) = true)
    (kcH : PySem.W.keepIn K (.ref CH) = true)
    (lH : K.lookup fiH = some ⟨ocH, odH, .func (PySem.W.fnOf "__init__" "House.__init__" (defArgs sHI) (defBody sHI) (defScope sHI) (.ref dtH) kVH dcH pmH anH cdH ctH), slH⟩)
    (dH : PySem.W.codeIn K cdH "House.__init__" = true)
    (kiH : PySem.W.keepIn K (.ref fiH) = true)
    (dlH : K.lookup dtH = some ⟨ocdH, oddH, .seq #[.none, .int 0 tdH1, .int 0 tdH2] ndH, sldH⟩)
    (gY : PySem.W.nsIn K mainGlobals "Story" = some (some (.ref CY)))
    (mkY : PySem.W.makesIn K CY = true)
    (fi_Y : PySem.W.findIn K (.ref CY) "__init__" = some (some (.ref fiY)))
    (fnY : PySem.W.isFn K (.ref fiY) = true)
    (kcY : PySem.W.keepIn K (.ref CY) = true)
    (lY : K.lookup fiY = some ⟨ocY, odY, .func (PySem.W.fnOf "__init__" "Story.__init__" (defArgs sSI) (defBody sSI) (defScope sSI) (.ref dtY) kVY dcY pmY anY cdY ctY), slY⟩)
    (dY : PySem.W.codeIn K cdY "Story.__init__" = true)
    (kiY : PySem.W.keepIn K (.ref fiY) = true)
    (dlY : K.lookup dtY = some ⟨ocdY, oddY, .seq #[.none] ndY, sldY⟩)
    (pgH : PySem.W.plainGet K CH Str.empty = true)
    (hdH : PySem.W.hasDictIn K CH = true)
    (poH : PySem.W.plainOver K CH = true)
    (saH : PySem.W.findIn K (.ref CH) "__setattr__" = some (some (.builtin "object.__setattr__")))
    (naH_folk : PySem.W.findIn K (.ref CH) "folk" = some none)
    (naH_things : PySem.W.findIn K (.ref CH) "things" = some none)
    (naH_purse : PySem.W.findIn K (.ref CH) "purse" = some none)
    (naH_debts : PySem.W.findIn K (.ref CH) "debts" = some none)
    (pgY : PySem.W.plainGet K CY Str.empty = true)
    (hdY : PySem.W.hasDictIn K CY = true)
    (poY : PySem.W.plainOver K CY = true)
    (saY : PySem.W.findIn K (.ref CY) "__setattr__" = some (some (.builtin "object.__setattr__")))
    (naY_deaths : PySem.W.findIn K (.ref CY) "deaths" = some none)
    (gDT : PySem.W.nsIn K mainGlobals "takers" = some (some (.ref fdT)))
    (lT : K.lookup fdT = some ⟨ocT, odT, .func (PySem.W.fnOf "takers" "takers" (defArgs sTk) (defBody sTk) (defScope sTk) (.ref dtT) kVT dcT pmT anT cdT ctT), slT⟩)
    (dT : PySem.W.codeIn K cdT "takers" = true)
    (kDT : PySem.W.keepIn K (.ref fdT) = true)
    (dlT : K.lookup dtT = some ⟨ocdT, oddT, .seq #[.int 0 tdT0] ndT, sldT⟩)
    : ∃ fd : FuncData, (∀ (s : Shared) (v : Value), BindsTo s fd ⟨[v], []⟩ [("_law_script", v)]) ∧ ∀ base : Heap, K.In base → base.Ns mainGlobals mg → Wd.FnG l.prog w K mg base 8 fa fd ["_law_script"] (spLaw K) := by
  have e := hfa.symm.trans (PySem.W.mg_of X G a22)
  cases e
  have F1 := fun_mk (st := sName) l1 d1 k1
  have D1 : Df K mg "is_name" sName f1 _ ["thing"] := ⟨F1, PySem.W.mg_of X G a1, F1.binds (ps := ["thing"]) fun _ _ _ _ _ _ us hl => match us, hl with | [_], _ => rfl⟩
  have F2 := fun_mk (st := sWord) l2 d2 k2
  have D2 : Df K mg "is_word" sWord f2 _ ["thing", "words"] := ⟨F2, PySem.W.mg_of X G a2, F2.binds (ps := ["thing", "words"]) fun _ _ _ _ _ _ us hl => match us, hl with | [_, _], _ => rfl⟩
  have F3 := fun_mk (st := sPart) l3 d3 k3
  have D3 : Df K mg "is_part" sPart f3 _ ["thing"] := ⟨F3, PySem.W.mg_of X G a3, F3.binds (ps := ["thing"]) fun _ _ _ _ _ _ us hl => match us, hl with | [_], _ => rfl⟩
  have F4 := fun_mk (st := sAlt) l4 d4 k4
  have D4 : Df K mg "is_alternative" sAlt f4 _ ["thing"] := ⟨F4, PySem.W.mg_of X G a4, F4.binds (ps := ["thing"]) fun _ _ _ _ _ _ us hl => match us, hl with | [_], _ => rfl⟩
  have F5 := fun_mk (st := sWhom) l5 d5 k5
  have D5 : Df K mg "is_whom" sWhom f5 _ ["thing"] := ⟨F5, PySem.W.mg_of X G a5, F5.binds (ps := ["thing"]) fun _ _ _ _ _ _ us hl => match us, hl with | [_], _ => rfl⟩
  have F6 := fun_mk (st := sWhole) l6 d6 k6
  have D6 : Df K mg "is_whole" sWhole f6 _ ["thing"] := ⟨F6, PySem.W.mg_of X G a6, F6.binds (ps := ["thing"]) fun _ _ _ _ _ _ us hl => match us, hl with | [_], _ => rfl⟩
  have F7 := fun_mk (st := sSum) l7 d7 k7
  have D7 : Df K mg "is_sum" sSum f7 _ ["thing"] := ⟨F7, PySem.W.mg_of X G a7, F7.binds (ps := ["thing"]) fun _ _ _ _ _ _ us hl => match us, hl with | [_], _ => rfl⟩
  have F8 := fun_mk (st := sPerson) l8 d8 k8
  have D8 : Df K mg "is_person" sPerson f8 _ ["thing", "ahead"] := ⟨F8, PySem.W.mg_of X G a8, F8.binds (ps := ["thing", "ahead"]) fun _ _ _ _ _ _ us hl => match us, hl with | [_, _], _ => rfl⟩
  have F9 := fun_mk (st := sChkP) l9 d9 k9
  have D9 : Df K mg "check_people" sChkP f9 _ ["people"] := ⟨F9, PySem.W.mg_of X G a9, F9.binds (ps := ["people"]) fun _ _ _ _ _ _ us hl => match us, hl with | [_], _ => rfl⟩
  have F10 := fun_mk (st := sChkG) l10 d10 k10
  have D10 : Df K mg "check_goods" sChkG f10 _ ["goods"] := ⟨F10, PySem.W.mg_of X G a10, F10.binds (ps := ["goods"]) fun _ _ _ _ _ _ us hl => match us, hl with | [_], _ => rfl⟩
  have F11 := fun_mk (st := sChkD) l11 d11 k11
  have D11 : Df K mg "check_deaths" sChkD f11 _ ["deaths"] := ⟨F11, PySem.W.mg_of X G a11, F11.binds (ps := ["deaths"]) fun _ _ _ _ _ _ us hl => match us, hl with | [_], _ => rfl⟩
  have F12 := fun_mk (st := sPool) l12 d12 k12
  have D12 : Df K mg "_law_pool" sPool f12 _ ["_law_script", "_law_k"] := ⟨F12, PySem.W.mg_of X G a12, F12.binds (ps := ["_law_script", "_law_k"]) fun _ _ _ _ _ _ us hl => match us, hl with | [_, _], _ => rfl⟩
  have F13 := fun_mk (st := sTake) l13 d13 k13
  have D13 : Df K mg "_law_take" sTake f13 _ ["_law_pool_here", "_law_many"] := ⟨F13, PySem.W.mg_of X G a13, F13.binds (ps := ["_law_pool_here", "_law_many"]) fun _ _ _ _ _ _ us hl => match us, hl with | [_, _], _ => rfl⟩
  have F14 := fun_mk (st := sNm) l14 d14 k14
  have D14 : Df K mg "_law_name" sNm f14 _ ["_law_pool_here"] := ⟨F14, PySem.W.mg_of X G a14, F14.binds (ps := ["_law_pool_here"]) fun _ _ _ _ _ _ us hl => match us, hl with | [_], _ => rfl⟩
  have F15 := fun_mk (st := sMk) l15 d15 k15
  have D15 : Df K mg "_law_whom" sMk f15 _ ["_law_pool_here"] := ⟨F15, PySem.W.mg_of X G a15, F15.binds (ps := ["_law_pool_here"]) fun _ _ _ _ _ _ us hl => match us, hl with | [_], _ => rfl⟩
  have F16 := fun_mk (st := sLN) l16 d16 k16
  have D16 : Df K mg "_law_is_name" sLN f16 _ ["_law_thing"] := ⟨F16, PySem.W.mg_of X G a16, F16.binds (ps := ["_law_thing"]) fun _ _ _ _ _ _ us hl => match us, hl with | [_], _ => rfl⟩
  have F17 := fun_mk (st := sDue) l17 d17 k17
  have D17 : Df K mg "_law_due" sDue f17 _ ["_law_thing"] := ⟨F17, PySem.W.mg_of X G a17, F17.binds (ps := ["_law_thing"]) fun _ _ _ _ _ _ us hl => match us, hl with | [_], _ => rfl⟩
  have F18 := fun_mk (st := sOdd) l18 d18 k18
  have D18 : Df K mg "_law_odd" sOdd f18 _ ["_law_pool_here", "_law_thing"] := ⟨F18, PySem.W.mg_of X G a18, F18.binds (ps := ["_law_pool_here", "_law_thing"]) fun _ _ _ _ _ _ us hl => match us, hl with | [_, _], _ => rfl⟩
  have F19 := fun_mk (st := sBent) l19 d19 k19
  have D19 : Df K mg "_law_bent" sBent f19 _ ["_law_pool_here", "_law_thing", "_law_deep"] := ⟨F19, PySem.W.mg_of X G a19, F19.binds (ps := ["_law_pool_here", "_law_thing", "_law_deep"]) fun _ _ _ _ _ _ us hl => match us, hl with | [_, _, _], _ => rfl⟩
  have F20 := fun_mk (st := sRef) l20 d20 k20
  have D20 : Df K mg "_law_refused" sRef f20 _ ["_law_thing"] := ⟨F20, PySem.W.mg_of X G a20, F20.binds (ps := ["_law_thing"]) fun _ _ _ _ _ _ us hl => match us, hl with | [_], _ => rfl⟩
  have F21 := fun_mk (st := sRt) l21 d21 k21
  have D21 : Df K mg "_law_right" sRt f21 _ ["_law_thing"] := ⟨F21, PySem.W.mg_of X G a21, F21.binds (ps := ["_law_thing"]) fun _ _ _ _ _ _ us hl => match us, hl with | [_], _ => rfl⟩
  have F22 := fun_mk (st := sLaw) l22 d22 k22
  have D22 : Df K mg "law" sLaw fa _ ["_law_script"] := ⟨F22, PySem.W.mg_of X G a22, F22.binds (ps := ["_law_script"]) fun _ _ _ _ _ _ us hl => match us, hl with | [_], _ => rfl⟩
  have B : Bi mg := ⟨PySem.W.mg_none_of X G z_isinstance, PySem.W.mg_none_of X G z_int, PySem.W.mg_none_of X G z_bool, PySem.W.mg_none_of X G z_str, PySem.W.mg_none_of X G z_tuple, PySem.W.mg_none_of X G z_list, PySem.W.mg_none_of X G z_len, PySem.W.mg_none_of X G z_abs, PySem.W.mg_none_of X G z_all, PySem.W.mg_none_of X G z_any, PySem.W.mg_none_of X G z_sum, PySem.W.mg_none_of X G z_enumerate, PySem.W.mg_none_of X G z_divmod, PySem.W.mg_none_of X G z_range, PySem.W.mg_none_of X G z_max, PySem.W.mg_none_of X G z_min, PySem.W.mg_none_of X G z_zip, PySem.W.mg_none_of X G z_repr⟩
  have ENcN : ErN K mg "NoWhom" cN cW := ⟨ncN_x, PySem.W.mg_of X G gcN, ncN_k, ncN_b, ncN_t, ncN_m, ⟨ncN_1, ncN_2, ncN_b, ncN_4, ncN_5, e6, e7, ncN_8⟩, ncN_i⟩
  have TN : NmF K mg aW := ⟨⟨_, PySem.W.mg_of X G gL⟩, ⟨_, PySem.W.mg_of X G gN⟩, PySem.W.mg_of X G gW, fun H => .inr ⟨_, _, _, lW, rfl, rfl, Nat.le_of_ble_eq_true rfl, .cons ⟨_, rfl⟩ (.cons ⟨_, rfl⟩ (.cons ⟨_, rfl⟩ (.cons ⟨_, rfl⟩ (.cons ⟨_, rfl⟩ (.cons ⟨_, rfl⟩ (.cons ⟨_, rfl⟩ (.cons ⟨_, rfl⟩ (.cons ⟨_, rfl⟩ (.cons ⟨_, rfl⟩ (.cons ⟨_, rfl⟩ (.cons ⟨_, rfl⟩ (.cons ⟨_, rfl⟩ (.nil)))))))))))))⟩⟩
  have TW : WhF K mg aP := ⟨PySem.W.mg_of X G gP, fun H => .inr ⟨_, _, _, lP, rfl, rfl, Nat.le_of_ble_eq_true rfl, .cons ⟨_, rfl⟩ (.cons ⟨_, rfl⟩ (.cons ⟨_, rfl⟩ (.nil)))⟩, ⟨_, PySem.W.mg_of X G g_MOST_PARTS⟩, ⟨_, PySem.W.mg_of X G g_MOST_ALTERNATIVES⟩⟩
  have FDH : FunD K "__init__" "House.__init__" (defArgs sHI) (defBody sHI) (defScope sHI) [.non, .int 0, .int 0] [] fiH _ := ⟨⟨_, _, _, _, _, _, _, _, _, _, rfl, lH, dH, .inr ⟨by simp, _, _, [.none, .int 0 tdH1, .int 0 tdH2], _, rfl, dlH, rfl, .cons rfl (.cons ⟨_, rfl⟩ (.cons ⟨_, rfl⟩ (.nil)))⟩, .inl rfl⟩, kiH⟩
  obtain ⟨dsH, vH, bH⟩ := FDH.binds1 (ps := ["self", "people", "goods", "purse", "debts"]) 2 0 (by simp) rfl fun _ _ _ _ _ _ _ us its hu hi => match us, hu, its, hi with | [_, _], _, [_, _, _], _ => ⟨_, rfl, rfl⟩
  have MH : Mk K CH fiH := ⟨mkH, fi_H, fnH, kcH⟩
  have FDY : FunD K "__init__" "Story.__init__" (defArgs sSI) (defBody sSI) (defScope sSI) [.non] [] fiY _ := ⟨⟨_, _, _, _, _, _, _, _, _, _, rfl, lY, dY, .inr ⟨by simp, _, _, [.none], _, rfl, dlY, rfl, .cons rfl (.nil)⟩, .inl rfl⟩, kiY⟩
  obtain ⟨dsY, vY, bY⟩ := FDY.binds1 (ps := ["self", "deaths"]) 2 1 (by simp) rfl fun _ _ _ _ _ _ _ us its hu hi => match us, hu, its, hi with | [_, _], _, [_], _ => ⟨_, rfl, rfl⟩
  have MY : Mk K CY fiY := ⟨mkY, fi_Y, fnY, kcY⟩
  have TH : HsF K CH := ⟨⟨pgH, hdH, poH, saH⟩, naH_folk, naH_things, naH_purse, naH_debts⟩
  have TY : SyF K CY := ⟨⟨pgY, hdY, poY, saY⟩, naY_deaths⟩
  have FDT : FunD K "takers" "takers" (defArgs sTk) (defBody sTk) (defScope sTk) [.int 0] [] fdT _ := ⟨⟨_, _, _, _, _, _, _, _, _, _, rfl, lT, dT, .inr ⟨by simp, _, _, [.int 0 tdT0], _, rfl, dlT, rfl, .cons ⟨_, rfl⟩ (.nil)⟩, .inl rfl⟩, kDT⟩
  obtain ⟨dsT, vT, bT⟩ := FDT.binds1 (ps := ["house", "whom", "story", "wait"]) 3 0 (by simp) rfl fun _ _ _ _ _ _ _ us its hu hi => match us, hu, its, hi with | [_, _, _], _, [_], _ => ⟨_, rfl, rfl⟩
  refine ⟨PySem.W.fnOf "law" "law" (defArgs sLaw) (defBody sLaw) (defScope sLaw) .none kV22 dc22 pm22 an22 cd22 ct22, fun s v => .of_eq rfl, fun base _ _ => ?_⟩
  have GN : FnOk l.prog w K mg base CX0 1 _ _ ["thing"] (spName K) := ok_name (k := 0) B TN D1
  have GPt : FnOk l.prog w K mg base CX0 2 _ _ ["thing"] (spData K partB) := ok_part (k := 0) B TW D3 D2 D1 GN
  have GAl : FnOk l.prog w K mg base CX0 3 _ _ ["thing"] (spData K altB) := ok_alt (k := 0) B TW D4 D3 GPt
  have GWh : FnOk l.prog w K mg base CX0 4 _ _ ["thing"] (spData K whomB) := ok_whom (k := 0) B TW D5 D4 GAl
  have GPe : FnOk l.prog w K mg base CX0 2 _ _ ["thing", "ahead"] (spPerson1 K) := ok_person1 (k := 0) B GN D8 D1
  have GCP : FnOk l.prog w K mg base (L2.CX l.prog w) 3 _ _ ["people"] (spChk1 K) := ok_chkP1 B (PySem.W.mg_of X G g_MOST_PEOPLE) GPe D9 D8
  have GCG : FnOk l.prog w K mg base (L2.CX l.prog w) 1 _ _ ["goods"] (spChk0 K) := ok_chkG0 (k := 0) B (PySem.W.mg_of X G g_MOST_GOODS) D10
  have GCD : FnOk l.prog w K mg base (L2.CX l.prog w) 1 _ _ ["deaths"] (spChk0 K) := ok_chkD0 (k := 0) B (PySem.W.mg_of X G g_MOST_DEATHS) D11
  have GZ : FnOk l.prog w K mg base CX0 2 _ _ ["thing"] spZero := ok_zero (k := 0) B (PySem.W.mg_of X G g_MOST_SUM) D7 D6
  have GH : FnOk l.prog w K mg base (L2.CX l.prog w) 4 _ _ ["self", "people", "goods", "purse", "debts"] (spHI1 K CH) := ok_HI1 B TH FDH GCP D9 GCG D10 GZ D7
  have GY : FnOk l.prog w K mg base (L2.CX l.prog w) 4 _ _ ["self", "deaths"] (spSI0 K CY) := ok_SI0 TY FDY GCD D11
  have GTk : FnOk l.prog w K mg base (L2.CX l.prog w) 5 _ _ ["house", "whom", "story", "wait"] (spTk0 K cN) := ok_tk0 ENcN FDT GWh D5
  have GRf : FnOk l.prog w K mg base CX0 6 _ _ ["_law_thing"] (spRef K) := ok_ref B ENcN (PySem.W.mg_of X G gcW) D20 (PySem.W.mg_of X G gDT) kDT GTk bT vT MH (PySem.W.mg_of X G gH) GH bH vH MY (PySem.W.mg_of X G gY) GY bY vY
  have GDu : FnOk l.prog w K mg base CX0 2 _ _ ["_law_thing"] (spData K whomB) := ok_due (k := 0) B D17 D16
  have GRt : FnG l.prog w K mg base 7 _ _ ["_law_thing"] (spRt K) := ok_rt B D21 D5 D17 D20 GWh GDu GRf
  have GM : FnOk l.prog w K mg base CX0 3 _ _ ["_law_pool_here"] (spMk K) := ok_mk (k := 0) B D15 D13 D14
  have GB : FnOk l.prog w K mg base CX0 7 _ _ ["_law_pool_here", "_law_thing", "_law_deep"] (spBent K 4) := ok_bent (k := 0) B D19 D18 D13 4
  exact ok_law B D22 D12 D13 D15 D19 D21 GM GB GRt
end WdQ

set_option Elab.async false
open PySem PySem.W PyProof.Rows
set_option maxRecDepth 100000 in
set_option maxHeartbeats 0 in
theorem PySem.Challenge.cw_willdealt_k16_what_a_whom_is_holds : PySem.Challenge.rw_willdealt_k16_what_a_whom_is.Holds := by
  w_on; o_law; k_head; (case hw => w_witness2)
  k_fill
  refine Wd.walk_G (l := PySem.Challenge.rw_willdealt_k16_what_a_whom_is) (n := 63) (k := 8) (x := "_law_script") (sp := fun w => WdQ.spLaw _) rfl (by decide) rfl ⟨rfl, by decide, by decide⟩ (fun w h Y => PySem.W.km_in_of Y) ?F (fun _ _ a ns hl hS => ⟨a, ns, rfl, hS, hl, fun _ => rfl⟩)
  case F =>
    intro w mg fa h KX G hmg
    refine' WdQ.all_mk KX G hmg ?Wd_a1 ?Wd_l1 ?Wd_d1 ?Wd_k1 ?Wd_a2 ?Wd_l2 ?Wd_d2 ?Wd_k2 ?Wd_a3 ?Wd_l3 ?Wd_d3 ?Wd_k3 ?Wd_a4 ?Wd_l4 ?Wd_d4 ?Wd_k4 ?Wd_a5 ?Wd_l5 ?Wd_d5 ?Wd_k5 ?Wd_a6 ?Wd_l6 ?Wd_d6 ?Wd_k6 ?Wd_a7 ?Wd_l7 ?Wd_d7 ?Wd_k7 ?Wd_a8 ?Wd_l8 ?Wd_d8 ?Wd_k8 ?Wd_a9 ?Wd_l9 ?Wd_d9 ?Wd_k9 ?Wd_a10 ?Wd_l10 ?Wd_d10 ?Wd_k10 ?Wd_a11 ?Wd_l11 ?Wd_d11 ?Wd_k11 ?Wd_a12 ?Wd_l12 ?Wd_d12 ?Wd_k12 ?Wd_a13 ?Wd_l13 ?Wd_d13 ?Wd_k13 ?Wd_a14 ?Wd_l14 ?Wd_d14 ?Wd_k14 ?Wd_a15 ?Wd_l15 ?Wd_d15 ?Wd_k15 ?Wd_a16 ?Wd_l16 ?Wd_d16 ?Wd_k16 ?Wd_a17 ?Wd_l17 ?Wd_d17 ?Wd_k17 ?Wd_a18 ?Wd_l18 ?Wd_d18 ?Wd_k18 ?Wd_a19 ?Wd_l19 ?Wd_d19 ?Wd_k19 ?Wd_a20 ?Wd_l20 ?Wd_d20 ?Wd_k20 ?Wd_a21 ?Wd_l21 ?Wd_d21 ?Wd_k21 ?Wd_a22 ?Wd_l22 ?Wd_d22 ?Wd_k22 ?Wd_z_isinstance ?Wd_z_int ?Wd_z_bool ?Wd_z_str ?Wd_z_tuple ?Wd_z_list ?Wd_z_len ?Wd_z_abs ?Wd_z_all ?Wd_z_any ?Wd_z_sum ?Wd_z_enumerate ?Wd_z_divmod ?Wd_z_range ?Wd_z_max ?Wd_z_min ?Wd_z_zip ?Wd_z_repr ?Wd_e6 ?Wd_e7 ?Wd_gcW ?Wd_gcN ?Wd_ncN_x ?Wd_ncN_k ?Wd_ncN_b ?Wd_ncN_t ?Wd_ncN_m ?Wd_ncN_1 ?Wd_ncN_2 ?Wd_ncN_4 ?Wd_ncN_5 ?Wd_ncN_8 ?Wd_ncN_i ?Wd_gL ?Wd_gN ?Wd_gW ?Wd_lW ?Wd_gP ?Wd_lP ?Wd_g_MOST_PARTS ?Wd_g_MOST_ALTERNATIVES ?Wd_g_MOST_SUM ?Wd_g_MOST_PEOPLE ?Wd_g_MOST_GOODS ?Wd_g_MOST_DEATHS ?Wd_gH ?Wd_mkH ?Wd_fi_H ?Wd_fnH ?Wd_kcH ?Wd_lH ?Wd_dH ?Wd_kiH ?Wd_dlH ?Wd_gY ?Wd_mkY ?Wd_fi_Y ?Wd_fnY ?Wd_kcY ?Wd_lY ?Wd_dY ?Wd_kiY ?Wd_dlY ?Wd_pgH ?Wd_hdH ?Wd_poH ?Wd_saH ?Wd_naH_folk ?Wd_naH_things ?Wd_naH_purse ?Wd_naH_debts ?Wd_pgY ?Wd_hdY ?Wd_poY ?Wd_saY ?Wd_naY_deaths ?Wd_gDT ?Wd_lT ?Wd_dT ?Wd_kDT ?Wd_dlT
    (case Wd_a1 => k_is); (case Wd_l1 => k_is); (case Wd_d1 => k_is); (case Wd_k1 => k_is); (case Wd_a2 => k_is); (case Wd_l2 => k_is)
    (case Wd_d2 => k_is); (case Wd_k2 => k_is); (case Wd_a3 => k_is); (case Wd_l3 => k_is); (case Wd_d3 => k_is); (case Wd_k3 => k_is)
    (case Wd_a4 => k_is); (case Wd_l4 => k_is); (case Wd_d4 => k_is); (case Wd_k4 => k_is); (case Wd_a5 => k_is); (case Wd_l5 => k_is)
    (case Wd_d5 => k_is); (case Wd_k5 => k_is); (case Wd_a6 => k_is); (case Wd_l6 => k_is); (case Wd_d6 => k_is); (case Wd_k6 => k_is)
    (case Wd_a7 => k_is); (case Wd_l7 => k_is); (case Wd_d7 => k_is); (case Wd_k7 => k_is); (case Wd_a8 => k_is); (case Wd_l8 => k_is)
    (case Wd_d8 => k_is); (case Wd_k8 => k_is); (case Wd_a9 => k_is); (case Wd_l9 => k_is); (case Wd_d9 => k_is); (case Wd_k9 => k_is)
    (case Wd_a10 => k_is); (case Wd_l10 => k_is); (case Wd_d10 => k_is); (case Wd_k10 => k_is); (case Wd_a11 => k_is); (case Wd_l11 => k_is)
    (case Wd_d11 => k_is); (case Wd_k11 => k_is); (case Wd_a12 => k_is); (case Wd_l12 => k_is); (case Wd_d12 => k_is); (case Wd_k12 => k_is)
    (case Wd_a13 => k_is); (case Wd_l13 => k_is); (case Wd_d13 => k_is); (case Wd_k13 => k_is); (case Wd_a14 => k_is); (case Wd_l14 => k_is)
    (case Wd_d14 => k_is); (case Wd_k14 => k_is); (case Wd_a15 => k_is); (case Wd_l15 => k_is); (case Wd_d15 => k_is); (case Wd_k15 => k_is)
    (case Wd_a16 => k_is); (case Wd_l16 => k_is); (case Wd_d16 => k_is); (case Wd_k16 => k_is); (case Wd_a17 => k_is); (case Wd_l17 => k_is)
    (case Wd_d17 => k_is); (case Wd_k17 => k_is); (case Wd_a18 => k_is); (case Wd_l18 => k_is); (case Wd_d18 => k_is); (case Wd_k18 => k_is)
    (case Wd_a19 => k_is); (case Wd_l19 => k_is); (case Wd_d19 => k_is); (case Wd_k19 => k_is); (case Wd_a20 => k_is); (case Wd_l20 => k_is)
    (case Wd_d20 => k_is); (case Wd_k20 => k_is); (case Wd_a21 => k_is); (case Wd_l21 => k_is); (case Wd_d21 => k_is); (case Wd_k21 => k_is)
    (case Wd_a22 => k_is); (case Wd_l22 => k_is); (case Wd_d22 => k_is); (case Wd_k22 => k_is); (case Wd_z_isinstance => k_is); (case Wd_z_int => k_is)
    (case Wd_z_bool => k_is); (case Wd_z_str => k_is); (case Wd_z_tuple => k_is); (case Wd_z_list => k_is); (case Wd_z_len => k_is); (case Wd_z_abs => k_is)
    (case Wd_z_all => k_is); (case Wd_z_any => k_is); (case Wd_z_sum => k_is); (case Wd_z_enumerate => k_is); (case Wd_z_divmod => k_is); (case Wd_z_range => k_is)
    (case Wd_z_max => k_is); (case Wd_z_min => k_is); (case Wd_z_zip => k_is); (case Wd_z_repr => k_is); (case Wd_e6 => k_is); (case Wd_e7 => k_is)
    (case Wd_gcW => k_is); (case Wd_gcN => k_is); (case Wd_ncN_x => k_exc); (case Wd_ncN_k => k_is); (case Wd_ncN_b => k_is); (case Wd_ncN_t => k_is)
    (case Wd_ncN_m => kts_exm); (case Wd_ncN_1 => k_is); (case Wd_ncN_2 => k_is); (case Wd_ncN_4 => k_is); (case Wd_ncN_5 => k_is); (case Wd_ncN_8 => k_is)
    (case Wd_ncN_i => kit_is); (case Wd_gL => k_is); (case Wd_gN => k_is); (case Wd_gW => k_is); (case Wd_lW => k_is); (case Wd_gP => k_is)
    (case Wd_lP => k_is); (case Wd_g_MOST_PARTS => k_is); (case Wd_g_MOST_ALTERNATIVES => k_is); (case Wd_g_MOST_SUM => k_is); (case Wd_g_MOST_PEOPLE => k_is); (case Wd_g_MOST_GOODS => k_is)
    (case Wd_g_MOST_DEATHS => k_is); (case Wd_gH => k_is); (case Wd_mkH => k_is); (case Wd_fi_H => k_is); (case Wd_fnH => k_is); (case Wd_kcH => k_is)
    (case Wd_lH => k_is); (case Wd_dH => k_is); (case Wd_kiH => k_is); (case Wd_dlH => k_is); (case Wd_gY => k_is); (case Wd_mkY => k_is)
    (case Wd_fi_Y => k_is); (case Wd_fnY => k_is); (case Wd_kcY => k_is); (case Wd_lY => k_is); (case Wd_dY => k_is); (case Wd_kiY => k_is)
    (case Wd_dlY => k_is); (case Wd_pgH => k_is); (case Wd_hdH => k_is); (case Wd_poH => k_is); (case Wd_saH => k_is); (case Wd_naH_folk => k_is)
    (case Wd_naH_things => k_is); (case Wd_naH_purse => k_is); (case Wd_naH_debts => k_is); (case Wd_pgY => k_is); (case Wd_hdY => k_is); (case Wd_poY => k_is)
    (case Wd_saY => k_is); (case Wd_naY_deaths => k_is); (case Wd_gDT => k_is); (case Wd_lT => k_is); (case Wd_dT => k_is); (case Wd_kDT => k_is)
    (case Wd_dlT => k_is)


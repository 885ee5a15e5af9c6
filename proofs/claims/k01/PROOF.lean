import PyProof.Rows.All
import Wide.All
import OpenK.AllK
import Wide.FinOn
import KE.GoesMore
import KE.GoesEnum
import KE.KTupSum
import KE.KRevSl
import HandS.ForMost
import HandS.Walk
import HandS.IsInst
import HandS.Wide
import HandS.WideBits
import HandS.Defaults
import HandS.TupAny
import HandS.Exc
import HandS.ExcInit
import HandS.ExcOwn
import HandS.ExcIs
import HandS.ExcField
import HandS.WordsExc
import HandS.CallSlots
import HandS.TupMul
import KE.KExcIs
import PyProof.FactsAll.list_3
import PyProof.Draws
import KE.RegKIsAll
import KE.RegKTryMore
import PySem.Challenge.RW_willdealt_k01_names_of_any_kind
set_option Elab.async false
set_option linter.all false
set_option maxRecDepth 100000
set_option maxHeartbeats 4000000
namespace Wd
open PySem PySem.Spec PyProof.Rows L2
/-! ### zip of a list or tuple with a list or tuple: one rule for the four mixes. A feed is what zip draws from. -/
inductive Feed where
  | li
  | tu
namespace Feed
def sq : Feed → PySem.W.Frag → Hp → Addr → List V → Prop
  | .li => SqL
  | .tu => SqT
def stands : Feed → Heap → Addr → Array Value → Prop
  | .li => Heap.IsList
  | .tu => Heap.IsTuple
def at_ : Feed → Heap → Addr → Addr → Nat → Prop
  | .li => Heap.IsListIter
  | .tu => Heap.IsTupleIter
def head : Feed → Addr → Obj
  | .li, a => { cls := .type "list_iterator", data := .fields #[.ref a, .int 0 0] }
  | .tu, a => { cls := .type "tuple_iterator", data := .fields #[.ref a, .int 0 0] }
variable (k : Feed)
theorem begins (a : Addr) (its : Array Value) : Begins (.ref a) (k.head a) fun h => k.stands h a its := by
  cases k
  · exact begins_list a its
  · exact begins_tuple a its
theorem draws {prog : Program} {w : World} {A : Around} (hA : A.handled = none) {it a : Addr} (ne : a ≠ it) (its : Array Value) : Draws prog w A it [it, a] its.size (fun i v => its[i]? = some v) (fun i h => k.at_ h it a i ∧ k.stands h a its) := by
  cases k
  · exact Draws.list hA it a ne its
  · exact Draws.tuple hA it a ne its
theorem first {h : Heap} {it a : Addr} (e : h.get? it = some (k.head a)) : k.at_ h it a 0 := by
  cases k <;> exact ⟨_, e, rfl, rfl⟩
theorem lives {h : Heap} {it a : Addr} {i : Nat} (e : k.at_ h it a i) : ∃ o, h.get? it = some o ∧ ∀ v, o.data ≠ .cell v := by
  cases k
  all_goals
    obtain ⟨o, e1, _, e2⟩ := e
    exact ⟨o, e1, fun v z => by rw [e2] at z; cases z⟩
theorem moved {h h' : Heap} {it a : Addr} {i : Nat} (e : k.at_ h it a i) (m : ∀ o, h.get? it = some o → h'.get? it = some o) : k.at_ h' it a i := by
  cases k
  · exact Heap.IsListIter.at e m
  · exact Heap.IsTupleIter.at e m
theorem known {X : Cx} {pins : List (Addr × Obj)} {σ : L2.St} {H : Hp} {s : Shared} {a : Addr} {xs : List V} (I : Inv X pins σ H s) (e : k.sq X.K H a xs) : ∃ its : List Value, Vals xs its ∧ k.stands s.heap a its.toArray ∧ a < s.heap.objs.size := by
  cases k
  · obtain ⟨its, v, p, _⟩ := I.list e
    exact ⟨its, v, p.isList, p.lt⟩
  · obtain ⟨its, v, p, _⟩ := I.tuple e
    obtain ⟨o, e1, _⟩ := id p
    exact ⟨its, v, p, Heap.lt_size e1⟩
theorem one {X : Cx} {pins : List (Addr × Obj)} {σ : L2.St} {H : Hp} {s : Shared} {a : Addr} {xs ys : List V} (I : Inv X pins σ H s) (e : k.sq X.K H a xs) (e' : k.sq X.K H a ys) : xs = ys := by
  cases k
  · exact I.list_inj e e'
  · exact I.tuple_inj e e'
end Feed
/-- the walk over zip of two feeds of one length -/
def ItZ (K : PySem.W.Frag) (k m : Feed) (a b : Addr) : It where
  go i H := ∃ xs ys x y, k.sq K H a xs ∧ m.sq K H b ys ∧ xs[i]? = some x ∧ ys[i]? = some y
  yld i H v H' := ∃ T x y, v = .ref T ∧ H T = none ∧ H' = upd H T (.tup [x, y]) ∧ (∀ xs, k.sq K H a xs → xs[i]? = some x) ∧ ∀ ys, m.sq K H b ys → ys[i]? = some y
  stop i H := ∃ xs ys, k.sq K H a xs ∧ m.sq K H b ys ∧ xs.length = i ∧ ys.length = i
theorem walkZ {K : PySem.W.Frag} {k m : Feed} {a b : Addr} {xs ys : List V} (hl : xs.length = ys.length) : Walk (ItZ K k m a b) xs.length (fun H => k.sq K H a xs ∧ m.sq K H b ys) (YPair (fun i => xs[i]?) fun i => ys[i]?) where
  goes := fun i H hi g => ⟨xs, ys, xs[i], ys[i]'(hl ▸ hi), g.1, g.2, List.getElem?_eq_getElem hi, List.getElem?_eq_getElem (hl ▸ hi)⟩
  stops := fun H g => ⟨xs, ys, g.1, g.2, rfl, hl.symm⟩
  yields := fun i H v H' _ g ⟨T, x, y, e1, e2, e3, e4, e5⟩ => ⟨T, x, y, e1, e2, e3, e4 xs g.1, e5 ys g.2⟩
/-- what holds of each of five cells holds of any of them -/
theorem of_five {z p q i j c : Addr} {R : Addr → Prop} (hc : c ∈ [z, p, q, i, j]) (hz : R z) (hp : R p) (hq : R q) (hi : R i) (hj : R j) : R c := by
  simp only [List.mem_cons, List.not_mem_nil, or_false] at hc
  rcases hc with e | e | e | e | e <;> (rw [e]; assumption)
theorem turnZ {P : Program} {w : World} {K : PySem.W.Frag} {elts : List Expr} {kk : Nat} {tpos : Pos} {k m : Feed} {a b z p q i1 i2 : Addr} (S : ZipSep2 z p q i1 i2 [i1, a] [i2, b]) (na : a ≠ i1) (nb : b ≠ i2) :
    Turn P w K (.Tuple elts kk tpos) (ItZ K k m a b) [z, p, q, i1, i2] z fun i h => IsZip h z p q .none ∧ IsTupOf2 h p (.ref i1) (.ref i2) ∧ (∃ x y, IsTupOf2 h q x y) ∧ k.at_ h i1 a i ∧ m.at_ h i2 b i where
  mem := List.mem_cons_self
  obj := by
    rintro i h ⟨gz, gp, ⟨x, y, gq⟩, g1, g2⟩ c hc
    exact of_five (R := fun c => ∃ o, h.get? c = some o ∧ ∀ v, o.data ≠ .cell v) hc ⟨_, gz, fun _ e => nomatch e⟩ ⟨_, gp, fun _ e => nomatch e⟩ ⟨_, gq, fun _ e => nomatch e⟩ (k.lives g1) (m.lives g2)
  keep := by
    rintro i h h' ⟨gz, gp, ⟨x, y, gq⟩, g1, g2⟩ same
    exact ⟨same _ (by simp) _ gz, same _ (by simp) _ gp, ⟨x, y, same _ (by simp) _ gq⟩, k.moved g1 (same _ (by simp)), m.moved g2 (same _ (by simp))⟩
  item := by
    rintro X rfl rfl rfl calm i pins s σ H E I free ⟨gz, gp, ⟨x0, y0, gq⟩, g1, g2⟩ ⟨xs, ys, x, y, hxs, hys, hx, hy⟩
    obtain ⟨us, rel1, st1, _⟩ := k.known I hxs
    obtain ⟨vs, rel2, st2, _⟩ := m.known I hys
    obtain ⟨u, hu, ru⟩ := rel1.get hx
    obtain ⟨v, hv, rv⟩ := rel2.get hy
    have hA : X.A.in1.handled = none := I.ok.hd calm
    have zlt := Heap.lt_size gz
    have n1 : i < us.toArray.size := by
      rw [List.size_toArray]
      exact (List.getElem?_eq_some_iff.mp hu).1
    have n2 : i < vs.toArray.size := by
      rw [List.size_toArray]
      exact (List.getElem?_eq_some_iff.mp hv).1
    refine wpAny_pyNext_zipD2_item S (k.draws hA na _) (m.draws hA nb _) gz gp gq ⟨g1, st1⟩ ⟨g2, st2⟩ n1 n2 ?_
    rintro u' v' h1 t1 eu ev gz1 gq1 ⟨d1, _⟩ ⟨d2, _⟩ gT _ same
    obtain rfl : u = u' := Option.some.inj (hu.symm.trans (by simpa using eu))
    obtain rfl : v = v' := Option.some.inj (hv.symm.trans (by simpa using ev))
    refine ⟨_, rfl, wpAny_letOwnedTupleGo_zip (s := { s with heap := h1, toks := t1 }) gz1 fun h2 gz2 sb => ?_⟩
    have all : ∀ c o, c ∉ [z, p, q, i1, i2] → s.heap.get? c = some o → h2.get? c = some o := fun c o hc e => by
      simp only [List.mem_cons, List.not_mem_nil, or_false, not_or] at hc
      rw [sb.2 c hc.1]
      exact same c o hc.1 hc.2.2.1 hc.2.2.2.1 hc.2.2.2.2 e
    have pair : h2.get? s.heap.objs.size = some { cls := .type "tuple", data := .seq #[u, v] } := (sb.2 _ (Nat.ne_of_gt zlt)).trans gT
    have made : ObjOk X.prog X.w (upd H s.heap.objs.size (.tup [x, y])) h2 s.heap.objs.size (.tup [x, y]) := ⟨by show 2 ≤ sizeLine; decide, [u, v], .cons ru (.cons rv .nil), _, pair, rfl, _, rfl⟩
    refine ⟨.ref s.heap.objs.size, _, I.turnedNew (t' := t1) all free (Nat.le_refl _) made, rfl, ?_, ?_, ?_⟩
    · exact ⟨_, x, y, rfl, I.hok.fresh (Nat.le_refl _), rfl, fun l e => k.one I e hxs ▸ hx, fun l e => m.one I e hys ▸ hy⟩
    · exact ⟨gz2, (sb.2 _ S.TIz).trans (same _ _ S.TIz S.TITO S.TIi1 S.TIi2 gp), ⟨u, v, (sb.2 _ S.TOz).trans gq1⟩, k.moved d1 fun o e => (sb.2 _ S.zi1.symm).trans e, m.moved d2 fun o e => (sb.2 _ S.zi2.symm).trans e⟩
    · intro c hc
      have old : c < s.heap.objs.size := by
        obtain ⟨o1, e1, _⟩ := k.lives g1
        obtain ⟨o2, e2, _⟩ := m.lives g2
        exact of_five (R := fun c => c < s.heap.objs.size) hc zlt (Heap.lt_size gp) (Heap.lt_size gq) (Heap.lt_size e1) (Heap.lt_size e2)
      rw [upd_ne (Nat.ne_of_lt old)]
      exact (free c hc).1
  done := by
    rintro X rfl rfl rfl calm i pins s σ H E I free ⟨gz, gp, ⟨x0, y0, gq⟩, g1, g2⟩ ⟨xs, ys, hxs, hys, n1, n2⟩
    obtain ⟨us, rel1, st1, _⟩ := k.known I hxs
    obtain ⟨vs, rel2, st2, _⟩ := m.known I hys
    have hA : X.A.in1.handled = none := I.ok.hd calm
    have z1 : us.toArray.size = i := by rw [List.size_toArray, ← rel1.length, n1]
    have z2 : vs.toArray.size = i := by rw [List.size_toArray, ← rel2.length, n2]
    refine wpAny_pyNext_zipD2_end S (k.draws hA na _) (m.draws hA nb _) gz gp gq ⟨g1, st1⟩ ⟨g2, st2⟩ (by omega) (by omega) (by omega) fun h1 t1 same => ⟨rfl, I.turnedL (t' := t1) (fun c o hc e => ?_) free⟩
    simp only [List.mem_cons, List.not_mem_nil, or_false, not_or] at hc
    exact same c o hc.1 hc.2.2.1 hc.2.2.2.1 hc.2.2.2.2 e
  self := fun _ _ _ _ _ g e => wpAny_pyIter_zip g.1 e
def iZ (K : PySem.W.Frag) (k m : Feed) (ta : TA) : TI := fun σ H R => ta σ H fun vs H1 => ∃ a b xs ys, vs = [.ref a, .ref b] ∧ k.sq K H1 a xs ∧ m.sq K H1 b ys ∧ R (ItZ K k m a b) H1
theorem pi_Z {X : Cx} {e e2 : Expr} {ta : TA} {pz pos tpos : Pos} {elts : List Expr} {kk : Nat} (k m : Feed) (hg : Gl X "zip") (hm : X.mg "zip" = none) (ha : PA X [e, e2] ta)
    (star : starEach [e, e2] X.env = (false, eval e X.env) :: starEach [e2] X.env := by rfl) (plain : (backTo pos (starEach [e2] X.env)).any (·.1) = false := by rfl) :
    PI X (.Tuple elts kk tpos) (.Call (.Name "zip" pz) [e, e2] [] pos) (iZ X.K k m ta) where
  run := by
    intro pins s σ H R I h
    refine Call_ (ld_blt I hg hm PyProof.Rows.boot_zip (PyProof.Rows.callWith_type1 (thn (ha.run pos pins s σ H _ I h) ?_) star plain))
    rintro us s1 ⟨vs, H1, I1, rel, a, b, xs, ys, rfl, hxs, hys, r⟩
    obtain ⟨ua, ub, rfl, ra, rb⟩ := vals2 rel
    cases ra
    cases rb
    obtain ⟨its1, _, st1, la⟩ := k.known I1 hxs
    obtain ⟨its2, _, st2, lb⟩ := m.known I1 hys
    have S : ZipSep2 (s1.heap.objs.size + 4) (s1.heap.objs.size + 2) (s1.heap.objs.size + 3) s1.heap.objs.size (s1.heap.objs.size + 1) [s1.heap.objs.size, a] [s1.heap.objs.size + 1, b] :=
      zip_sep2 (fun c hc => by rw [List.mem_singleton.mp hc]; exact la) (fun c hc => by rw [List.mem_singleton.mp hc]; exact lb)
    have far : ∀ c, s1.heap.objs.size ≤ c → FpOk X pins H1 c := fun c hc => I1.fpOk hc (I1.hok.fresh hc)
    refine zip_begins2 (k.begins a _) (m.begins b _) st1 st2 fun h1 gz gp gq f1 f2 _ same => wpAny_pyIter_zip gz ?_
    refine ⟨_, _, _, _, H1, rfl, I1.kept (t' := s1.toks) same, turnZ S (Nat.ne_of_lt la) (Nat.ne_of_lt (Nat.lt_succ_of_lt lb)), ⟨gz, gp, ⟨_, _, gq⟩, k.first f1, m.first f2⟩, fun c hc => ?_, r⟩
    exact of_five hc (far _ (Nat.le_add_right _ _)) (far _ (Nat.le_add_right _ _)) (far _ (Nat.le_add_right _ _)) (far _ (Nat.le_refl _)) (far _ (Nat.le_add_right _ _))
/-! ### sum of a tuple of ints -/
def rSumT (K : PySem.W.Frag) : List V → Hp → VK → Prop := fun vs H Q => ∃ (t : Addr) (ns : List Int), vs = [V.ref t] ∧ SqT K H t (ns.map V.int) ∧ Q (.int ns.sum) H
theorem cr_sumT {X : Cx} (calm : X.calm = true) : CallR X (.builtin "sum") (rSumT X.K) := by
  rintro pins s σ H vs us Q I rel ⟨t, ns, rfl, hs, want⟩
  obtain ⟨its, vals, tup, _⟩ := I.tuple hs
  rw [Vals.ref1 rel]
  have aI : IntsAre its ns := vals.ints
  obtain ⟨zs, ez⟩ := aI.allInts.items
  have sum_is : preSum (numAt zs) zs.size = ns.sum := by
    rw [preSum_eq, List.take_of_length_le (by simp), ← nums_intItems, ← ez]
    exact congrArg List.sum aI.numsOf
  have tup2 : s.heap.IsTuple t (intItems zs) := ez ▸ tup
  refine PySem.W.ktm_sumG (I.ok.hd calm) tup2 fun h1 k1 t1 same => ?_
  rw [sum_is]
  exact ⟨.int _, H, I.kept same, ⟨_, rfl⟩, want⟩
/-! ### xs[i] read by values, for xs[i] += e -/
def rGetL (K : PySem.W.Frag) : V → V → Hp → VK → Prop := fun x y H Q => ∃ p xs i v, x = .ref p ∧ y = .int i ∧ 0 ≤ i ∧ SqL K H p xs ∧ atI xs i = some v ∧ Q v H
theorem get_list {X : Cx} : PGet X (rGetL X.K) := by
  rintro pins s σ H _ _ ov iv Q I ro ri ⟨p, xs, i, v, rfl, rfl, i0, hxs, hat, want⟩
  cases ro
  obtain ⟨t, rfl⟩ := ri
  obtain ⟨its, vals, plain, small⟩ := I.list hxs
  obtain ⟨j, sj, gj, _, _, hi⟩ := atI_get hat
  obtain ⟨u, gu, ru⟩ := vals.get gj
  have ej : i.toNat = j := Option.some.inj ((seqIndex_of i0 hi).symm.trans sj)
  have line := line63
  exact wpAny_getItem_list plain.isList i0 (by omega) (by rw [ej]; simpa using gu) ⟨v, H, I, ru, want⟩
/-! ### f(k = v, ..), keywords alone -/
def tCallN0 (m : Nat) (sp : Sp) (gV : List V → List V → List V) (E : XK) (tk : TA) : TE := fun σ H Q => tk σ H fun zs H2 => zs.length = m ∧ sp (gV [] zs) H2 Q E
theorem pe_callN0 {X : Cx} {CX : CXT} {k : Nat} {f : Addr} {fd : FuncData} {ps ks : List Str} {sp : Sp} {E : XK} {x : Str} {p pos : Pos} {kws : List Keyword} {tk : TA} {g : List Value → List Value → List Value} {gV : List V → List V → List V}
    (F : FnOk X.prog X.w X.K X.mg X.base CX k f fd ps sp) (room : Room k X.A) (glob : Gl X x) (is : X.mg x = some (.ref f)) (kp : PySem.W.keepIn X.K (.ref f) = true) (bind : KBn X.K fd ps 0 ks g gV) (pass : Passes CX X E) (args : PK X kws tk)
    (named : (backToKw pos (keywordEach kws X.env)).all (·.1.isSome) = true := by rfl) (names : (backToKw pos (keywordEach kws X.env)).filterMap (·.1) = ks := by rfl)
    (nodebug : (x == ("__debug__" : Str)) = false := by decide) (plain : ((backTo pos (starEach [] X.env)).any (·.1) || (backToKw pos (keywordEach kws X.env)).any (·.1.isNone)) = false := by rfl) :
    PE X (.Call (.Name x p) [] kws pos) (tCallN0 ks.length sp gV E tk) where
  run := by
    intro pins s σ H Q I h
    refine wpAny_Call_Name_kw (ld_glob I glob is (PySem.W.callWith_KW0 (h₀ := X.base) I.ok.mod.kin kp named (thn (args.run pos pins s σ H _ I h) ?_) plain) nodebug)
    rintro ws s2 ⟨zs, H2, I2, rel, len, want⟩
    rw [names]
    exact ⟨I2.kIn, run_fnN F room bind pass I2 .nil rel rfl len want⟩
/-! ### t[::-1] of a tuple -/
section
variable {prog : Program} {w : World} {A : Around} {E : Value → Shared → Prop} {s : Shared}
theorem back_parts {sl : Addr} {v0 v1 v2 : Value} {n : Nat} {R : Int × Int × Nat → Shared → Prop} (cut : s.heap.IsSliceOf sl v0 v1 v2) (p0 : IsPart v0 none) (p1 : IsPart v1 none) (p2 : IsPart v2 (some (-1))) (want : R ((n : Int) - 1, -1, n) s) :
    wpAny (model prog w) A (Builtin.Slice.sliceApplied (.ref sl) (pure (n : Int))) R E s := by
  obtain ⟨o, eo, _, eds⟩ := cut
  have num : Builtin.Slice.slicePlaces ((n : Int) - 1) (-1) (-1) = n := by
    show (if (-1 : Int) > 0 then _ else if (n : Int) - 1 > -1 then ((n : Int) - 1 - -1 - 1) / (- -1) + 1 else 0).toNat = n
    rw [if_neg (by decide)]
    by_cases some : (n : Int) - 1 > -1
    · rw [if_pos some, show (- -1 : Int) = 1 by decide, Int.ediv_one]
      omega
    · rw [if_neg some]
      omega
  show wpAny _ _ (Builtin.Slice.sliceFields (.ref sl) >>= _) _ _ _
  refine wpAny_bind (wpAny_bind (wpAny_field eo eds (x := v0) rfl (wpAny_bind (wpAny_field eo eds (x := v1) rfl (wpAny_bind (wpAny_field eo eds (x := v2) rfl (wpAny_pure (wpAny_bind (HT.slicePart_ p2 ?_)))))))))
  show wpAny _ _ (if ((-1 : Int) == 0) = true then _ else _) _ _ _
  rw [if_neg (by decide)]
  refine wpAny_bind (HT.slicePart_ p0 (wpAny_bind (HT.slicePart_ p1 (wpAny_bind (wpAny_pure (wpAny_pure ?_))))))
  show R ((n : Int) - 1, -1, Builtin.Slice.slicePlaces ((n : Int) - 1) (-1) (-1)) s
  rw [num]
  exact want
theorem back_items (xs : Array Value) : ((List.range xs.size).filterMap fun (m : Nat) => xs[(((xs.size : Nat) : Int) - 1 + (m : Int) * (-1)).toNat]?).toArray = xs.toList.reverse.toArray := by
  have e : (fun (m : Nat) => xs[(((xs.size : Nat) : Int) - 1 + (m : Int) * (-1)).toNat]?) = (xs[·]?) ∘ fun m => xs.size - 1 - m := funext fun m => by
    show xs[(((xs.size : Nat) : Int) - 1 + (m : Int) * (-1)).toNat]? = xs[xs.size - 1 - m]?
    congr 1
    omega
  rw [e, ← List.filterMap_map, PySem.W.krv_range, List.filterMap_reverse, PySem.W.krv_all xs]
theorem tuple_back {t sl : Addr} {its : Array Value} {v0 v1 v2 : Value} {R : Value → Shared → Prop} (tup : IsTup s.heap t its) (cut : s.heap.IsSliceOf sl v0 v1 v2) (p0 : IsPart v0 none) (p1 : IsPart v1 none) (p2 : IsPart v2 (some (-1))) (small : its.size ≤ sizeLine)
    (want : R (.ref s.heap.objs.size) { s with heap := s.heap.push { cls := .type "tuple", data := .seq its.toList.reverse.toArray } }) : wpAny (model prog w) A (getItem (.ref t) (.ref sl)) R E s := by
  obtain ⟨o, eo, ecs, _⟩ := id cut
  have isSl : s.TypeIs (.ref sl) "slice" := ⟨o, eo, ecs⟩
  have fits : sizeOk (.seq its.toList.reverse.toArray) := by
    show its.toList.reverse.toArray.size ≤ sizeLine
    simpa using small
  unfold getItem
  (try with_reducible refine wpAny_holding ?_); (first | refine wpAny_bind (wpAny_pure ?_) | skip)
  refine wpAny_bind (wpAny_sequenceKey tup.typeIs (by decide) (wpAny_bind (wpAny_callSpecial?_slot (name := Str.ofString "__getitem__") tup.typeIs PyProof.Rows.slot_tuple_getitem (wpAny_call_entry PyProof.Rows.slot_tuple_getitem tup.typeIs entry_tuple_getitem ?_ (args_tuple_getitem _ _)))))
  refine wpAny_bind (m := Builtin.Tuple.tupleItemsOf (.ref t)) (tupleItemsOf_ tup (wpAny_bind (wpAny_typeOf isSl ?_)))
  rw [if_pos (by decide)]
  refine wpAny_bind (back_parts cut p0 p1 p2 ?_)
  show wpAny _ _ (if ((((its.size : Int) - 1) == 0 && (-1 : Int) == 1 && its.size == its.size) = true) then _ else _) _ _ _
  rw [if_neg (by simp), back_items]
  first
    | exact wpAny_bind (m := Builtin.Tuple.tupleExact _) (wpAny_newObj_type (wpAny_pure ⟨_, rfl, wpAny_pure want⟩) fits)
    | exact wpAny_bind (m := Builtin.Tuple.tupleExact _) (wpAny_newObj_type (wpAny_bind (wpAny_pure (wpAny_pure ⟨_, rfl, wpAny_pure want⟩))) fits)
end
def tRevT (K : PySem.W.Frag) (te : TE) : TE := fun σ H Q => te σ H fun x H1 => ∃ t xs, x = .ref t ∧ SqT K H1 t xs ∧ ∀ p, H1 p = none → Q (.ref p) (upd H1 p (.tup xs.reverse))
theorem pe_revT {X : Cx} {e : Expr} {te : TE} {k : Nat} {q1 q2 q3 pos : Pos} (he : PE X e te) : PE X (.Subscript e (.Slice none none (some (.UnaryOp .USub (.Constant (.int 1) k q1) q2)) q3) pos) (tRevT X.K te) where
  run := by
    intro pins s σ H Q I h
    have minus : PO X (some (.UnaryOp .USub (.Constant (.int 1) k q1) q2)) (tPart (tUn (rU fun i => .int (-i)) (tC (.int 1)))) := po_some (pe_un un_neg pe_int)
    refine Subscript_ (thn (he.run pins s σ H _ I h) ?_)
    rintro _ s1 ⟨_, H1, I1, rel, t, xs, rfl, hxs, want⟩
    cases rel
    refine wpAny_Slice (thn (po_none.run pins s1 σ H1 (fun o G => o = none ∧ G = H1) I1 ⟨rfl, rfl⟩) ?_)
    rintro v0 s2 ⟨_, _, I2, p0, rfl, rfl⟩
    refine thn (po_none.run pins s2 σ _ (fun o G => o = none ∧ G = _) I2 ⟨rfl, rfl⟩) ?_
    rintro v1 s3 ⟨_, _, I3, p1, rfl, rfl⟩
    refine thn (minus.run pins s3 σ _ (fun o G => o = some (-1) ∧ G = _) I3 ⟨1, rfl, -1, rfl, rfl, rfl⟩) ?_
    rintro v2 s4 ⟨_, _, I4, p2, rfl, rfl⟩
    have I5 := I4.kept (h' := s4.heap.push { cls := .type "slice", data := .fields #[v0, v1, v2] }) (t' := s4.toks) fun c o g => Heap.get?_push_of_some _ g
    obtain ⟨its, vals, tup, small⟩ := I5.tuple hxs
    refine tail_any (ops := [.ref t, .ref s4.heap.objs.size]) tup.typeIs PyProof.Rows.slot_tuple_getitem.lookup (tuple_back tup (Heap.IsSliceOf.new _ v0 v1 v2) p0 p1 p2 (by rw [List.size_toArray, ← vals.length]; exact small) ?_) (by with_unfolding_all rfl)
    exact ⟨.ref _, _, I5.laid (t' := s4.toks) (o := .tup xs.reverse) (fun c o g => Heap.get?_push_of_some _ g) (Nat.le_refl _) ⟨by rw [List.length_reverse]; exact small, _, vals.reverse, IsTup.new _ _⟩, rfl, want _ (I5.hok.fresh (Nat.le_refl _))⟩
end Wd

set_option linter.all false
namespace WdM
/-! ### pennies by weights -/
def deal (a T : Int) : Int → List Int → List Int
  | _, [] => []
  | k, w :: ws => if 0 < k ∧ a * w % T ≠ 0 then (a * w / T + 1) :: deal a T (k - 1) ws else a * w / T :: deal a T k ws
def bases (a T : Int) (ws : List Int) : List Int := ws.map fun w => a * w / T
def cnt (a T : Int) : List Int → Int
  | [] => 0
  | w :: ws => (if a * w % T ≠ 0 then 1 else 0) + cnt a T ws
def dealt (a : Int) (ws : List Int) : List Int := deal a ws.sum (a - (bases a ws.sum ws).sum) ws

theorem deal_len (a T : Int) : ∀ (k : Int) (ws : List Int), (deal a T k ws).length = ws.length
  | _, [] => rfl
  | k, w :: ws => by
    unfold deal
    split
    · rw [List.length_cons, deal_len a T (k - 1) ws, List.length_cons]
    · rw [List.length_cons, deal_len a T k ws, List.length_cons]
theorem dealt_len (a : Int) (ws : List Int) : (dealt a ws).length = ws.length := deal_len _ _ _ _
theorem cnt_cons (a T w : Int) (ws : List Int) : cnt a T (w :: ws) = (if a * w % T ≠ 0 then 1 else 0) + cnt a T ws := rfl
theorem cnt_nonneg (a T : Int) : ∀ ws, 0 ≤ cnt a T ws
  | [] => Int.le_refl 0
  | w :: ws => by
    have := cnt_nonneg a T ws
    unfold cnt
    split <;> omega
theorem deal_sum (a T : Int) : ∀ (k : Int) (ws : List Int), 0 ≤ k → (deal a T k ws).sum = (bases a T ws).sum + min k (cnt a T ws)
  | k, [], hk => by
    show (0 : Int) = 0 + min k 0
    omega
  | k, w :: ws, hk => by
    have hb : (bases a T (w :: ws)).sum = a * w / T + (bases a T ws).sum := by unfold bases; rw [List.map_cons, List.sum_cons]
    have hc := cnt_nonneg a T ws
    unfold deal
    split
    · rename_i h
      have ih := deal_sum a T (k - 1) ws (by omega)
      rw [List.sum_cons, ih, hb]
      rw [cnt_cons, if_pos h.2]
      generalize a * w / T = q
      omega
    · rename_i h
      have ih := deal_sum a T k ws hk
      rw [List.sum_cons, ih, hb]
      rw [cnt_cons]
      generalize a * w / T = q
      by_cases hz : a * w % T ≠ 0
      · have : ¬ 0 < k := fun z => h ⟨z, hz⟩
        rw [if_pos hz]
        omega
      · rw [if_neg hz]
        omega
def rems (a T : Int) (ws : List Int) : List Int := ws.map fun w => a * w % T
theorem bases_rems (a T : Int) : ∀ ws : List Int, T * (bases a T ws).sum + (rems a T ws).sum = a * ws.sum
  | [] => by
    show T * 0 + 0 = a * 0
    simp
  | w :: ws => by
    have ih := bases_rems a T ws
    have e : T * (a * w / T) + a * w % T = a * w := Int.mul_ediv_add_emod (a * w) T
    unfold bases rems at *
    rw [List.map_cons, List.map_cons, List.sum_cons, List.sum_cons, List.sum_cons, Int.mul_add, Int.mul_add]
    omega
theorem rems_bound (a T : Int) (hT : 0 < T) : ∀ ws : List Int, 0 ≤ (rems a T ws).sum ∧ (rems a T ws).sum ≤ (T - 1) * cnt a T ws
  | [] => by
    constructor
    · exact Int.le_refl 0
    · show (0 : Int) ≤ (T - 1) * 0
      simp
  | w :: ws => by
    have ih := rems_bound a T hT ws
    have h0 := Int.emod_nonneg (a * w) (show T ≠ 0 by omega)
    have h1 := Int.emod_lt_of_pos (a * w) hT
    unfold rems at *
    rw [List.map_cons, List.sum_cons]
    rw [cnt_cons]
    generalize hr : a * w % T = r at *
    by_cases hz : r ≠ 0
    · rw [if_pos hz, Int.mul_add, Int.mul_one]
      omega
    · rw [if_neg hz]
      have : r = 0 := by omega
      subst this
      rw [Int.zero_add, Int.zero_add]
      omega
theorem lack_bounds (a : Int) (ws : List Int) (hT : 0 < ws.sum) : 0 ≤ a - (bases a ws.sum ws).sum ∧ a - (bases a ws.sum ws).sum ≤ cnt a ws.sum ws := by
  have h1 := bases_rems a ws.sum ws
  have ⟨h2, h3⟩ := rems_bound a ws.sum hT ws
  have hc := cnt_nonneg a ws.sum ws
  generalize ws.sum = T at *
  generalize (bases a T ws).sum = B at *
  generalize (rems a T ws).sum = R at *
  generalize cnt a T ws = c at *
  have e : T * (a - B) = R := by
    rw [Int.mul_sub]
    have : a * T = T * a := Int.mul_comm _ _
    omega
  constructor
  · rcases Int.lt_or_le (a - B) 0 with h | h
    · have : T * (a - B) < 0 := Int.mul_neg_of_pos_of_neg hT h
      omega
    · exact h
  · rcases Int.lt_or_le c (a - B) with h | h
    · have h4 : T * (c + 1) ≤ T * (a - B) := Int.mul_le_mul_of_nonneg_left (by omega) (by omega)
      have h5 : (T - 1) * c = T * c - c := by rw [Int.sub_mul, Int.one_mul]
      rw [Int.mul_add, Int.mul_one] at h4
      omega
    · exact h
theorem dealt_sum (a : Int) (ws : List Int) (hT : 0 < ws.sum) : (dealt a ws).sum = a := by
  have ⟨h1, h2⟩ := lack_bounds a ws hT
  unfold dealt
  rw [deal_sum _ _ _ _ h1]
  omega
/-- each is its exact part, rounded down or up -/
theorem deal_get (a T : Int) : ∀ (k : Int) (ws : List Int) (i : Nat) (v : Int), (deal a T k ws)[i]? = some v → ∃ w, ws[i]? = some w ∧ (v = a * w / T ∨ v = a * w / T + 1)
  | _, [], i, v, h => by unfold deal at h; simp at h
  | k, w :: ws, i, v, h => by
    unfold deal at h
    split at h
    · cases i with
      | zero => exact ⟨w, rfl, .inr (by simpa using h.symm)⟩
      | succ i => exact deal_get a T _ ws i v (by simpa using h)
    · cases i with
      | zero => exact ⟨w, rfl, .inl (by simpa using h.symm)⟩
      | succ i => exact deal_get a T _ ws i v (by simpa using h)
/-! ### the same by other numbers of the same shares -/
theorem sum_scale (p : Int) : ∀ ws : List Int, (ws.map (p * ·)).sum = p * ws.sum
  | [] => by simp
  | w :: ws => by rw [List.map_cons, List.sum_cons, List.sum_cons, sum_scale p ws, Int.mul_add]
theorem part_scale {a T w p : Int} (hp : 0 < p) : a * (p * w) / (p * T) = a * w / T := by
  rw [show a * (p * w) = p * (a * w) by rw [← Int.mul_assoc, Int.mul_comm a p, Int.mul_assoc]]
  exact Int.mul_ediv_mul_of_pos _ _ hp
theorem rem_scale {a T w p : Int} (hp : 0 < p) : (a * (p * w) % (p * T) ≠ 0) ↔ (a * w % T ≠ 0) := by
  rw [show a * (p * w) = p * (a * w) by rw [← Int.mul_assoc, Int.mul_comm a p, Int.mul_assoc], Int.mul_emod_mul_of_pos _ _ hp]
  constructor
  · intro h z
    exact h (by rw [z, Int.mul_zero])
  · intro h z
    rcases Int.mul_eq_zero.mp z with q | q
    · omega
    · exact h q
theorem deal_scale {a T p : Int} (hp : 0 < p) : ∀ (k : Int) (ws : List Int), deal a (p * T) k (ws.map (p * ·)) = deal a T k ws
  | _, [] => rfl
  | k, w :: ws => by
    rw [List.map_cons]
    unfold deal
    rw [part_scale hp]
    by_cases h : 0 < k ∧ a * w % T ≠ 0
    · rw [if_pos h, if_pos ⟨h.1, (rem_scale hp).mpr h.2⟩, deal_scale hp (k - 1) ws]
    · rw [if_neg h, if_neg (fun z => h ⟨z.1, (rem_scale hp).mp z.2⟩), deal_scale hp k ws]
theorem bases_scale {a T p : Int} (hp : 0 < p) (ws : List Int) : bases a (p * T) (ws.map (p * ·)) = bases a T ws := by
  unfold bases
  rw [List.map_map]
  apply List.map_congr_left
  intro w _
  exact part_scale hp
theorem dealt_scale {a p : Int} (hp : 0 < p) (ws : List Int) : dealt a (ws.map (p * ·)) = dealt a ws := by
  unfold dealt
  rw [sum_scale, bases_scale hp, deal_scale hp]
theorem dealt_like {a p q : Int} (hp : 0 < p) (hq : 0 < q) {ws ws' : List Int} (h : ws.map (p * ·) = ws'.map (q * ·)) : dealt a ws = dealt a ws' := by
  rw [← dealt_scale hp ws, h, dealt_scale hq]
/-! ### weights of fractions -/
def lcmF : Int → List (Int × Int) → Int
  | b, [] => b
  | b, f :: fs => lcmF (b / (Int.gcd b f.2 : Int) * f.2) fs
def wts (L : Int) (fs : List (Int × Int)) : List Int := fs.map fun f => f.1 * (L / f.2)
def wtsOf (fs : List (Int × Int)) : List Int := wts (lcmF 1 fs) fs
structure Lcm (b L : Int) (fs : List (Int × Int)) : Prop where
  pos : 0 < L
  dvd : b ∣ L
  all : ∀ f ∈ fs, f.2 ∣ L
theorem step_lcm {b d : Int} (hb : 0 < b) (hd : 0 < d) : 0 < b / (Int.gcd b d : Int) * d ∧ b ∣ b / (Int.gcd b d : Int) * d ∧ d ∣ b / (Int.gcd b d : Int) * d := by
  have g0 : (0 : Int) < (Int.gcd b d : Int) := by
    have : Int.gcd b d ≠ 0 := fun z => by
      have := (Int.gcd_eq_zero_iff.mp z).1
      omega
    omega
  obtain ⟨x, hx⟩ := Int.gcd_dvd_left b d
  obtain ⟨y, hy⟩ := Int.gcd_dvd_right b d
  generalize hg : (Int.gcd b d : Int) = g at *
  have e : b / g = x := by rw [hx]; exact Int.mul_ediv_cancel_left x (by omega)
  have xp : 0 < x := by
    rcases Int.lt_or_le 0 x with h | h
    · exact h
    · have : g * x ≤ 0 := Int.mul_nonpos_of_nonneg_of_nonpos (by omega) h
      omega
  rw [e]
  refine ⟨Int.mul_pos xp hd, ⟨y, ?_⟩, ⟨x, Int.mul_comm _ _⟩⟩
  rw [hy, hx, ← Int.mul_assoc, Int.mul_comm x g]
theorem lcm_is : ∀ (fs : List (Int × Int)) (b : Int), 0 < b → (∀ f ∈ fs, 0 < f.2) → Lcm b (lcmF b fs) fs
  | [], b, hb, _ => ⟨hb, Int.dvd_refl b, fun f h => by cases h⟩
  | f :: fs, b, hb, h => by
    have hd := h f List.mem_cons_self
    have ⟨s1, s2, s3⟩ := step_lcm hb hd
    have ih := lcm_is fs _ s1 (fun g hg => h g (List.mem_cons_of_mem _ hg))
    refine ⟨ih.pos, Int.dvd_trans s2 ih.dvd, fun g hg => ?_⟩
    rcases List.mem_cons.mp hg with rfl | hg
    · exact Int.dvd_trans s3 ih.dvd
    · exact ih.all g hg
theorem wt_eq {L t d : Int} (h : d ∣ L) : t * (L / d) * d = t * L := by
  rw [Int.mul_assoc, Int.ediv_mul_cancel h]
/-- two rows of fractions that stand as B to A -/
theorem wts_like {A B L L' : Int} (hA : 0 < A) (hB : 0 < B) : ∀ (fs fs' : List (Int × Int)), fs.length = fs'.length → (∀ f ∈ fs, 0 < f.2 ∧ f.2 ∣ L) → (∀ f ∈ fs', 0 < f.2 ∧ f.2 ∣ L') →
    (∀ (i : Nat) (f f' : Int × Int), fs[i]? = some f → fs'[i]? = some f' → f'.1 * f.2 * B = f.1 * A * f'.2) → (wts L fs).map (A * L' * ·) = (wts L' fs').map (B * L * ·)
  | [], [], _, _, _, _ => rfl
  | f :: fs, f' :: fs', hl, h1, h2, h3 => by
    have ih := wts_like (L := L) (L' := L') hA hB fs fs' (by simpa using hl) (fun g hg => h1 g (List.mem_cons_of_mem _ hg)) (fun g hg => h2 g (List.mem_cons_of_mem _ hg)) (fun i g g' a b => h3 (i + 1) g g' (by simpa using a) (by simpa using b))
    have e := h3 0 f f' rfl rfl
    have ⟨p1, d1⟩ := h1 f List.mem_cons_self
    have ⟨p2, d2⟩ := h2 f' List.mem_cons_self
    unfold wts at *
    rw [List.map_cons, List.map_cons, List.map_cons, List.map_cons, ih]
    congr 1
    have w1 := wt_eq (t := f.1) d1
    have w2 := wt_eq (t := f'.1) d2
    generalize f.1 * (L / f.2) = w at *
    generalize f'.1 * (L' / f'.2) = w' at *
    have ne : f.2 * f'.2 ≠ 0 := Int.ne_of_gt (Int.mul_pos p1 p2)
    apply Int.eq_of_mul_eq_mul_right ne
    have l1 : A * L' * w * (f.2 * f'.2) = (w * f.2) * (A * L' * f'.2) := by
      ac_rfl
    have l2 : B * L * w' * (f.2 * f'.2) = (w' * f'.2) * (B * L * f.2) := by
      ac_rfl
    rw [l1, l2, w1, w2]
    have l3 : f.1 * L * (A * L' * f'.2) = (f.1 * A * f'.2) * (L * L') := by ac_rfl
    have l4 : f'.1 * L' * (B * L * f.2) = (f'.1 * f.2 * B) * (L * L') := by ac_rfl
    rw [l3, l4, e]
theorem dealt_frac {a A B : Int} (hA : 0 < A) (hB : 0 < B) {fs fs' : List (Int × Int)} (hl : fs.length = fs'.length) (h1 : ∀ f ∈ fs, 0 < f.2) (h2 : ∀ f ∈ fs', 0 < f.2)
    (h3 : ∀ (i : Nat) (f f' : Int × Int), fs[i]? = some f → fs'[i]? = some f' → f'.1 * f.2 * B = f.1 * A * f'.2) : dealt a (wtsOf fs) = dealt a (wtsOf fs') := by
  have c1 := lcm_is fs 1 (by decide) h1
  have c2 := lcm_is fs' 1 (by decide) h2
  exact dealt_like (Int.mul_pos hA c2.pos) (Int.mul_pos hB c1.pos) (wts_like hA hB fs fs' hl (fun f hf => ⟨h1 f hf, c1.all f hf⟩) (fun f hf => ⟨h2 f hf, c2.all f hf⟩) h3)
theorem wtsOf_sum_pos {fs : List (Int × Int)} (h1 : ∀ f ∈ fs, 0 ≤ f.1 ∧ 0 < f.2) (h2 : ∃ f ∈ fs, 0 < f.1) : 0 < (wtsOf fs).sum ∧ ∀ w ∈ wtsOf fs, 0 ≤ w := by
  have c := lcm_is fs 1 (by decide) (fun f hf => (h1 f hf).2)
  unfold wtsOf
  generalize lcmF 1 fs = L at *
  have q : ∀ f ∈ fs, 0 < L / f.2 := fun f hf => Int.ediv_pos_of_pos_of_dvd c.pos (Int.le_of_lt (h1 f hf).2) (c.all f hf)
  clear c
  have nn : ∀ w ∈ wts L fs, 0 ≤ w := fun w hw => by
    unfold wts at hw
    obtain ⟨f, hf, rfl⟩ := List.mem_map.mp hw
    exact Int.mul_nonneg (h1 f hf).1 (Int.le_of_lt (q f hf))
  refine ⟨?_, nn⟩
  induction fs with
  | nil => obtain ⟨f, hf, _⟩ := h2; cases hf
  | cons g fs ih =>
    unfold wts
    rw [List.map_cons, List.sum_cons]
    have g0 : 0 ≤ g.1 * (L / g.2) := nn _ (by unfold wts; rw [List.map_cons]; exact List.mem_cons_self)
    have rest : ∀ (xs : List Int), (∀ w ∈ xs, 0 ≤ w) → 0 ≤ xs.sum := fun xs => by
      induction xs with
      | nil => intro _; exact Int.le_refl 0
      | cons x xs ihx =>
        intro hx
        rw [List.sum_cons]
        have a := hx x List.mem_cons_self
        have b := ihx (fun w hw => hx w (List.mem_cons_of_mem _ hw))
        omega
    have r0 : 0 ≤ (fs.map fun f => f.1 * (L / f.2)).sum := rest _ (fun w hw => nn w (by unfold wts; rw [List.map_cons]; exact List.mem_cons_of_mem _ hw))
    obtain ⟨f, hf, hp⟩ := h2
    rcases List.mem_cons.mp hf with rfl | hf
    · have := Int.mul_pos hp (q f List.mem_cons_self)
      omega
    · have ih2 := ih (fun f hf => h1 f (List.mem_cons_of_mem _ hf)) ⟨f, hf, hp⟩ (fun f hf => q f (List.mem_cons_of_mem _ hf)) (fun w hw => nn w (by unfold wts at *; rw [List.map_cons]; exact List.mem_cons_of_mem _ hw))
      unfold wts at ih2
      omega
theorem wtsOf_len (fs : List (Int × Int)) : (wtsOf fs).length = fs.length := by unfold wtsOf wts; rw [List.length_map]
/-! ### whole shares -/
theorem lcm_whole : ∀ fs : List (Int × Int), (∀ f ∈ fs, f.2 = 1) → lcmF 1 fs = 1
  | [], _ => rfl
  | f :: fs, h => by
    unfold lcmF
    rw [h f List.mem_cons_self]
    show lcmF (1 / (Int.gcd 1 1 : Int) * 1) fs = 1
    rw [show (1 : Int) / (Int.gcd 1 1 : Int) * 1 = 1 by decide]
    exact lcm_whole fs (fun g hg => h g (List.mem_cons_of_mem _ hg))
theorem wtsOf_whole (ts : List Int) : wtsOf (ts.map fun t => (t, 1)) = ts := by
  unfold wtsOf
  rw [lcm_whole _ (fun f hf => by obtain ⟨t, _, rfl⟩ := List.mem_map.mp hf; rfl)]
  unfold wts
  rw [List.map_map]
  have e : ((fun f : Int × Int => f.1 * (1 / f.2)) ∘ fun t : Int => (t, (1 : Int))) = id := by
    funext t
    show t * (1 / 1) = t
    rw [show (1 : Int) / 1 = 1 by decide, Int.mul_one]
  rw [e, List.map_id]
theorem deal_self {T : Int} (hT : 0 < T) : ∀ (k : Int) (ws : List Int), deal T T k ws = ws
  | _, [] => rfl
  | k, w :: ws => by
    unfold deal
    have e : T * w % T = 0 := Int.mul_emod_right T w
    rw [if_neg (fun z => z.2 e), Int.mul_ediv_cancel_left w (by omega), deal_self hT k ws]
theorem dealt_self {ws : List Int} (hT : 0 < ws.sum) : dealt ws.sum ws = ws := deal_self hT _ _
theorem deal_more {a T t : Int} (hT : 0 < T) : ∀ (k : Int) (ws : List Int), deal (a + t * T) T k ws = List.zipWith (fun p w => p + t * w) (deal a T k ws) ws
  | _, [] => rfl
  | k, w :: ws => by
    have e : (a + t * T) * w = a * w + T * (t * w) := by
      rw [Int.add_mul]
      congr 1
      ac_rfl
    have e1 : (a + t * T) * w / T = a * w / T + t * w := by
      rw [e, Int.add_mul_ediv_left _ _ (by omega)]
    have e2 : (a + t * T) * w % T = a * w % T := by
      rw [e, Int.add_mul_emod_self_left]
    unfold deal
    rw [e1, e2]
    by_cases h : 0 < k ∧ a * w % T ≠ 0
    · rw [if_pos h, if_pos h, deal_more hT (k - 1) ws, List.zipWith_cons_cons]
      congr 1
      omega
    · rw [if_neg h, if_neg h, deal_more hT k ws, List.zipWith_cons_cons]
theorem bases_more {a T t : Int} (hT : 0 < T) : ∀ ws : List Int, (bases (a + t * T) T ws).sum = (bases a T ws).sum + t * ws.sum
  | [] => by
    show (0 : Int) = 0 + t * 0
    simp
  | w :: ws => by
    have ih := bases_more (a := a) (t := t) hT ws
    have e : (a + t * T) * w = a * w + T * (t * w) := by
      rw [Int.add_mul]
      congr 1
      ac_rfl
    have e1 : (a + t * T) * w / T = a * w / T + t * w := by
      rw [e, Int.add_mul_ediv_left _ _ (by omega)]
    unfold bases at *
    rw [List.map_cons, List.map_cons, List.sum_cons, List.sum_cons, List.sum_cons, ih, e1, Int.mul_add]
    omega
theorem dealt_more {a t : Int} {ws : List Int} (hT : 0 < ws.sum) : dealt (a + t * ws.sum) ws = List.zipWith (fun p w => p + t * w) (dealt a ws) ws := by
  unfold dealt
  rw [bases_more hT, deal_more hT]
  congr 2
  omega
/-! ### noughts between -/
def trues : Nat → List Bool → List Nat
  | _, [] => []
  | n, true :: r => n :: trues (n + 1) r
  | n, false :: r => trues (n + 1) r
theorem trues_append : ∀ (a b : List Bool) (n : Nat), trues n (a ++ b) = trues n a ++ trues (n + a.length) b
  | [], b, n => by simp [trues]
  | true :: a, b, n => by
    have := trues_append a b (n + 1)
    simp only [List.cons_append, trues, this, List.length_cons]
    rw [show n + 1 + a.length = n + (a.length + 1) by omega]
  | false :: a, b, n => by
    have := trues_append a b (n + 1)
    simp only [List.cons_append, trues, this, List.length_cons]
    rw [show n + 1 + a.length = n + (a.length + 1) by omega]
theorem trues_false : ∀ (z n : Nat), trues n (List.replicate z false) = []
  | 0, n => rfl
  | z + 1, n => by rw [List.replicate_succ]; exact trues_false z (n + 1)
theorem trues_mem : ∀ (m : List Bool) (n q : Nat), q ∈ trues n m ↔ n ≤ q ∧ m[q - n]? = some true
  | [], n, q => by simp [trues]
  | true :: m, n, q => by
    have ih := trues_mem m (n + 1) q
    simp only [trues, List.mem_cons, ih]
    constructor
    · rintro (rfl | ⟨h1, h2⟩)
      · simp
      · refine ⟨by omega, ?_⟩
        rw [show q - n = (q - (n + 1)) + 1 by omega]
        simpa using h2
    · rintro ⟨h1, h2⟩
      by_cases e : q = n
      · exact .inl e
      · right
        refine ⟨by omega, ?_⟩
        rw [show q - n = (q - (n + 1)) + 1 by omega] at h2
        simpa using h2
  | false :: m, n, q => by
    have ih := trues_mem m (n + 1) q
    simp only [trues, ih]
    constructor
    · rintro ⟨h1, h2⟩
      refine ⟨by omega, ?_⟩
      rw [show q - n = (q - (n + 1)) + 1 by omega]
      simpa using h2
    · rintro ⟨h1, h2⟩
      by_cases e : q = n
      · subst e
        simp at h2
      · refine ⟨by omega, ?_⟩
        rw [show q - n = (q - (n + 1)) + 1 by omega] at h2
        simpa using h2
theorem trues_lt {m : List Bool} {q : Nat} (h : q ∈ trues 0 m) : q < m.length := by
  have := ((trues_mem m 0 q).mp h).2
  rw [Nat.sub_zero] at this
  exact (List.getElem?_eq_some_iff.mp this).1
/-- what stands at the marked places -/
theorem trues_pick : ∀ (m : List (Bool × Int)) (pre : List Int), (trues pre.length (m.map (·.1))).map (fun p => (pre ++ m.map (·.2)).getD p 0) = (m.filter (·.1)).map (·.2)
  | [], pre => rfl
  | (true, v) :: m, pre => by
    have ih := trues_pick m (pre ++ [v])
    simp only [List.length_append, List.length_cons, List.length_nil, List.append_assoc, List.cons_append, List.nil_append] at ih
    simp only [List.map_cons, trues, List.filter_cons, if_true]
    rw [show pre.length + 1 = pre.length + (0 + 1) by omega, ih]
    congr 1
    simp [List.getD]
  | (false, v) :: m, pre => by
    have ih := trues_pick m (pre ++ [v])
    simp only [List.length_append, List.length_cons, List.length_nil, List.append_assoc, List.cons_append, List.nil_append] at ih
    simp only [List.map_cons, trues, List.filter_cons]
    rw [show pre.length + 1 = pre.length + (0 + 1) by omega, ih]
    simp
def Naught (m : List (Bool × Int)) : Prop := ∀ x ∈ m, x.1 = false → x.2 = 0
theorem sum_naught : ∀ m : List (Bool × Int), Naught m → (m.map (·.2)).sum = ((m.filter (·.1)).map (·.2)).sum
  | [], _ => rfl
  | (true, v) :: m, h => by
    have ih := sum_naught m (fun x hx => h x (List.mem_cons_of_mem _ hx))
    simp only [List.map_cons, List.sum_cons, List.filter_cons, if_true, ih]
  | (false, v) :: m, h => by
    have ih := sum_naught m (fun x hx => h x (List.mem_cons_of_mem _ hx))
    have e : v = 0 := h _ List.mem_cons_self rfl
    subst e
    simp only [List.map_cons, List.sum_cons, List.filter_cons, ih]
    simp
/-- the pennies with their marks -/
def marked (a T : Int) : Int → List (Bool × Int) → List (Bool × Int)
  | _, [] => []
  | k, (b, w) :: m => if 0 < k ∧ a * w % T ≠ 0 then (b, a * w / T + 1) :: marked a T (k - 1) m else (b, a * w / T) :: marked a T k m
theorem marked_snd (a T : Int) : ∀ (k : Int) (m : List (Bool × Int)), (marked a T k m).map (·.2) = deal a T k (m.map (·.2))
  | _, [] => rfl
  | k, (b, w) :: m => by
    unfold marked
    rw [List.map_cons]
    unfold deal
    split
    · rw [List.map_cons, marked_snd a T (k - 1) m]
    · rw [List.map_cons, marked_snd a T k m]
theorem marked_fst (a T : Int) : ∀ (k : Int) (m : List (Bool × Int)), (marked a T k m).map (·.1) = m.map (·.1)
  | _, [] => rfl
  | k, (b, w) :: m => by
    unfold marked
    rw [List.map_cons]
    split
    · rw [List.map_cons, marked_fst a T (k - 1) m]
    · rw [List.map_cons, marked_fst a T k m]
theorem marked_pick (a T : Int) : ∀ (k : Int) (m : List (Bool × Int)), Naught m → ((marked a T k m).filter (·.1)).map (·.2) = deal a T k ((m.filter (·.1)).map (·.2))
  | _, [], _ => rfl
  | k, (true, w) :: m, h => by
    have ih := fun k => marked_pick a T k m (fun x hx => h x (List.mem_cons_of_mem _ hx))
    unfold marked
    simp only [List.filter_cons, if_true, List.map_cons]
    unfold deal
    split
    · simp only [List.filter_cons, if_true, List.map_cons, ih]
    · simp only [List.filter_cons, if_true, List.map_cons, ih]
  | k, (false, w) :: m, h => by
    have ih := fun k => marked_pick a T k m (fun x hx => h x (List.mem_cons_of_mem _ hx))
    have e : w = 0 := h _ List.mem_cons_self rfl
    subst e
    unfold marked
    have e0 : a * 0 % T = 0 := by rw [Int.mul_zero, Int.zero_emod]
    rw [if_neg (fun z => z.2 e0)]
    simp [List.filter_cons, ih]
theorem marked_naught (a T : Int) : ∀ (k : Int) (m : List (Bool × Int)), Naught m → Naught (marked a T k m)
  | _, [], _ => fun x hx => by cases hx
  | k, (b, w) :: m, h => by
    have ih := fun k => marked_naught a T k m (fun x hx => h x (List.mem_cons_of_mem _ hx))
    have h0 := h _ List.mem_cons_self
    unfold marked
    split
    · rename_i hc
      intro x hx hf
      rcases List.mem_cons.mp hx with rfl | hx
      · have e : w = 0 := h0 hf
        subst e
        exact absurd (by rw [Int.mul_zero, Int.zero_emod]) hc.2
      · exact ih _ x hx hf
    · intro x hx hf
      rcases List.mem_cons.mp hx with rfl | hx
      · have e : w = 0 := h0 hf
        subst e
        show a * 0 / T = 0
        rw [Int.mul_zero, Int.zero_ediv]
      · exact ih _ x hx hf
theorem bases_naught (a T : Int) (m : List (Bool × Int)) (h : Naught m) : (bases a T (m.map (·.2))).sum = (bases a T ((m.filter (·.1)).map (·.2))).sum := by
  have e := sum_naught (m.map fun x => (x.1, a * x.2 / T)) (fun x hx hf => by
    obtain ⟨y, hy, rfl⟩ := List.mem_map.mp hx
    have : y.2 = 0 := h y hy hf
    show a * y.2 / T = 0
    rw [this, Int.mul_zero, Int.zero_ediv])
  unfold bases
  simp only [List.map_map, List.filter_map] at *
  exact e
/-- the pennies of a row with noughts between -/
theorem dealt_naught (a : Int) (m : List (Bool × Int)) (h : Naught m) : ∃ m' : List (Bool × Int), m'.map (·.2) = dealt a (m.map (·.2)) ∧ m'.map (·.1) = m.map (·.1) ∧ Naught m' ∧ (m'.filter (·.1)).map (·.2) = dealt a ((m.filter (·.1)).map (·.2)) := by
  refine ⟨marked a (m.map (·.2)).sum (a - (bases a (m.map (·.2)).sum (m.map (·.2))).sum) m, marked_snd .., marked_fst .., marked_naught _ _ _ _ h, ?_⟩
  rw [marked_pick _ _ _ _ h, bases_naught _ _ _ h, sum_naught m h]
  rfl
end WdM

set_option Elab.async false
set_option linter.all false
set_option maxRecDepth 100000
set_option maxHeartbeats 4000000
namespace Wd
open PySem PySem.Spec PyProof.Rows L2 WdM
/-! ### heaps: all but some addresses stand -/
def Bt (S : List Addr) (H H' : Hp) : Prop := ∀ b o, b ∉ S → H b = some o → H' b = some o
theorem Bt.refl {S : List Addr} (H : Hp) : Bt S H H := fun _ _ _ h => h
theorem Bt.trans {S : List Addr} {H H1 H2 : Hp} (a : Bt S H H1) (b : Bt S H1 H2) : Bt S H H2 := fun c o n h => b c o n (a c o n h)
theorem Bt.of_same {S : List Addr} {H H' : Hp} (e : Same H H') : Bt S H H' := fun b o _ h => e b o h
theorem Bt.same {H H' : Hp} (e : Bt [] H H') : Same H H' := fun b o h => e b o (by simp) h
theorem Bt.wide {S T : List Addr} {H H' : Hp} (h : ∀ a ∈ S, a ∈ T) (e : Bt S H H') : Bt T H H' := fun b o n q => e b o (fun z => n (h b z)) q
theorem Bt.new {S : List Addr} {H H1 : Hp} {p : Addr} {o : HO} (e : Bt S H H1) (h : H1 p = none) : Bt S H (upd H1 p o) := fun b x n q => by
  have q1 := e b x n q
  rw [upd_ne (ne_of_none q1 h)]
  exact q1
theorem Bt.upd0 {S : List Addr} {H H1 : Hp} {p : Addr} {o : HO} (e : Bt S H H1) (h : H p = none) : Bt S H (upd H1 p o) := fun b x n q => by
  rw [upd_ne (ne_of_none q h)]
  exact e b x n q
theorem Bt.upd1 {S : List Addr} {H H1 : Hp} {p : Addr} {o : HO} (e : Bt S H H1) (h : p ∈ S) : Bt S H (upd H1 p o) := fun b x n q => by
  rw [upd_ne (fun z => n (by rw [z]; exact h))]
  exact e b x n q
theorem Bt.none {S : List Addr} {H H' : Hp} (e : Bt S H H') {p : Addr} (hS : p ∉ S) (h : H' p = none) : H p = none := by
  cases q : H p with
  | none => rfl
  | some o => rw [e p o hS q] at h; cases h
/-! ### tuples stand where lists change -/
def Tk (H H' : Hp) : Prop := ∀ a xs, Rd H a (.tup xs) → Rd H' a (.tup xs)
theorem Tk.refl (H : Hp) : Tk H H := fun _ _ h => h
theorem Tk.trans {H H1 H2 : Hp} (a : Tk H H1) (b : Tk H1 H2) : Tk H H2 := fun c xs h => b c xs (a c xs h)
theorem Tk.sq {K : PySem.W.Frag} {H H' : Hp} {a : Addr} {xs : List V} (t : Tk H H') (h : SqT K H a xs) : SqT K H' a xs := by
  rcases h with h | h
  · exact .inl (t _ _ h)
  · exact .inr h
theorem Bt.tk {S : List Addr} {H H' : Hp} (e : Bt S H H') (h : ∀ l ∈ S, ∃ zs, H l = some (.lst zs)) : Tk H H' := fun a xs r => by
  rcases r with r | ⟨o, r⟩
  · refine .inl (e a _ (fun z => ?_) r)
    obtain ⟨zs, q⟩ := h a z
    rw [q] at r; cases r
  · refine .inr ⟨o, e a _ (fun z => ?_) r⟩
    obtain ⟨zs, q⟩ := h a z
    rw [q] at r; cases r
theorem tk_same {H H' : Hp} (e : Same H H') : Tk H H' := (Bt.of_same (S := []) e).tk (fun l h => by cases h)
theorem tk_new {H : Hp} {p : Addr} {o : HO} (h : H p = none) : Tk H (upd H p o) := tk_same ((Bt.refl (S := []) H).new h).same
theorem tk_lst {H : Hp} {p : Addr} {zs : List V} {o : HO} (h : H p = some (.lst zs)) : Tk H (upd H p o) := ((Bt.refl (S := [p]) H).upd1 (by simp)).tk (fun l hl => by
  rw [List.mem_singleton.mp hl]; exact ⟨zs, h⟩)
theorem sqT {K : PySem.W.Frag} {H : Hp} {a : Addr} {xs : List V} (h : H a = some (.tup xs)) : SqT K H a xs := .inl (.inl h)
theorem sqL {K : PySem.W.Frag} {H : Hp} {a : Addr} {xs : List V} (h : H a = some (.lst xs)) : SqL K H a xs := .inl (.inl h)
theorem same_new {H : Hp} {p : Addr} {o : HO} (h : H p = none) : Same H (upd H p o) := ((Bt.refl (S := []) H).new h).same
/-! ### fractions in the heap -/
def Fr (K : PySem.W.Frag) (H : Hp) (v : V) (f : Int × Int) : Prop := ∃ a, v = .ref a ∧ SqT K H a [.int f.1, .int f.2]
def FrAll (K : PySem.W.Frag) (H : Hp) (xs : List V) (fs : List (Int × Int)) : Prop := xs.length = fs.length ∧ ∀ (i : Nat) (x : V) (f : Int × Int), xs[i]? = some x → fs[i]? = some f → Fr K H x f
def Sh (K : PySem.W.Frag) (H : Hp) (v : V) (fs : List (Int × Int)) : Prop := ∃ a xs, v = .ref a ∧ SqT K H a xs ∧ FrAll K H xs fs
theorem Fr.tk {K : PySem.W.Frag} {H H' : Hp} {v : V} {f : Int × Int} (t : Tk H H') (h : Fr K H v f) : Fr K H' v f := by
  obtain ⟨a, e, s⟩ := h
  exact ⟨a, e, t.sq s⟩
theorem FrAll.tk {K : PySem.W.Frag} {H H' : Hp} {xs : List V} {fs : List (Int × Int)} (t : Tk H H') (h : FrAll K H xs fs) : FrAll K H' xs fs := ⟨h.1, fun i x f a b => (h.2 i x f a b).tk t⟩
theorem Sh.tk {K : PySem.W.Frag} {H H' : Hp} {v : V} {fs : List (Int × Int)} (t : Tk H H') (h : Sh K H v fs) : Sh K H' v fs := by
  obtain ⟨a, xs, e, s, q⟩ := h
  exact ⟨a, xs, e, t.sq s, q.tk t⟩
theorem FrAll.nil {K : PySem.W.Frag} {H : Hp} : FrAll K H [] [] := ⟨rfl, fun i x f a _ => by simp at a⟩
theorem FrAll.append {K : PySem.W.Frag} {H : Hp} {xs ys : List V} {fs gs : List (Int × Int)} (h : FrAll K H xs fs) (h' : FrAll K H ys gs) : FrAll K H (xs ++ ys) (fs ++ gs) := by
  refine ⟨by rw [List.length_append, List.length_append, h.1, h'.1], fun i x f a b => ?_⟩
  by_cases hi : i < xs.length
  · rw [List.getElem?_append_left hi] at a
    rw [List.getElem?_append_left (by rw [← h.1]; exact hi)] at b
    exact h.2 i x f a b
  · rw [List.getElem?_append_right (by omega)] at a
    rw [List.getElem?_append_right (by rw [← h.1]; omega)] at b
    exact h'.2 (i - xs.length) x f a (by rw [h.1]; exact b)
theorem FrAll.one {K : PySem.W.Frag} {H : Hp} {x : V} {f : Int × Int} (h : Fr K H x f) : FrAll K H [x] [f] := ⟨rfl, fun i y g a b => by
  cases i with
  | zero => cases a; cases b; exact h
  | succ i => simp at a⟩
theorem FrAll.snoc {K : PySem.W.Frag} {H : Hp} {xs : List V} {fs : List (Int × Int)} {x : V} {f : Int × Int} (h : FrAll K H xs fs) (h' : Fr K H x f) : FrAll K H (xs ++ [x]) (fs ++ [f]) := h.append (.one h')
theorem FrAll.reverse {K : PySem.W.Frag} {H : Hp} {xs : List V} {fs : List (Int × Int)} (h : FrAll K H xs fs) : FrAll K H xs.reverse fs.reverse := by
  refine ⟨by rw [List.length_reverse, List.length_reverse, h.1], fun i x f a b => ?_⟩
  have hi : i < xs.length := by
    have := (List.getElem?_eq_some_iff.mp a).1
    rwa [List.length_reverse] at this
  rw [List.getElem?_reverse hi] at a
  rw [List.getElem?_reverse (by rw [← h.1]; exact hi), ← h.1] at b
  exact h.2 _ x f a b
theorem FrAll.drop {K : PySem.W.Frag} {H : Hp} {xs : List V} {fs : List (Int × Int)} (n : Nat) (h : FrAll K H xs fs) : FrAll K H (xs.drop n) (fs.drop n) := by
  refine ⟨by rw [List.length_drop, List.length_drop, h.1], fun i x f a b => ?_⟩
  rw [List.getElem?_drop] at a b
  exact h.2 _ x f a b
theorem FrAll.get {K : PySem.W.Frag} {H : Hp} {xs : List V} {fs : List (Int × Int)} {i : Nat} {x : V} (h : FrAll K H xs fs) (e : xs[i]? = some x) : ∃ f p, fs[i]? = some f ∧ x = .ref p ∧ SqT K H p [.int f.1, .int f.2] := by
  have hi : i < fs.length := by
    rw [← h.1]
    exact (List.getElem?_eq_some_iff.mp e).1
  obtain ⟨p, rfl, s⟩ := h.2 i x _ e (List.getElem?_eq_getElem hi)
  exact ⟨_, p, List.getElem?_eq_getElem hi, rfl, s⟩
/-! ### ints of lists by place -/
theorem ints_get {ns : List Int} {i : Nat} {x : V} (h : (ns.map V.int)[i]? = some x) : ∃ n, ns[i]? = some n ∧ x = .int n := by
  rw [List.getElem?_map] at h
  cases e : ns[i]? with
  | none => rw [e] at h; cases h
  | some n => rw [e] at h; exact ⟨n, rfl, (Option.some.inj h).symm⟩
theorem take_more {α : Type} {l : List α} {i : Nat} {x : α} (h : l[i]? = some x) : l.take (i + 1) = l.take i ++ [x] := by
  rw [List.take_add_one, h]
  rfl
theorem lt_get {α : Type} {l : List α} {i : Nat} {x : α} (h : l[i]? = some x) : i < l.length := (List.getElem?_eq_some_iff.mp h).1
theorem small_line {n m : Nat} (h : n ≤ m) (hm : m ≤ 1000 := by decide) : n ≤ sizeLine := Nat.le_of_lt (small1000 (Nat.le_trans h hm))
/-! ### Euclid -/
theorem gcd_step {a b : Int} (ha : 0 ≤ a) (hb : 0 ≤ b) : Int.gcd b (a % b) = Int.gcd a b := by
  obtain ⟨m, rfl⟩ := Int.eq_ofNat_of_zero_le ha
  obtain ⟨n, rfl⟩ := Int.eq_ofNat_of_zero_le hb
  show Nat.gcd n (((m : Int) % (n : Int))).natAbs = Nat.gcd m n
  rw [← Int.natCast_emod, Int.natAbs_natCast, Nat.gcd_comm n, ← Nat.gcd_rec, Nat.gcd_comm]
theorem gcd_end {a : Int} (ha : 0 ≤ a) : (Int.gcd a 0 : Int) = a := by
  rw [Int.gcd_zero_right]
  omega
theorem canLay_ints : ∀ ns : List Int, PyData.canLayAll0 (ns.map .int) = true
  | [] => by simp [PyData.canLayAll0]
  | n :: ns => by
    rw [List.map_cons]
    unfold PyData.canLayAll0
    rw [canLay_ints ns]
    simp [PyData.canLay0]
theorem depth_ints : ∀ ns : List Int, PyData.depthAll (ns.map .int) = 0
  | [] => by simp [PyData.depthAll]
  | n :: ns => by
    rw [List.map_cons]
    unfold PyData.depthAll
    rw [depth_ints ns]
    simp [PyData.depth]
theorem eqv_ints : ∀ ns : List Int, PyData.eqvAll (ns.map .int) (ns.map .int) = true
  | [] => by simp [PyData.eqvAll]
  | n :: ns => by
    rw [List.map_cons]
    unfold PyData.eqvAll
    rw [eqv_ints ns]
    simp [PyData.eqv]
theorem shT (ns : List Int) : SeqAt.shaped (.tuple (ns.map .int)) = true := by
  unfold SeqAt.shaped PyData.canLay0 PyData.depth
  rw [canLay_ints, depth_ints]
  rfl
theorem shL (ns : List Int) : SeqAt.shaped (.list (ns.map .int)) = true := by
  unfold SeqAt.shaped PyData.canLay0 PyData.depth
  rw [canLay_ints, depth_ints]
  rfl
theorem eqvT (ns : List Int) : PyData.eqv (.tuple (ns.map .int)) (.tuple (ns.map .int)) = true := by
  unfold PyData.eqv
  exact eqv_ints ns
theorem eqvL (ns : List Int) : PyData.eqv (.list (ns.map .int)) (.list (ns.map .int)) = true := by
  unfold PyData.eqv
  exact eqv_ints ns
theorem dInts {K : PySem.W.Frag} {H : Hp} : ∀ ns : List Int, DpAll K H (ns.map V.int) (ns.map PyData.int)
  | [] => .nil
  | n :: ns => .cons (.int n) (dInts ns)
theorem dT {K : PySem.W.Frag} {H : Hp} {a : Addr} {ns : List Int} (h : SqT K H a (ns.map V.int)) : Dp K H (.ref a) (.tuple (ns.map .int)) := .tup h (dInts ns)
theorem dL {K : PySem.W.Frag} {H : Hp} {a : Addr} {ns : List Int} (h : SqL K H a (ns.map V.int)) : Dp K H (.ref a) (.list (ns.map .int)) := .lst h (dInts ns)
theorem tyT {K : PySem.W.Frag} {H : Hp} {a : Addr} {xs : List V} (h : SqT K H a xs) : TyX K H (.ref a) (.type "tuple") := by
  rcases h with (h | ⟨o, h⟩) | ⟨o, its, n, e, c, _⟩
  · exact .base (.tup h)
  · exact .fTuple h
  · exact .kTuple e c
/-! ### sizes -/
theorem lcm_snoc : ∀ (fs : List (Int × Int)) (b : Int) (f : Int × Int), lcmF b (fs ++ [f]) = lcmF b fs / (Int.gcd (lcmF b fs) f.2 : Int) * f.2
  | [], b, f => rfl
  | g :: fs, b, f => lcm_snoc fs _ f
theorem gcd_pos {a b : Int} (h : 0 < b) : (0 : Int) < (Int.gcd a b : Int) := by
  have : Int.gcd a b ≠ 0 := fun z => by
    have := (Int.gcd_eq_zero_iff.mp z).2
    omega
  omega
theorem gcd_le {a b : Int} (h : 0 < b) : (Int.gcd a b : Int) ≤ b := Int.le_of_dvd h (Int.gcd_dvd_right a b)
theorem lcm_bound : ∀ (fs : List (Int × Int)) (b : Int) (m : Nat), 0 < b → b.natAbs < 2 ^ m → (∀ f ∈ fs, 0 < f.2 ∧ f.2.natAbs < 2 ^ 64) → (lcmF b fs).natAbs < 2 ^ (m + 64 * fs.length)
  | [], b, m, _, h, _ => h
  | f :: fs, b, m, hb, h, hf => by
    have ⟨f1, f2⟩ := hf f List.mem_cons_self
    have g0 := gcd_pos (a := b) f1
    have s := step_lcm hb f1
    have q : (b / (Int.gcd b f.2 : Int) * f.2).natAbs < 2 ^ (m + 64) := wide_lt (wide_le (Int.ediv_nonneg (Int.le_of_lt hb) (Int.le_of_lt g0)) (Int.ediv_le_self _ (Int.le_of_lt hb)) h) f2
    have ih := lcm_bound fs _ _ s.1 q (fun g hg => hf g (List.mem_cons_of_mem _ hg))
    rw [List.length_cons, show m + 64 * (fs.length + 1) = m + 64 + 64 * fs.length by omega]
    exact ih
theorem pow_le {a b : Nat} (h : a ≤ b) : 2 ^ a ≤ 2 ^ b := Nat.pow_le_pow_right (by decide) h
/-- shares that can be parted by -/
structure Good (fs : List (Int × Int)) : Prop where
  len0 : 1 ≤ fs.length
  len1 : fs.length ≤ 64
  each : ∀ f ∈ fs, 0 ≤ f.1 ∧ 0 < f.2 ∧ f.1.natAbs < 2 ^ 64 ∧ f.2.natAbs < 2 ^ 64 ∧ Int.gcd f.1 f.2 = 1
  some : ∃ f ∈ fs, 0 < f.1
theorem Good.pos {fs : List (Int × Int)} (g : Good fs) : ∀ f ∈ fs, 0 < f.2 := fun f hf => (g.each f hf).2.1
theorem Good.lcm {fs : List (Int × Int)} (g : Good fs) : Lcm 1 (lcmF 1 fs) fs := lcm_is fs 1 (by decide) g.pos
theorem Good.sum {fs : List (Int × Int)} (g : Good fs) : 0 < (wtsOf fs).sum ∧ ∀ w ∈ wtsOf fs, 0 ≤ w := wtsOf_sum_pos (fun f hf => ⟨(g.each f hf).1, (g.each f hf).2.1⟩) g.some
theorem Good.lcmB {fs : List (Int × Int)} (g : Good fs) : (lcmF 1 fs).natAbs < 2 ^ 4097 :=
  Nat.lt_of_lt_of_le (lcm_bound fs 1 1 (by decide) (by decide) (fun f hf => ⟨(g.each f hf).2.1, (g.each f hf).2.2.2.1⟩)) (pow_le (by have := g.len1; omega))
theorem Good.quo {fs : List (Int × Int)} (g : Good fs) : ∀ f ∈ fs, 0 ≤ lcmF 1 fs / f.2 ∧ (lcmF 1 fs / f.2).natAbs < 2 ^ 4097 := fun f hf => by
  have h0 : 0 ≤ lcmF 1 fs / f.2 := Int.ediv_nonneg (Int.le_of_lt g.lcm.pos) (Int.le_of_lt (g.pos f hf))
  exact ⟨h0, wide_le h0 (Int.ediv_le_self _ (Int.le_of_lt g.lcm.pos)) g.lcmB⟩
theorem Good.wB {fs : List (Int × Int)} (g : Good fs) : ∀ w ∈ wtsOf fs, w.natAbs < 2 ^ 4161 := fun w hw => by
  unfold wtsOf wts at hw
  obtain ⟨f, hf, rfl⟩ := List.mem_map.mp hw
  exact wide_lt (a := 64) (b := 4097) (g.each f hf).2.2.1 (g.quo f hf).2
theorem sum_abs {B : Nat} : ∀ ws : List Int, (∀ w ∈ ws, w.natAbs < B) → ws.sum.natAbs ≤ ws.length * B
  | [], _ => by simp
  | w :: ws, h => by
    have ih := sum_abs ws (fun x hx => h x (List.mem_cons_of_mem _ hx))
    have h0 := h w List.mem_cons_self
    rw [List.sum_cons, List.length_cons, Nat.add_mul, Nat.one_mul]
    have := Int.natAbs_add_le w ws.sum
    omega
theorem Good.sumB {fs : List (Int × Int)} (g : Good fs) : (wtsOf fs).sum.natAbs < 2 ^ 4168 := by
  have h := sum_abs (wtsOf fs) g.wB
  rw [wtsOf_len] at h
  have h1 := g.len1
  have h2 : fs.length * 2 ^ 4161 ≤ 64 * 2 ^ 4161 := Nat.mul_le_mul_right _ h1
  have h3 : 64 * 2 ^ 4161 < 2 ^ 4168 := by
    rw [show (4168 : Nat) = 7 + 4161 by rfl, Nat.pow_add]
    exact Nat.mul_lt_mul_of_pos_right (by decide) (Nat.pow_pos (by decide))
  exact Nat.lt_of_le_of_lt h (Nat.lt_of_le_of_lt h2 h3)
/-! ### a def of the text -/
structure Df (K : PySem.W.Frag) (mg : Str → Option Value) (name : Str) (st : Stmt) (f : Addr) (fd : FuncData) (ps : List Str) : Prop where
  fn : Fun K name name st f fd
  mg : mg name = some (.ref f)
  bd : Binds K fd ps []
end Wd

set_option Elab.async false
set_option linter.all false
set_option maxRecDepth 100000
set_option maxHeartbeats 4000000
namespace Wd
open PySem PySem.Spec PyProof.Rows L2 WdM
/-! ### an exception that was caught and is kept: tracked from then on -/
def ExT (a : Addr) (cls : Value) (d : Option Addr) : HO := .ext fun h => ∃ oe vs, h.get? a = some oe ∧ Zc cls d oe ∧ oe.data = .fields vs
theorem exT_ok {P : Program} {w : World} {H : Hp} {h : Heap} {a : Addr} {cls : Value} {d : Option Addr} {oe : Obj} {vs : Array Value} (g : h.get? a = some oe) (z : Zc cls d oe) (f : oe.data = .fields vs) : ObjOk P w H h a (ExT a cls d) :=
  ⟨⟨oe, vs, g, z, f⟩, ⟨oe, g⟩, fun _ _ ⟨oe, vs, e, r⟩ k => ⟨oe, vs, k _ e, r⟩⟩
theorem exT_at {P : Program} {w : World} {H : Hp} {h : Heap} {a : Addr} {cls : Value} {d : Option Addr} (ok : HOk P w H h) (e : H a = some (ExT a cls d)) : ∃ oe vs, h.get? a = some oe ∧ Zc cls d oe ∧ oe.data = .fields vs := by
  have x : ObjOk P w H h a (.ext fun h => ∃ oe vs, h.get? a = some oe ∧ Zc cls d oe ∧ oe.data = .fields vs) := ok a _ e
  exact x.1
section
variable {X : Cx} {pins : List (Addr × Obj)} {σ : L2.St} {H : Hp} {s : Shared}
theorem track {a : Addr} {oe : Obj} {vs : Array Value} {cls : Value} {d : Option Addr} (I : Inv X ((a, oe) :: pins) σ H s) (hx : X.ex = []) (n0 : X.s_0.heap.get? a = none) (np : ∀ p ∈ X.pn ++ pins, p.1 ≠ a) (z : Zc cls d oe) (f : oe.data = .fields vs) :
    Inv X pins σ (upd H a (ExT a cls d)) s := by
  obtain ⟨ga, na, nl, nf, nc⟩ := I.pin (a, oe) (List.mem_append_right _ List.mem_cons_self)
  have far : ∀ {b : Addr} {u : HO}, H b = some u → b ≠ a := fun {b u} e z => by rw [z, na] at e; cases e
  refine { ok := I.ok, os := I.os, bare := I.bare, loc := I.loc, cell := I.cell, len := I.len, base := ?_, free := ?_, freeC := ?_, pin := ?_, hok := ?_ }
  · exact { keep := I.base.keep, slot := I.base.slot, there := I.base.there,
            free := fun b o e n k => by
              rw [upd_ne (fun z => by rw [z, n0] at e; cases e)]
              exact I.base.free b o e n k
            tups := fun b xs e => by
              have q := I.base.tups b xs e
              rw [upd_ne (far q)]
              exact q
            frzs := fun b o u e => by
              have q := I.base.frzs b o u e
              rw [upd_ne (far q)]
              exact q
            tbls := fun b ps e => by
              obtain ⟨m, q⟩ := I.base.tbls b ps e
              exact ⟨m, by rw [upd_ne (far q)]; exact q⟩ }
  · rw [upd_ne (Ne.symm nl)]
    exact I.free
  · intro x c e
    rw [upd_ne (fun z => by
      obtain ⟨v, o, go, eo⟩ := I.cell x c e
      rw [z, ga] at go
      cases go
      exact nc _ eo)]
    exact I.freeC x c e
  · intro p hp
    obtain ⟨e1, e2, e3⟩ := I.pin p (by
      rcases List.mem_append.mp hp with h | h
      · exact List.mem_append_left _ h
      · exact List.mem_append_right _ (List.mem_cons_of_mem _ h))
    exact ⟨e1, by rw [upd_ne (np p hp)]; exact e2, e3⟩
  · intro b u e
    by_cases hb : b = a
    · subst hb
      rw [upd_same] at e
      cases e
      exact exT_ok ga z f
    · rw [upd_ne hb] at e
      exact (I.hok b u e).stay (fun _ _ _ q => q) (fun c q => by rw [upd_ne (far q)]; exact q) fun c xs q => by rw [upd_ne (far q)]; exact q
end
/-- what «except x as n» wishes, where what was caught is looked at behind the suite: all that is raised is of x, and the suite runs to its end -/
def wGot (K : PySem.W.Frag) (c : Value) (i : Nat) (ts : Addr → Value → Option Addr → TS) (D : Ends) : WX := fun cls d σ H =>
  PySem.W.exmOne K cls c = some true ∧ ∀ a, H a = none → ts a cls d { nx := fun σ' H' => D.nx (σ'.set i none) (upd H' a (ExT a cls d)), rt := fun _ _ => False, bk := fun _ _ => False, ct := fun _ _ => False } (σ.set i (some (.ref a))) H
section
variable {X : Cx} {x n : Str} {c : Value} {i : Nat} {body suite : List Stmt} {b0 : Stmt} {np pos pos' : Pos} {tb : WX → TS} {ts : Addr → Value → Option Addr → TS}
theorem ps_try_got (top : X.stack = X.env :: X.outer) (fr : X.env.frame = some X.env.locals) (hex : X.ex = []) (nd : X.N.Nodup) (hi : X.N[i]? = some n) (loc : X.env.kindOf n = some .local) (hc : Names X x c)
    (runs : ∀ (W : WX) (pn : List (Addr × Obj)) (xe : Value → Shared → Prop), Takes (X.tr pn xe) W → PassesOwn (model X.prog X.w) X.A X.env xe → PSs (X.tr pn xe) body (tb W))
    (hsu : ∀ (a : Addr) (oe : Obj) (cls : Value) (d : Option Addr) (pn : List (Addr × Obj)), Zc cls d oe → (∃ vs, oe.data = .fields vs) → PSs (X.suite a ((a, oe) :: pn)) (b0 :: suite) (ts a cls d)) :
    PS X (.Try body [.ExceptHandler (some (.Name x np)) (some n) (b0 :: suite) pos'] [] [] pos) (fun D σ H => tb (wGot X.K c i ts D) D σ H) where
  run := by
    intro pins s σ H D I h
    have ok := I.ok
    have frames : X.A.frames = some (X.env :: X.outer) := by rw [ok.frames, top]
    refine wpAny_Try_except (wpAny_mono ((runs (wGot X.K c i ts D) (X.pn ++ pins) (fun e s₁ => wpAny (model X.prog X.w) X.A (noteFrame e X.env) (fun _ s₂ => wpAny (model X.prog X.w) X.A (setFlight e none) (fun _ s₃ =>
      wpAny (model X.prog X.w) X.A (handleBy e X.env [.ExceptHandler (some (.Name x np)) (some n) (b0 :: suite) pos']) (SP X pins D) X.xe s₃) X.xe s₂) X.xe s₁) ?_ PassesOwn.looking).run [] s σ H D (I.toTry _) h) ?_ (fun e s1 he => he))
    · rintro _ s' ⟨a, B, sI, pins', σ', H', cls, d, rfl, J0, nb, up, sky, na, os, ag, is, go⟩
      have J : Inv X pins σ' H' sI := J0.ofTry ok
      show wpAny (model X.prog X.w) X.A (noteFrame (Value.ref a) X.env) _ _ _
      refine Sky.land Zc.steady frames fr (top ▸ sky) fun h3 fl3 up3 => ?_
      have J3 : Inv X pins σ' H' { s' with heap := h3 } := Inv.landed J nb fl3.1 (up.trans up3) os ag
      obtain ⟨oe3, vs3, g3, z3, d3⟩ := fl3.there
      have gone : B.get? a = none := fl3.2.1
      have out : a ∉ frs (X.env :: X.outer) := fun m => by
        obtain ⟨_, o, e, no⟩ := fl3.2.2.1.mem m
        rw [g3] at e
        cases e
        exact no _ d3
      have nL : a ≠ X.env.locals := fun z => out (List.mem_filterMap.mpr ⟨X.env, List.mem_cons_self, by rw [fr, z]⟩)
      have nF : a ∉ X.fs := fun m => by
        obtain ⟨e, he, q⟩ := List.mem_filterMap.mp m
        exact out (List.mem_filterMap.mpr ⟨e, List.mem_cons_of_mem _ he, q⟩)
      have fresh : ∀ b o, sI.heap.get? b = some o → b ∉ frs X.stack → b ≠ a := fun b o e m z => by
        have q := nb b o e m
        rw [z, gone] at q
        cases q
      have n0 : X.s_0.heap.get? a = Option.none := by
        cases e : Heap.get? X.s_0.heap a with
        | none => rfl
        | some o =>
          obtain ⟨o', e'⟩ := J.base.there a o e (by rw [hex]; exact fun z => nomatch z)
          exact absurd rfl (fresh a o' e' (by rw [top]; exact out))
      have npin : ∀ p ∈ X.pn ++ pins, p.1 ≠ a := fun p hp => by
        obtain ⟨e1, _, e3, e4, _⟩ := J.pin p hp
        refine fresh p.1 p.2 e1 (fun m => ?_)
        rw [top] at m
        obtain ⟨e, he, q⟩ := List.mem_filterMap.mp m
        rcases List.mem_cons.mp he with rfl | he
        · rw [fr] at q
          exact e3 (Option.some.inj q).symm
        · exact e4 (List.mem_filterMap.mpr ⟨e, he, q⟩)
      have S3 := J3.suite g3 d3 na nL nF
      refine wpAny_handleBy_cons (codeAny_handlers_test ?_) (fun z => by cases z)
      have isCls : PySem.W.Looks (model X.prog X.w) h3 (typeOf (.ref a)) cls := fun A Q E s k q => wpAny_typeOf_ref (k _ _ g3) (by rw [z3.1]; exact q)
      have matches_ := PySem.W.exm_one (M := model X.prog X.w) J3.kIn isCls is
      have named : ∀ {Q : Value → Shared → Prop} {E : Value → Shared → Prop}, Q c { s' with heap := h3 } → wpAny (model X.prog X.w) (X.A.mark (some (.ref a))) (eval (.Name x np) X.env) Q E { s' with heap := h3 } := fun {Q E} q => by
        rcases hc with ⟨gl, nb2, own | ⟨no, blt, nn⟩⟩
        · exact ld_glob (X := X.suite a ((a, oe3) :: (X.pn ++ pins))) S3 gl own q nb2
        · exact ld_blt (X := X.suite a ((a, oe3) :: (X.pn ++ pins))) S3 gl no blt q nn nb2
      refine named (matches_.here (codeAny_handlers_suite_as (HandSPX.lands_againZ fl3 fun h4 fl4 up4 => ?_)))
      have J4 : Inv X pins σ' H' { s' with heap := h4 } := Inv.landed J nb fl4.1 ((up.trans up3).trans up4) os ag
      obtain ⟨oe4, vs4, g4, z4, d4⟩ := fl4.there
      refine store_ok (X := X.suite a ((a, oe4) :: (X.pn ++ pins))) (v := .ref a) (J4.suite g4 d4 na nL nF) nd hi (.inl loc) rfl (fun s5 S5 => ?_) (.inr loc)
      refine wpAny_mono ((hsu a oe4 cls d (X.pn ++ pins) z4 ⟨_, d4⟩).run [] s5 _ H' _ S5 (go a na)) (fun f s6 ends => ?_) (fun _ _ z => False.elim z)
      cases f with
      | next =>
        obtain ⟨σ6, H6, S6, q6⟩ := ends
        have K6 : Inv X ((a, oe4) :: pins) σ6 H6 s6 := { ok := ok, os := S6.os, bare := S6.bare, base := S6.base, loc := S6.loc, cell := S6.cell, free := S6.free, freeC := S6.freeC, hok := S6.hok, len := S6.len, pin := fun p hp => S6.pin p (by
          rw [List.append_nil]
          rcases List.mem_append.mp hp with h | h
          · exact List.mem_cons_of_mem _ (List.mem_append_left _ h)
          · rcases List.mem_cons.mp h with rfl | h
            · exact List.mem_cons_self
            · exact List.mem_cons_of_mem _ (List.mem_append_right _ h)) }
        exact gone_ok K6 nd hi loc fun s7 K7 => ⟨_, _, track K7 hex n0 npin z4 d4, q6⟩
      | brk => exact ends.elim fun _ e => e.elim fun _ e => e.2.elim
      | cont => exact ends.elim fun _ e => e.elim fun _ e => e.2.elim
      | ret u => exact ends.elim fun _ e => e.elim fun _ e => e.elim fun _ e => e.2.2.elim
    · intro f s1 ends
      cases f with
      | next => exact ends.elim fun σ' e => e.elim fun H' e => wpAny_execs_nil ⟨σ', H', e.1.ofTry ok, e.2⟩
      | brk => exact ends.elim fun σ' e => e.elim fun H' e => ⟨σ', H', e.1.ofTry ok, e.2⟩
      | cont => exact ends.elim fun σ' e => e.elim fun H' e => ⟨σ', H', e.1.ofTry ok, e.2⟩
      | ret u => exact ends.elim fun v e => e.elim fun σ' e => e.elim fun H' e => ⟨v, σ', H', e.1.ofTry ok, e.2⟩
end
/-! ### what is asked of a kept error -/
/-- isinstance(e, c) -/
def rIsT (K : PySem.W.Frag) : List V → Hp → VK → Prop := fun xs H Q => ∃ (a D : Addr) (d : Option Addr) (c : V) (cv : Value) (b : Bool), xs = [.ref a, c] ∧ H a = some (ExT a (.ref D) d) ∧ (∀ dx, d = some dx → ∃ fs, H dx = some (.xd fs)) ∧ ExcC K D ∧ ClsV c cv ∧ PySem.W.kitOne K (.ref D) cv = some b ∧ Q (.bl b) H
theorem instT {P : Program} {w : World} {H : Hp} {h : Heap} {a D : Addr} {d : Option Addr} (ok : HOk P w H h) (e : H a = some (ExT a (.ref D) d)) (xd : ∀ dx, d = some dx → ∃ fs, H dx = some (.xd fs)) : ∃ oe od, PySem.W.InstAt h a oe D od := by
  obtain ⟨oe, vs, g, ⟨z1, z2⟩, f⟩ := exT_at ok e
  cases d with
  | none => exact ⟨oe, none, g, z1, by unfold PySem.W.notCls; rw [f], by rw [z2]; trivial⟩
  | some dx =>
    obtain ⟨fs, ed⟩ := xd dx rfl
    have at_ : ObjOk P w H h dx (.xd fs) := ok dx _ ed
    obtain ⟨m, ns, _⟩ := at_
    obtain ⟨od, ho, _⟩ := lookIn_ns ns
    exact ⟨oe, some od, g, z1, by unfold PySem.W.notCls; rw [f], by rw [z2]; exact ho⟩
theorem call_isT {X : Cx} : CallR X (.builtin "isinstance") (rIsT X.K) := by
  rintro pins s σ H _ us Q I rel ⟨a, D, d, c, cv, b, rfl, e, xd, C, cls, ans, want⟩
  obtain ⟨u1, u2, rfl, r1, r2⟩ := vals2 rel
  cases r1
  obtain rfl := cls.eq r2
  obtain ⟨oe, od, J⟩ := instT I.hok e xd
  have some_ : (PySem.W.clsIn X.K D).isSome = true := by
    obtain ⟨cd, hc, _⟩ := PySem.W.any_some C.hd
    rw [hc]
    rfl
  exact PySem.W.kia_one (PySem.W.kitx_exc some_ C.hg C.hk C.hs C.ha C.hn C.ht C.hm) I.kIn J ans (fun z => nomatch z) fun tk => ⟨.bl b, H, I.tok tk, rfl, want⟩
/-- e.n -/
def tXt (K : PySem.W.Frag) (n : Str) (te : TE) : TE := fun σ H Q => te σ H fun x H1 => ∃ (a C dd : Addr) (fs : List (Str × V)) (v : V), x = .ref a ∧ H1 a = some (ExT a (.ref C) (some dd)) ∧ XfC K C ∧ PySem.W.findIn K (.ref C) n = some none ∧ H1 dd = some (.xd fs) ∧ fs.lookup n = some v ∧ Q v H1
theorem pe_xt {X : Cx} {e : Expr} {te : TE} {pos : Pos} {n : Str} (he : PE X e te) (plain : attributeBase e n X.env (eval e X.env) = eval e X.env := by rfl) : PE X (.Attribute e n pos) (tXt X.K n te) where
  run := by
    intro pins s σ H Q I h
    refine attr_of plain (thn (he.run pins s σ H _ I h) ?_)
    rintro _ s1 ⟨_, H1, I1, rel, a, C, dd, fs, v, rfl, e1, T, no, e2, has, want⟩
    cases rel
    obtain ⟨oe, vs, g, ⟨z1, z2⟩, f⟩ := exT_at I1.hok e1
    have at_ : ObjOk X.prog X.w H1 s1.heap dd (.xd fs) := I1.hok dd _ e2
    obtain ⟨m, ns, rels⟩ := at_
    obtain ⟨od, ho, hl⟩ := lookIn_ns ns
    obtain ⟨u, hu, ru⟩ := RelO.some_of (v := v) (o := m n) (has ▸ rels n)
    have J : PySem.W.InstAt s1.heap a oe C (some od) := ⟨g, z1, by unfold PySem.W.notCls; rw [f], by rw [z2]; exact ho⟩
    exact HandSPX.exc_get I1.kIn J T.ga T.gg T.exC (PySem.W.findObj_own T.hdC no rfl (by rw [hl, hu])) (handed_of ru) ⟨v, H1, I1.tok _, ru, want⟩
/-- X(), an own error without an __init__ of its own -/
theorem pmk_own0 {X : Cx} {C : Addr} {bmB : List Value} {B newId initId : String} {x : Str} {p pos : Pos} (F : ExcBaseFacts B newId initId bmB) (q : PySem.W.excIn X.K C bmB newId = true) (is : X.mg x = some (.ref C)) (kp : PySem.W.keepIn X.K (.ref C) = true) (r : Raises X (.ref C)) (glob : Gl X x)
    (nodebug : (x == ("__debug__" : Str)) = false := by decide) : PMk X (.Call (.Name x p) [] [] pos) (fun _ H Q => Q (.ref C) none H) := by
  intro pins s σ H Q I want
  refine wpAny_Call_Name_kw (ld_glob I glob is ?_ nodebug)
  refine PySem.W.callWith_KW0 (kws := []) (h₀ := X.base) I.ok.mod.kin kp rfl (wpAny_pure ⟨I.kIn, ?_⟩) rfl
  obtain ⟨bm, N, nm, qn, bs, hdct, sn, sub, ab, col, dd, k0, k1, k2, k3, k5, mN, hC, hN, hni, T⟩ := exc_obj I.kIn q
  exact wpAny_call_exc_subT F T hC hN hni (fun h' e made => mk_of I made r want (I.hok.gone made.new)) (Nat.zero_le _)
/-! ### how often a flat value stands in a list -/
def rCnt (K : PySem.W.Frag) : V → List V → Hp → VK → Prop := fun x xs H Q => ∃ p ys y, x = .ref p ∧ xs = [y] ∧ SqL K H p ys ∧ flatV y = true ∧ ys.all flatV = true ∧ Q (.int (ys.countP (fun z => eqV z y) : Nat)) H
theorem count_eqU {y : V} : ∀ {ys : List V} {us : List Value}, Vals ys us → ys.all flatV = true → us.countP (eqU y) = ys.countP fun z => eqV z y
  | _, _, .nil, _ => rfl
  | z :: ys, u :: us, .cons r t, f => by
    simp only [List.all_cons, Bool.and_eq_true] at f
    simp only [List.countP_cons, eqU_of r f.1, count_eqU t f.2]
theorem mt_cnt {X : Cx} : MtR X "list.count" (rCnt X.K) := by
  rintro pins s σ H _ _ v us Q I rx rxs ⟨p, ys, y, rfl, rfl, hs, fy, fys, want⟩
  cases rx
  obtain ⟨u, rfl, ru⟩ := rxs.one
  obtain ⟨its, vals, ⟨⟨cls, dd, data, sl⟩, n, ho, hc, hdn, hd⟩, small⟩ := I.list hs
  dsimp only at hc hd
  subst hc hd
  refine call_meets PySem.F.slot_list_count ⟨_, ho, rfl⟩ PySem.F.entry_list_count (PySem.F.args_list_count_2 _ _) (SeqAt.list_countAt p its.toArray n dd sl u (eqU y)) ⟨ho, fun z hz => mem_eqAt ru fy vals fys z (by simpa using hz), ?_⟩
  refine ⟨.int (ys.countP (fun z => eqV z y) : Nat), H, I.tok _, ⟨s.toks, ?_⟩, want⟩
  rw [← count_eqU vals fys]
/-! ### repr of data -/
inductive Seen (K : PySem.W.Frag) (H : Hp) : V → PyData → Prop
  | dp {x : V} {d : PyData} (h : Dp K H x d) (nd : d.hasDict = false) : Seen K H x d
  | nod {a : Addr} (h : H a = some (.dK [])) : Seen K H (.ref a) (.dict [])
def rRepr (K : PySem.W.Frag) : List V → Hp → VK → Prop := fun xs H Q => ∃ x d, xs = [x] ∧ Seen K H x d ∧ PyData.showable d = true ∧ d.depth ≤ 8 ∧ d.shown.length ≤ sizeLine ∧ Q (.str d.shown) H
theorem reads_nod {P : Program} {w : World} {H : Hp} {h : Heap} {a : Addr} (ok : HOk P w H h) (e : H a = some (.dK [])) : Reads h (.ref a) (.dict []) [a] ∧ sysModules ∉ [a] := by
  have at_ : ObjOk P w H h a (.dK []) := ok a _ e
  obtain ⟨_, ns, vs, kv, o, es, ep, g, ex, d, _, el, _⟩ := at_
  cases kv
  have z : es.toList = [] := List.eq_nil_of_length_eq_zero el.length
  have r0 : ReadsAll h (es.toList.map (·.key)) (([] : List (PyData × PyData)).map (·.1)) [] := by rw [z]; exact .nil
  have r1 : ReadsAll h (es.toList.map (·.val)) (([] : List (PyData × PyData)).map (·.2)) [] := by rw [z]; exact .nil
  exact ⟨.dict g ex.1 d r0 r1, fun m => by rw [List.mem_singleton.mp m] at ns; simp at ns⟩
theorem call_reprD {X : Cx} (gs : X.A.guards = some []) (hu : X.A.units + 64 < cLine) : CallR X (.builtin "repr") (rRepr X.K) := by
  rintro pins s σ H _ us Q I rel ⟨x, d, rfl, seen, sh, dep, len, want⟩
  cases rel with
  | cons ru rn =>
    cases rn
    rename_i u
    have boxed : ∀ (a : Addr) (as : List Addr), Reads s.heap (.ref a) d as → (d.hasDict = true → sysModules ∉ as) → wpAny (model X.prog X.w) X.A (call (.builtin "repr") [.ref a]) (EP X pins σ Q) X.xe s := fun a as r sm =>
      repr_of_reads' r sh sm gs (by omega) (fun _ _ e => e) (fun h' _ tk same => ⟨.str d.shown, H, I.kept (t' := tk) same, ⟨_, rfl⟩, want⟩) len
    cases seen with
    | nod h =>
      cases ru
      obtain ⟨r, n⟩ := reads_nod I.hok h
      exact boxed _ _ r fun _ => n
    | dp h nd =>
      obtain ⟨as, r⟩ := Dp.reads I d _ u h ru
      have no : d.hasDict = true → sysModules ∉ as := fun z => by rw [nd] at z; cases z
      have fin : ∀ {z : Str} {t k : Tok}, z = d.shown → EP X pins σ Q (.str z t) { s with toks := k } := fun {z t k} e => ⟨.str z, H, I.tok k, ⟨_, rfl⟩, e ▸ want⟩
      cases h with
      | non => cases ru; exact PySem.P.repr_of_none (fin (by simp [PyData.shown]))
      | bl b => cases ru; exact PySem.P.repr_of_bool (fin (by simp [PyData.shown]))
      | int i =>
        obtain ⟨t, rfl⟩ := ru
        exact PySem.P.repr_of_int (by simpa [PyData.showable] using sh) (fin (by simp [PyData.shown]))
      | str z =>
        obtain ⟨t, rfl⟩ := ru
        exact PySem.P.repr_of_str (fin (by simp [PyData.shown])) (by simpa [PyData.shown] using len)
      | lst _ _ => cases ru; exact boxed _ _ r no
      | tup _ _ => cases ru; exact boxed _ _ r no
end Wd

set_option Elab.async false
set_option linter.all false
set_option maxRecDepth 100000
set_option maxHeartbeats 4000000
namespace Wd
open PySem PySem.Spec PyProof.Rows L2 WdM
/-! ### defs whose promise wants that no repr is under way around the call -/
structure FnG (P : Program) (w : World) (K : PySem.W.Frag) (mg : Str → Option Value) (base : Heap) (k : Nat) (f : Addr) (fd : FuncData) (ps : List Str) (sp : Sp) : Prop where
  len : ∀ vs H Q E, sp vs H Q E → vs.length = ps.length
  run : ∀ (A : Around) (outer : List Env) (s : Shared) (H : Hp) (args : Args) (us : List Value) (vs : List V) (Q : VK) (E : XK), A.guards = some [] → Room k A → Env0 P w K mg base A outer s H → BindsTo s fd args (ps.zip us) → Vals vs us → sp vs H Q E →
    codeAny (model P w) A (.call (.ref f) args) (CR CX0 outer P w H s Q E) s
section
variable {P : Program} {w : World} {K : PySem.W.Frag} {mg : Str → Option Value} {base : Heap}
theorem okG {x qual : Str} {st : Stmt} {f : Addr} {fd : FuncData} {N ps : List Str} {k : Nat} {sp : Sp} (F : Fun K x qual st f fd) (S : FnScope N ps (defScope st)) (len : ∀ vs H Q E, sp vs H Q E → vs.length = ps.length)
    (body : ∀ (cdv : Value) (A : Around) (outer : List Env) (s : Shared) (H : Hp) (vs : List V) (Q : VK) (E : XK), A.guards = some [] → Room k (A.deeper (envOfC qual (defScope st) s.heap.objs.size f cdv)) → sp vs H Q E →
      ∃ t, PSs (cxOf CX0 P w K mg base N qual (defScope st) f cdv A outer s H E).nox (defBody st) t ∧ t { nx := fun _ H' => Q .non H', rt := Q } (start N vs) H) : FnG P w K mg base (k + 1) f fd ps sp where
  len := len
  run := by
    intro A outer s H args us vs Q E gs room e0 binds rel want
    obtain ⟨oc, od, kV, doc, pm, an, cdv, ct, osl, rfl, at_, code⟩ := F.ex
    have kin : K.In s.heap := e0.mod.kin.keeps fun b o e => (e0.bs b o e).1
    have kinds : ∀ y ∈ ps.zip us, (defScope st).names.lookup y.1 = some .local ∨ ((defScope st).names.lookup y.1 = some .cell ∧ ((cellsFrom (s.heap.objs.size + 1) (defScope st).names []).lookup y.1).isSome = true) := by
      rintro ⟨n, v⟩ hy
      exact (S.par n (List.of_mem_zip hy).1).imp id fun q => ⟨q, PySem.W.cellsFrom_some _ _ _ (.inl q)⟩
    refine codeAny_call_function room.depth (kin _ _ at_) rfl S.co S.gen rfl (PySem.W.codeRec_of kin code) (binds _ _ _ _ (wpAny_newFunctionEnv_cells S.kind kinds ?_))
    rintro env rfl s1 inside
    refine ⟨(e0.mod.nolimit.keeps fun b o e => (e0.bs b o e).1).keeps inside.toInCall.keep, codeAny_func ?_⟩
    obtain ⟨t, ht, good⟩ := body cdv A outer s H vs Q E gs (room.deeper _) want
    refine wpAny_mono (ht.nox.run [] s1 (start N vs) H _ (inv_start S room.hd e0 (len _ _ _ _ want) rel inside) good) (fun fl s' ends => ?_) fun _ _ z => z
    cases fl with
    | ret u => exact ends.elim fun v e => e.elim fun σ' e => e.elim fun H' ⟨J, rv, q⟩ => ⟨v, H', J.os, J.bare, J.base, J.hok, rv, q⟩
    | next => exact ends.elim fun σ' e => e.elim fun H' ⟨J, q⟩ => ⟨.non, H', J.os, J.bare, J.base, J.hok, rfl, q⟩
    | brk => exact ends.elim fun _ e => e.elim fun _ e => e.2.elim
    | cont => exact ends.elim fun _ e => e.elim fun _ e => e.2.elim
end
section
variable {X : Cx} {k : Nat} {f : Addr} {fd : FuncData} {ps : List Str} {sp : Sp} {x : Str} {p pos : Pos} {e : Expr} {es : List Expr} {t : TA}
theorem pe_callG (F : FnG X.prog X.w X.K X.mg X.base k f fd ps sp) (gs : X.A.guards = some []) (room : Room k X.A) (glob : Gl X x) (is : X.mg x = some (.ref f)) (kp : PySem.W.keepIn X.K (.ref f) = true) (bd : Binds X.K fd ps []) (args : PA X (e :: es) t)
    (nodebug : (x == ("__debug__" : Str)) = false := by decide) (star : starEach (e :: es) X.env = (false, eval e X.env) :: starEach es X.env := by rfl) (plain : (backTo pos (starEach es X.env)).any (·.1) = false := by rfl) :
    PE X (.Call (.Name x p) (e :: es) [] pos) (tCall sp [] E0 t) where
  run := by
    intro pins s σ H Q I h
    refine wpAny_Call_Name_kw (ld_glob I glob is (PySem.W.callWith_K (h₀ := X.base) I.ok.mod.kin kp (thn (args.run pos pins s σ H _ I h) ?_) star plain) nodebug)
    rintro us s1 ⟨vs, H1, I1, rel, want⟩
    have rel2 : Vals (vs ++ []) (us ++ []) := rel.append .nil
    refine ⟨I1.kIn, wpAny_call (codeAny_mono (F.run X.A X.stack s1 H1 ⟨us, []⟩ (us ++ []) (vs ++ []) Q E0 gs room I1.env0 (bd s1 us I1.kIn (by rw [← rel2.length]; exact F.len _ _ _ _ want)) rel2 want) fun r s' res => ?_)⟩
    cases r with
    | error er => exact False.elim res
    | ok fl =>
      cases fl with
      | ret u => exact I1.after res
      | next => exact False.elim res
      | brk => exact False.elim res
      | cont => exact False.elim res
end
/-! ### the law's own call -/
theorem law_callG {P : Program} {w : World} {K : PySem.W.Frag} {mg mb : Str → Option Value} {k : Nat} {fa a : Addr} {fd : FuncData} {x : Str} {sp : Sp} {s1 : Shared} {vs : List Value} {ns : List Int}
    (kin : K.In s1.heap) (globs : s1.heap.Ns mainGlobals mg) (blts : s1.heap.Ns builtinsNs mb) (boot : ∀ x : Str, x ≠ "__name__" → mb x = bootBuiltins x) (lim : s1.heap.NoLimit) (nogens : s1.gens = #[])
    (at_ : s1.heap.get? a = some { cls := .type "list", data := .seq vs.toArray }) (its : IntsAre vs ns) (small : ns.length ≤ sizeLine) (room : Room k callerA)
    (F : ∀ base : Heap, K.In base → base.Ns mainGlobals mg → FnG P w K mg base k fa fd [x] sp) (binds : ∀ (s : Shared) (u : Value), BindsTo s fd ⟨[u], []⟩ [(x, u)])
    (good : ∀ H : Hp, SqL K H a (ns.map V.int) → sp [.ref a] H (fun v _ => v = .bl true) fun _ _ _ => False) :
    codeAny (model P w) callerA (.call (.ref fa) ⟨[.ref a], []⟩) (fun r s' => r = .ok (.ret (.bool true)) ∧ OldK s1.heap s'.heap ∧ s'.os = s1.os ∧ AllBare s'.gens) s1 := by
  have go : ∀ H : Hp, (∀ b, H b = none ∨ (b = a ∧ K.lookup a = none ∧ ∃ o u, H b = some (.frz o u))) → SqL K H a (ns.map V.int) → HOk P w H s1.heap →
      codeAny (model P w) callerA (.call (.ref fa) ⟨[.ref a], []⟩) (fun r s' => r = .ok (.ret (.bool true)) ∧ OldK s1.heap s'.heap ∧ s'.os = s1.os ∧ AllBare s'.gens) s1 := by
    intro H only hS hok
    have free : ∀ b o, K.lookup b = some o → H b = none := fun b o e => by
      rcases only b with z | ⟨rfl, z, _⟩
      · exact z
      · rw [z] at e; cases e
    have dicts : ∀ {b : Addr} {m : Str → Option Value}, s1.heap.Ns b m → (hidT s1.heap H).Ns b m := by
      rintro b m ⟨o, es, ep, g, d, r⟩
      refine ⟨o, es, ep, hidT_get g ?_, d, r⟩
      rcases only b with z | ⟨rfl, _, _⟩
      · exact z
      · rw [at_] at g
        cases g
        exact absurd (show Data.seq vs.toArray _ = Data.dict es ep from d) (fun z => by cases z)
    have kb : K.In (hidT s1.heap H) := fun b o e => hidT_get (kin b o e) (free b o e)
    obtain ⟨mc, l1, l2⟩ := lim
    have md : Mod K mg (hidT s1.heap H) := ⟨kb, dicts globs, ⟨mb, dicts blts, boot⟩, mc, dicts l1, l2⟩
    have e0 : Env0 P w K mg (hidT s1.heap H) callerA [] s1 H := ⟨rfl, md, fun b o e => of_hidT e, Nat.le_of_eq (hidT_size _ _), trivial, fun b hb => (by cases hb), hok, .of_eq nogens⟩
    refine codeAny_mono ((F _ kb (dicts globs)).run callerA [] s1 H ⟨[.ref a], []⟩ [.ref a] [.ref a] _ _ rfl room e0 (binds s1 (.ref a)) (.cons rfl .nil) (good H hS)) fun r s' res => ?_
    cases r with
    | error er => exact False.elim res
    | ok fl =>
      cases fl with
      | next => exact False.elim res
      | brk => exact False.elim res
      | cont => exact False.elim res
      | ret u =>
        obtain ⟨v, H', os, bare, un, hok', rv, rfl⟩ := res
        obtain rfl : u = Value.bool true := rv
        refine ⟨rfl, .of_keep fun b o e => ?_, os, bare⟩
        rcases only b with z | ⟨rfl, _, ob, u, z⟩
        · exact un.keep b o e z (fun m => by cases m) (fun m => by cases m)
        · have was := (hok _ _ z).1
          rw [e] at was
          cases was
          exact (hok' _ _ (un.frzs _ _ _ z)).1
  cases own : K.lookup a with
  | some o =>
    have e := kin a o own
    rw [at_] at e
    cases e
    exact go (fun _ => none) (fun _ => .inl rfl) (.inr ⟨_, vs.toArray, _, own, rfl, rfl, rfl, by rw [List.size_toArray, its.length]; exact small, by simpa using vals_ints its⟩) fun b u z => by cases z
  | none =>
    refine go (fun b => if b = a then some (.frz { cls := .type "list", data := .seq vs.toArray } (.lst (ns.map V.int))) else none) (fun b => ?_) (.inl (.inr ⟨_, if_pos rfl⟩)) (fun b u z => ?_)
    · by_cases hb : b = a
      · exact .inr ⟨hb, own, _, _, if_pos hb⟩
      · exact .inl (if_neg hb)
    · by_cases hb : b = a
      · subst hb
        cases (if_pos rfl).symm.trans z
        exact ⟨at_, by rw [List.length_map]; exact small, vs, _, vals_ints its, at_⟩
      · cases (if_neg hb).symm.trans z
theorem walk_G {l : PySem.W.OpenLaw} {n k : Nat} {q : Program} {loose : List Str} {XP : (Str → Option Value) → Heap → Prop} {YP : World → Heap → Prop} {d : DefRec} {K : Params → PySem.W.Frag} {sp : World → Sp} {x : Str}
    (most : l.most = some n) (small : n ≤ sizeLine) (plain : d.params.defaults = []) (room : Room k callerA) (hY : ∀ (w : World) (h : Heap), YP w h → (K w.params).In h)
    (F : ∀ (w : World) (mg : Str → Option Value) (fa : Addr) (h : Heap), (K w.params).In h → h.Ns mainGlobals mg → mg d.name = some (.ref fa) → ∃ fd : FuncData, (∀ (s : Shared) (u : Value), BindsTo s fd ⟨[u], []⟩ [(x, u)]) ∧ ∀ base : Heap, (K w.params).In base → base.Ns mainGlobals mg → FnG l.prog w (K w.params) mg base k fa fd [x] (sp w))
    (good : ∀ (w : World) (H : Hp) (a : Addr) (ns : List Int), ns.length ≤ n → SqL (K w.params) H a (ns.map V.int) → sp w [.ref a] H (fun v _ => v = .bl true) fun _ _ _ => False) :
    PySem.W.WalkO q loose XP YP l.row.toRowW d [] (fun f vs => PySem.call f vs) := by
  refine Att.attach_call most plain fun w s0 s1 mg mb fa o pm cd doc a vs ns G Y _ _ _ is at_ its len gens => ?_
  obtain ⟨fd, binds, promise⟩ := F w mg fa _ (hY w _ Y) G.T.g is
  exact law_callG (hY w _ Y) G.T.g G.T.b G.T.builtins G.T.nolimit gens at_ its (Nat.le_trans len small) room promise binds fun H hS => good w H a ns len hS
end Wd

set_option Elab.async false
set_option linter.all false
set_option maxRecDepth 100000
set_option maxHeartbeats 4000000
namespace Wd
open PySem PySem.Spec PyProof.Rows L2 WdM
/-! ### C(e, ..) where __init__ may raise, what is raised wished for at the caller's slots -/
section
variable {X : Cx} {CX : CXT} {k : Nat} {f C : Addr} {fd : FuncData} {ps : List Str} {sp : Sp} {dvs : List V} {ds : List Value} {E : L2.St → XK} {x : Str} {p pos : Pos} {e : Expr} {es : List Expr} {t : TA}
def tMakeS (C : Addr) (sp : Sp) (dvs : List V) (E : L2.St → XK) (t : TA) : TE := fun σ H Q => t σ H fun vs G => ∀ o d, G o = none → G d = none → d ≠ o → sp (.ref o :: (vs ++ dvs)) (upd (upd G d (.own o)) o (.ins C d [])) (fun v G' => v = .non ∧ Q (.ref o) G') (E σ)
theorem run_makeS {pins : List (Addr × Obj)} {σ : L2.St} {H : Hp} {s : Shared} {Q : VK} {us : List Value} {vs : List V} (M : Mk X.K C f) (F : FnOk X.prog X.w X.K X.mg X.base CX k f fd ps sp) (room : Room (k + 1) X.A) (bd : Binds X.K fd ps ds) (rd : Vals dvs ds) (out : PassesAt CX X σ (E σ)) (I : Inv X pins σ H s) (rel : Vals vs us)
    (want : ∀ o d, H o = none → H d = none → d ≠ o → sp (.ref o :: (vs ++ dvs)) (upd (upd H d (.own o)) o (.ins C d [])) (fun v G' => v = .non ∧ Q (.ref o) G') (E σ)) :
    wpAny (model X.prog X.w) X.A (call (.ref C) us) (EP X pins σ Q) X.xe s := by
  have good := want (s.heap.objs.size + 1) s.heap.objs.size (I.hok.fresh (Nat.le_succ _)) (I.hok.fresh (Nat.le_refl _)) (Nat.ne_of_lt (Nat.lt_succ_self _))
  have J := Inv.made (C := C) I
  have full : Vals (V.ref (s.heap.objs.size + 1) :: (vs ++ dvs)) (Value.ref (s.heap.objs.size + 1) :: (us ++ ds)) := .cons rfl (rel.append rd)
  have many : (Value.ref (s.heap.objs.size + 1) :: us ++ ds).length = ps.length := full.length.symm.trans (F.len _ _ _ _ good)
  refine wpAny_call (make_map (f := f) I.kIn M.makes M.init (beq_iff_eq.mp M.fn) (codeAny_mono (F.run _ X.stack _ _ ⟨Value.ref (s.heap.objs.size + 1) :: us, []⟩ (Value.ref (s.heap.objs.size + 1) :: (us ++ ds)) _ _ (E σ) (room.make C us []) (J.env0.make C us []) (bd _ (Value.ref (s.heap.objs.size + 1) :: us) J.kIn many) full good) fun r s' res => ?_))
  cases r with
  | error er => exact out pins _ _ er s' J res
  | ok fl =>
    cases fl with
    | next => exact False.elim res
    | brk => exact False.elim res
    | cont => exact False.elim res
    | ret u =>
      obtain ⟨v, G, J3, rv, ev, q⟩ := J.after res
      subst ev
      exact ⟨rv, .ref (s.heap.objs.size + 1), G, J3, rfl, q⟩
theorem pe_makeS (M : Mk X.K C f) (F : FnOk X.prog X.w X.K X.mg X.base CX k f fd ps sp) (room : Room (k + 1) X.A) (glob : Gl X x) (is : X.mg x = some (.ref C)) (bd : Binds X.K fd ps ds) (rd : Vals dvs ds) (out : ∀ σ, PassesAt CX X σ (E σ)) (args : PA X (e :: es) t)
    (nodebug : (x == ("__debug__" : Str)) = false := by decide) (star : starEach (e :: es) X.env = (false, eval e X.env) :: starEach es X.env := by rfl) (plain : (backTo pos (starEach es X.env)).any (·.1) = false := by rfl) :
    PE X (.Call (.Name x p) (e :: es) [] pos) (tMakeS C sp dvs E t) where
  run := by
    intro pins s σ H Q I h
    refine wpAny_Call_Name_kw (ld_glob I glob is (PySem.W.callWith_K (h₀ := X.base) I.ok.mod.kin M.kp (thn (args.run pos pins s σ H _ I h) ?_) star plain) nodebug)
    rintro us s1 ⟨vs, H1, I1, rel, want⟩
    exact ⟨I1.kIn, run_makeS M F room bd rd (out σ) I1 rel want⟩
end
/-! ### what is never reached -/
theorem pe_no {X : Cx} {e : Expr} : PE X e (fun _ _ _ => False) := ⟨fun _ _ _ _ _ _ h => h.elim⟩
theorem pt_no {X : Cx} {e : Expr} : PT X e (fun _ _ _ => False) := ⟨fun _ _ _ _ _ _ h => h.elim⟩
theorem ps_no {X : Cx} {st : Stmt} : PS X st (fun _ _ _ => False) := ⟨fun _ _ _ _ _ _ h => h.elim⟩
theorem pss_no {X : Cx} {st : List Stmt} : PSs X st (fun _ _ _ => False) := ⟨fun _ _ _ _ _ _ h => h.elim⟩
/-! ### enumerate of a list or tuple -/
theorem enum_new {v : Value} {o : Obj} {G : Heap → Prop} (B : Begins v o G) :
    Meets (Builtin.«enumerate.__new__» ⟨[.type "enumerate", v], []⟩) (fun _ R s => G s.heap ∧ R (.ok (.ret (.ref (s.heap.push o).objs.size))) { s with heap := (s.heap.push o).push { cls := .type "enumerate", data := .fields #[.none, .bool false, .ref s.heap.objs.size, rawInt 0, .none, .none] } }) :=
  .of_wp fun prog w A R s h => by
    obtain ⟨hp, gs, ds, tk, os⟩ := s
    obtain ⟨g0, fin⟩ := h
    have sub := sub_enumerate
    have iter : ∀ {A' : Around} {E : Value → Shared → Prop} {Q : Value → Shared → Prop}, Q (.ref hp.objs.size) ⟨hp.push o, gs, ds, tk, os⟩ → wpAny (model prog w) A' (pyIter v) Q E ⟨hp, gs, ds, tk, os⟩ := fun q => B.iter prog w _ _ _ _ g0 q
    wp_walk using iter
    refine wpAny_stack_any fun st => wpAny_pure ?_
    split
    · rename_i c _ _ _ _ _
      cases c == Value.type "enumerate" <;> (wp_walk using iter) <;> exact ⟨_, rfl, fin⟩
    · wp_walk using iter
      exact ⟨_, rfl, fin⟩
theorem enum_made {prog : Program} {w : World} {A : Around} {E : Value → Shared → Prop} {s : Shared} {v : Value} {o : Obj} {G : Heap → Prop} {Q : Value → Shared → Prop} (B : Begins v o G) (g0 : G s.heap)
    (want : ∀ h1, IsEnum h1 (s.heap.objs.size + 1) s.heap.objs.size 0 .none → h1.get? s.heap.objs.size = some o → (∀ b o, s.heap.get? b = some o → h1.get? b = some o) → Q (.ref (s.heap.objs.size + 1)) { s with heap := h1 }) :
    wpAny (model prog w) A (call (.type "enumerate") [v]) Q E s := by
  refine callType_new F.called_enumerate (by decide) (F.typeCall_enumerate_1 _) (F.newCall_enumerate_1 _) (fun obj => F.args_object_init_2 obj _) F.entry_enumerate_new (enum_new B) ⟨g0, ?_⟩
  have size1 : (s.heap.push o).objs.size = s.heap.objs.size + 1 := Heap.size_push ..
  have made := Heap.get?_push_size (s.heap.push o) (o := { cls := .type "enumerate", data := .fields #[.none, .bool false, .ref s.heap.objs.size, rawInt 0, .none, .none] }) rfl
  show _ ∧ _
  rw [size1] at made ⊢
  exact ⟨⟨_, made, rfl⟩, want _ made (Heap.get?_push_of_some _ (Heap.get?_push_size _ B.free)) fun b o g => Heap.get?_push_of_some _ (Heap.get?_push_of_some _ g)⟩
def ItE (K : PySem.W.Frag) (k : Feed) (a : Addr) : It where
  go i H := ∃ xs x, k.sq K H a xs ∧ xs[i]? = some x
  yld i H v H' := ∃ T x, v = .ref T ∧ H T = none ∧ H' = upd H T (.tup [.int (i : Nat), x]) ∧ ∀ xs, k.sq K H a xs → xs[i]? = some x
  stop i H := ∃ xs, k.sq K H a xs ∧ xs.length = i
theorem walkE {K : PySem.W.Frag} {k : Feed} {a : Addr} {xs : List V} : Walk (ItE K k a) xs.length (fun H => k.sq K H a xs) (YPair (fun i => some (.int (i : Nat))) fun i => xs[i]?) where
  goes := fun i H hi g => ⟨xs, xs[i], g, List.getElem?_eq_getElem hi⟩
  stops := fun H g => ⟨xs, g, rfl⟩
  yields := fun i H v H' _ g ⟨T, x, e1, e2, e3, e4⟩ => ⟨T, .int (i : Nat), x, e1, e2, e3, rfl, e4 xs g⟩
theorem turnE {P : Program} {w : World} {K : PySem.W.Frag} {elts : List Expr} {kk : Nat} {tpos : Pos} {k : Feed} {a e it : Addr} (na : a ≠ it) (ea : e ≠ a) (ei : e ≠ it) :
    Turn P w K (.Tuple elts kk tpos) (ItE K k a) [e, it] e fun i h => (∃ old, IsEnum h e it ((i : Nat) : Int) old) ∧ k.at_ h it a i where
  mem := List.mem_cons_self
  obj := by
    rintro i h ⟨⟨old, ge⟩, gi⟩ c hc
    rcases List.mem_cons.mp hc with rfl | hc
    · exact ⟨_, ge, fun _ z => nomatch z⟩
    · rw [List.mem_singleton.mp hc]
      exact k.lives gi
  keep := by
    rintro i h h' ⟨⟨old, ge⟩, gi⟩ same
    exact ⟨⟨old, same _ (by simp) _ ge⟩, k.moved gi (same _ (by simp))⟩
  item := by
    rintro X rfl rfl rfl calm i pins s σ H E I free ⟨⟨old, ge⟩, gi⟩ ⟨xs, x, hxs, hx⟩
    obtain ⟨us, rel, st, _⟩ := k.known I hxs
    obtain ⟨u, hu, ru⟩ := rel.get hx
    have hA : X.A.in1.handled = none := I.ok.hd calm
    have el := Heap.lt_size ge
    have n1 : i < us.toArray.size := by
      rw [List.size_toArray]
      exact (List.getElem?_eq_some_iff.mp hu).1
    refine wpAny_pyNext_enum_itemD (k.draws hA na _) ge ⟨gi, st⟩ n1 ei (by simp [ei, ea]) ?_
    rintro u' h1 t1 eu out ⟨d1, _⟩ gT _ same
    obtain rfl : u = u' := Option.some.inj (hu.symm.trans (by simpa using eu))
    refine ⟨_, rfl, wpAny_letOwnedTupleGo_enum (s := { s with heap := h1, toks := t1 + 1 }) out fun h2 ge2 sb => ?_⟩
    have all : ∀ c o, c ∉ [e, it] → s.heap.get? c = some o → h2.get? c = some o := fun c o hc g => by
      simp only [List.mem_cons, List.not_mem_nil, or_false, not_or] at hc
      exact (sb.2 c hc.1).trans (same c o hc.1 hc.2 g)
    have pair : h2.get? s.heap.objs.size = some { cls := .type "tuple", data := .seq #[.int i t1, u] } := (sb.2 _ (Nat.ne_of_gt el)).trans gT
    have made : ObjOk X.prog X.w (upd H s.heap.objs.size (.tup [.int (i : Nat), x])) h2 s.heap.objs.size (.tup [.int (i : Nat), x]) := ⟨by show 2 ≤ sizeLine; decide, [.int i t1, u], .cons ⟨_, rfl⟩ (.cons ru .nil), _, pair, rfl, _, rfl⟩
    refine ⟨.ref s.heap.objs.size, _, I.turnedNew (t' := t1 + 1) all free (Nat.le_refl _) made, rfl, ?_, ?_, ?_⟩
    · exact ⟨_, x, rfl, I.hok.fresh (Nat.le_refl _), rfl, fun l g => k.one I g hxs ▸ hx⟩
    · refine ⟨⟨u, ?_⟩, k.moved d1 fun o g => (sb.2 _ ei.symm).trans g⟩
      rw [show ((i + 1 : Nat) : Int) = (i : Int) + 1 by omega]
      exact ge2
    · intro c hc
      have old : c < s.heap.objs.size := by
        rcases List.mem_cons.mp hc with rfl | hc
        · exact el
        · rw [List.mem_singleton.mp hc]
          obtain ⟨o1, e1, _⟩ := k.lives gi
          exact Heap.lt_size e1
      rw [upd_ne (Nat.ne_of_lt old)]
      exact (free c hc).1
  done := by
    rintro X rfl rfl rfl calm i pins s σ H E I free ⟨⟨old, ge⟩, gi⟩ ⟨xs, hxs, n⟩
    obtain ⟨us, rel, st, _⟩ := k.known I hxs
    have hA : X.A.in1.handled = none := I.ok.hd calm
    have z : us.toArray.size = i := by rw [List.size_toArray, ← rel.length, n]
    refine wpAny_pyNext_enum_endD (k.draws hA na us.toArray) ge ⟨z ▸ gi, st⟩ fun h1 same => ⟨rfl, I.turnedL (t' := s.toks) (fun c o hc g => ?_) free⟩
    simp only [List.mem_cons, List.not_mem_nil, or_false, not_or] at hc
    exact same c o hc.2 g
  self := fun _ _ _ _ _ g q => g.1.elim fun _ ge => wpAny_pyIter_enum ge q
def iE (K : PySem.W.Frag) (k : Feed) (ta : TA) : TI := fun σ H R => ta σ H fun vs H1 => ∃ a xs, vs = [.ref a] ∧ k.sq K H1 a xs ∧ R (ItE K k a) H1
theorem pi_E {X : Cx} {e : Expr} {ta : TA} {p pos tpos : Pos} {elts : List Expr} {kk : Nat} (k : Feed) (hg : Gl X "enumerate") (hm : X.mg "enumerate" = none) (ha : PA X [e] ta) (star : starEach [e] X.env = [(false, eval e X.env)] := by rfl) :
    PI X (.Tuple elts kk tpos) (.Call (.Name "enumerate" p) [e] [] pos) (iE X.K k ta) where
  run := by
    intro pins s σ H R I h
    refine Call_ (ld_blt I hg hm boot_enumerate (PyProof.Rows.callWith_type1 (thn (ha.run pos pins s σ H _ I h) ?_) star rfl))
    rintro us s1 ⟨vs, H1, I1, rel, a, xs, rfl, hxs, r⟩
    rw [Vals.ref1 rel]
    obtain ⟨its, _, st, la⟩ := k.known I1 hxs
    refine enum_made (k.begins a its.toArray) st fun h1 ge gi same => wpAny_pyIter_enum ge ?_
    have I2 : Inv X pins σ H1 { s1 with heap := h1 } := I1.kept (t' := s1.toks) same
    have na : a ≠ s1.heap.objs.size := Nat.ne_of_lt la
    have ea : s1.heap.objs.size + 1 ≠ a := fun z => absurd la (by rw [← z]; exact Nat.not_lt.mpr (Nat.le_succ _))
    refine ⟨s1.heap.objs.size + 1, [s1.heap.objs.size + 1, s1.heap.objs.size], _, _, H1, rfl, I2, turnE na ea (Nat.succ_ne_self _), ⟨⟨.none, ge⟩, k.first gi⟩, fun b hb => ?_, r⟩
    have le : s1.heap.objs.size ≤ b := by
      rcases List.mem_cons.mp hb with rfl | hb
      · exact Nat.le_succ _
      · exact Nat.le_of_eq (List.mem_singleton.mp hb).symm
    exact I1.fpOk le (I1.hok.fresh le)
end Wd

set_option Elab.async false
set_option linter.all false
set_option maxRecDepth 100000
set_option maxHeartbeats 4000000
namespace Wd
open PySem PySem.Spec PyProof.Rows L2 WdM
/-! ### readings may be weakened -/
theorem PE.wk {X : Cx} {e : Expr} {t t' : TE} (h : PE X e t) (w : ∀ σ H Q, t' σ H Q → t σ H Q) : PE X e t' := ⟨fun pins s σ H Q I hw => h.run pins s σ H Q I (w _ _ _ hw)⟩
theorem PA.wk {X : Cx} {es : List Expr} {t t' : TA} (h : PA X es t) (w : ∀ σ H Q, t' σ H Q → t σ H Q) : PA X es t' := ⟨fun pos pins s σ H Q I hw => h.run pos pins s σ H Q I (w _ _ _ hw)⟩
theorem PT.wk {X : Cx} {e : Expr} {t t' : TT} (h : PT X e t) (w : ∀ σ H Q, t' σ H Q → t σ H Q) : PT X e t' := ⟨fun pins s σ H Q I hw => h.run pins s σ H Q I (w _ _ _ hw)⟩
theorem PS.wk {X : Cx} {st : Stmt} {t t' : TS} (h : PS X st t) (w : ∀ D σ H, t' D σ H → t D σ H) : PS X st t' := ⟨fun pins s σ H D I hw => h.run pins s σ H D I (w _ _ _ hw)⟩
theorem PSs.wk {X : Cx} {st : List Stmt} {t t' : TS} (h : PSs X st t) (w : ∀ D σ H, t' D σ H → t D σ H) : PSs X st t' := ⟨fun pins s σ H D I hw => h.run pins s σ H D I (w _ _ _ hw)⟩
theorem tyes {σ : L2.St} {H : Hp} {f : Bool → Hp → Prop} (h : f true H) : tYes σ H f := h
theorem bt_same1 {l : Addr} {H H' : Hp} (e : Bt [l] H H') (h : H l = none) : Same H H' := fun b o q => e b o (by simp [ne_of_none q h]) q
/-- the built-ins' names, which the top leaves alone -/
structure Bi (mg : Str → Option Value) : Prop where
  isi : mg "isinstance" = none
  int : mg "int" = none
  bool : mg "bool" = none
  str : mg "str" = none
  tuple : mg "tuple" = none
  list : mg "list" = none
  len : mg "len" = none
  abs : mg "abs" = none
  all : mg "all" = none
  any : mg "any" = none
  sum : mg "sum" = none
  enum : mg "enumerate" = none
  divmod : mg "divmod" = none
  range : mg "range" = none
  max : mg "max" = none
  min : mg "min" = none
  zip : mg "zip" = none
  repr : mg "repr" = none
section
variable {K : PySem.W.Frag}
/-! ### things of any kind -/
inductive Th (K : PySem.W.Frag) (H : Hp) : V → PyData → Prop
  | dp {x : V} {d : PyData} (h : Dp K H x d) : Th K H x d
  | nod {a : Addr} (h : H a = some (.dK [])) : Th K H (.ref a) (.dict [])
mutual
theorem dp_same {H H' : Hp} (e : Same H H') : ∀ {v : V} {d : PyData}, Dp K H v d → Dp K H' v d
  | _, _, .non => .non
  | _, _, .bl b => .bl b
  | _, _, .int i => .int i
  | _, _, .str x => .str x
  | _, _, .lst h a => .lst (e.seq h) (dpAll_same e a)
  | _, _, .tup h a => .tup ((tk_same e).sq h) (dpAll_same e a)
theorem dpAll_same {H H' : Hp} (e : Same H H') : ∀ {vs : List V} {ds : List PyData}, DpAll K H vs ds → DpAll K H' vs ds
  | _, _, .nil => .nil
  | _, _, .cons h t => .cons (dp_same e h) (dpAll_same e t)
end
theorem Th.same {H H' : Hp} {v : V} {d : PyData} (e : Same H H') (h : Th K H v d) : Th K H' v d := by
  cases h with
  | dp h => exact .dp (dp_same e h)
  | nod h => exact .nod (e _ _ h)
def tyN : PyData → String
  | .none => "NoneType"
  | .bool _ => "bool"
  | .int _ => "int"
  | .str _ => "str"
  | .list _ => "list"
  | .tuple _ => "tuple"
  | .dict _ => "dict"
theorem Th.ty {H : Hp} {v : V} {d : PyData} (h : Th K H v d) : TyX K H v (.type (tyN d)) := by
  cases h with
  | nod h => exact .base (.dK h)
  | dp h =>
    cases h with
    | non => exact .base .non
    | bl b => exact .base (.bl b)
    | int i => exact .base (.int i)
    | str x => exact .base (.str x)
    | lst h _ =>
      rcases h with (h | ⟨o, h⟩) | ⟨o, its, n, e, c, _⟩
      · exact .base (.lst h)
      · exact .base (.frz h)
      · exact .kList e c
    | tup h _ => exact tyT h
/-- whether a thing is an instance of a built-in class -/
def isaB (T : String) : PyData → Bool
  | .none => T == "NoneType"
  | .bool _ => T == "bool" || T == "int"
  | .int _ => T == "int"
  | .str _ => T == "str"
  | .list _ => T == "list"
  | .tuple _ => T == "tuple"
  | .dict _ => T == "dict"
theorem kit_all : ∀ T ∈ ["int", "bool", "str", "tuple", "list"], kitB "NoneType" T = some (T == "NoneType") ∧ kitB "bool" T = some (T == "bool" || T == "int") ∧ kitB "int" T = some (T == "int") ∧ kitB "str" T = some (T == "str") ∧ kitB "list" T = some (T == "list") ∧ kitB "tuple" T = some (T == "tuple") ∧ kitB "dict" T = some (T == "dict") := by
  decide +kernel
theorem kit_isa {T : String} (h : T ∈ ["int", "bool", "str", "tuple", "list"]) (d : PyData) : PySem.W.kitOne K (.type (tyN d)) (.type T) = some (isaB T d) := by
  obtain ⟨a0, a1, a2, a3, a4, a5, a6⟩ := kit_all T h
  cases d
  · exact kit_ty a0
  · exact kit_ty a1
  · exact kit_ty a2
  · exact kit_ty a3
  · exact kit_ty a4
  · exact kit_ty a5
  · exact kit_ty a6
def strB : PyData → Bool
  | .str _ => true
  | _ => false
def tupB : PyData → Bool
  | .tuple _ => true
  | _ => false
def wholeB : PyData → Bool
  | .int _ => true
  | _ => false
theorem kit_str (d : PyData) : PySem.W.kitOne K (.type (tyN d)) (.type "str") = some (strB d) := by
  rw [kit_isa (by decide) d]
  cases d <;> rfl
theorem kit_tup (d : PyData) : PySem.W.kitOne K (.type (tyN d)) (.type "tuple") = some (tupB d) := by
  rw [kit_isa (by decide) d]
  cases d <;> rfl
theorem kit_whole (d : PyData) : ∃ b1 b2, PySem.W.kitOne K (.type (tyN d)) (.type "int") = some b1 ∧ PySem.W.kitOne K (.type (tyN d)) (.type "bool") = some b2 ∧ (b1 && !b2) = wholeB d := by
  refine ⟨_, _, kit_isa (by decide) d, kit_isa (by decide) d, ?_⟩
  cases d <;> rfl
theorem str_of {d : PyData} (h : strB d = true) : ∃ z, d = .str z := by
  cases d with
  | str z => exact ⟨z, rfl⟩
  | _ => cases h
theorem tup_of {d : PyData} (h : tupB d = true) : ∃ ds, d = .tuple ds := by
  cases d with
  | tuple ds => exact ⟨ds, rfl⟩
  | _ => cases h
theorem whole_of {d : PyData} (h : wholeB d = true) : ∃ i, d = .int i := by
  cases d with
  | int i => exact ⟨i, rfl⟩
  | _ => cases h
theorem th_str {H : Hp} {v : V} {z : Str} (h : Th K H v (.str z)) : v = .str z := by
  cases h with
  | dp h => cases h; rfl
theorem th_tup {H : Hp} {v : V} {ds : List PyData} (h : Th K H v (.tuple ds)) : ∃ a xs, v = .ref a ∧ SqT K H a xs ∧ DpAll K H xs ds := by
  cases h with
  | dp h => cases h with | tup hs hd => exact ⟨_, _, rfl, hs, hd⟩
theorem dpAll_len {H : Hp} : ∀ {xs : List V} {ds : List PyData}, DpAll K H xs ds → xs.length = ds.length
  | _, _, .nil => rfl
  | _, _, .cons _ t => congrArg (· + 1) (dpAll_len t)
end
/-! ### names -/
def lettersS : Str := "abcdefghijklmnopqrstuvwxyz"
def noNames : List V := [.str "all", .str "and", .str "children", .str "childless", .str "crown", .str "else", .str "if", .str "lives", .str "not", .str "of", .str "or", .str "stock", .str "to"]
def letB (c : Nat) : Bool := decide (c ∈ lettersS.cps.toList)
def nmB (z : Str) : Bool := decide (1 ≤ z.length ∧ z.length ≤ 8) && !inV (.str z) noNames && z.cps.toList.all letB
def nameB : PyData → Bool
  | .str z => nmB z
  | _ => false
theorem name_no {d : PyData} (h : strB d = false) : nameB d = false := by
  cases d <;> first | rfl | cases h
/-- texts that are not too long -/
def Short (d : PyData) : Prop := ∀ z, d = .str z → z.length ≤ 1000
theorem ixN_nat {n i : Nat} (h : i < n) : ixN n (i : Int) = some i := by
  unfold ixN
  rw [if_pos (by omega), if_pos (by omega)]
  rfl
theorem small_len {n : Nat} (h : n ≤ 1000) : n ≤ sizeLine := Nat.le_trans h (by decide)
end Wd

set_option Elab.async false
set_option linter.all false
set_option maxRecDepth 100000
set_option maxHeartbeats 4000000
namespace Wd
open PySem PySem.Spec PyProof.Rows L2 WdM
/-- what the top has written of an own error with one field: the class x at C, its __init__ at fI; CW its family -/
structure ErC (K : PySem.W.Frag) (mg : Str → Option Value) (x fld : Str) (C fI CW : Addr) : Prop where
  o : OexC K C
  no : PySem.W.findIn K (.ref C) fld = some none
  i : PySem.W.findIn K (.ref C) "__init__" = some (some (.ref fI))
  t : PySem.W.typeIn K (.ref fI) = some (.type "function")
  g : mg x = some (.ref C)
  m : PySem.W.exmOne K (.ref C) (.ref CW) = some true
  c : ExcC K C
  f : XfC K C
def spInitE (C : Addr) (fld : Str) : Sp := fun vs H Q _ => ∃ (a : Addr) (y : V), vs = [.ref a, y] ∧ H a = some (exo a C none) ∧ ∀ dx, H dx = none → dx ≠ a → Q .non (upd (upd H dx (exd dx [(fld, y)])) a (exo a C (some dx)))
theorem heap_made {H : Hp} {a dx : Addr} {o1 o2 o3 o4 : HO} (ha : H a = none) (ne : dx ≠ a) : upd (del (upd (upd (upd H a o1) dx o2) a o3) a) dx o4 = upd H dx o4 := by
  funext b
  by_cases h1 : b = dx
  · rw [h1, upd_same, upd_same]
  · rw [upd_ne h1, upd_ne h1]
    by_cases h2 : b = a
    · rw [h2, del_same, ha]
    · rw [del_ne h2, upd_ne h2, upd_ne h1, upd_ne h2]
theorem raise_var {C : Addr} {fld : Str} {i : Nat} {x : V} {H : Hp} {σ : L2.St} {R : XK} (h0 : σ[i]? = some (some x)) (hq : ∀ dd, H dd = none → R (.ref C) (some dd) (upd H dd (.xd [(fld, x)]))) : tMkO C (spInitE C fld) [] (tCons (tVar i) tNil) σ H R :=
  ⟨x, h0, by show 1 ≤ 1000; decide, fun e ne => ⟨e, x, rfl, upd_same, fun dx h1 h2 => ⟨rfl, dx, [(fld, x)], upd_same, by rw [upd_ne h2, upd_same], by rw [upd_ne h2] at h1; exact h1, by
    rw [heap_made ne h2]
    exact hq dx (by rw [upd_ne h2] at h1; exact h1)⟩⟩⟩
end Wd

set_option Elab.async false
set_option linter.all false
set_option maxRecDepth 100000
set_option maxHeartbeats 4000000
namespace Wd
open PySem PySem.Spec PyProof.Rows L2 WdM
/-! ### displays of values that are all of one sort -/
section
variable {X : Cx} {R : L2.St → Hp → Prop} {Bd : Hp → V → Prop} {e : Expr} {es : List Expr} {n : Nat}
/-- where R holds, a value that is Bd -/
def tB (R : L2.St → Hp → Prop) (Bd : Hp → V → Prop) : TE := fun σ H Q => R σ H ∧ ∀ v H', Same H H' → Bd H' v → Q v H'
def taB (R : L2.St → Hp → Prop) (Bd : Hp → V → Prop) (n : Nat) : TA := fun σ H Q => R σ H ∧ ∀ xs H', Same H H' → xs.length = n → (∀ x ∈ xs, Bd H' x) → Q xs H'
def tlB (R : L2.St → Hp → Prop) (Bd : Hp → V → Prop) (n : Nat) : TE := fun σ H Q => R σ H ∧ ∀ p xs H', Same H H' → H' p = none → xs.length = n → (∀ x ∈ xs, Bd H' x) → Q (.ref p) (upd H' p (.lst xs))
/-- kept where the heap grows -/
structure Kp (R : L2.St → Hp → Prop) (Bd : Hp → V → Prop) : Prop where
  r : ∀ σ H H', Same H H' → R σ H → R σ H'
  b : ∀ H H' v, Same H H' → Bd H v → Bd H' v
theorem paB_nil : PA X [] (taB R Bd 0) := PA.wk pa_nil fun σ H Q ⟨_, q⟩ => q [] H (Same.refl H) rfl (fun x hx => nomatch hx)
theorem paB_cons (k : Kp R Bd) (h : PE X e (tB R Bd)) (t : PA X es (taB R Bd n)) (hs : starEach (e :: es) X.env = (false, eval e X.env) :: starEach es X.env := by rfl) : PA X (e :: es) (taB R Bd (n + 1)) :=
  PA.wk (pa_cons h t hs) fun σ H Q ⟨r, q⟩ => ⟨r, fun v H1 s1 b1 => ⟨k.r _ _ _ s1 r, fun xs H2 s2 l2 b2 => q (v :: xs) H2 (s1.trans s2) (by rw [List.length_cons, l2]) (fun x hx => by
    rcases List.mem_cons.mp hx with rfl | hx
    · exact k.b _ _ _ s2 b1
    · exact b2 x hx)⟩⟩
theorem peB_lst {pos : Pos} (t : PA X es (taB R Bd n)) (hn : n ≤ sizeLine) : PE X (.List es pos) (tlB R Bd n) :=
  PE.wk (pe_lst t) fun σ H Q ⟨r, q⟩ => ⟨r, fun xs H1 s1 l1 b1 => ⟨by rw [l1]; exact hn, fun p np => q p xs _ s1 np l1 b1⟩⟩
end
def RT : L2.St → Hp → Prop := fun _ _ => True
section
variable {K : PySem.W.Frag} {X : Cx}
/-- a thing whose texts aren't too long -/
def ThS (K : PySem.W.Frag) (H : Hp) (v : V) : Prop := ∃ d, Th K H v d ∧ Short d
theorem kpS : Kp RT (ThS K) := ⟨fun _ _ _ _ _ => trivial, fun _ _ _ e ⟨d, th, n⟩ => ⟨d, th.same e, n⟩⟩
theorem short_of {d : PyData} (h : strB d = false) : Short d := fun z e => by rw [e] at h; cases h
/-- texts of at most b signs -/
def StrL (b : Nat) (v : V) : Prop := ∃ z : Str, v = .str z ∧ z.length ≤ b
theorem StrL.th {b : Nat} {v : V} {H : Hp} (h : StrL b v) (hb : b ≤ 1000) : ThS K H v := by
  obtain ⟨z, rfl, l⟩ := h
  exact ⟨.str z, .dp (.str z), fun y e => by cases e; omega⟩
theorem at_of {P : V → Prop} {xs : List V} {d : Int} (h : ∀ x ∈ xs, P x) (d0 : 0 ≤ d) (d1 : d < xs.length) : ∃ v, atI xs d = some v ∧ P v := by
  obtain ⟨n, rfl⟩ := Int.eq_ofNat_of_zero_le d0
  have hn : n < xs.length := by omega
  exact ⟨xs[n], atI_nat (List.getElem?_eq_getElem hn), h _ (List.getElem_mem hn)⟩
end
end Wd

set_option Elab.async false
set_option linter.all false
set_option maxRecDepth 100000
set_option maxHeartbeats 4000000
set_option exponentiation.threshold 5000
namespace WdQ
open PySem PySem.Spec PyProof.Rows L2 WdM Wd
def topS (i : Nat) : Stmt := PySem.Challenge.pw_willdealt_k01_names_of_any_kind.main.body.getD i (.Pass ⟨0, 0, 0, 0⟩)
abbrev sName : Stmt := topS 5
theorem scName : FnScope ["thing", "sign"] ["thing"] (defScope sName) := ⟨rfl, rfl, rfl, by decide +kernel, rfl, by decide +kernel, by decide +kernel⟩
/-- what the top holds for names -/
structure NmF (K : PySem.W.Frag) (mg : Str → Option Value) (aW : Addr) : Prop where
  gL : ∃ t, mg "LETTERS" = some (.str lettersS t)
  gN : ∃ t, mg "LONGEST" = some (.int 8 t)
  gW : mg "WORDS" = some (.ref aW)
  tW : ∀ H, SqT K H aW noNames
section
variable {P : Program} {w : World} {K : PySem.W.Frag} {mg : Str → Option Value} {base : Heap}
def spName (K : PySem.W.Frag) : Sp := fun vs H Q _ => ∃ (v : V) (d : PyData), vs = [v] ∧ Th K H v d ∧ Short d ∧ ∀ H', Same H H' → Q (.bl (nameB d)) H'
theorem ok_name {f : Addr} {fd : FuncData} {k : Nat} {aW : Addr} (B : Bi mg) (T : NmF K mg aW) (D : Df K mg "is_name" sName f fd ["thing"]) : FnOk P w K mg base CX0 (k + 1) f fd ["thing"] (spName K) := by
  refine D.fn.ok scName (fun vs H Q E h => ?_) (fun cdv A outer s H vs Q E hr h => ?_)
  · obtain ⟨v, d, rfl, _⟩ := h
    rfl
  · obtain ⟨v, d, rfl, th, sk, q⟩ := h
    obtain ⟨tL, gL⟩ := T.gL
    obtain ⟨tN, gN⟩ := T.gN
    refine ⟨_, pss_cons (ps_if (PW.pt (pw_or (pt_not (pt_val (pe_callB call_isi (by rfl) B.isi boot_isinstance (pa_cons (pv 0) (pa_cons (pe_bltn (v := .ty "str") (by rfl) B.str boot_str rfl) pa_nil)))))
          (pw_or1 (pt_not (pt_chain op_le op_le pe_int (pe_callB call_len_str (by rfl) B.len PySem.boot_len (pa_cons (pv 0) pa_nil)) (pe_glob (v := .int 8) (by rfl) gN ⟨_, rfl⟩)))))) (pss_one (ps_ret pe_bl)) pss_nil)
      (pss_one (ps_ret (pe_and (pe_cmpR op_notIn_seq (pv 0) (pe_glob (v := .ref aW) (by rfl) T.gW rfl) (by rfl)) (pe_one (pe_callB (cr_all rfl) (by rfl) B.all (by decide +kernel) (pa_cons
          (pe_lc (own := [("sign", 1)]) (g := gName 1) (tt := tYes) rfl scName.nd (pi_str (pv 0)) (blkOk_by (own := [("sign", 1)]) (N := ["thing", "sign"]) (sc := defScope sName) (by decide +kernel))
            (fun _ _ _ _ _ => pg_name (i := 1) scName.nd rfl (Or.inl rfl)) (fun _ _ _ _ _ => pts_nil)
            (fun _ _ _ _ _ => pe_cmpR op_in_sign (pv 1) (pe_glob (v := .str lettersS) (by rfl) gL ⟨_, rfl⟩) (by rfl))) pa_nil)))))), ?_⟩
    refine ⟨_, rfl, _, .ty "str", _, .type "str", _, rfl, .ty _, th.ty, kit_str d, _, rfl, ?_⟩
    by_cases hs : strB d = true
    · rw [hs]
      obtain ⟨z, rfl⟩ := str_of hs
      obtain rfl := th_str th
      have zl := sk z rfl
      have no : ¬ (1 ≤ z.length ∧ z.length ≤ 8) → nameB (.str z) = false := fun e => by
        show (decide _ && _ && _) = false
        rw [decide_eq_false e]
        rfl
      refine iteF ⟨_, rfl, z, rfl, small_len zl, 1, _, rfl, rfl, _, rfl, ?_⟩
      by_cases l0 : 1 ≤ z.length
      · rw [decide_eq_true (show (1 : Int) ≤ (z.length : Int) by omega)]
        refine iteT ⟨_, 8, rfl, rfl, _, rfl, ?_⟩
        by_cases l1 : z.length ≤ 8
        · rw [decide_eq_true (show (z.length : Int) ≤ 8 by omega)]
          refine iteF ⟨_, rfl, aW, noNames, rfl, .inr (T.tW H), rfl, rfl, _, rfl, ?_⟩
          have yes : nameB (.str z) = (!inV (.str z) noNames && z.cps.toList.all letB) := by
            show (decide _ && _ && _) = _
            rw [decide_eq_true ⟨l0, l1⟩]
            rfl
          rw [yes] at q
          by_cases hi : inV (.str z) noNames = true
          · rw [hi] at q ⊢
            exact iteF (q H (Same.refl H))
          · have hi' : inV (.str z) noNames = false := by simpa using hi
            rw [hi'] at q ⊢
            refine iteT ⟨_, rfl, z, rfl, fun L nL => lc_it walk_str (fun i H' => H' L = some (.lst (((z.cps.toList.take i).map letB).map V.bl)) ∧ Same H H') ⟨upd_same, same_new nL⟩ (fun _ _ _ _ => trivial) ?_ ?_⟩
            · rintro i x H1 H' hx ⟨hL, sm⟩ ⟨rfl, c, hc, rfl⟩
              refine ⟨rfl, tyes (iteT ⟨_, rfl, c, lettersS, rfl, rfl, ?_⟩)⟩
              have hc' : z.cps.toList[i]? = some c := by simpa using hc
              refine ⟨_, hL, ?_, ?_, ?_⟩
              · rw [List.length_map, List.length_map, List.length_take]
                exact small1000 (by have := lt_get hc'; have : z.cps.toList.length = z.length := by simp [Str.length]
                                    omega)
              · rw [upd_same, take_more hc', List.map_append, List.map_append]
                rfl
              · exact ((Bt.of_same (S := []) sm).upd0 nL).same
            · rintro H' ⟨hL, sm⟩
              have e : z.cps.toList.take z.cps.size = z.cps.toList := List.take_of_length_le (by simp)
              rw [e] at hL
              refine ⟨L, _, rfl, sqL hL, ?_⟩
              have e2 : (z.cps.toList.map letB).all id = z.cps.toList.all letB := by rw [List.all_map]; rfl
              rw [e2]
              exact q H' sm
        · rw [decide_eq_false (show ¬ (z.length : Int) ≤ 8 by omega)]
          rw [no (fun e => l1 e.2)] at q
          exact iteT (q H (Same.refl H))
      · rw [decide_eq_false (show ¬ (1 : Int) ≤ (z.length : Int) by omega)]
        rw [no (fun e => l0 e.1)] at q
        exact iteF ⟨_, rfl, iteT (q H (Same.refl H))⟩
    · have hs' : strB d = false := by simpa using hs
      rw [hs']
      rw [name_no hs'] at q
      exact iteT (iteT (q H (Same.refl H)))
end
end WdQ

set_option Elab.async false
set_option linter.all false
set_option maxRecDepth 100000
set_option maxHeartbeats 4000000
set_option exponentiation.threshold 5000
namespace WdQ
open PySem PySem.Spec PyProof.Rows L2 WdM Wd
abbrev sWhole : Stmt := topS 35
abbrev sParted : Stmt := topS 41
abbrev sPerson : Stmt := topS 45
abbrev sChkP : Stmt := topS 47
abbrev sHouse : Stmt := topS 51
abbrev sHI : Stmt := inClass sHouse 0
abbrev sDeath : Stmt := topS 57
abbrev sChkD : Stmt := topS 58
abbrev sStory : Stmt := topS 60
abbrev sSI : Stmt := inClass sStory 0
abbrev sESum : Stmt := inClass (topS 11) 0
abbrev sEPeople : Stmt := inClass (topS 13) 0
abbrev sEStory : Stmt := inClass (topS 16) 0
theorem scWhole : FnScope ["thing"] ["thing"] (defScope sWhole) := ⟨rfl, rfl, rfl, by decide +kernel, rfl, by decide +kernel, by decide +kernel⟩
theorem scParted : FnScope ["amount", "shares", "weights", "together", "weight", "pennies", "lacking", "at"] ["amount", "shares"] (defScope sParted) := ⟨rfl, rfl, rfl, by decide +kernel, rfl, by decide +kernel, by decide +kernel⟩
theorem scPerson : FnScope ["thing", "ahead", "name", "parent"] ["thing", "ahead"] (defScope sPerson) := ⟨rfl, rfl, rfl, by decide +kernel, rfl, by decide +kernel, by decide +kernel⟩
theorem scDeath : FnScope ["thing", "ahead", "name", "day"] ["thing", "ahead"] (defScope sDeath) := ⟨rfl, rfl, rfl, by decide +kernel, rfl, by decide +kernel, by decide +kernel⟩
theorem scChkP : FnScope ["people", "ahead", "number", "person"] ["people"] (defScope sChkP) := ⟨rfl, rfl, rfl, by decide +kernel, rfl, by decide +kernel, by decide +kernel⟩
theorem scChkD : FnScope ["deaths", "ahead", "number", "death"] ["deaths"] (defScope sChkD) := ⟨rfl, rfl, rfl, by decide +kernel, rfl, by decide +kernel, by decide +kernel⟩
theorem scHI : FnScope ["self", "people", "goods", "purse", "debts", "things", "amount"] ["self", "people", "goods", "purse", "debts"] (defScope sHI) := ⟨rfl, rfl, rfl, by decide +kernel, rfl, by decide +kernel, by decide +kernel⟩
theorem scSI : FnScope ["self", "deaths", "rows"] ["self", "deaths"] (defScope sSI) := ⟨rfl, rfl, rfl, by decide +kernel, rfl, by decide +kernel, by decide +kernel⟩
theorem scESum : FnScope ["self", "thing"] ["self", "thing"] (defScope sESum) := ⟨rfl, rfl, rfl, by decide +kernel, rfl, by decide +kernel, by decide +kernel⟩
theorem scEPeople : FnScope ["self", "number"] ["self", "number"] (defScope sEPeople) := ⟨rfl, rfl, rfl, by decide +kernel, rfl, by decide +kernel, by decide +kernel⟩
theorem scEStory : FnScope ["self", "number"] ["self", "number"] (defScope sEStory) := ⟨rfl, rfl, rfl, by decide +kernel, rfl, by decide +kernel, by decide +kernel⟩
section
variable {P : Program} {w : World} {K : PySem.W.Frag} {mg : Str → Option Value} {base : Heap} {CS fS CP fP CT fT CW : Addr}
theorem ok_eSum {fd : FuncData} {k : Nat} (T : ErC K mg "NoSum" "thing" CS fS CW) (F : Fun K "__init__" "NoSum.__init__" sESum fS fd) : FnOk P w K mg base CX0 (k + 1) fS fd ["self", "thing"] (spInitE CS "thing") := by
  refine F.ok scESum (fun vs H Q E h => ?_) (fun cdv A outer s H vs Q E hr h => ?_)
  · obtain ⟨a, y, rfl, _⟩ := h
    rfl
  · obtain ⟨a, y, rfl, ha, q⟩ := h
    exact ⟨_, pss_one (ps_ost (pv 0) (pv 1)), y, rfl, .ref a, rfl, a, CS, rfl, T.o, T.no, .inl ⟨ha, fun dx h1 h2 => q dx h1 h2⟩⟩
theorem ok_ePeople {fd : FuncData} {k : Nat} (T : ErC K mg "NoPeople" "number" CP fP CW) (F : Fun K "__init__" "NoPeople.__init__" sEPeople fP fd) : FnOk P w K mg base CX0 (k + 1) fP fd ["self", "number"] (spInitE CP "number") := by
  refine F.ok scEPeople (fun vs H Q E h => ?_) (fun cdv A outer s H vs Q E hr h => ?_)
  · obtain ⟨a, y, rfl, _⟩ := h
    rfl
  · obtain ⟨a, y, rfl, ha, q⟩ := h
    exact ⟨_, pss_one (ps_ost (pv 0) (pv 1)), y, rfl, .ref a, rfl, a, CP, rfl, T.o, T.no, .inl ⟨ha, fun dx h1 h2 => q dx h1 h2⟩⟩
theorem ok_eStory {fd : FuncData} {k : Nat} (T : ErC K mg "NoStory" "number" CT fT CW) (F : Fun K "__init__" "NoStory.__init__" sEStory fT fd) : FnOk P w K mg base CX0 (k + 1) fT fd ["self", "number"] (spInitE CT "number") := by
  refine F.ok scEStory (fun vs H Q E h => ?_) (fun cdv A outer s H vs Q E hr h => ?_)
  · obtain ⟨a, y, rfl, _⟩ := h
    rfl
  · obtain ⟨a, y, rfl, ha, q⟩ := h
    exact ⟨_, pss_one (ps_ost (pv 0) (pv 1)), y, rfl, .ref a, rfl, a, CT, rfl, T.o, T.no, .inl ⟨ha, fun dx h1 h2 => q dx h1 h2⟩⟩
/-! ### amounts below nought -/
def spWhole (K : PySem.W.Frag) : Sp := fun vs H Q _ => ∃ (x : V) (d : PyData), vs = [x] ∧ Th K H x d ∧ Q (.bl (wholeB d)) H
theorem ok_whole {f : Addr} {fd : FuncData} {k : Nat} (B : Bi mg) (D : Df K mg "is_whole" sWhole f fd ["thing"]) : FnOk P w K mg base CX0 (k + 1) f fd ["thing"] (spWhole K) := by
  refine D.fn.ok scWhole (fun vs H Q E h => ?_) (fun cdv A outer s H vs Q E hr h => ?_)
  · obtain ⟨x, d, rfl, _⟩ := h
    rfl
  · obtain ⟨x, d, rfl, th, q⟩ := h
    obtain ⟨b1, b2, k1, k2, e⟩ := kit_whole (K := K) d
    rw [← e] at q
    refine ⟨_, pss_one (ps_ret (pe_and (pe_callB call_isi (by rfl) B.isi boot_isinstance (pa_cons (pv 0) (pa_cons (pe_bltn (v := .ty "int") (by rfl) B.int boot_int rfl) pa_nil)))
      (pe_one (pe_not (pe_callB call_isi (by rfl) B.isi boot_isinstance (pa_cons (pv 0) (pa_cons (pe_bltn (v := .ty "bool") (by rfl) B.bool boot_bool rfl) pa_nil))))))), ?_⟩
    refine ⟨x, rfl, x, .ty "int", _, _, b1, rfl, .ty _, th.ty, k1, b1, rfl, ?_⟩
    cases b1 with
    | false => exact iteF q
    | true => exact iteT ⟨x, rfl, x, .ty "bool", _, _, b2, rfl, .ty _, th.ty, k2, b2, rfl, q⟩
def spParted0 (CS : Addr) : Sp := fun vs H _ E => ∃ (a : Int) (v : V), vs = [.int a, v] ∧ a < 0 ∧ ∀ dd, H dd = none → E (.ref CS) (some dd) (upd H dd (.xd [("thing", .int a)]))
theorem ok_parted0 {f fW : Addr} {fd fdW fdI : FuncData} (B : Bi mg) (T : ErC K mg "NoSum" "thing" CS fS CW) (FI : Fun K "__init__" "NoSum.__init__" sESum fS fdI) (bI : Binds K fdI ["self", "thing"] [])
    (D : Df K mg "parted" sParted f fd ["amount", "shares"]) (DW : Df K mg "is_whole" sWhole fW fdW ["thing"]) : FnOk P w K mg base (L2.CX P w) 3 f fd ["amount", "shares"] (spParted0 CS) := by
  have GW : FnOk P w K mg base CX0 1 fW fdW ["thing"] (spWhole K) := ok_whole (k := 0) B DW
  have GI : FnOk P w K mg base CX0 1 fS fdI ["self", "thing"] (spInitE CS "thing") := ok_eSum (k := 0) T FI
  refine D.fn.okX scParted (fun vs H Q E h => ?_) (fun cdv A outer s H vs Q E hr h => ?_)
  · obtain ⟨a, v, rfl, _⟩ := h
    rfl
  · obtain ⟨a, v, rfl, neg, q⟩ := h
    have r1 : Room 1 _ := hr.mono (by omega)
    have r2 : Room 2 _ := hr.mono (by omega)
    refine ⟨_, pss_cons (ps_if (PW.pt (pw_or (pt_not (pt_val (pe_call GW r1 (by rfl) DW.mg DW.fn.kp DW.bd .nil pass0 (pa_cons (pv 0) pa_nil))))
          (pw_or1 (pt_not (pt_chain op_le op_le pe_int (pv 0) pe_no)))))
          (pss_one (ps_raise rfl (takes_of rfl rfl rfl rfl) (pmk_oex T.o T.i T.t GI r2 bI .nil pass0 (by rfl) T.g (pa_cons (pv 0) pa_nil)))) pss_nil) pss_no, ?_⟩
    refine ⟨_, rfl, _, .int a, rfl, .dp (.int a), _, rfl, iteF ⟨_, rfl, 0, a, rfl, rfl, _, rfl, ?_⟩⟩
    rw [decide_eq_false (show ¬ (0 : Int) ≤ a by omega)]
    exact iteF ⟨_, rfl, iteT (raise_var rfl fun dd h => q dd h)⟩
/-! ### rows whose name is none -/
def spRow0 (K : PySem.W.Frag) : Sp := fun vs H Q _ => ∃ (t : Addr) (x x2 y : V) (d : PyData), vs = [.ref t, y] ∧ SqT K H t [x, x2] ∧ Th K H x d ∧ Short d ∧ nameB d = false ∧ ∀ H', Same H H' → Q (.bl false) H'
theorem ok_death0 {f fN : Addr} {fd fdN : FuncData} {k : Nat} (B : Bi mg) (GN : FnOk P w K mg base CX0 (k + 1) fN fdN ["thing"] (spName K)) (D : Df K mg "is_death" sDeath f fd ["thing", "ahead"]) (DN : Df K mg "is_name" sName fN fdN ["thing"]) :
    FnOk P w K mg base CX0 (k + 2) f fd ["thing", "ahead"] (spRow0 K) := by
  refine D.fn.ok scDeath (fun vs H Q E h => ?_) (fun cdv A outer s H vs Q E hr h => ?_)
  · obtain ⟨t, x, x2, y, d, rfl, _⟩ := h
    rfl
  · obtain ⟨t, x, x2, y, d, rfl, hs, th, sk, bad, q⟩ := h
    refine ⟨_, pss_cons (ps_if (PW.pt (pw_or (pt_not (pt_val (pe_callB call_isi (by rfl) B.isi boot_isinstance (pa_cons (pv 0) (pa_cons (pe_bltn (v := .ty "tuple") (by rfl) B.tuple boot_tuple rfl) pa_nil)))))
          (pw_or1 (pt_cmpR op_ne (pe_callB call_len_seq (by rfl) B.len PySem.boot_len (pa_cons (pv 0) pa_nil)) pe_int (nomark _))))) (pss_one (ps_ret pe_bl)) pss_nil)
      (pss_cons (ps_asg (pv 0) (pg_tup rfl (pgs_cons (pg_name (i := 2) scDeath.nd rfl (.inl rfl)) (pgs_cons (pg_name (i := 3) scDeath.nd rfl (.inl rfl)) pgs_nil))))
      (pss_cons (ps_if (PW.pt (pw_or (pt_not (pt_val (pe_call GN hr (by rfl) DN.mg DN.fn.kp DN.bd .nil pass0 (pa_cons (pv 2) pa_nil)))) (pw_or1 pt_no))) (pss_one (ps_ret pe_bl)) pss_nil) pss_no)), ?_⟩
    refine ⟨_, rfl, _, .ty "tuple", _, .type "tuple", true, rfl, .ty _, tyT hs, kit_ty (by decide +kernel), true, rfl, iteF ⟨_, rfl, t, _, rfl, .inr hs, rfl, _, rfl, iteF ?_⟩⟩
    refine ⟨_, rfl, t, _, rfl, hs, rfl, _, _, rfl, _, _, rfl, rfl, ?_⟩
    refine ⟨_, rfl, x, d, rfl, th, sk, fun H1 sm => ?_⟩
    rw [bad]
    exact ⟨false, rfl, iteT (iteT (q H1 sm))⟩
theorem ok_person0 {f fN : Addr} {fd fdN : FuncData} {k : Nat} (B : Bi mg) (GN : FnOk P w K mg base CX0 (k + 1) fN fdN ["thing"] (spName K)) (D : Df K mg "is_person" sPerson f fd ["thing", "ahead"]) (DN : Df K mg "is_name" sName fN fdN ["thing"]) :
    FnOk P w K mg base CX0 (k + 2) f fd ["thing", "ahead"] (spRow0 K) := by
  refine D.fn.ok scPerson (fun vs H Q E h => ?_) (fun cdv A outer s H vs Q E hr h => ?_)
  · obtain ⟨t, x, x2, y, d, rfl, _⟩ := h
    rfl
  · obtain ⟨t, x, x2, y, d, rfl, hs, th, sk, bad, q⟩ := h
    refine ⟨_, pss_cons (ps_if (PW.pt (pw_or (pt_not (pt_val (pe_callB call_isi (by rfl) B.isi boot_isinstance (pa_cons (pv 0) (pa_cons (pe_bltn (v := .ty "tuple") (by rfl) B.tuple boot_tuple rfl) pa_nil)))))
          (pw_or1 (pt_cmpR op_ne (pe_callB call_len_seq (by rfl) B.len PySem.boot_len (pa_cons (pv 0) pa_nil)) pe_int (nomark _))))) (pss_one (ps_ret pe_bl)) pss_nil)
      (pss_cons (ps_asg (pv 0) (pg_tup rfl (pgs_cons (pg_name (i := 2) scPerson.nd rfl (.inl rfl)) (pgs_cons (pg_name (i := 3) scPerson.nd rfl (.inl rfl)) pgs_nil))))
      (pss_cons (ps_if (PW.pt (pw_or (pt_not (pt_val (pe_call GN hr (by rfl) DN.mg DN.fn.kp DN.bd .nil pass0 (pa_cons (pv 2) pa_nil)))) (pw_or1 pt_no))) (pss_one (ps_ret pe_bl)) pss_nil) pss_no)), ?_⟩
    refine ⟨_, rfl, _, .ty "tuple", _, .type "tuple", true, rfl, .ty _, tyT hs, kit_ty (by decide +kernel), true, rfl, iteF ⟨_, rfl, t, _, rfl, .inr hs, rfl, _, rfl, iteF ?_⟩⟩
    refine ⟨_, rfl, t, _, rfl, hs, rfl, _, _, rfl, _, _, rfl, rfl, ?_⟩
    refine ⟨_, rfl, x, d, rfl, th, sk, fun H1 sm => ?_⟩
    rw [bad]
    exact ⟨false, rfl, iteT (iteT (q H1 sm))⟩
/-- one row, whose name is none -/
def Bad1 (K : PySem.W.Frag) (C : Addr) (H : Hp) (v : V) (E : XK) : Prop := ∃ (t t2 : Addr) (x x2 : V) (d : PyData), v = .ref t ∧ SqT K H t [.ref t2] ∧ SqT K H t2 [x, x2] ∧ Th K H x d ∧ Short d ∧ nameB d = false ∧ ∀ H' dd, Same H H' → H' dd = none → E (.ref C) (some dd) (upd H' dd (.xd [("number", .int 0)]))
def spChk (K : PySem.W.Frag) (C : Addr) : Sp := fun vs H _ E => ∃ v, vs = [v] ∧ Bad1 K C H v E
theorem ok_chkD {f fD : Addr} {fd fdD fdI : FuncData} {tM : Tok} (B : Bi mg) (gM : mg "MOST_DEATHS" = some (.int 8 tM)) (T : ErC K mg "NoStory" "number" CT fT CW) (FI : Fun K "__init__" "NoStory.__init__" sEStory fT fdI) (bI : Binds K fdI ["self", "number"] [])
    (GD : FnOk P w K mg base CX0 2 fD fdD ["thing", "ahead"] (spRow0 K)) (D : Df K mg "check_deaths" sChkD f fd ["deaths"]) (DD : Df K mg "is_death" sDeath fD fdD ["thing", "ahead"]) : FnOk P w K mg base (L2.CX P w) 3 f fd ["deaths"] (spChk K CT) := by
  have GI : FnOk P w K mg base CX0 1 fT fdI ["self", "number"] (spInitE CT "number") := ok_eStory (k := 0) T FI
  refine D.fn.okX scChkD (fun vs H Q E h => ?_) (fun cdv A outer s H vs Q E hr h => ?_)
  · obtain ⟨v, rfl, _⟩ := h
    rfl
  · obtain ⟨v, rfl, t, t2, x, x2, d, rfl, ht, ht2, th, sk, bad, q⟩ := h
    have r2 : Room 2 _ := hr.mono (by omega)
    refine ⟨_, pss_cons (ps_if (PW.pt (pw_or (pt_not (pt_val (pe_callB call_isi (by rfl) B.isi boot_isinstance (pa_cons (pv 0) (pa_cons (pe_bltn (v := .ty "tuple") (by rfl) B.tuple boot_tuple rfl) pa_nil)))))
          (pw_or1 (pt_cmpR op_gt (pe_callB call_len_seq (by rfl) B.len PySem.boot_len (pa_cons (pv 0) pa_nil)) (pe_glob (v := .int 8) (by rfl) gM ⟨_, rfl⟩) (nomark _))))) (pss_one ps_no) pss_nil)
      (pss_cons (ps_set (i := 1) scChkD.nd rfl (.inl rfl) pe_non)
      (pss_one (ps_for (passes_of rfl) rfl (pi_E .tu (by rfl) B.enum (pa_cons (pv 0) pa_nil)) (pg_tup rfl (pgs_cons (pg_name (i := 2) scChkD.nd rfl (.inl rfl)) (pgs_cons (pg_name (i := 3) scChkD.nd rfl (.inl rfl)) pgs_nil)))
        (pss_cons (ps_if (pt_not (pt_val (pe_call GD r2 (by rfl) DD.mg DD.fn.kp DD.bd .nil pass0 (pa_cons (pv 3) (pa_cons (pv 1) pa_nil)))))
          (pss_one (ps_raise rfl (takes_of rfl rfl rfl rfl) (pmk_oex T.o T.i T.t GI r2 bI .nil pass0 (by rfl) T.g (pa_cons (pv 2) pa_nil)))) pss_nil) pss_no)))), ?_⟩
    refine ⟨_, rfl, _, .ty "tuple", _, .type "tuple", true, rfl, .ty _, tyT ht, kit_ty (by decide +kernel), true, rfl, iteF ⟨_, rfl, t, _, rfl, .inr ht, _, 8, rfl, rfl, _, rfl, iteF ?_⟩⟩
    refine ⟨_, rfl, t, _, rfl, ht, for_it (walkE (K := K) (k := .tu) (a := t) (xs := [.ref t2])) (fun i σ H' => i = 0 ∧ σ = [some (.ref t), some .non, none, none] ∧ H' = H) ⟨rfl, rfl, rfl⟩ (fun i σ H' _ h => h.2.2 ▸ ht) ?_ ?_⟩
    · rintro i _ σ H4 _ _ ⟨rfl, rfl, rfl⟩ ⟨T1, _, y, rfl, nT, rfl, ei, hx⟩
      cases ei
      cases hx
      have sm : Same H4 (upd H4 T1 (.tup [.int (0 : Nat), .ref t2])) := same_new nT
      refine ⟨T1, _, rfl, sqT upd_same, rfl, _, _, rfl, _, _, rfl, rfl, ?_⟩
      refine ⟨_, rfl, _, rfl, t2, x, x2, .non, d, rfl, (tk_same sm).sq ht2, th.same sm, sk, bad, fun H5 sm5 => ⟨false, rfl, iteT (raise_var rfl fun dd h => q H5 dd (sm.trans sm5) h)⟩⟩
    · rintro σ H4 ⟨e, _⟩
      cases e
theorem ok_chkP {f fD : Addr} {fd fdD fdI : FuncData} {tM : Tok} (B : Bi mg) (gM : mg "MOST_PEOPLE" = some (.int 8 tM)) (T : ErC K mg "NoPeople" "number" CP fP CW) (FI : Fun K "__init__" "NoPeople.__init__" sEPeople fP fdI) (bI : Binds K fdI ["self", "number"] [])
    (GD : FnOk P w K mg base CX0 2 fD fdD ["thing", "ahead"] (spRow0 K)) (D : Df K mg "check_people" sChkP f fd ["people"]) (DD : Df K mg "is_person" sPerson fD fdD ["thing", "ahead"]) : FnOk P w K mg base (L2.CX P w) 3 f fd ["people"] (spChk K CP) := by
  have GI : FnOk P w K mg base CX0 1 fP fdI ["self", "number"] (spInitE CP "number") := ok_ePeople (k := 0) T FI
  refine D.fn.okX scChkP (fun vs H Q E h => ?_) (fun cdv A outer s H vs Q E hr h => ?_)
  · obtain ⟨v, rfl, _⟩ := h
    rfl
  · obtain ⟨v, rfl, t, t2, x, x2, d, rfl, ht, ht2, th, sk, bad, q⟩ := h
    have r2 : Room 2 _ := hr.mono (by omega)
    refine ⟨_, pss_cons (ps_if (PW.pt (pw_or (pt_not (pt_val (pe_callB call_isi (by rfl) B.isi boot_isinstance (pa_cons (pv 0) (pa_cons (pe_bltn (v := .ty "tuple") (by rfl) B.tuple boot_tuple rfl) pa_nil)))))
          (pw_or1 (pt_not (pt_chain op_le op_le pe_int (pe_callB call_len_seq (by rfl) B.len PySem.boot_len (pa_cons (pv 0) pa_nil)) (pe_glob (v := .int 8) (by rfl) gM ⟨_, rfl⟩)))))) (pss_one ps_no) pss_nil)
      (pss_cons (ps_set (i := 1) scChkP.nd rfl (.inl rfl) (pe_lst pa_nil))
      (pss_one (ps_for (passes_of rfl) rfl (pi_E .tu (by rfl) B.enum (pa_cons (pv 0) pa_nil)) (pg_tup rfl (pgs_cons (pg_name (i := 2) scChkP.nd rfl (.inl rfl)) (pgs_cons (pg_name (i := 3) scChkP.nd rfl (.inl rfl)) pgs_nil)))
        (pss_cons (ps_if (pt_not (pt_val (pe_call GD r2 (by rfl) DD.mg DD.fn.kp DD.bd .nil pass0 (pa_cons (pv 3) (pa_cons (pv 1) pa_nil)))))
          (pss_one (ps_raise rfl (takes_of rfl rfl rfl rfl) (pmk_oex T.o T.i T.t GI r2 bI .nil pass0 (by rfl) T.g (pa_cons (pv 2) pa_nil)))) pss_nil) pss_no)))), ?_⟩
    refine ⟨_, rfl, _, .ty "tuple", _, .type "tuple", true, rfl, .ty _, tyT ht, kit_ty (by decide +kernel), true, rfl, iteF ⟨_, rfl, t, _, rfl, .inr ht, 1, _, rfl, rfl, _, rfl, iteT ⟨_, 8, rfl, rfl, _, rfl, iteF ?_⟩⟩⟩
    refine ⟨by show 0 ≤ sizeLine; decide, fun l nl => ?_⟩
    have sm0 : Same H (upd H l (.lst [])) := same_new nl
    revert sm0
    generalize upd H l (.lst []) = H1
    intro sm0
    have ht1 := (tk_same sm0).sq ht
    refine ⟨_, rfl, t, _, rfl, ht1, for_it (walkE (K := K) (k := .tu) (a := t) (xs := [.ref t2])) (fun i σ H' => i = 0 ∧ σ = [some (.ref t), some (.ref l), none, none] ∧ H' = H1) ⟨rfl, rfl, rfl⟩ (fun i σ H' _ h => h.2.2 ▸ ht1) ?_ ?_⟩
    · rintro i _ σ H4 _ _ ⟨rfl, rfl, rfl⟩ ⟨T1, _, y, rfl, nT, rfl, ei, hx⟩
      cases ei
      cases hx
      have sm : Same H (upd H4 T1 (.tup [.int (0 : Nat), .ref t2])) := sm0.trans (same_new nT)
      refine ⟨T1, _, rfl, sqT upd_same, rfl, _, _, rfl, _, _, rfl, rfl, ?_⟩
      refine ⟨_, rfl, _, rfl, t2, x, x2, .ref l, d, rfl, (tk_same sm).sq ht2, th.same sm, sk, bad, fun H5 sm5 => ⟨false, rfl, iteT (raise_var rfl fun dd h => q H5 dd (sm.trans sm5) h)⟩⟩
    · rintro σ H4 ⟨e, _⟩
      cases e
/-! ### Story and House of such rows -/
def spSI (K : PySem.W.Frag) (C : Addr) : Sp := fun vs H _ E => ∃ o v, vs = [o, v] ∧ Bad1 K C H v E
theorem ok_SI {f fC : Addr} {fd fdC : FuncData} (F : FunD K "__init__" "Story.__init__" (defArgs sSI) (defBody sSI) (defScope sSI) [.non] [] f fd) (GC : FnOk P w K mg base (L2.CX P w) 3 fC fdC ["deaths"] (spChk K CT)) (DC : Df K mg "check_deaths" sChkD fC fdC ["deaths"]) :
    FnOk P w K mg base (L2.CX P w) 4 f fd ["self", "deaths"] (spSI K CT) := by
  refine F.ok scSI (fun vs H Q E h => ?_) (fun cdv A outer s H vs Q E hr h => ?_)
  · obtain ⟨o, v, rfl, _⟩ := h
    rfl
  · obtain ⟨o, v, rfl, h⟩ := h
    refine ⟨_, pss_cons (ps_set (i := 2) scSI.nd rfl (.inl rfl) (pe_ifExp (pt_cmpR op_isN (pv 1) pe_non (nomark _)) pe_no (pv 1)))
      (pss_cons (ps_expr (pe_callS GC hr (by rfl) DC.mg DC.fn.kp DC.bd (fun σ => passAt (takes_of rfl rfl rfl rfl) σ) (pa_cons (pv 2) pa_nil))) pss_no), ?_⟩
    obtain ⟨t, _, _, _, _, rfl, _⟩ := id h
    exact ⟨_, rfl, rfl, _, rfl, iteF ⟨_, rfl, _, rfl, _, rfl, h⟩⟩
def spHI (K : PySem.W.Frag) (C : Addr) : Sp := fun vs H _ E => ∃ o v, vs = [o, v, .non, .int 0, .int 0] ∧ Bad1 K C H v E
theorem ok_HI {f fC : Addr} {fd fdC : FuncData} (F : FunD K "__init__" "House.__init__" (defArgs sHI) (defBody sHI) (defScope sHI) [.non, .int 0, .int 0] [] f fd) (GC : FnOk P w K mg base (L2.CX P w) 3 fC fdC ["people"] (spChk K CP)) (DC : Df K mg "check_people" sChkP fC fdC ["people"]) :
    FnOk P w K mg base (L2.CX P w) 4 f fd ["self", "people", "goods", "purse", "debts"] (spHI K CP) := by
  refine F.ok scHI (fun vs H Q E h => ?_) (fun cdv A outer s H vs Q E hr h => ?_)
  · obtain ⟨o, v, rfl, _⟩ := h
    rfl
  · obtain ⟨o, v, rfl, h⟩ := h
    exact ⟨_, pss_cons (ps_expr (pe_callS GC hr (by rfl) DC.mg DC.fn.kp DC.bd (fun σ => passAt (takes_of rfl rfl rfl rfl) σ) (pa_cons (pv 1) pa_nil))) pss_no, _, rfl, _, rfl, h⟩
end
end WdQ

set_option Elab.async false
set_option linter.all false
set_option maxRecDepth 100000
set_option maxHeartbeats 4000000
set_option exponentiation.threshold 5000
namespace WdQ
open PySem PySem.Spec PyProof.Rows L2 WdM Wd
abbrev sPool : Stmt := topS 62
abbrev sTake : Stmt := topS 63
theorem scPool : FnScope ["_law_script", "_law_k", "_law_cell", "_law_more", "_law_found", "_law_turn"] ["_law_script", "_law_k"] (defScope sPool) := ⟨rfl, rfl, rfl, by decide +kernel, rfl, by decide +kernel, by decide +kernel⟩
theorem scTake : FnScope ["_law_pool_here", "_law_many", "_law_digit"] ["_law_pool_here", "_law_many"] (defScope sTake) := ⟨rfl, rfl, rfl, by decide +kernel, rfl, by decide +kernel, by decide +kernel⟩
def PoolAt (H : Hp) (l : Addr) : Prop := ∃ n : Int, H l = some (.lst [.int n]) ∧ 0 ≤ n ∧ n.natAbs < 2 ^ 1300
theorem PoolAt.lst {H : Hp} {l : Addr} (h : PoolAt H l) : ∀ a ∈ [l], ∃ zs, H a = some (.lst zs) := fun a ha => by
  obtain ⟨n, e, _⟩ := h
  rw [List.mem_singleton.mp ha]
  exact ⟨_, e⟩
theorem PoolAt.same {H H' : Hp} {l : Addr} (h : PoolAt H l) (e : Same H H') : PoolAt H' l := by
  obtain ⟨n, a, b⟩ := h
  exact ⟨n, e _ _ a, b⟩
theorem PoolAt.ne {H : Hp} {l p : Addr} (h : PoolAt H l) (e : H p = none) : l ≠ p := by
  obtain ⟨n, a, b⟩ := h
  exact ne_of_none a e
theorem PoolAt.upd {H : Hp} {l p : Addr} {o : HO} (h : PoolAt H l) (e : l ≠ p) : PoolAt (upd H p o) l := by
  obtain ⟨n, a, b⟩ := h
  exact ⟨n, by rw [upd_ne e]; exact a, b⟩
theorem kept {S : List Addr} {H H' : Hp} {b : Addr} {o : HO} (e : Bt S H H') (h : H b = some o) (n : b ∉ S) : H' b = some o := e b o n h
section
variable {P : Program} {w : World} {K : PySem.W.Frag} {mg : Str → Option Value} {base : Heap}
def spTake : Sp := fun vs H Q _ => ∃ (l : Addr) (m : Int), vs = [.ref l, .int m] ∧ PoolAt H l ∧ 0 < m ∧ ∀ H' d, Bt [l] H H' → PoolAt H' l → 0 ≤ d → d < m → Q (.int d) H'
theorem ok_take {f : Addr} {fd : FuncData} {k : Nat} (B : Bi mg) (D : Df K mg "_law_take" sTake f fd ["_law_pool_here", "_law_many"]) : FnOk P w K mg base CX0 (k + 1) f fd ["_law_pool_here", "_law_many"] spTake := by
  refine D.fn.ok scTake (fun vs H Q E h => ?_) (fun cdv A outer s H vs Q E hr h => ?_)
  · obtain ⟨l, m, rfl, _⟩ := h
    rfl
  · obtain ⟨l, m, rfl, ⟨n, hl, n0, nB⟩, m0, q⟩ := h
    refine ⟨_, pss_cons (ps_asg (pe_callB call_divmodW (by rfl) B.divmod (by decide +kernel) (pa_cons (pe_ix (r := rIxL K) ix_list (pv 0) pe_int (fun _ _ => rfl)) (pa_cons (pv 1) pa_nil)))
        (pg_tup rfl (pgs_cons (pg_sub (pv 0) pe_int set_list) (pgs_cons (pg_name (i := 2) scTake.nd rfl (.inl rfl)) pgs_nil))))
      (pss_one (ps_ret (pv 2))), ?_⟩
    refine ⟨_, rfl, l, _, 0, .int n, rfl, rfl, sqL hl, atI_nat (j := 0) rfl, _, rfl, n, m, rfl, divp_ok m0 ?_, fun p hp => ?_⟩
    · have := PyProof.Rows.intBits_le nB
      omega
    · have nlp : l ≠ p := ne_of_none hl hp
      have hl2 : (upd H p (.tup [.int (n / m), .int (n % m)])) l = some (.lst [.int n]) := by rw [upd_ne nlp]; exact hl
      refine ⟨p, _, rfl, sqT upd_same, rfl, _, _, rfl, _, rfl, l, _, 0, 0, rfl, rfl, hl2, ixN_nat (n := 1) (i := 0) (by decide), _, _, rfl, rfl, ?_⟩
      refine ⟨_, rfl, q _ _ (((Bt.refl H).new hp).upd1 (by simp)) ⟨n / m, upd_same, Int.ediv_nonneg n0 (Int.le_of_lt m0), ?_⟩ (Int.emod_nonneg n (by omega)) (Int.emod_lt_of_pos n m0)⟩
      exact wide_le (Int.ediv_nonneg n0 (Int.le_of_lt m0)) (Int.ediv_le_self _ n0) nB
def spPool (K : PySem.W.Frag) : Sp := fun vs H Q _ => ∃ (a : Addr) (ns : List Int) (i : Int), vs = [.ref a, .int i] ∧ SqL K H a (ns.map V.int) ∧ 0 ≤ i ∧ i < 64 ∧ ∀ H' l, Same H H' → H l = none → PoolAt H' l → Q (.ref l) H'
theorem found_step {f x : Int} {m : Nat} (h0 : 0 ≤ f) (h1 : f.natAbs < 2 ^ m) (h2 : 0 ≤ x) (h3 : x < 99999999977) : 0 ≤ f * 100000000000 + x ∧ (f * 100000000000 + x).natAbs < 2 ^ (m + 37) := by
  rw [Nat.pow_add]
  generalize 2 ^ m = B at *
  rw [show (2 : Nat) ^ 37 = 137438953472 by decide]
  omega
theorem cut_ints (ns : List Int) (lo hi : Option Int) : ∃ ms : List Int, cutV (ns.map V.int) lo hi = ms.map V.int := by
  unfold cutV
  exact ⟨(ns.drop _).take _, by rw [List.map_take, List.map_drop]⟩
theorem ok_pool {f : Addr} {fd : FuncData} {k : Nat} (B : Bi mg) (D : Df K mg "_law_pool" sPool f fd ["_law_script", "_law_k"]) : FnOk P w K mg base CX0 (k + 1) f fd ["_law_script", "_law_k"] (spPool K) := by
  refine D.fn.ok scPool (fun vs H Q E h => ?_) (fun cdv A outer s H vs Q E hr h => ?_)
  · obtain ⟨l, m, i, rfl, _⟩ := h
    rfl
  · obtain ⟨a, ns, i, rfl, hs, i0, i1, q⟩ := h
    refine ⟨_, pss_cons (ps_set (i := 2) scPool.nd rfl (.inl rfl) (pe_callB (cr_sum rfl) (by rfl) B.sum (by decide +kernel) (pa_cons (pe_slice sl_list (pv 0) (po_some (pv 1)) (po_some (pe_op op_add (pv 1) pe_int))) pa_nil)))
      (pss_cons (ps_if (PW.pt (pw_or (pt_cmpR op_lt (pv 2) pe_int (nomark _)) (pw_or1 (pt_cmpR op_ge (pv 2) (pe_op op_pow pe_int pe_int) (nomark _)))))
        (pss_one (ps_ret (pe_lst (pa_cons (pe_op op_mod (pe_callB call_abs (by rfl) B.abs (by decide +kernel) (pa_cons (pv 2) pa_nil))
          (pe_op op_mulW (pe_op op_mulW (pe_op op_mulW (pe_op op_mulW (pe_op op_mulW (pe_op op_pow pe_int pe_int) (pe_op op_pow pe_int pe_int)) (pe_op op_pow pe_int pe_int)) (pe_op op_pow pe_int pe_int)) (pe_op op_pow pe_int pe_int)) (pe_op op_pow pe_int pe_int))) pa_nil)))) pss_nil)
      (pss_cons (ps_set (i := 3) scPool.nd rfl (.inl rfl) (pe_op op_add (pe_op op_add (pe_op op_mul (pv 2) pe_int) (pe_op op_mul (pe_op op_mul pe_int (pv 1)) (pv 1))) pe_int))
      (pss_cons (ps_set (i := 4) scPool.nd rfl (.inl rfl) pe_int)
      (pss_cons (ps_for PassesOwn.never rfl (pi_range1 (by rfl) B.range (pa_cons pe_int pa_nil)) (pg_name (i := 5) scPool.nd rfl (.inl rfl))
        (pss_cons (ps_set (i := 3) scPool.nd rfl (.inl rfl) (pe_op op_mod (pe_op op_add (pe_op op_add (pe_op op_mul (pe_op op_mod (pv 3) pe_int) pe_int) (pe_op op_mul pe_int (pv 5))) pe_int) pe_int))
        (pss_one (ps_set (i := 4) scPool.nd rfl (.inl rfl) (pe_op op_add (pe_op op_mulW (pv 4) (pe_op op_pow pe_int pe_int)) (pe_op op_mod (pe_op op_mul (pv 3) (pe_op op_add (pe_op op_mod (pv 3) pe_int) pe_int)) pe_int))))))
      (pss_one (ps_ret (pe_lst (pa_cons (pv 4) pa_nil)))))))), ?_⟩
    refine ⟨_, rfl, _, rfl, i, rfl, _, rfl, i, 1, rfl, rfl, i + 1, rfl, a, _, rfl, hs, fun p hp => ?_⟩
    obtain ⟨ms, em⟩ := cut_ints ns (some i) (some (i + 1))
    have sm : Same H (upd H p (.lst (cutV (ns.map V.int) (some i) (some (i + 1))))) := same_new hp
    refine ⟨p, ms, rfl, sqL (by rw [upd_same, em]), ?_⟩
    generalize ms.sum = c
    revert sm
    generalize upd H p (.lst (cutV (ns.map V.int) (some i) (some (i + 1)))) = H1
    intro sm
    refine ⟨_, rfl, c, 0, rfl, rfl, _, rfl, ?_⟩
    have huge : ∀ (Q2 : V → Hp → Prop), (∀ l n, H1 l = none → 0 ≤ n → n.natAbs < 2 ^ 1300 → Q2 (.ref l) (upd H1 l (.lst [.int n]))) →
        tLst (tCons (tOp (rI (fun _ j => 0 < j) fun i j => .int (i % j)) (tCB (fun xs H Q => ∃ i, xs = [.int i] ∧ Q (.int (if i < 0 then -i else i)) H) (tCons (tVar 2) tNil))
          (tOp (rI CMulW fun i j => .int (i * j)) (tOp (rI CMulW fun i j => .int (i * j)) (tOp (rI CMulW fun i j => .int (i * j)) (tOp (rI CMulW fun i j => .int (i * j)) (tOp (rI CMulW fun i j => .int (i * j)) (tOp (rI CPow fun i j => .int (i ^ j.toNat)) (tC (.int 10)) (tC (.int 64))) (tOp (rI CPow fun i j => .int (i ^ j.toNat)) (tC (.int 10)) (tC (.int 64)))) (tOp (rI CPow fun i j => .int (i ^ j.toNat)) (tC (.int 10)) (tC (.int 64)))) (tOp (rI CPow fun i j => .int (i ^ j.toNat)) (tC (.int 10)) (tC (.int 64)))) (tOp (rI CPow fun i j => .int (i ^ j.toNat)) (tC (.int 10)) (tC (.int 64)))) (tOp (rI CPow fun i j => .int (i ^ j.toNat)) (tC (.int 10)) (tC (.int 64))))) tNil)
          [some (.ref a), some (.int i), some (.int c), none, none, none] H1 Q2 := fun Q2 h => by
      have cp : CPow 10 64 := ⟨by decide, by decide, by decide⟩
      have t0 : ((10 : Int) ^ (64 : Int).toNat).natAbs < 2 ^ 213 := by decide
      have b0 : (0 : Int) < (10 : Int) ^ (64 : Int).toNat := by decide
      generalize he : (10 : Int) ^ (64 : Int).toNat = t at t0 b0
      have t1 := wide_lt t0 t0
      have t2 := wide_lt t1 t0
      have t3 := wide_lt t2 t0
      have t4 := wide_lt t3 t0
      have t5 := wide_lt t4 t0
      have b5 : 0 < t * t * t * t * t * t := Int.mul_pos (Int.mul_pos (Int.mul_pos (Int.mul_pos (Int.mul_pos b0 b0) b0) b0) b0) b0
      have hv := congrArg V.int he
      refine ⟨_, rfl, c, rfl, 10, 64, rfl, rfl, cp, 10, 64, rfl, rfl, cp, t, t, hv, hv, wide_mul t0 t0 (by decide) (by decide) (by decide), 10, 64, rfl, rfl, cp,
        t * t, t, rfl, hv, wide_mul t1 t0 (by decide) (by decide) (by decide), 10, 64, rfl, rfl, cp, t * t * t, t, rfl, hv, wide_mul t2 t0 (by decide) (by decide) (by decide), 10, 64, rfl, rfl, cp,
        t * t * t * t, t, rfl, hv, wide_mul t3 t0 (by decide) (by decide) (by decide), 10, 64, rfl, rfl, cp, t * t * t * t * t, t, rfl, hv, wide_mul t4 t0 (by decide) (by decide) (by decide),
        _, _, rfl, rfl, b5, by show 1 ≤ sizeLine; decide, fun l hl => h l _ hl (Int.emod_nonneg _ (by omega)) ?_⟩
      have := Int.emod_lt_of_pos (if c < 0 then -c else c) b5
      exact Nat.lt_of_lt_of_le (wide_le (Int.emod_nonneg _ (by omega)) (Int.le_of_lt this) t5) (pow_le (by decide))
    have fin : ∀ l n, H1 l = none → 0 ≤ n → n.natAbs < 2 ^ 1300 → Q (.ref l) (upd H1 l (.lst [.int n])) := fun l n hl h0 hB => q _ l (sm.trans (same_new hl)) (sm.free hl) ⟨n, upd_same, h0, hB⟩
    by_cases hneg : c < 0
    · rw [decide_eq_true hneg]
      exact iteT (iteT (huge Q fin))
    · rw [decide_eq_false hneg]
      refine iteF ⟨_, rfl, 10, 18, rfl, rfl, ⟨by decide, by decide, by decide⟩, c, _, rfl, rfl, _, rfl, ?_⟩
      by_cases hbig : (10 : Int) ^ (18 : Int).toNat ≤ c
      · rw [decide_eq_true hbig]
        exact iteT (huge Q fin)
      · rw [decide_eq_false hbig]
        have hc : c < 1000000000000000000 := by
          have : (10 : Int) ^ (18 : Int).toNat = 1000000000000000000 := by decide
          omega
        refine iteF ?_
        refine ⟨_, rfl, c, 48271, rfl, rfl, .inr ⟨by decide, by decide⟩, _, rfl, 977, i, rfl, rfl, .inl ⟨by decide, by decide⟩, _, rfl, _, i, rfl, rfl, .inr ⟨by omega, by omega⟩, _, _, rfl, rfl, _, 13, rfl, rfl, ?_⟩
        have m0 : 0 ≤ c * 48271 + 977 * i * i + 13 := by
          have := Int.mul_nonneg (show 0 ≤ 977 * i by omega) i0
          omega
        refine ⟨27, rfl, by decide, by decide, for_range (lo := 0) (n := 27) (fun j σ H' => ∃ (mm ff : Int) (y : Option V), σ = [some (.ref a), some (.int i), some (.int c), some (.int mm), some (.int ff), y] ∧ 0 ≤ mm ∧ 0 ≤ ff ∧ ff.natAbs < 2 ^ (37 * j) ∧ H' = H1)
          ⟨_, 0, none, rfl, m0, Int.le_refl 0, by decide, rfl⟩ ?_ ?_⟩
        · rintro j σ H' hj ⟨mm, ff, y, rfl, g1, g2, g3, rfl⟩
          have r0 := Int.emod_nonneg mm (show (999999999989 : Int) ≠ 0 by decide)
          have r1 := Int.emod_lt_of_pos mm (show (0 : Int) < 999999999989 by decide)
          refine ⟨_, rfl, mm, 999999999989, rfl, rfl, by show (0 : Int) < 999999999989; decide, _, 69621, rfl, rfl, .inr ⟨by decide, by decide⟩, _, rfl, 40503, _, rfl, rfl, .inl ⟨by decide, by decide⟩, _, _, rfl, rfl, _, 271, rfl, rfl, _, 999999999989, rfl, rfl, by show (0 : Int) < 999999999989; decide, ?_⟩
          have s0 := Int.emod_nonneg (mm % 999999999989 * 69621 + 40503 * (0 + (j : Int)) + 271) (show (999999999989 : Int) ≠ 0 by decide)
          have s1 := Int.emod_lt_of_pos (mm % 999999999989 * 69621 + 40503 * (0 + (j : Int)) + 271) (show (0 : Int) < 999999999989 by decide)
          have fB : ff.natAbs < 2 ^ 1000 := Nat.lt_of_lt_of_le g3 (pow_le (by omega))
          refine ⟨_, rfl, 10, 11, rfl, rfl, ⟨by decide, by decide, by decide⟩, ff, _, rfl, rfl, wide_mul fB (show ((10 : Int) ^ (11 : Int).toNat).natAbs < 2 ^ 64 by decide) (by decide) (by decide) (by decide), _, rfl, _, rfl, _, 65537, rfl, rfl, by show (0 : Int) < 65537; decide, _, 3, rfl, rfl, _, _, rfl, rfl, .inl ⟨Int.lt_of_lt_of_le (by decide) s0, Int.lt_trans s1 (by decide)⟩, _, 99999999977, rfl, rfl, by show (0 : Int) < 99999999977; decide, _, _, rfl, rfl, ?_⟩
          refine ⟨_, _, _, rfl, s0, ?_, ?_, rfl⟩
          · exact (found_step g2 g3 (Int.emod_nonneg _ (by decide)) (Int.emod_lt_of_pos _ (by decide))).1
          · exact (found_step g2 g3 (Int.emod_nonneg _ (by decide)) (Int.emod_lt_of_pos _ (by decide))).2
        · rintro σ H' ⟨mm, ff, y, rfl, g1, g2, g3, rfl⟩
          exact ⟨_, rfl, by show 1 ≤ sizeLine; decide, fun l hl => fin l ff hl g2 (Nat.lt_of_lt_of_le g3 (pow_le (by decide)))⟩
end
end WdQ

set_option Elab.async false
set_option linter.all false
set_option maxRecDepth 100000
set_option maxHeartbeats 4000000
set_option exponentiation.threshold 5000
namespace WdQ
open PySem PySem.Spec PyProof.Rows L2 WdM Wd
abbrev sSort : Stmt := topS 64
theorem scSort : FnScope ["_law_caught", "_law_kinds", "_law_words", "_law_at", "_law_families", "_law_own", "_law_due"] ["_law_caught"] (defScope sSort) := ⟨rfl, rfl, rfl, by decide +kernel, rfl, by decide +kernel, by decide +kernel⟩
/-- the classes of the errors, by the law's own order; 21, 22, 23: the families -/
structure ClsF (mg : Str → Option Value) (C : Nat → Addr) : Prop where
  g0 : mg "NoName" = some (.ref (C 0))
  g1 : mg "NoSum" = some (.ref (C 1))
  g2 : mg "NoShares" = some (.ref (C 2))
  g3 : mg "NoPeople" = some (.ref (C 3))
  g4 : mg "NoGoods" = some (.ref (C 4))
  g5 : mg "NoText" = some (.ref (C 5))
  g6 : mg "NoStory" = some (.ref (C 6))
  g7 : mg "NoDay" = some (.ref (C 7))
  g8 : mg "NoCond" = some (.ref (C 8))
  g9 : mg "NoWhom" = some (.ref (C 9))
  g10 : mg "NoClause" = some (.ref (C 10))
  g11 : mg "NoReading" = some (.ref (C 11))
  g12 : mg "NoWord" = some (.ref (C 12))
  g13 : mg "LabelStands" = some (.ref (C 13))
  g14 : mg "DayStands" = some (.ref (C 14))
  g15 : mg "NoRow" = some (.ref (C 15))
  g16 : mg "NoPerson" = some (.ref (C 16))
  g17 : mg "NoThing" = some (.ref (C 17))
  g18 : mg "NoLabel" = some (.ref (C 18))
  g19 : mg "NoUndo" = some (.ref (C 19))
  g20 : mg "TooMany" = some (.ref (C 20))
  g21 : mg "WordError" = some (.ref (C 21))
  g22 : mg "LostError" = some (.ref (C 22))
  g23 : mg "RoomError" = some (.ref (C 23))
  bV : mg "ValueError" = none
  bL : mg "LookupError" = none
  bA : mg "ArithmeticError" = none
/-- what an error of the class at D is an instance of: of the n-th one, of WordError and ValueError -/
structure KitF (K : PySem.W.Frag) (D : Addr) (C : Nat → Addr) (n : Nat) : Prop where
  kit : ∀ j, j < 21 → PySem.W.kitOne K (.ref D) (.ref (C j)) = some (decide (j = n))
  w : PySem.W.kitOne K (.ref D) (.ref (C 21)) = some true
  l : PySem.W.kitOne K (.ref D) (.ref (C 22)) = some false
  r : PySem.W.kitOne K (.ref D) (.ref (C 23)) = some false
  vV : PySem.W.kitOne K (.ref D) (.type "ValueError") = some true
  vL : PySem.W.kitOne K (.ref D) (.type "LookupError") = some false
  vA : PySem.W.kitOne K (.ref D) (.type "ArithmeticError") = some false
section
variable {P : Program} {w : World} {K : PySem.W.Frag} {mg : Str → Option Value} {base : Heap}
/-- what isinstance wants of a kept error -/
structure Kept (K : PySem.W.Frag) (H : Hp) (a D : Addr) (d : Option Addr) : Prop where
  at_ : H a = some (ExT a (.ref D) d)
  xd : ∀ dx, d = some dx → ∃ fs, H dx = some (.xd fs)
  cls : ExcC K D
theorem Kept.same {H H' : Hp} {a D : Addr} {d : Option Addr} (h : Kept K H a D d) (e : Same H H') : Kept K H' a D d := ⟨e _ _ h.at_, fun dx z => (h.xd dx z).elim fun fs q => ⟨fs, e _ _ q⟩, h.cls⟩
theorem data3 {H : Hp} {z : Addr} (h : H z = some (.lst [.bl true, .bl false, .bl false])) : Dp K H (.ref z) (.list [.bool true, .bool false, .bool false]) := .lst (sqL h) (.cons (.bl _) (.cons (.bl _) (.cons (.bl _) .nil)))
theorem shp3 : SeqAt.shaped (.list [.bool true, .bool false, .bool false]) = true := by decide
theorem eqq3 : (!PyData.eqv (.list [.bool true, .bool false, .bool false]) (.list [.bool true, .bool false, .bool false])) = false := by decide
def sortW (n : Nat) : Str := (if n = 1 then "sum" else (if n = 3 then "people" else (if n = 6 then "story" else "other")))
def spSort (K : PySem.W.Frag) (C : Nat → Addr) : Sp := fun vs H Q _ => ∃ (a D : Addr) (d : Option Addr) (n : Nat), vs = [.ref a] ∧ Kept K H a D d ∧ KitF K D C n ∧ (n = 1 ∨ n = 3 ∨ n = 6) ∧ ∀ H', Same H H' → Q (.str (sortW n)) H'
/-- three questions of a kept error: the answers in a list of its own -/
def tThree (K : PySem.W.Frag) (c0 c1 c2 : Value) : TE := fun σ H Q => ∃ (a D : Addr) (d : Option Addr) (b0 b1 b2 : Bool), σ[0]? = some (some (.ref a)) ∧ Kept K H a D d ∧ PySem.W.kitOne K (.ref D) c0 = some b0 ∧ PySem.W.kitOne K (.ref D) c1 = some b1 ∧ PySem.W.kitOne K (.ref D) c2 = some b2 ∧ ∀ p H', Same H H' → H' p = some (.lst [.bl b0, .bl b1, .bl b2]) → Q (.ref p) H'
def tCat3 (K : PySem.W.Frag) (c0 c1 c2 : Addr) : TE := fun σ H Q => ∃ (a D : Addr) (d : Option Addr) (b0 b1 b2 : Bool) (p : Addr) (xs : List V), σ[0]? = some (some (.ref a)) ∧ Kept K H a D d ∧ PySem.W.kitOne K (.ref D) (.ref c0) = some b0 ∧ PySem.W.kitOne K (.ref D) (.ref c1) = some b1 ∧ PySem.W.kitOne K (.ref D) (.ref c2) = some b2 ∧ σ[1]? = some (some (.ref p)) ∧ H p = some (.lst xs) ∧ (xs.length + 3 ≤ 100) ∧ ∀ p' H', Same H H' → H' p' = some (.lst (xs ++ [.bl b0, .bl b1, .bl b2])) → Q (.ref p') H'
def tWords (ws : List V) : TE := fun σ H Q => ∀ p H', Same H H' → H' p = some (.lst ws) → Q (.ref p) H'
def tCatW (i : Nat) (ws : List V) : TE := fun σ H Q => ∃ p xs, σ[i]? = some (some (.ref p)) ∧ H p = some (.lst xs) ∧ (xs.length + ws.length ≤ 100) ∧ ∀ p' H', Same H H' → H' p' = some (.lst (xs ++ ws)) → Q (.ref p') H'
def wsA : List V := [.str "name", .str "sum", .str "shares", .str "people", .str "goods", .str "text", .str "story", .str "day", .str "cond", .str "whom", .str "clause", .str "reading"]
def wsB : List V := [.str "word", .str "label stands", .str "day stands", .str "row", .str "person", .str "thing", .str "label", .str "undo", .str "many"]
theorem ok_sort {C : Nat → Addr} {f : Addr} {fd : FuncData} {k : Nat} (B : Bi mg) (T : ClsF mg C) (D : Df K mg "_law_sort" sSort f fd ["_law_caught"]) : FnOk P w K mg base CX0 (k + 1) f fd ["_law_caught"] (spSort K C) := by
  refine D.fn.ok scSort (fun vs H Q E h => ?_) (fun cdv A outer s H vs Q E hr h => ?_)
  · obtain ⟨a, D, d, n, rfl, _⟩ := h
    rfl
  · obtain ⟨a, D, d, n, rfl, kp, KF, hn, q⟩ := h
    have hu := hr.units
    refine ⟨_, pss_cons (ps_set (i := 1) scSort.nd rfl (.inl rfl) (PE.wk (t' := tThree K (.ref (C 0)) (.ref (C 1)) (.ref (C 2))) (pe_lst (pa_cons (pe_callB call_isT (by rfl) B.isi boot_isinstance (pa_cons (pv 0) (pa_cons (pe_glob (v := .ref (C 0)) (by rfl) T.g0 rfl) pa_nil))) (pa_cons (pe_callB call_isT (by rfl) B.isi boot_isinstance (pa_cons (pv 0) (pa_cons (pe_glob (v := .ref (C 1)) (by rfl) T.g1 rfl) pa_nil))) (pa_cons (pe_callB call_isT (by rfl) B.isi boot_isinstance (pa_cons (pv 0) (pa_cons (pe_glob (v := .ref (C 2)) (by rfl) T.g2 rfl) pa_nil))) pa_nil)))) (by (rintro σ H Q ⟨a, D, d, b0, b1, b2, h0, kp, e0, e1, e2, q⟩; exact ⟨_, h0, a, D, d, _, _, _, rfl, kp.at_, kp.xd, kp.cls, .own _, e0, _, h0, a, D, d, _, _, _, rfl, kp.at_, kp.xd, kp.cls, .own _, e1, _, h0, a, D, d, _, _, _, rfl, kp.at_, kp.xd, kp.cls, .own _, e2, by show 3 ≤ sizeLine; decide, fun p n => q p _ (same_new n) upd_same⟩))))
      (pss_cons (ps_set (i := 1) scSort.nd rfl (.inl rfl) (PE.wk (t' := tCat3 K (C 3) (C 4) (C 5)) (pe_op op_cat (pv 1) (pe_lst (pa_cons (pe_callB call_isT (by rfl) B.isi boot_isinstance (pa_cons (pv 0) (pa_cons (pe_glob (v := .ref (C 3)) (by rfl) T.g3 rfl) pa_nil))) (pa_cons (pe_callB call_isT (by rfl) B.isi boot_isinstance (pa_cons (pv 0) (pa_cons (pe_glob (v := .ref (C 4)) (by rfl) T.g4 rfl) pa_nil))) (pa_cons (pe_callB call_isT (by rfl) B.isi boot_isinstance (pa_cons (pv 0) (pa_cons (pe_glob (v := .ref (C 5)) (by rfl) T.g5 rfl) pa_nil))) pa_nil))))) (by (rintro σ H Q ⟨a, D, d, b0, b1, b2, p, xs, h0, kp, e0, e1, e2, h1, l, sz, q⟩; exact ⟨_, h1, _, h0, a, D, d, _, _, _, rfl, kp.at_, kp.xd, kp.cls, .own _, e0, _, h0, a, D, d, _, _, _, rfl, kp.at_, kp.xd, kp.cls, .own _, e1, _, h0, a, D, d, _, _, _, rfl, kp.at_, kp.xd, kp.cls, .own _, e2, by show 3 ≤ sizeLine; decide, fun p1 n1 => ⟨p, p1, xs, _, rfl, rfl, same_new n1 _ _ l, upd_same, (by show xs.length + 3 ≤ sizeLine; exact Nat.le_trans sz (by decide)), fun p2 n2 => q p2 _ ((same_new n1).trans (same_new n2)) upd_same⟩⟩))))
      (pss_cons (ps_set (i := 1) scSort.nd rfl (.inl rfl) (PE.wk (t' := tCat3 K (C 6) (C 7) (C 8)) (pe_op op_cat (pv 1) (pe_lst (pa_cons (pe_callB call_isT (by rfl) B.isi boot_isinstance (pa_cons (pv 0) (pa_cons (pe_glob (v := .ref (C 6)) (by rfl) T.g6 rfl) pa_nil))) (pa_cons (pe_callB call_isT (by rfl) B.isi boot_isinstance (pa_cons (pv 0) (pa_cons (pe_glob (v := .ref (C 7)) (by rfl) T.g7 rfl) pa_nil))) (pa_cons (pe_callB call_isT (by rfl) B.isi boot_isinstance (pa_cons (pv 0) (pa_cons (pe_glob (v := .ref (C 8)) (by rfl) T.g8 rfl) pa_nil))) pa_nil))))) (by (rintro σ H Q ⟨a, D, d, b0, b1, b2, p, xs, h0, kp, e0, e1, e2, h1, l, sz, q⟩; exact ⟨_, h1, _, h0, a, D, d, _, _, _, rfl, kp.at_, kp.xd, kp.cls, .own _, e0, _, h0, a, D, d, _, _, _, rfl, kp.at_, kp.xd, kp.cls, .own _, e1, _, h0, a, D, d, _, _, _, rfl, kp.at_, kp.xd, kp.cls, .own _, e2, by show 3 ≤ sizeLine; decide, fun p1 n1 => ⟨p, p1, xs, _, rfl, rfl, same_new n1 _ _ l, upd_same, (by show xs.length + 3 ≤ sizeLine; exact Nat.le_trans sz (by decide)), fun p2 n2 => q p2 _ ((same_new n1).trans (same_new n2)) upd_same⟩⟩))))
      (pss_cons (ps_set (i := 1) scSort.nd rfl (.inl rfl) (PE.wk (t' := tCat3 K (C 9) (C 10) (C 11)) (pe_op op_cat (pv 1) (pe_lst (pa_cons (pe_callB call_isT (by rfl) B.isi boot_isinstance (pa_cons (pv 0) (pa_cons (pe_glob (v := .ref (C 9)) (by rfl) T.g9 rfl) pa_nil))) (pa_cons (pe_callB call_isT (by rfl) B.isi boot_isinstance (pa_cons (pv 0) (pa_cons (pe_glob (v := .ref (C 10)) (by rfl) T.g10 rfl) pa_nil))) (pa_cons (pe_callB call_isT (by rfl) B.isi boot_isinstance (pa_cons (pv 0) (pa_cons (pe_glob (v := .ref (C 11)) (by rfl) T.g11 rfl) pa_nil))) pa_nil))))) (by (rintro σ H Q ⟨a, D, d, b0, b1, b2, p, xs, h0, kp, e0, e1, e2, h1, l, sz, q⟩; exact ⟨_, h1, _, h0, a, D, d, _, _, _, rfl, kp.at_, kp.xd, kp.cls, .own _, e0, _, h0, a, D, d, _, _, _, rfl, kp.at_, kp.xd, kp.cls, .own _, e1, _, h0, a, D, d, _, _, _, rfl, kp.at_, kp.xd, kp.cls, .own _, e2, by show 3 ≤ sizeLine; decide, fun p1 n1 => ⟨p, p1, xs, _, rfl, rfl, same_new n1 _ _ l, upd_same, (by show xs.length + 3 ≤ sizeLine; exact Nat.le_trans sz (by decide)), fun p2 n2 => q p2 _ ((same_new n1).trans (same_new n2)) upd_same⟩⟩))))
      (pss_cons (ps_set (i := 1) scSort.nd rfl (.inl rfl) (PE.wk (t' := tCat3 K (C 12) (C 13) (C 14)) (pe_op op_cat (pv 1) (pe_lst (pa_cons (pe_callB call_isT (by rfl) B.isi boot_isinstance (pa_cons (pv 0) (pa_cons (pe_glob (v := .ref (C 12)) (by rfl) T.g12 rfl) pa_nil))) (pa_cons (pe_callB call_isT (by rfl) B.isi boot_isinstance (pa_cons (pv 0) (pa_cons (pe_glob (v := .ref (C 13)) (by rfl) T.g13 rfl) pa_nil))) (pa_cons (pe_callB call_isT (by rfl) B.isi boot_isinstance (pa_cons (pv 0) (pa_cons (pe_glob (v := .ref (C 14)) (by rfl) T.g14 rfl) pa_nil))) pa_nil))))) (by (rintro σ H Q ⟨a, D, d, b0, b1, b2, p, xs, h0, kp, e0, e1, e2, h1, l, sz, q⟩; exact ⟨_, h1, _, h0, a, D, d, _, _, _, rfl, kp.at_, kp.xd, kp.cls, .own _, e0, _, h0, a, D, d, _, _, _, rfl, kp.at_, kp.xd, kp.cls, .own _, e1, _, h0, a, D, d, _, _, _, rfl, kp.at_, kp.xd, kp.cls, .own _, e2, by show 3 ≤ sizeLine; decide, fun p1 n1 => ⟨p, p1, xs, _, rfl, rfl, same_new n1 _ _ l, upd_same, (by show xs.length + 3 ≤ sizeLine; exact Nat.le_trans sz (by decide)), fun p2 n2 => q p2 _ ((same_new n1).trans (same_new n2)) upd_same⟩⟩))))
      (pss_cons (ps_set (i := 1) scSort.nd rfl (.inl rfl) (PE.wk (t' := tCat3 K (C 15) (C 16) (C 17)) (pe_op op_cat (pv 1) (pe_lst (pa_cons (pe_callB call_isT (by rfl) B.isi boot_isinstance (pa_cons (pv 0) (pa_cons (pe_glob (v := .ref (C 15)) (by rfl) T.g15 rfl) pa_nil))) (pa_cons (pe_callB call_isT (by rfl) B.isi boot_isinstance (pa_cons (pv 0) (pa_cons (pe_glob (v := .ref (C 16)) (by rfl) T.g16 rfl) pa_nil))) (pa_cons (pe_callB call_isT (by rfl) B.isi boot_isinstance (pa_cons (pv 0) (pa_cons (pe_glob (v := .ref (C 17)) (by rfl) T.g17 rfl) pa_nil))) pa_nil))))) (by (rintro σ H Q ⟨a, D, d, b0, b1, b2, p, xs, h0, kp, e0, e1, e2, h1, l, sz, q⟩; exact ⟨_, h1, _, h0, a, D, d, _, _, _, rfl, kp.at_, kp.xd, kp.cls, .own _, e0, _, h0, a, D, d, _, _, _, rfl, kp.at_, kp.xd, kp.cls, .own _, e1, _, h0, a, D, d, _, _, _, rfl, kp.at_, kp.xd, kp.cls, .own _, e2, by show 3 ≤ sizeLine; decide, fun p1 n1 => ⟨p, p1, xs, _, rfl, rfl, same_new n1 _ _ l, upd_same, (by show xs.length + 3 ≤ sizeLine; exact Nat.le_trans sz (by decide)), fun p2 n2 => q p2 _ ((same_new n1).trans (same_new n2)) upd_same⟩⟩))))
      (pss_cons (ps_set (i := 1) scSort.nd rfl (.inl rfl) (PE.wk (t' := tCat3 K (C 18) (C 19) (C 20)) (pe_op op_cat (pv 1) (pe_lst (pa_cons (pe_callB call_isT (by rfl) B.isi boot_isinstance (pa_cons (pv 0) (pa_cons (pe_glob (v := .ref (C 18)) (by rfl) T.g18 rfl) pa_nil))) (pa_cons (pe_callB call_isT (by rfl) B.isi boot_isinstance (pa_cons (pv 0) (pa_cons (pe_glob (v := .ref (C 19)) (by rfl) T.g19 rfl) pa_nil))) (pa_cons (pe_callB call_isT (by rfl) B.isi boot_isinstance (pa_cons (pv 0) (pa_cons (pe_glob (v := .ref (C 20)) (by rfl) T.g20 rfl) pa_nil))) pa_nil))))) (by (rintro σ H Q ⟨a, D, d, b0, b1, b2, p, xs, h0, kp, e0, e1, e2, h1, l, sz, q⟩; exact ⟨_, h1, _, h0, a, D, d, _, _, _, rfl, kp.at_, kp.xd, kp.cls, .own _, e0, _, h0, a, D, d, _, _, _, rfl, kp.at_, kp.xd, kp.cls, .own _, e1, _, h0, a, D, d, _, _, _, rfl, kp.at_, kp.xd, kp.cls, .own _, e2, by show 3 ≤ sizeLine; decide, fun p1 n1 => ⟨p, p1, xs, _, rfl, rfl, same_new n1 _ _ l, upd_same, (by show xs.length + 3 ≤ sizeLine; exact Nat.le_trans sz (by decide)), fun p2 n2 => q p2 _ ((same_new n1).trans (same_new n2)) upd_same⟩⟩))))
      (pss_cons (ps_set (i := 2) scSort.nd rfl (.inl rfl) (PE.wk (t' := tWords wsA) (pe_lst (pa_cons pe_str (pa_cons pe_str (pa_cons pe_str (pa_cons pe_str (pa_cons pe_str (pa_cons pe_str (pa_cons pe_str (pa_cons pe_str (pa_cons pe_str (pa_cons pe_str (pa_cons pe_str (pa_cons pe_str pa_nil))))))))))))) (by (intro σ H Q q; exact ⟨by show wsA.length ≤ sizeLine; decide, fun p n => q p _ (same_new n) upd_same⟩))))
      (pss_cons (ps_set (i := 2) scSort.nd rfl (.inl rfl) (PE.wk (t' := tCatW 2 wsB) (pe_op op_cat (pv 2) (pe_lst (pa_cons pe_str (pa_cons pe_str (pa_cons pe_str (pa_cons pe_str (pa_cons pe_str (pa_cons pe_str (pa_cons pe_str (pa_cons pe_str (pa_cons pe_str pa_nil))))))))))) (by (rintro σ H Q ⟨p, xs, h1, l, sz, q⟩; exact ⟨_, h1, by show 9 ≤ sizeLine; decide, fun p1 n1 => ⟨p, p1, xs, _, rfl, rfl, same_new n1 _ _ l, upd_same, (by show xs.length + 9 ≤ sizeLine; exact Nat.le_trans sz (by decide)), fun p2 n2 => q p2 _ ((same_new n1).trans (same_new n2)) upd_same⟩⟩))))
      (pss_cons (ps_if (pt_cmpR op_ne (pe_bm PySem.F.plainAttrs_list PySem.F.slot_list_count PySem.F.type_list_count mt_cnt (pv 1) (pa_cons pe_bl pa_nil)) pe_int (nomark _)) (pss_one (ps_ret pe_str)) pss_nil)
      (pss_cons (ps_set (i := 3) scSort.nd rfl (.inl rfl) (pe_bm PySem.F.plainAttrs_list PySem.F.slot_list_index PySem.F.type_list_index mt_index (pv 1) (pa_cons pe_bl pa_nil)))
      (pss_cons (ps_set (i := 4) scSort.nd rfl (.inl rfl) (PE.wk (t' := tThree K (.ref (C 21)) (.ref (C 22)) (.ref (C 23))) (pe_lst (pa_cons (pe_callB call_isT (by rfl) B.isi boot_isinstance (pa_cons (pv 0) (pa_cons (pe_glob (v := .ref (C 21)) (by rfl) T.g21 rfl) pa_nil))) (pa_cons (pe_callB call_isT (by rfl) B.isi boot_isinstance (pa_cons (pv 0) (pa_cons (pe_glob (v := .ref (C 22)) (by rfl) T.g22 rfl) pa_nil))) (pa_cons (pe_callB call_isT (by rfl) B.isi boot_isinstance (pa_cons (pv 0) (pa_cons (pe_glob (v := .ref (C 23)) (by rfl) T.g23 rfl) pa_nil))) pa_nil)))) (by (rintro σ H Q ⟨a, D, d, b0, b1, b2, h0, kp, e0, e1, e2, q⟩; exact ⟨_, h0, a, D, d, _, _, _, rfl, kp.at_, kp.xd, kp.cls, .own _, e0, _, h0, a, D, d, _, _, _, rfl, kp.at_, kp.xd, kp.cls, .own _, e1, _, h0, a, D, d, _, _, _, rfl, kp.at_, kp.xd, kp.cls, .own _, e2, by show 3 ≤ sizeLine; decide, fun p n => q p _ (same_new n) upd_same⟩))))
      (pss_cons (ps_set (i := 5) scSort.nd rfl (.inl rfl) (PE.wk (t' := tThree K (.type "ValueError") (.type "LookupError") (.type "ArithmeticError")) (pe_lst (pa_cons (pe_callB call_isT (by rfl) B.isi boot_isinstance (pa_cons (pv 0) (pa_cons (pe_bltn (v := .ty "ValueError") (by rfl) T.bV (by decide +kernel) rfl) pa_nil))) (pa_cons (pe_callB call_isT (by rfl) B.isi boot_isinstance (pa_cons (pv 0) (pa_cons (pe_bltn (v := .ty "LookupError") (by rfl) T.bL (by decide +kernel) rfl) pa_nil))) (pa_cons (pe_callB call_isT (by rfl) B.isi boot_isinstance (pa_cons (pv 0) (pa_cons (pe_bltn (v := .ty "ArithmeticError") (by rfl) T.bA (by decide +kernel) rfl) pa_nil))) pa_nil)))) (by (rintro σ H Q ⟨a, D, d, b0, b1, b2, h0, kp, e0, e1, e2, q⟩; exact ⟨_, h0, a, D, d, _, _, _, rfl, kp.at_, kp.xd, kp.cls, .ty _, e0, _, h0, a, D, d, _, _, _, rfl, kp.at_, kp.xd, kp.cls, .ty _, e1, _, h0, a, D, d, _, _, _, rfl, kp.at_, kp.xd, kp.cls, .ty _, e2, by show 3 ≤ sizeLine; decide, fun p n => q p _ (same_new n) upd_same⟩))))
      (pss_cons (ps_set (i := 6) scSort.nd rfl (.inl rfl) (pe_lst (pa_cons (pe_cmpR op_lt (pv 3) pe_int (nomark _)) (pa_cons (pe_chain op_le op_lt pe_int (pv 3) pe_int) (pa_cons (pe_cmpR op_eq (pv 3) pe_int (nomark _)) pa_nil)))))
      (pss_one (ps_ret (pe_ix (r := rIxL K) ix_list (pe_lst (pa_cons (pe_ix (r := rIxL K) ix_list (pv 2) (pv 3) (fun _ _ => rfl)) (pa_cons pe_str pa_nil))) (pe_callTy call_int1 (by rfl) B.int boot_int (pa_cons (pe_or (pe_cmpR (op_neD hu) (pv 4) (pv 6) (nomark _)) (pe_one (pe_cmpR (op_neD hu) (pv 5) (pv 6) (nomark _)))) pa_nil)) (fun _ _ => rfl))))))))))))))))), ?_⟩
    refine ⟨a, D, d, _, _, _, rfl, kp, KF.kit 0 (by decide), KF.kit 1 (by decide), KF.kit 2 (by decide), fun p0 H0 s0 l0 => ?_⟩
    refine ⟨a, D, d, _, _, _, p0, _, rfl, kp.same s0, KF.kit 3 (by decide), KF.kit 4 (by decide), KF.kit 5 (by decide), rfl, l0, Nat.le_of_ble_eq_true rfl, fun p1 H1 t1 l1 => ?_⟩
    have s1 := s0.trans t1
    refine ⟨a, D, d, _, _, _, p1, _, rfl, kp.same s1, KF.kit 6 (by decide), KF.kit 7 (by decide), KF.kit 8 (by decide), rfl, l1, Nat.le_of_ble_eq_true rfl, fun p2 H2 t2 l2 => ?_⟩
    have s2 := s1.trans t2
    refine ⟨a, D, d, _, _, _, p2, _, rfl, kp.same s2, KF.kit 9 (by decide), KF.kit 10 (by decide), KF.kit 11 (by decide), rfl, l2, Nat.le_of_ble_eq_true rfl, fun p3 H3 t3 l3 => ?_⟩
    have s3 := s2.trans t3
    refine ⟨a, D, d, _, _, _, p3, _, rfl, kp.same s3, KF.kit 12 (by decide), KF.kit 13 (by decide), KF.kit 14 (by decide), rfl, l3, Nat.le_of_ble_eq_true rfl, fun p4 H4 t4 l4 => ?_⟩
    have s4 := s3.trans t4
    refine ⟨a, D, d, _, _, _, p4, _, rfl, kp.same s4, KF.kit 15 (by decide), KF.kit 16 (by decide), KF.kit 17 (by decide), rfl, l4, Nat.le_of_ble_eq_true rfl, fun p5 H5 t5 l5 => ?_⟩
    have s5 := s4.trans t5
    refine ⟨a, D, d, _, _, _, p5, _, rfl, kp.same s5, KF.kit 18 (by decide), KF.kit 19 (by decide), KF.kit 20 (by decide), rfl, l5, Nat.le_of_ble_eq_true rfl, fun p6 H6 t6 l6 => ?_⟩
    have s6 := s5.trans t6
    intro w1 H7 t7 m1
    refine ⟨w1, _, rfl, m1, Nat.le_of_ble_eq_true rfl, fun w2 H8 t8 m2 => ?_⟩
    have l8 := t8 _ _ (t7 _ _ l6)
    have s8 := s6.trans (t7.trans t8)
    have k8 := kp.same s8
    clear l0 l1 l2 l3 l4 l5 l6 s0 s1 s2 s3 s4 s5 s6 t1 t2 t3 t4 t5 t6 m1 t7 t8 kp
    rcases hn with rfl | rfl | rfl
    · refine ⟨_, rfl, .inl ⟨rfl, _, sqL l8⟩, p6, _, _, rfl, rfl, sqL l8, rfl, rfl, rfl, _, rfl, iteF ?_⟩
      refine ⟨_, rfl, .inl ⟨rfl, _, sqL l8⟩, p6, _, _, 1, _, rfl, rfl, sqL l8, rfl, rfl, rfl, rfl, (fun m z hm hz => by
        match m, hm, hz with
        | 0, _, hz => (cases hz; rfl)
        | m + 1, hm, _ => exact absurd hm (by omega)), ?_⟩
      refine ⟨a, D, d, _, _, _, rfl, k8, KF.w, KF.l, KF.r, fun f1 H9 t9 lf => ?_⟩
      refine ⟨a, D, d, _, _, _, rfl, k8.same t9, KF.vV, KF.vL, KF.vA, fun f2 H10 t10 lo => ?_⟩
      have lf' := t10 _ _ lf
      have m3 := t10 _ _ (t9 _ _ m2)
      have s10 := s8.trans (t9.trans t10)
      clear l8 t9 t10 lf s8 m2 k8
      refine ⟨_, rfl, 1, 16, rfl, rfl, _, rfl, 16, 1, rfl, rfl, _, rfl, iteF ⟨_, rfl, rfl, by show 3 ≤ sizeLine; decide, fun d1 nd1 => ?_⟩⟩
      have s11 : Same H10 (upd H10 d1 (.lst [.bl (decide ((1 : Int) < 16)), .bl false, .bl (decide (V.int 1 = V.int 20))])) := same_new nd1
      have ld : (upd H10 d1 (.lst [.bl (decide ((1 : Int) < 16)), .bl false, .bl (decide (V.int 1 = V.int 20))])) d1 = some (.lst [.bl true, .bl false, .bl false]) := upd_same
      revert s11 ld
      generalize (upd H10 d1 (.lst [.bl (decide ((1 : Int) < 16)), .bl false, .bl (decide (V.int 1 = V.int 20))])) = H11
      intro s11 ld
      refine ⟨_, rfl, _, rfl, w2, _, 1, .str "sum", rfl, rfl, sqL (s11 _ _ m3), rfl, by show 2 ≤ sizeLine; decide, fun r1 nr1 => ?_⟩
      have s12 : Same H11 (upd H11 r1 (.lst [.str "sum", .str "other"])) := same_new nr1
      have lr : (upd H11 r1 (.lst [.str "sum", .str "other"])) r1 = some (.lst [.str "sum", .str "other"]) := upd_same
      revert s12 lr
      generalize (upd H11 r1 (.lst [.str "sum", .str "other"])) = H12
      intro s12 lr
      refine ⟨_, rfl, _, rfl, _, _, data3 (s12 _ _ (s11 _ _ lf')), data3 (s12 _ _ ld), shp3, shp3, _, rfl, ?_⟩
      rw [eqq3]
      refine iteF ⟨_, rfl, _, rfl, _, _, data3 (s12 _ _ (s11 _ _ lo)), data3 (s12 _ _ ld), shp3, shp3, ?_⟩
      rw [eqq3]
      exact .inr ⟨false, rfl, r1, _, 0, .str "sum", rfl, rfl, sqL lr, rfl, q H12 (s10.trans (s11.trans s12))⟩
    · refine ⟨_, rfl, .inl ⟨rfl, _, sqL l8⟩, p6, _, _, rfl, rfl, sqL l8, rfl, rfl, rfl, _, rfl, iteF ?_⟩
      refine ⟨_, rfl, .inl ⟨rfl, _, sqL l8⟩, p6, _, _, 3, _, rfl, rfl, sqL l8, rfl, rfl, rfl, rfl, (fun m z hm hz => by
        match m, hm, hz with
        | 0, _, hz => (cases hz; rfl)
        | 1, _, hz => (cases hz; rfl)
        | 2, _, hz => (cases hz; rfl)
        | m + 3, hm, _ => exact absurd hm (by omega)), ?_⟩
      refine ⟨a, D, d, _, _, _, rfl, k8, KF.w, KF.l, KF.r, fun f1 H9 t9 lf => ?_⟩
      refine ⟨a, D, d, _, _, _, rfl, k8.same t9, KF.vV, KF.vL, KF.vA, fun f2 H10 t10 lo => ?_⟩
      have lf' := t10 _ _ lf
      have m3 := t10 _ _ (t9 _ _ m2)
      have s10 := s8.trans (t9.trans t10)
      clear l8 t9 t10 lf s8 m2 k8
      refine ⟨_, rfl, 3, 16, rfl, rfl, _, rfl, 16, 3, rfl, rfl, _, rfl, iteF ⟨_, rfl, rfl, by show 3 ≤ sizeLine; decide, fun d1 nd1 => ?_⟩⟩
      have s11 : Same H10 (upd H10 d1 (.lst [.bl (decide ((3 : Int) < 16)), .bl false, .bl (decide (V.int 3 = V.int 20))])) := same_new nd1
      have ld : (upd H10 d1 (.lst [.bl (decide ((3 : Int) < 16)), .bl false, .bl (decide (V.int 3 = V.int 20))])) d1 = some (.lst [.bl true, .bl false, .bl false]) := upd_same
      revert s11 ld
      generalize (upd H10 d1 (.lst [.bl (decide ((3 : Int) < 16)), .bl false, .bl (decide (V.int 3 = V.int 20))])) = H11
      intro s11 ld
      refine ⟨_, rfl, _, rfl, w2, _, 3, .str "people", rfl, rfl, sqL (s11 _ _ m3), rfl, by show 2 ≤ sizeLine; decide, fun r1 nr1 => ?_⟩
      have s12 : Same H11 (upd H11 r1 (.lst [.str "people", .str "other"])) := same_new nr1
      have lr : (upd H11 r1 (.lst [.str "people", .str "other"])) r1 = some (.lst [.str "people", .str "other"]) := upd_same
      revert s12 lr
      generalize (upd H11 r1 (.lst [.str "people", .str "other"])) = H12
      intro s12 lr
      refine ⟨_, rfl, _, rfl, _, _, data3 (s12 _ _ (s11 _ _ lf')), data3 (s12 _ _ ld), shp3, shp3, _, rfl, ?_⟩
      rw [eqq3]
      refine iteF ⟨_, rfl, _, rfl, _, _, data3 (s12 _ _ (s11 _ _ lo)), data3 (s12 _ _ ld), shp3, shp3, ?_⟩
      rw [eqq3]
      exact .inr ⟨false, rfl, r1, _, 0, .str "people", rfl, rfl, sqL lr, rfl, q H12 (s10.trans (s11.trans s12))⟩
    · refine ⟨_, rfl, .inl ⟨rfl, _, sqL l8⟩, p6, _, _, rfl, rfl, sqL l8, rfl, rfl, rfl, _, rfl, iteF ?_⟩
      refine ⟨_, rfl, .inl ⟨rfl, _, sqL l8⟩, p6, _, _, 6, _, rfl, rfl, sqL l8, rfl, rfl, rfl, rfl, (fun m z hm hz => by
        match m, hm, hz with
        | 0, _, hz => (cases hz; rfl)
        | 1, _, hz => (cases hz; rfl)
        | 2, _, hz => (cases hz; rfl)
        | 3, _, hz => (cases hz; rfl)
        | 4, _, hz => (cases hz; rfl)
        | 5, _, hz => (cases hz; rfl)
        | m + 6, hm, _ => exact absurd hm (by omega)), ?_⟩
      refine ⟨a, D, d, _, _, _, rfl, k8, KF.w, KF.l, KF.r, fun f1 H9 t9 lf => ?_⟩
      refine ⟨a, D, d, _, _, _, rfl, k8.same t9, KF.vV, KF.vL, KF.vA, fun f2 H10 t10 lo => ?_⟩
      have lf' := t10 _ _ lf
      have m3 := t10 _ _ (t9 _ _ m2)
      have s10 := s8.trans (t9.trans t10)
      clear l8 t9 t10 lf s8 m2 k8
      refine ⟨_, rfl, 6, 16, rfl, rfl, _, rfl, 16, 6, rfl, rfl, _, rfl, iteF ⟨_, rfl, rfl, by show 3 ≤ sizeLine; decide, fun d1 nd1 => ?_⟩⟩
      have s11 : Same H10 (upd H10 d1 (.lst [.bl (decide ((6 : Int) < 16)), .bl false, .bl (decide (V.int 6 = V.int 20))])) := same_new nd1
      have ld : (upd H10 d1 (.lst [.bl (decide ((6 : Int) < 16)), .bl false, .bl (decide (V.int 6 = V.int 20))])) d1 = some (.lst [.bl true, .bl false, .bl false]) := upd_same
      revert s11 ld
      generalize (upd H10 d1 (.lst [.bl (decide ((6 : Int) < 16)), .bl false, .bl (decide (V.int 6 = V.int 20))])) = H11
      intro s11 ld
      refine ⟨_, rfl, _, rfl, w2, _, 6, .str "story", rfl, rfl, sqL (s11 _ _ m3), rfl, by show 2 ≤ sizeLine; decide, fun r1 nr1 => ?_⟩
      have s12 : Same H11 (upd H11 r1 (.lst [.str "story", .str "other"])) := same_new nr1
      have lr : (upd H11 r1 (.lst [.str "story", .str "other"])) r1 = some (.lst [.str "story", .str "other"]) := upd_same
      revert s12 lr
      generalize (upd H11 r1 (.lst [.str "story", .str "other"])) = H12
      intro s12 lr
      refine ⟨_, rfl, _, rfl, _, _, data3 (s12 _ _ (s11 _ _ lf')), data3 (s12 _ _ ld), shp3, shp3, _, rfl, ?_⟩
      rw [eqq3]
      refine iteF ⟨_, rfl, _, rfl, _, _, data3 (s12 _ _ (s11 _ _ lo)), data3 (s12 _ _ ld), shp3, shp3, ?_⟩
      rw [eqq3]
      exact .inr ⟨false, rfl, r1, _, 0, .str "story", rfl, rfl, sqL lr, rfl, q H12 (s10.trans (s11.trans s12))⟩
end
end WdQ

set_option Elab.async false
set_option linter.all false
set_option maxRecDepth 100000
set_option maxHeartbeats 4000000
set_option exponentiation.threshold 5000
namespace WdQ
open PySem PySem.Spec PyProof.Rows L2 WdM Wd
abbrev sLN : Stmt := topS 65
abbrev sDr : Stmt := topS 66
theorem scLN : FnScope ["_law_odd", "_law_words", "_law_sign"] ["_law_odd"] (defScope sLN) := ⟨rfl, rfl, rfl, by decide +kernel, rfl, by decide +kernel, by decide +kernel⟩
theorem scDr : FnScope ["_law_pool_here", "_law_words", "_law_found", "_law_place", "_law_spot", "_law_sign", "_law_some"] ["_law_pool_here"] (defScope sDr) := ⟨rfl, rfl, rfl, by decide +kernel, rfl, by decide +kernel, by decide +kernel⟩
section
variable {P : Program} {w : World} {K : PySem.W.Frag} {mg : Str → Option Value} {base : Heap}
/-- a list of written words -/
def tWs (ws : List V) : TE := fun σ H Q => ∀ p H', Same H H' → H' p = some (.lst ws) → Q (.ref p) H'
theorem ok_lname {f : Addr} {fd : FuncData} {k : Nat} (B : Bi mg) (D : Df K mg "_law_is_name" sLN f fd ["_law_odd"]) : FnOk P w K mg base CX0 (k + 1) f fd ["_law_odd"] (spName K) := by
  refine D.fn.ok scLN (fun vs H Q E h => ?_) (fun cdv A outer s H vs Q E hr h => ?_)
  · obtain ⟨v, d, rfl, _⟩ := h
    rfl
  · obtain ⟨v, d, rfl, th, sk, q⟩ := h
    refine ⟨_, pss_cons (ps_set (i := 1) scLN.nd rfl (.inl rfl) (PE.wk (t' := tWs noNames) (pe_lst (pa_cons pe_str (pa_cons pe_str (pa_cons pe_str (pa_cons pe_str (pa_cons pe_str (pa_cons pe_str (pa_cons pe_str (pa_cons pe_str (pa_cons pe_str (pa_cons pe_str (pa_cons pe_str (pa_cons pe_str (pa_cons pe_str pa_nil)))))))))))))) (by intro σ H Q q; exact ⟨by show noNames.length ≤ sizeLine; decide, fun p n => q p _ (same_new n) upd_same⟩)))
      (pss_cons (ps_if (PW.pt (pw_or (pt_not (pt_val (pe_callB call_isi (by rfl) B.isi boot_isinstance (pa_cons (pv 0) (pa_cons (pe_bltn (v := .ty "str") (by rfl) B.str boot_str rfl) pa_nil)))))
          (pw_or (pt_not (pt_chain op_le op_le pe_int (pe_callB call_len_str (by rfl) B.len PySem.boot_len (pa_cons (pv 0) pa_nil)) pe_int))
          (pw_or1 (pt_cmpR op_in_seq (pv 0) (pv 1) (by rfl)))))) (pss_one (ps_ret pe_bl)) pss_nil)
      (pss_one (ps_ret (pe_callB (cr_all rfl) (by rfl) B.all (by decide +kernel) (pa_cons
          (pe_lc (own := [("_law_sign", 2)]) (g := gName 2) (tt := tYes) rfl scLN.nd (pi_str (pv 0)) (blkOk_by (own := [("_law_sign", 2)]) (N := ["_law_odd", "_law_words", "_law_sign"]) (sc := defScope sLN) (by decide +kernel))
            (fun _ _ _ _ _ => pg_name (i := 2) scLN.nd rfl (Or.inl rfl)) (fun _ _ _ _ _ => pts_nil)
            (fun _ _ _ _ _ => pe_cmpR op_in_sign (pv 2) pe_str (by rfl))) pa_nil))))), ?_⟩
    intro p0 H0 s0 l0
    have q : ∀ H', Same H0 H' → Q (.bl (nameB d)) H' := fun H' e => q H' (s0.trans e)
    have th := th.same s0
    clear s0
    refine ⟨_, rfl, _, .ty "str", _, .type "str", _, rfl, .ty _, th.ty, kit_str d, _, rfl, ?_⟩
    by_cases hs : strB d = true
    · rw [hs]
      obtain ⟨z, rfl⟩ := str_of hs
      obtain rfl := th_str th
      have zl := sk z rfl
      have no : ¬ (1 ≤ z.length ∧ z.length ≤ 8) → nameB (.str z) = false := fun e => by
        show (decide _ && _ && _) = false
        rw [decide_eq_false e]
        rfl
      refine iteF ⟨_, rfl, z, rfl, small_len zl, 1, _, rfl, rfl, _, rfl, ?_⟩
      by_cases g0 : 1 ≤ z.length
      · rw [decide_eq_true (show (1 : Int) ≤ (z.length : Int) by omega)]
        refine iteT ⟨_, 8, rfl, rfl, _, rfl, ?_⟩
        by_cases g1 : z.length ≤ 8
        · rw [decide_eq_true (show (z.length : Int) ≤ 8 by omega)]
          refine iteF ⟨_, rfl, _, rfl, p0, noNames, rfl, .inl (sqL l0), rfl, rfl, _, rfl, ?_⟩
          have yes : nameB (.str z) = (!inV (.str z) noNames && z.cps.toList.all letB) := by
            show (decide _ && _ && _) = _
            rw [decide_eq_true ⟨g0, g1⟩]
            rfl
          rw [yes] at q
          by_cases hi : inV (.str z) noNames = true
          · rw [hi] at q ⊢
            exact iteT (q H0 (Same.refl H0))
          · have hi' : inV (.str z) noNames = false := by simpa using hi
            rw [hi'] at q ⊢
            refine iteF ⟨_, rfl, z, rfl, fun L nL => lc_it walk_str (fun i H' => H' L = some (.lst (((z.cps.toList.take i).map letB).map V.bl)) ∧ Same H0 H') ⟨upd_same, same_new nL⟩ (fun _ _ _ _ => trivial) ?_ ?_⟩
            · rintro i x H1 H' hx ⟨hL, sm⟩ ⟨rfl, c, hc, rfl⟩
              refine ⟨rfl, tyes (iteT ⟨_, rfl, c, lettersS, rfl, rfl, ?_⟩)⟩
              have hc' : z.cps.toList[i]? = some c := by simpa using hc
              refine ⟨_, hL, ?_, ?_, ?_⟩
              · rw [List.length_map, List.length_map, List.length_take]
                exact small1000 (by have := lt_get hc'; have : z.cps.toList.length = z.length := by simp [Str.length]
                                    omega)
              · rw [upd_same, take_more hc', List.map_append, List.map_append]
                rfl
              · exact ((Bt.of_same (S := []) sm).upd0 nL).same
            · rintro H' ⟨hL, sm⟩
              have e : z.cps.toList.take z.cps.size = z.cps.toList := List.take_of_length_le (by simp)
              rw [e] at hL
              refine ⟨L, _, rfl, sqL hL, ?_⟩
              have e2 : (z.cps.toList.map letB).all id = z.cps.toList.all letB := by rw [List.all_map]; rfl
              rw [e2]
              exact q H' sm
        · rw [decide_eq_false (show ¬ (z.length : Int) ≤ 8 by omega)]
          rw [no (fun e => g1 e.2)] at q
          exact iteT (iteT (q H0 (Same.refl H0)))
      · rw [decide_eq_false (show ¬ (1 : Int) ≤ (z.length : Int) by omega)]
        rw [no (fun e => g0 e.1)] at q
        exact iteF ⟨_, rfl, iteT (iteT (q H0 (Same.refl H0)))⟩
    · have hs' : strB d = false := by simpa using hs
      rw [hs']
      rw [name_no hs'] at q
      exact iteT (iteT (q H0 (Same.refl H0)))
/-! ### a drawn text -/
def spDrawn : Sp := fun vs H Q _ => ∃ l : Addr, vs = [.ref l] ∧ PoolAt H l ∧ ∀ H' z, Bt [l] H H' → PoolAt H' l → z.length ≤ 100 → Q (.str z) H'
theorem noNames9 : ∀ x ∈ noNames, StrL 10 x := by
  intro x hx
  simp only [noNames, List.mem_cons, List.not_mem_nil, or_false] at hx
  rcases hx with rfl | rfl | rfl | rfl | rfl | rfl | rfl | rfl | rfl | rfl | rfl | rfl | rfl <;> exact ⟨_, rfl, by decide⟩
def signs8 : List V := [.str "A", .str "0", .str " ", .str "-", .str "\n", .str "z", .str "Z", .str "."]
theorem signs1 : ∀ x ∈ signs8, StrL 1 x := by
  intro x hx
  simp only [signs8, List.mem_cons, List.not_mem_nil, or_false] at hx
  rcases hx with rfl | rfl | rfl | rfl | rfl | rfl | rfl | rfl <;> exact ⟨_, rfl, by decide⟩
theorem at_letter {d : Int} (d0 : 0 ≤ d) (d1 : d < 26) : ∃ c, atI lettersS.cps.toList d = some c := by
  obtain ⟨n, rfl⟩ := Int.eq_ofNat_of_zero_le d0
  have hn : n < lettersS.cps.toList.length := by
    show n < 26
    omega
  exact ⟨_, atI_nat (List.getElem?_eq_getElem hn)⟩
theorem len_app (x y : Str) : (x ++ y).length = x.length + y.length := by
  show (x.cps ++ y.cps).size = _
  rw [Array.size_append]
  rfl
/-- texts made of the found one -/
def RF : L2.St → Hp → Prop := fun σ _ => ∃ (z sg : Str) (d : Int), σ[2]? = some (some (.str z)) ∧ σ[4]? = some (some (.int d)) ∧ σ[5]? = some (some (.str sg)) ∧ z.length ≤ 10 ∧ sg.length ≤ 1
theorem kpF : Kp RF (fun _ v => StrL 100 v) := ⟨fun _ _ _ _ h => h, fun _ _ _ _ h => h⟩
theorem cut10 {z : Str} (h : z.length ≤ 10) (lo hi : Option Int) : (cutS z lo hi).length ≤ 10 := Nat.le_trans (cutS_length z lo hi) h
theorem up_len {z : Str} (h : z.length ≤ 10) : (Txt.upper z).length ≤ 100 := by
  have := PyProof.Rows.len_upper z
  omega
end
end WdQ

set_option Elab.async false
set_option linter.all false
set_option maxRecDepth 100000
set_option maxHeartbeats 4000000
set_option exponentiation.threshold 5000
namespace WdQ
open PySem PySem.Spec PyProof.Rows L2 WdM Wd
section
variable {P : Program} {w : World} {K : PySem.W.Frag} {mg : Str → Option Value} {base : Heap}
def tLetters : TS := fun D σ H => ∃ (l : Addr) (y1 : Option V) (z0 : Str), σ = [some (.ref l), y1, some (.str z0), none, none, none, none] ∧ z0.length ≤ 10 ∧ PoolAt H l ∧ ∀ z y3 H', z.length ≤ 10 → Bt [l] H H' → PoolAt H' l → D.nx [some (.ref l), y1, some (.str z), y3, none, none, none] H'
theorem ok_drawn {f fT : Addr} {fd fdT : FuncData} {k : Nat} (B : Bi mg) (D : Df K mg "_law_drawn" sDr f fd ["_law_pool_here"]) (DT : Df K mg "_law_take" sTake fT fdT ["_law_pool_here", "_law_many"]) : FnOk P w K mg base CX0 (k + 2) f fd ["_law_pool_here"] spDrawn := by
  have GT : FnOk P w K mg base CX0 (k + 1) fT fdT ["_law_pool_here", "_law_many"] spTake := ok_take (k := k) B DT
  refine D.fn.ok scDr (fun vs H Q E h => ?_) (fun cdv A outer s H vs Q E hr h => ?_)
  · obtain ⟨l, rfl, _⟩ := h
    rfl
  · obtain ⟨l, rfl, pool, q⟩ := h
    refine ⟨_, pss_cons (ps_set (i := 1) scDr.nd rfl (.inl rfl) (PE.wk (t' := tWs noNames) (pe_lst (pa_cons pe_str (pa_cons pe_str (pa_cons pe_str (pa_cons pe_str (pa_cons pe_str (pa_cons pe_str (pa_cons pe_str (pa_cons pe_str (pa_cons pe_str (pa_cons pe_str (pa_cons pe_str (pa_cons pe_str (pa_cons pe_str pa_nil)))))))))))))) (by intro σ H Q q; exact ⟨by show noNames.length ≤ sizeLine; decide, fun p n => q p _ (same_new n) upd_same⟩)))
      (pss_cons (ps_set (i := 2) scDr.nd rfl (.inl rfl) (pe_ix (r := rIxL K) ix_list (pv 1) (pe_call GT hr (by rfl) DT.mg DT.fn.kp DT.bd .nil pass0 (pa_cons (pv 0) (pa_cons pe_int pa_nil))) (fun _ _ => rfl)))
      (pss_cons (PS.wk (t' := tLetters) (ps_if (pt_cmpR op_gt (pe_call GT hr (by rfl) DT.mg DT.fn.kp DT.bd .nil pass0 (pa_cons (pv 0) (pa_cons pe_int pa_nil))) pe_int (nomark _))
        (pss_cons (ps_set (i := 2) scDr.nd rfl (.inl rfl) pe_str)
        (pss_one (ps_for PassesOwn.never rfl (pi_range1 (by rfl) B.range (pa_cons (pe_op op_add pe_int (pe_call GT hr (by rfl) DT.mg DT.fn.kp DT.bd .nil pass0 (pa_cons (pv 0) (pa_cons pe_int pa_nil)))) pa_nil)) (pg_name (i := 3) scDr.nd rfl (.inl rfl))
          (pss_one (ps_set (i := 2) scDr.nd rfl (.inl rfl) (pe_op op_add_str (pv 2) (pe_ix (r := rIxS) ix_str pe_str (pe_call GT hr (by rfl) DT.mg DT.fn.kp DT.bd .nil pass0 (pa_cons (pv 0) (pa_cons pe_int pa_nil))) (fun _ _ => rfl)))))))) pss_nil) (by
          rintro D σ H ⟨l, y1, z0, rfl, k0, pool, q⟩
          refine ⟨_, rfl, l, 3, rfl, pool, by decide, fun H3 d3 b3 pool3 d30 d31 => ⟨d3, 0, rfl, rfl, _, rfl, ?_⟩⟩
          by_cases g : 0 < d3
          · rw [decide_eq_true g]
            refine iteT ⟨_, rfl, l, 10, rfl, pool3, by decide, fun H4 d4 b4 pool4 d40 d41 => ⟨1, d4, rfl, rfl, 1 + d4, rfl, by omega, by omega, ?_⟩⟩
            refine for_range (lo := 0) (n := (1 + d4).toNat) (fun i σ H' => ∃ (z : Str) (y3 : Option V), σ = [some (.ref l), y1, some (.str z), y3, none, none, none] ∧ z.length ≤ i ∧ Bt [l] H H' ∧ PoolAt H' l) ⟨"", none, rfl, by decide, b3.trans b4, pool4⟩ ?_ ?_
            · rintro i σ H5 hi ⟨z, y3, rfl, zl, b5, pool5⟩
              refine ⟨_, rfl, _, rfl, l, 26, rfl, pool5, by decide, fun H6 d6 b6 pool6 d60 d61 => ?_⟩
              obtain ⟨c, hc⟩ := at_letter d60 d61
              have e := len_app z ⟨#[c]⟩
              have e1 : (⟨#[c]⟩ : Str).length = 1 := rfl
              exact ⟨lettersS, d6, c, rfl, rfl, by show 26 ≤ sizeLine; decide, hc, _, _, rfl, rfl, small_len (by omega), _, _, rfl, by omega, b5.trans b6, pool6⟩
            · rintro σ H5 ⟨z, y3, rfl, zl, b5, pool5⟩
              exact q z y3 H5 (by omega) b5 pool5
          · rw [decide_eq_false g]
            exact iteF (q z0 none H3 k0 b3 pool3)))
      (pss_cons (ps_set (i := 4) scDr.nd rfl (.inl rfl) (pe_call GT hr (by rfl) DT.mg DT.fn.kp DT.bd .nil pass0 (pa_cons (pv 0) (pa_cons (pe_op op_add (pe_callB call_len_str (by rfl) B.len PySem.boot_len (pa_cons (pv 2) pa_nil)) pe_int) pa_nil))))
      (pss_cons (ps_set (i := 5) scDr.nd rfl (.inl rfl) (pe_ix (r := rIxL K) ix_list (PE.wk (t' := tWs signs8) (pe_lst (pa_cons pe_str (pa_cons pe_str (pa_cons pe_str (pa_cons pe_str (pa_cons pe_str (pa_cons pe_str (pa_cons pe_str (pa_cons pe_str pa_nil))))))))) (by intro σ H Q q; exact ⟨by show signs8.length ≤ sizeLine; decide, fun p n => q p _ (same_new n) upd_same⟩))
          (pe_call GT hr (by rfl) DT.mg DT.fn.kp DT.bd .nil pass0 (pa_cons (pv 0) (pa_cons pe_int pa_nil))) (fun _ _ => rfl)))
      (pss_cons (ps_set (i := 6) scDr.nd rfl (.inl rfl) (peB_lst
          (paB_cons kpF (PE.wk (t' := tB RF (fun _ v => StrL 100 v)) (pv 2) (by rintro σ H Q ⟨⟨z, sg, d, h2, h4, h5, l2, l5⟩, q⟩; exact ⟨_, h2, q _ _ (Same.refl H) ⟨z, rfl, by omega⟩⟩))
          (paB_cons kpF (PE.wk (t' := tB RF (fun _ v => StrL 100 v)) (pv 2) (by rintro σ H Q ⟨⟨z, sg, d, h2, h4, h5, l2, l5⟩, q⟩; exact ⟨_, h2, q _ _ (Same.refl H) ⟨z, rfl, by omega⟩⟩))
          (paB_cons kpF (PE.wk (t' := tB RF (fun _ v => StrL 100 v)) (pe_op op_add_str (pe_op op_add_str (pe_slice sl_str (pv 2) po_none (po_some (pv 4))) (pv 5)) (pe_slice sl_str (pv 2) (po_some (pv 4)) po_none)) (by
            rintro σ H Q ⟨⟨z, sg, d, h2, h4, h5, l2, l5⟩, q⟩
            have c1 := cut10 l2 none (some d)
            have c2 := cut10 l2 (some d) none
            have e1 := len_app (cutS z none (some d)) sg
            have e2 := len_app (cutS z none (some d) ++ sg) (cutS z (some d) none)
            exact ⟨_, h2, _, h4, d, rfl, z, rfl, small_len (by omega), _, h5, _, _, rfl, rfl, small_len (by omega), _, h2, _, h4, d, rfl, z, rfl, small_len (by omega), _, _, rfl, rfl, small_len (by omega), q _ _ (Same.refl H) ⟨_, rfl, by omega⟩⟩))
          (paB_cons kpF (PE.wk (t' := tB RF (fun _ v => StrL 100 v)) (pe_op op_add_str (pe_slice sl_str (pv 2) po_none (po_some (pv 4))) (pe_slice sl_str (pv 2) (po_some (pe_op op_add (pv 4) pe_int)) po_none)) (by
            rintro σ H Q ⟨⟨z, sg, d, h2, h4, h5, l2, l5⟩, q⟩
            have c1 := cut10 l2 none (some d)
            have c2 := cut10 l2 (some (d + 1)) none
            have e1 := len_app (cutS z none (some d)) (cutS z (some (d + 1)) none)
            exact ⟨_, h2, _, h4, d, rfl, z, rfl, small_len (by omega), _, h2, _, h4, d, 1, rfl, rfl, d + 1, rfl, z, rfl, small_len (by omega), _, _, rfl, rfl, small_len (by omega), q _ _ (Same.refl H) ⟨_, rfl, by omega⟩⟩))
          paB_nil)))) (by decide)))
      (pss_one (ps_ret (pe_ix (r := rIxL K) ix_list (pe_op op_cat (pv 6) (peB_lst
          (paB_cons kpF (PE.wk (t' := tB RF (fun _ v => StrL 100 v)) (pe_op op_add_str (pe_op op_add_str (pe_slice sl_str (pv 2) po_none (po_some (pv 4))) (pv 5)) (pe_slice sl_str (pv 2) (po_some (pe_op op_add (pv 4) pe_int)) po_none)) (by
            rintro σ H Q ⟨⟨z, sg, d, h2, h4, h5, l2, l5⟩, q⟩
            have c1 := cut10 l2 none (some d)
            have c2 := cut10 l2 (some (d + 1)) none
            have e1 := len_app (cutS z none (some d)) sg
            have e2 := len_app (cutS z none (some d) ++ sg) (cutS z (some (d + 1)) none)
            exact ⟨_, h2, _, h4, d, rfl, z, rfl, small_len (by omega), _, h5, _, _, rfl, rfl, small_len (by omega), _, h2, _, h4, d, 1, rfl, rfl, d + 1, rfl, z, rfl, small_len (by omega), _, _, rfl, rfl, small_len (by omega), q _ _ (Same.refl H) ⟨_, rfl, by omega⟩⟩))
          (paB_cons kpF (PE.wk (t' := tB RF (fun _ v => StrL 100 v)) (pe_upper (pv 2)) (by
            rintro σ H Q ⟨⟨z, sg, d, h2, h4, h5, l2, l5⟩, q⟩
            exact ⟨_, h2, ⟨z, rfl⟩, z, rfl, rfl, by omega, q _ _ (Same.refl H) ⟨_, rfl, up_len l2⟩⟩))
          paB_nil)) (by decide))) (pe_call GT hr (by rfl) DT.mg DT.fn.kp DT.bd .nil pass0 (pa_cons (pv 0) (pa_cons pe_int pa_nil))) (fun _ _ => rfl))))))))), ?_⟩
    intro p1 H1 s1 l1
    have pool1 := pool.same s1
    have n1 : p1 ≠ l := fun z => by
      obtain ⟨n, e, _⟩ := pool1
      rw [← z, l1] at e
      exact absurd (congrArg (fun o : Option HO => match o with | some (.lst xs) => xs.length | _ => 0) e) (by show ¬ ((13 : Nat) = 1); decide)
    have b1 : Bt [l] H H1 := .of_same s1
    refine ⟨_, rfl, _, rfl, l, 13, rfl, pool1, by decide, fun H2 d2 b2 pool2 d20 d21 => ?_⟩
    have l2 := kept b2 l1 (by simp [n1])
    have b12 := b1.trans b2
    clear b1 b2 s1 pool1 l1
    obtain ⟨v0, e0, z0, rfl, k0⟩ := at_of (d := d2) noNames9 d20 (by show d2 < 13; omega)
    refine ⟨p1, _, d2, _, rfl, rfl, sqL l2, e0, ?_⟩
    refine ⟨l, _, z0, rfl, k0, pool2, fun z y3 H3 zl b3 pool3 => ?_⟩
    have b13 := b12.trans b3
    clear b12 b3 l2 e0
    refine ⟨_, rfl, _, rfl, z, rfl, small_len (by omega), _, 1, rfl, rfl, l, _, rfl, pool3, by omega, fun H4 d4 b4 pool4 d40 d41 => ?_⟩
    intro p5 H5 s5 l5
    have pool5 := pool4.same s5
    have n5 : p5 ≠ l := fun z => by
      obtain ⟨n, e, _⟩ := pool5
      rw [← z, l5] at e
      exact absurd (congrArg (fun o : Option HO => match o with | some (.lst xs) => xs.length | _ => 0) e) (by show ¬ ((8 : Nat) = 1); decide)
    refine ⟨_, rfl, l, 8, rfl, pool5, by decide, fun H6 d6 b6 pool6 d60 d61 => ?_⟩
    have l6 := kept b6 l5 (by simp [n5])
    have b16 := (b13.trans b4).trans ((Bt.of_same s5).trans b6)
    clear b13 b4 b6 s5 l5
    obtain ⟨v1, e1, sg, rfl, k1⟩ := at_of (d := d6) signs1 d60 (by show d6 < 8; omega)
    refine ⟨p5, _, d6, _, rfl, rfl, sqL l6, e1, ?_⟩
    clear l6 e1
    refine ⟨⟨z, sg, d4, rfl, rfl, rfl, zl, k1⟩, fun p7 xs H7 s7 n7 x7 a7 => ?_⟩
    have pool7 := (pool6.same s7)
    have pool8 := pool7.upd (o := .lst xs) (pool7.ne n7)
    have b18 : Bt [l] H (upd H7 p7 (.lst xs)) := b16.trans ((Bt.of_same s7).new n7)
    have l8 : (upd H7 p7 (.lst xs)) p7 = some (.lst xs) := upd_same
    revert pool8 b18 l8
    generalize upd H7 p7 (.lst xs) = H8
    intro pool8 b18 l8
    clear s7 n7 pool7 pool6 pool5 pool4 pool3 b16
    refine ⟨_, rfl, ⟨z, sg, d4, rfl, rfl, rfl, zl, k1⟩, fun p9 ys H9 s9 n9 y9 a9 => ?_⟩
    refine ⟨p7, p9, xs, ys, rfl, rfl, same_new n9 _ _ (s9 _ _ l8), upd_same, by rw [x7, y9]; decide, fun p10 n10 => ?_⟩
    have s10 : Same H8 (upd (upd H9 p9 (.lst ys)) p10 (.lst (xs ++ ys))) := s9.trans ((same_new n9).trans (same_new n10))
    have l10 : (upd (upd H9 p9 (.lst ys)) p10 (.lst (xs ++ ys))) p10 = some (.lst (xs ++ ys)) := upd_same
    revert s10 l10
    generalize upd (upd H9 p9 (.lst ys)) p10 (.lst (xs ++ ys)) = H10
    intro s10 l10
    have pool10 := pool8.same s10
    have n10 : p10 ≠ l := fun z => by
      obtain ⟨n, e, _⟩ := pool10
      rw [← z, l10] at e
      have := congrArg (fun o : Option HO => match o with | some (.lst xs) => xs.length | _ => 0) e
      simp only [List.length_append, x7, y9, List.length_cons, List.length_nil] at this
      omega
    refine ⟨_, rfl, l, 6, rfl, pool10, by decide, fun H11 d11 b11 pool11 d110 d111 => ?_⟩
    have l11 := kept b11 l10 (by simp [n10])
    obtain ⟨v2, e2, z2, rfl, k2⟩ := at_of (P := StrL 100) (xs := xs ++ ys) (d := d11) (fun x hx => (List.mem_append.mp hx).elim (a7 x) (a9 x)) d110 (by rw [List.length_append, x7, y9]; omega)
    exact ⟨p10, _, d11, _, rfl, rfl, sqL l11, e2, q H11 z2 ((b18.trans (.of_same s10)).trans b11) pool11 k2⟩
end
end WdQ

set_option Elab.async false
set_option linter.all false
set_option maxRecDepth 100000
set_option maxHeartbeats 4000000
set_option exponentiation.threshold 5000
namespace WdQ
open PySem PySem.Spec PyProof.Rows L2 WdM Wd
abbrev sRef : Stmt := topS 67
abbrev nRf : List Str := ["_law_which", "_law_odd", "_law_caught", "e", "_law_word"]
theorem scRf : FnScope nRf ["_law_which", "_law_odd"] (defScope sRef) := ⟨rfl, rfl, rfl, by decide +kernel, rfl, by decide +kernel, by decide +kernel⟩
section
variable {P : Program} {w : World} {K : PySem.W.Frag} {mg : Str → Option Value} {base : Heap} {CS fS CP fP CT fT CW : Addr}
def spRefused (K : PySem.W.Frag) : Sp := fun vs H Q _ => ∃ v d, Th K H v d ∧ Short d ∧
  ((vs = [.int 0, v] ∧ ∀ H' p, Same H H' → H' p = some (.tup [.str "sum", .int (0 - 1)]) → Q (.ref p) H') ∨
   (vs = [.int 1, v] ∧ nameB d = false ∧ ∀ H' p, Same H H' → H' p = some (.tup [.str "story", .int 0]) → Q (.ref p) H') ∨
   (vs = [.int 2, v] ∧ nameB d = false ∧ ∀ H' p, Same H H' → H' p = some (.tup [.str "people", .int 0]) → Q (.ref p) H'))
def w2 : List V := [.str "story", .str "people"]
theorem e11 : decide (V.str (sortW 1) = V.str "sum") = true := by decide +kernel
theorem e61 : decide (V.str (sortW 6) = V.str "sum") = false := by decide +kernel
theorem e31 : decide (V.str (sortW 3) = V.str "sum") = false := by decide +kernel
theorem i6 : inV (.str (sortW 6)) w2 = true := by decide +kernel
theorem i3 : inV (.str (sortW 3)) w2 = true := by decide +kernel
theorem ok_refused {C : Nat → Addr} {CH CY fH fY f fO fQ : Addr} {fd fdO fdQ fdH fdY : FuncData} {dH dY : List Value} (B : Bi mg) (T1 : ErC K mg "NoSum" "thing" CS fS CW) (T3 : ErC K mg "NoPeople" "number" CP fP CW) (T6 : ErC K mg "NoStory" "number" CT fT CW) (TC : ClsF mg C) (hW : mg "WordError" = some (.ref CW))
    (K1 : KitF K CS C 1) (K3 : KitF K CP C 3) (K6 : KitF K CT C 6)
    (D : Df K mg "_law_refused" sRef f fd ["_law_which", "_law_odd"]) (DO : Df K mg "_law_sort" sSort fO fdO ["_law_caught"]) (DQ : Df K mg "parted" sParted fQ fdQ ["amount", "shares"])
    (GQ : FnOk P w K mg base (L2.CX P w) 3 fQ fdQ ["amount", "shares"] (spParted0 CS))
    (MH : Mk K CH fH) (gH : mg "House" = some (.ref CH)) (GH : FnOk P w K mg base (L2.CX P w) 4 fH fdH ["self", "people", "goods", "purse", "debts"] (spHI K CP)) (bH : Binds K fdH ["self", "people", "goods", "purse", "debts"] dH) (vH : Vals [.non, .int 0, .int 0] dH)
    (MY : Mk K CY fY) (gY : mg "Story" = some (.ref CY)) (GY : FnOk P w K mg base (L2.CX P w) 4 fY fdY ["self", "deaths"] (spSI K CT)) (bY : Binds K fdY ["self", "deaths"] dY) (vY : Vals [] dY) :
    FnOk P w K mg base CX0 6 f fd ["_law_which", "_law_odd"] (spRefused K) := by
  have GO : FnOk P w K mg base CX0 1 fO fdO ["_law_caught"] (spSort K C) := ok_sort (k := 0) B TC DO
  refine D.fn.ok scRf (fun vs H Q E h => ?_) (fun cdv A outer s H vs Q E hr h => ?_)
  · obtain ⟨v, d, _, _, h⟩ := h
    rcases h with ⟨rfl, _⟩ | ⟨rfl, _⟩ | ⟨rfl, _⟩ <;> rfl
  · obtain ⟨v, d, th, sk, hc⟩ := h
    have r1 : Room 1 _ := hr.mono (by omega)
    have r3 : Room 3 _ := hr.mono (by omega)
    refine ⟨_, pss_cons (ps_set (i := 2) scRf.nd rfl (.inl rfl) pe_non)
      (pss_cons (ps_try_got (i := 3) (c := .ref CW) rfl rfl rfl scRf.nd rfl rfl ⟨rfl, by decide, .inl hW⟩
          (fun W pn xe tk _ => pss_one (ps_if (pt_cmpR op_eq (pv 0) pe_int (nomark _)) (pss_one (ps_expr (pe_callS GQ r3 (by rfl) DQ.mg DQ.fn.kp DQ.bd (fun σ => passAt tk σ) (pa_cons (pe_op op_sub pe_int pe_int) (pa_cons (pv 1) pa_nil)))))
            (pss_one (ps_if (pt_cmpR op_eq (pv 0) pe_int (nomark _)) (pss_one (ps_expr (pe_makeS MY GY hr (by rfl) gY bY vY (fun σ => passAt tk σ) (pa_cons (pe_tup (pa_cons (pe_tup (pa_cons (pv 1) (pa_cons pe_int pa_nil))) pa_nil)) pa_nil))))
              (pss_one (ps_expr (pe_makeS MH GH hr (by rfl) gH bH vH (fun σ => passAt tk σ) (pa_cons (pe_tup (pa_cons (pe_tup (pa_cons (pv 1) (pa_cons pe_non pa_nil))) pa_nil)) pa_nil))))))))
          (fun a oe cls d pn _ _ => pss_one (ps_set (i := 2) scRf.nd rfl (.inl rfl) (pv 3))))
      (pss_cons (ps_set (i := 4) scRf.nd rfl (.inl rfl) (pe_call GO r1 (by rfl) DO.mg DO.fn.kp DO.bd .nil pass0 (pa_cons (pv 2) pa_nil)))
      (pss_cons (ps_if (pt_cmpR op_eq (pv 4) pe_str (nomark _)) (pss_one (ps_ret (pe_tup (pa_cons (pv 4) (pa_cons (pe_xt (pv 2)) pa_nil))))) pss_nil)
      (pss_cons (ps_if (pt_cmpR op_in_seq (pv 4) (pe_lst (pa_cons pe_str (pa_cons pe_str pa_nil))) (by rfl)) (pss_one (ps_ret (pe_tup (pa_cons (pv 4) (pa_cons (pe_xt (pv 2)) pa_nil))))) pss_nil) pss_no)))), ?_⟩
    rcases hc with ⟨rfl, q⟩ | ⟨rfl, bad, q⟩ | ⟨rfl, bad, q⟩
    · refine ⟨_, rfl, rfl, _, rfl, iteT ⟨0, 1, rfl, rfl, _, rfl, 0 - 1, v, rfl, by decide, fun dd hdd => ⟨T1.m, fun e he => ⟨_, rfl, ?_⟩⟩⟩⟩
      have s1 : Same H (upd (upd H dd (.xd [("thing", .int (0 - 1))])) e (ExT e (.ref CS) (some dd))) := (same_new hdd).trans (same_new he)
      have l1 : (upd (upd H dd (.xd [("thing", .int (0 - 1))])) e (ExT e (.ref CS) (some dd))) e = some (ExT e (.ref CS) (some dd)) := upd_same
      have l2 : (upd (upd H dd (.xd [("thing", .int (0 - 1))])) e (ExT e (.ref CS) (some dd))) dd = some (.xd [("thing", .int (0 - 1))]) := same_new he _ _ upd_same
      refine ⟨_, rfl, e, CS, some dd, 1, rfl, ⟨l1, fun dx z => (by cases z; exact ⟨_, l2⟩), T1.c⟩, K1, .inl rfl, fun H2 s2 => ?_⟩
      refine ⟨_, rfl, rfl, _, rfl, ?_⟩
      refine (congrArg (fun b : Bool => ite (b = true) _ _) e11).mpr (iteT ?_)
      exact ⟨_, rfl, _, rfl, e, CS, dd, _, .int (0 - 1), rfl, s2 _ _ l1, T1.f, T1.no, s2 _ _ l2, rfl, by show 2 ≤ sizeLine; decide, fun p np => q _ p ((s1.trans s2).trans (same_new np)) upd_same⟩
    · refine ⟨_, rfl, rfl, _, rfl, iteF ⟨_, rfl, rfl, _, rfl, iteT ?_⟩⟩
      refine ⟨_, rfl, by show 2 ≤ sizeLine; decide, fun t2 n2 => ⟨by show 1 ≤ sizeLine; decide, fun t1 n1 => ?_⟩⟩
      intro o dx no nd ne
      have sO : Same (upd (upd H t2 (.tup [v, .int 3])) t1 (.tup [.ref t2])) (upd (upd (upd (upd H t2 (.tup [v, .int 3])) t1 (.tup [.ref t2])) dx (.own o)) o (.ins CY dx [])) := (same_new nd).trans (same_new (by rw [upd_ne ne.symm]; exact no))
      have s0 : Same H (upd (upd H t2 (.tup [v, .int 3])) t1 (.tup [.ref t2])) := (same_new n2).trans (same_new n1)
      have g1 : (upd (upd H t2 (.tup [v, .int 3])) t1 (.tup [.ref t2])) t1 = some (.tup [.ref t2]) := upd_same
      have g2 : (upd (upd H t2 (.tup [v, .int 3])) t1 (.tup [.ref t2])) t2 = some (.tup [v, .int 3]) := same_new n1 _ _ upd_same
      refine ⟨_, _, rfl, t1, t2, v, .int 3, d, rfl, sqT (sO _ _ g1), sqT (sO _ _ g2), th.same (s0.trans sO), sk, bad, fun H1 dd sm hdd => ⟨T6.m, fun e he => ⟨_, rfl, ?_⟩⟩⟩
      have s1 : Same H (upd (upd H1 dd (.xd [("number", .int 0)])) e (ExT e (.ref CT) (some dd))) := (s0.trans (sO.trans sm)).trans ((same_new hdd).trans (same_new he))
      have l1 : (upd (upd H1 dd (.xd [("number", .int 0)])) e (ExT e (.ref CT) (some dd))) e = some (ExT e (.ref CT) (some dd)) := upd_same
      have l2 : (upd (upd H1 dd (.xd [("number", .int 0)])) e (ExT e (.ref CT) (some dd))) dd = some (.xd [("number", .int 0)]) := same_new he _ _ upd_same
      refine ⟨_, rfl, e, CT, some dd, 6, rfl, ⟨l1, fun dx z => (by cases z; exact ⟨_, l2⟩), T6.c⟩, K6, .inr (.inr rfl), fun H2 s2 => ?_⟩
      refine ⟨_, rfl, rfl, _, rfl, ?_⟩
      refine (congrArg (fun b : Bool => ite (b = true) _ _) e61).mpr (iteF ?_)
      refine ⟨_, rfl, by show 2 ≤ sizeLine; decide, fun w1 nw => ⟨w1, w2, rfl, .inl (sqL upd_same), rfl, rfl, _, rfl, ?_⟩⟩
      refine (congrArg (fun b : Bool => ite (b = true) _ _) i6).mpr (iteT ?_)
      have s3 : Same H2 (upd H2 w1 (.lst w2)) := same_new nw
      exact ⟨_, rfl, _, rfl, e, CT, dd, _, .int 0, rfl, s3 _ _ (s2 _ _ l1), T6.f, T6.no, s3 _ _ (s2 _ _ l2), rfl, by show 2 ≤ sizeLine; decide, fun p np => q _ p (((s1.trans s2).trans s3).trans (same_new np)) upd_same⟩
    · refine ⟨_, rfl, rfl, _, rfl, iteF ⟨_, rfl, rfl, _, rfl, iteF ?_⟩⟩
      refine ⟨_, rfl, by show 2 ≤ sizeLine; decide, fun t2 n2 => ⟨by show 1 ≤ sizeLine; decide, fun t1 n1 => ?_⟩⟩
      intro o dx no nd ne
      have sO : Same (upd (upd H t2 (.tup [v, .non])) t1 (.tup [.ref t2])) (upd (upd (upd (upd H t2 (.tup [v, .non])) t1 (.tup [.ref t2])) dx (.own o)) o (.ins CH dx [])) := (same_new nd).trans (same_new (by rw [upd_ne ne.symm]; exact no))
      have s0 : Same H (upd (upd H t2 (.tup [v, .non])) t1 (.tup [.ref t2])) := (same_new n2).trans (same_new n1)
      have g1 : (upd (upd H t2 (.tup [v, .non])) t1 (.tup [.ref t2])) t1 = some (.tup [.ref t2]) := upd_same
      have g2 : (upd (upd H t2 (.tup [v, .non])) t1 (.tup [.ref t2])) t2 = some (.tup [v, .non]) := same_new n1 _ _ upd_same
      refine ⟨_, _, rfl, t1, t2, v, .non, d, rfl, sqT (sO _ _ g1), sqT (sO _ _ g2), th.same (s0.trans sO), sk, bad, fun H1 dd sm hdd => ⟨T3.m, fun e he => ⟨_, rfl, ?_⟩⟩⟩
      have s1 : Same H (upd (upd H1 dd (.xd [("number", .int 0)])) e (ExT e (.ref CP) (some dd))) := (s0.trans (sO.trans sm)).trans ((same_new hdd).trans (same_new he))
      have l1 : (upd (upd H1 dd (.xd [("number", .int 0)])) e (ExT e (.ref CP) (some dd))) e = some (ExT e (.ref CP) (some dd)) := upd_same
      have l2 : (upd (upd H1 dd (.xd [("number", .int 0)])) e (ExT e (.ref CP) (some dd))) dd = some (.xd [("number", .int 0)]) := same_new he _ _ upd_same
      refine ⟨_, rfl, e, CP, some dd, 3, rfl, ⟨l1, fun dx z => (by cases z; exact ⟨_, l2⟩), T3.c⟩, K3, .inr (.inl rfl), fun H2 s2 => ?_⟩
      refine ⟨_, rfl, rfl, _, rfl, ?_⟩
      refine (congrArg (fun b : Bool => ite (b = true) _ _) e31).mpr (iteF ?_)
      refine ⟨_, rfl, by show 2 ≤ sizeLine; decide, fun w1 nw => ⟨w1, w2, rfl, .inl (sqL upd_same), rfl, rfl, _, rfl, ?_⟩⟩
      refine (congrArg (fun b : Bool => ite (b = true) _ _) i3).mpr (iteT ?_)
      have s3 : Same H2 (upd H2 w1 (.lst w2)) := same_new nw
      exact ⟨_, rfl, _, rfl, e, CP, dd, _, .int 0, rfl, s3 _ _ (s2 _ _ l1), T3.f, T3.no, s3 _ _ (s2 _ _ l2), rfl, by show 2 ≤ sizeLine; decide, fun p np => q _ p (((s1.trans s2).trans s3).trans (same_new np)) upd_same⟩
end
end WdQ

set_option Elab.async false
set_option linter.all false
set_option maxRecDepth 100000
set_option maxHeartbeats 4000000
set_option exponentiation.threshold 5000
namespace WdQ
open PySem PySem.Spec PyProof.Rows L2 WdM Wd
abbrev sLaw : Stmt := topS 68
abbrev nL : List Str := ["_law_script", "_law_things", "_law_k", "_law_pool_here", "_law_turn", "_law_made", "_law_odd", "_law_found", "_law_due", "_law_which"]
theorem scLaw : FnScope nL ["_law_script"] (defScope sLaw) := ⟨rfl, rfl, rfl, by decide +kernel, rfl, by decide +kernel, by decide +kernel⟩
section
variable {P : Program} {w : World} {K : PySem.W.Frag} {mg : Str → Option Value} {base : Heap}
theorem kbN {f : Addr} {fd : FuncData} (F : Fun K "is_name" "is_name" sName f fd) : KBn K fd ["thing"] 0 ["thing"] (fun _ ws => ws) (fun _ zs => zs) where
  to := fun s us ws _ h1 h2 => by
    obtain ⟨oc, od, kV, doc, pm, an, cdv, ct, osl, rfl, lk, hcd⟩ := F.ex
    match us, ws, h1, h2 with
    | [], [x], _, _ => exact .of_eq rfl
  rel := fun _ r => r
def dW : PyData := .list [.tuple [.str "story", .int 0], .tuple [.str "people", .int 0]]
theorem shW : SeqAt.shaped dW = true := by decide +kernel
theorem eqW : (!PyData.eqv dW dW) = false := by decide +kernel
def dS : PyData := .tuple [.str "sum", .int (0 - 1)]
theorem shS : SeqAt.shaped dS = true := by decide +kernel
theorem eqS : (!PyData.eqv dS dS) = false := by decide +kernel
theorem nm8 : nameB (.str "abcdefgh") = true := by decide +kernel
theorem dpW {H : Hp} {p p1 p2 : Addr} (h : H p = some (.lst [.ref p1, .ref p2])) (h1 : H p1 = some (.tup [.str "story", .int 0])) (h2 : H p2 = some (.tup [.str "people", .int 0])) : Dp K H (.ref p) dW :=
  .lst (sqL h) (.cons (.tup (sqT h1) (.cons (.str _) (.cons (.int _) .nil))) (.cons (.tup (sqT h2) (.cons (.str _) (.cons (.int _) .nil))) .nil))
theorem dpS {H : Hp} {p : Addr} (h : H p = some (.tup [.str "sum", .int (0 - 1)])) : Dp K H (.ref p) dS := .tup (sqT h) (.cons (.str _) (.cons (.int _) .nil))
theorem neq_bl (b : Bool) : (!decide (V.bl b = V.bl b)) = false := by simp
/-- the two refusals of one thing, as far as they are told -/
def PvW (L : Addr) (i : Nat) (H : Hp) : Prop := match i with
  | 0 => H L = some (.lst [])
  | 1 => ∃ p1, H L = some (.lst [.ref p1]) ∧ H p1 = some (.tup [.str "story", .int 0])
  | _ => ∃ p1 p2, H L = some (.lst [.ref p1, .ref p2]) ∧ H p1 = some (.tup [.str "story", .int 0]) ∧ H p2 = some (.tup [.str "people", .int 0])
def spLaw (K : PySem.W.Frag) : Sp := fun vs H Q _ => ∃ (a : Addr) (ns : List Int), vs = [.ref a] ∧ SqL K H a (ns.map V.int) ∧ ns.length ≤ 63 ∧ ∀ H', Q (.bl true) H'
theorem ok_law {f fO fN fM fD fR : Addr} {fd fdO fdN fdM fdD fdR : FuncData} (B : Bi mg) (D : Df K mg "law" sLaw f fd ["_law_script"]) (DO : Df K mg "_law_pool" sPool fO fdO ["_law_script", "_law_k"])
    (DN : Df K mg "is_name" sName fN fdN ["thing"]) (DM : Df K mg "_law_is_name" sLN fM fdM ["_law_odd"]) (DD : Df K mg "_law_drawn" sDr fD fdD ["_law_pool_here"]) (DR : Df K mg "_law_refused" sRef fR fdR ["_law_which", "_law_odd"])
    (GN : FnOk P w K mg base CX0 1 fN fdN ["thing"] (spName K)) (GD : FnOk P w K mg base CX0 2 fD fdD ["_law_pool_here"] spDrawn) (GR : FnOk P w K mg base CX0 6 fR fdR ["_law_which", "_law_odd"] (spRefused K)) :
    FnOk P w K mg base CX0 7 f fd ["_law_script"] (spLaw K) := by
  have GO : FnOk P w K mg base CX0 1 fO fdO ["_law_script", "_law_k"] (spPool K) := ok_pool (k := 0) B DO
  have GM : FnOk P w K mg base CX0 1 fM fdM ["_law_odd"] (spName K) := ok_lname (k := 0) B DM
  refine D.fn.ok scLaw (fun vs H Q E h => ?_) (fun cdv A outer s H vs Q E hr h => ?_)
  · obtain ⟨a, ns, rfl, _⟩ := h
    rfl
  · obtain ⟨a, ns, rfl, hs, hlen, q⟩ := h
    have r1 : Room 1 _ := hr.mono (by omega)
    have r2 : Room 2 _ := hr.mono (by omega)
    have hu := hr.units
    refine ⟨_, pss_cons (ps_set (i := 1) scLaw.nd rfl (.inl rfl) (peB_lst
        (paB_cons kpS (PE.wk (t' := tB RT (ThS K)) pe_non (by rintro σ H Q ⟨_, q⟩; exact q _ _ (Same.refl H) ⟨.none, .dp .non, short_of rfl⟩))
        (paB_cons kpS (PE.wk (t' := tB RT (ThS K)) pe_int (by rintro σ H Q ⟨_, q⟩; exact q _ _ (Same.refl H) ⟨.int 0, .dp (.int _), short_of rfl⟩))
        (paB_cons kpS (PE.wk (t' := tB RT (ThS K)) pe_int (by rintro σ H Q ⟨_, q⟩; exact q _ _ (Same.refl H) ⟨.int 1, .dp (.int _), short_of rfl⟩))
        (paB_cons kpS (PE.wk (t' := tB RT (ThS K)) pe_bl (by rintro σ H Q ⟨_, q⟩; exact q _ _ (Same.refl H) ⟨.bool true, .dp (.bl _), short_of rfl⟩))
        (paB_cons kpS (PE.wk (t' := tB RT (ThS K)) pe_str (by rintro σ H Q ⟨_, q⟩; exact q _ _ (Same.refl H) (StrL.th (b := 10) ⟨_, rfl, by decide⟩ (by decide))))
        (paB_cons kpS (PE.wk (t' := tB RT (ThS K)) pe_str (by rintro σ H Q ⟨_, q⟩; exact q _ _ (Same.refl H) (StrL.th (b := 10) ⟨_, rfl, by decide⟩ (by decide))))
        (paB_cons kpS (PE.wk (t' := tB RT (ThS K)) (pe_tup (pa_cons pe_str pa_nil)) (by rintro σ H Q ⟨_, q⟩; exact ⟨by show 1 ≤ sizeLine; decide, fun p n => q _ _ (same_new n) ⟨.tuple [.str "ann"], .dp (.tup (sqT upd_same) (.cons (.str _) .nil)), short_of rfl⟩⟩))
        (paB_cons kpS (PE.wk (t' := tB RT (ThS K)) (pe_lst (pa_cons pe_str pa_nil)) (by rintro σ H Q ⟨_, q⟩; exact ⟨by show 1 ≤ sizeLine; decide, fun p n => q _ _ (same_new n) ⟨.list [.str "ann"], .dp (.lst (sqL upd_same) (.cons (.str _) .nil)), short_of rfl⟩⟩))
        (paB_cons kpS (PE.wk (t' := tB RT (ThS K)) pe_dnewK (by rintro σ H Q ⟨_, q⟩; exact fun p n => q _ _ (same_new n) ⟨.dict [], .nod upd_same, short_of rfl⟩))
        (paB_cons kpS (PE.wk (t' := tB RT (ThS K)) (pe_tup (pa_cons (pe_lst pa_nil) pa_nil)) (by rintro σ H Q ⟨_, q⟩; exact ⟨by show 0 ≤ sizeLine; decide, fun p1 n1 => ⟨by show 1 ≤ sizeLine; decide, fun p n => q _ _ ((same_new n1).trans (same_new n)) ⟨.tuple [.list []], .dp (.tup (sqT upd_same) (.cons (.lst (sqL (same_new n _ _ upd_same)) .nil) .nil)), short_of rfl⟩⟩⟩))
        (paB_cons kpS (PE.wk (t' := tB RT (ThS K)) (pe_lst (pa_cons (pe_lst (pa_cons pe_str pa_nil)) pa_nil)) (by rintro σ H Q ⟨_, q⟩; exact ⟨by show 1 ≤ sizeLine; decide, fun p1 n1 => ⟨by show 1 ≤ sizeLine; decide, fun p n => q _ _ ((same_new n1).trans (same_new n)) ⟨.list [.list [.str "ann"]], .dp (.lst (sqL upd_same) (.cons (.lst (sqL (same_new n _ _ upd_same)) (.cons (.str _) .nil)) .nil)), short_of rfl⟩⟩⟩))
        (paB_cons kpS (PE.wk (t' := tB RT (ThS K)) pe_str (by rintro σ H Q ⟨_, q⟩; exact q _ _ (Same.refl H) (StrL.th (b := 10) ⟨_, rfl, by decide⟩ (by decide))))
        (paB_cons kpS (PE.wk (t' := tB RT (ThS K)) pe_str (by rintro σ H Q ⟨_, q⟩; exact q _ _ (Same.refl H) (StrL.th (b := 10) ⟨_, rfl, by decide⟩ (by decide))))
        (paB_cons kpS (PE.wk (t' := tB RT (ThS K)) pe_str (by rintro σ H Q ⟨_, q⟩; exact q _ _ (Same.refl H) (StrL.th (b := 10) ⟨_, rfl, by decide⟩ (by decide))))
        (paB_cons kpS (PE.wk (t' := tB RT (ThS K)) (pe_tup pa_nil) (by rintro σ H Q ⟨_, q⟩; exact ⟨by show 0 ≤ sizeLine; decide, fun p n => q _ _ (same_new n) ⟨.tuple [], .dp (.tup (sqT upd_same) .nil), short_of rfl⟩⟩))
        paB_nil))))))))))))))) (by decide)))
      (pss_cons (ps_expr (pe_bm PySem.F.plainAttrs_list PySem.F.slot_list_append PySem.F.type_list_append mt_append (pv 1) (pa_cons pe_str pa_nil)))
      (pss_cons (ps_for PassesOwn.never rfl (pi_range1 (by rfl) B.range (pa_cons (pe_callB (call_max2 rfl) (by rfl) B.max (by decide +kernel) (pa_cons pe_int (pa_cons (pe_callB (call_min2 rfl) (by rfl) B.min (by decide +kernel) (pa_cons (pe_callB call_len_seq (by rfl) B.len PySem.boot_len (pa_cons (pv 0) pa_nil)) (pa_cons pe_int pa_nil))) pa_nil))) pa_nil)) (pg_name (i := 2) scLaw.nd rfl (.inl rfl))
        (pss_cons (ps_set (i := 3) scLaw.nd rfl (.inr rfl) (pe_call GO r1 (by rfl) DO.mg DO.fn.kp DO.bd .nil pass0 (pa_cons (pv 0) (pa_cons (pv 2) pa_nil))))
        (pss_cons (ps_setLc (i := 5) (own := [("_law_turn", 4)]) (g := gName 4) (tt := tYes) rfl scLaw.nd rfl rfl (sw_true rfl rfl rfl (by decide +kernel)) (pi_range1 (by rfl) B.range (pa_cons pe_int pa_nil))
            (blkOk_by (own := [("_law_turn", 4)]) (N := nL) (sc := defScope sLaw) (by decide +kernel))
            (fun _ _ _ _ _ => pg_name (i := 4) scLaw.nd rfl (Or.inl rfl)) (fun _ _ _ _ _ => pts_nil)
            (fun _ _ _ _ _ => pe_call GD r2 (by rfl) DD.mg DD.fn.kp DD.bd .nil pass0 (pa_cons (pv 3) pa_nil)))
        (pss_cons (ps_for PassesOwn.never rfl (pi_list (pe_op op_cat (pv 5) (pv 1))) (pg_name (i := 6) scLaw.nd rfl (.inr rfl))
          (pss_cons (ps_par (i := 7) (j := 8) rfl scLaw.nd rfl rfl (by decide) rfl rfl (pa_cons (pe_call GN r1 (by rfl) DN.mg DN.fn.kp DN.bd .nil pass0 (pa_cons (pv 6) pa_nil)) (pa_cons (pe_call GM r1 (by rfl) DM.mg DM.fn.kp DM.bd .nil pass0 (pa_cons (pv 6) pa_nil)) pa_nil)) (by rfl))
          (pss_cons (ps_if (PW.pt (pw_or (pt_not (pt_val (pe_callB call_isi (by rfl) B.isi boot_isinstance (pa_cons (pv 7) (pa_cons (pe_bltn (v := .ty "bool") (by rfl) B.bool boot_bool rfl) pa_nil))))) (pw_or1 (pt_cmpR op_ne (pv 7) (pv 8) (nomark _))))) (pss_one (ps_ret pe_bl)) pss_nil)
          (pss_one (ps_if (PW.pt (pw_and (pt_not (pt_val (pv 8))) (pw_and1 (pt_cmpR (op_neD hu)
              (pe_lc (own := [("_law_which", 9)]) (g := gName 9) (tt := tYes) rfl scLaw.nd (pi_list (pe_lst (pa_cons pe_int (pa_cons pe_int pa_nil)))) (blkOk_by (own := [("_law_which", 9)]) (N := nL) (sc := defScope sLaw) (by decide +kernel))
                (fun _ _ _ _ _ => pg_name (i := 9) scLaw.nd rfl (Or.inl rfl)) (fun _ _ _ _ _ => pts_nil)
                (fun _ _ _ _ _ => pe_call GR hr (by rfl) DR.mg DR.fn.kp DR.bd .nil pass0 (pa_cons (pv 9) (pa_cons (pv 6) pa_nil))))
              (pe_lst (pa_cons (pe_tup (pa_cons pe_str (pa_cons pe_int pa_nil))) (pa_cons (pe_tup (pa_cons pe_str (pa_cons pe_int pa_nil))) pa_nil))) (nomark _))))) (pss_one (ps_ret pe_bl)) pss_nil)))))
        (pss_one (ps_if (PW.pt (pw_or (pt_cmpR (op_neD hu) (pe_call GR hr (by rfl) DR.mg DR.fn.kp DR.bd .nil pass0 (pa_cons pe_int (pa_cons (pe_ix (r := rIxL K) ix_list (pv 5) pe_int (fun _ _ => rfl)) pa_nil))) (pe_tup (pa_cons pe_str (pa_cons (pe_op op_sub pe_int pe_int) pa_nil))) (nomark _))
            (pw_or1 (pt_not (pt_val (pe_callN0 GN r1 (by rfl) DN.mg DN.fn.kp (kbN DN.fn) pass0 (pk_cons pe_str pk_nil))))))) (pss_one (ps_ret pe_bl)) pss_nil))))))
      (pss_one (ps_ret pe_bl)))), ?_⟩
    refine ⟨trivial, fun pT T0 H1 s1 n1 t15 ths => ?_⟩
    refine ⟨_, rfl, .inl ⟨rfl, _, sqL upd_same⟩, pT, _, _, rfl, rfl, upd_same, by rw [t15]; decide, ?_⟩
    obtain ⟨T, hT, thT, tl⟩ : ∃ T : List V, T0 ++ [.str "abcdefghi"] = T ∧ (∀ x ∈ T, ThS K H1 x) ∧ T.length = 16 := ⟨_, rfl, fun x hx => by
      rcases List.mem_append.mp hx with h | h
      · exact ths x h
      · rw [List.mem_singleton.mp h]
        exact StrL.th (b := 10) ⟨_, rfl, by decide⟩ (by decide), by rw [List.length_append, t15]; rfl⟩
    rw [hT]
    have s2 : Same H1 (upd (upd H1 pT (.lst T0)) pT (.lst T)) := ((Bt.of_same (S := []) (same_new n1)).upd0 n1).same
    have l2 : (upd (upd H1 pT (.lst T0)) pT (.lst T)) pT = some (.lst T) := upd_same
    have hs2 := (s1.trans s2).seq hs
    have th2 : ∀ x ∈ T, ThS K (upd (upd H1 pT (.lst T0)) pT (.lst T)) x := fun x hx => kpS.b _ _ _ s2 (thT x hx)
    revert s2 l2 hs2 th2
    generalize upd (upd H1 pT (.lst T0)) pT (.lst T) = H2
    intro s2 l2 hs2 th2
    clear s1 n1 t15 ths thT hT s2
    refine ⟨_, rfl, a, _, rfl, .inl hs2, _, _, rfl, 2, _, rfl, _, rfl, ?_, ?_, for_range (lo := 0) (n := _) (fun i σ H' => (∃ y2 y3 y5 y6 y7 y8 : Option V, σ = [some (.ref a), some (.ref pT), y2, y3, none, y5, y6, y7, y8, none]) ∧ Same H2 H') ⟨⟨none, none, none, none, none, none, rfl⟩, Same.refl H2⟩ ?_ ?_⟩
    · split <;> (try split) <;> omega
    · rw [List.length_map]
      split <;> (try split) <;> omega
    · rintro i σ H3 hi ⟨⟨y2, y3, y5, y6, y7, y8, rfl⟩, s3⟩
      have i16 : i < 64 := by
        revert hi
        rw [List.length_map]
        split <;> (try split) <;> omega
      refine ⟨_, rfl, _, rfl, a, ns, _, rfl, s3.seq hs2, by omega, by omega, fun H4 l s4 nl pool4 => ?_⟩
      have sl : Same H2 H4 := s3.trans s4
      refine ⟨6, rfl, by decide, by decide, fun mL nM => ?_⟩
      have nlm : l ≠ mL := pool4.ne nM
      refine lc_range (lo := 0) (n := 6) (fun i H' => ∃ zs : List V, H' mL = some (.lst zs) ∧ zs.length = i ∧ (∀ x ∈ zs, StrL 100 x) ∧ PoolAt H' l ∧ Bt [l] H4 H') ⟨[], upd_same, rfl, (fun x hx => nomatch hx), pool4.upd nlm, (Bt.refl H4).new nM⟩ ?_ ?_
      · rintro j H5 hj ⟨zs, hM, zl, az, pool5, b5⟩
        refine ⟨rfl, tyes (iteT ⟨_, rfl, l, rfl, pool5, fun H6 z b6 pool6 zz => ?_⟩)⟩
        have hM6 := kept b6 hM (by simp [nlm.symm])
        refine ⟨zs, hM6, by rw [zl]; exact Nat.lt_of_lt_of_le (show j < 7 by omega) (by decide), zs ++ [.str z], upd_same, by rw [List.length_append, zl]; rfl, fun x hx => ?_, pool6.upd nlm, (b5.trans b6).upd0 nM⟩
        rcases List.mem_append.mp hx with h | h
        · exact az x h
        · rw [List.mem_singleton.mp h]
          exact ⟨z, rfl, zz⟩
      · rintro H5 ⟨zs, hM, zl, az, pool5, b5⟩
        have s5 : Same H3 H5 := bt_same1 ((Bt.of_same s4).trans b5) nl
        clear b5 pool5 pool4 nlm nM s4
        have l5 := (s3.trans s5) _ _ l2
        refine ⟨_, rfl, _, rfl, mL, pT, zs, T, rfl, rfl, hM, l5, by rw [zl, tl]; decide, fun oL nO => ⟨oL, rfl, ⟨_, sqL upd_same⟩, ?_⟩⟩
        have sO : Same H5 (upd H5 oL (.lst (zs ++ T))) := same_new nO
        have lO : (upd H5 oL (.lst (zs ++ T))) oL = some (.lst (zs ++ T)) := upd_same
        revert sO lO
        generalize upd H5 oL (.lst (zs ++ T)) = H6
        intro sO lO
        have s26 := (s3.trans s5).trans sO
        have thA : ∀ x ∈ zs ++ T, ThS K H6 x := fun x hx => by
          rcases List.mem_append.mp hx with h | h
          · exact (az x h).th (by decide)
          · exact kpS.b _ _ _ s26 (th2 x h)
        refine for_list (K := K) (a := oL) (xs := zs ++ T) (fun j σ H' => (∃ y6 y7 y8 : Option V, σ = [some (.ref a), some (.ref pT), some (.int (0 + (i : Int))), some (.ref l), none, some (.ref mL), y6, y7, y8, none]) ∧ Same H6 H') ⟨⟨_, _, _, rfl⟩, Same.refl H6⟩ (fun j σ H' _ h => sqL (h.2 _ _ lO)) ?_ ?_
        · rintro j x σ H7 hx ⟨⟨z6, z7, z8, rfl⟩, s7⟩
          obtain ⟨d, th, sk⟩ := kpS.b _ _ _ s7 (thA x (List.mem_of_getElem? hx))
          refine ⟨_, rfl, x, d, rfl, th, sk, fun H8 s8 => ⟨_, rfl, x, d, rfl, th.same s8, sk, fun H9 s9 => ⟨_, _, rfl, ?_⟩⟩⟩
          refine ⟨_, rfl, _, .ty "bool", .type "bool", .type "bool", true, rfl, .ty _, .base (.bl _), kit_ty (by decide +kernel), true, rfl, iteF ⟨_, rfl, _, rfl, rfl, _, rfl, ?_⟩⟩
          rw [neq_bl]
          refine iteF ⟨_, rfl, _, rfl, ?_⟩
          have s69 := s7.trans (s8.trans s9)
          have th9 := (th.same s8).same s9
          by_cases hn : nameB d = true
          · rw [hn]
            exact iteF ⟨⟨_, _, _, rfl⟩, s69⟩
          · have bad : nameB d = false := by simpa using hn
            rw [bad]
            refine iteT ⟨by show 2 ≤ sizeLine; decide, fun lw nw => ⟨lw, rfl, ⟨_, sqL upd_same⟩, ?_⟩⟩
            have sw : Same H9 (upd H9 lw (.lst [.int 1, .int 2])) := same_new nw
            have lw0 : (upd H9 lw (.lst [.int 1, .int 2])) lw = some (.lst [.int 1, .int 2]) := upd_same
            revert sw lw0
            generalize upd H9 lw (.lst [.int 1, .int 2]) = H10
            intro sw lw0 L nL
            have th10 := th9.same sw
            refine lc_list (K := K) (a := lw) (xs := [.int 1, .int 2]) (fun i H' => PvW L i H' ∧ Same H10 H') ⟨upd_same, same_new nL⟩ (fun i H' _ h => sqL (h.2 _ _ lw0)) ?_ ?_
            · rintro m y H11 hy ⟨pv, s11⟩
              match m, hy with
              | 0, hy =>
                cases hy
                refine ⟨rfl, tyes (iteT ⟨_, rfl, _, rfl, x, d, th10.same s11, sk, .inr (.inl ⟨rfl, bad, fun H12 p s12 hp => ?_⟩)⟩)⟩
                have pv : H11 L = some (.lst []) := pv
                have npL : p ≠ L := ne_of hp (s12 _ _ pv) (fun z => by cases z)
                refine ⟨[], s12 _ _ pv, by decide, ⟨p, upd_same, by rw [upd_ne npL]; exact hp⟩, ((Bt.of_same (S := []) (s11.trans s12)).upd0 nL).same⟩
              | 1, hy =>
                cases hy
                refine ⟨rfl, tyes (iteT ⟨_, rfl, _, rfl, x, d, th10.same s11, sk, .inr (.inr ⟨rfl, bad, fun H12 p s12 hp => ?_⟩)⟩)⟩
                obtain ⟨p1, pL, pp⟩ : ∃ p1, H11 L = some (.lst [.ref p1]) ∧ H11 p1 = some (.tup [.str "story", .int 0]) := pv
                have npL : p ≠ L := ne_of hp (s12 _ _ pL) (fun z => by cases z)
                have np1 : p1 ≠ L := ne_of pp pL (fun z => by cases z)
                refine ⟨[.ref p1], s12 _ _ pL, by show 1 < sizeLine; decide, ⟨p1, p, upd_same, by rw [upd_ne np1]; exact s12 _ _ pp, by rw [upd_ne npL]; exact hp⟩, ((Bt.of_same (S := []) (s11.trans s12)).upd0 nL).same⟩
              | m + 2, hy => cases hy
            · rintro H11 ⟨⟨p1, p2, g0, g1, g2⟩, s11⟩
              refine ⟨by show 2 ≤ sizeLine; decide, fun t1 nt1 => ⟨by show 2 ≤ sizeLine; decide, fun t2 nt2 => ⟨by show 2 ≤ sizeLine; decide, fun t3 nt3 => ?_⟩⟩⟩
              have sZ := (same_new (o := .tup [.str "story", .int 0]) nt1).trans ((same_new (o := .tup [.str "people", .int 0]) nt2).trans (same_new (o := .lst [.ref t1, .ref t2]) nt3))
              refine ⟨dW, dW, dpW (sZ _ _ g0) (sZ _ _ g1) (sZ _ _ g2), dpW upd_same (same_new nt3 _ _ (same_new nt2 _ _ upd_same)) (same_new nt3 _ _ upd_same), shW, shW, _, rfl, ?_⟩
              rw [eqW]
              exact iteF ⟨⟨_, _, _, rfl⟩, s69.trans (sw.trans (s11.trans sZ))⟩
        · rintro σ H7 ⟨⟨z6, z7, z8, rfl⟩, s7⟩
          have hM7 := s7 _ _ (sO _ _ hM)
          obtain ⟨v0, e0, h0⟩ := at_of (d := 0) az (by decide) (by rw [zl]; decide)
          obtain ⟨d0, td0, sd0⟩ := h0.th (K := K) (H := H7) (by decide)
          refine ⟨_, rfl, mL, _, 0, v0, rfl, rfl, sqL hM7, e0, v0, d0, td0, sd0, .inl ⟨rfl, fun H8 p s8 hp => ?_⟩⟩
          refine ⟨0, 1, rfl, rfl, by show 2 ≤ sizeLine; decide, fun p2 np2 => ⟨dS, dS, dpS (same_new np2 _ _ hp), dpS upd_same, shS, shS, _, rfl, ?_⟩⟩
          rw [eqS]
          refine iteF ⟨rfl, _, _, rfl, .dp (.str "abcdefgh"), (fun z e => by cases e; decide), fun H9 s9 => ?_⟩
          rw [nm8]
          exact ⟨true, rfl, iteF ⟨⟨_, _, _, _, _, _, rfl⟩, s26.trans (s7.trans (s8.trans ((same_new np2).trans s9)))⟩⟩
    · rintro σ H3 ⟨⟨y2, y3, y5, y6, y7, y8, rfl⟩, s3⟩
      exact q H3
end
end WdQ

set_option Elab.async false
set_option linter.all false
set_option maxRecDepth 100000
set_option maxHeartbeats 4000000
namespace WdQ
open PySem PySem.Spec PyProof.Rows L2 WdM Wd
theorem all_mk {l : PySem.W.OpenLaw} {w : World} {K : PySem.W.Frag} {h : Heap} {mg : Str → Option Value} {fa f1 f2 f3 f4 f5 f6 f7 f8 f9 f10 f11 f12 f13 f14 c0 c1 c2 c3 c4 c5 c6 c7 c8 c9 c10 c11 c12 c13 c14 c15 c16 c17 c18 c19 c20 c21 c22 c23 fe1 fe3 fe6 aW CH fiH dtH CY fiY dtY : Addr} (X : K.In h) (G : h.Ns mainGlobals mg) (hfa : mg "law" = some (.ref fa))
    {od1 an1 od2 an2 od3 an3 od4 an4 od5 an5 od6 an6 od7 an7 od8 an8 od9 an9 od10 an10 od11 an11 od12 an12 od13 an13 od14 an14 ode1 ane1 ode3 ane3 ode6 ane6 odW odH anH oddH odY anY oddY : Option Addr} {sl1 sl2 sl3 sl4 sl5 sl6 sl7 sl8 sl9 sl10 sl11 sl12 sl13 sl14 sle1 sle3 sle6 slW slH sldH slY sldY : Array (Option Value)} {oc1 kV1 dc1 pm1 cd1 ct1 oc2 kV2 dc2 pm2 cd2 ct2 oc3 kV3 dc3 pm3 cd3 ct3 oc4 kV4 dc4 pm4 cd4 ct4 oc5 kV5 dc5 pm5 cd5 ct5 oc6 kV6 dc6 pm6 cd6 ct6 oc7 kV7 dc7 pm7 cd7 ct7 oc8 kV8 dc8 pm8 cd8 ct8 oc9 kV9 dc9 pm9 cd9 ct9 oc10 kV10 dc10 pm10 cd10 ct10 oc11 kV11 dc11 pm11 cd11 ct11 oc12 kV12 dc12 pm12 cd12 ct12 oc13 kV13 dc13 pm13 cd13 ct13 oc14 kV14 dc14 pm14 cd14 ct14 oce1 kVe1 dce1 pme1 cde1 cte1 oce3 kVe3 dce3 pme3 cde3 cte3 oce6 kVe6 dce6 pme6 cde6 cte6 ocH kVH dcH pmH cdH ctH ocdH ocY kVY dcY pmY cdY ctY ocdY : Value} {tMD tMP tL tN w0 w1 w2 w3 w4 w5 w6 w7 w8 w9 w10 w11 w12 tdH1 tdH2 : Tok} {nW ndH ndY : Nat}
    (a1 : PySem.W.nsIn K mainGlobals "is_name" = some (some (.ref f1)))
    (l1 : K.lookup f1 = some ⟨oc1, od1, .func (PySem.W.fnOf "is_name" "is_name" (defArgs sName) (defBody sName) (defScope sName) .none kV1 dc1 pm1 an1 cd1 ct1), sl1⟩)
    (d1 : PySem.W.codeIn K cd1 "is_name" = true)
    (k1 : PySem.W.keepIn K (.ref f1) = true)
    (a2 : PySem.W.nsIn K mainGlobals "is_whole" = some (some (.ref f2)))
    (l2 : K.lookup f2 = some ⟨oc2, od2, .func (PySem.W.fnOf "is_whole" "is_whole" (defArgs sWhole) (defBody sWhole) (defScope sWhole) .none kV2 dc2 pm2 an2 cd2 ct2), sl2⟩)
    (d2 : PySem.W.codeIn K cd2 "is_whole" = true)
    (k2 : PySem.W.keepIn K (.ref f2) = true)
    (a3 : PySem.W.nsIn K mainGlobals "parted" = some (some (.ref f3)))
    (l3 : K.lookup f3 = some ⟨oc3, od3, .func (PySem.W.fnOf "parted" "parted" (defArgs sParted) (defBody sParted) (defScope sParted) .none kV3 dc3 pm3 an3 cd3 ct3), sl3⟩)
    (d3 : PySem.W.codeIn K cd3 "parted" = true)
    (k3 : PySem.W.keepIn K (.ref f3) = true)
    (a4 : PySem.W.nsIn K mainGlobals "is_person" = some (some (.ref f4)))
    (l4 : K.lookup f4 = some ⟨oc4, od4, .func (PySem.W.fnOf "is_person" "is_person" (defArgs sPerson) (defBody sPerson) (defScope sPerson) .none kV4 dc4 pm4 an4 cd4 ct4), sl4⟩)
    (d4 : PySem.W.codeIn K cd4 "is_person" = true)
    (k4 : PySem.W.keepIn K (.ref f4) = true)
    (a5 : PySem.W.nsIn K mainGlobals "check_people" = some (some (.ref f5)))
    (l5 : K.lookup f5 = some ⟨oc5, od5, .func (PySem.W.fnOf "check_people" "check_people" (defArgs sChkP) (defBody sChkP) (defScope sChkP) .none kV5 dc5 pm5 an5 cd5 ct5), sl5⟩)
    (d5 : PySem.W.codeIn K cd5 "check_people" = true)
    (k5 : PySem.W.keepIn K (.ref f5) = true)
    (a6 : PySem.W.nsIn K mainGlobals "is_death" = some (some (.ref f6)))
    (l6 : K.lookup f6 = some ⟨oc6, od6, .func (PySem.W.fnOf "is_death" "is_death" (defArgs sDeath) (defBody sDeath) (defScope sDeath) .none kV6 dc6 pm6 an6 cd6 ct6), sl6⟩)
    (d6 : PySem.W.codeIn K cd6 "is_death" = true)
    (k6 : PySem.W.keepIn K (.ref f6) = true)
    (a7 : PySem.W.nsIn K mainGlobals "check_deaths" = some (some (.ref f7)))
    (l7 : K.lookup f7 = some ⟨oc7, od7, .func (PySem.W.fnOf "check_deaths" "check_deaths" (defArgs sChkD) (defBody sChkD) (defScope sChkD) .none kV7 dc7 pm7 an7 cd7 ct7), sl7⟩)
    (d7 : PySem.W.codeIn K cd7 "check_deaths" = true)
    (k7 : PySem.W.keepIn K (.ref f7) = true)
    (a8 : PySem.W.nsIn K mainGlobals "_law_pool" = some (some (.ref f8)))
    (l8 : K.lookup f8 = some ⟨oc8, od8, .func (PySem.W.fnOf "_law_pool" "_law_pool" (defArgs sPool) (defBody sPool) (defScope sPool) .none kV8 dc8 pm8 an8 cd8 ct8), sl8⟩)
    (d8 : PySem.W.codeIn K cd8 "_law_pool" = true)
    (k8 : PySem.W.keepIn K (.ref f8) = true)
    (a9 : PySem.W.nsIn K mainGlobals "_law_take" = some (some (.ref f9)))
    (l9 : K.lookup f9 = some ⟨oc9, od9, .func (PySem.W.fnOf "_law_take" "_law_take" (defArgs sTake) (defBody sTake) (defScope sTake) .none kV9 dc9 pm9 an9 cd9 ct9), sl9⟩)
    (d9 : PySem.W.codeIn K cd9 "_law_take" = true)
    (k9 : PySem.W.keepIn K (.ref f9) = true)
    (a10 : PySem.W.nsIn K mainGlobals "_law_sort" = some (some (.ref f10)))
    (l10 : K.lookup f10 = some ⟨oc10, od10, .func (PySem.W.fnOf "_law_sort" "_law_sort" (defArgs sSort) (defBody sSort) (defScope sSort) .none kV10 dc10 pm10 an10 cd10 ct10), sl10⟩)
    (d10 : PySem.W.codeIn K cd10 "_law_sort" = true)
    (k10 : PySem.W.keepIn K (.ref f10) = true)
    (a11 : PySem.W.nsIn K mainGlobals "_law_is_name" = some (some (.ref f11)))
    (l11 : K.lookup f11 = some ⟨oc11, od11, .func (PySem.W.fnOf "_law_is_name" "_law_is_name" (defArgs sLN) (defBody sLN) (defScope sLN) .none kV11 dc11 pm11 an11 cd11 ct11), sl11⟩)
    (d11 : PySem.W.codeIn K cd11 "_law_is_name" = true)
    (k11 : PySem.W.keepIn K (.ref f11) = true)
    (a12 : PySem.W.nsIn K mainGlobals "_law_drawn" = some (some (.ref f12)))
    (l12 : K.lookup f12 = some ⟨oc12, od12, .func (PySem.W.fnOf "_law_drawn" "_law_drawn" (defArgs sDr) (defBody sDr) (defScope sDr) .none kV12 dc12 pm12 an12 cd12 ct12), sl12⟩)
    (d12 : PySem.W.codeIn K cd12 "_law_drawn" = true)
    (k12 : PySem.W.keepIn K (.ref f12) = true)
    (a13 : PySem.W.nsIn K mainGlobals "_law_refused" = some (some (.ref f13)))
    (l13 : K.lookup f13 = some ⟨oc13, od13, .func (PySem.W.fnOf "_law_refused" "_law_refused" (defArgs sRef) (defBody sRef) (defScope sRef) .none kV13 dc13 pm13 an13 cd13 ct13), sl13⟩)
    (d13 : PySem.W.codeIn K cd13 "_law_refused" = true)
    (k13 : PySem.W.keepIn K (.ref f13) = true)
    (a14 : PySem.W.nsIn K mainGlobals "law" = some (some (.ref f14)))
    (l14 : K.lookup f14 = some ⟨oc14, od14, .func (PySem.W.fnOf "law" "law" (defArgs sLaw) (defBody sLaw) (defScope sLaw) .none kV14 dc14 pm14 an14 cd14 ct14), sl14⟩)
    (d14 : PySem.W.codeIn K cd14 "law" = true)
    (k14 : PySem.W.keepIn K (.ref f14) = true)
    (z_isinstance : PySem.W.nsIn K mainGlobals "isinstance" = some none)
    (z_int : PySem.W.nsIn K mainGlobals "int" = some none)
    (z_bool : PySem.W.nsIn K mainGlobals "bool" = some none)
    (z_str : PySem.W.nsIn K mainGlobals "str" = some none)
    (z_tuple : PySem.W.nsIn K mainGlobals "tuple" = some none)
    (z_list : PySem.W.nsIn K mainGlobals "list" = some none)
    (z_len : PySem.W.nsIn K mainGlobals "len" = some none)
    (z_abs : PySem.W.nsIn K mainGlobals "abs" = some none)
    (z_all : PySem.W.nsIn K mainGlobals "all" = some none)
    (z_any : PySem.W.nsIn K mainGlobals "any" = some none)
    (z_sum : PySem.W.nsIn K mainGlobals "sum" = some none)
    (z_enumerate : PySem.W.nsIn K mainGlobals "enumerate" = some none)
    (z_divmod : PySem.W.nsIn K mainGlobals "divmod" = some none)
    (z_range : PySem.W.nsIn K mainGlobals "range" = some none)
    (z_max : PySem.W.nsIn K mainGlobals "max" = some none)
    (z_min : PySem.W.nsIn K mainGlobals "min" = some none)
    (z_zip : PySem.W.nsIn K mainGlobals "zip" = some none)
    (z_repr : PySem.W.nsIn K mainGlobals "repr" = some none)
    (z_ValueError : PySem.W.nsIn K mainGlobals "ValueError" = some none)
    (z_LookupError : PySem.W.nsIn K mainGlobals "LookupError" = some none)
    (z_ArithmeticError : PySem.W.nsIn K mainGlobals "ArithmeticError" = some none)
    (e6 : PySem.W.specialIn K (.builtin "object.__class__") "__get__" = some (some (.builtin "getset_descriptor.__get__")))
    (e7 : PySem.W.takesIn K (.builtin "object.__class__") = some true)
    (g0 : PySem.W.nsIn K mainGlobals "NoName" = some (some (.ref c0)))
    (g1 : PySem.W.nsIn K mainGlobals "NoSum" = some (some (.ref c1)))
    (g2 : PySem.W.nsIn K mainGlobals "NoShares" = some (some (.ref c2)))
    (g3 : PySem.W.nsIn K mainGlobals "NoPeople" = some (some (.ref c3)))
    (g4 : PySem.W.nsIn K mainGlobals "NoGoods" = some (some (.ref c4)))
    (g5 : PySem.W.nsIn K mainGlobals "NoText" = some (some (.ref c5)))
    (g6 : PySem.W.nsIn K mainGlobals "NoStory" = some (some (.ref c6)))
    (g7 : PySem.W.nsIn K mainGlobals "NoDay" = some (some (.ref c7)))
    (g8 : PySem.W.nsIn K mainGlobals "NoCond" = some (some (.ref c8)))
    (g9 : PySem.W.nsIn K mainGlobals "NoWhom" = some (some (.ref c9)))
    (g10 : PySem.W.nsIn K mainGlobals "NoClause" = some (some (.ref c10)))
    (g11 : PySem.W.nsIn K mainGlobals "NoReading" = some (some (.ref c11)))
    (g12 : PySem.W.nsIn K mainGlobals "NoWord" = some (some (.ref c12)))
    (g13 : PySem.W.nsIn K mainGlobals "LabelStands" = some (some (.ref c13)))
    (g14 : PySem.W.nsIn K mainGlobals "DayStands" = some (some (.ref c14)))
    (g15 : PySem.W.nsIn K mainGlobals "NoRow" = some (some (.ref c15)))
    (g16 : PySem.W.nsIn K mainGlobals "NoPerson" = some (some (.ref c16)))
    (g17 : PySem.W.nsIn K mainGlobals "NoThing" = some (some (.ref c17)))
    (g18 : PySem.W.nsIn K mainGlobals "NoLabel" = some (some (.ref c18)))
    (g19 : PySem.W.nsIn K mainGlobals "NoUndo" = some (some (.ref c19)))
    (g20 : PySem.W.nsIn K mainGlobals "TooMany" = some (some (.ref c20)))
    (g21 : PySem.W.nsIn K mainGlobals "WordError" = some (some (.ref c21)))
    (g22 : PySem.W.nsIn K mainGlobals "LostError" = some (some (.ref c22)))
    (g23 : PySem.W.nsIn K mainGlobals "RoomError" = some (some (.ref c23)))
    (gMD : PySem.W.nsIn K mainGlobals "MOST_DEATHS" = some (some (.int 8 tMD)))
    (gMP : PySem.W.nsIn K mainGlobals "MOST_PEOPLE" = some (some (.int 8 tMP)))
    (e1_i : PySem.W.findIn K (.ref c1) "__init__" = some (some (.ref fe1)))
    (le1 : K.lookup fe1 = some ⟨oce1, ode1, .func (PySem.W.fnOf "__init__" "NoSum.__init__" (defArgs sESum) (defBody sESum) (defScope sESum) .none kVe1 dce1 pme1 ane1 cde1 cte1), sle1⟩)
    (de1 : PySem.W.codeIn K cde1 "NoSum.__init__" = true)
    (ke1 : PySem.W.keepIn K (.ref fe1) = true)
    (e1_t : PySem.W.typeIn K (.ref fe1) = some (.type "function"))
    (e1_o1 : ∃ nm q N bs bm sn sub ab col dd k0 k1 k2 k3 k5, K.lookup c1 = some (excClassObj nm q c1 N bs bm true sn sub ab col dd k0 k1 k2 k3 k5 "ValueError.__new__") ∧ PySem.HandSPX.refsVE bm = true)
    (e1_o2 : PySem.W.findIn K (.ref c1) "__setattr__" = some (some (.builtin "object.__setattr__")))
    (e1_o3 : PySem.W.subIn K (.ref c1) (.type "BaseException") = some true)
    (e1_o4 : PySem.W.typeIn K (.ref c1) = some (.type "type"))
    (e1_o5 : PySem.W.keepIn K (.ref c1) = true)
    (e1_no : PySem.W.findIn K (.ref c1) "thing" = some none)
    (e1_m : PySem.W.exmOne K (.ref c1) (.ref c21) = some true)
    (e1_1 : PySem.W.findIn K (.ref c1) "__getattribute__" = some (some (.builtin "BaseException.__getattribute__")))
    (e1_2 : PySem.W.findIn K (.ref c1) "__getattr__" = some none)
    (e1_4 : PySem.W.hasDictIn K c1 = true)
    (e1_5 : PySem.W.findIn K (.ref c1) "__class__" = some (some (.builtin "object.__class__")))
    (e1_8 : PySem.W.mroIn K c1 (.type "object") = some true)
    (q1_0 : PySem.W.kitOne K (.ref c1) (.ref c0) = some false)
    (q1_1 : PySem.W.kitOne K (.ref c1) (.ref c1) = some true)
    (q1_2 : PySem.W.kitOne K (.ref c1) (.ref c2) = some false)
    (q1_3 : PySem.W.kitOne K (.ref c1) (.ref c3) = some false)
    (q1_4 : PySem.W.kitOne K (.ref c1) (.ref c4) = some false)
    (q1_5 : PySem.W.kitOne K (.ref c1) (.ref c5) = some false)
    (q1_6 : PySem.W.kitOne K (.ref c1) (.ref c6) = some false)
    (q1_7 : PySem.W.kitOne K (.ref c1) (.ref c7) = some false)
    (q1_8 : PySem.W.kitOne K (.ref c1) (.ref c8) = some false)
    (q1_9 : PySem.W.kitOne K (.ref c1) (.ref c9) = some false)
    (q1_10 : PySem.W.kitOne K (.ref c1) (.ref c10) = some false)
    (q1_11 : PySem.W.kitOne K (.ref c1) (.ref c11) = some false)
    (q1_12 : PySem.W.kitOne K (.ref c1) (.ref c12) = some false)
    (q1_13 : PySem.W.kitOne K (.ref c1) (.ref c13) = some false)
    (q1_14 : PySem.W.kitOne K (.ref c1) (.ref c14) = some false)
    (q1_15 : PySem.W.kitOne K (.ref c1) (.ref c15) = some false)
    (q1_16 : PySem.W.kitOne K (.ref c1) (.ref c16) = some false)
    (q1_17 : PySem.W.kitOne K (.ref c1) (.ref c17) = some false)
    (q1_18 : PySem.W.kitOne K (.ref c1) (.ref c18) = some false)
    (q1_19 : PySem.W.kitOne K (.ref c1) (.ref c19) = some false)
    (q1_20 : PySem.W.kitOne K (.ref c1) (.ref c20) = some false)
    (q1_w : PySem.W.kitOne K (.ref c1) (.ref c21) = some true)
    (q1_l : PySem.W.kitOne K (.ref c1) (.ref c22) = some false)
    (q1_r : PySem.W.kitOne K (.ref c1) (.ref c23) = some false)
    (q1_V : PySem.W.kitOne K (.ref c1) (.type "ValueError") = some true)
    (q1_L : PySem.W.kitOne K (.ref c1) (.type "LookupError") = some false)
    (q1_A : PySem.W.kitOne K (.ref c1) (.type "ArithmeticError") = some false)
    (e3_i : PySem.W.findIn K (.ref c3) "__init__" = some (some (.ref fe3)))
    (le3 : K.lookup fe3 = some ⟨oce3, ode3, .func (PySem.W.fnOf "__init__" "NoPeople.__init__" (defArgs sEPeople) (defBody sEPeople) (defScope sEPeople) .none kVe3 dce3 pme3 ane3 cde3 cte3), sle3⟩)
    (de3 : PySem.W.codeIn K cde3 "NoPeople.__init__" = true)
    (ke3 : PySem.W.keepIn K (.ref fe3) = true)
    (e3_t : PySem.W.typeIn K (.ref fe3) = some (.type "function"))
    (e3_o1 : ∃ nm q N bs bm sn sub ab col dd k0 k1 k2 k3 k5, K.lookup c3 = some (excClassObj nm q c3 N bs bm true sn sub ab col dd k0 k1 k2 k3 k5 "ValueError.__new__") ∧ PySem.HandSPX.refsVE bm = true)
    (e3_o2 : PySem.W.findIn K (.ref c3) "__setattr__" = some (some (.builtin "object.__setattr__")))
    (e3_o3 : PySem.W.subIn K (.ref c3) (.type "BaseException") = some true)
    (e3_o4 : PySem.W.typeIn K (.ref c3) = some (.type "type"))
    (e3_o5 : PySem.W.keepIn K (.ref c3) = true)
    (e3_no : PySem.W.findIn K (.ref c3) "number" = some none)
    (e3_m : PySem.W.exmOne K (.ref c3) (.ref c21) = some true)
    (e3_1 : PySem.W.findIn K (.ref c3) "__getattribute__" = some (some (.builtin "BaseException.__getattribute__")))
    (e3_2 : PySem.W.findIn K (.ref c3) "__getattr__" = some none)
    (e3_4 : PySem.W.hasDictIn K c3 = true)
    (e3_5 : PySem.W.findIn K (.ref c3) "__class__" = some (some (.builtin "object.__class__")))
    (e3_8 : PySem.W.mroIn K c3 (.type "object") = some true)
    (q3_0 : PySem.W.kitOne K (.ref c3) (.ref c0) = some false)
    (q3_1 : PySem.W.kitOne K (.ref c3) (.ref c1) = some false)
    (q3_2 : PySem.W.kitOne K (.ref c3) (.ref c2) = some false)
    (q3_3 : PySem.W.kitOne K (.ref c3) (.ref c3) = some true)
    (q3_4 : PySem.W.kitOne K (.ref c3) (.ref c4) = some false)
    (q3_5 : PySem.W.kitOne K (.ref c3) (.ref c5) = some false)
    (q3_6 : PySem.W.kitOne K (.ref c3) (.ref c6) = some false)
    (q3_7 : PySem.W.kitOne K (.ref c3) (.ref c7) = some false)
    (q3_8 : PySem.W.kitOne K (.ref c3) (.ref c8) = some false)
    (q3_9 : PySem.W.kitOne K (.ref c3) (.ref c9) = some false)
    (q3_10 : PySem.W.kitOne K (.ref c3) (.ref c10) = some false)
    (q3_11 : PySem.W.kitOne K (.ref c3) (.ref c11) = some false)
    (q3_12 : PySem.W.kitOne K (.ref c3) (.ref c12) = some false)
    (q3_13 : PySem.W.kitOne K (.ref c3) (.ref c13) = some false)
    (q3_14 : PySem.W.kitOne K (.ref c3) (.ref c14) = some false)
    (q3_15 : PySem.W.kitOne K (.ref c3) (.ref c15) = some false)
    (q3_16 : PySem.W.kitOne K (.ref c3) (.ref c16) = some false)
    (q3_17 : PySem.W.kitOne K (.ref c3) (.ref c17) = some false)
    (q3_18 : PySem.W.kitOne K (.ref c3) (.ref c18) = some false)
    (q3_19 : PySem.W.kitOne K (.ref c3) (.ref c19) = some false)
    (q3_20 : PySem.W.kitOne K (.ref c3) (.ref c20) = some false)
    (q3_w : PySem.W.kitOne K (.ref c3) (.ref c21) = some true)
    (q3_l : PySem.W.kitOne K (.ref c3) (.ref c22) = some false)
    (q3_r : PySem.W.kitOne K (.ref c3) (.ref c23) = some false)
    (q3_V : PySem.W.kitOne K (.ref c3) (.type "ValueError") = some true)
    (q3_L : PySem.W.kitOne K (.ref c3) (.type "LookupError") = some false)
    (q3_A : PySem.W.kitOne K (.ref c3) (.type "ArithmeticError") = some false)
    (e6_i : PySem.W.findIn K (.ref c6) "__init__" = some (some (.ref fe6)))
    (le6 : K.lookup fe6 = some ⟨oce6, ode6, .func (PySem.W.fnOf "__init__" "NoStory.__init__" (defArgs sEStory) (defBody sEStory) (defScope sEStory) .none kVe6 dce6 pme6 ane6 cde6 cte6), sle6⟩)
    (de6 : PySem.W.codeIn K cde6 "NoStory.__init__" = true)
    (ke6 : PySem.W.keepIn K (.ref fe6) = true)
    (e6_t : PySem.W.typeIn K (.ref fe6) = some (.type "function"))
    (e6_o1 : ∃ nm q N bs bm sn sub ab col dd k0 k1 k2 k3 k5, K.lookup c6 = some (excClassObj nm q c6 N bs bm true sn sub ab col dd k0 k1 k2 k3 k5 "ValueError.__new__") ∧ PySem.HandSPX.refsVE bm = true)
    (e6_o2 : PySem.W.findIn K (.ref c6) "__setattr__" = some (some (.builtin "object.__setattr__")))
    (e6_o3 : PySem.W.subIn K (.ref c6) (.type "BaseException") = some true)
    (e6_o4 : PySem.W.typeIn K (.ref c6) = some (.type "type"))
    (e6_o5 : PySem.W.keepIn K (.ref c6) = true)
    (e6_no : PySem.W.findIn K (.ref c6) "number" = some none)
    (e6_m : PySem.W.exmOne K (.ref c6) (.ref c21) = some true)
    (e6_1 : PySem.W.findIn K (.ref c6) "__getattribute__" = some (some (.builtin "BaseException.__getattribute__")))
    (e6_2 : PySem.W.findIn K (.ref c6) "__getattr__" = some none)
    (e6_4 : PySem.W.hasDictIn K c6 = true)
    (e6_5 : PySem.W.findIn K (.ref c6) "__class__" = some (some (.builtin "object.__class__")))
    (e6_8 : PySem.W.mroIn K c6 (.type "object") = some true)
    (q6_0 : PySem.W.kitOne K (.ref c6) (.ref c0) = some false)
    (q6_1 : PySem.W.kitOne K (.ref c6) (.ref c1) = some false)
    (q6_2 : PySem.W.kitOne K (.ref c6) (.ref c2) = some false)
    (q6_3 : PySem.W.kitOne K (.ref c6) (.ref c3) = some false)
    (q6_4 : PySem.W.kitOne K (.ref c6) (.ref c4) = some false)
    (q6_5 : PySem.W.kitOne K (.ref c6) (.ref c5) = some false)
    (q6_6 : PySem.W.kitOne K (.ref c6) (.ref c6) = some true)
    (q6_7 : PySem.W.kitOne K (.ref c6) (.ref c7) = some false)
    (q6_8 : PySem.W.kitOne K (.ref c6) (.ref c8) = some false)
    (q6_9 : PySem.W.kitOne K (.ref c6) (.ref c9) = some false)
    (q6_10 : PySem.W.kitOne K (.ref c6) (.ref c10) = some false)
    (q6_11 : PySem.W.kitOne K (.ref c6) (.ref c11) = some false)
    (q6_12 : PySem.W.kitOne K (.ref c6) (.ref c12) = some false)
    (q6_13 : PySem.W.kitOne K (.ref c6) (.ref c13) = some false)
    (q6_14 : PySem.W.kitOne K (.ref c6) (.ref c14) = some false)
    (q6_15 : PySem.W.kitOne K (.ref c6) (.ref c15) = some false)
    (q6_16 : PySem.W.kitOne K (.ref c6) (.ref c16) = some false)
    (q6_17 : PySem.W.kitOne K (.ref c6) (.ref c17) = some false)
    (q6_18 : PySem.W.kitOne K (.ref c6) (.ref c18) = some false)
    (q6_19 : PySem.W.kitOne K (.ref c6) (.ref c19) = some false)
    (q6_20 : PySem.W.kitOne K (.ref c6) (.ref c20) = some false)
    (q6_w : PySem.W.kitOne K (.ref c6) (.ref c21) = some true)
    (q6_l : PySem.W.kitOne K (.ref c6) (.ref c22) = some false)
    (q6_r : PySem.W.kitOne K (.ref c6) (.ref c23) = some false)
    (q6_V : PySem.W.kitOne K (.ref c6) (.type "ValueError") = some true)
    (q6_L : PySem.W.kitOne K (.ref c6) (.type "LookupError") = some false)
    (q6_A : PySem.W.kitOne K (.ref c6) (.type "ArithmeticError") = some false)
    (gL : PySem.W.nsIn K mainGlobals "LETTERS" = some (some (.str "abcdefghijklmnopqrstuvwxyz" tL)))
    (gN : PySem.W.nsIn K mainGlobals "LONGEST" = some (some (.int 8 tN)))
    (gW : PySem.W.nsIn K mainGlobals "WORDS" = some (some (.ref aW)))
    (lW : K.lookup aW = some ⟨.type "tuple", odW, .seq #[.str "all" w0, .str "and" w1, .str "children" w2, .str "childless" w3, .str "crown" w4, .str "else" w5, .str "if" w6, .str "lives" w7, .str "not" w8, .str "of" w9, .str "or" w10, .str "stock" w11, .str "to" w12] nW, slW⟩)
    (gH : PySem.W.nsIn K mainGlobals "House" = some (some (.ref CH)))
    (mkH : PySem.W.makesIn K CH = true)
    (fi_H : PySem.W.findIn K (.ref CH) "__init__" = some (some (.ref fiH)))
    (fnH : PySem.W.isFn K (.ref fiH) = true)
    (kcH : PySem.W.keepIn K (.ref CH) = true)
    (lH : K.lookup fiH = some ⟨ocH, odH, .func (PySem.W.fnOf "__init__" "House.__init__" (defArgs sHI) (defBody sHI) (defScope sHI) (.ref dtH) kVH dcH pmH anH cdH ctH), slH⟩)
    (dH : PySem.W.codeIn K cdH "House.__init__" = true)
    (kiH : PySem.W.keepIn K (.ref fiH) = true)
    (dlH : K.lookup dtH = some ⟨ocdH, oddH, .seq #[.none, .int 0 tdH1, .int 0 tdH2] ndH, sldH⟩)
    (gY : PySem.W.nsIn K mainGlobals "Story" = some (some (.ref CY)))
    (mkY : PySem.W.makesIn K CY = true)
    (fi_Y : PySem.W.findIn K (.ref CY) "__init__" = some (some (.ref fiY)))
    (fnY : PySem.W.isFn K (.ref fiY) = true)
    (kcY : PySem.W.keepIn K (.ref CY) = true)
    (lY : K.lookup fiY = some ⟨ocY, odY, .func (PySem.W.fnOf "__init__" "Story.__init__" (defArgs sSI) (defBody sSI) (defScope sSI) (.ref dtY) kVY dcY pmY anY cdY ctY), slY⟩)
    (dY : PySem.W.codeIn K cdY "Story.__init__" = true)
    (kiY : PySem.W.keepIn K (.ref fiY) = true)
    (dlY : K.lookup dtY = some ⟨ocdY, oddY, .seq #[.none] ndY, sldY⟩)
    : ∃ fd : FuncData, (∀ (s : Shared) (v : Value), BindsTo s fd ⟨[v], []⟩ [("_law_script", v)]) ∧ ∀ base : Heap, K.In base → base.Ns mainGlobals mg → FnOk l.prog w K mg base CX0 7 fa fd ["_law_script"] (spLaw K) := by
  have e := hfa.symm.trans (PySem.W.mg_of X G a14)
  cases e
  have F1 := fun_mk (st := sName) l1 d1 k1
  have D1 : Df K mg "is_name" sName f1 _ ["thing"] := ⟨F1, PySem.W.mg_of X G a1, F1.binds (ps := ["thing"]) fun _ _ _ _ _ _ us hl => match us, hl with | [_], _ => rfl⟩
  have F2 := fun_mk (st := sWhole) l2 d2 k2
  have D2 : Df K mg "is_whole" sWhole f2 _ ["thing"] := ⟨F2, PySem.W.mg_of X G a2, F2.binds (ps := ["thing"]) fun _ _ _ _ _ _ us hl => match us, hl with | [_], _ => rfl⟩
  have F3 := fun_mk (st := sParted) l3 d3 k3
  have D3 : Df K mg "parted" sParted f3 _ ["amount", "shares"] := ⟨F3, PySem.W.mg_of X G a3, F3.binds (ps := ["amount", "shares"]) fun _ _ _ _ _ _ us hl => match us, hl with | [_, _], _ => rfl⟩
  have F4 := fun_mk (st := sPerson) l4 d4 k4
  have D4 : Df K mg "is_person" sPerson f4 _ ["thing", "ahead"] := ⟨F4, PySem.W.mg_of X G a4, F4.binds (ps := ["thing", "ahead"]) fun _ _ _ _ _ _ us hl => match us, hl with | [_, _], _ => rfl⟩
  have F5 := fun_mk (st := sChkP) l5 d5 k5
  have D5 : Df K mg "check_people" sChkP f5 _ ["people"] := ⟨F5, PySem.W.mg_of X G a5, F5.binds (ps := ["people"]) fun _ _ _ _ _ _ us hl => match us, hl with | [_], _ => rfl⟩
  have F6 := fun_mk (st := sDeath) l6 d6 k6
  have D6 : Df K mg "is_death" sDeath f6 _ ["thing", "ahead"] := ⟨F6, PySem.W.mg_of X G a6, F6.binds (ps := ["thing", "ahead"]) fun _ _ _ _ _ _ us hl => match us, hl with | [_, _], _ => rfl⟩
  have F7 := fun_mk (st := sChkD) l7 d7 k7
  have D7 : Df K mg "check_deaths" sChkD f7 _ ["deaths"] := ⟨F7, PySem.W.mg_of X G a7, F7.binds (ps := ["deaths"]) fun _ _ _ _ _ _ us hl => match us, hl with | [_], _ => rfl⟩
  have F8 := fun_mk (st := sPool) l8 d8 k8
  have D8 : Df K mg "_law_pool" sPool f8 _ ["_law_script", "_law_k"] := ⟨F8, PySem.W.mg_of X G a8, F8.binds (ps := ["_law_script", "_law_k"]) fun _ _ _ _ _ _ us hl => match us, hl with | [_, _], _ => rfl⟩
  have F9 := fun_mk (st := sTake) l9 d9 k9
  have D9 : Df K mg "_law_take" sTake f9 _ ["_law_pool_here", "_law_many"] := ⟨F9, PySem.W.mg_of X G a9, F9.binds (ps := ["_law_pool_here", "_law_many"]) fun _ _ _ _ _ _ us hl => match us, hl with | [_, _], _ => rfl⟩
  have F10 := fun_mk (st := sSort) l10 d10 k10
  have D10 : Df K mg "_law_sort" sSort f10 _ ["_law_caught"] := ⟨F10, PySem.W.mg_of X G a10, F10.binds (ps := ["_law_caught"]) fun _ _ _ _ _ _ us hl => match us, hl with | [_], _ => rfl⟩
  have F11 := fun_mk (st := sLN) l11 d11 k11
  have D11 : Df K mg "_law_is_name" sLN f11 _ ["_law_odd"] := ⟨F11, PySem.W.mg_of X G a11, F11.binds (ps := ["_law_odd"]) fun _ _ _ _ _ _ us hl => match us, hl with | [_], _ => rfl⟩
  have F12 := fun_mk (st := sDr) l12 d12 k12
  have D12 : Df K mg "_law_drawn" sDr f12 _ ["_law_pool_here"] := ⟨F12, PySem.W.mg_of X G a12, F12.binds (ps := ["_law_pool_here"]) fun _ _ _ _ _ _ us hl => match us, hl with | [_], _ => rfl⟩
  have F13 := fun_mk (st := sRef) l13 d13 k13
  have D13 : Df K mg "_law_refused" sRef f13 _ ["_law_which", "_law_odd"] := ⟨F13, PySem.W.mg_of X G a13, F13.binds (ps := ["_law_which", "_law_odd"]) fun _ _ _ _ _ _ us hl => match us, hl with | [_, _], _ => rfl⟩
  have F14 := fun_mk (st := sLaw) l14 d14 k14
  have D14 : Df K mg "law" sLaw fa _ ["_law_script"] := ⟨F14, PySem.W.mg_of X G a14, F14.binds (ps := ["_law_script"]) fun _ _ _ _ _ _ us hl => match us, hl with | [_], _ => rfl⟩
  have B : Bi mg := ⟨PySem.W.mg_none_of X G z_isinstance, PySem.W.mg_none_of X G z_int, PySem.W.mg_none_of X G z_bool, PySem.W.mg_none_of X G z_str, PySem.W.mg_none_of X G z_tuple, PySem.W.mg_none_of X G z_list, PySem.W.mg_none_of X G z_len, PySem.W.mg_none_of X G z_abs, PySem.W.mg_none_of X G z_all, PySem.W.mg_none_of X G z_any, PySem.W.mg_none_of X G z_sum, PySem.W.mg_none_of X G z_enumerate, PySem.W.mg_none_of X G z_divmod, PySem.W.mg_none_of X G z_range, PySem.W.mg_none_of X G z_max, PySem.W.mg_none_of X G z_min, PySem.W.mg_none_of X G z_zip, PySem.W.mg_none_of X G z_repr⟩
  have TC : ClsF mg (fun i => [c0, c1, c2, c3, c4, c5, c6, c7, c8, c9, c10, c11, c12, c13, c14, c15, c16, c17, c18, c19, c20, c21, c22, c23].getD i 0) := ⟨PySem.W.mg_of X G g0, PySem.W.mg_of X G g1, PySem.W.mg_of X G g2, PySem.W.mg_of X G g3, PySem.W.mg_of X G g4, PySem.W.mg_of X G g5, PySem.W.mg_of X G g6, PySem.W.mg_of X G g7, PySem.W.mg_of X G g8, PySem.W.mg_of X G g9, PySem.W.mg_of X G g10, PySem.W.mg_of X G g11, PySem.W.mg_of X G g12, PySem.W.mg_of X G g13, PySem.W.mg_of X G g14, PySem.W.mg_of X G g15, PySem.W.mg_of X G g16, PySem.W.mg_of X G g17, PySem.W.mg_of X G g18, PySem.W.mg_of X G g19, PySem.W.mg_of X G g20, PySem.W.mg_of X G g21, PySem.W.mg_of X G g22, PySem.W.mg_of X G g23, PySem.W.mg_none_of X G z_ValueError, PySem.W.mg_none_of X G z_LookupError, PySem.W.mg_none_of X G z_ArithmeticError⟩
  have FI1 := fun_mk (st := sESum) le1 de1 ke1
  have bI1 : Binds K _ ["self", "thing"] [] := FI1.binds (ps := ["self", "thing"]) fun _ _ _ _ _ _ us hl => match us, hl with | [_, _], _ => rfl
  have T1 : ErC K mg "NoSum" "thing" c1 fe1 c21 := ⟨⟨e1_o1, e1_o2, e1_o3, e1_o4, e1_o5⟩, e1_no, e1_i, e1_t, PySem.W.mg_of X G g1, e1_m, ⟨e1_1, e1_2, e1_o3, e1_4, e1_5, e6, e7, e1_8⟩, ⟨e1_1, e1_2, e1_o3, e1_4⟩⟩
  have KS1 : KitF K c1 (fun i => [c0, c1, c2, c3, c4, c5, c6, c7, c8, c9, c10, c11, c12, c13, c14, c15, c16, c17, c18, c19, c20, c21, c22, c23].getD i 0) 1 := by
    refine ⟨fun i hi => ?_, q1_w, q1_l, q1_r, q1_V, q1_L, q1_A⟩
    match i, hi with
    | 0, _ => exact q1_0
    | 1, _ => exact q1_1
    | 2, _ => exact q1_2
    | 3, _ => exact q1_3
    | 4, _ => exact q1_4
    | 5, _ => exact q1_5
    | 6, _ => exact q1_6
    | 7, _ => exact q1_7
    | 8, _ => exact q1_8
    | 9, _ => exact q1_9
    | 10, _ => exact q1_10
    | 11, _ => exact q1_11
    | 12, _ => exact q1_12
    | 13, _ => exact q1_13
    | 14, _ => exact q1_14
    | 15, _ => exact q1_15
    | 16, _ => exact q1_16
    | 17, _ => exact q1_17
    | 18, _ => exact q1_18
    | 19, _ => exact q1_19
    | 20, _ => exact q1_20
    | i + 21, hi => exact absurd hi (by omega)
  have FI3 := fun_mk (st := sEPeople) le3 de3 ke3
  have bI3 : Binds K _ ["self", "number"] [] := FI3.binds (ps := ["self", "number"]) fun _ _ _ _ _ _ us hl => match us, hl with | [_, _], _ => rfl
  have T3 : ErC K mg "NoPeople" "number" c3 fe3 c21 := ⟨⟨e3_o1, e3_o2, e3_o3, e3_o4, e3_o5⟩, e3_no, e3_i, e3_t, PySem.W.mg_of X G g3, e3_m, ⟨e3_1, e3_2, e3_o3, e3_4, e3_5, e6, e7, e3_8⟩, ⟨e3_1, e3_2, e3_o3, e3_4⟩⟩
  have KS3 : KitF K c3 (fun i => [c0, c1, c2, c3, c4, c5, c6, c7, c8, c9, c10, c11, c12, c13, c14, c15, c16, c17, c18, c19, c20, c21, c22, c23].getD i 0) 3 := by
    refine ⟨fun i hi => ?_, q3_w, q3_l, q3_r, q3_V, q3_L, q3_A⟩
    match i, hi with
    | 0, _ => exact q3_0
    | 1, _ => exact q3_1
    | 2, _ => exact q3_2
    | 3, _ => exact q3_3
    | 4, _ => exact q3_4
    | 5, _ => exact q3_5
    | 6, _ => exact q3_6
    | 7, _ => exact q3_7
    | 8, _ => exact q3_8
    | 9, _ => exact q3_9
    | 10, _ => exact q3_10
    | 11, _ => exact q3_11
    | 12, _ => exact q3_12
    | 13, _ => exact q3_13
    | 14, _ => exact q3_14
    | 15, _ => exact q3_15
    | 16, _ => exact q3_16
    | 17, _ => exact q3_17
    | 18, _ => exact q3_18
    | 19, _ => exact q3_19
    | 20, _ => exact q3_20
    | i + 21, hi => exact absurd hi (by omega)
  have FI6 := fun_mk (st := sEStory) le6 de6 ke6
  have bI6 : Binds K _ ["self", "number"] [] := FI6.binds (ps := ["self", "number"]) fun _ _ _ _ _ _ us hl => match us, hl with | [_, _], _ => rfl
  have T6 : ErC K mg "NoStory" "number" c6 fe6 c21 := ⟨⟨e6_o1, e6_o2, e6_o3, e6_o4, e6_o5⟩, e6_no, e6_i, e6_t, PySem.W.mg_of X G g6, e6_m, ⟨e6_1, e6_2, e6_o3, e6_4, e6_5, e6, e7, e6_8⟩, ⟨e6_1, e6_2, e6_o3, e6_4⟩⟩
  have KS6 : KitF K c6 (fun i => [c0, c1, c2, c3, c4, c5, c6, c7, c8, c9, c10, c11, c12, c13, c14, c15, c16, c17, c18, c19, c20, c21, c22, c23].getD i 0) 6 := by
    refine ⟨fun i hi => ?_, q6_w, q6_l, q6_r, q6_V, q6_L, q6_A⟩
    match i, hi with
    | 0, _ => exact q6_0
    | 1, _ => exact q6_1
    | 2, _ => exact q6_2
    | 3, _ => exact q6_3
    | 4, _ => exact q6_4
    | 5, _ => exact q6_5
    | 6, _ => exact q6_6
    | 7, _ => exact q6_7
    | 8, _ => exact q6_8
    | 9, _ => exact q6_9
    | 10, _ => exact q6_10
    | 11, _ => exact q6_11
    | 12, _ => exact q6_12
    | 13, _ => exact q6_13
    | 14, _ => exact q6_14
    | 15, _ => exact q6_15
    | 16, _ => exact q6_16
    | 17, _ => exact q6_17
    | 18, _ => exact q6_18
    | 19, _ => exact q6_19
    | 20, _ => exact q6_20
    | i + 21, hi => exact absurd hi (by omega)
  have TN : NmF K mg aW := ⟨⟨_, PySem.W.mg_of X G gL⟩, ⟨_, PySem.W.mg_of X G gN⟩, PySem.W.mg_of X G gW, fun H => .inr ⟨_, _, _, lW, rfl, rfl, Nat.le_of_ble_eq_true rfl, .cons ⟨_, rfl⟩ (.cons ⟨_, rfl⟩ (.cons ⟨_, rfl⟩ (.cons ⟨_, rfl⟩ (.cons ⟨_, rfl⟩ (.cons ⟨_, rfl⟩ (.cons ⟨_, rfl⟩ (.cons ⟨_, rfl⟩ (.cons ⟨_, rfl⟩ (.cons ⟨_, rfl⟩ (.cons ⟨_, rfl⟩ (.cons ⟨_, rfl⟩ (.cons ⟨_, rfl⟩ (.nil)))))))))))))⟩⟩
  have FDH : FunD K "__init__" "House.__init__" (defArgs sHI) (defBody sHI) (defScope sHI) [.non, .int 0, .int 0] [] fiH _ := ⟨⟨_, _, _, _, _, _, _, _, _, _, rfl, lH, dH, .inr ⟨by simp, _, _, [.none, .int 0 tdH1, .int 0 tdH2], _, rfl, dlH, rfl, .cons rfl (.cons ⟨_, rfl⟩ (.cons ⟨_, rfl⟩ (.nil)))⟩, .inl rfl⟩, kiH⟩
  obtain ⟨dsH, vH, bH⟩ := FDH.binds1 (ps := ["self", "people", "goods", "purse", "debts"]) 2 0 (by simp) rfl fun _ _ _ _ _ _ _ us its hu hi => match us, hu, its, hi with | [_, _], _, [_, _, _], _ => ⟨_, rfl, rfl⟩
  have MH : Mk K CH fiH := ⟨mkH, fi_H, fnH, kcH⟩
  have FDY : FunD K "__init__" "Story.__init__" (defArgs sSI) (defBody sSI) (defScope sSI) [.non] [] fiY _ := ⟨⟨_, _, _, _, _, _, _, _, _, _, rfl, lY, dY, .inr ⟨by simp, _, _, [.none], _, rfl, dlY, rfl, .cons rfl (.nil)⟩, .inl rfl⟩, kiY⟩
  obtain ⟨dsY, vY, bY⟩ := FDY.binds1 (ps := ["self", "deaths"]) 2 1 (by simp) rfl fun _ _ _ _ _ _ _ us its hu hi => match us, hu, its, hi with | [_, _], _, [_], _ => ⟨_, rfl, rfl⟩
  have MY : Mk K CY fiY := ⟨mkY, fi_Y, fnY, kcY⟩
  refine ⟨PySem.W.fnOf "law" "law" (defArgs sLaw) (defBody sLaw) (defScope sLaw) .none kV14 dc14 pm14 an14 cd14 ct14, fun s v => .of_eq rfl, fun base _ _ => ?_⟩
  have GN : FnOk l.prog w K mg base CX0 1 _ _ ["thing"] (spName K) := ok_name (k := 0) B TN D1
  have GDr : FnOk l.prog w K mg base CX0 2 _ _ ["_law_pool_here"] spDrawn := ok_drawn (k := 0) B D12 D9
  have GQ : FnOk l.prog w K mg base (L2.CX l.prog w) 3 _ _ ["amount", "shares"] (spParted0 c1) := ok_parted0 B T1 FI1 bI1 D3 D2
  have GDe : FnOk l.prog w K mg base CX0 2 _ _ ["thing", "ahead"] (spRow0 K) := ok_death0 (k := 0) B GN D6 D1
  have GPe : FnOk l.prog w K mg base CX0 2 _ _ ["thing", "ahead"] (spRow0 K) := ok_person0 (k := 0) B GN D4 D1
  have GCD : FnOk l.prog w K mg base (L2.CX l.prog w) 3 _ _ ["deaths"] (spChk K c6) := ok_chkD B (PySem.W.mg_of X G gMD) T6 FI6 bI6 GDe D7 D6
  have GCP : FnOk l.prog w K mg base (L2.CX l.prog w) 3 _ _ ["people"] (spChk K c3) := ok_chkP B (PySem.W.mg_of X G gMP) T3 FI3 bI3 GPe D5 D4
  have GY : FnOk l.prog w K mg base (L2.CX l.prog w) 4 _ _ ["self", "deaths"] (spSI K c6) := ok_SI FDY GCD D7
  have GH : FnOk l.prog w K mg base (L2.CX l.prog w) 4 _ _ ["self", "people", "goods", "purse", "debts"] (spHI K c3) := ok_HI FDH GCP D5
  have GR : FnOk l.prog w K mg base CX0 6 _ _ ["_law_which", "_law_odd"] (spRefused K) := ok_refused B T1 T3 T6 TC (PySem.W.mg_of X G g21) KS1 KS3 KS6 D13 D10 D3 GQ MH (PySem.W.mg_of X G gH) GH bH vH MY (PySem.W.mg_of X G gY) GY bY vY
  exact ok_law B D14 D8 D1 D11 D12 D13 GN GDr GR
end WdQ

set_option Elab.async false
open PySem PySem.W PyProof.Rows
set_option maxRecDepth 100000 in
set_option maxHeartbeats 0 in
theorem PySem.Challenge.cw_willdealt_k01_names_of_any_kind_holds : PySem.Challenge.rw_willdealt_k01_names_of_any_kind.Holds := by
  w_on; o_law; k_head; (case hw => w_witness2)
  k_fill
  refine L2.walk_of (l := PySem.Challenge.rw_willdealt_k01_names_of_any_kind) (n := 63) (k := 7) (x := "_law_script") (CX := fun _ => L2.CX0) (sp := fun w => WdQ.spLaw _) rfl (by decide) rfl ⟨rfl, by decide, by decide⟩ (fun w h Y => PySem.W.km_in_of Y) ?F (fun _ _ a ns hl _ hS => ⟨a, ns, rfl, hS, hl, fun _ => rfl⟩) (fun _ _ _ _ _ h => h)
  case F =>
    intro w mg fa h KX G hmg
    refine' WdQ.all_mk KX G hmg ?Wd_a1 ?Wd_l1 ?Wd_d1 ?Wd_k1 ?Wd_a2 ?Wd_l2 ?Wd_d2 ?Wd_k2 ?Wd_a3 ?Wd_l3 ?Wd_d3 ?Wd_k3 ?Wd_a4 ?Wd_l4 ?Wd_d4 ?Wd_k4 ?Wd_a5 ?Wd_l5 ?Wd_d5 ?Wd_k5 ?Wd_a6 ?Wd_l6 ?Wd_d6 ?Wd_k6 ?Wd_a7 ?Wd_l7 ?Wd_d7 ?Wd_k7 ?Wd_a8 ?Wd_l8 ?Wd_d8 ?Wd_k8 ?Wd_a9 ?Wd_l9 ?Wd_d9 ?Wd_k9 ?Wd_a10 ?Wd_l10 ?Wd_d10 ?Wd_k10 ?Wd_a11 ?Wd_l11 ?Wd_d11 ?Wd_k11 ?Wd_a12 ?Wd_l12 ?Wd_d12 ?Wd_k12 ?Wd_a13 ?Wd_l13 ?Wd_d13 ?Wd_k13 ?Wd_a14 ?Wd_l14 ?Wd_d14 ?Wd_k14 ?Wd_z_isinstance ?Wd_z_int ?Wd_z_bool ?Wd_z_str ?Wd_z_tuple ?Wd_z_list ?Wd_z_len ?Wd_z_abs ?Wd_z_all ?Wd_z_any ?Wd_z_sum ?Wd_z_enumerate ?Wd_z_divmod ?Wd_z_range ?Wd_z_max ?Wd_z_min ?Wd_z_zip ?Wd_z_repr ?Wd_z_ValueError ?Wd_z_LookupError ?Wd_z_ArithmeticError ?Wd_e6 ?Wd_e7 ?Wd_g0 ?Wd_g1 ?Wd_g2 ?Wd_g3 ?Wd_g4 ?Wd_g5 ?Wd_g6 ?Wd_g7 ?Wd_g8 ?Wd_g9 ?Wd_g10 ?Wd_g11 ?Wd_g12 ?Wd_g13 ?Wd_g14 ?Wd_g15 ?Wd_g16 ?Wd_g17 ?Wd_g18 ?Wd_g19 ?Wd_g20 ?Wd_g21 ?Wd_g22 ?Wd_g23 ?Wd_gMD ?Wd_gMP ?Wd_e1_i ?Wd_le1 ?Wd_de1 ?Wd_ke1 ?Wd_e1_t ?Wd_e1_o1 ?Wd_e1_o2 ?Wd_e1_o3 ?Wd_e1_o4 ?Wd_e1_o5 ?Wd_e1_no ?Wd_e1_m ?Wd_e1_1 ?Wd_e1_2 ?Wd_e1_4 ?Wd_e1_5 ?Wd_e1_8 ?Wd_q1_0 ?Wd_q1_1 ?Wd_q1_2 ?Wd_q1_3 ?Wd_q1_4 ?Wd_q1_5 ?Wd_q1_6 ?Wd_q1_7 ?Wd_q1_8 ?Wd_q1_9 ?Wd_q1_10 ?Wd_q1_11 ?Wd_q1_12 ?Wd_q1_13 ?Wd_q1_14 ?Wd_q1_15 ?Wd_q1_16 ?Wd_q1_17 ?Wd_q1_18 ?Wd_q1_19 ?Wd_q1_20 ?Wd_q1_w ?Wd_q1_l ?Wd_q1_r ?Wd_q1_V ?Wd_q1_L ?Wd_q1_A ?Wd_e3_i ?Wd_le3 ?Wd_de3 ?Wd_ke3 ?Wd_e3_t ?Wd_e3_o1 ?Wd_e3_o2 ?Wd_e3_o3 ?Wd_e3_o4 ?Wd_e3_o5 ?Wd_e3_no ?Wd_e3_m ?Wd_e3_1 ?Wd_e3_2 ?Wd_e3_4 ?Wd_e3_5 ?Wd_e3_8 ?Wd_q3_0 ?Wd_q3_1 ?Wd_q3_2 ?Wd_q3_3 ?Wd_q3_4 ?Wd_q3_5 ?Wd_q3_6 ?Wd_q3_7 ?Wd_q3_8 ?Wd_q3_9 ?Wd_q3_10 ?Wd_q3_11 ?Wd_q3_12 ?Wd_q3_13 ?Wd_q3_14 ?Wd_q3_15 ?Wd_q3_16 ?Wd_q3_17 ?Wd_q3_18 ?Wd_q3_19 ?Wd_q3_20 ?Wd_q3_w ?Wd_q3_l ?Wd_q3_r ?Wd_q3_V ?Wd_q3_L ?Wd_q3_A ?Wd_e6_i ?Wd_le6 ?Wd_de6 ?Wd_ke6 ?Wd_e6_t ?Wd_e6_o1 ?Wd_e6_o2 ?Wd_e6_o3 ?Wd_e6_o4 ?Wd_e6_o5 ?Wd_e6_no ?Wd_e6_m ?Wd_e6_1 ?Wd_e6_2 ?Wd_e6_4 ?Wd_e6_5 ?Wd_e6_8 ?Wd_q6_0 ?Wd_q6_1 ?Wd_q6_2 ?Wd_q6_3 ?Wd_q6_4 ?Wd_q6_5 ?Wd_q6_6 ?Wd_q6_7 ?Wd_q6_8 ?Wd_q6_9 ?Wd_q6_10 ?Wd_q6_11 ?Wd_q6_12 ?Wd_q6_13 ?Wd_q6_14 ?Wd_q6_15 ?Wd_q6_16 ?Wd_q6_17 ?Wd_q6_18 ?Wd_q6_19 ?Wd_q6_20 ?Wd_q6_w ?Wd_q6_l ?Wd_q6_r ?Wd_q6_V ?Wd_q6_L ?Wd_q6_A ?Wd_gL ?Wd_gN ?Wd_gW ?Wd_lW ?Wd_gH ?Wd_mkH ?Wd_fi_H ?Wd_fnH ?Wd_kcH ?Wd_lH ?Wd_dH ?Wd_kiH ?Wd_dlH ?Wd_gY ?Wd_mkY ?Wd_fi_Y ?Wd_fnY ?Wd_kcY ?Wd_lY ?Wd_dY ?Wd_kiY ?Wd_dlY
    (case Wd_a1 => k_is); (case Wd_l1 => k_is); (case Wd_d1 => k_is); (case Wd_k1 => k_is); (case Wd_a2 => k_is); (case Wd_l2 => k_is)
    (case Wd_d2 => k_is); (case Wd_k2 => k_is); (case Wd_a3 => k_is); (case Wd_l3 => k_is); (case Wd_d3 => k_is); (case Wd_k3 => k_is)
    (case Wd_a4 => k_is); (case Wd_l4 => k_is); (case Wd_d4 => k_is); (case Wd_k4 => k_is); (case Wd_a5 => k_is); (case Wd_l5 => k_is)
    (case Wd_d5 => k_is); (case Wd_k5 => k_is); (case Wd_a6 => k_is); (case Wd_l6 => k_is); (case Wd_d6 => k_is); (case Wd_k6 => k_is)
    (case Wd_a7 => k_is); (case Wd_l7 => k_is); (case Wd_d7 => k_is); (case Wd_k7 => k_is); (case Wd_a8 => k_is); (case Wd_l8 => k_is)
    (case Wd_d8 => k_is); (case Wd_k8 => k_is); (case Wd_a9 => k_is); (case Wd_l9 => k_is); (case Wd_d9 => k_is); (case Wd_k9 => k_is)
    (case Wd_a10 => k_is); (case Wd_l10 => k_is); (case Wd_d10 => k_is); (case Wd_k10 => k_is); (case Wd_a11 => k_is); (case Wd_l11 => k_is)
    (case Wd_d11 => k_is); (case Wd_k11 => k_is); (case Wd_a12 => k_is); (case Wd_l12 => k_is); (case Wd_d12 => k_is); (case Wd_k12 => k_is)
    (case Wd_a13 => k_is); (case Wd_l13 => k_is); (case Wd_d13 => k_is); (case Wd_k13 => k_is); (case Wd_a14 => k_is); (case Wd_l14 => k_is)
    (case Wd_d14 => k_is); (case Wd_k14 => k_is); (case Wd_z_isinstance => k_is); (case Wd_z_int => k_is); (case Wd_z_bool => k_is); (case Wd_z_str => k_is)
    (case Wd_z_tuple => k_is); (case Wd_z_list => k_is); (case Wd_z_len => k_is); (case Wd_z_abs => k_is); (case Wd_z_all => k_is); (case Wd_z_any => k_is)
    (case Wd_z_sum => k_is); (case Wd_z_enumerate => k_is); (case Wd_z_divmod => k_is); (case Wd_z_range => k_is); (case Wd_z_max => k_is); (case Wd_z_min => k_is)
    (case Wd_z_zip => k_is); (case Wd_z_repr => k_is); (case Wd_z_ValueError => k_is); (case Wd_z_LookupError => k_is); (case Wd_z_ArithmeticError => k_is); (case Wd_e6 => k_is)
    (case Wd_e7 => k_is); (case Wd_g0 => k_is); (case Wd_g1 => k_is); (case Wd_g2 => k_is); (case Wd_g3 => k_is); (case Wd_g4 => k_is)
    (case Wd_g5 => k_is); (case Wd_g6 => k_is); (case Wd_g7 => k_is); (case Wd_g8 => k_is); (case Wd_g9 => k_is); (case Wd_g10 => k_is)
    (case Wd_g11 => k_is); (case Wd_g12 => k_is); (case Wd_g13 => k_is); (case Wd_g14 => k_is); (case Wd_g15 => k_is); (case Wd_g16 => k_is)
    (case Wd_g17 => k_is); (case Wd_g18 => k_is); (case Wd_g19 => k_is); (case Wd_g20 => k_is); (case Wd_g21 => k_is); (case Wd_g22 => k_is)
    (case Wd_g23 => k_is); (case Wd_gMD => k_is); (case Wd_gMP => k_is); (case Wd_e1_i => k_is); (case Wd_le1 => k_is); (case Wd_de1 => k_is)
    (case Wd_ke1 => k_is); (case Wd_e1_t => k_is); (case Wd_e1_o1 => exact ⟨_, _, _, _, _, _, _, _, _, _, _, _, _, _, _, by k_is, by decide +kernel⟩); (case Wd_e1_o2 => k_is); (case Wd_e1_o3 => k_is); (case Wd_e1_o4 => k_is)
    (case Wd_e1_o5 => k_is); (case Wd_e1_no => k_is); (case Wd_e1_m => kts_exm); (case Wd_e1_1 => k_is); (case Wd_e1_2 => k_is); (case Wd_e1_4 => k_is)
    (case Wd_e1_5 => k_is); (case Wd_e1_8 => k_is); (case Wd_q1_0 => kit_is); (case Wd_q1_1 => kit_is); (case Wd_q1_2 => kit_is); (case Wd_q1_3 => kit_is)
    (case Wd_q1_4 => kit_is); (case Wd_q1_5 => kit_is); (case Wd_q1_6 => kit_is); (case Wd_q1_7 => kit_is); (case Wd_q1_8 => kit_is); (case Wd_q1_9 => kit_is)
    (case Wd_q1_10 => kit_is); (case Wd_q1_11 => kit_is); (case Wd_q1_12 => kit_is); (case Wd_q1_13 => kit_is); (case Wd_q1_14 => kit_is); (case Wd_q1_15 => kit_is)
    (case Wd_q1_16 => kit_is); (case Wd_q1_17 => kit_is); (case Wd_q1_18 => kit_is); (case Wd_q1_19 => kit_is); (case Wd_q1_20 => kit_is); (case Wd_q1_w => kit_is)
    (case Wd_q1_l => kit_is); (case Wd_q1_r => kit_is); (case Wd_q1_V => kit_is); (case Wd_q1_L => kit_is); (case Wd_q1_A => kit_is); (case Wd_e3_i => k_is)
    (case Wd_le3 => k_is); (case Wd_de3 => k_is); (case Wd_ke3 => k_is); (case Wd_e3_t => k_is); (case Wd_e3_o1 => exact ⟨_, _, _, _, _, _, _, _, _, _, _, _, _, _, _, by k_is, by decide +kernel⟩); (case Wd_e3_o2 => k_is)
    (case Wd_e3_o3 => k_is); (case Wd_e3_o4 => k_is); (case Wd_e3_o5 => k_is); (case Wd_e3_no => k_is); (case Wd_e3_m => kts_exm); (case Wd_e3_1 => k_is)
    (case Wd_e3_2 => k_is); (case Wd_e3_4 => k_is); (case Wd_e3_5 => k_is); (case Wd_e3_8 => k_is); (case Wd_q3_0 => kit_is); (case Wd_q3_1 => kit_is)
    (case Wd_q3_2 => kit_is); (case Wd_q3_3 => kit_is); (case Wd_q3_4 => kit_is); (case Wd_q3_5 => kit_is); (case Wd_q3_6 => kit_is); (case Wd_q3_7 => kit_is)
    (case Wd_q3_8 => kit_is); (case Wd_q3_9 => kit_is); (case Wd_q3_10 => kit_is); (case Wd_q3_11 => kit_is); (case Wd_q3_12 => kit_is); (case Wd_q3_13 => kit_is)
    (case Wd_q3_14 => kit_is); (case Wd_q3_15 => kit_is); (case Wd_q3_16 => kit_is); (case Wd_q3_17 => kit_is); (case Wd_q3_18 => kit_is); (case Wd_q3_19 => kit_is)
    (case Wd_q3_20 => kit_is); (case Wd_q3_w => kit_is); (case Wd_q3_l => kit_is); (case Wd_q3_r => kit_is); (case Wd_q3_V => kit_is); (case Wd_q3_L => kit_is)
    (case Wd_q3_A => kit_is); (case Wd_e6_i => k_is); (case Wd_le6 => k_is); (case Wd_de6 => k_is); (case Wd_ke6 => k_is); (case Wd_e6_t => k_is)
    (case Wd_e6_o1 => exact ⟨_, _, _, _, _, _, _, _, _, _, _, _, _, _, _, by k_is, by decide +kernel⟩); (case Wd_e6_o2 => k_is); (case Wd_e6_o3 => k_is); (case Wd_e6_o4 => k_is); (case Wd_e6_o5 => k_is); (case Wd_e6_no => k_is)
    (case Wd_e6_m => kts_exm); (case Wd_e6_1 => k_is); (case Wd_e6_2 => k_is); (case Wd_e6_4 => k_is); (case Wd_e6_5 => k_is); (case Wd_e6_8 => k_is)
    (case Wd_q6_0 => kit_is); (case Wd_q6_1 => kit_is); (case Wd_q6_2 => kit_is); (case Wd_q6_3 => kit_is); (case Wd_q6_4 => kit_is); (case Wd_q6_5 => kit_is)
    (case Wd_q6_6 => kit_is); (case Wd_q6_7 => kit_is); (case Wd_q6_8 => kit_is); (case Wd_q6_9 => kit_is); (case Wd_q6_10 => kit_is); (case Wd_q6_11 => kit_is)
    (case Wd_q6_12 => kit_is); (case Wd_q6_13 => kit_is); (case Wd_q6_14 => kit_is); (case Wd_q6_15 => kit_is); (case Wd_q6_16 => kit_is); (case Wd_q6_17 => kit_is)
    (case Wd_q6_18 => kit_is); (case Wd_q6_19 => kit_is); (case Wd_q6_20 => kit_is); (case Wd_q6_w => kit_is); (case Wd_q6_l => kit_is); (case Wd_q6_r => kit_is)
    (case Wd_q6_V => kit_is); (case Wd_q6_L => kit_is); (case Wd_q6_A => kit_is); (case Wd_gL => k_is); (case Wd_gN => k_is); (case Wd_gW => k_is)
    (case Wd_lW => k_is); (case Wd_gH => k_is); (case Wd_mkH => k_is); (case Wd_fi_H => k_is); (case Wd_fnH => k_is); (case Wd_kcH => k_is)
    (case Wd_lH => k_is); (case Wd_dH => k_is); (case Wd_kiH => k_is); (case Wd_dlH => k_is); (case Wd_gY => k_is); (case Wd_mkY => k_is)
    (case Wd_fi_Y => k_is); (case Wd_fnY => k_is); (case Wd_kcY => k_is); (case Wd_lY => k_is); (case Wd_dY => k_is); (case Wd_kiY => k_is)
    (case Wd_dlY => k_is)


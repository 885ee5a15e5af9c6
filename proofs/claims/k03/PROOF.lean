import PyProof.Rows.All
import Wide.All
import OpenK.AllK
import Wide.FinOn
import KE.GoesMore
import KE.GoesEnum
import KE.KTupSum
import KE.KRevSl
import HandS.ForMost
import HandS.Walk
import HandS.IsInst
import HandS.Wide
import HandS.WideBits
import HandS.Defaults
import HandS.TupAny
import PySem.Challenge.RW_willdealt_k03_whole_pennies_hang_togethe
set_option Elab.async false
set_option linter.all false
set_option maxRecDepth 100000
set_option maxHeartbeats 4000000
namespace Wd
open PySem PySem.Spec PyProof.Rows L2
/-! ### zip of a list or tuple with a list or tuple: one rule for the four mixes. A feed is what zip draws from. -/
inductive Feed where
  | li
  | tu
namespace Feed
def sq : Feed → PySem.W.Frag → Hp → Addr → List V → Prop
  | .li => SqL
  | .tu => SqT
def stands : Feed → Heap → Addr → Array Value → Prop
  | .li => Heap.IsList
  | .tu => Heap.IsTuple
def at_ : Feed → Heap → Addr → Addr → Nat → Prop
  | .li => Heap.IsListIter
  | .tu => Heap.IsTupleIter
def head : Feed → Addr → Obj
  | .li, a => { cls := .type "list_iterator", data := .fields #[.ref a, .int 0 0] }
  | .tu, a => { cls := .type "tuple_iterator", data := .fields #[.ref a, .int 0 0] }
variable (k : Feed)
theorem begins (a : Addr) (its : Array Value) : Begins (.ref a) (k.head a) fun h => k.stands h a its := by
  cases k
  · exact begins_list a its
  · exact begins_tuple a its
theorem draws {prog : Program} {w : World} {A : Around} (hA : A.handled = none) {it a : Addr} (ne : a ≠ it) (its : Array Value) : Draws prog w A it [it, a] its.size (fun i v => its[i]? = some v) (fun i h => k.at_ h it a i ∧ k.stands h a its) := by
  cases k
  · exact Draws.list hA it a ne its
  · exact Draws.tuple hA it a ne its
theorem first {h : Heap} {it a : Addr} (e : h.get? it = some (k.head a)) : k.at_ h it a 0 := by
  cases k <;> exact ⟨_, e, rfl, rfl⟩
theorem lives {h : Heap} {it a : Addr} {i : Nat} (e : k.at_ h it a i) : ∃ o, h.get? it = some o ∧ ∀ v, o.data ≠ .cell v := by
  cases k
  all_goals
    obtain ⟨o, e1, _, e2⟩ := e
    exact ⟨o, e1, fun v z => by rw [e2] at z; cases z⟩
theorem moved {h h' : Heap} {it a : Addr} {i : Nat} (e : k.at_ h it a i) (m : ∀ o, h.get? it = some o → h'.get? it = some o) : k.at_ h' it a i := by
  cases k
  · exact Heap.IsListIter.at e m
  · exact Heap.IsTupleIter.at e m
theorem known {X : Cx} {pins : List (Addr × Obj)} {σ : L2.St} {H : Hp} {s : Shared} {a : Addr} {xs : List V} (I : Inv X pins σ H s) (e : k.sq X.K H a xs) : ∃ its : List Value, Vals xs its ∧ k.stands s.heap a its.toArray ∧ a < s.heap.objs.size := by
  cases k
  · obtain ⟨its, v, p, _⟩ := I.list e
    exact ⟨its, v, p.isList, p.lt⟩
  · obtain ⟨its, v, p, _⟩ := I.tuple e
    obtain ⟨o, e1, _⟩ := id p
    exact ⟨its, v, p, Heap.lt_size e1⟩
theorem one {X : Cx} {pins : List (Addr × Obj)} {σ : L2.St} {H : Hp} {s : Shared} {a : Addr} {xs ys : List V} (I : Inv X pins σ H s) (e : k.sq X.K H a xs) (e' : k.sq X.K H a ys) : xs = ys := by
  cases k
  · exact I.list_inj e e'
  · exact I.tuple_inj e e'
end Feed
/-- the walk over zip of two feeds of one length -/
def ItZ (K : PySem.W.Frag) (k m : Feed) (a b : Addr) : It where
  go i H := ∃ xs ys x y, k.sq K H a xs ∧ m.sq K H b ys ∧ xs[i]? = some x ∧ ys[i]? = some y
  yld i H v H' := ∃ T x y, v = .ref T ∧ H T = none ∧ H' = upd H T (.tup [x, y]) ∧ (∀ xs, k.sq K H a xs → xs[i]? = some x) ∧ ∀ ys, m.sq K H b ys → ys[i]? = some y
  stop i H := ∃ xs ys, k.sq K H a xs ∧ m.sq K H b ys ∧ xs.length = i ∧ ys.length = i
theorem walkZ {K : PySem.W.Frag} {k m : Feed} {a b : Addr} {xs ys : List V} (hl : xs.length = ys.length) : Walk (ItZ K k m a b) xs.length (fun H => k.sq K H a xs ∧ m.sq K H b ys) (YPair (fun i => xs[i]?) fun i => ys[i]?) where
  goes := fun i H hi g => ⟨xs, ys, xs[i], ys[i]'(hl ▸ hi), g.1, g.2, List.getElem?_eq_getElem hi, List.getElem?_eq_getElem (hl ▸ hi)⟩
  stops := fun H g => ⟨xs, ys, g.1, g.2, rfl, hl.symm⟩
  yields := fun i H v H' _ g ⟨T, x, y, e1, e2, e3, e4, e5⟩ => ⟨T, x, y, e1, e2, e3, e4 xs g.1, e5 ys g.2⟩
/-- what holds of each of five cells holds of any of them -/
theorem of_five {z p q i j c : Addr} {R : Addr → Prop} (hc : c ∈ [z, p, q, i, j]) (hz : R z) (hp : R p) (hq : R q) (hi : R i) (hj : R j) : R c := by
  simp only [List.mem_cons, List.not_mem_nil, or_false] at hc
  rcases hc with e | e | e | e | e <;> (rw [e]; assumption)
theorem turnZ {P : Program} {w : World} {K : PySem.W.Frag} {elts : List Expr} {kk : Nat} {tpos : Pos} {k m : Feed} {a b z p q i1 i2 : Addr} (S : ZipSep2 z p q i1 i2 [i1, a] [i2, b]) (na : a ≠ i1) (nb : b ≠ i2) :
    Turn P w K (.Tuple elts kk tpos) (ItZ K k m a b) [z, p, q, i1, i2] z fun i h => IsZip h z p q .none ∧ IsTupOf2 h p (.ref i1) (.ref i2) ∧ (∃ x y, IsTupOf2 h q x y) ∧ k.at_ h i1 a i ∧ m.at_ h i2 b i where
  mem := List.mem_cons_self
  obj := by
    rintro i h ⟨gz, gp, ⟨x, y, gq⟩, g1, g2⟩ c hc
    exact of_five (R := fun c => ∃ o, h.get? c = some o ∧ ∀ v, o.data ≠ .cell v) hc ⟨_, gz, fun _ e => nomatch e⟩ ⟨_, gp, fun _ e => nomatch e⟩ ⟨_, gq, fun _ e => nomatch e⟩ (k.lives g1) (m.lives g2)
  keep := by
    rintro i h h' ⟨gz, gp, ⟨x, y, gq⟩, g1, g2⟩ same
    exact ⟨same _ (by simp) _ gz, same _ (by simp) _ gp, ⟨x, y, same _ (by simp) _ gq⟩, k.moved g1 (same _ (by simp)), m.moved g2 (same _ (by simp))⟩
  item := by
    rintro X rfl rfl rfl calm i pins s σ H E I free ⟨gz, gp, ⟨x0, y0, gq⟩, g1, g2⟩ ⟨xs, ys, x, y, hxs, hys, hx, hy⟩
    obtain ⟨us, rel1, st1, _⟩ := k.known I hxs
    obtain ⟨vs, rel2, st2, _⟩ := m.known I hys
    obtain ⟨u, hu, ru⟩ := rel1.get hx
    obtain ⟨v, hv, rv⟩ := rel2.get hy
    have hA : X.A.in1.handled = none := I.ok.hd calm
    have zlt := Heap.lt_size gz
    have n1 : i < us.toArray.size := by
      rw [List.size_toArray]
      exact (List.getElem?_eq_some_iff.mp hu).1
    have n2 : i < vs.toArray.size := by
      rw [List.size_toArray]
      exact (List.getElem?_eq_some_iff.mp hv).1
    refine wpAny_pyNext_zipD2_item S (k.draws hA na _) (m.draws hA nb _) gz gp gq ⟨g1, st1⟩ ⟨g2, st2⟩ n1 n2 ?_
    rintro u' v' h1 t1 eu ev gz1 gq1 ⟨d1, _⟩ ⟨d2, _⟩ gT _ same
    obtain rfl : u = u' := Option.some.inj (hu.symm.trans (by simpa using eu))
    obtain rfl : v = v' := Option.some.inj (hv.symm.trans (by simpa using ev))
    refine ⟨_, rfl, wpAny_letOwnedTupleGo_zip (s := { s with heap := h1, toks := t1 }) gz1 fun h2 gz2 sb => ?_⟩
    have all : ∀ c o, c ∉ [z, p, q, i1, i2] → s.heap.get? c = some o → h2.get? c = some o := fun c o hc e => by
      simp only [List.mem_cons, List.not_mem_nil, or_false, not_or] at hc
      rw [sb.2 c hc.1]
      exact same c o hc.1 hc.2.2.1 hc.2.2.2.1 hc.2.2.2.2 e
    have pair : h2.get? s.heap.objs.size = some { cls := .type "tuple", data := .seq #[u, v] } := (sb.2 _ (Nat.ne_of_gt zlt)).trans gT
    have made : ObjOk X.prog X.w (upd H s.heap.objs.size (.tup [x, y])) h2 s.heap.objs.size (.tup [x, y]) := ⟨by show 2 ≤ sizeLine; decide, [u, v], .cons ru (.cons rv .nil), _, pair, rfl, _, rfl⟩
    refine ⟨.ref s.heap.objs.size, _, I.turnedNew (t' := t1) all free (Nat.le_refl _) made, rfl, ?_, ?_, ?_⟩
    · exact ⟨_, x, y, rfl, I.hok.fresh (Nat.le_refl _), rfl, fun l e => k.one I e hxs ▸ hx, fun l e => m.one I e hys ▸ hy⟩
    · exact ⟨gz2, (sb.2 _ S.TIz).trans (same _ _ S.TIz S.TITO S.TIi1 S.TIi2 gp), ⟨u, v, (sb.2 _ S.TOz).trans gq1⟩, k.moved d1 fun o e => (sb.2 _ S.zi1.symm).trans e, m.moved d2 fun o e => (sb.2 _ S.zi2.symm).trans e⟩
    · intro c hc
      have old : c < s.heap.objs.size := by
        obtain ⟨o1, e1, _⟩ := k.lives g1
        obtain ⟨o2, e2, _⟩ := m.lives g2
        exact of_five (R := fun c => c < s.heap.objs.size) hc zlt (Heap.lt_size gp) (Heap.lt_size gq) (Heap.lt_size e1) (Heap.lt_size e2)
      rw [upd_ne (Nat.ne_of_lt old)]
      exact (free c hc).1
  done := by
    rintro X rfl rfl rfl calm i pins s σ H E I free ⟨gz, gp, ⟨x0, y0, gq⟩, g1, g2⟩ ⟨xs, ys, hxs, hys, n1, n2⟩
    obtain ⟨us, rel1, st1, _⟩ := k.known I hxs
    obtain ⟨vs, rel2, st2, _⟩ := m.known I hys
    have hA : X.A.in1.handled = none := I.ok.hd calm
    have z1 : us.toArray.size = i := by rw [List.size_toArray, ← rel1.length, n1]
    have z2 : vs.toArray.size = i := by rw [List.size_toArray, ← rel2.length, n2]
    refine wpAny_pyNext_zipD2_end S (k.draws hA na _) (m.draws hA nb _) gz gp gq ⟨g1, st1⟩ ⟨g2, st2⟩ (by omega) (by omega) (by omega) fun h1 t1 same => ⟨rfl, I.turnedL (t' := t1) (fun c o hc e => ?_) free⟩
    simp only [List.mem_cons, List.not_mem_nil, or_false, not_or] at hc
    exact same c o hc.1 hc.2.2.1 hc.2.2.2.1 hc.2.2.2.2 e
  self := fun _ _ _ _ _ g e => wpAny_pyIter_zip g.1 e
def iZ (K : PySem.W.Frag) (k m : Feed) (ta : TA) : TI := fun σ H R => ta σ H fun vs H1 => ∃ a b xs ys, vs = [.ref a, .ref b] ∧ k.sq K H1 a xs ∧ m.sq K H1 b ys ∧ R (ItZ K k m a b) H1
theorem pi_Z {X : Cx} {e e2 : Expr} {ta : TA} {pz pos tpos : Pos} {elts : List Expr} {kk : Nat} (k m : Feed) (hg : Gl X "zip") (hm : X.mg "zip" = none) (ha : PA X [e, e2] ta)
    (star : starEach [e, e2] X.env = (false, eval e X.env) :: starEach [e2] X.env := by rfl) (plain : (backTo pos (starEach [e2] X.env)).any (·.1) = false := by rfl) :
    PI X (.Tuple elts kk tpos) (.Call (.Name "zip" pz) [e, e2] [] pos) (iZ X.K k m ta) where
  run := by
    intro pins s σ H R I h
    refine Call_ (ld_blt I hg hm PyProof.Rows.boot_zip (PyProof.Rows.callWith_type1 (thn (ha.run pos pins s σ H _ I h) ?_) star plain))
    rintro us s1 ⟨vs, H1, I1, rel, a, b, xs, ys, rfl, hxs, hys, r⟩
    obtain ⟨ua, ub, rfl, ra, rb⟩ := vals2 rel
    cases ra
    cases rb
    obtain ⟨its1, _, st1, la⟩ := k.known I1 hxs
    obtain ⟨its2, _, st2, lb⟩ := m.known I1 hys
    have S : ZipSep2 (s1.heap.objs.size + 4) (s1.heap.objs.size + 2) (s1.heap.objs.size + 3) s1.heap.objs.size (s1.heap.objs.size + 1) [s1.heap.objs.size, a] [s1.heap.objs.size + 1, b] :=
      zip_sep2 (fun c hc => by rw [List.mem_singleton.mp hc]; exact la) (fun c hc => by rw [List.mem_singleton.mp hc]; exact lb)
    have far : ∀ c, s1.heap.objs.size ≤ c → FpOk X pins H1 c := fun c hc => I1.fpOk hc (I1.hok.fresh hc)
    refine zip_begins2 (k.begins a _) (m.begins b _) st1 st2 fun h1 gz gp gq f1 f2 _ same => wpAny_pyIter_zip gz ?_
    refine ⟨_, _, _, _, H1, rfl, I1.kept (t' := s1.toks) same, turnZ S (Nat.ne_of_lt la) (Nat.ne_of_lt (Nat.lt_succ_of_lt lb)), ⟨gz, gp, ⟨_, _, gq⟩, k.first f1, m.first f2⟩, fun c hc => ?_, r⟩
    exact of_five hc (far _ (Nat.le_add_right _ _)) (far _ (Nat.le_add_right _ _)) (far _ (Nat.le_add_right _ _)) (far _ (Nat.le_refl _)) (far _ (Nat.le_add_right _ _))
/-! ### sum of a tuple of ints -/
def rSumT (K : PySem.W.Frag) : List V → Hp → VK → Prop := fun vs H Q => ∃ (t : Addr) (ns : List Int), vs = [V.ref t] ∧ SqT K H t (ns.map V.int) ∧ Q (.int ns.sum) H
theorem cr_sumT {X : Cx} (calm : X.calm = true) : CallR X (.builtin "sum") (rSumT X.K) := by
  rintro pins s σ H vs us Q I rel ⟨t, ns, rfl, hs, want⟩
  obtain ⟨its, vals, tup, _⟩ := I.tuple hs
  rw [Vals.ref1 rel]
  have aI : IntsAre its ns := vals.ints
  obtain ⟨zs, ez⟩ := aI.allInts.items
  have sum_is : preSum (numAt zs) zs.size = ns.sum := by
    rw [preSum_eq, List.take_of_length_le (by simp), ← nums_intItems, ← ez]
    exact congrArg List.sum aI.numsOf
  have tup2 : s.heap.IsTuple t (intItems zs) := ez ▸ tup
  refine PySem.W.ktm_sumG (I.ok.hd calm) tup2 fun h1 k1 t1 same => ?_
  rw [sum_is]
  exact ⟨.int _, H, I.kept same, ⟨_, rfl⟩, want⟩
/-! ### xs[i] read by values, for xs[i] += e -/
def rGetL (K : PySem.W.Frag) : V → V → Hp → VK → Prop := fun x y H Q => ∃ p xs i v, x = .ref p ∧ y = .int i ∧ 0 ≤ i ∧ SqL K H p xs ∧ atI xs i = some v ∧ Q v H
theorem get_list {X : Cx} : PGet X (rGetL X.K) := by
  rintro pins s σ H _ _ ov iv Q I ro ri ⟨p, xs, i, v, rfl, rfl, i0, hxs, hat, want⟩
  cases ro
  obtain ⟨t, rfl⟩ := ri
  obtain ⟨its, vals, plain, small⟩ := I.list hxs
  obtain ⟨j, sj, gj, _, _, hi⟩ := atI_get hat
  obtain ⟨u, gu, ru⟩ := vals.get gj
  have ej : i.toNat = j := Option.some.inj ((seqIndex_of i0 hi).symm.trans sj)
  have line := line63
  exact wpAny_getItem_list plain.isList i0 (by omega) (by rw [ej]; simpa using gu) ⟨v, H, I, ru, want⟩
/-! ### f(k = v, ..), keywords alone -/
def tCallN0 (m : Nat) (sp : Sp) (gV : List V → List V → List V) (E : XK) (tk : TA) : TE := fun σ H Q => tk σ H fun zs H2 => zs.length = m ∧ sp (gV [] zs) H2 Q E
theorem pe_callN0 {X : Cx} {CX : CXT} {k : Nat} {f : Addr} {fd : FuncData} {ps ks : List Str} {sp : Sp} {E : XK} {x : Str} {p pos : Pos} {kws : List Keyword} {tk : TA} {g : List Value → List Value → List Value} {gV : List V → List V → List V}
    (F : FnOk X.prog X.w X.K X.mg X.base CX k f fd ps sp) (room : Room k X.A) (glob : Gl X x) (is : X.mg x = some (.ref f)) (kp : PySem.W.keepIn X.K (.ref f) = true) (bind : KBn X.K fd ps 0 ks g gV) (pass : Passes CX X E) (args : PK X kws tk)
    (named : (backToKw pos (keywordEach kws X.env)).all (·.1.isSome) = true := by rfl) (names : (backToKw pos (keywordEach kws X.env)).filterMap (·.1) = ks := by rfl)
    (nodebug : (x == ("__debug__" : Str)) = false := by decide) (plain : ((backTo pos (starEach [] X.env)).any (·.1) || (backToKw pos (keywordEach kws X.env)).any (·.1.isNone)) = false := by rfl) :
    PE X (.Call (.Name x p) [] kws pos) (tCallN0 ks.length sp gV E tk) where
  run := by
    intro pins s σ H Q I h
    refine wpAny_Call_Name_kw (ld_glob I glob is (PySem.W.callWith_KW0 (h₀ := X.base) I.ok.mod.kin kp named (thn (args.run pos pins s σ H _ I h) ?_) plain) nodebug)
    rintro ws s2 ⟨zs, H2, I2, rel, len, want⟩
    rw [names]
    exact ⟨I2.kIn, run_fnN F room bind pass I2 .nil rel rfl len want⟩
/-! ### t[::-1] of a tuple -/
section
variable {prog : Program} {w : World} {A : Around} {E : Value → Shared → Prop} {s : Shared}
theorem back_parts {sl : Addr} {v0 v1 v2 : Value} {n : Nat} {R : Int × Int × Nat → Shared → Prop} (cut : s.heap.IsSliceOf sl v0 v1 v2) (p0 : IsPart v0 none) (p1 : IsPart v1 none) (p2 : IsPart v2 (some (-1))) (want : R ((n : Int) - 1, -1, n) s) :
    wpAny (model prog w) A (Builtin.Slice.sliceApplied (.ref sl) (pure (n : Int))) R E s := by
  obtain ⟨o, eo, _, eds⟩ := cut
  have num : Builtin.Slice.slicePlaces ((n : Int) - 1) (-1) (-1) = n := by
    show (if (-1 : Int) > 0 then _ else if (n : Int) - 1 > -1 then ((n : Int) - 1 - -1 - 1) / (- -1) + 1 else 0).toNat = n
    rw [if_neg (by decide)]
    by_cases some : (n : Int) - 1 > -1
    · rw [if_pos some, show (- -1 : Int) = 1 by decide, Int.ediv_one]
      omega
    · rw [if_neg some]
      omega
  show wpAny _ _ (Builtin.Slice.sliceFields (.ref sl) >>= _) _ _ _
  refine wpAny_bind (wpAny_bind (wpAny_field eo eds (x := v0) rfl (wpAny_bind (wpAny_field eo eds (x := v1) rfl (wpAny_bind (wpAny_field eo eds (x := v2) rfl (wpAny_pure (wpAny_bind (HT.slicePart_ p2 ?_)))))))))
  show wpAny _ _ (if ((-1 : Int) == 0) = true then _ else _) _ _ _
  rw [if_neg (by decide)]
  refine wpAny_bind (HT.slicePart_ p0 (wpAny_bind (HT.slicePart_ p1 (wpAny_bind (wpAny_pure (wpAny_pure ?_))))))
  show R ((n : Int) - 1, -1, Builtin.Slice.slicePlaces ((n : Int) - 1) (-1) (-1)) s
  rw [num]
  exact want
theorem back_items (xs : Array Value) : ((List.range xs.size).filterMap fun (m : Nat) => xs[(((xs.size : Nat) : Int) - 1 + (m : Int) * (-1)).toNat]?).toArray = xs.toList.reverse.toArray := by
  have e : (fun (m : Nat) => xs[(((xs.size : Nat) : Int) - 1 + (m : Int) * (-1)).toNat]?) = (xs[·]?) ∘ fun m => xs.size - 1 - m := funext fun m => by
    show xs[(((xs.size : Nat) : Int) - 1 + (m : Int) * (-1)).toNat]? = xs[xs.size - 1 - m]?
    congr 1
    omega
  rw [e, ← List.filterMap_map, PySem.W.krv_range, List.filterMap_reverse, PySem.W.krv_all xs]
theorem tuple_back {t sl : Addr} {its : Array Value} {v0 v1 v2 : Value} {R : Value → Shared → Prop} (tup : IsTup s.heap t its) (cut : s.heap.IsSliceOf sl v0 v1 v2) (p0 : IsPart v0 none) (p1 : IsPart v1 none) (p2 : IsPart v2 (some (-1))) (small : its.size ≤ sizeLine)
    (want : R (.ref s.heap.objs.size) { s with heap := s.heap.push { cls := .type "tuple", data := .seq its.toList.reverse.toArray } }) : wpAny (model prog w) A (getItem (.ref t) (.ref sl)) R E s := by
  obtain ⟨o, eo, ecs, _⟩ := id cut
  have isSl : s.TypeIs (.ref sl) "slice" := ⟨o, eo, ecs⟩
  have fits : sizeOk (.seq its.toList.reverse.toArray) := by
    show its.toList.reverse.toArray.size ≤ sizeLine
    simpa using small
  unfold getItem
  (try with_reducible refine wpAny_holding ?_); (first | refine wpAny_bind (wpAny_pure ?_) | skip)
  refine wpAny_bind (wpAny_sequenceKey tup.typeIs (by decide) (wpAny_bind (wpAny_callSpecial?_slot (name := Str.ofString "__getitem__") tup.typeIs PyProof.Rows.slot_tuple_getitem (wpAny_call_entry PyProof.Rows.slot_tuple_getitem tup.typeIs entry_tuple_getitem ?_ (args_tuple_getitem _ _)))))
  refine wpAny_bind (m := Builtin.Tuple.tupleItemsOf (.ref t)) (tupleItemsOf_ tup (wpAny_bind (wpAny_typeOf isSl ?_)))
  rw [if_pos (by decide)]
  refine wpAny_bind (back_parts cut p0 p1 p2 ?_)
  show wpAny _ _ (if ((((its.size : Int) - 1) == 0 && (-1 : Int) == 1 && its.size == its.size) = true) then _ else _) _ _ _
  rw [if_neg (by simp), back_items]
  first
    | exact wpAny_bind (m := Builtin.Tuple.tupleExact _) (wpAny_newObj_type (wpAny_pure ⟨_, rfl, wpAny_pure want⟩) fits)
    | exact wpAny_bind (m := Builtin.Tuple.tupleExact _) (wpAny_newObj_type (wpAny_bind (wpAny_pure (wpAny_pure ⟨_, rfl, wpAny_pure want⟩))) fits)
end
def tRevT (K : PySem.W.Frag) (te : TE) : TE := fun σ H Q => te σ H fun x H1 => ∃ t xs, x = .ref t ∧ SqT K H1 t xs ∧ ∀ p, H1 p = none → Q (.ref p) (upd H1 p (.tup xs.reverse))
theorem pe_revT {X : Cx} {e : Expr} {te : TE} {k : Nat} {q1 q2 q3 pos : Pos} (he : PE X e te) : PE X (.Subscript e (.Slice none none (some (.UnaryOp .USub (.Constant (.int 1) k q1) q2)) q3) pos) (tRevT X.K te) where
  run := by
    intro pins s σ H Q I h
    have minus : PO X (some (.UnaryOp .USub (.Constant (.int 1) k q1) q2)) (tPart (tUn (rU fun i => .int (-i)) (tC (.int 1)))) := po_some (pe_un un_neg pe_int)
    refine Subscript_ (thn (he.run pins s σ H _ I h) ?_)
    rintro _ s1 ⟨_, H1, I1, rel, t, xs, rfl, hxs, want⟩
    cases rel
    refine wpAny_Slice (thn (po_none.run pins s1 σ H1 (fun o G => o = none ∧ G = H1) I1 ⟨rfl, rfl⟩) ?_)
    rintro v0 s2 ⟨_, _, I2, p0, rfl, rfl⟩
    refine thn (po_none.run pins s2 σ _ (fun o G => o = none ∧ G = _) I2 ⟨rfl, rfl⟩) ?_
    rintro v1 s3 ⟨_, _, I3, p1, rfl, rfl⟩
    refine thn (minus.run pins s3 σ _ (fun o G => o = some (-1) ∧ G = _) I3 ⟨1, rfl, -1, rfl, rfl, rfl⟩) ?_
    rintro v2 s4 ⟨_, _, I4, p2, rfl, rfl⟩
    have I5 := I4.kept (h' := s4.heap.push { cls := .type "slice", data := .fields #[v0, v1, v2] }) (t' := s4.toks) fun c o g => Heap.get?_push_of_some _ g
    obtain ⟨its, vals, tup, small⟩ := I5.tuple hxs
    refine tail_any (ops := [.ref t, .ref s4.heap.objs.size]) tup.typeIs PyProof.Rows.slot_tuple_getitem.lookup (tuple_back tup (Heap.IsSliceOf.new _ v0 v1 v2) p0 p1 p2 (by rw [List.size_toArray, ← vals.length]; exact small) ?_) (by with_unfolding_all rfl)
    exact ⟨.ref _, _, I5.laid (t' := s4.toks) (o := .tup xs.reverse) (fun c o g => Heap.get?_push_of_some _ g) (Nat.le_refl _) ⟨by rw [List.length_reverse]; exact small, _, vals.reverse, IsTup.new _ _⟩, rfl, want _ (I5.hok.fresh (Nat.le_refl _))⟩
end Wd

set_option linter.all false
namespace WdM
/-! ### pennies by weights -/
def deal (a T : Int) : Int → List Int → List Int
  | _, [] => []
  | k, w :: ws => if 0 < k ∧ a * w % T ≠ 0 then (a * w / T + 1) :: deal a T (k - 1) ws else a * w / T :: deal a T k ws
def bases (a T : Int) (ws : List Int) : List Int := ws.map fun w => a * w / T
def cnt (a T : Int) : List Int → Int
  | [] => 0
  | w :: ws => (if a * w % T ≠ 0 then 1 else 0) + cnt a T ws
def dealt (a : Int) (ws : List Int) : List Int := deal a ws.sum (a - (bases a ws.sum ws).sum) ws

theorem deal_len (a T : Int) : ∀ (k : Int) (ws : List Int), (deal a T k ws).length = ws.length
  | _, [] => rfl
  | k, w :: ws => by
    unfold deal
    split
    · rw [List.length_cons, deal_len a T (k - 1) ws, List.length_cons]
    · rw [List.length_cons, deal_len a T k ws, List.length_cons]
theorem dealt_len (a : Int) (ws : List Int) : (dealt a ws).length = ws.length := deal_len _ _ _ _
theorem cnt_cons (a T w : Int) (ws : List Int) : cnt a T (w :: ws) = (if a * w % T ≠ 0 then 1 else 0) + cnt a T ws := rfl
theorem cnt_nonneg (a T : Int) : ∀ ws, 0 ≤ cnt a T ws
  | [] => Int.le_refl 0
  | w :: ws => by
    have := cnt_nonneg a T ws
    unfold cnt
    split <;> omega
theorem deal_sum (a T : Int) : ∀ (k : Int) (ws : List Int), 0 ≤ k → (deal a T k ws).sum = (bases a T ws).sum + min k (cnt a T ws)
  | k, [], hk => by
    show (0 : Int) = 0 + min k 0
    omega
  | k, w :: ws, hk => by
    have hb : (bases a T (w :: ws)).sum = a * w / T + (bases a T ws).sum := by unfold bases; rw [List.map_cons, List.sum_cons]
    have hc := cnt_nonneg a T ws
    unfold deal
    split
    · rename_i h
      have ih := deal_sum a T (k - 1) ws (by omega)
      rw [List.sum_cons, ih, hb]
      rw [cnt_cons, if_pos h.2]
      generalize a * w / T = q
      omega
    · rename_i h
      have ih := deal_sum a T k ws hk
      rw [List.sum_cons, ih, hb]
      rw [cnt_cons]
      generalize a * w / T = q
      by_cases hz : a * w % T ≠ 0
      · have : ¬ 0 < k := fun z => h ⟨z, hz⟩
        rw [if_pos hz]
        omega
      · rw [if_neg hz]
        omega
def rems (a T : Int) (ws : List Int) : List Int := ws.map fun w => a * w % T
theorem bases_rems (a T : Int) : ∀ ws : List Int, T * (bases a T ws).sum + (rems a T ws).sum = a * ws.sum
  | [] => by
    show T * 0 + 0 = a * 0
    simp
  | w :: ws => by
    have ih := bases_rems a T ws
    have e : T * (a * w / T) + a * w % T = a * w := Int.mul_ediv_add_emod (a * w) T
    unfold bases rems at *
    rw [List.map_cons, List.map_cons, List.sum_cons, List.sum_cons, List.sum_cons, Int.mul_add, Int.mul_add]
    omega
theorem rems_bound (a T : Int) (hT : 0 < T) : ∀ ws : List Int, 0 ≤ (rems a T ws).sum ∧ (rems a T ws).sum ≤ (T - 1) * cnt a T ws
  | [] => by
    constructor
    · exact Int.le_refl 0
    · show (0 : Int) ≤ (T - 1) * 0
      simp
  | w :: ws => by
    have ih := rems_bound a T hT ws
    have h0 := Int.emod_nonneg (a * w) (show T ≠ 0 by omega)
    have h1 := Int.emod_lt_of_pos (a * w) hT
    unfold rems at *
    rw [List.map_cons, List.sum_cons]
    rw [cnt_cons]
    generalize hr : a * w % T = r at *
    by_cases hz : r ≠ 0
    · rw [if_pos hz, Int.mul_add, Int.mul_one]
      omega
    · rw [if_neg hz]
      have : r = 0 := by omega
      subst this
      rw [Int.zero_add, Int.zero_add]
      omega
theorem lack_bounds (a : Int) (ws : List Int) (hT : 0 < ws.sum) : 0 ≤ a - (bases a ws.sum ws).sum ∧ a - (bases a ws.sum ws).sum ≤ cnt a ws.sum ws := by
  have h1 := bases_rems a ws.sum ws
  have ⟨h2, h3⟩ := rems_bound a ws.sum hT ws
  have hc := cnt_nonneg a ws.sum ws
  generalize ws.sum = T at *
  generalize (bases a T ws).sum = B at *
  generalize (rems a T ws).sum = R at *
  generalize cnt a T ws = c at *
  have e : T * (a - B) = R := by
    rw [Int.mul_sub]
    have : a * T = T * a := Int.mul_comm _ _
    omega
  constructor
  · rcases Int.lt_or_le (a - B) 0 with h | h
    · have : T * (a - B) < 0 := Int.mul_neg_of_pos_of_neg hT h
      omega
    · exact h
  · rcases Int.lt_or_le c (a - B) with h | h
    · have h4 : T * (c + 1) ≤ T * (a - B) := Int.mul_le_mul_of_nonneg_left (by omega) (by omega)
      have h5 : (T - 1) * c = T * c - c := by rw [Int.sub_mul, Int.one_mul]
      rw [Int.mul_add, Int.mul_one] at h4
      omega
    · exact h
theorem dealt_sum (a : Int) (ws : List Int) (hT : 0 < ws.sum) : (dealt a ws).sum = a := by
  have ⟨h1, h2⟩ := lack_bounds a ws hT
  unfold dealt
  rw [deal_sum _ _ _ _ h1]
  omega
/-- each is its exact part, rounded down or up -/
theorem deal_get (a T : Int) : ∀ (k : Int) (ws : List Int) (i : Nat) (v : Int), (deal a T k ws)[i]? = some v → ∃ w, ws[i]? = some w ∧ (v = a * w / T ∨ v = a * w / T + 1)
  | _, [], i, v, h => by unfold deal at h; simp at h
  | k, w :: ws, i, v, h => by
    unfold deal at h
    split at h
    · cases i with
      | zero => exact ⟨w, rfl, .inr (by simpa using h.symm)⟩
      | succ i => exact deal_get a T _ ws i v (by simpa using h)
    · cases i with
      | zero => exact ⟨w, rfl, .inl (by simpa using h.symm)⟩
      | succ i => exact deal_get a T _ ws i v (by simpa using h)
/-! ### the same by other numbers of the same shares -/
theorem sum_scale (p : Int) : ∀ ws : List Int, (ws.map (p * ·)).sum = p * ws.sum
  | [] => by simp
  | w :: ws => by rw [List.map_cons, List.sum_cons, List.sum_cons, sum_scale p ws, Int.mul_add]
theorem part_scale {a T w p : Int} (hp : 0 < p) : a * (p * w) / (p * T) = a * w / T := by
  rw [show a * (p * w) = p * (a * w) by rw [← Int.mul_assoc, Int.mul_comm a p, Int.mul_assoc]]
  exact Int.mul_ediv_mul_of_pos _ _ hp
theorem rem_scale {a T w p : Int} (hp : 0 < p) : (a * (p * w) % (p * T) ≠ 0) ↔ (a * w % T ≠ 0) := by
  rw [show a * (p * w) = p * (a * w) by rw [← Int.mul_assoc, Int.mul_comm a p, Int.mul_assoc], Int.mul_emod_mul_of_pos _ _ hp]
  constructor
  · intro h z
    exact h (by rw [z, Int.mul_zero])
  · intro h z
    rcases Int.mul_eq_zero.mp z with q | q
    · omega
    · exact h q
theorem deal_scale {a T p : Int} (hp : 0 < p) : ∀ (k : Int) (ws : List Int), deal a (p * T) k (ws.map (p * ·)) = deal a T k ws
  | _, [] => rfl
  | k, w :: ws => by
    rw [List.map_cons]
    unfold deal
    rw [part_scale hp]
    by_cases h : 0 < k ∧ a * w % T ≠ 0
    · rw [if_pos h, if_pos ⟨h.1, (rem_scale hp).mpr h.2⟩, deal_scale hp (k - 1) ws]
    · rw [if_neg h, if_neg (fun z => h ⟨z.1, (rem_scale hp).mp z.2⟩), deal_scale hp k ws]
theorem bases_scale {a T p : Int} (hp : 0 < p) (ws : List Int) : bases a (p * T) (ws.map (p * ·)) = bases a T ws := by
  unfold bases
  rw [List.map_map]
  apply List.map_congr_left
  intro w _
  exact part_scale hp
theorem dealt_scale {a p : Int} (hp : 0 < p) (ws : List Int) : dealt a (ws.map (p * ·)) = dealt a ws := by
  unfold dealt
  rw [sum_scale, bases_scale hp, deal_scale hp]
theorem dealt_like {a p q : Int} (hp : 0 < p) (hq : 0 < q) {ws ws' : List Int} (h : ws.map (p * ·) = ws'.map (q * ·)) : dealt a ws = dealt a ws' := by
  rw [← dealt_scale hp ws, h, dealt_scale hq]
/-! ### weights of fractions -/
def lcmF : Int → List (Int × Int) → Int
  | b, [] => b
  | b, f :: fs => lcmF (b / (Int.gcd b f.2 : Int) * f.2) fs
def wts (L : Int) (fs : List (Int × Int)) : List Int := fs.map fun f => f.1 * (L / f.2)
def wtsOf (fs : List (Int × Int)) : List Int := wts (lcmF 1 fs) fs
structure Lcm (b L : Int) (fs : List (Int × Int)) : Prop where
  pos : 0 < L
  dvd : b ∣ L
  all : ∀ f ∈ fs, f.2 ∣ L
theorem step_lcm {b d : Int} (hb : 0 < b) (hd : 0 < d) : 0 < b / (Int.gcd b d : Int) * d ∧ b ∣ b / (Int.gcd b d : Int) * d ∧ d ∣ b / (Int.gcd b d : Int) * d := by
  have g0 : (0 : Int) < (Int.gcd b d : Int) := by
    have : Int.gcd b d ≠ 0 := fun z => by
      have := (Int.gcd_eq_zero_iff.mp z).1
      omega
    omega
  obtain ⟨x, hx⟩ := Int.gcd_dvd_left b d
  obtain ⟨y, hy⟩ := Int.gcd_dvd_right b d
  generalize hg : (Int.gcd b d : Int) = g at *
  have e : b / g = x := by rw [hx]; exact Int.mul_ediv_cancel_left x (by omega)
  have xp : 0 < x := by
    rcases Int.lt_or_le 0 x with h | h
    · exact h
    · have : g * x ≤ 0 := Int.mul_nonpos_of_nonneg_of_nonpos (by omega) h
      omega
  rw [e]
  refine ⟨Int.mul_pos xp hd, ⟨y, ?_⟩, ⟨x, Int.mul_comm _ _⟩⟩
  rw [hy, hx, ← Int.mul_assoc, Int.mul_comm x g]
theorem lcm_is : ∀ (fs : List (Int × Int)) (b : Int), 0 < b → (∀ f ∈ fs, 0 < f.2) → Lcm b (lcmF b fs) fs
  | [], b, hb, _ => ⟨hb, Int.dvd_refl b, fun f h => by cases h⟩
  | f :: fs, b, hb, h => by
    have hd := h f List.mem_cons_self
    have ⟨s1, s2, s3⟩ := step_lcm hb hd
    have ih := lcm_is fs _ s1 (fun g hg => h g (List.mem_cons_of_mem _ hg))
    refine ⟨ih.pos, Int.dvd_trans s2 ih.dvd, fun g hg => ?_⟩
    rcases List.mem_cons.mp hg with rfl | hg
    · exact Int.dvd_trans s3 ih.dvd
    · exact ih.all g hg
theorem wt_eq {L t d : Int} (h : d ∣ L) : t * (L / d) * d = t * L := by
  rw [Int.mul_assoc, Int.ediv_mul_cancel h]
/-- two rows of fractions that stand as B to A -/
theorem wts_like {A B L L' : Int} (hA : 0 < A) (hB : 0 < B) : ∀ (fs fs' : List (Int × Int)), fs.length = fs'.length → (∀ f ∈ fs, 0 < f.2 ∧ f.2 ∣ L) → (∀ f ∈ fs', 0 < f.2 ∧ f.2 ∣ L') →
    (∀ (i : Nat) (f f' : Int × Int), fs[i]? = some f → fs'[i]? = some f' → f'.1 * f.2 * B = f.1 * A * f'.2) → (wts L fs).map (A * L' * ·) = (wts L' fs').map (B * L * ·)
  | [], [], _, _, _, _ => rfl
  | f :: fs, f' :: fs', hl, h1, h2, h3 => by
    have ih := wts_like (L := L) (L' := L') hA hB fs fs' (by simpa using hl) (fun g hg => h1 g (List.mem_cons_of_mem _ hg)) (fun g hg => h2 g (List.mem_cons_of_mem _ hg)) (fun i g g' a b => h3 (i + 1) g g' (by simpa using a) (by simpa using b))
    have e := h3 0 f f' rfl rfl
    have ⟨p1, d1⟩ := h1 f List.mem_cons_self
    have ⟨p2, d2⟩ := h2 f' List.mem_cons_self
    unfold wts at *
    rw [List.map_cons, List.map_cons, List.map_cons, List.map_cons, ih]
    congr 1
    have w1 := wt_eq (t := f.1) d1
    have w2 := wt_eq (t := f'.1) d2
    generalize f.1 * (L / f.2) = w at *
    generalize f'.1 * (L' / f'.2) = w' at *
    have ne : f.2 * f'.2 ≠ 0 := Int.ne_of_gt (Int.mul_pos p1 p2)
    apply Int.eq_of_mul_eq_mul_right ne
    have l1 : A * L' * w * (f.2 * f'.2) = (w * f.2) * (A * L' * f'.2) := by
      ac_rfl
    have l2 : B * L * w' * (f.2 * f'.2) = (w' * f'.2) * (B * L * f.2) := by
      ac_rfl
    rw [l1, l2, w1, w2]
    have l3 : f.1 * L * (A * L' * f'.2) = (f.1 * A * f'.2) * (L * L') := by ac_rfl
    have l4 : f'.1 * L' * (B * L * f.2) = (f'.1 * f.2 * B) * (L * L') := by ac_rfl
    rw [l3, l4, e]
theorem dealt_frac {a A B : Int} (hA : 0 < A) (hB : 0 < B) {fs fs' : List (Int × Int)} (hl : fs.length = fs'.length) (h1 : ∀ f ∈ fs, 0 < f.2) (h2 : ∀ f ∈ fs', 0 < f.2)
    (h3 : ∀ (i : Nat) (f f' : Int × Int), fs[i]? = some f → fs'[i]? = some f' → f'.1 * f.2 * B = f.1 * A * f'.2) : dealt a (wtsOf fs) = dealt a (wtsOf fs') := by
  have c1 := lcm_is fs 1 (by decide) h1
  have c2 := lcm_is fs' 1 (by decide) h2
  exact dealt_like (Int.mul_pos hA c2.pos) (Int.mul_pos hB c1.pos) (wts_like hA hB fs fs' hl (fun f hf => ⟨h1 f hf, c1.all f hf⟩) (fun f hf => ⟨h2 f hf, c2.all f hf⟩) h3)
theorem wtsOf_sum_pos {fs : List (Int × Int)} (h1 : ∀ f ∈ fs, 0 ≤ f.1 ∧ 0 < f.2) (h2 : ∃ f ∈ fs, 0 < f.1) : 0 < (wtsOf fs).sum ∧ ∀ w ∈ wtsOf fs, 0 ≤ w := by
  have c := lcm_is fs 1 (by decide) (fun f hf => (h1 f hf).2)
  unfold wtsOf
  generalize lcmF 1 fs = L at *
  have q : ∀ f ∈ fs, 0 < L / f.2 := fun f hf => Int.ediv_pos_of_pos_of_dvd c.pos (Int.le_of_lt (h1 f hf).2) (c.all f hf)
  clear c
  have nn : ∀ w ∈ wts L fs, 0 ≤ w := fun w hw => by
    unfold wts at hw
    obtain ⟨f, hf, rfl⟩ := List.mem_map.mp hw
    exact Int.mul_nonneg (h1 f hf).1 (Int.le_of_lt (q f hf))
  refine ⟨?_, nn⟩
  induction fs with
  | nil => obtain ⟨f, hf, _⟩ := h2; cases hf
  | cons g fs ih =>
    unfold wts
    rw [List.map_cons, List.sum_cons]
    have g0 : 0 ≤ g.1 * (L / g.2) := nn _ (by unfold wts; rw [List.map_cons]; exact List.mem_cons_self)
    have rest : ∀ (xs : List Int), (∀ w ∈ xs, 0 ≤ w) → 0 ≤ xs.sum := fun xs => by
      induction xs with
      | nil => intro _; exact Int.le_refl 0
      | cons x xs ihx =>
        intro hx
        rw [List.sum_cons]
        have a := hx x List.mem_cons_self
        have b := ihx (fun w hw => hx w (List.mem_cons_of_mem _ hw))
        omega
    have r0 : 0 ≤ (fs.map fun f => f.1 * (L / f.2)).sum := rest _ (fun w hw => nn w (by unfold wts; rw [List.map_cons]; exact List.mem_cons_of_mem _ hw))
    obtain ⟨f, hf, hp⟩ := h2
    rcases List.mem_cons.mp hf with rfl | hf
    · have := Int.mul_pos hp (q f List.mem_cons_self)
      omega
    · have ih2 := ih (fun f hf => h1 f (List.mem_cons_of_mem _ hf)) ⟨f, hf, hp⟩ (fun f hf => q f (List.mem_cons_of_mem _ hf)) (fun w hw => nn w (by unfold wts at *; rw [List.map_cons]; exact List.mem_cons_of_mem _ hw))
      unfold wts at ih2
      omega
theorem wtsOf_len (fs : List (Int × Int)) : (wtsOf fs).length = fs.length := by unfold wtsOf wts; rw [List.length_map]
/-! ### whole shares -/
theorem lcm_whole : ∀ fs : List (Int × Int), (∀ f ∈ fs, f.2 = 1) → lcmF 1 fs = 1
  | [], _ => rfl
  | f :: fs, h => by
    unfold lcmF
    rw [h f List.mem_cons_self]
    show lcmF (1 / (Int.gcd 1 1 : Int) * 1) fs = 1
    rw [show (1 : Int) / (Int.gcd 1 1 : Int) * 1 = 1 by decide]
    exact lcm_whole fs (fun g hg => h g (List.mem_cons_of_mem _ hg))
theorem wtsOf_whole (ts : List Int) : wtsOf (ts.map fun t => (t, 1)) = ts := by
  unfold wtsOf
  rw [lcm_whole _ (fun f hf => by obtain ⟨t, _, rfl⟩ := List.mem_map.mp hf; rfl)]
  unfold wts
  rw [List.map_map]
  have e : ((fun f : Int × Int => f.1 * (1 / f.2)) ∘ fun t : Int => (t, (1 : Int))) = id := by
    funext t
    show t * (1 / 1) = t
    rw [show (1 : Int) / 1 = 1 by decide, Int.mul_one]
  rw [e, List.map_id]
theorem deal_self {T : Int} (hT : 0 < T) : ∀ (k : Int) (ws : List Int), deal T T k ws = ws
  | _, [] => rfl
  | k, w :: ws => by
    unfold deal
    have e : T * w % T = 0 := Int.mul_emod_right T w
    rw [if_neg (fun z => z.2 e), Int.mul_ediv_cancel_left w (by omega), deal_self hT k ws]
theorem dealt_self {ws : List Int} (hT : 0 < ws.sum) : dealt ws.sum ws = ws := deal_self hT _ _
theorem deal_more {a T t : Int} (hT : 0 < T) : ∀ (k : Int) (ws : List Int), deal (a + t * T) T k ws = List.zipWith (fun p w => p + t * w) (deal a T k ws) ws
  | _, [] => rfl
  | k, w :: ws => by
    have e : (a + t * T) * w = a * w + T * (t * w) := by
      rw [Int.add_mul]
      congr 1
      ac_rfl
    have e1 : (a + t * T) * w / T = a * w / T + t * w := by
      rw [e, Int.add_mul_ediv_left _ _ (by omega)]
    have e2 : (a + t * T) * w % T = a * w % T := by
      rw [e, Int.add_mul_emod_self_left]
    unfold deal
    rw [e1, e2]
    by_cases h : 0 < k ∧ a * w % T ≠ 0
    · rw [if_pos h, if_pos h, deal_more hT (k - 1) ws, List.zipWith_cons_cons]
      congr 1
      omega
    · rw [if_neg h, if_neg h, deal_more hT k ws, List.zipWith_cons_cons]
theorem bases_more {a T t : Int} (hT : 0 < T) : ∀ ws : List Int, (bases (a + t * T) T ws).sum = (bases a T ws).sum + t * ws.sum
  | [] => by
    show (0 : Int) = 0 + t * 0
    simp
  | w :: ws => by
    have ih := bases_more (a := a) (t := t) hT ws
    have e : (a + t * T) * w = a * w + T * (t * w) := by
      rw [Int.add_mul]
      congr 1
      ac_rfl
    have e1 : (a + t * T) * w / T = a * w / T + t * w := by
      rw [e, Int.add_mul_ediv_left _ _ (by omega)]
    unfold bases at *
    rw [List.map_cons, List.map_cons, List.sum_cons, List.sum_cons, List.sum_cons, ih, e1, Int.mul_add]
    omega
theorem dealt_more {a t : Int} {ws : List Int} (hT : 0 < ws.sum) : dealt (a + t * ws.sum) ws = List.zipWith (fun p w => p + t * w) (dealt a ws) ws := by
  unfold dealt
  rw [bases_more hT, deal_more hT]
  congr 2
  omega
/-! ### noughts between -/
def trues : Nat → List Bool → List Nat
  | _, [] => []
  | n, true :: r => n :: trues (n + 1) r
  | n, false :: r => trues (n + 1) r
theorem trues_append : ∀ (a b : List Bool) (n : Nat), trues n (a ++ b) = trues n a ++ trues (n + a.length) b
  | [], b, n => by simp [trues]
  | true :: a, b, n => by
    have := trues_append a b (n + 1)
    simp only [List.cons_append, trues, this, List.length_cons]
    rw [show n + 1 + a.length = n + (a.length + 1) by omega]
  | false :: a, b, n => by
    have := trues_append a b (n + 1)
    simp only [List.cons_append, trues, this, List.length_cons]
    rw [show n + 1 + a.length = n + (a.length + 1) by omega]
theorem trues_false : ∀ (z n : Nat), trues n (List.replicate z false) = []
  | 0, n => rfl
  | z + 1, n => by rw [List.replicate_succ]; exact trues_false z (n + 1)
theorem trues_mem : ∀ (m : List Bool) (n q : Nat), q ∈ trues n m ↔ n ≤ q ∧ m[q - n]? = some true
  | [], n, q => by simp [trues]
  | true :: m, n, q => by
    have ih := trues_mem m (n + 1) q
    simp only [trues, List.mem_cons, ih]
    constructor
    · rintro (rfl | ⟨h1, h2⟩)
      · simp
      · refine ⟨by omega, ?_⟩
        rw [show q - n = (q - (n + 1)) + 1 by omega]
        simpa using h2
    · rintro ⟨h1, h2⟩
      by_cases e : q = n
      · exact .inl e
      · right
        refine ⟨by omega, ?_⟩
        rw [show q - n = (q - (n + 1)) + 1 by omega] at h2
        simpa using h2
  | false :: m, n, q => by
    have ih := trues_mem m (n + 1) q
    simp only [trues, ih]
    constructor
    · rintro ⟨h1, h2⟩
      refine ⟨by omega, ?_⟩
      rw [show q - n = (q - (n + 1)) + 1 by omega]
      simpa using h2
    · rintro ⟨h1, h2⟩
      by_cases e : q = n
      · subst e
        simp at h2
      · refine ⟨by omega, ?_⟩
        rw [show q - n = (q - (n + 1)) + 1 by omega] at h2
        simpa using h2
theorem trues_lt {m : List Bool} {q : Nat} (h : q ∈ trues 0 m) : q < m.length := by
  have := ((trues_mem m 0 q).mp h).2
  rw [Nat.sub_zero] at this
  exact (List.getElem?_eq_some_iff.mp this).1
/-- what stands at the marked places -/
theorem trues_pick : ∀ (m : List (Bool × Int)) (pre : List Int), (trues pre.length (m.map (·.1))).map (fun p => (pre ++ m.map (·.2)).getD p 0) = (m.filter (·.1)).map (·.2)
  | [], pre => rfl
  | (true, v) :: m, pre => by
    have ih := trues_pick m (pre ++ [v])
    simp only [List.length_append, List.length_cons, List.length_nil, List.append_assoc, List.cons_append, List.nil_append] at ih
    simp only [List.map_cons, trues, List.filter_cons, if_true]
    rw [show pre.length + 1 = pre.length + (0 + 1) by omega, ih]
    congr 1
    simp [List.getD]
  | (false, v) :: m, pre => by
    have ih := trues_pick m (pre ++ [v])
    simp only [List.length_append, List.length_cons, List.length_nil, List.append_assoc, List.cons_append, List.nil_append] at ih
    simp only [List.map_cons, trues, List.filter_cons]
    rw [show pre.length + 1 = pre.length + (0 + 1) by omega, ih]
    simp
def Naught (m : List (Bool × Int)) : Prop := ∀ x ∈ m, x.1 = false → x.2 = 0
theorem sum_naught : ∀ m : List (Bool × Int), Naught m → (m.map (·.2)).sum = ((m.filter (·.1)).map (·.2)).sum
  | [], _ => rfl
  | (true, v) :: m, h => by
    have ih := sum_naught m (fun x hx => h x (List.mem_cons_of_mem _ hx))
    simp only [List.map_cons, List.sum_cons, List.filter_cons, if_true, ih]
  | (false, v) :: m, h => by
    have ih := sum_naught m (fun x hx => h x (List.mem_cons_of_mem _ hx))
    have e : v = 0 := h _ List.mem_cons_self rfl
    subst e
    simp only [List.map_cons, List.sum_cons, List.filter_cons, ih]
    simp
/-- the pennies with their marks -/
def marked (a T : Int) : Int → List (Bool × Int) → List (Bool × Int)
  | _, [] => []
  | k, (b, w) :: m => if 0 < k ∧ a * w % T ≠ 0 then (b, a * w / T + 1) :: marked a T (k - 1) m else (b, a * w / T) :: marked a T k m
theorem marked_snd (a T : Int) : ∀ (k : Int) (m : List (Bool × Int)), (marked a T k m).map (·.2) = deal a T k (m.map (·.2))
  | _, [] => rfl
  | k, (b, w) :: m => by
    unfold marked
    rw [List.map_cons]
    unfold deal
    split
    · rw [List.map_cons, marked_snd a T (k - 1) m]
    · rw [List.map_cons, marked_snd a T k m]
theorem marked_fst (a T : Int) : ∀ (k : Int) (m : List (Bool × Int)), (marked a T k m).map (·.1) = m.map (·.1)
  | _, [] => rfl
  | k, (b, w) :: m => by
    unfold marked
    rw [List.map_cons]
    split
    · rw [List.map_cons, marked_fst a T (k - 1) m]
    · rw [List.map_cons, marked_fst a T k m]
theorem marked_pick (a T : Int) : ∀ (k : Int) (m : List (Bool × Int)), Naught m → ((marked a T k m).filter (·.1)).map (·.2) = deal a T k ((m.filter (·.1)).map (·.2))
  | _, [], _ => rfl
  | k, (true, w) :: m, h => by
    have ih := fun k => marked_pick a T k m (fun x hx => h x (List.mem_cons_of_mem _ hx))
    unfold marked
    simp only [List.filter_cons, if_true, List.map_cons]
    unfold deal
    split
    · simp only [List.filter_cons, if_true, List.map_cons, ih]
    · simp only [List.filter_cons, if_true, List.map_cons, ih]
  | k, (false, w) :: m, h => by
    have ih := fun k => marked_pick a T k m (fun x hx => h x (List.mem_cons_of_mem _ hx))
    have e : w = 0 := h _ List.mem_cons_self rfl
    subst e
    unfold marked
    have e0 : a * 0 % T = 0 := by rw [Int.mul_zero, Int.zero_emod]
    rw [if_neg (fun z => z.2 e0)]
    simp [List.filter_cons, ih]
theorem marked_naught (a T : Int) : ∀ (k : Int) (m : List (Bool × Int)), Naught m → Naught (marked a T k m)
  | _, [], _ => fun x hx => by cases hx
  | k, (b, w) :: m, h => by
    have ih := fun k => marked_naught a T k m (fun x hx => h x (List.mem_cons_of_mem _ hx))
    have h0 := h _ List.mem_cons_self
    unfold marked
    split
    · rename_i hc
      intro x hx hf
      rcases List.mem_cons.mp hx with rfl | hx
      · have e : w = 0 := h0 hf
        subst e
        exact absurd (by rw [Int.mul_zero, Int.zero_emod]) hc.2
      · exact ih _ x hx hf
    · intro x hx hf
      rcases List.mem_cons.mp hx with rfl | hx
      · have e : w = 0 := h0 hf
        subst e
        show a * 0 / T = 0
        rw [Int.mul_zero, Int.zero_ediv]
      · exact ih _ x hx hf
theorem bases_naught (a T : Int) (m : List (Bool × Int)) (h : Naught m) : (bases a T (m.map (·.2))).sum = (bases a T ((m.filter (·.1)).map (·.2))).sum := by
  have e := sum_naught (m.map fun x => (x.1, a * x.2 / T)) (fun x hx hf => by
    obtain ⟨y, hy, rfl⟩ := List.mem_map.mp hx
    have : y.2 = 0 := h y hy hf
    show a * y.2 / T = 0
    rw [this, Int.mul_zero, Int.zero_ediv])
  unfold bases
  simp only [List.map_map, List.filter_map] at *
  exact e
/-- the pennies of a row with noughts between -/
theorem dealt_naught (a : Int) (m : List (Bool × Int)) (h : Naught m) : ∃ m' : List (Bool × Int), m'.map (·.2) = dealt a (m.map (·.2)) ∧ m'.map (·.1) = m.map (·.1) ∧ Naught m' ∧ (m'.filter (·.1)).map (·.2) = dealt a ((m.filter (·.1)).map (·.2)) := by
  refine ⟨marked a (m.map (·.2)).sum (a - (bases a (m.map (·.2)).sum (m.map (·.2))).sum) m, marked_snd .., marked_fst .., marked_naught _ _ _ _ h, ?_⟩
  rw [marked_pick _ _ _ _ h, bases_naught _ _ _ h, sum_naught m h]
  rfl
end WdM

set_option Elab.async false
set_option linter.all false
set_option maxRecDepth 100000
set_option maxHeartbeats 4000000
namespace Wd
open PySem PySem.Spec PyProof.Rows L2 WdM
/-! ### heaps: all but some addresses stand -/
def Bt (S : List Addr) (H H' : Hp) : Prop := ∀ b o, b ∉ S → H b = some o → H' b = some o
theorem Bt.refl {S : List Addr} (H : Hp) : Bt S H H := fun _ _ _ h => h
theorem Bt.trans {S : List Addr} {H H1 H2 : Hp} (a : Bt S H H1) (b : Bt S H1 H2) : Bt S H H2 := fun c o n h => b c o n (a c o n h)
theorem Bt.of_same {S : List Addr} {H H' : Hp} (e : Same H H') : Bt S H H' := fun b o _ h => e b o h
theorem Bt.same {H H' : Hp} (e : Bt [] H H') : Same H H' := fun b o h => e b o (by simp) h
theorem Bt.wide {S T : List Addr} {H H' : Hp} (h : ∀ a ∈ S, a ∈ T) (e : Bt S H H') : Bt T H H' := fun b o n q => e b o (fun z => n (h b z)) q
theorem Bt.new {S : List Addr} {H H1 : Hp} {p : Addr} {o : HO} (e : Bt S H H1) (h : H1 p = none) : Bt S H (upd H1 p o) := fun b x n q => by
  have q1 := e b x n q
  rw [upd_ne (ne_of_none q1 h)]
  exact q1
theorem Bt.upd0 {S : List Addr} {H H1 : Hp} {p : Addr} {o : HO} (e : Bt S H H1) (h : H p = none) : Bt S H (upd H1 p o) := fun b x n q => by
  rw [upd_ne (ne_of_none q h)]
  exact e b x n q
theorem Bt.upd1 {S : List Addr} {H H1 : Hp} {p : Addr} {o : HO} (e : Bt S H H1) (h : p ∈ S) : Bt S H (upd H1 p o) := fun b x n q => by
  rw [upd_ne (fun z => n (by rw [z]; exact h))]
  exact e b x n q
theorem Bt.none {S : List Addr} {H H' : Hp} (e : Bt S H H') {p : Addr} (hS : p ∉ S) (h : H' p = none) : H p = none := by
  cases q : H p with
  | none => rfl
  | some o => rw [e p o hS q] at h; cases h
/-! ### tuples stand where lists change -/
def Tk (H H' : Hp) : Prop := ∀ a xs, Rd H a (.tup xs) → Rd H' a (.tup xs)
theorem Tk.refl (H : Hp) : Tk H H := fun _ _ h => h
theorem Tk.trans {H H1 H2 : Hp} (a : Tk H H1) (b : Tk H1 H2) : Tk H H2 := fun c xs h => b c xs (a c xs h)
theorem Tk.sq {K : PySem.W.Frag} {H H' : Hp} {a : Addr} {xs : List V} (t : Tk H H') (h : SqT K H a xs) : SqT K H' a xs := by
  rcases h with h | h
  · exact .inl (t _ _ h)
  · exact .inr h
theorem Bt.tk {S : List Addr} {H H' : Hp} (e : Bt S H H') (h : ∀ l ∈ S, ∃ zs, H l = some (.lst zs)) : Tk H H' := fun a xs r => by
  rcases r with r | ⟨o, r⟩
  · refine .inl (e a _ (fun z => ?_) r)
    obtain ⟨zs, q⟩ := h a z
    rw [q] at r; cases r
  · refine .inr ⟨o, e a _ (fun z => ?_) r⟩
    obtain ⟨zs, q⟩ := h a z
    rw [q] at r; cases r
theorem tk_same {H H' : Hp} (e : Same H H') : Tk H H' := (Bt.of_same (S := []) e).tk (fun l h => by cases h)
theorem tk_new {H : Hp} {p : Addr} {o : HO} (h : H p = none) : Tk H (upd H p o) := tk_same ((Bt.refl (S := []) H).new h).same
theorem tk_lst {H : Hp} {p : Addr} {zs : List V} {o : HO} (h : H p = some (.lst zs)) : Tk H (upd H p o) := ((Bt.refl (S := [p]) H).upd1 (by simp)).tk (fun l hl => by
  rw [List.mem_singleton.mp hl]; exact ⟨zs, h⟩)
theorem sqT {K : PySem.W.Frag} {H : Hp} {a : Addr} {xs : List V} (h : H a = some (.tup xs)) : SqT K H a xs := .inl (.inl h)
theorem sqL {K : PySem.W.Frag} {H : Hp} {a : Addr} {xs : List V} (h : H a = some (.lst xs)) : SqL K H a xs := .inl (.inl h)
theorem same_new {H : Hp} {p : Addr} {o : HO} (h : H p = none) : Same H (upd H p o) := ((Bt.refl (S := []) H).new h).same
/-! ### fractions in the heap -/
def Fr (K : PySem.W.Frag) (H : Hp) (v : V) (f : Int × Int) : Prop := ∃ a, v = .ref a ∧ SqT K H a [.int f.1, .int f.2]
def FrAll (K : PySem.W.Frag) (H : Hp) (xs : List V) (fs : List (Int × Int)) : Prop := xs.length = fs.length ∧ ∀ (i : Nat) (x : V) (f : Int × Int), xs[i]? = some x → fs[i]? = some f → Fr K H x f
def Sh (K : PySem.W.Frag) (H : Hp) (v : V) (fs : List (Int × Int)) : Prop := ∃ a xs, v = .ref a ∧ SqT K H a xs ∧ FrAll K H xs fs
theorem Fr.tk {K : PySem.W.Frag} {H H' : Hp} {v : V} {f : Int × Int} (t : Tk H H') (h : Fr K H v f) : Fr K H' v f := by
  obtain ⟨a, e, s⟩ := h
  exact ⟨a, e, t.sq s⟩
theorem FrAll.tk {K : PySem.W.Frag} {H H' : Hp} {xs : List V} {fs : List (Int × Int)} (t : Tk H H') (h : FrAll K H xs fs) : FrAll K H' xs fs := ⟨h.1, fun i x f a b => (h.2 i x f a b).tk t⟩
theorem Sh.tk {K : PySem.W.Frag} {H H' : Hp} {v : V} {fs : List (Int × Int)} (t : Tk H H') (h : Sh K H v fs) : Sh K H' v fs := by
  obtain ⟨a, xs, e, s, q⟩ := h
  exact ⟨a, xs, e, t.sq s, q.tk t⟩
theorem FrAll.nil {K : PySem.W.Frag} {H : Hp} : FrAll K H [] [] := ⟨rfl, fun i x f a _ => by simp at a⟩
theorem FrAll.append {K : PySem.W.Frag} {H : Hp} {xs ys : List V} {fs gs : List (Int × Int)} (h : FrAll K H xs fs) (h' : FrAll K H ys gs) : FrAll K H (xs ++ ys) (fs ++ gs) := by
  refine ⟨by rw [List.length_append, List.length_append, h.1, h'.1], fun i x f a b => ?_⟩
  by_cases hi : i < xs.length
  · rw [List.getElem?_append_left hi] at a
    rw [List.getElem?_append_left (by rw [← h.1]; exact hi)] at b
    exact h.2 i x f a b
  · rw [List.getElem?_append_right (by omega)] at a
    rw [List.getElem?_append_right (by rw [← h.1]; omega)] at b
    exact h'.2 (i - xs.length) x f a (by rw [h.1]; exact b)
theorem FrAll.one {K : PySem.W.Frag} {H : Hp} {x : V} {f : Int × Int} (h : Fr K H x f) : FrAll K H [x] [f] := ⟨rfl, fun i y g a b => by
  cases i with
  | zero => cases a; cases b; exact h
  | succ i => simp at a⟩
theorem FrAll.snoc {K : PySem.W.Frag} {H : Hp} {xs : List V} {fs : List (Int × Int)} {x : V} {f : Int × Int} (h : FrAll K H xs fs) (h' : Fr K H x f) : FrAll K H (xs ++ [x]) (fs ++ [f]) := h.append (.one h')
theorem FrAll.reverse {K : PySem.W.Frag} {H : Hp} {xs : List V} {fs : List (Int × Int)} (h : FrAll K H xs fs) : FrAll K H xs.reverse fs.reverse := by
  refine ⟨by rw [List.length_reverse, List.length_reverse, h.1], fun i x f a b => ?_⟩
  have hi : i < xs.length := by
    have := (List.getElem?_eq_some_iff.mp a).1
    rwa [List.length_reverse] at this
  rw [List.getElem?_reverse hi] at a
  rw [List.getElem?_reverse (by rw [← h.1]; exact hi), ← h.1] at b
  exact h.2 _ x f a b
theorem FrAll.drop {K : PySem.W.Frag} {H : Hp} {xs : List V} {fs : List (Int × Int)} (n : Nat) (h : FrAll K H xs fs) : FrAll K H (xs.drop n) (fs.drop n) := by
  refine ⟨by rw [List.length_drop, List.length_drop, h.1], fun i x f a b => ?_⟩
  rw [List.getElem?_drop] at a b
  exact h.2 _ x f a b
theorem FrAll.get {K : PySem.W.Frag} {H : Hp} {xs : List V} {fs : List (Int × Int)} {i : Nat} {x : V} (h : FrAll K H xs fs) (e : xs[i]? = some x) : ∃ f p, fs[i]? = some f ∧ x = .ref p ∧ SqT K H p [.int f.1, .int f.2] := by
  have hi : i < fs.length := by
    rw [← h.1]
    exact (List.getElem?_eq_some_iff.mp e).1
  obtain ⟨p, rfl, s⟩ := h.2 i x _ e (List.getElem?_eq_getElem hi)
  exact ⟨_, p, List.getElem?_eq_getElem hi, rfl, s⟩
/-! ### ints of lists by place -/
theorem ints_get {ns : List Int} {i : Nat} {x : V} (h : (ns.map V.int)[i]? = some x) : ∃ n, ns[i]? = some n ∧ x = .int n := by
  rw [List.getElem?_map] at h
  cases e : ns[i]? with
  | none => rw [e] at h; cases h
  | some n => rw [e] at h; exact ⟨n, rfl, (Option.some.inj h).symm⟩
theorem take_more {α : Type} {l : List α} {i : Nat} {x : α} (h : l[i]? = some x) : l.take (i + 1) = l.take i ++ [x] := by
  rw [List.take_add_one, h]
  rfl
theorem lt_get {α : Type} {l : List α} {i : Nat} {x : α} (h : l[i]? = some x) : i < l.length := (List.getElem?_eq_some_iff.mp h).1
theorem small_line {n m : Nat} (h : n ≤ m) (hm : m ≤ 1000 := by decide) : n ≤ sizeLine := Nat.le_of_lt (small1000 (Nat.le_trans h hm))
/-! ### Euclid -/
theorem gcd_step {a b : Int} (ha : 0 ≤ a) (hb : 0 ≤ b) : Int.gcd b (a % b) = Int.gcd a b := by
  obtain ⟨m, rfl⟩ := Int.eq_ofNat_of_zero_le ha
  obtain ⟨n, rfl⟩ := Int.eq_ofNat_of_zero_le hb
  show Nat.gcd n (((m : Int) % (n : Int))).natAbs = Nat.gcd m n
  rw [← Int.natCast_emod, Int.natAbs_natCast, Nat.gcd_comm n, ← Nat.gcd_rec, Nat.gcd_comm]
theorem gcd_end {a : Int} (ha : 0 ≤ a) : (Int.gcd a 0 : Int) = a := by
  rw [Int.gcd_zero_right]
  omega
theorem canLay_ints : ∀ ns : List Int, PyData.canLayAll0 (ns.map .int) = true
  | [] => by simp [PyData.canLayAll0]
  | n :: ns => by
    rw [List.map_cons]
    unfold PyData.canLayAll0
    rw [canLay_ints ns]
    simp [PyData.canLay0]
theorem depth_ints : ∀ ns : List Int, PyData.depthAll (ns.map .int) = 0
  | [] => by simp [PyData.depthAll]
  | n :: ns => by
    rw [List.map_cons]
    unfold PyData.depthAll
    rw [depth_ints ns]
    simp [PyData.depth]
theorem eqv_ints : ∀ ns : List Int, PyData.eqvAll (ns.map .int) (ns.map .int) = true
  | [] => by simp [PyData.eqvAll]
  | n :: ns => by
    rw [List.map_cons]
    unfold PyData.eqvAll
    rw [eqv_ints ns]
    simp [PyData.eqv]
theorem shT (ns : List Int) : SeqAt.shaped (.tuple (ns.map .int)) = true := by
  unfold SeqAt.shaped PyData.canLay0 PyData.depth
  rw [canLay_ints, depth_ints]
  rfl
theorem shL (ns : List Int) : SeqAt.shaped (.list (ns.map .int)) = true := by
  unfold SeqAt.shaped PyData.canLay0 PyData.depth
  rw [canLay_ints, depth_ints]
  rfl
theorem eqvT (ns : List Int) : PyData.eqv (.tuple (ns.map .int)) (.tuple (ns.map .int)) = true := by
  unfold PyData.eqv
  exact eqv_ints ns
theorem eqvL (ns : List Int) : PyData.eqv (.list (ns.map .int)) (.list (ns.map .int)) = true := by
  unfold PyData.eqv
  exact eqv_ints ns
theorem dInts {K : PySem.W.Frag} {H : Hp} : ∀ ns : List Int, DpAll K H (ns.map V.int) (ns.map PyData.int)
  | [] => .nil
  | n :: ns => .cons (.int n) (dInts ns)
theorem dT {K : PySem.W.Frag} {H : Hp} {a : Addr} {ns : List Int} (h : SqT K H a (ns.map V.int)) : Dp K H (.ref a) (.tuple (ns.map .int)) := .tup h (dInts ns)
theorem dL {K : PySem.W.Frag} {H : Hp} {a : Addr} {ns : List Int} (h : SqL K H a (ns.map V.int)) : Dp K H (.ref a) (.list (ns.map .int)) := .lst h (dInts ns)
theorem tyT {K : PySem.W.Frag} {H : Hp} {a : Addr} {xs : List V} (h : SqT K H a xs) : TyX K H (.ref a) (.type "tuple") := by
  rcases h with (h | ⟨o, h⟩) | ⟨o, its, n, e, c, _⟩
  · exact .base (.tup h)
  · exact .fTuple h
  · exact .kTuple e c
/-! ### sizes -/
theorem lcm_snoc : ∀ (fs : List (Int × Int)) (b : Int) (f : Int × Int), lcmF b (fs ++ [f]) = lcmF b fs / (Int.gcd (lcmF b fs) f.2 : Int) * f.2
  | [], b, f => rfl
  | g :: fs, b, f => lcm_snoc fs _ f
theorem gcd_pos {a b : Int} (h : 0 < b) : (0 : Int) < (Int.gcd a b : Int) := by
  have : Int.gcd a b ≠ 0 := fun z => by
    have := (Int.gcd_eq_zero_iff.mp z).2
    omega
  omega
theorem gcd_le {a b : Int} (h : 0 < b) : (Int.gcd a b : Int) ≤ b := Int.le_of_dvd h (Int.gcd_dvd_right a b)
theorem lcm_bound : ∀ (fs : List (Int × Int)) (b : Int) (m : Nat), 0 < b → b.natAbs < 2 ^ m → (∀ f ∈ fs, 0 < f.2 ∧ f.2.natAbs < 2 ^ 64) → (lcmF b fs).natAbs < 2 ^ (m + 64 * fs.length)
  | [], b, m, _, h, _ => h
  | f :: fs, b, m, hb, h, hf => by
    have ⟨f1, f2⟩ := hf f List.mem_cons_self
    have g0 := gcd_pos (a := b) f1
    have s := step_lcm hb f1
    have q : (b / (Int.gcd b f.2 : Int) * f.2).natAbs < 2 ^ (m + 64) := wide_lt (wide_le (Int.ediv_nonneg (Int.le_of_lt hb) (Int.le_of_lt g0)) (Int.ediv_le_self _ (Int.le_of_lt hb)) h) f2
    have ih := lcm_bound fs _ _ s.1 q (fun g hg => hf g (List.mem_cons_of_mem _ hg))
    rw [List.length_cons, show m + 64 * (fs.length + 1) = m + 64 + 64 * fs.length by omega]
    exact ih
theorem pow_le {a b : Nat} (h : a ≤ b) : 2 ^ a ≤ 2 ^ b := Nat.pow_le_pow_right (by decide) h
/-- shares that can be parted by -/
structure Good (fs : List (Int × Int)) : Prop where
  len0 : 1 ≤ fs.length
  len1 : fs.length ≤ 64
  each : ∀ f ∈ fs, 0 ≤ f.1 ∧ 0 < f.2 ∧ f.1.natAbs < 2 ^ 64 ∧ f.2.natAbs < 2 ^ 64 ∧ Int.gcd f.1 f.2 = 1
  some : ∃ f ∈ fs, 0 < f.1
theorem Good.pos {fs : List (Int × Int)} (g : Good fs) : ∀ f ∈ fs, 0 < f.2 := fun f hf => (g.each f hf).2.1
theorem Good.lcm {fs : List (Int × Int)} (g : Good fs) : Lcm 1 (lcmF 1 fs) fs := lcm_is fs 1 (by decide) g.pos
theorem Good.sum {fs : List (Int × Int)} (g : Good fs) : 0 < (wtsOf fs).sum ∧ ∀ w ∈ wtsOf fs, 0 ≤ w := wtsOf_sum_pos (fun f hf => ⟨(g.each f hf).1, (g.each f hf).2.1⟩) g.some
theorem Good.lcmB {fs : List (Int × Int)} (g : Good fs) : (lcmF 1 fs).natAbs < 2 ^ 4097 :=
  Nat.lt_of_lt_of_le (lcm_bound fs 1 1 (by decide) (by decide) (fun f hf => ⟨(g.each f hf).2.1, (g.each f hf).2.2.2.1⟩)) (pow_le (by have := g.len1; omega))
theorem Good.quo {fs : List (Int × Int)} (g : Good fs) : ∀ f ∈ fs, 0 ≤ lcmF 1 fs / f.2 ∧ (lcmF 1 fs / f.2).natAbs < 2 ^ 4097 := fun f hf => by
  have h0 : 0 ≤ lcmF 1 fs / f.2 := Int.ediv_nonneg (Int.le_of_lt g.lcm.pos) (Int.le_of_lt (g.pos f hf))
  exact ⟨h0, wide_le h0 (Int.ediv_le_self _ (Int.le_of_lt g.lcm.pos)) g.lcmB⟩
theorem Good.wB {fs : List (Int × Int)} (g : Good fs) : ∀ w ∈ wtsOf fs, w.natAbs < 2 ^ 4161 := fun w hw => by
  unfold wtsOf wts at hw
  obtain ⟨f, hf, rfl⟩ := List.mem_map.mp hw
  exact wide_lt (a := 64) (b := 4097) (g.each f hf).2.2.1 (g.quo f hf).2
theorem sum_abs {B : Nat} : ∀ ws : List Int, (∀ w ∈ ws, w.natAbs < B) → ws.sum.natAbs ≤ ws.length * B
  | [], _ => by simp
  | w :: ws, h => by
    have ih := sum_abs ws (fun x hx => h x (List.mem_cons_of_mem _ hx))
    have h0 := h w List.mem_cons_self
    rw [List.sum_cons, List.length_cons, Nat.add_mul, Nat.one_mul]
    have := Int.natAbs_add_le w ws.sum
    omega
theorem Good.sumB {fs : List (Int × Int)} (g : Good fs) : (wtsOf fs).sum.natAbs < 2 ^ 4168 := by
  have h := sum_abs (wtsOf fs) g.wB
  rw [wtsOf_len] at h
  have h1 := g.len1
  have h2 : fs.length * 2 ^ 4161 ≤ 64 * 2 ^ 4161 := Nat.mul_le_mul_right _ h1
  have h3 : 64 * 2 ^ 4161 < 2 ^ 4168 := by
    rw [show (4168 : Nat) = 7 + 4161 by rfl, Nat.pow_add]
    exact Nat.mul_lt_mul_of_pos_right (by decide) (Nat.pow_pos (by decide))
  exact Nat.lt_of_le_of_lt h (Nat.lt_of_le_of_lt h2 h3)
/-! ### a def of the text -/
structure Df (K : PySem.W.Frag) (mg : Str → Option Value) (name : Str) (st : Stmt) (f : Addr) (fd : FuncData) (ps : List Str) : Prop where
  fn : Fun K name name st f fd
  mg : mg name = some (.ref f)
  bd : Binds K fd ps []
end Wd

set_option Elab.async false
set_option linter.all false
set_option maxRecDepth 100000
set_option maxHeartbeats 4000000
set_option exponentiation.threshold 5000
namespace Wd3
open PySem PySem.Spec PyProof.Rows L2 WdM Wd
def topS (i : Nat) : Stmt := PySem.Challenge.pw_willdealt_k03_whole_pennies_hang_togethe.main.body.getD i (.Pass ⟨0, 0, 0, 0⟩)
abbrev sWhole : Stmt := topS 7
abbrev sCm : Stmt := topS 8
abbrev sFrac : Stmt := topS 9
abbrev sAre : Stmt := topS 10
abbrev sWts : Stmt := topS 11
abbrev sParted : Stmt := topS 12
theorem scWhole : FnScope ["thing"] ["thing"] (defScope sWhole) := ⟨rfl, rfl, rfl, by decide +kernel, rfl, by decide +kernel, by decide +kernel⟩
theorem scCm : FnScope ["one", "other"] ["one", "other"] (defScope sCm) := ⟨rfl, rfl, rfl, by decide +kernel, rfl, by decide +kernel, by decide +kernel⟩
theorem scFrac : FnScope ["thing", "top", "bottom"] ["thing"] (defScope sFrac) := ⟨rfl, rfl, rfl, by decide +kernel, rfl, by decide +kernel, by decide +kernel⟩
theorem scAre : FnScope ["thing", "share"] ["thing"] (defScope sAre) := ⟨rfl, rfl, rfl, by decide +kernel, rfl, by decide +kernel, by decide +kernel⟩
theorem scWts : FnScope ["shares", "bottom", "share"] ["shares"] (defScope sWts) := ⟨rfl, rfl, rfl, by decide +kernel, rfl, by decide +kernel, by decide +kernel⟩
theorem scParted : FnScope ["amount", "shares", "weights", "together", "weight", "pennies", "lacking", "at"] ["amount", "shares"] (defScope sParted) := ⟨rfl, rfl, rfl, by decide +kernel, rfl, by decide +kernel, by decide +kernel⟩
theorem tyes {σ : L2.St} {H : Hp} {f : Bool → Hp → Prop} (h : f true H) : tYes σ H f := h
/-- the built-ins' names that the top leaves alone -/
structure Bl (mg : Str → Option Value) : Prop where
  isi : mg "isinstance" = none
  int : mg "int" = none
  bool : mg "bool" = none
  tuple : mg "tuple" = none
  len : mg "len" = none
  abs : mg "abs" = none
  all : mg "all" = none
  any : mg "any" = none
  sum : mg "sum" = none
  enum : mg "enumerate" = none
section
variable {P : Program} {w : World} {K : PySem.W.Frag} {mg : Str → Option Value} {base : Heap}
def spWhole (K : PySem.W.Frag) : Sp := fun vs H Q _ => ∃ (x : V) (t : Value) (b1 b2 : Bool), vs = [x] ∧ TyX K H x t ∧ PySem.W.kitOne K t (.type "int") = some b1 ∧ PySem.W.kitOne K t (.type "bool") = some b2 ∧ Q (.bl (b1 && !b2)) H
theorem ok_whole {f : Addr} {fd : FuncData} {k : Nat} (B : Bl mg) (D : Df K mg "is_whole" sWhole f fd ["thing"]) : FnOk P w K mg base CX0 (k + 1) f fd ["thing"] (spWhole K) := by
  refine D.fn.ok scWhole (fun vs H Q E h => ?_) (fun cdv A outer s H vs Q E hr h => ?_)
  · obtain ⟨x, t, b1, b2, rfl, _⟩ := h
    rfl
  · obtain ⟨x, t, b1, b2, rfl, ty, k1, k2, q⟩ := h
    refine ⟨_, pss_one (ps_ret (pe_and (pe_callB call_isi (by rfl) B.isi boot_isinstance (pa_cons (pv 0) (pa_cons (pe_bltn (v := .ty "int") (by rfl) B.int boot_int rfl) pa_nil)))
      (pe_one (pe_not (pe_callB call_isi (by rfl) B.isi boot_isinstance (pa_cons (pv 0) (pa_cons (pe_bltn (v := .ty "bool") (by rfl) B.bool boot_bool rfl) pa_nil))))))), ?_⟩
    refine ⟨x, rfl, x, .ty "int", t, _, b1, rfl, .ty _, ty, k1, b1, rfl, ?_⟩
    cases b1 with
    | false => exact iteF q
    | true => exact iteT ⟨x, rfl, x, .ty "bool", t, _, b2, rfl, .ty _, ty, k2, b2, rfl, q⟩
theorem kII : PySem.W.kitOne K (.type "int") (.type "int") = some true := kit_ty (by decide +kernel)
theorem kIB : PySem.W.kitOne K (.type "int") (.type "bool") = some false := kit_ty (by decide +kernel)
def spCm : Sp := fun vs H Q _ => ∃ a b : Int, vs = [.int a, .int b] ∧ 0 ≤ a ∧ 0 ≤ b ∧ Q (.int (Int.gcd a b : Nat)) H
theorem ok_cm {f : Addr} {fd : FuncData} {k : Nat} (D : Df K mg "common_measure" sCm f fd ["one", "other"]) : FnOk P w K mg base CX0 (k + 1) f fd ["one", "other"] spCm := by
  refine D.fn.ok scCm (fun vs H Q E h => ?_) (fun cdv A outer s H vs Q E hr h => ?_)
  · obtain ⟨a, b, rfl, _⟩ := h
    rfl
  · obtain ⟨a, b, rfl, ha, hb, q⟩ := h
    refine ⟨_, pss_cons (ps_while PassesOwn.never (pt_cmpR op_ne (pv 1) pe_int (nomark _))
        (pss_one (ps_par (i := 0) (j := 1) rfl scCm.nd rfl rfl (by decide) rfl rfl (pa_cons (pv 1) (pa_cons (pe_op op_mod (pv 0) (pv 1)) pa_nil)) (by rfl))))
      (pss_one (ps_ret (pv 0))), ?_⟩
    refine while_by (fun σ H' => ∃ x y : Int, σ = [some (.int x), some (.int y)] ∧ 0 ≤ x ∧ 0 ≤ y ∧ Int.gcd x y = Int.gcd a b ∧ H' = H)
      (fun σ _ => match σ with | [_, some (.int y)] => y.toNat | _ => 0) ⟨a, b, rfl, ha, hb, rfl, rfl⟩ ?_ ?_
    · rintro σ H' ⟨x, y, rfl, hx, hy, hg, rfl⟩
      refine ⟨_, rfl, rfl, _, rfl, ?_⟩
      by_cases hz : y = 0
      · subst hz
        refine iteF ?_
        have e : (Int.gcd a b : Int) = x := by
          rw [← hg]
          exact gcd_end hx
        rw [e] at q
        exact ⟨_, rfl, q⟩
      · rw [show (!decide (V.int y = V.int 0)) = true by simp [hz]]
        refine iteT ?_
        have hy' : 0 < y := by omega
        refine ⟨_, rfl, _, rfl, _, rfl, x, y, rfl, rfl, hy', _, _, rfl, ⟨y, x % y, rfl, hy, Int.emod_nonneg x hz, ?_, rfl⟩, ?_⟩
        · rw [gcd_step hx hy, hg]
        · have := Int.emod_lt_of_pos x hy'
          have := Int.emod_nonneg x hz
          show (x % y).toNat < y.toNat
          omega
    · rintro σ H1 Q1 Q2 hq ⟨v, e, s, k, ek, z⟩
      exact ⟨v, e, s, k, ek, hq _ _ z⟩
def spFrac (K : PySem.W.Frag) : Sp := fun vs H Q _ => ∃ (v : V) (f : Int × Int), vs = [v] ∧ Fr K H v f ∧ 0 ≤ f.1 ∧ 0 < f.2 ∧ Int.gcd f.1 f.2 = 1 ∧ Q (.bl true) H
theorem ok_frac {f fW fC : Addr} {fd fdW fdC : FuncData} {k : Nat} (B : Bl mg) (D : Df K mg "is_fraction" sFrac f fd ["thing"]) (DW : Df K mg "is_whole" sWhole fW fdW ["thing"]) (DC : Df K mg "common_measure" sCm fC fdC ["one", "other"]) :
    FnOk P w K mg base CX0 (k + 2) f fd ["thing"] (spFrac K) := by
  have GW : FnOk P w K mg base CX0 (k + 1) fW fdW ["thing"] (spWhole K) := ok_whole B DW
  have GC : FnOk P w K mg base CX0 (k + 1) fC fdC ["one", "other"] spCm := ok_cm DC
  refine D.fn.ok scFrac (fun vs H Q E h => ?_) (fun cdv A outer s H vs Q E hr h => ?_)
  · obtain ⟨v, f, rfl, _⟩ := h
    rfl
  · obtain ⟨v, f, rfl, ⟨a, rfl, hs⟩, h0, h1, hg, q⟩ := h
    refine ⟨_, pss_cons (ps_if (PW.pt (pw_or (pt_not (pt_val (pe_callB call_isi (by rfl) B.isi boot_isinstance (pa_cons (pv 0) (pa_cons (pe_bltn (v := .ty "tuple") (by rfl) B.tuple boot_tuple rfl) pa_nil)))))
          (pw_or1 (pt_cmpR op_ne (pe_callB call_len_seq (by rfl) B.len PySem.boot_len (pa_cons (pv 0) pa_nil)) pe_int (nomark _))))) (pss_one (ps_ret pe_bl)) pss_nil)
      (pss_cons (ps_asg (pv 0) (pg_tup rfl (pgs_cons (pg_name (i := 1) scFrac.nd rfl (.inl rfl)) (pgs_cons (pg_name (i := 2) scFrac.nd rfl (.inl rfl)) pgs_nil))))
      (pss_cons (ps_if (PW.pt (pw_or (pt_not (pt_val (pe_call GW hr (by rfl) DW.mg DW.fn.kp DW.bd .nil pass0 (pa_cons (pv 1) pa_nil))))
          (pw_or (pt_not (pt_val (pe_call GW hr (by rfl) DW.mg DW.fn.kp DW.bd .nil pass0 (pa_cons (pv 2) pa_nil)))) (pw_or1 (pt_cmpR op_lt (pv 2) pe_int (nomark _)))))) (pss_one (ps_ret pe_bl)) pss_nil)
      (pss_one (ps_ret (pe_cmpR op_eq (pe_call GC hr (by rfl) DC.mg DC.fn.kp DC.bd .nil pass0 (pa_cons (pe_callB call_abs (by rfl) B.abs (by decide +kernel) (pa_cons (pv 1) pa_nil)) (pa_cons (pv 2) pa_nil))) pe_int (nomark _)))))), ?_⟩
    refine ⟨_, rfl, _, .ty "tuple", .type "tuple", .type "tuple", true, rfl, .ty _, tyT hs, kit_ty (by decide +kernel), true, rfl, ?_⟩
    refine iteF ⟨_, rfl, a, _, rfl, .inr hs, rfl, _, rfl, iteF ?_⟩
    refine ⟨_, rfl, a, _, rfl, hs, rfl, _, _, rfl, _, _, rfl, rfl, ?_⟩
    refine ⟨_, rfl, _, _, _, _, rfl, .base (.int _), kII, kIB, true, rfl, iteF ⟨_, rfl, _, _, _, _, rfl, .base (.int _), kII, kIB, true, rfl, iteF ⟨_, rfl, f.2, 1, rfl, rfl, _, rfl, ?_⟩⟩⟩
    rw [decide_eq_false (show ¬ f.2 < 1 by omega)]
    refine iteF ⟨_, rfl, f.1, rfl, _, rfl, f.1, f.2, ?_, h0, by omega, rfl, ?_⟩
    · rw [if_neg (by omega)]
      rfl
    · rw [hg]
      exact q
def spAre (K : PySem.W.Frag) : Sp := fun vs H Q _ => ∃ (v : V) (fs : List (Int × Int)), vs = [v] ∧ Sh K H v fs ∧ Good fs ∧ ∀ H', Same H H' → Q (.bl true) H'
theorem all_true (n : Nat) : (List.replicate n true).all id = true := by
  induction n with
  | zero => rfl
  | succ n ih => rw [List.replicate_succ, List.all_cons, ih]; rfl
theorem ok_are {f fF fW fC : Addr} {fd fdF fdW fdC : FuncData} {tM : Tok} {k : Nat} (B : Bl mg) (gM : mg "MOST_SHARES" = some (.int 64 tM)) (D : Df K mg "are_shares" sAre f fd ["thing"]) (DF : Df K mg "is_fraction" sFrac fF fdF ["thing"])
    (DW : Df K mg "is_whole" sWhole fW fdW ["thing"]) (DC : Df K mg "common_measure" sCm fC fdC ["one", "other"]) :
    FnOk P w K mg base CX0 (k + 3) f fd ["thing"] (spAre K) := by
  have GF : FnOk P w K mg base CX0 (k + 2) fF fdF ["thing"] (spFrac K) := ok_frac B DF DW DC
  refine D.fn.ok scAre (fun vs H Q E h => ?_) (fun cdv A outer s H vs Q E hr h => ?_)
  · obtain ⟨v, f, rfl, _⟩ := h
    rfl
  · obtain ⟨v, fs, rfl, ⟨a, xs, rfl, hs, hf⟩, G, q⟩ := h
    have hlen : xs.length = fs.length := hf.1
    refine ⟨_, pss_cons (ps_if (PW.pt (pw_or (pt_not (pt_val (pe_callB call_isi (by rfl) B.isi boot_isinstance (pa_cons (pv 0) (pa_cons (pe_bltn (v := .ty "tuple") (by rfl) B.tuple boot_tuple rfl) pa_nil)))))
          (pw_or1 (pt_not (pt_chain op_le op_le pe_int (pe_callB call_len_seq (by rfl) B.len PySem.boot_len (pa_cons (pv 0) pa_nil)) (pe_glob (v := .int 64) (by rfl) gM ⟨_, rfl⟩)))))) (pss_one (ps_ret pe_bl)) pss_nil)
      (pss_cons (ps_if (pt_not (pt_val (pe_callB (cr_all rfl) (by rfl) B.all (by decide +kernel) (pa_cons
          (pe_lc (own := [("share", 1)]) (g := gName 1) (tt := tYes) rfl scAre.nd (pi_tup (pv 0)) (blkOk_by (own := [("share", 1)]) (N := ["thing", "share"]) (sc := defScope sAre) (by decide +kernel))
            (fun _ _ _ _ _ => pg_name (i := 1) scAre.nd rfl (Or.inl rfl)) (fun _ _ _ _ _ => pts_nil)
            (fun _ _ _ _ _ => pe_and (pe_call GF hr (by rfl) DF.mg DF.fn.kp DF.bd .nil pass0 (pa_cons (pv 1) pa_nil)) (pe_one (pe_cmpR op_ge (pe_ix (r := rIxT K) ix_tup (pv 1) pe_int (fun _ _ => rfl)) pe_int (nomark _))))) pa_nil))))
          (pss_one (ps_ret pe_bl)) pss_nil)
      (pss_one (ps_ret (pe_callB (cr_any rfl) (by rfl) B.any (by decide +kernel) (pa_cons
          (pe_lc (own := [("share", 1)]) (g := gName 1) (tt := tYes) rfl scAre.nd (pi_tup (pv 0)) (blkOk_by (own := [("share", 1)]) (N := ["thing", "share"]) (sc := defScope sAre) (by decide +kernel))
            (fun _ _ _ _ _ => pg_name (i := 1) scAre.nd rfl (Or.inl rfl)) (fun _ _ _ _ _ => pts_nil)
            (fun _ _ _ _ _ => pe_cmpR op_gt (pe_ix (r := rIxT K) ix_tup (pv 1) pe_int (fun _ _ => rfl)) pe_int (nomark _))) pa_nil))))), ?_⟩
    refine ⟨_, rfl, _, .ty "tuple", .type "tuple", .type "tuple", true, rfl, .ty _, tyT hs, kit_ty (by decide +kernel), true, rfl, ?_⟩
    refine iteF ⟨_, rfl, a, _, rfl, .inr hs, 1, _, rfl, rfl, _, rfl, ?_⟩
    have l0 := G.len0
    have l1 := G.len1
    rw [decide_eq_true (show (1 : Int) ≤ (xs.length : Int) by omega)]
    refine iteT ⟨_, _, rfl, rfl, _, rfl, ?_⟩
    rw [decide_eq_true (show (xs.length : Int) ≤ 64 by omega)]
    refine iteF ?_
    -- all
    refine ⟨_, rfl, a, rfl, ⟨xs, hs⟩, fun L nL => lc_tup (K := K) (a := a) (xs := xs) (fun i H' => H' L = some (.lst ((List.replicate i true).map V.bl)) ∧ Same H H') ⟨upd_same, same_new nL⟩ (fun i H' _ h => tk_same h.2 |>.sq hs) ?_ ?_⟩
    · rintro i x H' hx ⟨hL, sm⟩
      obtain ⟨f, p, hfi, rfl, hp⟩ := (hf.tk (tk_same sm)).get hx
      have ⟨e1, e2, _, _, e5⟩ := G.each f (List.mem_of_getElem? hfi)
      refine ⟨rfl, tyes (iteT ⟨_, rfl, _, f, rfl, ⟨p, rfl, hp⟩, e1, e2, e5, true, rfl, iteT ⟨_, rfl, p, _, 0, .int f.1, rfl, rfl, hp, atI_nat (j := 0) rfl, f.1, 0, rfl, rfl, ?_⟩⟩)⟩
      have il := lt_get hx
      refine ⟨_, hL, ?_, ?_, ?_⟩
      · rw [List.length_map, List.length_replicate]
        exact small1000 (by omega)
      · rw [upd_same, List.replicate_succ', List.map_append]
        show some (HO.lst (_ ++ [V.bl (decide (0 ≤ f.1))])) = _
        rw [decide_eq_true e1]
        rfl
      · exact ((Bt.of_same (S := []) sm).upd0 nL).same
    · rintro H' ⟨hL, sm⟩
      refine ⟨L, _, rfl, sqL hL, _, rfl, ?_⟩
      rw [all_true]
      refine iteF ?_
      have hs' := (tk_same sm).sq hs
      refine ⟨_, rfl, a, rfl, ⟨xs, hs'⟩, fun L2 nL2 => lc_tup (K := K) (a := a) (xs := xs) (fun i H2 => H2 L2 = some (.lst (((fs.take i).map fun f => decide (0 < f.1)).map V.bl)) ∧ Same H H2) ⟨upd_same, sm.trans (same_new nL2)⟩ (fun i H' _ h => tk_same h.2 |>.sq hs) ?_ ?_⟩
      · rintro i x H2 hx ⟨hL2, sm2⟩
        obtain ⟨f, p, hfi, rfl, hp⟩ := (hf.tk (tk_same sm2)).get hx
        refine ⟨rfl, tyes (iteT ⟨_, rfl, p, _, 0, .int f.1, rfl, rfl, hp, atI_nat (j := 0) rfl, f.1, 0, rfl, rfl, ?_⟩)⟩
        have il := lt_get hx
        refine ⟨_, hL2, ?_, ?_, ?_⟩
        · rw [List.length_map, List.length_map, List.length_take]
          exact small1000 (by omega)
        · rw [upd_same, take_more hfi, List.map_append, List.map_append]
          rfl
        · exact ((Bt.of_same (S := []) sm2).upd0 (sm.free nL2)).same
      · rintro H2 ⟨hL2, sm2⟩
        refine ⟨L2, _, rfl, sqL hL2, ?_⟩
        have e : (((fs.take xs.length).map fun f => decide (0 < f.1)).any id) = true := by
          rw [hlen, List.take_length, List.any_map]
          obtain ⟨f, hf, hp⟩ := G.some
          exact List.any_eq_true.mpr ⟨f, hf, decide_eq_true hp⟩
        rw [e]
        exact q H2 sm2
def spWts (K : PySem.W.Frag) : Sp := fun vs H Q _ => ∃ (v : V) (fs : List (Int × Int)), vs = [v] ∧ Sh K H v fs ∧ Good fs ∧ ∀ H' p, Same H H' → H p = none → H' p = some (.lst ((wtsOf fs).map V.int)) → Q (.ref p) H'
theorem ok_wts {f fC : Addr} {fd fdC : FuncData} {k : Nat} (D : Df K mg "whole_weights" sWts f fd ["shares"]) (DC : Df K mg "common_measure" sCm fC fdC ["one", "other"]) :
    FnOk P w K mg base CX0 (k + 2) f fd ["shares"] (spWts K) := by
  have GC : FnOk P w K mg base CX0 (k + 1) fC fdC ["one", "other"] spCm := ok_cm DC
  refine D.fn.ok scWts (fun vs H Q E h => ?_) (fun cdv A outer s H vs Q E hr h => ?_)
  · obtain ⟨v, f, rfl, _⟩ := h
    rfl
  · obtain ⟨v, fs, rfl, ⟨a, xs, rfl, hs, hf⟩, G, q⟩ := h
    have hlen : xs.length = fs.length := hf.1
    have l1 := G.len1
    refine ⟨_, pss_cons (ps_set (i := 1) scWts.nd rfl (.inr rfl) pe_int)
      (pss_cons (ps_for PassesOwn.never rfl (pi_tup (pv 0)) (pg_name (i := 2) scWts.nd rfl (.inl rfl))
        (pss_one (ps_set (i := 1) scWts.nd rfl (.inr rfl) (pe_op op_mulW (pe_op op_fdivW (pv 1) (pe_call GC hr (by rfl) DC.mg DC.fn.kp DC.bd .nil pass0 (pa_cons (pv 1) (pa_cons (pe_ix (r := rIxT K) ix_tup (pv 2) pe_int (fun _ _ => rfl)) pa_nil)))) (pe_ix (r := rIxT K) ix_tup (pv 2) pe_int (fun _ _ => rfl))))))
      (pss_one (ps_ret (pe_lc (own := [("share", 2)]) (g := gName 2) (tt := tYes) rfl scWts.nd (pi_tup (pv 0)) (blkOk_by (own := [("share", 2)]) (N := ["shares", "bottom", "share"]) (sc := defScope sWts) (by decide +kernel))
            (fun _ _ _ _ _ => pg_name (i := 2) scWts.nd rfl (Or.inl rfl)) (fun _ _ _ _ _ => pts_nil)
            (fun _ _ _ _ _ => pe_op op_mulW (pe_ix (r := rIxT K) ix_tup (pv 2) pe_int (fun _ _ => rfl)) (pe_op op_fdivW (pv 1) (pe_ix (r := rIxT K) ix_tup (pv 2) pe_int (fun _ _ => rfl)))))))), ?_⟩
    refine ⟨_, rfl, a, rfl, ⟨xs, hs⟩, for_tup (K := K) (a := a) (xs := xs) (fun i σ H' => ∃ y, σ = [some (.ref a), some (.int (lcmF 1 (fs.take i))), y] ∧ H' = H) ⟨none, rfl, rfl⟩ (fun i σ H' _ ⟨_, _, e⟩ => by rw [e]; exact hs) ?_ ?_⟩
    · rintro i x σ H' hx ⟨y, rfl, rfl⟩
      obtain ⟨f, p, hfi, rfl, hp⟩ := hf.get hx
      have ⟨e1, e2, e3, e4, e5⟩ := G.each f (List.mem_of_getElem? hfi)
      have hsub : ∀ g ∈ fs.take i, 0 < g.2 := fun g hg => G.pos g (List.mem_of_mem_take hg)
      have c := lcm_is (fs.take i) 1 (by decide) hsub
      have cb : (lcmF 1 (fs.take i)).natAbs < 2 ^ 4097 := Nat.lt_of_lt_of_le (lcm_bound (fs.take i) 1 1 (by decide) (by decide) (fun g hg => ⟨hsub g hg, (G.each g (List.mem_of_mem_take hg)).2.2.2.1⟩)) (pow_le (by rw [List.length_take]; omega))
      have g0 := gcd_pos (a := lcmF 1 (fs.take i)) e2
      refine ⟨_, rfl, _, rfl, _, rfl, p, _, 1, .int f.2, rfl, rfl, hp, atI_nat (j := 1) rfl, _, _, rfl, Int.le_of_lt c.pos, Int.le_of_lt e2, _, _, rfl, rfl,
        wide_div g0 (wide_le (Int.le_of_lt g0) (gcd_le e2) e4) (by decide) (by decide), _, rfl, p, _, 1, .int f.2, rfl, rfl, hp, atI_nat (j := 1) rfl, _, _, rfl, rfl, ?_, ?_⟩
      · exact wide_mul (wide_le (Int.ediv_nonneg (Int.le_of_lt c.pos) (Int.le_of_lt g0)) (Int.ediv_le_self _ (Int.le_of_lt c.pos)) cb) e4 (by decide) (by decide) (by decide)
      · refine ⟨some (.ref p), ?_, rfl⟩
        rw [take_more hfi, lcm_snoc]
        rfl
    · rintro σ H' ⟨y, rfl, rfl⟩
      rw [hlen, List.take_length]
      have c := G.lcm
      refine ⟨_, rfl, a, rfl, ⟨xs, hs⟩, fun L nL => lc_tup (K := K) (a := a) (xs := xs) (fun i H2 => H2 L = some (.lst (((wtsOf fs).take i).map V.int)) ∧ Same H' H2) ⟨upd_same, same_new nL⟩ (fun i H' _ h => tk_same h.2 |>.sq hs) ?_ ?_⟩
      · rintro i x H2 hx ⟨hL, sm⟩
        obtain ⟨f, p, hfi, rfl, hp⟩ := (hf.tk (tk_same sm)).get hx
        have hm := List.mem_of_getElem? hfi
        have ⟨e1, e2, e3, e4, e5⟩ := G.each f hm
        have ⟨q1, q2⟩ := G.quo f hm
        have hw : (wtsOf fs)[i]? = some (f.1 * (lcmF 1 fs / f.2)) := by
          unfold wtsOf wts
          rw [List.getElem?_map, hfi]
          rfl
        refine ⟨rfl, tyes (iteT ⟨_, rfl, p, _, 0, .int f.1, rfl, rfl, hp, atI_nat (j := 0) rfl, _, rfl, _, rfl, p, _, 1, .int f.2, rfl, rfl, hp, atI_nat (j := 1) rfl, _, _, rfl, rfl, wide_div e2 e4 (by decide) (by decide), _, _, rfl, rfl, wide_mul e3 q2 (by decide) (by decide) (by decide), ?_⟩)⟩
        have il := lt_get hx
        refine ⟨_, hL, ?_, ?_, ?_⟩
        · rw [List.length_map, List.length_take]
          exact small1000 (by omega)
        · rw [upd_same, take_more hw, List.map_append]
          rfl
        · exact ((Bt.of_same (S := []) sm).upd0 nL).same
      · rintro H2 ⟨hL, sm⟩
        rw [hlen, ← wtsOf_len fs, List.take_length] at hL
        exact q H2 L sm nL hL
def spParted (K : PySem.W.Frag) : Sp := fun vs H Q _ => ∃ (a : Int) (v : V) (fs : List (Int × Int)), vs = [.int a, v] ∧ 0 ≤ a ∧ a ≤ 1000000000000 ∧ Sh K H v fs ∧ Good fs ∧
  ∀ H' p, Same H H' → H p = none → H' p = some (.tup ((dealt a (wtsOf fs)).map V.int)) → Q (.ref p) H'
theorem drop_get {α : Type} {l : List α} {i : Nat} {x : α} (h : l[i]? = some x) : l.drop i = x :: l.drop (i + 1) := by
  obtain ⟨hi, e⟩ := List.getElem?_eq_some_iff.mp h
  rw [List.drop_eq_getElem_cons hi, e]
theorem ixN_nat {n i : Nat} (h : i < n) : ixN n (i : Int) = some i := by
  unfold ixN
  rw [if_pos (by omega), if_pos (by omega)]
  rfl
theorem set_done {done r : List Int} {x y : Int} {i : Nat} (h : done.length = i) : ((done ++ x :: r).map V.int).set i (.int y) = ((done ++ [y]) ++ r).map V.int := by
  subst h
  simp
theorem get_done {done r : List Int} {x : Int} {i : Nat} (h : done.length = i) : ((done ++ x :: r).map V.int)[i]? = some (.int x) := by
  subst h
  simp
theorem deal_cons (a T k w : Int) (ws : List Int) : deal a T k (w :: ws) = if 0 < k ∧ a * w % T ≠ 0 then (a * w / T + 1) :: deal a T (k - 1) ws else a * w / T :: deal a T k ws := rfl
theorem ok_parted {f fW fC fF fA fT : Addr} {fd fdW fdC fdF fdA fdT : FuncData} {tM tP : Tok} {k : Nat} (B : Bl mg) (gM : mg "MOST_SHARES" = some (.int 64 tM)) (gP : mg "MOST_PENNIES" = some (.int 1000000000000 tP))
    (D : Df K mg "parted" sParted f fd ["amount", "shares"]) (DA : Df K mg "are_shares" sAre fA fdA ["thing"]) (DT : Df K mg "whole_weights" sWts fT fdT ["shares"]) (DF : Df K mg "is_fraction" sFrac fF fdF ["thing"])
    (DW : Df K mg "is_whole" sWhole fW fdW ["thing"]) (DC : Df K mg "common_measure" sCm fC fdC ["one", "other"]) :
    FnOk P w K mg base CX0 (k + 4) f fd ["amount", "shares"] (spParted K) := by
  have GW : FnOk P w K mg base CX0 1 fW fdW ["thing"] (spWhole K) := ok_whole (k := 0) B DW
  have GT : FnOk P w K mg base CX0 2 fT fdT ["shares"] (spWts K) := ok_wts (k := 0) DT DC
  have GA : FnOk P w K mg base CX0 3 fA fdA ["thing"] (spAre K) := ok_are (k := 0) B gM DA DF DW DC
  refine D.fn.ok scParted (fun vs H Q E h => ?_) (fun cdv A outer s H vs Q E hr h => ?_)
  · obtain ⟨a, v, f, rfl, _⟩ := h
    rfl
  · obtain ⟨a, v, fs, rfl, a0, a1, hsh, G, q⟩ := h
    have r1 : Room 1 _ := hr.mono (by omega)
    have r2 : Room 2 _ := hr.mono (by omega)
    have r3 : Room 3 _ := hr.mono (by omega)
    refine ⟨_, pss_cons (ps_if (PW.pt (pw_or (pt_not (pt_val (pe_call GW r1 (by rfl) DW.mg DW.fn.kp DW.bd .nil pass0 (pa_cons (pv 0) pa_nil))))
          (pw_or1 (pt_not (pt_chain op_le op_le pe_int (pv 0) (pe_glob (v := .int 1000000000000) (by rfl) gP ⟨_, rfl⟩)))))) pss_never pss_nil)
      (pss_cons (ps_if (pt_not (pt_val (pe_call GA r3 (by rfl) DA.mg DA.fn.kp DA.bd .nil pass0 (pa_cons (pv 1) pa_nil)))) pss_never pss_nil)
      (pss_cons (ps_set (i := 2) scParted.nd rfl (.inl rfl) (pe_call GT r2 (by rfl) DT.mg DT.fn.kp DT.bd .nil pass0 (pa_cons (pv 1) pa_nil)))
      (pss_cons (ps_set (i := 3) scParted.nd rfl (.inr rfl) (pe_callB (cr_sum rfl) (by rfl) B.sum (by decide +kernel) (pa_cons (pv 2) pa_nil)))
      (pss_cons (ps_setLc (i := 5) (own := [("weight", 4)]) (g := gName 4) (tt := tYes) rfl scParted.nd rfl rfl (sw_true rfl rfl rfl (by decide +kernel)) (pi_list (pv 2))
            (blkOk_by (own := [("weight", 4)]) (N := ["amount", "shares", "weights", "together", "weight", "pennies", "lacking", "at"]) (sc := defScope sParted) (by decide +kernel))
            (fun _ _ _ _ _ => pg_name (i := 4) scParted.nd rfl (Or.inl rfl)) (fun _ _ _ _ _ => pts_nil)
            (fun _ _ _ _ _ => pe_op op_fdivW (pe_op op_mulW (pv 0) (pv 4)) (pv 3)))
      (pss_cons (ps_set (i := 6) scParted.nd rfl (.inl rfl) (pe_op op_sub (pv 0) (pe_callB (cr_sum rfl) (by rfl) B.sum (by decide +kernel) (pa_cons (pv 5) pa_nil))))
      (pss_cons (ps_for PassesOwn.never rfl (pi_enum (by rfl) B.enum (pa_cons (pv 2) pa_nil)) (pg_tup rfl (pgs_cons (pg_name (i := 7) scParted.nd rfl (.inl rfl)) (pgs_cons (pg_name (i := 4) scParted.nd rfl (.inl rfl)) pgs_nil)))
        (pss_one (ps_if (PW.pt (pw_and (pt_cmpR op_gt (pv 6) pe_int (nomark _)) (pw_and1 (pt_cmpR op_ne (pe_op op_mod (pe_op op_mulW (pv 0) (pv 4)) (pv 3)) pe_int (nomark _)))))
          (pss_cons (ps_augS (pv 5) (pv 7) (get_list (X := _)) pe_int ip_add set_list) (pss_one (ps_aug (i := 6) scParted.nd rfl (.inl rfl) pe_int ip_sub))) pss_nil)))
      (pss_one (ps_ret (pe_callTy call_tuple_of (by rfl) B.tuple boot_tuple (pa_cons (pv 5) pa_nil)))))))))), ?_⟩
    -- the refusals
    refine ⟨_, rfl, _, _, _, _, rfl, .base (.int _), kII, kIB, true, rfl, iteF ⟨_, rfl, 0, a, rfl, rfl, _, rfl, ?_⟩⟩
    rw [decide_eq_true a0]
    refine iteT ⟨a, _, rfl, rfl, _, rfl, ?_⟩
    rw [decide_eq_true a1]
    refine iteF ⟨_, rfl, v, fs, rfl, hsh, G, fun H1 sm1 => ⟨true, rfl, iteF ?_⟩⟩
    -- weights, together
    refine ⟨_, rfl, v, fs, rfl, hsh.tk (tk_same sm1), G, fun H2 wL sm2 nw hw => ?_⟩
    refine ⟨_, rfl, wL, _, rfl, sqL hw, ?_⟩
    have T0 := G.sum.1
    have TB := G.sumB
    have wB := G.wB
    have s2 : Same H H2 := sm1.trans sm2
    have lw : (wtsOf fs).length ≤ 64 := by
      rw [wtsOf_len]
      exact G.len1
    have nwH : H wL = none := sm1.free nw
    revert hw TB wB T0 lw q
    generalize wtsOf fs = ws
    intro q hw T0 TB wB lw
    have aB : a.natAbs < 2 ^ 64 := Nat.lt_of_le_of_lt (show a.natAbs ≤ 1000000000000 by omega) (by decide)
    have dv : ∀ x : Int, CDivW x ws.sum := fun x => wide_div T0 TB (by decide) (by decide)
    -- pennies
    refine ⟨_, rfl, wL, rfl, ⟨_, sqL hw⟩, fun pL nL => lc_list (K := K) (a := wL) (xs := ws.map V.int) (fun i H3 => H3 pL = some (.lst (((bases a ws.sum ws).take i).map V.int)) ∧ Same H2 H3) ⟨upd_same, same_new nL⟩ (fun i H' _ h => sqL (h.2 _ _ hw)) ?_ ?_⟩
    · rintro i x H3 hx ⟨hL, sm⟩
      obtain ⟨wt, hwt, rfl⟩ := ints_get hx
      refine ⟨rfl, tyes (iteT ⟨_, rfl, _, rfl, a, wt, rfl, rfl, wide_mul aB (wB wt (List.mem_of_getElem? hwt)) (by decide) (by decide) (by decide), _, rfl, _, ws.sum, rfl, rfl, dv _, ?_⟩)⟩
      have il := lt_get hwt
      have hb : (bases a ws.sum ws)[i]? = some (a * wt / ws.sum) := by
        unfold bases
        rw [List.getElem?_map, hwt]
        rfl
      refine ⟨_, hL, ?_, ?_, ?_⟩
      · rw [List.length_map, List.length_take]
        exact small1000 (by omega)
      · rw [upd_same, take_more hb, List.map_append]
        rfl
      · exact ((Bt.of_same (S := []) sm).upd0 nL).same
    · rintro H3 ⟨hp, sm3⟩
      have lb : (bases a ws.sum ws).length = ws.length := by unfold bases; rw [List.length_map]
      rw [List.length_map, ← lb, List.take_length] at hp
      have hw3 := sm3 _ _ hw
      have npw : wL ≠ pL := ne_of_none hw nL
      have s3 : Same H H3 := s2.trans sm3
      have npH : H pL = none := s2.free nL
      refine ⟨_, rfl, _, rfl, pL, bases a ws.sum ws, rfl, sqL hp, a, _, rfl, rfl, ?_⟩
      refine ⟨_, rfl, wL, ws.map V.int, rfl, sqL hw3, for_it (walk_enum (K := K) (a := wL) (xs := ws.map V.int)) (fun i σ H' => ∃ (y4 y7 : Option V) (k' : Int) (done : List Int), σ = [some (.int a), some v, some (.ref wL), some (.int ws.sum), y4, some (.ref pL), some (.int k'), y7] ∧
          done.length = i ∧ done ++ deal a ws.sum k' (ws.drop i) = dealt a ws ∧ H' pL = some (.lst ((done ++ bases a ws.sum (ws.drop i)).map V.int)) ∧ H' wL = some (.lst (ws.map V.int)) ∧ Same H H')
        ⟨none, none, _, [], rfl, rfl, rfl, hp, hw3, s3⟩ (fun i σ H' _ ⟨_, _, _, _, _, _, _, _, e, _⟩ => sqL e) ?_ ?_⟩
      · rintro i _ σ H4 _ _ ⟨y4, y7, k', done, rfl, hd, he, hp4, hw4, s4⟩ ⟨T, _, x, rfl, nT, rfl, ei, hx⟩
        cases ei
        obtain ⟨wt, hwt, rfl⟩ := ints_get hx
        have il := lt_get hwt
        have nTp : pL ≠ T := ne_of_none hp4 nT
        have nTw : wL ≠ T := ne_of_none hw4 nT
        have hp5 : (upd H4 T (.tup [.int (i : Nat), .int wt])) pL = some (.lst ((done ++ bases a ws.sum (ws.drop i)).map V.int)) := by rw [upd_ne nTp]; exact hp4
        have hw5 : (upd H4 T (.tup [.int (i : Nat), .int wt])) wL = some (.lst (ws.map V.int)) := by rw [upd_ne nTw]; exact hw4
        have s5 : Same H (upd H4 T (.tup [.int (i : Nat), .int wt])) := s4.trans (same_new nT)
        have ed := drop_get hwt
        have eb : bases a ws.sum (wt :: ws.drop (i + 1)) = a * wt / ws.sum :: bases a ws.sum (ws.drop (i + 1)) := rfl
        rw [ed, eb] at hp5
        rw [ed] at he
        refine ⟨T, _, rfl, sqT upd_same, rfl, _, _, rfl, _, _, rfl, rfl, ?_⟩
        refine ⟨_, rfl, k', 0, rfl, rfl, _, rfl, ?_⟩
        have skip : ∀ (h : ¬ (0 < k' ∧ a * wt % ws.sum ≠ 0)), ∃ (y4 y7 : Option V) (k'_1 : Int) (done : List Int), [some (V.int a), some v, some (.ref wL), some (.int ws.sum), some (.int wt), some (.ref pL), some (.int k'), some (.int (i : Nat))] = [some (.int a), some v, some (.ref wL), some (.int ws.sum), y4, some (.ref pL), some (.int k'_1), y7] ∧
          done.length = i + 1 ∧ done ++ deal a ws.sum k'_1 (ws.drop (i + 1)) = dealt a ws ∧ (upd H4 T (.tup [.int (i : Nat), .int wt])) pL = some (.lst ((done ++ bases a ws.sum (ws.drop (i + 1))).map V.int)) ∧ (upd H4 T (.tup [.int (i : Nat), .int wt])) wL = some (.lst (ws.map V.int)) ∧ Same H (upd H4 T (.tup [.int (i : Nat), .int wt])) := fun h => by
          refine ⟨_, _, k', done ++ [a * wt / ws.sum], rfl, by rw [List.length_append, hd]; rfl, ?_, ?_, hw5, s5⟩
          · rw [← he, List.append_assoc]
            rw [deal_cons, if_neg h]
            rfl
          · rw [hp5, List.append_assoc]
            rfl
        by_cases hk : 0 < k'
        · rw [decide_eq_true hk]
          refine iteT ⟨_, rfl, _, rfl, a, wt, rfl, rfl, wide_mul aB (wB wt (List.mem_of_getElem? hwt)) (by decide) (by decide) (by decide), _, rfl, _, ws.sum, rfl, rfl, T0, rfl, _, rfl, ?_⟩
          by_cases hz : a * wt % ws.sum = 0
          · rw [show (!decide (V.int (a * wt % ws.sum) = V.int 0)) = false by simp [hz]]
            exact iteF (skip (fun z => z.2 hz))
          · rw [show (!decide (V.int (a * wt % ws.sum) = V.int 0)) = true by simp [hz]]
            refine iteT ?_
            have lt2 : i < ((done ++ a * wt / ws.sum :: bases a ws.sum (ws.drop (i + 1))).map V.int).length := by
              rw [List.length_map, List.length_append, List.length_cons, hd]
              omega
            refine ⟨_, rfl, _, rfl, pL, _, (i : Int), .int (a * wt / ws.sum), rfl, rfl, by omega, sqL hp5, atI_nat (get_done hd), _, 1, rfl, rfl, pL, _, (i : Int), i, rfl, rfl, hp5, ixN_nat lt2, ?_⟩
            refine ⟨_, rfl, k', 1, rfl, rfl, ?_⟩
            refine ⟨_, _, k' - 1, done ++ [a * wt / ws.sum + 1], rfl, by rw [List.length_append, hd]; rfl, ?_, ?_, ?_, ?_⟩
            · rw [← he, List.append_assoc]
              rw [deal_cons, if_pos ⟨hk, hz⟩]
              rfl
            · rw [upd_same, set_done hd]
            · rw [upd_ne npw]
              exact hw5
            · exact ((Bt.of_same (S := []) s5).upd0 npH).same
        · rw [decide_eq_false hk]
          exact iteF (iteF (skip (fun z => hk z.1)))
      · rintro σ H4 ⟨y4, y7, k', done, rfl, hd, he, hp4, hw4, s4⟩
        rw [List.length_map, List.drop_length] at he hp4
        have e1 : done = dealt a ws := by
          rw [← he]
          unfold deal
          rw [List.append_nil]
        have e2 : done ++ bases a ws.sum [] = dealt a ws := by
          rw [e1]
          exact List.append_nil _
        rw [e2] at hp4
        refine ⟨_, rfl, pL, _, rfl, .inl ⟨sqL hp4, fun l nl => ?_⟩⟩
        exact q _ l (s4.trans (same_new nl)) (s4.free nl) upd_same
end
end Wd3

set_option Elab.async false
set_option linter.all false
set_option maxRecDepth 100000
set_option maxHeartbeats 4000000
set_option exponentiation.threshold 5000
namespace Wd3
open PySem PySem.Spec PyProof.Rows L2 WdM Wd
abbrev sPool : Stmt := topS 14
abbrev sTake : Stmt := topS 15
abbrev sLow : Stmt := topS 16
theorem scPool : FnScope ["_law_script", "_law_k", "_law_cell", "_law_mix", "_law_found", "_law_turn"] ["_law_script", "_law_k"] (defScope sPool) := ⟨rfl, rfl, rfl, by decide +kernel, rfl, by decide +kernel, by decide +kernel⟩
theorem scTake : FnScope ["_law_pool_here", "_law_many", "_law_digit"] ["_law_pool_here", "_law_many"] (defScope sTake) := ⟨rfl, rfl, rfl, by decide +kernel, rfl, by decide +kernel, by decide +kernel⟩
theorem scLow : FnScope ["_law_top", "_law_bottom", "_law_a", "_law_b"] ["_law_top", "_law_bottom"] (defScope sLow) := ⟨rfl, rfl, rfl, by decide +kernel, rfl, by decide +kernel, by decide +kernel⟩
/-- the law's own built-ins -/
structure Bm (mg : Str → Option Value) : Prop where
  divmod : mg "divmod" = none
  range : mg "range" = none
  max : mg "max" = none
  min : mg "min" = none
  zip : mg "zip" = none
  list : mg "list" = none
def PoolAt (H : Hp) (l : Addr) : Prop := ∃ n : Int, H l = some (.lst [.int n]) ∧ 0 ≤ n ∧ n.natAbs < 2 ^ 1300
theorem PoolAt.lst {H : Hp} {l : Addr} (h : PoolAt H l) : ∀ a ∈ [l], ∃ zs, H a = some (.lst zs) := fun a ha => by
  obtain ⟨n, e, _⟩ := h
  rw [List.mem_singleton.mp ha]
  exact ⟨_, e⟩
theorem PoolAt.same {H H' : Hp} {l : Addr} (h : PoolAt H l) (e : Same H H') : PoolAt H' l := by
  obtain ⟨n, a, b⟩ := h
  exact ⟨n, e _ _ a, b⟩
theorem PoolAt.ne {H : Hp} {l p : Addr} (h : PoolAt H l) (e : H p = none) : l ≠ p := by
  obtain ⟨n, a, b⟩ := h
  exact ne_of_none a e
theorem PoolAt.upd {H : Hp} {l p : Addr} {o : HO} (h : PoolAt H l) (e : l ≠ p) : PoolAt (upd H p o) l := by
  obtain ⟨n, a, b⟩ := h
  exact ⟨n, by rw [upd_ne e]; exact a, b⟩
theorem kept {S : List Addr} {H H' : Hp} {b : Addr} {o : HO} (e : Bt S H H') (h : H b = some o) (n : b ∉ S) : H' b = some o := e b o n h
section
variable {P : Program} {w : World} {K : PySem.W.Frag} {mg : Str → Option Value} {base : Heap}
def spTake : Sp := fun vs H Q _ => ∃ (l : Addr) (m : Int), vs = [.ref l, .int m] ∧ PoolAt H l ∧ 0 < m ∧ ∀ H' d, Bt [l] H H' → PoolAt H' l → 0 ≤ d → d < m → Q (.int d) H'
theorem ok_take {f : Addr} {fd : FuncData} {k : Nat} (M : Bm mg) (D : Df K mg "_law_take" sTake f fd ["_law_pool_here", "_law_many"]) : FnOk P w K mg base CX0 (k + 1) f fd ["_law_pool_here", "_law_many"] spTake := by
  refine D.fn.ok scTake (fun vs H Q E h => ?_) (fun cdv A outer s H vs Q E hr h => ?_)
  · obtain ⟨l, m, rfl, _⟩ := h
    rfl
  · obtain ⟨l, m, rfl, ⟨n, hl, n0, nB⟩, m0, q⟩ := h
    refine ⟨_, pss_cons (ps_asg (pe_callB call_divmodW (by rfl) M.divmod (by decide +kernel) (pa_cons (pe_ix (r := rIxL K) ix_list (pv 0) pe_int (fun _ _ => rfl)) (pa_cons (pv 1) pa_nil)))
        (pg_tup rfl (pgs_cons (pg_sub (pv 0) pe_int set_list) (pgs_cons (pg_name (i := 2) scTake.nd rfl (.inl rfl)) pgs_nil))))
      (pss_one (ps_ret (pv 2))), ?_⟩
    refine ⟨_, rfl, l, _, 0, .int n, rfl, rfl, sqL hl, atI_nat (j := 0) rfl, _, rfl, n, m, rfl, divp_ok m0 ?_, fun p hp => ?_⟩
    · have := PyProof.Rows.intBits_le nB
      omega
    · have nlp : l ≠ p := ne_of_none hl hp
      have hl2 : (upd H p (.tup [.int (n / m), .int (n % m)])) l = some (.lst [.int n]) := by rw [upd_ne nlp]; exact hl
      refine ⟨p, _, rfl, sqT upd_same, rfl, _, _, rfl, _, rfl, l, _, 0, 0, rfl, rfl, hl2, ixN_nat (n := 1) (i := 0) (by decide), _, _, rfl, rfl, ?_⟩
      refine ⟨_, rfl, q _ _ (((Bt.refl H).new hp).upd1 (by simp)) ⟨n / m, upd_same, Int.ediv_nonneg n0 (Int.le_of_lt m0), ?_⟩ (Int.emod_nonneg n (by omega)) (Int.emod_lt_of_pos n m0)⟩
      exact wide_le (Int.ediv_nonneg n0 (Int.le_of_lt m0)) (Int.ediv_le_self _ n0) nB
def spLow : Sp := fun vs H Q _ => ∃ x y : Int, vs = [.int x, .int y] ∧ 0 ≤ x ∧ 0 < y ∧ y.natAbs < 2 ^ 64 ∧ ∀ (p : Addr) (f : Int × Int), H p = none → 0 ≤ f.1 → 0 < f.2 → Int.gcd f.1 f.2 = 1 → f.1 * y = x * f.2 → f.1 ≤ x → f.2 ≤ y → Q (.ref p) (upd H p (.tup [.int f.1, .int f.2]))
theorem low_math {x y : Int} (hx : 0 ≤ x) (hy : 0 < y) : 0 ≤ x / (Int.gcd x y : Int) ∧ 0 < y / (Int.gcd x y : Int) ∧ Int.gcd (x / (Int.gcd x y : Int)) (y / (Int.gcd x y : Int)) = 1 ∧ x / (Int.gcd x y : Int) * y = x * (y / (Int.gcd x y : Int)) ∧ x / (Int.gcd x y : Int) ≤ x ∧ y / (Int.gcd x y : Int) ≤ y := by
  have g0 := gcd_pos (a := x) hy
  obtain ⟨u, hu⟩ := Int.gcd_dvd_left x y
  obtain ⟨v, hv⟩ := Int.gcd_dvd_right x y
  have hg : Int.gcd (x / (Int.gcd x y : Int)) (y / (Int.gcd x y : Int)) = 1 := by
    exact Int.gcd_ediv_gcd_ediv_gcd (by omega)
  generalize (Int.gcd x y : Int) = g at *
  have e1 : x / g = u := by rw [hu]; exact Int.mul_ediv_cancel_left u (by omega)
  have e2 : y / g = v := by rw [hv]; exact Int.mul_ediv_cancel_left v (by omega)
  refine ⟨Int.ediv_nonneg hx (Int.le_of_lt g0), Int.ediv_pos_of_pos_of_dvd hy (Int.le_of_lt g0) ⟨v, hv⟩, hg, ?_, Int.ediv_le_self _ hx, Int.ediv_le_self _ (Int.le_of_lt hy)⟩
  rw [e1, e2]
  conv => lhs; rw [hv]
  conv => rhs; rw [hu]
  ac_rfl
theorem ok_low {f : Addr} {fd : FuncData} {k : Nat} (D : Df K mg "_law_low" sLow f fd ["_law_top", "_law_bottom"]) : FnOk P w K mg base CX0 (k + 1) f fd ["_law_top", "_law_bottom"] spLow := by
  refine D.fn.ok scLow (fun vs H Q E h => ?_) (fun cdv A outer s H vs Q E hr h => ?_)
  · obtain ⟨l, m, rfl, _⟩ := h
    rfl
  · obtain ⟨x, y, rfl, x0, y0, yB, q⟩ := h
    refine ⟨_, pss_cons (ps_par (i := 2) (j := 3) rfl scLow.nd rfl rfl (by decide) rfl rfl (pa_cons (pv 0) (pa_cons (pv 1) pa_nil)) (by rfl))
      (pss_cons (ps_while PassesOwn.never (pt_cmpR op_gt (pv 3) pe_int (nomark _))
        (pss_one (ps_par (i := 2) (j := 3) rfl scLow.nd rfl rfl (by decide) rfl rfl (pa_cons (pv 3) (pa_cons (pe_op op_mod (pv 2) (pv 3)) pa_nil)) (by rfl))))
      (pss_one (ps_ret (pe_tup (pa_cons (pe_op op_fdivW (pv 0) (pv 2)) (pa_cons (pe_op op_fdivW (pv 1) (pv 2)) pa_nil)))))), ?_⟩
    refine ⟨_, rfl, _, rfl, _, _, rfl, ?_⟩
    refine while_by (fun σ H' => ∃ a b : Int, σ = [some (.int x), some (.int y), some (.int a), some (.int b)] ∧ 0 ≤ a ∧ 0 ≤ b ∧ Int.gcd a b = Int.gcd x y ∧ H' = H)
      (fun σ _ => match σ with | [_, _, _, some (.int b)] => b.toNat | _ => 0) ⟨x, y, rfl, x0, Int.le_of_lt y0, rfl, rfl⟩ ?_ ?_
    · rintro σ H' ⟨a, b, rfl, ha, hb, hg, rfl⟩
      refine ⟨_, rfl, b, 0, rfl, rfl, _, rfl, ?_⟩
      by_cases hz : 0 < b
      · rw [decide_eq_true hz]
        refine iteT ?_
        refine ⟨_, rfl, _, rfl, _, rfl, a, b, rfl, rfl, hz, _, _, rfl, ⟨b, a % b, rfl, hb, Int.emod_nonneg a (by omega), ?_, rfl⟩, ?_⟩
        · rw [gcd_step ha hb, hg]
        · have := Int.emod_lt_of_pos a hz
          have := Int.emod_nonneg a (show b ≠ 0 by omega)
          show (a % b).toNat < b.toNat
          omega
      · rw [decide_eq_false hz]
        refine iteF ?_
        have hb0 : b = 0 := by omega
        subst hb0
        have e : a = (Int.gcd x y : Int) := by
          rw [← hg]
          exact (gcd_end ha).symm
        have g0 := gcd_pos (a := x) y0
        have gB := wide_le (Int.le_of_lt g0) (gcd_le (a := x) y0) yB
        subst e
        have ⟨m1, m2, m3, m4, m5, m6⟩ := low_math x0 y0
        refine ⟨_, rfl, _, rfl, x, _, rfl, rfl, wide_div g0 gB (by decide) (by decide), _, rfl, _, rfl, y, _, rfl, rfl, wide_div g0 gB (by decide) (by decide), by show 2 ≤ sizeLine; decide, fun p hp => ?_⟩
        exact q p (_, _) hp m1 m2 m3 m4 m5 m6
    · rintro σ H1 Q1 Q2 hq ⟨v, e, i, j, e1, e2, k, ek, z⟩
      exact ⟨v, e, i, j, e1, e2, k, ek, hq _ _ z⟩
def spPool (K : PySem.W.Frag) : Sp := fun vs H Q _ => ∃ (a : Addr) (ns : List Int) (i : Int), vs = [.ref a, .int i] ∧ SqL K H a (ns.map V.int) ∧ 0 ≤ i ∧ i < 64 ∧ ∀ H' l, Same H H' → H l = none → PoolAt H' l → Q (.ref l) H'
theorem found_step {f x : Int} {m : Nat} (h0 : 0 ≤ f) (h1 : f.natAbs < 2 ^ m) (h2 : 0 ≤ x) (h3 : x < 99999999977) : 0 ≤ f * 100000000000 + x ∧ (f * 100000000000 + x).natAbs < 2 ^ (m + 37) := by
  rw [Nat.pow_add]
  generalize 2 ^ m = B at *
  rw [show (2 : Nat) ^ 37 = 137438953472 by decide]
  omega
theorem cut_ints (ns : List Int) (lo hi : Option Int) : ∃ ms : List Int, cutV (ns.map V.int) lo hi = ms.map V.int := by
  unfold cutV
  exact ⟨(ns.drop _).take _, by rw [List.map_take, List.map_drop]⟩
theorem ok_pool {f : Addr} {fd : FuncData} {k : Nat} (B : Bl mg) (M : Bm mg) (D : Df K mg "_law_pool" sPool f fd ["_law_script", "_law_k"]) : FnOk P w K mg base CX0 (k + 1) f fd ["_law_script", "_law_k"] (spPool K) := by
  refine D.fn.ok scPool (fun vs H Q E h => ?_) (fun cdv A outer s H vs Q E hr h => ?_)
  · obtain ⟨l, m, i, rfl, _⟩ := h
    rfl
  · obtain ⟨a, ns, i, rfl, hs, i0, i1, q⟩ := h
    refine ⟨_, pss_cons (ps_set (i := 2) scPool.nd rfl (.inl rfl) (pe_callB (cr_sum rfl) (by rfl) B.sum (by decide +kernel) (pa_cons (pe_slice sl_list (pv 0) (po_some (pv 1)) (po_some (pe_op op_add (pv 1) pe_int))) pa_nil)))
      (pss_cons (ps_if (PW.pt (pw_or (pt_cmpR op_lt (pv 2) pe_int (nomark _)) (pw_or1 (pt_cmpR op_ge (pv 2) (pe_op op_pow pe_int pe_int) (nomark _)))))
        (pss_one (ps_ret (pe_lst (pa_cons (pe_op op_mod (pe_callB call_abs (by rfl) B.abs (by decide +kernel) (pa_cons (pv 2) pa_nil))
          (pe_op op_mulW (pe_op op_mulW (pe_op op_mulW (pe_op op_mulW (pe_op op_mulW (pe_op op_pow pe_int pe_int) (pe_op op_pow pe_int pe_int)) (pe_op op_pow pe_int pe_int)) (pe_op op_pow pe_int pe_int)) (pe_op op_pow pe_int pe_int)) (pe_op op_pow pe_int pe_int))) pa_nil)))) pss_nil)
      (pss_cons (ps_set (i := 3) scPool.nd rfl (.inl rfl) (pe_op op_add (pe_op op_add (pe_op op_mul (pv 2) pe_int) (pe_op op_mul (pe_op op_mul pe_int (pv 1)) (pv 1))) pe_int))
      (pss_cons (ps_set (i := 4) scPool.nd rfl (.inl rfl) pe_int)
      (pss_cons (ps_for PassesOwn.never rfl (pi_range1 (by rfl) M.range (pa_cons pe_int pa_nil)) (pg_name (i := 5) scPool.nd rfl (.inl rfl))
        (pss_cons (ps_set (i := 3) scPool.nd rfl (.inl rfl) (pe_op op_mod (pe_op op_add (pe_op op_add (pe_op op_mul (pe_op op_mod (pv 3) pe_int) pe_int) (pe_op op_mul pe_int (pv 5))) pe_int) pe_int))
        (pss_one (ps_set (i := 4) scPool.nd rfl (.inl rfl) (pe_op op_add (pe_op op_mulW (pv 4) (pe_op op_pow pe_int pe_int)) (pe_op op_mod (pe_op op_mul (pv 3) (pe_op op_add (pe_op op_mod (pv 3) pe_int) pe_int)) pe_int))))))
      (pss_one (ps_ret (pe_lst (pa_cons (pv 4) pa_nil)))))))), ?_⟩
    refine ⟨_, rfl, _, rfl, i, rfl, _, rfl, i, 1, rfl, rfl, i + 1, rfl, a, _, rfl, hs, fun p hp => ?_⟩
    obtain ⟨ms, em⟩ := cut_ints ns (some i) (some (i + 1))
    have sm : Same H (upd H p (.lst (cutV (ns.map V.int) (some i) (some (i + 1))))) := same_new hp
    refine ⟨p, ms, rfl, sqL (by rw [upd_same, em]), ?_⟩
    generalize ms.sum = c
    revert sm
    generalize upd H p (.lst (cutV (ns.map V.int) (some i) (some (i + 1)))) = H1
    intro sm
    refine ⟨_, rfl, c, 0, rfl, rfl, _, rfl, ?_⟩
    have huge : ∀ (Q2 : V → Hp → Prop), (∀ l n, H1 l = none → 0 ≤ n → n.natAbs < 2 ^ 1300 → Q2 (.ref l) (upd H1 l (.lst [.int n]))) →
        tLst (tCons (tOp (rI (fun _ j => 0 < j) fun i j => .int (i % j)) (tCB (fun xs H Q => ∃ i, xs = [.int i] ∧ Q (.int (if i < 0 then -i else i)) H) (tCons (tVar 2) tNil))
          (tOp (rI CMulW fun i j => .int (i * j)) (tOp (rI CMulW fun i j => .int (i * j)) (tOp (rI CMulW fun i j => .int (i * j)) (tOp (rI CMulW fun i j => .int (i * j)) (tOp (rI CMulW fun i j => .int (i * j)) (tOp (rI CPow fun i j => .int (i ^ j.toNat)) (tC (.int 10)) (tC (.int 64))) (tOp (rI CPow fun i j => .int (i ^ j.toNat)) (tC (.int 10)) (tC (.int 64)))) (tOp (rI CPow fun i j => .int (i ^ j.toNat)) (tC (.int 10)) (tC (.int 64)))) (tOp (rI CPow fun i j => .int (i ^ j.toNat)) (tC (.int 10)) (tC (.int 64)))) (tOp (rI CPow fun i j => .int (i ^ j.toNat)) (tC (.int 10)) (tC (.int 64)))) (tOp (rI CPow fun i j => .int (i ^ j.toNat)) (tC (.int 10)) (tC (.int 64))))) tNil)
          [some (.ref a), some (.int i), some (.int c), none, none, none] H1 Q2 := fun Q2 h => by
      have cp : CPow 10 64 := ⟨by decide, by decide, by decide⟩
      have t0 : ((10 : Int) ^ (64 : Int).toNat).natAbs < 2 ^ 213 := by decide
      have b0 : (0 : Int) < (10 : Int) ^ (64 : Int).toNat := by decide
      generalize he : (10 : Int) ^ (64 : Int).toNat = t at t0 b0
      have t1 := wide_lt t0 t0
      have t2 := wide_lt t1 t0
      have t3 := wide_lt t2 t0
      have t4 := wide_lt t3 t0
      have t5 := wide_lt t4 t0
      have b5 : 0 < t * t * t * t * t * t := Int.mul_pos (Int.mul_pos (Int.mul_pos (Int.mul_pos (Int.mul_pos b0 b0) b0) b0) b0) b0
      have hv := congrArg V.int he
      refine ⟨_, rfl, c, rfl, 10, 64, rfl, rfl, cp, 10, 64, rfl, rfl, cp, t, t, hv, hv, wide_mul t0 t0 (by decide) (by decide) (by decide), 10, 64, rfl, rfl, cp,
        t * t, t, rfl, hv, wide_mul t1 t0 (by decide) (by decide) (by decide), 10, 64, rfl, rfl, cp, t * t * t, t, rfl, hv, wide_mul t2 t0 (by decide) (by decide) (by decide), 10, 64, rfl, rfl, cp,
        t * t * t * t, t, rfl, hv, wide_mul t3 t0 (by decide) (by decide) (by decide), 10, 64, rfl, rfl, cp, t * t * t * t * t, t, rfl, hv, wide_mul t4 t0 (by decide) (by decide) (by decide),
        _, _, rfl, rfl, b5, by show 1 ≤ sizeLine; decide, fun l hl => h l _ hl (Int.emod_nonneg _ (by omega)) ?_⟩
      have := Int.emod_lt_of_pos (if c < 0 then -c else c) b5
      exact Nat.lt_of_lt_of_le (wide_le (Int.emod_nonneg _ (by omega)) (Int.le_of_lt this) t5) (pow_le (by decide))
    have fin : ∀ l n, H1 l = none → 0 ≤ n → n.natAbs < 2 ^ 1300 → Q (.ref l) (upd H1 l (.lst [.int n])) := fun l n hl h0 hB => q _ l (sm.trans (same_new hl)) (sm.free hl) ⟨n, upd_same, h0, hB⟩
    by_cases hneg : c < 0
    · rw [decide_eq_true hneg]
      exact iteT (iteT (huge Q fin))
    · rw [decide_eq_false hneg]
      refine iteF ⟨_, rfl, 10, 18, rfl, rfl, ⟨by decide, by decide, by decide⟩, c, _, rfl, rfl, _, rfl, ?_⟩
      by_cases hbig : (10 : Int) ^ (18 : Int).toNat ≤ c
      · rw [decide_eq_true hbig]
        exact iteT (huge Q fin)
      · rw [decide_eq_false hbig]
        have hc : c < 1000000000000000000 := by
          have : (10 : Int) ^ (18 : Int).toNat = 1000000000000000000 := by decide
          omega
        refine iteF ?_
        refine ⟨_, rfl, c, 48271, rfl, rfl, .inr ⟨by decide, by decide⟩, _, rfl, 977, i, rfl, rfl, .inl ⟨by decide, by decide⟩, _, rfl, _, i, rfl, rfl, .inr ⟨by omega, by omega⟩, _, _, rfl, rfl, _, 13, rfl, rfl, ?_⟩
        have m0 : 0 ≤ c * 48271 + 977 * i * i + 13 := by
          have := Int.mul_nonneg (show 0 ≤ 977 * i by omega) i0
          omega
        refine ⟨27, rfl, by decide, by decide, for_range (lo := 0) (n := 27) (fun j σ H' => ∃ (mm ff : Int) (y : Option V), σ = [some (.ref a), some (.int i), some (.int c), some (.int mm), some (.int ff), y] ∧ 0 ≤ mm ∧ 0 ≤ ff ∧ ff.natAbs < 2 ^ (37 * j) ∧ H' = H1)
          ⟨_, 0, none, rfl, m0, Int.le_refl 0, by decide, rfl⟩ ?_ ?_⟩
        · rintro j σ H' hj ⟨mm, ff, y, rfl, g1, g2, g3, rfl⟩
          have r0 := Int.emod_nonneg mm (show (999999999989 : Int) ≠ 0 by decide)
          have r1 := Int.emod_lt_of_pos mm (show (0 : Int) < 999999999989 by decide)
          refine ⟨_, rfl, mm, 999999999989, rfl, rfl, by show (0 : Int) < 999999999989; decide, _, 69621, rfl, rfl, .inr ⟨by decide, by decide⟩, _, rfl, 40503, _, rfl, rfl, .inl ⟨by decide, by decide⟩, _, _, rfl, rfl, _, 271, rfl, rfl, _, 999999999989, rfl, rfl, by show (0 : Int) < 999999999989; decide, ?_⟩
          have s0 := Int.emod_nonneg (mm % 999999999989 * 69621 + 40503 * (0 + (j : Int)) + 271) (show (999999999989 : Int) ≠ 0 by decide)
          have s1 := Int.emod_lt_of_pos (mm % 999999999989 * 69621 + 40503 * (0 + (j : Int)) + 271) (show (0 : Int) < 999999999989 by decide)
          have fB : ff.natAbs < 2 ^ 1000 := Nat.lt_of_lt_of_le g3 (pow_le (by omega))
          refine ⟨_, rfl, 10, 11, rfl, rfl, ⟨by decide, by decide, by decide⟩, ff, _, rfl, rfl, wide_mul fB (show ((10 : Int) ^ (11 : Int).toNat).natAbs < 2 ^ 64 by decide) (by decide) (by decide) (by decide), _, rfl, _, rfl, _, 65537, rfl, rfl, by show (0 : Int) < 65537; decide, _, 3, rfl, rfl, _, _, rfl, rfl, .inl ⟨Int.lt_of_lt_of_le (by decide) s0, Int.lt_trans s1 (by decide)⟩, _, 99999999977, rfl, rfl, by show (0 : Int) < 99999999977; decide, _, _, rfl, rfl, ?_⟩
          refine ⟨_, _, _, rfl, s0, ?_, ?_, rfl⟩
          · exact (found_step g2 g3 (Int.emod_nonneg _ (by decide)) (Int.emod_lt_of_pos _ (by decide))).1
          · exact (found_step g2 g3 (Int.emod_nonneg _ (by decide)) (Int.emod_lt_of_pos _ (by decide))).2
        · rintro σ H' ⟨mm, ff, y, rfl, g1, g2, g3, rfl⟩
          exact ⟨_, rfl, by show 1 ≤ sizeLine; decide, fun l hl => fin l ff hl g2 (Nat.lt_of_lt_of_le g3 (pow_le (by decide)))⟩
end
end Wd3

set_option Elab.async false
set_option linter.all false
set_option maxRecDepth 100000
set_option maxHeartbeats 4000000
set_option exponentiation.threshold 5000
namespace Wd3
open PySem PySem.Spec PyProof.Rows L2 WdM Wd
abbrev sShares : Stmt := topS 17
abbrev sBetween : Stmt := topS 18
theorem scShares : FnScope ["_law_pool_here", "_law_found", "_law_turn", "_law_wide", "_law_top", "_law_bottom"] ["_law_pool_here"] (defScope sShares) := ⟨rfl, rfl, rfl, by decide +kernel, rfl, by decide +kernel, by decide +kernel⟩
theorem scBetween : FnScope ["_law_pool_here", "_law_portions", "_law_found", "_law_places", "_law_share"] ["_law_pool_here", "_law_portions"] (defScope sBetween) := ⟨rfl, rfl, rfl, by decide +kernel, rfl, by decide +kernel, by decide +kernel⟩
def Fine (f : Int × Int) : Prop := 0 ≤ f.1 ∧ f.1 ≤ 1000000 ∧ 0 < f.2 ∧ f.2 ≤ 1000000 ∧ Int.gcd f.1 f.2 = 1
structure Gd (fs : List (Int × Int)) : Prop where
  len0 : 1 ≤ fs.length
  len1 : fs.length ≤ 10
  each : ∀ f ∈ fs, Fine f
  some : ∃ f ∈ fs, 0 < f.1
theorem menu3 {d : Int} (h0 : 0 ≤ d) (h1 : d < 3) : ∃ wd : Int, atI [V.int 3, .int 12, .int (10 ^ (6 : Int).toNat)] d = some (.int wd) ∧ 1 ≤ wd ∧ wd ≤ 1000000 := by
  have : d = 0 ∨ d = 1 ∨ d = 2 := by omega
  rcases this with rfl | rfl | rfl
  · exact ⟨3, rfl, by decide, by decide⟩
  · exact ⟨12, rfl, by decide, by decide⟩
  · exact ⟨10 ^ (6 : Int).toNat, rfl, by decide, by decide⟩
theorem menu2 {d wd : Int} (h0 : 0 ≤ d) (h1 : d < 2) (hw : 1 ≤ wd) (hw' : wd ≤ 1000000) : ∃ x : Int, atI [V.int 1, .int wd] d = some (.int x) ∧ 1 ≤ x ∧ x ≤ 1000000 := by
  have : d = 0 ∨ d = 1 := by omega
  rcases this with rfl | rfl
  · exact ⟨1, rfl, by decide, by decide⟩
  · exact ⟨wd, rfl, hw, hw'⟩
theorem big_small {x : Int} (h0 : 0 ≤ x) (h1 : x ≤ 1000000000000) : x.natAbs < 2 ^ 64 := Nat.lt_of_le_of_lt (show x.natAbs ≤ 1000000000000 by omega) (by decide)
theorem cut1 (xs : List V) : cutV xs (some 1) none = xs.drop 1 := by
  unfold cutV
  rw [show HT.sIx xs.length 0 (some 1) = min 1 xs.length from HT.sIx_nat xs.length 0 1, HT.sIx_none]
  cases xs with
  | nil => rfl
  | cons x r =>
    rw [show min 1 (x :: r).length = 1 by
      rw [List.length_cons]
      omega]
    show (List.take ((x :: r).length - 1) r) = r
    rw [List.length_cons, Nat.add_sub_cancel]
    exact List.take_length
section
variable {P : Program} {w : World} {K : PySem.W.Frag} {mg : Str → Option Value} {base : Heap}
def spShares (K : PySem.W.Frag) : Sp := fun vs H Q _ => ∃ l : Addr, vs = [.ref l] ∧ PoolAt H l ∧ ∀ H' v fs, Bt [l] H H' → PoolAt H' l → Sh K H' v fs → Gd fs → Q v H'
theorem ok_shares {f fT fL : Addr} {fd fdT fdL : FuncData} {k : Nat} (B : Bl mg) (M : Bm mg) (D : Df K mg "_law_shares" sShares f fd ["_law_pool_here"]) (DT : Df K mg "_law_take" sTake fT fdT ["_law_pool_here", "_law_many"]) (DL : Df K mg "_law_low" sLow fL fdL ["_law_top", "_law_bottom"]) :
    FnOk P w K mg base CX0 (k + 2) f fd ["_law_pool_here"] (spShares K) := by
  have GT : FnOk P w K mg base CX0 (k + 1) fT fdT ["_law_pool_here", "_law_many"] spTake := ok_take M DT
  have GL : FnOk P w K mg base CX0 (k + 1) fL fdL ["_law_top", "_law_bottom"] spLow := ok_low DL
  refine D.fn.ok scShares (fun vs H Q E h => ?_) (fun cdv A outer s H vs Q E hr h => ?_)
  · obtain ⟨l, rfl, _⟩ := h
    rfl
  · obtain ⟨l, rfl, pl, q⟩ := h
    refine ⟨_, pss_cons (ps_set (i := 1) scShares.nd rfl (.inl rfl) (pe_lst pa_nil))
      (pss_cons (ps_for PassesOwn.never rfl (pi_range1 (by rfl) M.range (pa_cons (pe_op op_add pe_int (pe_call GT hr (by rfl) DT.mg DT.fn.kp DT.bd .nil pass0 (pa_cons (pv 0) (pa_cons pe_int pa_nil)))) pa_nil)) (pg_name (i := 2) scShares.nd rfl (.inl rfl))
        (pss_cons (ps_set (i := 3) scShares.nd rfl (.inl rfl) (pe_ix (r := rIxL K) ix_list (pe_lst (pa_cons pe_int (pa_cons pe_int (pa_cons (pe_op op_pow pe_int pe_int) pa_nil)))) (pe_call GT hr (by rfl) DT.mg DT.fn.kp DT.bd .nil pass0 (pa_cons (pv 0) (pa_cons pe_int pa_nil))) (fun _ _ => rfl)))
        (pss_cons (ps_par (i := 4) (j := 5) rfl scShares.nd rfl rfl (by decide) rfl rfl (pa_cons (pe_call GT hr (by rfl) DT.mg DT.fn.kp DT.bd .nil pass0 (pa_cons (pv 0) (pa_cons (pe_op op_add (pv 3) pe_int) pa_nil)))
            (pa_cons (pe_op op_add pe_int (pe_call GT hr (by rfl) DT.mg DT.fn.kp DT.bd .nil pass0 (pa_cons (pv 0) (pa_cons (pe_ix (r := rIxL K) ix_list (pe_lst (pa_cons pe_int (pa_cons (pv 3) pa_nil))) (pe_call GT hr (by rfl) DT.mg DT.fn.kp DT.bd .nil pass0 (pa_cons (pv 0) (pa_cons pe_int pa_nil))) (fun _ _ => rfl)) pa_nil)))) pa_nil)) (by rfl))
        (pss_one (ps_expr (pe_bm PySem.F.plainAttrs_list PySem.F.slot_list_append PySem.F.type_list_append mt_append (pv 1) (pa_cons (pe_call GL hr (by rfl) DL.mg DL.fn.kp DL.bd .nil pass0 (pa_cons (pv 4) (pa_cons (pv 5) pa_nil))) pa_nil)))))))
      (pss_one (ps_ret (pe_ifExp (pt_cmpR op_gt (pe_callB (cr_max rfl) (by rfl) M.max (by decide +kernel) (pa_cons
          (pe_lc (own := [("_law_top", 4), ("_law_bottom", 5)]) (g := gTup K 2 (gCons (gName 4) (gCons (gName 5) gNil))) (tt := tYes) rfl scShares.nd (pi_list (pv 1)) (blkOk_by (own := [("_law_top", 4), ("_law_bottom", 5)]) (N := ["_law_pool_here", "_law_found", "_law_turn", "_law_wide", "_law_top", "_law_bottom"]) (sc := defScope sShares) (by decide +kernel))
            (fun _ _ _ _ _ => pg_tup rfl (pgs_cons (pg_name (i := 4) scShares.nd rfl (.inl rfl)) (pgs_cons (pg_name (i := 5) scShares.nd rfl (.inl rfl)) pgs_nil))) (fun _ _ _ _ _ => pts_nil)
            (fun _ _ _ _ _ => pv 4)) pa_nil)) pe_int (nomark _))
          (pe_callTy call_tuple_of (by rfl) B.tuple boot_tuple (pa_cons (pv 1) pa_nil))
          (pe_op op_catA (pe_tup (pa_cons (pe_tup (pa_cons pe_int (pa_cons pe_int pa_nil))) pa_nil)) (pe_callTy call_tuple_of (by rfl) B.tuple boot_tuple (pa_cons (pe_slice sl_list (pv 1) (po_some pe_int) po_none) pa_nil))))))), ?_⟩
    refine ⟨Nat.zero_le _, fun L nL => ?_⟩
    have nlL : l ≠ L := pl.ne nL
    have nLl : L ∉ [l] := by simp [nlL.symm]
    have pl1 : PoolAt (upd H L (.lst [])) l := pl.upd nlL
    refine ⟨_, rfl, l, 10, rfl, pl1, by decide, fun H1 d b1 pl2 d0 d1 => ?_⟩
    refine ⟨1, d, rfl, rfl, 1 + d, rfl, by omega, by omega, for_range (lo := 0) (n := (1 + d).toNat) (fun i σ H' => ∃ (y2 y3 y4 y5 : Option V) (xs : List V) (fs : List (Int × Int)), σ = [some (.ref l), some (.ref L), y2, y3, y4, y5] ∧ H' L = some (.lst xs) ∧ xs.length = i ∧ FrAll K H' xs fs ∧ (∀ f ∈ fs, Fine f) ∧ PoolAt H' l ∧ Bt [l] H H')
      ⟨none, none, none, none, [], [], rfl, kept b1 upd_same nLl, rfl, .nil, fun f hf => by (cases hf), pl2, ((Bt.refl H).new nL).trans b1⟩ ?_ ?_⟩
    · rintro i σ H2 hi ⟨y2, y3, y4, y5, xs, fs, rfl, hL, hx, hf, hfi, p2, b2⟩
      -- wide
      refine ⟨10, 6, rfl, rfl, ⟨by decide, by decide, by decide⟩, by show 3 ≤ sizeLine; decide, fun m nm => ?_⟩
      have p3 : PoolAt (upd H2 m (.lst [.int 3, .int 12, .int (10 ^ (6 : Int).toNat)])) l := p2.upd (p2.ne nm)
      refine ⟨_, rfl, l, 3, rfl, p3, by decide, fun H3 d3 b3 p4 d30 d31 => ?_⟩
      obtain ⟨wd, hwd, w0, w1⟩ := menu3 d30 d31
      have nml : m ∉ [l] := by simp [(p2.ne nm).symm]
      have hm3 : H3 m = some (.lst [.int 3, .int 12, .int (10 ^ (6 : Int).toNat)]) := kept b3 upd_same nml
      have bt3 : Bt [l] H2 H3 := ((Bt.refl H2).new nm).trans b3
      refine ⟨m, _, d3, .int wd, rfl, rfl, sqL hm3, hwd, ?_⟩
      -- top
      refine ⟨_, rfl, _, rfl, wd, 1, rfl, rfl, l, wd + 1, rfl, p4, by omega, fun H4 t b4 p5 t0 t1 => ?_⟩
      have bt4 : Bt [l] H2 H4 := bt3.trans b4
      -- bottom
      refine ⟨_, rfl, _, rfl, by show 2 ≤ sizeLine; decide, fun m2 nm2 => ?_⟩
      have p6 : PoolAt (upd H4 m2 (.lst [.int 1, .int wd])) l := p5.upd (p5.ne nm2)
      refine ⟨_, rfl, l, 2, rfl, p6, by decide, fun H5 d5 b5 p7 d50 d51 => ?_⟩
      obtain ⟨x5, hx5, x50, x51⟩ := menu2 d50 d51 w0 w1
      have nm2l : m2 ∉ [l] := by simp [(p5.ne nm2).symm]
      have hm5 : H5 m2 = some (.lst [.int 1, .int wd]) := kept b5 upd_same nm2l
      have bt5 : Bt [l] H2 H5 := (bt4.new nm2).trans b5
      refine ⟨m2, _, d5, .int x5, rfl, rfl, sqL hm5, hx5, l, x5, rfl, p7, by omega, fun H6 bo b6 p8 bo0 bo1 => ?_⟩
      have bt6 : Bt [l] H2 H6 := bt5.trans b6
      refine ⟨1, bo, rfl, rfl, _, _, rfl, ?_⟩
      -- append
      have hL6 : H6 L = some (.lst xs) := kept bt6 hL nLl
      refine ⟨_, rfl, .inl ⟨rfl, _, sqL hL6⟩, _, rfl, _, rfl, t, 1 + bo, rfl, t0, by omega, big_small (by omega) (by omega), fun p f np f0 f1 fg fe fx fy => ?_⟩
      have nLp : L ≠ p := ne_of_none hL6 np
      have hL7 : (upd H6 p (.tup [.int f.1, .int f.2])) L = some (.lst xs) := by rw [upd_ne nLp]; exact hL6
      refine ⟨L, xs, _, rfl, rfl, hL7, small1000 (by omega), ?_⟩
      have tk : Tk H2 (upd (upd H6 p (.tup [.int f.1, .int f.2])) L (.lst (xs ++ [.ref p]))) := (bt6.tk p2.lst).trans ((tk_new np).trans (tk_lst hL7))
      refine ⟨_, _, _, _, xs ++ [.ref p], fs ++ [f], rfl, upd_same, by rw [List.length_append, hx]; rfl, (hf.tk tk).snoc ⟨p, rfl, sqT (by rw [upd_ne nLp.symm, upd_same])⟩, ?_, ?_, ?_⟩
      · intro g hg
        rcases List.mem_append.mp hg with hg | hg
        · exact hfi g hg
        · rw [List.mem_singleton.mp hg]
          exact ⟨f0, by omega, f1, by omega, fg⟩
      · exact (p8.upd (p8.ne np)).upd nlL
      · exact ((b2.trans bt6).new np).upd0 nL
    · rintro σ H2 ⟨y2, y3, y4, y5, xs, fs, rfl, hL, hx, hf, hfi, p2, b2⟩
      have lf : fs.length = (1 + d).toNat := by rw [← hf.1, hx]
      -- max of the tops
      refine ⟨_, rfl, L, rfl, ⟨xs, sqL hL⟩, fun R nR => lc_list (K := K) (a := L) (xs := xs) (fun i H' => H' R = some (.lst (((fs.take i).map (·.1)).map V.int)) ∧ Same H2 H') ⟨upd_same, same_new nR⟩ (fun i H' _ h => sqL (h.2 _ _ hL)) ?_ ?_⟩
      · rintro i x H3 hxi ⟨hR, sm⟩
        obtain ⟨f, p, hfx, rfl, hp⟩ := (hf.tk (tk_same sm)).get hxi
        refine ⟨p, _, rfl, hp, rfl, _, _, rfl, _, _, rfl, rfl, rfl, tyes (iteT ⟨_, rfl, _, hR, ?_, ?_, ?_⟩)⟩
        · have := lt_get hxi
          rw [List.length_map, List.length_map, List.length_take]
          exact small1000 (by omega)
        · rw [upd_same, take_more hfx, List.map_append, List.map_append]
          rfl
        · exact ((Bt.of_same (S := []) sm).upd0 nR).same
      · rintro H3 ⟨hR, sm⟩
        rw [hf.1, List.take_length] at hR
        have hL3 := sm _ _ hL
        have hf3 := hf.tk (tk_same sm)
        have b3 : Bt [l] H H3 := b2.trans (.of_same sm)
        have p3 := p2.same sm
        refine ⟨R, fs.map (·.1), rfl, sqL hR, by rw [List.length_map]; omega, fun mx hm hmx => ⟨mx, 0, rfl, rfl, _, rfl, ?_⟩⟩
        by_cases hpos : 0 < mx
        · rw [decide_eq_true hpos]
          refine iteT ⟨_, rfl, L, xs, rfl, .inl ⟨sqL hL3, fun r nr => ?_⟩⟩
          refine q _ _ fs (b3.new nr) (p3.upd (p3.ne nr)) ⟨r, xs, rfl, sqT upd_same, hf3.tk (tk_new nr)⟩ ⟨by omega, by omega, hfi, ?_⟩
          obtain ⟨f, hfm, rfl⟩ := List.mem_map.mp hm
          exact ⟨f, hfm, hpos⟩
        · rw [decide_eq_false hpos]
          refine iteF ⟨by show 2 ≤ sizeLine; decide, fun o no => ⟨by show 1 ≤ sizeLine; decide, fun o2 no2 => ?_⟩⟩
          have hL4 : (upd (upd H3 o (.tup [.int 1, .int 1])) o2 (.tup [.ref o])) L = some (.lst xs) := by
            rw [upd_ne (ne_of_none (show (upd H3 o (.tup [.int 1, .int 1])) L = some (.lst xs) by rw [upd_ne (ne_of_none hL3 no)]; exact hL3) no2), upd_ne (ne_of_none hL3 no)]
            exact hL3
          refine ⟨_, rfl, 1, rfl, L, xs, rfl, sqL hL4, fun c nc => ⟨c, _, rfl, .inl ⟨sqL upd_same, fun r nr => ?_⟩⟩⟩
          have s4 : Same H3 (upd (upd H3 o (.tup [.int 1, .int 1])) o2 (.tup [.ref o])) := (same_new no).trans (same_new no2)
          have s5 := s4.trans ((same_new (o := .lst (cutV xs (some 1) none)) nc).trans (same_new (o := .tup (cutV xs (some 1) none)) nr))
          rw [cut1] at s5
          have h4 : (upd (upd (upd (upd H3 o (.tup [.int 1, .int 1])) o2 (.tup [.ref o])) c (.lst (cutV xs (some 1) none))) r (.tup (cutV xs (some 1) none))) = (upd (upd (upd (upd H3 o (.tup [.int 1, .int 1])) o2 (.tup [.ref o])) c (.lst (xs.drop 1))) r (.tup (xs.drop 1))) := by rw [cut1]
          rw [h4]
          rw [cut1] at nr
          have ho : (upd (upd H3 o (.tup [.int 1, .int 1])) o2 (.tup [.ref o])) o = some (.tup [.int 1, .int 1]) := same_new no2 _ _ upd_same
          have ho2 : (upd (upd H3 o (.tup [.int 1, .int 1])) o2 (.tup [.ref o])) o2 = some (.tup [.ref o]) := upd_same
          have s6 : Same (upd (upd H3 o (.tup [.int 1, .int 1])) o2 (.tup [.ref o])) (upd (upd (upd (upd H3 o (.tup [.int 1, .int 1])) o2 (.tup [.ref o])) c (.lst (xs.drop 1))) r (.tup (xs.drop 1))) := (same_new (by rw [cut1] at *; exact nc)).trans (same_new nr)
          have ho5 := s6 _ _ ho
          have ho25 := s6 _ _ ho2
          have hr5 : (upd (upd (upd (upd H3 o (.tup [.int 1, .int 1])) o2 (.tup [.ref o])) c (.lst (xs.drop 1))) r (.tup (xs.drop 1))) r = some (.tup (xs.drop 1)) := upd_same
          revert ho5 ho25 hr5 s5
          generalize (upd (upd (upd (upd H3 o (.tup [.int 1, .int 1])) o2 (.tup [.ref o])) c (.lst (xs.drop 1))) r (.tup (xs.drop 1))) = H5
          intro s5 ho5 ho25 hr5
          have lx : xs.length ≤ 10 := by omega
          have p5 := p3.same s5
          have b5 : Bt [l] H H5 := b3.trans (.of_same s5)
          have hdr := (hf3.drop 1).tk (tk_same s5)
          have hall := (FrAll.one (K := K) (H := H5) (x := .ref o) (f := (1, 1)) ⟨o, rfl, sqT ho5⟩).append hdr
          have gd : Gd ([(1, 1)] ++ fs.drop 1) := by
            refine ⟨?_, ?_, fun f hfm => ?_, ⟨(1, 1), by simp, by decide⟩⟩
            · rw [List.length_append, List.length_drop]; show 1 ≤ 1 + _; omega
            · rw [List.length_append, List.length_drop]; show 1 + _ ≤ 10; omega
            · rcases List.mem_append.mp hfm with hfm | hfm
              · rw [List.mem_singleton.mp hfm]
                exact ⟨by decide, by decide, by decide, by decide, by decide⟩
              · exact hfi f (List.mem_of_mem_drop hfm)
          refine ⟨o2, r, [.ref o], xs.drop 1, rfl, rfl, sqT ho25, sqT hr5, ?_, fun z => (by cases z), fun _ hn => ?_, fun _ hn z nz => ?_⟩
          · rw [List.length_drop]
            exact small_line (show 1 + (xs.length - 1) ≤ 20 by omega)
          · rw [hn, List.append_nil] at hall
            exact q H5 _ _ b5 p5 ⟨o2, _, rfl, sqT ho25, hall⟩ gd
          · exact q _ _ _ (b5.new nz) (p5.upd (p5.ne nz)) ⟨z, _, rfl, sqT upd_same, hall.tk (tk_new nz)⟩ gd
def tI (m : List (Bool × (Int × Int))) : List Int := (trues 0 (m.map (·.1))).map fun n : Nat => (n : Int)
structure Mk (fs : List (Int × Int)) (m : List (Bool × (Int × Int))) : Prop where
  off : ∀ x ∈ m, x.1 = false → x.2 = (0, 1)
  on : (m.filter (·.1)).map (·.2) = fs
def spBetween (K : PySem.W.Frag) : Sp := fun vs H Q _ => ∃ (l : Addr) (v : V) (fs : List (Int × Int)), vs = [.ref l, v] ∧ PoolAt H l ∧ Sh K H v fs ∧ fs.length ≤ 10 ∧
  ∀ H' T W pL m, Bt [l] H H' → PoolAt H' l → H' T = some (.tup [W, .ref pL]) → Sh K H' W (m.map (·.2)) → H' pL = some (.lst ((tI m).map V.int)) → Mk fs m → m.length ≤ 30 → Q (.ref T) H'
theorem flat_rep (o : V) : ∀ n : Nat, (List.replicate n [o]).flatten = List.replicate n o
  | 0 => rfl
  | n + 1 => by rw [List.replicate_succ, List.replicate_succ, List.flatten_cons, flat_rep o n]; rfl
theorem fr_rep {H : Hp} {x : V} {f : Int × Int} (h : Fr K H x f) : ∀ n : Nat, FrAll K H (List.replicate n x) (List.replicate n f)
  | 0 => .nil
  | n + 1 => (FrAll.one h).append (fr_rep h n)
theorem tI_more (m : List (Bool × (Int × Int))) (z : Nat) (f : Int × Int) : tI (m ++ (List.replicate z (false, (0, 1)) ++ [(true, f)])) = tI m ++ [((m.length + z : Nat) : Int)] := by
  unfold tI
  rw [List.map_append, List.map_append, List.map_replicate, trues_append, trues_append, trues_false]
  simp [trues]
theorem Mk.more {fs : List (Int × Int)} {m : List (Bool × (Int × Int))} (h : Mk fs m) (z : Nat) (f : Int × Int) : Mk (fs ++ [f]) (m ++ (List.replicate z (false, (0, 1)) ++ [(true, f)])) := by
  refine ⟨fun x hx hf => ?_, ?_⟩
  · rcases List.mem_append.mp hx with hx | hx
    · exact h.off x hx hf
    · rcases List.mem_append.mp hx with hx | hx
      · rw [List.eq_of_mem_replicate hx]
      · rw [List.mem_singleton.mp hx] at hf
        cases hf
  · have e : (List.replicate z ((false, (0, 1)) : Bool × (Int × Int))).filter (·.1) = [] := by
      induction z with
      | zero => rfl
      | succ z ih => rw [List.replicate_succ, List.filter_cons]; exact ih
    rw [List.filter_append, List.filter_append, e, List.map_append, h.on]
    rfl
theorem ok_between {f fT : Addr} {fd fdT : FuncData} {k : Nat} (B : Bl mg) (M : Bm mg) (D : Df K mg "_law_between" sBetween f fd ["_law_pool_here", "_law_portions"]) (DT : Df K mg "_law_take" sTake fT fdT ["_law_pool_here", "_law_many"]) :
    FnOk P w K mg base CX0 (k + 2) f fd ["_law_pool_here", "_law_portions"] (spBetween K) := by
  have GT : FnOk P w K mg base CX0 (k + 1) fT fdT ["_law_pool_here", "_law_many"] spTake := ok_take M DT
  refine D.fn.ok scBetween (fun vs H Q E h => ?_) (fun cdv A outer s H vs Q E hr h => ?_)
  · obtain ⟨l, v, fs, rfl, _⟩ := h
    rfl
  · obtain ⟨l, v, fs, rfl, pl, ⟨a, ys, rfl, hs, hf⟩, l10, q⟩ := h
    refine ⟨_, pss_cons (ps_par (i := 2) (j := 3) rfl scBetween.nd rfl rfl (by decide) rfl rfl (pa_cons (pe_lst pa_nil) (pa_cons (pe_lst pa_nil) pa_nil)) (by rfl))
      (pss_cons (ps_for PassesOwn.never rfl (pi_tup (pv 1)) (pg_name (i := 4) scBetween.nd rfl (.inl rfl))
        (pss_cons (ps_set (i := 2) scBetween.nd rfl (.inl rfl) (pe_op op_cat (pv 2) (pe_op op_rep (pe_lst (pa_cons (pe_tup (pa_cons pe_int (pa_cons pe_int pa_nil))) pa_nil)) (pe_call GT hr (by rfl) DT.mg DT.fn.kp DT.bd .nil pass0 (pa_cons (pv 0) (pa_cons pe_int pa_nil))))))
        (pss_cons (ps_expr (pe_bm PySem.F.plainAttrs_list PySem.F.slot_list_append PySem.F.type_list_append mt_append (pv 3) (pa_cons (pe_callB call_len_seq (by rfl) B.len PySem.boot_len (pa_cons (pv 2) pa_nil)) pa_nil)))
        (pss_one (ps_expr (pe_bm PySem.F.plainAttrs_list PySem.F.slot_list_append PySem.F.type_list_append mt_append (pv 2) (pa_cons (pv 4) pa_nil)))))))
      (pss_one (ps_ret (pe_tup (pa_cons (pe_callTy call_tuple_of (by rfl) B.tuple boot_tuple (pa_cons (pv 2) pa_nil)) (pa_cons (pv 3) pa_nil)))))), ?_⟩
    refine ⟨Nat.zero_le _, fun f0 n0 => ⟨Nat.zero_le _, fun pL nP => ⟨_, _, rfl, ?_⟩⟩⟩
    have nP0 : H pL = none := (same_new n0).free nP
    have n0P : f0 ≠ pL := fun e => by
      rw [← e, upd_same] at nP
      cases nP
    have nlP : l ≠ pL := pl.ne nP0
    have nPl : pL ∉ [l] := by simp [nlP.symm]
    refine ⟨_, rfl, a, rfl, ⟨ys, ((tk_new n0).trans (tk_new nP)).sq hs⟩, for_tup (K := K) (a := a) (xs := ys) (fun i σ H' => ∃ (y4 : Option V) (fL : Addr) (xs : List V) (m : List (Bool × (Int × Int))), σ = [some (.ref l), some (.ref a), some (.ref fL), some (.ref pL), y4] ∧ H' fL = some (.lst xs) ∧ H fL = none ∧ fL ≠ pL ∧ FrAll K H' xs (m.map (·.2)) ∧
        H' pL = some (.lst ((tI m).map V.int)) ∧ Mk (fs.take i) m ∧ m.length ≤ 3 * i ∧ PoolAt H' l ∧ Bt [l] H H')
      ⟨none, f0, [], [], rfl, same_new nP _ _ upd_same, n0, n0P, .nil, upd_same, ⟨fun x hx => by (cases hx), rfl⟩, Nat.le_refl _, (pl.upd (pl.ne n0)).upd nlP, ((Bt.refl H).new n0).new nP⟩ (fun i σ H' _ ⟨_, _, _, _, _, _, _, _, _, _, _, _, _, b⟩ => (b.tk pl.lst).sq hs) ?_ ?_⟩
    · rintro i x σ H2 hx ⟨y4, fL, xs, m, rfl, hL, nL, nLP, hfr, hP, mk, ml, p2, b2⟩
      obtain ⟨f, p, hfi, rfl, hp⟩ := (hf.tk (b2.tk pl.lst)).get hx
      have nlL : l ≠ fL := pl.ne nL
      have nLl : fL ∉ [l] := by simp [nlL.symm]
      refine ⟨_, rfl, by show 2 ≤ sizeLine; decide, fun o no => ⟨by show 1 ≤ sizeLine; decide, fun o2 no2 => ?_⟩⟩
      have s3 : Same H2 (upd (upd H2 o (.tup [.int 0, .int 1])) o2 (.lst [.ref o])) := (same_new no).trans (same_new no2)
      have ho : (upd (upd H2 o (.tup [.int 0, .int 1])) o2 (.lst [.ref o])) o = some (.tup [.int 0, .int 1]) := same_new no2 _ _ upd_same
      have p3 := p2.same s3
      have no2l : o2 ∉ [l] := by
        have := (p2.upd (o := .tup [.int 0, .int 1]) (p2.ne no)).ne no2
        simp [this.symm]
      have nol : o ∉ [l] := by
        have := p2.ne no
        simp [this.symm]
      have ho2 : (upd (upd H2 o (.tup [.int 0, .int 1])) o2 (.lst [.ref o])) o2 = some (.lst [.ref o]) := upd_same
      revert s3 ho p3 ho2
      generalize (upd (upd H2 o (.tup [.int 0, .int 1])) o2 (.lst [.ref o])) = H3
      intro s3 ho p3 ho2
      refine ⟨_, rfl, l, 3, rfl, p3, by decide, fun H4 d b4 p4 d0 d1 => ?_⟩
      have bt4 : Bt [l] H2 H4 := (Bt.of_same s3).trans b4
      refine ⟨o2, d, [.ref o], rfl, rfl, kept b4 ho2 no2l, by omega, by omega, ?_, fun r nr => ?_⟩
      · show 1 * d.toNat ≤ sizeLine
        exact small_line (show 1 * d.toNat ≤ 20 by omega)
      · rw [flat_rep]
        have hL5 : (upd H4 r (.lst (List.replicate d.toNat (.ref o)))) fL = some (.lst xs) := same_new nr _ _ (kept bt4 hL nLl)
        have lx : xs.length = m.length := by rw [hfr.1, List.length_map]
        have il : i < 10 := by
          have := lt_get hfi
          omega
        refine ⟨fL, r, xs, _, rfl, rfl, hL5, upd_same, ?_, fun g ng => ?_⟩
        · rw [List.length_replicate]
          exact small_line (show xs.length + d.toNat ≤ 100 by omega)
        · have b5 : Bt [l] H2 (upd (upd H4 r (.lst (List.replicate d.toNat (.ref o)))) g (.lst (xs ++ List.replicate d.toNat (.ref o)))) := (bt4.new nr).new ng
          have hP6 := kept b5 hP nPl
          have ngP : g ≠ pL := fun e => by
            have z := kept (bt4.new (o := .lst (List.replicate d.toNat (.ref o))) nr) hP nPl
            rw [← e, ng] at z
            cases z
          have ngH : H g = none := by
            have nl2 : g ∉ [l] := by
              have := (p4.upd (o := .lst (List.replicate d.toNat (.ref o))) (p4.ne nr)).ne ng
              simp [this.symm]
            exact (b2.trans (bt4.new (o := .lst (List.replicate d.toNat (.ref o))) nr)).none nl2 ng
          have p6 : PoolAt (upd (upd H4 r (.lst (List.replicate d.toNat (.ref o)))) g (.lst (xs ++ List.replicate d.toNat (.ref o)))) l := (p4.upd (p4.ne nr)).upd (pl.ne ngH)
          have ho6 : SqT K (upd (upd H4 r (.lst (List.replicate d.toNat (.ref o)))) g (.lst (xs ++ List.replicate d.toNat (.ref o)))) o [.int 0, .int 1] := ((tk_new nr).trans (tk_new ng)).sq (sqT (kept b4 ho nol))
          have hg6 : (upd (upd H4 r (.lst (List.replicate d.toNat (.ref o)))) g (.lst (xs ++ List.replicate d.toNat (.ref o)))) g = some (.lst (xs ++ List.replicate d.toNat (.ref o))) := upd_same
          revert b5 hP6 p6 ho6 hg6
          generalize (upd (upd H4 r (.lst (List.replicate d.toNat (.ref o)))) g (.lst (xs ++ List.replicate d.toNat (.ref o)))) = H6
          intro b5 hP6 p6 ho6 hg6
          refine ⟨_, rfl, .inl ⟨rfl, _, sqL hP6⟩, _, rfl, g, _, rfl, .inl (sqL hg6), pL, _, _, rfl, rfl, hP6, ?_, ?_⟩
          · have : (tI m).length ≤ m.length := by
              unfold tI
              rw [List.length_map]
              have : ∀ (n : Nat) (b : List Bool), (trues n b).length ≤ b.length := fun n b => by
                induction b generalizing n with
                | nil => exact Nat.le_refl _
                | cons c b ih =>
                  cases c with
                  | true => show (trues (n + 1) b).length + 1 ≤ b.length + 1; have := ih (n + 1); omega
                  | false => show (trues (n + 1) b).length ≤ b.length + 1; have := ih (n + 1); omega
              have := this 0 (m.map (·.1))
              rw [List.length_map] at this
              exact this
            rw [List.length_map]
            exact small1000 (by omega)
          · have hg7 : (upd H6 pL (.lst ((tI m).map V.int ++ [.int ((xs ++ List.replicate d.toNat (V.ref o)).length : Nat)]))) g = some (.lst (xs ++ List.replicate d.toNat (.ref o))) := by rw [upd_ne ngP]; exact hg6
            refine ⟨_, rfl, .inl ⟨rfl, _, sqL hg7⟩, _, rfl, g, _, _, rfl, rfl, hg7, ?_, ?_⟩
            · rw [List.length_append, List.length_replicate]
              exact small1000 (by omega)
            · have tk : Tk H2 (upd (upd H6 pL (.lst ((tI m).map V.int ++ [.int ((xs ++ List.replicate d.toNat (V.ref o)).length : Nat)]))) g (.lst ((xs ++ List.replicate d.toNat (.ref o)) ++ [.ref p]))) := (b5.tk p2.lst).trans ((tk_lst hP6).trans (tk_lst hg7))
              have tk6 : Tk H6 (upd (upd H6 pL (.lst ((tI m).map V.int ++ [.int ((xs ++ List.replicate d.toNat (V.ref o)).length : Nat)]))) g (.lst ((xs ++ List.replicate d.toNat (.ref o)) ++ [.ref p]))) := (tk_lst hP6).trans (tk_lst hg7)
              refine ⟨_, g, _, m ++ (List.replicate d.toNat (false, (0, 1)) ++ [(true, f)]), rfl, upd_same, ngH, ngP, ?_, ?_, ?_, ?_, ?_, ?_⟩
              · rw [List.map_append, List.map_append, List.map_replicate]
                have e := (hfr.tk tk).append ((fr_rep (f := (0, 1)) ⟨o, rfl, tk6.sq ho6⟩ d.toNat).append (FrAll.one ⟨p, rfl, tk.sq hp⟩))
                rw [← List.append_assoc] at e
                exact e
              · rw [upd_ne ngP.symm, upd_same, tI_more, List.map_append, List.length_append, List.length_replicate, lx]
                rfl
              · rw [take_more hfi]
                exact mk.more _ _
              · rw [List.length_append, List.length_append, List.length_replicate]
                show m.length + (d.toNat + 1) ≤ _
                omega
              · exact (p6.upd nlP).upd (pl.ne ngH)
              · exact ((b2.trans b5).upd0 nP0).upd0 ngH
    · rintro σ H2 ⟨y4, fL, xs, m, rfl, hL, nL, nLP, hfr, hP, mk, ml, p2, b2⟩
      rw [hf.1, List.take_length] at mk
      rw [hf.1] at ml
      refine ⟨_, rfl, fL, xs, rfl, .inl ⟨sqL hL, fun r nr => ⟨_, rfl, by show 2 ≤ sizeLine; decide, fun T nT => ?_⟩⟩⟩
      have s4 : Same H2 (upd (upd H2 r (.tup xs)) T (.tup [.ref r, .ref pL])) := (same_new nr).trans (same_new nT)
      exact q _ T _ pL m (b2.trans (.of_same s4)) (p2.same s4) upd_same ⟨r, xs, rfl, sqT (same_new nT _ _ upd_same), hfr.tk (tk_same s4)⟩ (s4 _ _ hP) mk (by omega)
end
end Wd3

set_option Elab.async false
set_option linter.all false
set_option maxRecDepth 100000
set_option maxHeartbeats 4000000
set_option exponentiation.threshold 5000
namespace Wd3
open PySem PySem.Spec PyProof.Rows L2 WdM Wd
abbrev sWR : Stmt := topS 19
abbrev nWR : List Str := ["_law_pool_here", "_law_portions", "_law_some", "_law_tops", "_law_pence", "_law_ahead", "_law_most", "_law_times", "_law_due", "_law_top", "_law_bottom", "_law_penny"]
theorem scWR : FnScope nWR ["_law_pool_here", "_law_portions"] (defScope sWR) := ⟨rfl, rfl, rfl, by decide +kernel, rfl, by decide +kernel, by decide +kernel⟩
theorem neT (ns : List Int) : (!PyData.eqv (.tuple (ns.map .int)) (.tuple (ns.map .int))) = false := by rw [eqvT]; rfl
theorem neL (ns : List Int) : (!PyData.eqv (.list (ns.map .int)) (.list (ns.map .int))) = false := by rw [eqvL]; rfl
theorem Gd.good {fs : List (Int × Int)} (g : Gd fs) : Good fs :=
  ⟨g.len0, by have := g.len1; omega, fun f hf => by
    have ⟨a, b, c, d, e⟩ := g.each f hf
    exact ⟨a, c, big_small a (by omega), big_small (by omega) (by omega), e⟩, g.some⟩
theorem sum_le {b : Int} : ∀ ts : List Int, (∀ t ∈ ts, t ≤ b) → ts.sum ≤ ts.length * b
  | [], _ => by simp
  | t :: ts, h => by
    have ih := sum_le ts (fun x hx => h x (List.mem_cons_of_mem _ hx))
    have h0 := h t List.mem_cons_self
    rw [List.sum_cons, List.length_cons]
    have e : ((ts.length + 1 : Nat) : Int) * b = (ts.length : Int) * b + b := by
      rw [Int.natCast_add, Int.add_mul]
      simp
    rw [e]
    omega
theorem Gd.whole {fs : List (Int × Int)} (g : Gd fs) : Good ((fs.map (·.1)).map fun t => (t, 1)) ∧ 0 < (fs.map (·.1)).sum ∧ (fs.map (·.1)).sum ≤ 10000000 := by
  have hg : Good ((fs.map (·.1)).map fun t => (t, 1)) := by
    refine ⟨by rw [List.length_map, List.length_map]; exact g.len0, by rw [List.length_map, List.length_map]; have := g.len1; omega, fun f hf => ?_, ?_⟩
    · obtain ⟨t, ht, rfl⟩ := List.mem_map.mp hf
      obtain ⟨f, hf2, rfl⟩ := List.mem_map.mp ht
      have ⟨a, b, _⟩ := g.each f hf2
      exact ⟨a, (by decide : (0 : Int) < 1), big_small a (by omega), (by decide : (1 : Int).natAbs < 2 ^ 64), Int.gcd_one_right _⟩
    · obtain ⟨f, hf, hp⟩ := g.some
      exact ⟨(f.1, 1), List.mem_map.mpr ⟨f.1, List.mem_map.mpr ⟨f, hf, rfl⟩, rfl⟩, hp⟩
  refine ⟨hg, ?_, ?_⟩
  · have := hg.sum.1
    rw [wtsOf_whole] at this
    exact this
  · have h := sum_le (b := 1000000) (fs.map (·.1)) (fun t ht => by
      obtain ⟨f, hf, rfl⟩ := List.mem_map.mp ht
      exact (g.each f hf).2.1)
    rw [List.length_map] at h
    have := g.len1
    omega
section
variable {P : Program} {w : World} {K : PySem.W.Frag} {mg : Str → Option Value} {base : Heap}
theorem kb1 {f : Addr} {fd : FuncData} (F : Fun K "parted" "parted" sParted f fd) : KBn K fd ["amount", "shares"] 0 ["amount", "shares"] (fun _ ws => ws) (fun _ zs => zs) where
  to := fun s us ws _ h1 h2 => by
    obtain ⟨oc, od, kV, doc, pm, an, cdv, ct, osl, rfl, lk, hcd⟩ := F.ex
    match us, ws, h1, h2 with
    | [], [x, y], _, _ => exact .of_eq rfl
  rel := fun _ r => r
theorem kb2 {f : Addr} {fd : FuncData} (F : Fun K "parted" "parted" sParted f fd) : KBn K fd ["amount", "shares"] 0 ["shares", "amount"] (fun _ ws => ws.reverse) (fun _ zs => zs.reverse) where
  to := fun s us ws _ h1 h2 => by
    obtain ⟨oc, od, kV, doc, pm, an, cdv, ct, osl, rfl, lk, hcd⟩ := F.ex
    match us, ws, h1, h2 with
    | [], [x, y], _, _ => exact .of_eq rfl
  rel := fun _ r => r.reverse
def spWR (K : PySem.W.Frag) : Sp := fun vs H Q _ => ∃ (l : Addr) (v : V) (fs : List (Int × Int)), vs = [.ref l, v] ∧ PoolAt H l ∧ Sh K H v fs ∧ Gd fs ∧ ∀ H', Bt [l] H H' → PoolAt H' l → Q (.bl true) H'
theorem ok_wr {f fT fP : Addr} {fd fdT fdP : FuncData} {k : Nat} (B : Bl mg) (M : Bm mg) (D : Df K mg "_law_whole_right" sWR f fd ["_law_pool_here", "_law_portions"]) (DT : Df K mg "_law_take" sTake fT fdT ["_law_pool_here", "_law_many"])
    (DP : Df K mg "parted" sParted fP fdP ["amount", "shares"]) (GP : FnOk P w K mg base CX0 4 fP fdP ["amount", "shares"] (spParted K)) :
    FnOk P w K mg base CX0 (k + 5) f fd ["_law_pool_here", "_law_portions"] (spWR K) := by
  have GT : FnOk P w K mg base CX0 1 fT fdT ["_law_pool_here", "_law_many"] spTake := ok_take (k := 0) M DT
  refine D.fn.ok scWR (fun vs H Q E h => ?_) (fun cdv A outer s H vs Q E hr h => ?_)
  · obtain ⟨l, v, fs, rfl, _⟩ := h
    rfl
  · obtain ⟨l, v, fs, rfl, pl, ⟨a, ys, rfl, hs, hf⟩, G, q⟩ := h
    have r1 : Room 1 _ := hr.mono (by omega)
    have r4 : Room 4 _ := hr.mono (by omega)
    have hu := r4.units
    refine ⟨_, pss_cons (ps_set (i := 2) scWR.nd rfl (.inl rfl) (pe_callTy call_tuple_of (by rfl) B.tuple boot_tuple (pa_cons
          (pe_lc (own := [("_law_top", 9), ("_law_bottom", 10)]) (g := gTup K 2 (gCons (gName 9) (gCons (gName 10) gNil))) (tt := tYes) rfl scWR.nd (pi_tup (pv 1)) (blkOk_by (own := [("_law_top", 9), ("_law_bottom", 10)]) (N := nWR) (sc := defScope sWR) (by decide +kernel))
            (fun _ _ _ _ _ => pg_tup rfl (pgs_cons (pg_name (i := 9) scWR.nd rfl (.inl rfl)) (pgs_cons (pg_name (i := 10) scWR.nd rfl (.inl rfl)) pgs_nil))) (fun _ _ _ _ _ => pts_nil)
            (fun _ _ _ _ _ => pe_tup (pa_cons (pv 9) (pa_cons pe_int pa_nil)))) pa_nil)))
      (pss_cons (ps_setLc (i := 3) (own := [("_law_top", 9), ("_law_bottom", 10)]) (g := gTup K 2 (gCons (gName 9) (gCons (gName 10) gNil))) (tt := tYes) rfl scWR.nd rfl rfl (sw_true rfl rfl rfl (by decide +kernel)) (pi_tup (pv 2)) (blkOk_by (own := [("_law_top", 9), ("_law_bottom", 10)]) (N := nWR) (sc := defScope sWR) (by decide +kernel))
            (fun _ _ _ _ _ => pg_tup rfl (pgs_cons (pg_name (i := 9) scWR.nd rfl (.inl rfl)) (pgs_cons (pg_name (i := 10) scWR.nd rfl (.inl rfl)) pgs_nil))) (fun _ _ _ _ _ => pts_nil)
            (fun _ _ _ _ _ => pv 9))
      (pss_cons (ps_if (pt_cmpR (op_neD hu) (pe_call GP r4 (by rfl) DP.mg DP.fn.kp DP.bd .nil pass0 (pa_cons (pe_callB (cr_sum rfl) (by rfl) B.sum (by decide +kernel) (pa_cons (pv 3) pa_nil)) (pa_cons (pv 2) pa_nil))) (pe_callTy call_tuple_of (by rfl) B.tuple boot_tuple (pa_cons (pv 3) pa_nil)) (nomark _)) (pss_one (ps_ret pe_bl)) pss_nil)
      (pss_cons (ps_set (i := 4) scWR.nd rfl (.inl rfl) (pe_call GT r1 (by rfl) DT.mg DT.fn.kp DT.bd .nil pass0 (pa_cons (pv 0) (pa_cons (pe_op op_add pe_int (pe_callB (call_min2 rfl) (by rfl) M.min (by decide +kernel) (pa_cons (pe_op op_pow pe_int pe_int) (pa_cons (pe_op op_mul pe_int (pe_callB (cr_sum rfl) (by rfl) B.sum (by decide +kernel) (pa_cons (pv 3) pa_nil))) pa_nil)))) pa_nil))))
      (pss_cons (ps_set (i := 5) scWR.nd rfl (.inl rfl) (pe_call GP r4 (by rfl) DP.mg DP.fn.kp DP.bd .nil pass0 (pa_cons (pv 4) (pa_cons (pv 2) pa_nil))))
      (pss_cons (ps_set (i := 6) scWR.nd rfl (.inl rfl) (pe_op op_fdivW (pe_op op_sub (pe_op op_pow pe_int pe_int) (pv 4)) (pe_callB (cr_sum rfl) (by rfl) B.sum (by decide +kernel) (pa_cons (pv 3) pa_nil))))
      (pss_cons (ps_for PassesOwn.never rfl (pi_list (pe_lst (pa_cons pe_int (pa_cons pe_int (pa_cons (pe_call GT r1 (by rfl) DT.mg DT.fn.kp DT.bd .nil pass0 (pa_cons (pv 0) (pa_cons (pe_op op_add (pv 6) pe_int) pa_nil))) (pa_cons (pv 6) pa_nil)))))) (pg_name (i := 7) scWR.nd rfl (.inr rfl))
        (pss_cons (ps_set (i := 8) scWR.nd rfl (.inl rfl) (pe_callTy call_tuple_of (by rfl) B.tuple boot_tuple (pa_cons
          (pe_lc (own := [("_law_penny", 11), ("_law_top", 9)]) (g := gTup K 2 (gCons (gName 11) (gCons (gName 9) gNil))) (tt := tYes) rfl scWR.nd (pi_Z .tu .li (by rfl) M.zip (pa_cons (pv 5) (pa_cons (pv 3) pa_nil))) (blkOk_by (own := [("_law_penny", 11), ("_law_top", 9)]) (N := nWR) (sc := defScope sWR) (by decide +kernel))
            (fun _ _ _ _ _ => pg_tup rfl (pgs_cons (pg_name (i := 11) scWR.nd rfl (.inl rfl)) (pgs_cons (pg_name (i := 9) scWR.nd rfl (.inl rfl)) pgs_nil))) (fun _ _ _ _ _ => pts_nil)
            (fun _ _ _ _ _ => pe_op op_add (pv 11) (pe_op op_mul (pv 7) (pv 9)))) pa_nil)))
        (pss_one (ps_if (pt_cmpR (op_neD hu) (pe_callN0 GP r4 (by rfl) DP.mg DP.fn.kp (kb1 DP.fn) pass0 (pk_cons (pe_op op_add (pv 4) (pe_op op_mul (pv 7) (pe_callB (cr_sum rfl) (by rfl) B.sum (by decide +kernel) (pa_cons (pv 3) pa_nil)))) (pk_cons (pv 2) pk_nil))) (pv 8) (nomark _)) (pss_one (ps_ret pe_bl)) pss_nil))))
      (pss_one (ps_ret pe_bl)))))))), ?_⟩
    have hlen : ys.length = fs.length := hf.1
    have l10 := G.len1
    obtain ⟨W, S0, S1⟩ := G.whole
    -- some
    refine ⟨_, rfl, a, rfl, ⟨ys, hs⟩, fun R nR => lc_tup (K := K) (a := a) (xs := ys) (fun i H' => ∃ zs, H' R = some (.lst zs) ∧ FrAll K H' zs (((fs.take i).map (·.1)).map fun t => (t, 1)) ∧ Same H H') ⟨[], upd_same, .nil, same_new nR⟩ (fun i H' _ ⟨_, _, _, sm⟩ => (tk_same sm).sq hs) ?_ ?_⟩
    · rintro i x H2 hx ⟨zs, hR, hz, sm⟩
      obtain ⟨f, p, hfi, rfl, hp⟩ := (hf.tk (tk_same sm)).get hx
      refine ⟨p, _, rfl, hp, rfl, _, _, rfl, _, _, rfl, rfl, rfl, tyes (iteT ⟨_, rfl, by show 2 ≤ sizeLine; decide, fun o no => ?_⟩)⟩
      have hR2 : (upd H2 o (.tup [.int f.1, .int 1])) R = some (.lst zs) := same_new no _ _ hR
      have nRo : R ≠ o := ne_of_none hR no
      refine ⟨zs, hR2, ?_, _, upd_same, ?_, ?_⟩
      · rw [hz.1, List.length_map, List.length_map, List.length_take]
        exact small1000 (by omega)
      · rw [take_more hfi, List.map_append, List.map_append]
        exact (hz.tk ((tk_new no).trans (tk_lst hR2))).append (FrAll.one ⟨o, rfl, sqT (by rw [upd_ne nRo.symm, upd_same])⟩)
      · exact ((Bt.of_same (S := []) (sm.trans (same_new no))).upd0 nR).same
    · rintro H2 ⟨zs, hR, hz, sm2⟩
      rw [hlen, List.take_length] at hz
      revert W S0 S1 hz
      have tsB : ∀ t ∈ fs.map (·.1), 0 ≤ t ∧ t ≤ 1000000 := fun t ht => by
        obtain ⟨f, hf, rfl⟩ := List.mem_map.mp ht
        exact ⟨(G.each f hf).1, (G.each f hf).2.1⟩
      have tsL : (fs.map (·.1)).length ≤ 10 := by rw [List.length_map]; exact l10
      revert tsB tsL
      generalize fs.map (·.1) = ts
      intro tsB tsL W S0 S1 hz
      refine ⟨R, zs, rfl, .inl ⟨sqL hR, fun sT nS => ?_⟩⟩
      have hsh : Sh K (upd H2 sT (.tup zs)) (.ref sT) (ts.map fun t => (t, 1)) := ⟨sT, zs, rfl, sqT upd_same, hz.tk (tk_new nS)⟩
      have sm3 : Same H (upd H2 sT (.tup zs)) := sm2.trans (same_new nS)
      revert hsh sm3
      generalize upd H2 sT (.tup zs) = H3
      intro hsh sm3
      -- tops
      obtain ⟨_, zs3, e3, hs3, hf3⟩ := id hsh
      cases e3
      refine ⟨_, rfl, sT, rfl, ⟨zs3, hs3⟩, fun tL nT => lc_tup (K := K) (a := sT) (xs := zs3) (fun i H' => H' tL = some (.lst ((ts.take i).map V.int)) ∧ Same H3 H') ⟨upd_same, same_new nT⟩ (fun i H' _ h => (tk_same h.2).sq hs3) ?_ ?_⟩
      · rintro i x H4 hx ⟨hT, sm⟩
        obtain ⟨f, p, hfi, rfl, hp⟩ := (hf3.tk (tk_same sm)).get hx
        rw [List.getElem?_map] at hfi
        cases e : ts[i]? with
        | none => rw [e] at hfi; cases hfi
        | some t =>
          rw [e] at hfi
          have ef : (t, 1) = f := Option.some.inj hfi
          subst ef
          refine ⟨p, _, rfl, hp, rfl, _, _, rfl, _, _, rfl, rfl, rfl, tyes (iteT ⟨_, rfl, _, hT, ?_, ?_, ?_⟩)⟩
          · rw [List.length_map, List.length_take]
            exact small1000 (by omega)
          · rw [upd_same, take_more e, List.map_append]
            rfl
          · exact ((Bt.of_same (S := []) sm).upd0 nT).same
      · rintro H4 ⟨hT, sm4⟩
        have hl3 : zs3.length = ts.length := by rw [hf3.1, List.length_map]
        rw [hl3, List.take_length] at hT
        have hsh4 := hsh.tk (tk_same sm4)
        have s4 : Same H H4 := sm3.trans sm4
        have p4 := pl.same s4
        have eW : wtsOf (ts.map fun t => (t, 1)) = ts := wtsOf_whole ts
        -- parted(sum(tops), some) != tuple(tops)
        refine ⟨_, rfl, tL, ts, rfl, sqL hT, _, rfl, ts.sum, _, _, rfl, by omega, by omega, hsh4, W, fun H5 r sm5 nr hr5 => ?_⟩
        rw [eW, dealt_self S0] at hr5
        have hT5 := sm5 _ _ hT
        refine ⟨_, rfl, tL, _, rfl, .inl ⟨sqL hT5, fun u nu => ?_⟩⟩
        have hr6 := same_new (o := .tup (ts.map V.int)) nu _ _ hr5
        refine ⟨_, _, dT (sqT hr6), dT (sqT upd_same), shT _, shT _, _, rfl, ?_⟩
        rw [neT]
        refine iteF ?_
        have s6 : Same H4 (upd H5 u (.tup (ts.map V.int))) := sm5.trans (same_new nu)
        revert s6
        generalize upd H5 u (.tup (ts.map V.int)) = H6
        intro s6
        have hT6 := s6 _ _ hT
        have p6 := p4.same s6
        have nTl : tL ∉ [l] := by
          have := (pl.same sm3).ne nT
          simp [this.symm]
        -- pence
        refine ⟨_, rfl, 10, 6, rfl, rfl, ⟨by decide, by decide, by decide⟩, _, rfl, tL, ts, rfl, sqL hT6, 3, ts.sum, rfl, rfl, .inl ⟨by decide, by decide⟩, _, _, rfl, 1, _, rfl, rfl, l, _, rfl, p6, ?_, fun H7 pence b7 p7 pe0 pe1 => ?_⟩
        · have e6 : (10 : Int) ^ (6 : Int).toNat = 1000000 := by decide
          rw [e6]
          split <;> omega
        · have pe2 : pence ≤ 1000000 := by
            have e6 : (10 : Int) ^ (6 : Int).toNat = 1000000 := by decide
            rw [e6] at pe1
            split at pe1 <;> omega
          have hT7 := kept b7 hT6 nTl
          have hsh7 : Sh K H7 (.ref sT) (ts.map fun t => (t, 1)) := hsh4.tk ((tk_same s6).trans (b7.tk p6.lst))
          -- ahead
          refine ⟨_, rfl, _, rfl, pence, _, _, rfl, pe0, by omega, hsh7, W, fun H8 aT sm8 na ha8 => ?_⟩
          rw [eW] at ha8
          have hT8 := sm8 _ _ hT7
          have p8 := p7.same sm8
          -- most
          refine ⟨10, 12, rfl, rfl, ⟨by decide, by decide, by decide⟩, _, rfl, _, pence, rfl, rfl, _, rfl, tL, ts, rfl, sqL hT8, _, ts.sum, rfl, rfl, wide_div S0 (big_small (by omega) (by omega)) (by decide) (by decide), ?_⟩
          have e12 : (10 : Int) ^ (12 : Int).toNat = 1000000000000 := by decide
          have m0 : 0 ≤ ((10 : Int) ^ (12 : Int).toNat - pence) / ts.sum := Int.ediv_nonneg (by rw [e12]; omega) (by omega)
          have m1 : pence + ((10 : Int) ^ (12 : Int).toNat - pence) / ts.sum * ts.sum ≤ 1000000000000 := by
            have := Int.ediv_mul_le ((10 : Int) ^ (12 : Int).toNat - pence) (show ts.sum ≠ 0 by omega)
            rw [e12] at *
            omega
          -- for times in [..]
          refine ⟨_, rfl, _, rfl, _, 1, rfl, rfl, l, _, rfl, p8, by omega, fun H9 d b9 p9 d0 d1 => ⟨_, rfl, by show 4 ≤ sizeLine; decide, fun mL nM => ?_⟩⟩
          have b10 : Bt [l] H8 (upd H9 mL (.lst [.int 1, .int 2, .int d, .int (((10 : Int) ^ (12 : Int).toNat - pence) / ts.sum)])) := b9.new nM
          have p10 : PoolAt (upd H9 mL (.lst [.int 1, .int 2, .int d, .int (((10 : Int) ^ (12 : Int).toNat - pence) / ts.sum)])) l := p9.upd (p9.ne nM)
          have hM : (upd H9 mL (.lst [.int 1, .int 2, .int d, .int (((10 : Int) ^ (12 : Int).toNat - pence) / ts.sum)])) mL = some (.lst [.int 1, .int 2, .int d, .int (((10 : Int) ^ (12 : Int).toNat - pence) / ts.sum)]) := upd_same
          have bAll : Bt [l] H (upd H9 mL (.lst [.int 1, .int 2, .int d, .int (((10 : Int) ^ (12 : Int).toNat - pence) / ts.sum)])) := (((Bt.of_same (s4.trans s6)).trans b7).trans (.of_same sm8)).trans b10
          have okT : ∀ t ∈ [1, 2, d, ((10 : Int) ^ (12 : Int).toNat - pence) / ts.sum], 0 ≤ t ∧ pence + t * ts.sum ≤ 1000000000000 := by
            intro t ht
            have h4 : t = 1 ∨ t = 2 ∨ t = d ∨ t = ((10 : Int) ^ (12 : Int).toNat - pence) / ts.sum := by simpa using ht
            rcases h4 with rfl | rfl | rfl | rfl
            · exact ⟨by decide, by omega⟩
            · exact ⟨by decide, by omega⟩
            · refine ⟨d0, ?_⟩
              have : t * ts.sum ≤ ((10 : Int) ^ (12 : Int).toNat - pence) / ts.sum * ts.sum := Int.mul_le_mul_of_nonneg_right (by omega) (by omega)
              omega
            · exact ⟨m0, m1⟩
          have ha10 : SqT K (upd H9 mL (.lst [.int 1, .int 2, .int d, .int (((10 : Int) ^ (12 : Int).toNat - pence) / ts.sum)])) aT ((dealt pence ts).map V.int) := (b10.tk p8.lst).sq (sqT ha8)
          have hT10 := kept b10 hT8 nTl
          have hsh10 : Sh K (upd H9 mL (.lst [.int 1, .int 2, .int d, .int (((10 : Int) ^ (12 : Int).toNat - pence) / ts.sum)])) (.ref sT) (ts.map fun t => (t, 1)) := hsh7.tk ((tk_same sm8).trans (b10.tk p8.lst))
          revert b10 p10 hM bAll ha10 hT10 hsh10
          generalize upd H9 mL (.lst [.int 1, .int 2, .int d, .int (((10 : Int) ^ (12 : Int).toNat - pence) / ts.sum)]) = H10
          intro b10 p10 hM bAll ha10 hT10 hsh10
          have ld : (dealt pence ts).length = ts.length := dealt_len _ _
          refine ⟨mL, rfl, ⟨_, sqL hM⟩, for_list (K := K) (a := mL) (xs := [1, 2, d, ((10 : Int) ^ (12 : Int).toNat - pence) / ts.sum].map V.int) (fun i σ H' => (∃ y7 y8 : Option V, σ = [some (.ref l), some (.ref a), some (.ref sT), some (.ref tL), some (.int pence), some (.ref aT), some (.int (((10 : Int) ^ (12 : Int).toNat - pence) / ts.sum)), y7, y8, none, none, none]) ∧ Same H10 H')
            ⟨⟨none, none, rfl⟩, Same.refl _⟩ (fun i σ H' _ h => sqL (h.2 _ _ hM)) ?_ ?_⟩
          · rintro i x σ H11 hx ⟨⟨y7, y8, rfl⟩, s11⟩
            obtain ⟨t, hti, rfl⟩ := ints_get hx
            obtain ⟨t0, t1⟩ := okT t (List.mem_of_getElem? hti)
            have hT11 := s11 _ _ hT10
            have ha11 := (tk_same s11).sq ha10
            -- due
            refine ⟨_, rfl, _, rfl, aT, tL, _, _, rfl, ha11, sqL hT11, fun dL nD => lc_it (walkZ (K := K) (k := .tu) (m := .li) (a := aT) (b := tL) (by rw [List.length_map, List.length_map]; exact ld)) (fun i H' => H' dL = some (.lst (((List.zipWith (fun p w => p + t * w) (dealt pence ts) ts).take i).map V.int)) ∧ Same H11 H') ⟨upd_same, same_new nD⟩ (fun i H' _ h => ⟨(tk_same h.2).sq ha11, sqL (h.2 _ _ hT11)⟩) ?_ ?_⟩
            · rintro j _ H12 _ _ ⟨hD, s12⟩ ⟨T, x, y, rfl, nT2, rfl, hxj, hyj⟩
              obtain ⟨pn, hpn, rfl⟩ := ints_get hxj
              obtain ⟨tp, htp, rfl⟩ := ints_get hyj
              have tb := tsB tp (List.mem_of_getElem? htp)
              refine ⟨T, _, rfl, sqT upd_same, rfl, _, _, rfl, _, _, rfl, rfl, rfl, tyes (iteT ⟨_, rfl, _, rfl, _, rfl, t, tp, rfl, rfl, .inr ⟨by omega, by omega⟩, pn, _, rfl, rfl, _, same_new nT2 _ _ hD, ?_, ?_, ?_⟩)⟩
              · rw [List.length_map, List.length_take]
                have := lt_get htp
                exact small1000 (by omega)
              · have hz : (List.zipWith (fun p w => p + t * w) (dealt pence ts) ts)[j]? = some (pn + t * tp) := by
                  rw [List.getElem?_zipWith, hpn, htp]
                rw [upd_same, take_more hz, List.map_append]
                rfl
              · exact ((Bt.of_same (S := []) (s12.trans (same_new nT2))).upd0 nD).same
            · rintro H12 ⟨hD, s12⟩
              have lz : (List.zipWith (fun p w => p + t * w) (dealt pence ts) ts).length = ts.length := by rw [List.length_zipWith, ld, Nat.min_self]
              rw [List.length_map, ld, ← lz, List.take_length] at hD
              refine ⟨dL, _, rfl, .inl ⟨sqL hD, fun dT2 nD2 => ?_⟩⟩
              have s13 : Same H10 (upd H12 dT2 (.tup ((List.zipWith (fun p w => p + t * w) (dealt pence ts) ts).map V.int))) := s11.trans (s12.trans (same_new nD2))
              have hdue : (upd H12 dT2 (.tup ((List.zipWith (fun p w => p + t * w) (dealt pence ts) ts).map V.int))) dT2 = some (.tup ((List.zipWith (fun p w => p + t * w) (dealt pence ts) ts).map V.int)) := upd_same
              revert s13 hdue
              generalize upd H12 dT2 (.tup ((List.zipWith (fun p w => p + t * w) (dealt pence ts) ts).map V.int)) = H13
              intro s13 hdue
              have hT13 := s13 _ _ hT10
              refine ⟨_, rfl, _, rfl, _, rfl, tL, ts, rfl, sqL hT13, t, ts.sum, rfl, rfl, .inr ⟨by omega, by omega⟩, pence, _, rfl, rfl, _, rfl, rfl, pence + t * ts.sum, _, _, rfl, ?_, t1, hsh10.tk (tk_same s13), W, fun H14 r s14 nr hr14 => ?_⟩
              · have := Int.mul_nonneg t0 (show 0 ≤ ts.sum by omega)
                omega
              · rw [eW, dealt_more S0] at hr14
                refine ⟨_, rfl, _, _, dT (sqT hr14), dT (sqT (s14 _ _ hdue)), shT _, shT _, _, rfl, ?_⟩
                rw [neT]
                exact iteF ⟨⟨_, _, rfl⟩, s13.trans s14⟩
          · rintro σ H11 ⟨⟨y7, y8, rfl⟩, s11⟩
            exact q H11 (bAll.trans (.of_same s11)) (p10.same s11)
end
end Wd3

set_option Elab.async false
set_option linter.all false
set_option maxRecDepth 100000
set_option maxHeartbeats 4000000
set_option exponentiation.threshold 5000
namespace Wd3
open PySem PySem.Spec PyProof.Rows L2 WdM Wd
/-! ### the mathematics of the law's right -/
theorem _root_.Wd.Good.rev {fs : List (Int × Int)} (g : Good fs) : Good fs.reverse :=
  ⟨by rw [List.length_reverse]; exact g.len0, by rw [List.length_reverse]; exact g.len1, fun f hf => g.each f (List.mem_reverse.mp hf), by
    obtain ⟨f, hf, hp⟩ := g.some
    exact ⟨f, List.mem_reverse.mpr hf, hp⟩⟩
/-- other multiples of all bottoms give the same pennies -/
theorem dealt_mult {a L L' : Int} {fs : List (Int × Int)} (p : 0 < L) (p' : 0 < L') (h : ∀ f ∈ fs, 0 < f.2 ∧ f.2 ∣ L) (h' : ∀ f ∈ fs, 0 < f.2 ∧ f.2 ∣ L') : dealt a (wts L fs) = dealt a (wts L' fs) :=
  dealt_like (p := 1 * L') (q := 1 * L) (by omega) (by omega) (wts_like (by decide) (by decide) fs fs rfl h h' (fun i f f' a b => by
    rw [a] at b
    cases b
    rw [Int.mul_one, Int.mul_one]))
theorem dealt_rev (a : Int) {fs : List (Int × Int)} (g : Good fs) : dealt a (wtsOf fs.reverse) = dealt a (wtsOf fs).reverse := by
  have e : (wtsOf fs).reverse = wts (lcmF 1 fs) fs.reverse := by
    unfold wtsOf wts
    rw [List.map_reverse]
  rw [e]
  exact dealt_mult g.rev.lcm.pos g.lcm.pos (fun f hf => ⟨g.rev.pos f hf, g.rev.lcm.all f hf⟩) (fun f hf => ⟨g.rev.pos f hf, g.lcm.all f (List.mem_reverse.mp hf)⟩)
theorem sum_rev : ∀ ws : List Int, ws.reverse.sum = ws.sum
  | [] => rfl
  | w :: ws => by
    rw [List.reverse_cons, List.sum_append, List.sum_cons, sum_rev ws, List.sum_cons]
    simp
    omega
theorem turned_math (a : Int) {fs : List (Int × Int)} (g : Good fs) : (dealt a (wtsOf fs.reverse)).reverse.length = (dealt a (wtsOf fs)).length ∧ (dealt a (wtsOf fs.reverse)).reverse.sum = a ∧
    ∀ (i : Nat) (x y : Int), (dealt a (wtsOf fs))[i]? = some x → (dealt a (wtsOf fs.reverse)).reverse[i]? = some y → x - y ≤ 1 ∧ y - x ≤ 1 := by
  have l1 := dealt_len a (wtsOf fs)
  have l2 : (dealt a (wtsOf fs.reverse)).length = (wtsOf fs).length := by rw [dealt_len, wtsOf_len, wtsOf_len, List.length_reverse]
  refine ⟨by rw [List.length_reverse]; omega, ?_, fun i x y hx hy => ?_⟩
  · rw [sum_rev]
    exact dealt_sum a _ g.rev.sum.1
  · have hi : i < (wtsOf fs).length := by
      have := lt_get hx
      omega
    rw [List.getElem?_reverse (by omega), dealt_rev a g, show (dealt a (wtsOf fs).reverse).length = (wtsOf fs).length by rw [dealt_len, List.length_reverse]] at hy
    obtain ⟨w, hw, e1⟩ := deal_get _ _ _ _ _ _ hx
    obtain ⟨w', hw', e2⟩ := deal_get _ _ _ _ _ _ hy
    rw [List.getElem?_reverse (by omega), show (wtsOf fs).length - 1 - ((wtsOf fs).length - 1 - i) = i by omega, hw] at hw'
    cases hw'
    rw [sum_rev] at e2
    generalize a * w / (wtsOf fs).sum = z at e1 e2
    omega
def sg (x y : Int) : Int := (if decide (y < x) = true then 1 else 0) - (if decide (x < y) = true then 1 else 0)
theorem sg_near {x y : Int} (h1 : x - y ≤ 1) (h2 : y - x ≤ 1) : sg x y = x - y := by
  unfold sg
  by_cases a : y < x
  · rw [decide_eq_true a, decide_eq_false (show ¬ x < y by omega)]
    simp
    omega
  · by_cases b : x < y
    · rw [decide_eq_false a, decide_eq_true b]
      simp
      omega
    · rw [decide_eq_false a, decide_eq_false b]
      simp
      omega
theorem sum_sg : ∀ (xs ys : List Int), xs.length = ys.length → (∀ (i : Nat) (x y : Int), xs[i]? = some x → ys[i]? = some y → x - y ≤ 1 ∧ y - x ≤ 1) → (List.zipWith sg xs ys).sum = xs.sum - ys.sum
  | [], [], _, _ => rfl
  | x :: xs, y :: ys, hl, h => by
    have ih := sum_sg xs ys (by simpa using hl) (fun i a b ha hb => h (i + 1) a b (by simpa using ha) (by simpa using hb))
    have ⟨h1, h2⟩ := h 0 x y rfl rfl
    rw [List.zipWith_cons_cons, List.sum_cons, ih, sg_near h1 h2, List.sum_cons, List.sum_cons]
    omega
/-- the shares that low makes of the same, times A by B -/
structure Lk (A B : Int) (fs gs : List (Int × Int)) : Prop where
  len : fs.length = gs.length
  each : ∀ (i : Nat) (f g : Int × Int), fs[i]? = some f → gs[i]? = some g → 0 ≤ g.1 ∧ 0 < g.2 ∧ Int.gcd g.1 g.2 = 1 ∧ g.1 * (f.2 * B) = f.1 * A * g.2 ∧ g.1 ≤ f.1 * A ∧ g.2 ≤ f.2 * B
theorem mul_le40 {x A : Int} (h0 : 0 ≤ x) (h1 : x ≤ 1000000) (a0 : 1 ≤ A) (a1 : A ≤ 40) : 0 ≤ x * A ∧ x * A ≤ 40000000 := by
  have h2 : x * A ≤ x * 40 := Int.mul_le_mul_of_nonneg_left a1 h0
  have h3 : 0 ≤ x * A := Int.mul_nonneg h0 (by omega)
  omega
theorem Lk.good {A B : Int} {fs gs : List (Int × Int)} (h : Lk A B fs gs) (G : Gd fs) (a0 : 1 ≤ A) (a1 : A ≤ 40) (b0 : 1 ≤ B) (b1 : B ≤ 40) : Good gs := by
  have get : ∀ g ∈ gs, ∃ f, f ∈ fs ∧ 0 ≤ g.1 ∧ 0 < g.2 ∧ Int.gcd g.1 g.2 = 1 ∧ g.1 * (f.2 * B) = f.1 * A * g.2 ∧ g.1 ≤ f.1 * A ∧ g.2 ≤ f.2 * B := fun g hg => by
    obtain ⟨i, hi, e⟩ := List.mem_iff_getElem.mp hg
    have hi2 : i < fs.length := by rw [h.len]; exact hi
    exact ⟨fs[i], List.getElem_mem hi2, h.each i fs[i] g (List.getElem?_eq_getElem hi2) (by rw [List.getElem?_eq_getElem hi, e])⟩
  refine ⟨by rw [← h.len]; exact G.len0, by rw [← h.len]; have := G.len1; omega, fun g hg => ?_, ?_⟩
  · obtain ⟨f, hf, e1, e2, e3, e4, e5, e6⟩ := get g hg
    have ⟨f1, f2, f3, f4, _⟩ := G.each f hf
    have q1 := mul_le40 f1 f2 a0 a1
    have q2 := mul_le40 (Int.le_of_lt f3) f4 b0 b1
    exact ⟨e1, e2, big_small e1 (by omega), big_small (by omega) (by omega), e3⟩
  · obtain ⟨f, hf, hp⟩ := G.some
    obtain ⟨i, hi, e⟩ := List.mem_iff_getElem.mp hf
    have hi2 : i < gs.length := by rw [← h.len]; exact hi
    have ⟨e1, e2, e3, e4, _⟩ := h.each i f gs[i] (by rw [List.getElem?_eq_getElem hi, e]) (List.getElem?_eq_getElem hi2)
    refine ⟨gs[i], List.getElem_mem hi2, ?_⟩
    rcases Int.lt_or_le 0 (gs[i]).1 with z | z
    · exact z
    · have e0 : (gs[i]).1 = 0 := by omega
      rw [e0, Int.zero_mul] at e4
      have := Int.mul_pos (Int.mul_pos hp (show 0 < A by omega)) e2
      omega
theorem Lk.dealt {A B : Int} {fs gs : List (Int × Int)} (h : Lk A B fs gs) (G : Gd fs) (a0 : 1 ≤ A) (a1 : A ≤ 40) (b0 : 1 ≤ B) (b1 : B ≤ 40) (a : Int) : dealt a (wtsOf gs) = dealt a (wtsOf fs) :=
  (dealt_frac (A := A) (B := B) (by omega) (by omega) h.len (G.good).pos (h.good G a0 a1 b0 b1).pos (fun i f g hf hg => by
    have e := (h.each i f g hf hg).2.2.2.1
    rw [Int.mul_assoc]
    exact e)).symm
/-- noughts between -/
theorem Mk.good {fs : List (Int × Int)} {m : List (Bool × (Int × Int))} (h : Mk fs m) (G : Good fs) (hl : m.length ≤ 30) : Good (m.map (·.2)) := by
  have sub : ∀ f ∈ fs, f ∈ m.map (·.2) := fun f hf => by
    rw [← h.on] at hf
    obtain ⟨x, hx, rfl⟩ := List.mem_map.mp hf
    exact List.mem_map.mpr ⟨x, (List.mem_filter.mp hx).1, rfl⟩
  refine ⟨?_, by rw [List.length_map]; omega, fun f hf => ?_, ?_⟩
  · obtain ⟨f, hf, _⟩ := G.some
    exact List.length_pos_of_mem (sub f hf)
  · obtain ⟨x, hx, rfl⟩ := List.mem_map.mp hf
    cases hb : x.1 with
    | false =>
      rw [h.off x hx hb]
      exact ⟨by decide, by decide, by decide, by decide, by decide⟩
    | true =>
      refine G.each x.2 ?_
      rw [← h.on]
      exact List.mem_map.mpr ⟨x, List.mem_filter.mpr ⟨hx, hb⟩, rfl⟩
  · obtain ⟨f, hf, hp⟩ := G.some
    exact ⟨f, sub f hf, hp⟩
theorem between_math (a : Int) {fs : List (Int × Int)} {m : List (Bool × (Int × Int))} (h : Mk fs m) (G : Good fs) (hl : m.length ≤ 30) :
    (tI m).map (fun p => (dealt a (wtsOf (m.map (·.2)))).getD p.toNat 0) = dealt a (wtsOf fs) ∧ ∀ q : Nat, q < m.length → (q : Int) ∉ tI m → (dealt a (wtsOf (m.map (·.2))))[q]? = some 0 := by
  have g2 := h.good G hl
  let L := lcmF 1 (m.map (·.2))
  let m' : List (Bool × Int) := m.map fun x => (x.1, x.2.1 * (L / x.2.2))
  have e1 : m'.map (·.2) = wtsOf (m.map (·.2)) := by
    show (m.map _).map _ = _
    unfold wtsOf wts
    rw [List.map_map, List.map_map]
    rfl
  have e2 : m'.map (·.1) = m.map (·.1) := by
    show (m.map _).map _ = _
    rw [List.map_map]
    rfl
  have nn : Naught m' := fun x hx hf => by
    obtain ⟨y, hy, rfl⟩ := List.mem_map.mp hx
    have e := h.off y hy hf
    show y.2.1 * (L / y.2.2) = 0
    rw [e]
    exact Int.zero_mul _
  have e3 : (m'.filter (·.1)).map (·.2) = wts L fs := by
    rw [← h.on]
    show ((m.map fun x => (x.1, x.2.1 * (L / x.2.2))).filter (·.1)).map (·.2) = _
    unfold wts
    rw [List.filter_map, List.map_map, List.map_map]
    rfl
  obtain ⟨m2, q1, q2, q3, q4⟩ := dealt_naught a m' nn
  rw [e1] at q1
  rw [e2] at q2
  rw [e3] at q4
  have sub : ∀ f ∈ fs, f ∈ m.map (·.2) := fun f hf => by
    rw [← h.on] at hf
    obtain ⟨x, hx, rfl⟩ := List.mem_map.mp hf
    exact List.mem_map.mpr ⟨x, (List.mem_filter.mp hx).1, rfl⟩
  have e4 : dealt a (wts L fs) = dealt a (wtsOf fs) := dealt_mult g2.lcm.pos G.lcm.pos (fun f hf => ⟨G.pos f hf, g2.lcm.all f (sub f hf)⟩) (fun f hf => ⟨G.pos f hf, G.lcm.all f hf⟩)
  rw [e4] at q4
  have tp := trues_pick m2 []
  simp only [List.length_nil, List.nil_append] at tp
  rw [q1, q2, q4] at tp
  refine ⟨?_, fun q hq hn => ?_⟩
  · unfold tI
    rw [List.map_map]
    exact tp
  · have lm : m2.length = m.length := by
      have := congrArg List.length q2
      rw [List.length_map, List.length_map] at this
      exact this
    have hq2 : q < m2.length := by omega
    have f1 : (m.map (·.1))[q]? ≠ some true := fun z => hn (by
      unfold tI
      exact List.mem_map.mpr ⟨q, (trues_mem _ 0 q).mpr ⟨Nat.zero_le _, z⟩, rfl⟩)
    rw [← q2, List.getElem?_map, List.getElem?_eq_getElem hq2] at f1
    have f2 : (m2[q]).1 = false := by
      cases hb : (m2[q]).1 with
      | false => rfl
      | true => exact absurd (by show some (m2[q]).1 = some true; rw [hb]) f1
    rw [← q1, List.getElem?_map, List.getElem?_eq_getElem hq2]
    show some (m2[q]).2 = some 0
    rw [q3 _ (List.getElem_mem hq2) f2]
end Wd3

set_option Elab.async false
set_option linter.all false
set_option maxRecDepth 100000
set_option maxHeartbeats 4000000
set_option exponentiation.threshold 5000
namespace Wd3
open PySem PySem.Spec PyProof.Rows L2 WdM Wd
abbrev sRight : Stmt := topS 20
abbrev nR : List Str := ["_law_pool_here", "_law_pence", "_law_portions", "_law_told", "_law_a", "_law_b", "_law_wide", "_law_places", "_law_found", "_law_turned", "_law_more", "_law_top", "_law_bottom", "_law_spot", "_law_at", "_law_one", "_law_other"]
theorem scR : FnScope nR ["_law_pool_here", "_law_pence", "_law_portions"] (defScope sRight) := ⟨rfl, rfl, rfl, by decide +kernel, rfl, by decide +kernel, by decide +kernel⟩
section
variable {P : Program} {w : World} {K : PySem.W.Frag} {mg : Str → Option Value} {base : Heap}
def spRight (K : PySem.W.Frag) : Sp := fun vs H Q _ => ∃ (l : Addr) (pe : Int) (v : V) (fs : List (Int × Int)), vs = [.ref l, .int pe, v] ∧ PoolAt H l ∧ 0 ≤ pe ∧ pe ≤ 1000000000000 ∧ Sh K H v fs ∧ Gd fs ∧ ∀ H', Bt [l] H H' → PoolAt H' l → Q (.bl true) H'
theorem Lk.snoc {A B : Int} {fs gs : List (Int × Int)} {f g : Int × Int} (h : Lk A B fs gs) (e : 0 ≤ g.1 ∧ 0 < g.2 ∧ Int.gcd g.1 g.2 = 1 ∧ g.1 * (f.2 * B) = f.1 * A * g.2 ∧ g.1 ≤ f.1 * A ∧ g.2 ≤ f.2 * B) : Lk A B (fs ++ [f]) (gs ++ [g]) := by
  refine ⟨by rw [List.length_append, List.length_append, h.len]; rfl, fun i x y hx hy => ?_⟩
  by_cases hi : i < fs.length
  · rw [List.getElem?_append_left hi] at hx
    rw [List.getElem?_append_left (by rw [← h.len]; exact hi)] at hy
    exact h.each i x y hx hy
  · rw [List.getElem?_append_right (by omega)] at hx
    rw [List.getElem?_append_right (by rw [← h.len]; omega)] at hy
    have i0 : i - fs.length = 0 := by
      have := lt_get hx
      simp at this
      omega
    rw [i0] at hx
    rw [← h.len, i0] at hy
    cases hx
    cases hy
    exact e
theorem inV_int (q : Int) (ns : List Int) : inV (.int q) (ns.map V.int) = true ↔ q ∈ ns := by
  unfold inV
  rw [List.any_map, List.any_eq_true]
  constructor
  · rintro ⟨n, hn, e⟩
    have : n = q := by simpa [eqV] using e
    rw [← this]
    exact hn
  · intro h
    exact ⟨q, h, by simp [eqV]⟩
theorem flat_ints (ns : List Int) : (ns.map V.int).all flatV = true := by
  rw [List.all_map, List.all_eq_true]
  intro n _
  rfl
theorem any_false (n : Nat) : (List.replicate n false).any id = false := by
  induction n with
  | zero => rfl
  | succ n ih => rw [List.replicate_succ, List.any_cons, ih]; rfl
theorem neI {x : Int} : (!decide (V.int x = V.int x)) = false := by simp
theorem ok_right {f fT fP fL fB : Addr} {fd fdT fdP fdL fdB : FuncData} {k : Nat} (B : Bl mg) (M : Bm mg) (D : Df K mg "_law_right" sRight f fd ["_law_pool_here", "_law_pence", "_law_portions"]) (DT : Df K mg "_law_take" sTake fT fdT ["_law_pool_here", "_law_many"])
    (DL : Df K mg "_law_low" sLow fL fdL ["_law_top", "_law_bottom"]) (DB : Df K mg "_law_between" sBetween fB fdB ["_law_pool_here", "_law_portions"])
    (DP : Df K mg "parted" sParted fP fdP ["amount", "shares"]) (GP : FnOk P w K mg base CX0 4 fP fdP ["amount", "shares"] (spParted K)) :
    FnOk P w K mg base CX0 (k + 5) f fd ["_law_pool_here", "_law_pence", "_law_portions"] (spRight K) := by
  have GT : FnOk P w K mg base CX0 1 fT fdT ["_law_pool_here", "_law_many"] spTake := ok_take (k := 0) M DT
  have GL : FnOk P w K mg base CX0 1 fL fdL ["_law_top", "_law_bottom"] spLow := ok_low (k := 0) DL
  have GB : FnOk P w K mg base CX0 2 fB fdB ["_law_pool_here", "_law_portions"] (spBetween K) := ok_between (k := 0) B M DB DT
  refine D.fn.ok scR (fun vs H Q E h => ?_) (fun cdv A outer s H vs Q E hr h => ?_)
  · obtain ⟨l, pe, v, fs, rfl, _⟩ := h
    rfl
  · obtain ⟨l, pe, v, fs, rfl, pl, pe0, pe1, hsh, Gf, q⟩ := h
    have r1 : Room 1 _ := hr.mono (by omega)
    have r2 : Room 2 _ := hr.mono (by omega)
    have r4 : Room 4 _ := hr.mono (by omega)
    have hu := r4.units
    have G := Gf.good
    refine ⟨_, pss_cons (ps_set (i := 3) scR.nd rfl (.inl rfl) (pe_call GP r4 (by rfl) DP.mg DP.fn.kp DP.bd .nil pass0 (pa_cons (pv 1) (pa_cons (pv 2) pa_nil))))
      (pss_cons (ps_if (PW.pt (pw_or (pt_not (pt_val (pe_callB call_isi (by rfl) B.isi boot_isinstance (pa_cons (pv 3) (pa_cons (pe_bltn (v := .ty "tuple") (by rfl) B.tuple boot_tuple rfl) pa_nil)))))
          (pw_or (pt_cmpR op_ne (pe_callB (cr_sumT rfl) (by rfl) B.sum (by decide +kernel) (pa_cons (pv 3) pa_nil)) (pv 1) (nomark _))
          (pw_or1 (pt_cmpR (op_neD hu) (pe_callN0 GP r4 (by rfl) DP.mg DP.fn.kp (kb2 DP.fn) pass0 (pk_cons (pv 2) (pk_cons (pv 1) pk_nil))) (pv 3) (nomark _)))))) (pss_one (ps_ret pe_bl)) pss_nil)
      (pss_cons (ps_asg (pe_tup (pa_cons (pe_op op_add pe_int (pe_call GT r1 (by rfl) DT.mg DT.fn.kp DT.bd .nil pass0 (pa_cons (pv 0) (pa_cons pe_int pa_nil)))) (pa_cons (pe_op op_add pe_int (pe_call GT r1 (by rfl) DT.mg DT.fn.kp DT.bd .nil pass0 (pa_cons (pv 0) (pa_cons pe_int pa_nil)))) pa_nil)))
          (pg_tup rfl (pgs_cons (pg_name (i := 4) scR.nd rfl (.inr rfl)) (pgs_cons (pg_name (i := 5) scR.nd rfl (.inr rfl)) pgs_nil))))
      (pss_cons (ps_if (pt_cmpR (op_neD hu) (pe_call GP r4 (by rfl) DP.mg DP.fn.kp DP.bd .nil pass0 (pa_cons (pv 1) (pa_cons (pe_callTy call_tuple_of (by rfl) B.tuple boot_tuple (pa_cons
          (pe_lc (own := [("_law_top", 11), ("_law_bottom", 12)]) (g := gTup K 2 (gCons (gName 11) (gCons (gName 12) gNil))) (tt := tYes) rfl scR.nd (pi_tup (pv 2)) (blkOk_by (own := [("_law_top", 11), ("_law_bottom", 12)]) (N := nR) (sc := defScope sRight) (by decide +kernel))
            (fun _ _ _ _ _ => pg_tup rfl (pgs_cons (pg_name (i := 11) scR.nd rfl (.inl rfl)) (pgs_cons (pg_name (i := 12) scR.nd rfl (.inl rfl)) pgs_nil))) (fun _ _ _ _ _ => pts_nil)
            (fun _ _ _ _ _ => pe_call GL r1 (by rfl) DL.mg DL.fn.kp DL.bd .nil pass0 (pa_cons (pe_op op_mul (pv 11) (pv 4)) (pa_cons (pe_op op_mul (pv 12) (pv 5)) pa_nil)))) pa_nil)) pa_nil))) (pv 3) (nomark _)) (pss_one (ps_ret pe_bl)) pss_nil)
      (pss_cons (ps_asg (pe_call GB r2 (by rfl) DB.mg DB.fn.kp DB.bd .nil pass0 (pa_cons (pv 0) (pa_cons (pv 2) pa_nil))) (pg_tup rfl (pgs_cons (pg_name (i := 6) scR.nd rfl (.inl rfl)) (pgs_cons (pg_name (i := 7) scR.nd rfl (.inr rfl)) pgs_nil))))
      (pss_cons (ps_set (i := 8) scR.nd rfl (.inr rfl) (pe_call GP r4 (by rfl) DP.mg DP.fn.kp DP.bd .nil pass0 (pa_cons (pv 1) (pa_cons (pv 6) pa_nil))))
      (pss_cons (ps_if (PW.pt (pw_or (pt_cmpR (op_neD hu)
          (pe_lc (own := [("_law_spot", 13)]) (g := gName 13) (tt := tYes) rfl scR.nd (pi_list (pv 7)) (blkOk_by (own := [("_law_spot", 13)]) (N := nR) (sc := defScope sRight) (by decide +kernel))
            (fun _ _ _ _ _ => pg_name (i := 13) scR.nd rfl (.inl rfl)) (fun _ _ _ _ _ => pts_nil)
            (fun _ _ _ _ _ => pe_ix (r := rIxT K) ix_tup (pv 8) (pv 13) (fun _ _ => rfl)))
          (pe_callTy call_list_of (by rfl) M.list boot_list (pa_cons (pv 3) pa_nil)) (nomark _))
          (pw_or1 (pt_cmpR op_ne (pe_callB (cr_sumT rfl) (by rfl) B.sum (by decide +kernel) (pa_cons (pv 8) pa_nil)) (pv 1) (nomark _))))) (pss_one (ps_ret pe_bl)) pss_nil)
      (pss_cons (ps_if (pt_val (pe_callB (cr_any rfl) (by rfl) B.any (by decide +kernel) (pa_cons
          (pe_lc (own := [("_law_at", 14)]) (g := gName 14) (tt := tTest (tOp (rIn K true) (tVar 14) (tVar 7))) rfl scR.nd (pi_range1 (by rfl) M.range (pa_cons (pe_callB call_len_seq (by rfl) B.len PySem.boot_len (pa_cons (pv 6) pa_nil)) pa_nil)) (blkOk_by (own := [("_law_at", 14)]) (N := nR) (sc := defScope sRight) (by decide +kernel))
            (fun _ _ _ _ _ => pg_name (i := 14) scR.nd rfl (.inl rfl)) (fun _ _ _ _ _ => pts_one (pt_cmpR op_notIn_seq (pv 14) (pv 7) (by rfl)))
            (fun _ _ _ _ _ => pe_cmpR op_ne (pe_ix (r := rIxT K) ix_tup (pv 8) (pv 14) (fun _ _ => rfl)) pe_int (nomark _))) pa_nil))) (pss_one (ps_ret pe_bl)) pss_nil)
      (pss_cons (ps_set (i := 9) scR.nd rfl (.inl rfl) (pe_revT (pe_call GP r4 (by rfl) DP.mg DP.fn.kp DP.bd .nil pass0 (pa_cons (pv 1) (pa_cons (pe_revT (pv 2)) pa_nil)))))
      (pss_cons (ps_setLc (i := 10) (own := [("_law_one", 15), ("_law_other", 16)]) (g := gTup K 2 (gCons (gName 15) (gCons (gName 16) gNil))) (tt := tYes) rfl scR.nd rfl rfl (sw_true rfl rfl rfl (by decide +kernel)) (pi_Z .tu .tu (by rfl) M.zip (pa_cons (pv 3) (pa_cons (pv 9) pa_nil))) (blkOk_by (own := [("_law_one", 15), ("_law_other", 16)]) (N := nR) (sc := defScope sRight) (by decide +kernel))
            (fun _ _ _ _ _ => pg_tup rfl (pgs_cons (pg_name (i := 15) scR.nd rfl (.inl rfl)) (pgs_cons (pg_name (i := 16) scR.nd rfl (.inl rfl)) pgs_nil))) (fun _ _ _ _ _ => pts_nil)
            (fun _ _ _ _ _ => pe_op op_sub (pe_callTy call_int1 (by rfl) B.int boot_int (pa_cons (pe_cmpR op_gt (pv 15) (pv 16) (nomark _)) pa_nil)) (pe_callTy call_int1 (by rfl) B.int boot_int (pa_cons (pe_cmpR op_lt (pv 15) (pv 16) (nomark _)) pa_nil))))
      (pss_one (ps_ret (pe_and (pe_cmpR op_eq (pe_callB (cr_sumT rfl) (by rfl) B.sum (by decide +kernel) (pa_cons (pv 9) pa_nil)) (pv 1) (nomark _))
          (pe_and (pe_cmpR op_eq (pe_callB (cr_sum rfl) (by rfl) B.sum (by decide +kernel) (pa_cons (pv 10) pa_nil)) pe_int (nomark _))
          (pe_one (pe_callB (cr_all rfl) (by rfl) B.all (by decide +kernel) (pa_cons
          (pe_lc (own := [("_law_one", 15), ("_law_other", 16)]) (g := gTup K 2 (gCons (gName 15) (gCons (gName 16) gNil))) (tt := tYes) rfl scR.nd (pi_Z .tu .tu (by rfl) M.zip (pa_cons (pv 3) (pa_cons (pv 9) pa_nil))) (blkOk_by (own := [("_law_one", 15), ("_law_other", 16)]) (N := nR) (sc := defScope sRight) (by decide +kernel))
            (fun _ _ _ _ _ => pg_tup rfl (pgs_cons (pg_name (i := 15) scR.nd rfl (.inl rfl)) (pgs_cons (pg_name (i := 16) scR.nd rfl (.inl rfl)) pgs_nil))) (fun _ _ _ _ _ => pts_nil)
            (fun _ _ _ _ _ => pe_cmpR op_lt (pe_callB call_abs (by rfl) B.abs (by decide +kernel) (pa_cons (pe_op op_sub (pv 15) (pv 16)) pa_nil)) pe_int (nomark _))) pa_nil)))))))))))))))), ?_⟩
    have hsum : (dealt pe (wtsOf fs)).sum = pe := dealt_sum pe _ G.sum.1
    obtain ⟨a, ys, rfl, hs, hf⟩ := id hsh
    -- told
    refine ⟨_, rfl, _, rfl, pe, _, fs, rfl, pe0, pe1, hsh, G, fun H1 tT s1 nt ht => ?_⟩
    -- a tuple, its sum, by names
    refine ⟨_, rfl, _, .ty "tuple", .type "tuple", .type "tuple", true, rfl, .ty _, tyT (sqT ht), kit_ty (by decide +kernel), true, rfl, iteF ⟨_, rfl, tT, _, rfl, sqT ht, _, rfl, rfl, _, rfl, ?_⟩⟩
    rw [hsum, neI]
    refine iteF ⟨_, rfl, _, rfl, rfl, pe, _, fs, rfl, pe0, pe1, hsh.tk (tk_same s1), G, fun H2 r s2 nr hr2 => ⟨_, rfl, _, _, dT (sqT hr2), dT (sqT (s2 _ _ ht)), shT _, shT _, _, rfl, ?_⟩⟩
    rw [neT]
    refine iteF ?_
    have b2 : Bt [l] H H2 := .of_same (s1.trans s2)
    have p2 := (pl.same s1).same s2
    have t2 : SqT K H2 tT ((dealt pe (wtsOf fs)).map V.int) := sqT (s2 _ _ ht)
    have h2 : Sh K H2 (.ref a) fs := hsh.tk (tk_same (s1.trans s2))
    clear s1 ht s2 hr2 nr nt H1
    -- a, b
    refine ⟨_, rfl, l, 40, rfl, p2, by decide, fun H3 d b3 p3 d0 d1 => ⟨1, d, rfl, rfl, _, rfl, l, 40, rfl, p3, by decide, fun H4 e b4 p4 e0 e1 => ⟨1, e, rfl, rfl, by show 2 ≤ sizeLine; decide, fun T nT => ⟨T, _, rfl, sqT upd_same, rfl, _, _, rfl, _, _, rfl, rfl, ?_⟩⟩⟩⟩
    have k5 : Tk H2 (upd H4 T (.tup [.int (1 + d), .int (1 + e)])) := ((b3.trans b4).tk p2.lst).trans (tk_new nT)
    have b5 : Bt [l] H (upd H4 T (.tup [.int (1 + d), .int (1 + e)])) := ((b2.trans b3).trans b4).new nT
    have p5 : PoolAt (upd H4 T (.tup [.int (1 + d), .int (1 + e)])) l := p4.upd (p4.ne nT)
    have t5 := k5.sq t2
    have h5 := h2.tk k5
    revert b5 p5 t5 h5
    generalize upd H4 T (.tup [.int (1 + d), .int (1 + e)]) = H5
    intro b5 p5 t5 h5
    clear k5 b3 p3 b4 p4 nT t2 h2 b2 p2
    obtain ⟨a5, ys5, e5, hs5, hf5⟩ := id h5
    cases e5
    -- times a fraction
    have A0 : 1 ≤ 1 + d := by omega
    have A1 : 1 + d ≤ 40 := by omega
    have B0 : 1 ≤ 1 + e := by omega
    have B1 : 1 + e ≤ 40 := by omega
    have l10 := Gf.len1
    refine ⟨_, rfl, _, rfl, a, rfl, ⟨ys5, hs5⟩, fun R nR => lc_tup (K := K) (a := a) (xs := ys5) (fun i H' => ∃ zs gs, H' R = some (.lst zs) ∧ FrAll K H' zs gs ∧ Lk (1 + d) (1 + e) (fs.take i) gs ∧ Same H5 H') ⟨[], [], upd_same, .nil, ⟨rfl, fun i f g hf _ => by simp at hf⟩, same_new nR⟩ (fun i H' _ ⟨_, _, _, _, _, sm⟩ => (tk_same sm).sq hs5) ?_ ?_⟩
    · rintro i x H6 hx ⟨zs, gs, hR, hz, lk, sm⟩
      obtain ⟨f, p, hfi, rfl, hp⟩ := (hf5.tk (tk_same sm)).get hx
      have ⟨f1, f2, f3, f4, _⟩ := Gf.each f (List.mem_of_getElem? hfi)
      have q1 := mul_le40 f1 f2 A0 A1
      have q2 := mul_le40 (Int.le_of_lt f3) f4 B0 B1
      have q3 := Int.mul_pos f3 (show 0 < 1 + e by omega)
      refine ⟨p, _, rfl, hp, rfl, _, _, rfl, _, _, rfl, rfl, rfl, tyes (iteT ⟨_, rfl, _, rfl, f.1, 1 + d, rfl, rfl, .inr ⟨by omega, by omega⟩, _, rfl, _, rfl, f.2, 1 + e, rfl, rfl, .inr ⟨by omega, by omega⟩, f.1 * (1 + d), f.2 * (1 + e), rfl, q1.1, q3, big_small q2.1 (by omega), fun o g no g0 g1 gg ge gx gy => ?_⟩)⟩
      have hR2 : (upd H6 o (.tup [.int g.1, .int g.2])) R = some (.lst zs) := same_new no _ _ hR
      have nRo : R ≠ o := ne_of_none hR no
      refine ⟨zs, hR2, ?_, _, gs ++ [g], upd_same, ?_, ?_, ?_⟩
      · rw [hz.1, ← lk.len, List.length_take]
        exact small1000 (by omega)
      · exact (hz.tk ((tk_new no).trans (tk_lst hR2))).append (FrAll.one ⟨o, rfl, sqT (by rw [upd_ne nRo.symm, upd_same])⟩)
      · rw [take_more hfi]
        exact lk.snoc ⟨g0, g1, gg, ge, gx, gy⟩
      · exact ((Bt.of_same (S := []) (sm.trans (same_new no))).upd0 nR).same
    · rintro H6 ⟨zs, gs, hR, hz, lk, sm⟩
      rw [hf5.1, List.take_length] at lk
      refine ⟨R, zs, rfl, .inl ⟨sqL hR, fun u nu => ⟨pe, .ref u, gs, rfl, pe0, pe1, ⟨u, zs, rfl, sqT upd_same, hz.tk (tk_new nu)⟩, lk.good Gf A0 A1 B0 B1, fun H7 r s7 nr hr7 => ?_⟩⟩⟩
      rw [lk.dealt Gf A0 A1 B0 B1] at hr7
      have s57 : Same H5 H7 := (sm.trans (same_new nu)).trans s7
      refine ⟨_, rfl, _, _, dT (sqT hr7), dT ((tk_same s57).sq t5), shT _, shT _, _, rfl, ?_⟩
      rw [neT]
      refine iteF ?_
      have b7 := b5.trans (.of_same s57)
      have p7 := p5.same s57
      have t7 := (tk_same s57).sq t5
      have h7 := h5.tk (tk_same s57)
      clear s57 hr7 nr s7 nu hz hR sm lk b5 p5 t5 h5 hs5 hf5
      -- noughts between
      refine ⟨_, rfl, _, rfl, l, _, fs, rfl, p7, h7, l10, fun H8 T8 W pL m b8 p8 hT8 hW8 hP8 mk ml => ⟨T8, _, rfl, sqT hT8, rfl, _, _, rfl, _, _, rfl, rfl, ?_⟩⟩
      have gm := mk.good G ml
      refine ⟨_, rfl, _, rfl, pe, W, _, rfl, pe0, pe1, hW8, gm, fun H9 fT s9 nf hF9 => ?_⟩
      have k9 : Tk H7 H9 := (b8.tk p7.lst).trans (tk_same s9)
      have b9 := (b7.trans b8).trans (.of_same s9)
      have p9 := p8.same s9
      have t9 := k9.sq t7
      have h9 := h7.tk k9
      have hP9 := s9 _ _ hP8
      have hW9 := hW8.tk (tk_same s9)
      have ⟨bm1, bm2⟩ := between_math pe mk G ml
      have lF : (dealt pe (wtsOf (m.map (·.2)))).length = m.length := by rw [dealt_len, wtsOf_len, List.length_map]
      have sF : (dealt pe (wtsOf (m.map (·.2)))).sum = pe := dealt_sum pe _ gm.sum.1
      have tIlt : ∀ p ∈ tI m, ∃ n : Nat, p = (n : Int) ∧ n < m.length := fun p hp => by
        unfold tI at hp
        obtain ⟨n, hn, rfl⟩ := List.mem_map.mp hp
        exact ⟨n, rfl, by have := trues_lt hn; rwa [List.length_map] at this⟩
      have tIlen : (tI m).length = (dealt pe (wtsOf fs)).length := by rw [← bm1, List.length_map]
      have tol : (dealt pe (wtsOf fs)).length ≤ 10 := by rw [dealt_len, wtsOf_len]; exact l10
      clear hW8 hP8 s9 b8 p8 k9 b7 p7 t7 h7 hT8
      revert hF9 bm1 bm2 lF sF
      generalize dealt pe (wtsOf (m.map (·.2))) = F
      intro hF9 bm1 bm2 lF sF
      refine ⟨_, rfl, pL, rfl, ⟨_, sqL hP9⟩, fun R2 nR2 => lc_list (K := K) (a := pL) (xs := (tI m).map V.int) (fun i H' => H' R2 = some (.lst ((((tI m).map fun p => F.getD p.toNat 0).take i).map V.int)) ∧ Same H9 H') ⟨upd_same, same_new nR2⟩ (fun i H' _ h => sqL (h.2 _ _ hP9)) ?_ ?_⟩
      · rintro i x H10 hx ⟨hR2, s10⟩
        obtain ⟨p, hp, rfl⟩ := ints_get hx
        obtain ⟨n, rfl, hn⟩ := tIlt p (List.mem_of_getElem? hp)
        have hFn : (F.map V.int)[n]? = some (.int (F.getD n 0)) := by
          rw [List.getElem?_map, List.getElem?_eq_getElem (by omega), List.getD_eq_getElem?_getD, List.getElem?_eq_getElem (by omega)]
          rfl
        refine ⟨rfl, tyes (iteT ⟨_, rfl, _, rfl, fT, _, (n : Int), .int (F.getD n 0), rfl, rfl, sqT (s10 _ _ hF9), atI_nat hFn, _, hR2, ?_, ?_, ?_⟩)⟩
        · have := lt_get hp
          rw [List.length_map, List.length_take]
          exact small1000 (by omega)
        · have hz : ((tI m).map fun p => F.getD p.toNat 0)[i]? = some (F.getD n 0) := by
            rw [List.getElem?_map, hp]
            rfl
          rw [upd_same, take_more hz, List.map_append]
          rfl
        · exact ((Bt.of_same (S := []) s10).upd0 nR2).same
      · rintro H10 ⟨hR2, s10⟩
        have e10 : ((tI m).map fun p => F.getD p.toNat 0).take ((tI m).map V.int).length = dealt pe (wtsOf fs) := by
          rw [bm1, List.length_map, tIlen, List.take_length]
        rw [e10] at hR2
        refine ⟨_, rfl, tT, _, rfl, .inr ((tk_same s10).sq t9), fun l2 nl2 => ⟨_, _, dL (sqL (same_new nl2 _ _ hR2)), dL (sqL upd_same), shL _, shL _, _, rfl, ?_⟩⟩
        rw [neL]
        have s11 : Same H9 (upd H10 l2 (.lst ((dealt pe (wtsOf fs)).map V.int))) := s10.trans (same_new nl2)
        revert s11
        generalize upd H10 l2 (.lst ((dealt pe (wtsOf fs)).map V.int)) = H11
        intro s11
        refine iteF ⟨_, rfl, fT, F, rfl, sqT (s11 _ _ hF9), _, rfl, rfl, _, rfl, ?_⟩
        rw [sF, neI]
        refine iteF ?_
        clear hR2 nR2 nl2 s10 e10
        -- nothing elsewhere
        obtain ⟨aW, yW, rfl, hsW, hfW⟩ := hW9
        have lW : yW.length = m.length := by rw [hfW.1, List.length_map]
        have hP11 := s11 _ _ hP9
        refine ⟨_, rfl, aW, _, rfl, .inr ((tk_same s11).sq hsW), (yW.length : Int), rfl, by omega, by omega, fun R3 nR3 => lc_range (lo := 0) (n := (yW.length : Int).toNat) (fun i H' => (∃ n, n ≤ i ∧ H' R3 = some (.lst ((List.replicate n false).map V.bl))) ∧ Same H11 H') ⟨⟨0, Nat.le_refl _, upd_same⟩, same_new nR3⟩ ?_ ?_⟩
        · rintro i H12 hi ⟨⟨n, hn, hR3⟩, s12⟩
          refine ⟨rfl, _, rfl, _, rfl, pL, _, rfl, .inl (sqL (s12 _ _ hP11)), rfl, flat_ints _, _, rfl, ?_⟩
          by_cases hin : inV (.int (0 + (i : Int))) ((tI m).map V.int) = true
          · rw [show (if true = true then !inV (.int (0 + (i : Int))) ((tI m).map V.int) else inV (.int (0 + (i : Int))) ((tI m).map V.int)) = false by rw [hin]; rfl]
            exact iteF ⟨⟨n, by omega, hR3⟩, s12⟩
          · have hf2 : inV (.int (0 + (i : Int))) ((tI m).map V.int) = false := by simpa using hin
            rw [show (if true = true then !inV (.int (0 + (i : Int))) ((tI m).map V.int) else inV (.int (0 + (i : Int))) ((tI m).map V.int)) = true by rw [hf2]; rfl]
            have nin : (i : Int) ∉ tI m := fun z => hin ((inV_int _ _).mpr (by rw [Int.zero_add]; exact z))
            have hi2 : i < m.length := by omega
            have hF0 : (F.map V.int)[i]? = some (.int 0) := by rw [List.getElem?_map, bm2 i hi2 nin]; rfl
            refine iteT ⟨_, rfl, _, rfl, fT, _, (0 + (i : Int)), .int 0, rfl, rfl, sqT (s12 _ _ (s11 _ _ hF9)), at_of (Int.zero_add _) hF0, rfl, _, hR3, ?_, ⟨n + 1, by omega, ?_⟩, ?_⟩
            · rw [List.length_map, List.length_replicate]
              exact small1000 (by omega)
            · rw [upd_same, List.replicate_succ', List.map_append]
              rfl
            · exact ((Bt.of_same (S := []) s12).upd0 nR3).same
        · rintro H12 ⟨⟨n, hn, hR3⟩, s12⟩
          refine ⟨R3, _, rfl, sqL hR3, _, rfl, ?_⟩
          rw [any_false]
          refine iteF ?_
          have s912 := s11.trans s12
          have b12 := b9.trans (.of_same s912)
          have p12 := p9.same s912
          have t12 := (tk_same s912).sq t9
          have h12 := h9.tk (tk_same s912)
          clear s912 s12 s11 hR3 nR3 hsW hfW b9 p9 t9 h9
          obtain ⟨a12, ys12, e12, hs12, hf12⟩ := id h12
          cases e12
          -- turned
          have ⟨tm1, tm2, tm3⟩ := turned_math pe G
          refine ⟨_, rfl, _, rfl, a, ys12, rfl, hs12, fun p np => ⟨pe, .ref p, fs.reverse, rfl, pe0, pe1, ⟨p, _, rfl, sqT upd_same, hf12.reverse.tk (tk_new np)⟩, G.rev, fun H13 r s13 nr hr13 => ⟨r, _, rfl, sqT hr13, fun u nu => ?_⟩⟩⟩
          have hu14 : (upd H13 u (.tup ((dealt pe (wtsOf fs.reverse)).map V.int).reverse)) u = some (.tup ((dealt pe (wtsOf fs.reverse)).reverse.map V.int)) := by rw [upd_same, List.map_reverse]
          have s14 : Same H12 (upd H13 u (.tup ((dealt pe (wtsOf fs.reverse)).map V.int).reverse)) := ((same_new np).trans s13).trans (same_new nu)
          revert hu14 s14 tm1 tm2 tm3
          generalize upd H13 u (.tup ((dealt pe (wtsOf fs.reverse)).map V.int).reverse) = H14
          generalize (dealt pe (wtsOf fs.reverse)).reverse = tn
          intro tm1 tm2 tm3 hu14 s14
          have t14 := (tk_same s14).sq t12
          generalize dealt pe (wtsOf fs) = told at *
          -- more
          refine ⟨_, rfl, _, rfl, tT, u, _, _, rfl, t14, sqT hu14, fun mL nM => lc_it (walkZ (K := K) (k := .tu) (m := .tu) (a := tT) (b := u) (by rw [List.length_map, List.length_map]; exact tm1.symm)) (fun i H' => H' mL = some (.lst (((List.zipWith sg told tn).take i).map V.int)) ∧ Same H14 H') ⟨upd_same, same_new nM⟩ (fun i H' _ h => ⟨(tk_same h.2).sq t14, sqT (h.2 _ _ hu14)⟩) ?_ ?_⟩
          · rintro j _ H15 _ _ ⟨hM, s15⟩ ⟨T, x, y, rfl, nT, rfl, hxj, hyj⟩
            obtain ⟨x, hx, rfl⟩ := ints_get hxj
            obtain ⟨y, hy, rfl⟩ := ints_get hyj
            refine ⟨T, _, rfl, sqT upd_same, rfl, _, _, rfl, _, _, rfl, rfl, rfl, tyes (iteT ⟨_, rfl, _, rfl, x, y, rfl, rfl, .inr ⟨_, rfl, _, rfl, _, rfl, x, y, rfl, rfl, .inr ⟨_, rfl, _, _, rfl, rfl, _, same_new nT _ _ hM, ?_, ?_, ?_⟩⟩⟩)⟩
            · have := lt_get hx
              rw [List.length_map, List.length_take]
              exact small1000 (by omega)
            · have hz : (List.zipWith sg told tn)[j]? = some (sg x y) := by rw [List.getElem?_zipWith, hx, hy]
              rw [upd_same, take_more hz, List.map_append]
              rfl
            · exact ((Bt.of_same (S := []) (s15.trans (same_new nT))).upd0 nM).same
          · rintro H15 ⟨hM, s15⟩
            have lz : (List.zipWith sg told tn).length = told.length := by rw [List.length_zipWith, tm1, Nat.min_self]
            rw [List.length_map, ← lz, List.take_length] at hM
            have t15 := (tk_same s15).sq t14
            have u15 := s15 _ _ hu14
            refine ⟨_, rfl, u, tn, rfl, sqT u15, _, rfl, rfl, _, rfl, ?_⟩
            rw [tm2, decide_eq_true rfl]
            refine iteT ⟨_, rfl, mL, _, rfl, sqL hM, rfl, _, rfl, ?_⟩
            rw [sum_sg told tn tm1.symm tm3, hsum, tm2, Int.sub_self, decide_eq_true rfl]
            refine iteT ?_
            refine ⟨_, rfl, _, rfl, tT, u, _, _, rfl, t15, sqT u15, fun aL nA => lc_it (walkZ (K := K) (k := .tu) (m := .tu) (a := tT) (b := u) (by rw [List.length_map, List.length_map]; exact tm1.symm)) (fun i H' => H' aL = some (.lst ((List.replicate i true).map V.bl)) ∧ Same H15 H') ⟨upd_same, same_new nA⟩ (fun i H' _ h => ⟨(tk_same h.2).sq t15, sqT (h.2 _ _ u15)⟩) ?_ ?_⟩
            · rintro j _ H16 _ _ ⟨hA, s16⟩ ⟨T, x, y, rfl, nT, rfl, hxj, hyj⟩
              obtain ⟨x, hx, rfl⟩ := ints_get hxj
              obtain ⟨y, hy, rfl⟩ := ints_get hyj
              have ⟨n1, n2⟩ := tm3 j x y hx hy
              have hlt : (if x - y < 0 then -(x - y) else x - y) < 2 := by split <;> omega
              refine ⟨T, _, rfl, sqT upd_same, rfl, _, _, rfl, _, _, rfl, rfl, rfl, tyes (iteT ⟨_, rfl, _, rfl, x, y, rfl, rfl, x - y, rfl, _, 2, rfl, rfl, _, same_new nT _ _ hA, ?_, ?_, ?_⟩)⟩
              · have := lt_get hx
                rw [List.length_map, List.length_replicate]
                exact small1000 (by omega)
              · rw [upd_same, List.replicate_succ', List.map_append]
                show some (HO.lst (_ ++ [V.bl (decide ((if x - y < 0 then -(x - y) else x - y) < 2))])) = _
                rw [decide_eq_true hlt]
                rfl
              · exact ((Bt.of_same (S := []) (s16.trans (same_new nT))).upd0 nA).same
            · rintro H16 ⟨hA, s16⟩
              refine ⟨aL, _, rfl, sqL hA, ?_⟩
              rw [all_true]
              have s1216 := (s14.trans s15).trans s16
              exact q H16 (b12.trans (.of_same s1216)) (p12.same s1216)
end
end Wd3

set_option Elab.async false
set_option linter.all false
set_option maxRecDepth 100000
set_option maxHeartbeats 4000000
set_option exponentiation.threshold 5000
namespace Wd3
open PySem PySem.Spec PyProof.Rows L2 WdM Wd
abbrev sLaw : Stmt := topS 21
theorem scLaw : FnScope ["_law_script", "_law_k", "_law_pool_here", "_law_portions", "_law_pence"] ["_law_script"] (defScope sLaw) := ⟨rfl, rfl, rfl, by decide +kernel, rfl, by decide +kernel, by decide +kernel⟩
theorem Bt.same1 {l : Addr} {H H' : Hp} (e : Bt [l] H H') (h : H l = none) : Same H H' := fun b o q => e b o (by simp [ne_of_none q h]) q
section
variable {P : Program} {w : World} {K : PySem.W.Frag} {mg : Str → Option Value} {base : Heap}
def spLaw (K : PySem.W.Frag) : Sp := fun vs H Q _ => ∃ (a : Addr) (ns : List Int), vs = [.ref a] ∧ SqL K H a (ns.map V.int) ∧ ns.length ≤ 63 ∧ ∀ H', Q (.bl true) H'
theorem ok_law {f fO fS fT fR fWR : Addr} {fd fdO fdS fdT fdR fdWR : FuncData} (B : Bl mg) (M : Bm mg) (D : Df K mg "law" sLaw f fd ["_law_script"]) (DO : Df K mg "_law_pool" sPool fO fdO ["_law_script", "_law_k"]) (DS : Df K mg "_law_shares" sShares fS fdS ["_law_pool_here"])
    (DT : Df K mg "_law_take" sTake fT fdT ["_law_pool_here", "_law_many"]) (DR : Df K mg "_law_right" sRight fR fdR ["_law_pool_here", "_law_pence", "_law_portions"]) (DW : Df K mg "_law_whole_right" sWR fWR fdWR ["_law_pool_here", "_law_portions"])
    (GS : FnOk P w K mg base CX0 2 fS fdS ["_law_pool_here"] (spShares K)) (GR : FnOk P w K mg base CX0 5 fR fdR ["_law_pool_here", "_law_pence", "_law_portions"] (spRight K)) (GW : FnOk P w K mg base CX0 5 fWR fdWR ["_law_pool_here", "_law_portions"] (spWR K)) :
    FnOk P w K mg base CX0 6 f fd ["_law_script"] (spLaw K) := by
  have GO : FnOk P w K mg base CX0 1 fO fdO ["_law_script", "_law_k"] (spPool K) := ok_pool (k := 0) B M DO
  have GT : FnOk P w K mg base CX0 1 fT fdT ["_law_pool_here", "_law_many"] spTake := ok_take (k := 0) M DT
  refine D.fn.ok scLaw (fun vs H Q E h => ?_) (fun cdv A outer s H vs Q E hr h => ?_)
  · obtain ⟨a, ns, rfl, _⟩ := h
    rfl
  · obtain ⟨a, ns, rfl, hs, hlen, q⟩ := h
    have r1 : Room 1 _ := hr.mono (by omega)
    have r2 : Room 2 _ := hr.mono (by omega)
    refine ⟨_, pss_cons (ps_for PassesOwn.never rfl (pi_range1 (by rfl) M.range (pa_cons (pe_callB (call_max2 rfl) (by rfl) M.max (by decide +kernel) (pa_cons pe_int (pa_cons (pe_callB (call_min2 rfl) (by rfl) M.min (by decide +kernel) (pa_cons (pe_callB call_len_seq (by rfl) B.len PySem.boot_len (pa_cons (pv 0) pa_nil)) (pa_cons pe_int pa_nil))) pa_nil))) pa_nil)) (pg_name (i := 1) scLaw.nd rfl (.inl rfl))
        (pss_cons (ps_set (i := 2) scLaw.nd rfl (.inl rfl) (pe_call GO r1 (by rfl) DO.mg DO.fn.kp DO.bd .nil pass0 (pa_cons (pv 0) (pa_cons (pv 1) pa_nil))))
        (pss_cons (ps_set (i := 3) scLaw.nd rfl (.inl rfl) (pe_call GS r2 (by rfl) DS.mg DS.fn.kp DS.bd .nil pass0 (pa_cons (pv 2) pa_nil)))
        (pss_cons (ps_for PassesOwn.never rfl (pi_list (pe_lst (pa_cons pe_int (pa_cons pe_int (pa_cons (pe_call GT r1 (by rfl) DT.mg DT.fn.kp DT.bd .nil pass0 (pa_cons (pv 2) (pa_cons pe_int pa_nil)))
            (pa_cons (pe_call GT r1 (by rfl) DT.mg DT.fn.kp DT.bd .nil pass0 (pa_cons (pv 2) (pa_cons (pe_op op_add (pe_op op_pow pe_int pe_int) pe_int) pa_nil))) (pa_cons (pe_op op_pow pe_int pe_int) pa_nil))))))) (pg_name (i := 4) scLaw.nd rfl (.inl rfl))
          (pss_one (ps_if (pt_not (pt_val (pe_call GR hr (by rfl) DR.mg DR.fn.kp DR.bd .nil pass0 (pa_cons (pv 2) (pa_cons (pv 4) (pa_cons (pv 3) pa_nil)))))) (pss_one (ps_ret pe_bl)) pss_nil)))
        (pss_one (ps_if (pt_not (pt_val (pe_call GW hr (by rfl) DW.mg DW.fn.kp DW.bd .nil pass0 (pa_cons (pv 2) (pa_cons (pv 3) pa_nil))))) (pss_one (ps_ret pe_bl)) pss_nil))))))
      (pss_one (ps_ret pe_bl)), ?_⟩
    refine ⟨_, rfl, a, _, rfl, .inl hs, _, _, rfl, 1, _, rfl, _, rfl, ?_, ?_, for_range (lo := 0) (n := _) (fun i σ H' => (∃ y1 y2 y3 y4 : Option V, σ = [some (.ref a), y1, y2, y3, y4]) ∧ Same H H') ⟨⟨none, none, none, none, rfl⟩, Same.refl _⟩ ?_ ?_⟩
    · split <;> (try split) <;> omega
    · rw [List.length_map]
      split <;> (try split) <;> omega
    · rintro i σ H1 hi ⟨⟨y1, y2, y3, y4, rfl⟩, s1⟩
      have i8 : i < 9 := by
        revert hi
        split <;> (try split) <;> omega
      refine ⟨_, rfl, _, rfl, a, ns, _, rfl, s1.seq hs, by omega, by omega, fun H2 l s2 nl p2 => ?_⟩
      have nl0 : H l = none := s1.free nl
      refine ⟨_, rfl, l, rfl, p2, fun H3 v fs b3 p3 h3 G => ?_⟩
      refine ⟨_, rfl, l, 60, rfl, p3, by decide, fun H4 d b4 p4 d0 d1 => ⟨_, rfl, 10, 12, rfl, rfl, ⟨by decide, by decide, by decide⟩, _, 1, rfl, rfl, l, _, rfl, p4, by decide, fun H5 e b5 p5 e0 e1 => ⟨10, 12, rfl, rfl, ⟨by decide, by decide, by decide⟩, by show 5 ≤ sizeLine; decide, fun mL nM => ?_⟩⟩⟩
      have e12 : (10 : Int) ^ (12 : Int).toNat = 1000000000000 := by decide
      have b6 : Bt [l] H3 (upd H5 mL (.lst [.int 0, .int 1, .int d, .int e, .int ((10 : Int) ^ (12 : Int).toNat)])) := (b4.trans b5).new nM
      have p6 : PoolAt (upd H5 mL (.lst [.int 0, .int 1, .int d, .int e, .int ((10 : Int) ^ (12 : Int).toNat)])) l := p5.upd (p5.ne nM)
      have nMl : mL ∉ [l] := by simp [(p5.ne nM).symm]
      have hM : (upd H5 mL (.lst [.int 0, .int 1, .int d, .int e, .int ((10 : Int) ^ (12 : Int).toNat)])) mL = some (.lst [.int 0, .int 1, .int d, .int e, .int ((10 : Int) ^ (12 : Int).toNat)]) := upd_same
      have okP : ∀ t ∈ [0, 1, d, e, (10 : Int) ^ (12 : Int).toNat], 0 ≤ t ∧ t ≤ 1000000000000 := by
        intro t ht
        rw [e12] at ht e1
        have h5 : t = 0 ∨ t = 1 ∨ t = d ∨ t = e ∨ t = 1000000000000 := by simpa using ht
        rcases h5 with rfl | rfl | rfl | rfl | rfl <;> omega
      revert b6 p6 hM
      generalize upd H5 mL (.lst [.int 0, .int 1, .int d, .int e, .int ((10 : Int) ^ (12 : Int).toNat)]) = H6
      intro b6 p6 hM
      refine ⟨mL, rfl, ⟨_, sqL hM⟩, for_list (K := K) (a := mL) (xs := [0, 1, d, e, (10 : Int) ^ (12 : Int).toNat].map V.int) (fun j σ H' => (∃ y4 : Option V, σ = [some (.ref a), some (.int (0 + (i : Int))), some (.ref l), some v, y4]) ∧ Bt [l] H6 H' ∧ PoolAt H' l) ⟨⟨_, rfl⟩, Bt.refl _, p6⟩ (fun j σ H' _ h => sqL (kept h.2.1 hM nMl)) ?_ ?_⟩
      · rintro j x σ H7 hx ⟨⟨y, rfl⟩, b7, p7⟩
        obtain ⟨t, ht, rfl⟩ := ints_get hx
        have ⟨t0, t1⟩ := okP t (List.mem_of_getElem? ht)
        have h7 : Sh K H7 v fs := h3.tk ((b6.trans b7).tk p3.lst)
        exact ⟨_, rfl, _, rfl, _, rfl, l, t, v, fs, rfl, p7, t0, t1, h7, G, fun H8 b8 p8 => ⟨true, rfl, iteF ⟨⟨_, rfl⟩, b7.trans b8, p8⟩⟩⟩
      · rintro σ H7 ⟨⟨y, rfl⟩, b7, p7⟩
        have h7 : Sh K H7 v fs := h3.tk ((b6.trans b7).tk p3.lst)
        refine ⟨_, rfl, _, rfl, l, v, fs, rfl, p7, h7, G, fun H8 b8 p8 => ⟨true, rfl, iteF ⟨⟨_, _, _, _, rfl⟩, ?_⟩⟩⟩
        exact Bt.same1 ((Bt.of_same (s1.trans s2)).trans (b3.trans (b6.trans (b7.trans b8)))) nl0
    · rintro σ H1 ⟨⟨y1, y2, y3, y4, rfl⟩, s1⟩
      exact q H1
end
end Wd3

set_option Elab.async false
set_option linter.all false
set_option maxRecDepth 100000
set_option maxHeartbeats 4000000
namespace Wd3
open PySem PySem.Spec PyProof.Rows L2 WdM Wd
theorem all_mk {l : PySem.W.OpenLaw} {w : World} {K : PySem.W.Frag} {h : Heap} {mg : Str → Option Value} {fa f1 f2 f3 f4 f5 f6 f7 f8 f9 f10 f11 f12 f13 f14 : Addr} (X : K.In h) (G : h.Ns mainGlobals mg) (hfa : mg "law" = some (.ref fa))
    {od1 an1 od2 an2 od3 an3 od4 an4 od5 an5 od6 an6 od7 an7 od8 an8 od9 an9 od10 an10 od11 an11 od12 an12 od13 an13 od14 an14 : Option Addr} {sl1 sl2 sl3 sl4 sl5 sl6 sl7 sl8 sl9 sl10 sl11 sl12 sl13 sl14 : Array (Option Value)} {oc1 kV1 dc1 pm1 cd1 ct1 oc2 kV2 dc2 pm2 cd2 ct2 oc3 kV3 dc3 pm3 cd3 ct3 oc4 kV4 dc4 pm4 cd4 ct4 oc5 kV5 dc5 pm5 cd5 ct5 oc6 kV6 dc6 pm6 cd6 ct6 oc7 kV7 dc7 pm7 cd7 ct7 oc8 kV8 dc8 pm8 cd8 ct8 oc9 kV9 dc9 pm9 cd9 ct9 oc10 kV10 dc10 pm10 cd10 ct10 oc11 kV11 dc11 pm11 cd11 ct11 oc12 kV12 dc12 pm12 cd12 ct12 oc13 kV13 dc13 pm13 cd13 ct13 oc14 kV14 dc14 pm14 cd14 ct14 : Value} {tM tP : Tok}
    (a1 : PySem.W.nsIn K mainGlobals "is_whole" = some (some (.ref f1))) (l1 : K.lookup f1 = some ⟨oc1, od1, .func (PySem.W.fnOf "is_whole" "is_whole" (defArgs sWhole) (defBody sWhole) (defScope sWhole) .none kV1 dc1 pm1 an1 cd1 ct1), sl1⟩) (c1 : PySem.W.codeIn K cd1 "is_whole" = true) (k1 : PySem.W.keepIn K (.ref f1) = true)
    (a2 : PySem.W.nsIn K mainGlobals "common_measure" = some (some (.ref f2))) (l2 : K.lookup f2 = some ⟨oc2, od2, .func (PySem.W.fnOf "common_measure" "common_measure" (defArgs sCm) (defBody sCm) (defScope sCm) .none kV2 dc2 pm2 an2 cd2 ct2), sl2⟩) (c2 : PySem.W.codeIn K cd2 "common_measure" = true) (k2 : PySem.W.keepIn K (.ref f2) = true)
    (a3 : PySem.W.nsIn K mainGlobals "is_fraction" = some (some (.ref f3))) (l3 : K.lookup f3 = some ⟨oc3, od3, .func (PySem.W.fnOf "is_fraction" "is_fraction" (defArgs sFrac) (defBody sFrac) (defScope sFrac) .none kV3 dc3 pm3 an3 cd3 ct3), sl3⟩) (c3 : PySem.W.codeIn K cd3 "is_fraction" = true) (k3 : PySem.W.keepIn K (.ref f3) = true)
    (a4 : PySem.W.nsIn K mainGlobals "are_shares" = some (some (.ref f4))) (l4 : K.lookup f4 = some ⟨oc4, od4, .func (PySem.W.fnOf "are_shares" "are_shares" (defArgs sAre) (defBody sAre) (defScope sAre) .none kV4 dc4 pm4 an4 cd4 ct4), sl4⟩) (c4 : PySem.W.codeIn K cd4 "are_shares" = true) (k4 : PySem.W.keepIn K (.ref f4) = true)
    (a5 : PySem.W.nsIn K mainGlobals "whole_weights" = some (some (.ref f5))) (l5 : K.lookup f5 = some ⟨oc5, od5, .func (PySem.W.fnOf "whole_weights" "whole_weights" (defArgs sWts) (defBody sWts) (defScope sWts) .none kV5 dc5 pm5 an5 cd5 ct5), sl5⟩) (c5 : PySem.W.codeIn K cd5 "whole_weights" = true) (k5 : PySem.W.keepIn K (.ref f5) = true)
    (a6 : PySem.W.nsIn K mainGlobals "parted" = some (some (.ref f6))) (l6 : K.lookup f6 = some ⟨oc6, od6, .func (PySem.W.fnOf "parted" "parted" (defArgs sParted) (defBody sParted) (defScope sParted) .none kV6 dc6 pm6 an6 cd6 ct6), sl6⟩) (c6 : PySem.W.codeIn K cd6 "parted" = true) (k6 : PySem.W.keepIn K (.ref f6) = true)
    (a7 : PySem.W.nsIn K mainGlobals "_law_pool" = some (some (.ref f7))) (l7 : K.lookup f7 = some ⟨oc7, od7, .func (PySem.W.fnOf "_law_pool" "_law_pool" (defArgs sPool) (defBody sPool) (defScope sPool) .none kV7 dc7 pm7 an7 cd7 ct7), sl7⟩) (c7 : PySem.W.codeIn K cd7 "_law_pool" = true) (k7 : PySem.W.keepIn K (.ref f7) = true)
    (a8 : PySem.W.nsIn K mainGlobals "_law_take" = some (some (.ref f8))) (l8 : K.lookup f8 = some ⟨oc8, od8, .func (PySem.W.fnOf "_law_take" "_law_take" (defArgs sTake) (defBody sTake) (defScope sTake) .none kV8 dc8 pm8 an8 cd8 ct8), sl8⟩) (c8 : PySem.W.codeIn K cd8 "_law_take" = true) (k8 : PySem.W.keepIn K (.ref f8) = true)
    (a9 : PySem.W.nsIn K mainGlobals "_law_low" = some (some (.ref f9))) (l9 : K.lookup f9 = some ⟨oc9, od9, .func (PySem.W.fnOf "_law_low" "_law_low" (defArgs sLow) (defBody sLow) (defScope sLow) .none kV9 dc9 pm9 an9 cd9 ct9), sl9⟩) (c9 : PySem.W.codeIn K cd9 "_law_low" = true) (k9 : PySem.W.keepIn K (.ref f9) = true)
    (a10 : PySem.W.nsIn K mainGlobals "_law_shares" = some (some (.ref f10))) (l10 : K.lookup f10 = some ⟨oc10, od10, .func (PySem.W.fnOf "_law_shares" "_law_shares" (defArgs sShares) (defBody sShares) (defScope sShares) .none kV10 dc10 pm10 an10 cd10 ct10), sl10⟩) (c10 : PySem.W.codeIn K cd10 "_law_shares" = true) (k10 : PySem.W.keepIn K (.ref f10) = true)
    (a11 : PySem.W.nsIn K mainGlobals "_law_between" = some (some (.ref f11))) (l11 : K.lookup f11 = some ⟨oc11, od11, .func (PySem.W.fnOf "_law_between" "_law_between" (defArgs sBetween) (defBody sBetween) (defScope sBetween) .none kV11 dc11 pm11 an11 cd11 ct11), sl11⟩) (c11 : PySem.W.codeIn K cd11 "_law_between" = true) (k11 : PySem.W.keepIn K (.ref f11) = true)
    (a12 : PySem.W.nsIn K mainGlobals "_law_whole_right" = some (some (.ref f12))) (l12 : K.lookup f12 = some ⟨oc12, od12, .func (PySem.W.fnOf "_law_whole_right" "_law_whole_right" (defArgs sWR) (defBody sWR) (defScope sWR) .none kV12 dc12 pm12 an12 cd12 ct12), sl12⟩) (c12 : PySem.W.codeIn K cd12 "_law_whole_right" = true) (k12 : PySem.W.keepIn K (.ref f12) = true)
    (a13 : PySem.W.nsIn K mainGlobals "_law_right" = some (some (.ref f13))) (l13 : K.lookup f13 = some ⟨oc13, od13, .func (PySem.W.fnOf "_law_right" "_law_right" (defArgs sRight) (defBody sRight) (defScope sRight) .none kV13 dc13 pm13 an13 cd13 ct13), sl13⟩) (c13 : PySem.W.codeIn K cd13 "_law_right" = true) (k13 : PySem.W.keepIn K (.ref f13) = true)
    (a14 : PySem.W.nsIn K mainGlobals "law" = some (some (.ref f14))) (l14 : K.lookup f14 = some ⟨oc14, od14, .func (PySem.W.fnOf "law" "law" (defArgs sLaw) (defBody sLaw) (defScope sLaw) .none kV14 dc14 pm14 an14 cd14 ct14), sl14⟩) (c14 : PySem.W.codeIn K cd14 "law" = true) (k14 : PySem.W.keepIn K (.ref f14) = true)
    (gM : PySem.W.nsIn K mainGlobals "MOST_SHARES" = some (some (.int 64 tM))) (gP : PySem.W.nsIn K mainGlobals "MOST_PENNIES" = some (some (.int 1000000000000 tP)))
    (z_isinstance : PySem.W.nsIn K mainGlobals "isinstance" = some none)
    (z_int : PySem.W.nsIn K mainGlobals "int" = some none)
    (z_bool : PySem.W.nsIn K mainGlobals "bool" = some none)
    (z_tuple : PySem.W.nsIn K mainGlobals "tuple" = some none)
    (z_len : PySem.W.nsIn K mainGlobals "len" = some none)
    (z_abs : PySem.W.nsIn K mainGlobals "abs" = some none)
    (z_all : PySem.W.nsIn K mainGlobals "all" = some none)
    (z_any : PySem.W.nsIn K mainGlobals "any" = some none)
    (z_sum : PySem.W.nsIn K mainGlobals "sum" = some none)
    (z_enumerate : PySem.W.nsIn K mainGlobals "enumerate" = some none)
    (z_divmod : PySem.W.nsIn K mainGlobals "divmod" = some none)
    (z_range : PySem.W.nsIn K mainGlobals "range" = some none)
    (z_max : PySem.W.nsIn K mainGlobals "max" = some none)
    (z_min : PySem.W.nsIn K mainGlobals "min" = some none)
    (z_zip : PySem.W.nsIn K mainGlobals "zip" = some none)
    (z_list : PySem.W.nsIn K mainGlobals "list" = some none)
    : ∃ fd : FuncData, (∀ (s : Shared) (v : Value), BindsTo s fd ⟨[v], []⟩ [("_law_script", v)]) ∧ ∀ base : Heap, K.In base → base.Ns mainGlobals mg → FnOk l.prog w K mg base CX0 6 fa fd ["_law_script"] (spLaw K) := by
  have e := hfa.symm.trans (PySem.W.mg_of X G a14)
  cases e
  have F1 := fun_mk (st := sWhole) l1 c1 k1
  have D1 : Df K mg "is_whole" sWhole f1 _ ["thing"] := ⟨F1, PySem.W.mg_of X G a1, F1.binds (ps := ["thing"]) fun _ _ _ _ _ _ us hl => match us, hl with | [_], _ => rfl⟩
  have F2 := fun_mk (st := sCm) l2 c2 k2
  have D2 : Df K mg "common_measure" sCm f2 _ ["one", "other"] := ⟨F2, PySem.W.mg_of X G a2, F2.binds (ps := ["one", "other"]) fun _ _ _ _ _ _ us hl => match us, hl with | [_, _], _ => rfl⟩
  have F3 := fun_mk (st := sFrac) l3 c3 k3
  have D3 : Df K mg "is_fraction" sFrac f3 _ ["thing"] := ⟨F3, PySem.W.mg_of X G a3, F3.binds (ps := ["thing"]) fun _ _ _ _ _ _ us hl => match us, hl with | [_], _ => rfl⟩
  have F4 := fun_mk (st := sAre) l4 c4 k4
  have D4 : Df K mg "are_shares" sAre f4 _ ["thing"] := ⟨F4, PySem.W.mg_of X G a4, F4.binds (ps := ["thing"]) fun _ _ _ _ _ _ us hl => match us, hl with | [_], _ => rfl⟩
  have F5 := fun_mk (st := sWts) l5 c5 k5
  have D5 : Df K mg "whole_weights" sWts f5 _ ["shares"] := ⟨F5, PySem.W.mg_of X G a5, F5.binds (ps := ["shares"]) fun _ _ _ _ _ _ us hl => match us, hl with | [_], _ => rfl⟩
  have F6 := fun_mk (st := sParted) l6 c6 k6
  have D6 : Df K mg "parted" sParted f6 _ ["amount", "shares"] := ⟨F6, PySem.W.mg_of X G a6, F6.binds (ps := ["amount", "shares"]) fun _ _ _ _ _ _ us hl => match us, hl with | [_, _], _ => rfl⟩
  have F7 := fun_mk (st := sPool) l7 c7 k7
  have D7 : Df K mg "_law_pool" sPool f7 _ ["_law_script", "_law_k"] := ⟨F7, PySem.W.mg_of X G a7, F7.binds (ps := ["_law_script", "_law_k"]) fun _ _ _ _ _ _ us hl => match us, hl with | [_, _], _ => rfl⟩
  have F8 := fun_mk (st := sTake) l8 c8 k8
  have D8 : Df K mg "_law_take" sTake f8 _ ["_law_pool_here", "_law_many"] := ⟨F8, PySem.W.mg_of X G a8, F8.binds (ps := ["_law_pool_here", "_law_many"]) fun _ _ _ _ _ _ us hl => match us, hl with | [_, _], _ => rfl⟩
  have F9 := fun_mk (st := sLow) l9 c9 k9
  have D9 : Df K mg "_law_low" sLow f9 _ ["_law_top", "_law_bottom"] := ⟨F9, PySem.W.mg_of X G a9, F9.binds (ps := ["_law_top", "_law_bottom"]) fun _ _ _ _ _ _ us hl => match us, hl with | [_, _], _ => rfl⟩
  have F10 := fun_mk (st := sShares) l10 c10 k10
  have D10 : Df K mg "_law_shares" sShares f10 _ ["_law_pool_here"] := ⟨F10, PySem.W.mg_of X G a10, F10.binds (ps := ["_law_pool_here"]) fun _ _ _ _ _ _ us hl => match us, hl with | [_], _ => rfl⟩
  have F11 := fun_mk (st := sBetween) l11 c11 k11
  have D11 : Df K mg "_law_between" sBetween f11 _ ["_law_pool_here", "_law_portions"] := ⟨F11, PySem.W.mg_of X G a11, F11.binds (ps := ["_law_pool_here", "_law_portions"]) fun _ _ _ _ _ _ us hl => match us, hl with | [_, _], _ => rfl⟩
  have F12 := fun_mk (st := sWR) l12 c12 k12
  have D12 : Df K mg "_law_whole_right" sWR f12 _ ["_law_pool_here", "_law_portions"] := ⟨F12, PySem.W.mg_of X G a12, F12.binds (ps := ["_law_pool_here", "_law_portions"]) fun _ _ _ _ _ _ us hl => match us, hl with | [_, _], _ => rfl⟩
  have F13 := fun_mk (st := sRight) l13 c13 k13
  have D13 : Df K mg "_law_right" sRight f13 _ ["_law_pool_here", "_law_pence", "_law_portions"] := ⟨F13, PySem.W.mg_of X G a13, F13.binds (ps := ["_law_pool_here", "_law_pence", "_law_portions"]) fun _ _ _ _ _ _ us hl => match us, hl with | [_, _, _], _ => rfl⟩
  have F14 := fun_mk (st := sLaw) l14 c14 k14
  have D14 : Df K mg "law" sLaw fa _ ["_law_script"] := ⟨F14, PySem.W.mg_of X G a14, F14.binds (ps := ["_law_script"]) fun _ _ _ _ _ _ us hl => match us, hl with | [_], _ => rfl⟩
  have B : Bl mg := ⟨PySem.W.mg_none_of X G z_isinstance, PySem.W.mg_none_of X G z_int, PySem.W.mg_none_of X G z_bool, PySem.W.mg_none_of X G z_tuple, PySem.W.mg_none_of X G z_len, PySem.W.mg_none_of X G z_abs, PySem.W.mg_none_of X G z_all, PySem.W.mg_none_of X G z_any, PySem.W.mg_none_of X G z_sum, PySem.W.mg_none_of X G z_enumerate⟩
  have M : Bm mg := ⟨PySem.W.mg_none_of X G z_divmod, PySem.W.mg_none_of X G z_range, PySem.W.mg_none_of X G z_max, PySem.W.mg_none_of X G z_min, PySem.W.mg_none_of X G z_zip, PySem.W.mg_none_of X G z_list⟩
  refine ⟨PySem.W.fnOf "law" "law" (defArgs sLaw) (defBody sLaw) (defScope sLaw) .none kV14 dc14 pm14 an14 cd14 ct14, fun s v => .of_eq rfl, fun base _ _ => ?_⟩
  have GP : FnOk l.prog w K mg base CX0 4 f6 _ ["amount", "shares"] (spParted K) := ok_parted (k := 0) B (PySem.W.mg_of X G gM) (PySem.W.mg_of X G gP) D6 D4 D5 D3 D1 D2
  have GS : FnOk l.prog w K mg base CX0 2 f10 _ ["_law_pool_here"] (spShares K) := ok_shares (k := 0) B M D10 D8 D9
  have GW : FnOk l.prog w K mg base CX0 5 f12 _ ["_law_pool_here", "_law_portions"] (spWR K) := ok_wr (k := 0) B M D12 D8 D6 GP
  have GR : FnOk l.prog w K mg base CX0 5 f13 _ ["_law_pool_here", "_law_pence", "_law_portions"] (spRight K) := ok_right (k := 0) B M D13 D8 D9 D11 D6 GP
  exact ok_law B M D14 D7 D10 D8 D13 D12 GS GR GW
end Wd3
open PySem PySem.W PyProof.Rows
set_option maxRecDepth 100000 in
set_option maxHeartbeats 0 in
theorem PySem.Challenge.cw_willdealt_k03_whole_pennies_hang_togethe_holds : PySem.Challenge.rw_willdealt_k03_whole_pennies_hang_togethe.Holds := by
  w_on; o_law; k_head; (case hw => w_witness2)
  k_fill
  refine L2.walk_of (l := PySem.Challenge.rw_willdealt_k03_whole_pennies_hang_togethe) (n := 63) (k := 6) (x := "_law_script") (CX := fun _ => L2.CX0) (sp := fun w => Wd3.spLaw _) rfl (by decide) rfl ⟨rfl, by decide, by decide⟩ (fun w h Y => PySem.W.kIn_of Y) ?F (fun _ _ a ns hl _ hS => ⟨a, ns, rfl, hS, hl, fun _ => rfl⟩) (fun _ _ _ _ _ h => h)
  case F =>
    intro w mg fa h KX G hmg
    refine' Wd3.all_mk KX G hmg ?a1 ?l1 ?c1 ?k1 ?a2 ?l2 ?c2 ?k2 ?a3 ?l3 ?c3 ?k3 ?a4 ?l4 ?c4 ?k4 ?a5 ?l5 ?c5 ?k5 ?a6 ?l6 ?c6 ?k6 ?a7 ?l7 ?c7 ?k7 ?a8 ?l8 ?c8 ?k8 ?a9 ?l9 ?c9 ?k9 ?a10 ?l10 ?c10 ?k10 ?a11 ?l11 ?c11 ?k11 ?a12 ?l12 ?c12 ?k12 ?a13 ?l13 ?c13 ?k13 ?a14 ?l14 ?c14 ?k14 ?gM ?gP ?z_isinstance ?z_int ?z_bool ?z_tuple ?z_len ?z_abs ?z_all ?z_any ?z_sum ?z_enumerate ?z_divmod ?z_range ?z_max ?z_min ?z_zip ?z_list
    (case a1 => k_is); (case l1 => k_is); (case c1 => k_is); (case k1 => k_is); (case a2 => k_is); (case l2 => k_is)
    (case c2 => k_is); (case k2 => k_is); (case a3 => k_is); (case l3 => k_is); (case c3 => k_is); (case k3 => k_is)
    (case a4 => k_is); (case l4 => k_is); (case c4 => k_is); (case k4 => k_is); (case a5 => k_is); (case l5 => k_is)
    (case c5 => k_is); (case k5 => k_is); (case a6 => k_is); (case l6 => k_is); (case c6 => k_is); (case k6 => k_is)
    (case a7 => k_is); (case l7 => k_is); (case c7 => k_is); (case k7 => k_is); (case a8 => k_is); (case l8 => k_is)
    (case c8 => k_is); (case k8 => k_is); (case a9 => k_is); (case l9 => k_is); (case c9 => k_is); (case k9 => k_is)
    (case a10 => k_is); (case l10 => k_is); (case c10 => k_is); (case k10 => k_is); (case a11 => k_is); (case l11 => k_is)
    (case c11 => k_is); (case k11 => k_is); (case a12 => k_is); (case l12 => k_is); (case c12 => k_is); (case k12 => k_is)
    (case a13 => k_is); (case l13 => k_is); (case c13 => k_is); (case k13 => k_is); (case a14 => k_is); (case l14 => k_is)
    (case c14 => k_is); (case k14 => k_is); (case gM => k_is); (case gP => k_is); (case z_isinstance => k_is); (case z_int => k_is)
    (case z_bool => k_is); (case z_tuple => k_is); (case z_len => k_is); (case z_abs => k_is); (case z_all => k_is); (case z_any => k_is)
    (case z_sum => k_is); (case z_enumerate => k_is); (case z_divmod => k_is); (case z_range => k_is); (case z_max => k_is); (case z_min => k_is)
    (case z_zip => k_is); (case z_list => k_is)


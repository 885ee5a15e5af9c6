import PyProof.Rows.All
import Wide.All
import OpenK.AllK
import Wide.FinOn
import KE.KStateDown
import HandS.Base
import HandS.Call
import HandS.Ends
import HandS.More
import HandS.Words
import HandS.WordsExc
import HandS.Defaults
import HandS.ExcInit
import HandS.ExcField
import HandS.Head0
import HandS.Head1
import HandS.Head2
import HandS.HeadEnd
import HandS.HeadHook1
import HandS.HeadHook2
import KE.GoesMore
import KE.GoesEnum
import KE.KTupSum
import KE.KRevSl
import HandS.ForMost
import HandS.Walk
import HandS.IsInst
import HandS.Wide
import HandS.WideBits
import HandS.TupAny
import HandS.Exc
import HandS.ExcOwn
import HandS.ExcIs
import HandS.CallSlots
import HandS.TupMul
import KE.KExcIs
import PyProof.FactsAll.list_3
import PyProof.Draws
import KE.KExcInit
import HandS.OwnEq
import HandS.FStr
import KE.KCallOwn
import KE.KFmtOwn
import PyProof.InstNe
import HandS.Zip
import HandS.Style
import HandS.SortRule
import HandS.List
import KE.KSortTupAny
import HandS.DictTup
import PySem.Challenge.RW_willdealt_k15_whole_conditions_hang_toge
set_option Elab.async false
set_option linter.all false
set_option maxRecDepth 100000
set_option maxHeartbeats 4000000
namespace Wd
open PySem PySem.Spec PyProof.Rows L2 He
/-! ### a head by facts: a row of questions about the written part, and the defs -/
abbrev Ask := PySem.W.Frag → Bool
def obsW (as : List Ask) (fn : List DefD) (K : PySem.W.Frag) : AlD := ((as.all fun f => f K) && fn.all fun d => d.ok K, fn.map fun d => fnW K d.at_)
def SaysW (as : List Ask) (fn : List DefD) (K : PySem.W.Frag) : Prop := obsW as fn K = valD fn
def obsWG (n : Nat) (as : List Ask) (fn : List DefD) (g : Addr → Option Obj) : AlD := obsW as fn (frG g (asD g n))
def hookW (n : Nat) (as : List Ask) (fn : List DefD) : PySem.W.Hook where
  α := AlD
  obs := fun s => obsWG n as fn s.heap.get?
  val := fun _ => valD fn
  says := fun _ h => ∃ K : PySem.W.Frag, K.In h ∧ SaysW as fn K
  of := fun _ _ e => ⟨_, frG_in, e⟩
  keeps := fun _ _ _ ⟨K, hK, c⟩ k => ⟨K, PySem.W.Frag.In.keeps hK k, c⟩
theorem obsWG_eq {n : Nat} {as : List Ask} {fn : List DefD} {g : Addr → Option Obj} {s : Shared} (h : ∀ a, g a = s.heap.get? a) : obsWG n as fn g = (hookW n as fn).obs s := by
  have e : g = s.heap.get? := funext h
  rw [e] <;> rfl
section
variable {as : List Ask} {fn : List DefD} {K : PySem.W.Frag}
theorem SaysW.ask (c : SaysW as fn K) (i : Nat) {f : Ask} (h : as[i]? = some f := by rfl) : f K = true := by
  have c1 := (ba (show ((as.all fun f => f K) && fn.all fun d => d.ok K) = true from congrArg (fun z : AlD => z.1) c)).1
  exact List.all_eq_true.mp c1 f (List.mem_of_getElem? h)
theorem SaysW.def_ (c : SaysW as fn K) (i : Nat) {d : DefD} (h : fn[i]? = some d := by rfl) : ∃ fd, FunD K d.name d.qual d.params d.body d.scope (d.dvs K) (d.kws K) (fAd K d.at_) fd := by
  have c2 := (ba (show ((as.all fun f => f K) && fn.all fun d => d.ok K) = true from congrArg (fun z : AlD => z.1) c)).2
  have e : fn.map (fun d => fnW K d.at_) = fn.map DefD.val := congrArg (fun z : AlD => z.2) c
  have e2 : (fn.map fun d => fnW K d.at_)[i]? = (fn.map DefD.val)[i]? := by rw [e]
  rw [List.getElem?_map, List.getElem?_map, h] at e2
  exact DefD.funD (Option.some.inj e2) (List.all_eq_true.mp c2 d (List.mem_of_getElem? h))
end
theorem obsW_app {as1 as2 : List Ask} {fn1 fn2 : List DefD} {K : PySem.W.Frag} (h1 : obsW as1 fn1 K = valD fn1) (h2 : obsW as2 fn2 K = valD fn2) : obsW (as1 ++ as2) (fn1 ++ fn2) K = valD (fn1 ++ fn2) := by
  have a1 : ((as1.all fun f => f K) && fn1.all fun d => d.ok K) = true := congrArg (fun z : AlD => z.1) h1
  have a2 : ((as2.all fun f => f K) && fn2.all fun d => d.ok K) = true := congrArg (fun z : AlD => z.1) h2
  have b1 : fn1.map (fun d => fnW K d.at_) = fn1.map DefD.val := congrArg (fun z : AlD => z.2) h1
  have b2 : fn2.map (fun d => fnW K d.at_) = fn2.map DefD.val := congrArg (fun z : AlD => z.2) h2
  obtain ⟨p1, p2⟩ := ba a1
  obtain ⟨q1, q2⟩ := ba a2
  unfold obsW valD
  rw [List.all_append, List.all_append, List.map_append, List.map_append, p1, p2, q1, q2, b1, b2]
  rfl
/-- two runs with a part of the questions each are one with both -/
theorem run_app {r : PySem.W.OpenRow} {q : Program} {n M : Nat} {as1 as2 : List Ask} {fn1 fn2 : List DefD} {loose : List Str} {w : World}
    (h1 : HandSHeadRun.RunEq r q (hookW n as1 fn1) (fun s => obsWG n as1 fn1 (HandSHeadRun.getT s)) M loose w) (h2 : HandSHeadRun.RunEq r q (hookW n as2 fn2) (fun s => obsWG n as2 fn2 (HandSHeadRun.getT s)) M loose w) :
    HandSHeadRun.RunEq r q (hookW n (as1 ++ as2) (fn1 ++ fn2)) (fun s => obsWG n (as1 ++ as2) (fn1 ++ fn2) (HandSHeadRun.getT s)) M loose w := by
  intro os
  have e1 := h1 os
  have e2 := h2 os
  revert e1 e2
  generalize HandSHeadRun.endF _ _ _ _ _ = z
  intro e1 e2
  cases z with
  | none => cases e1
  | some s =>
    have e1 := Option.some.inj e1
    have e2 := Option.some.inj e2
    have l : _ = true := congrArg (fun z => z.1) e1
    have m := congrArg (fun z => z.2.1) e1
    have o1 : obsWG n as1 fn1 (HandSHeadRun.getT s) = valD fn1 := congrArg (fun z => z.2.2) e1
    have o2 : obsWG n as2 fn2 (HandSHeadRun.getT s) = valD fn2 := congrArg (fun z => z.2.2) e2
    have o : obsWG n (as1 ++ as2) (fn1 ++ fn2) (HandSHeadRun.getT s) = valD (fn1 ++ fn2) := obsW_app o1 o2
    exact congrArg some (Prod.ext l (Prod.ext m o))
/-! ### the run asked in parts, each a run of its own (less is held at a time) -/
def LkEq (r : PySem.W.OpenRow) (M : Nat) (w : World) : Prop := ∀ os : OsState, (HandSHeadRun.endF (HandSHeadRun.stepQ (HandSHeadRun.denQ HandSHeadRun.tabQ) r.prog w) M r.prog w os).map (fun s => HandSHeadRun.looksF r.prog (PySem.W.boot_heap w.params) s.abs) = some true
def SnEq (r : PySem.W.OpenRow) (q : Program) (M : Nat) (loose : List Str) (w : World) : Prop := ∀ os : OsState, (HandSHeadRun.endF (HandSHeadRun.stepQ (HandSHeadRun.denQ HandSHeadRun.tabQ) r.prog w) M r.prog w os).map (fun s => HandSHeadRun.seenQ q loose (importedModules r.prog.main.body) (fun s => PySem.W.xlAt q [] s && PySem.W.recOk r.toRowW.records s) s.abs) = some (PySem.W.openGood q loose)
def ObEq (r : PySem.W.OpenRow) (n M : Nat) (as : List Ask) (fn : List DefD) (w : World) : Prop := ∀ os : OsState, (HandSHeadRun.endF (HandSHeadRun.stepQ (HandSHeadRun.denQ HandSHeadRun.tabQ) r.prog w) M r.prog w os).map (fun s => obsWG n as fn (HandSHeadRun.getT s)) = some (valD fn)
theorem ob_app {r : PySem.W.OpenRow} {n M : Nat} {as1 as2 : List Ask} {fn1 fn2 : List DefD} {w : World} (h1 : ObEq r n M as1 fn1 w) (h2 : ObEq r n M as2 fn2 w) : ObEq r n M (as1 ++ as2) (fn1 ++ fn2) w := by
  intro os
  have e1 := h1 os
  have e2 := h2 os
  revert e1 e2
  generalize HandSHeadRun.endF _ _ _ _ _ = z
  intro e1 e2
  cases z with
  | none => cases e1
  | some s => exact congrArg some (obsW_app (Option.some.inj e1) (Option.some.inj e2))
theorem run_of3 {r : PySem.W.OpenRow} {q : Program} {n M : Nat} {as : List Ask} {fn : List DefD} {loose : List Str} {w : World} (a : LkEq r M w) (b : SnEq r q M loose w) (c : ObEq r n M as fn w) :
    HandSHeadRun.RunEq r q (hookW n as fn) (fun s => obsWG n as fn (HandSHeadRun.getT s)) M loose w := by
  intro os
  have e1 := a os
  have e2 := b os
  have e3 := c os
  revert e1 e2 e3
  generalize HandSHeadRun.endF _ _ _ _ _ = z
  intro e1 e2 e3
  cases z with
  | none => cases e1
  | some s => exact congrArg some (Prod.ext (Option.some.inj e1) (Prod.ext (Option.some.inj e2) (Option.some.inj e3)))
/-- a def without defaults -/
theorem fun_of {K : PySem.W.Frag} {x q : Str} {st : Stmt} {f : Addr} {fd : FuncData} (F : FunD K x q (defArgs st) (defBody st) (defScope st) [] [] f fd) : L2.Fun K x q st f fd := by
  obtain ⟨⟨oc, od, dV, kV, doc, pm, an, cdv, ct, osl, rfl, lk, hcd, hd, _⟩, kp⟩ := F
  rcases hd with ⟨_, rfl⟩ | ⟨e, _⟩
  · exact ⟨⟨oc, od, kV, doc, pm, an, cdv, ct, osl, rfl, lk, hcd⟩, kp⟩
  · exact absurd rfl e
/-- an own error with an __init__ of its own, over ValueError -/
def oexB (K : PySem.W.Frag) (C : Addr) : Bool := match K.lookup C with
  | some ⟨.type "type", _, .cls cd, sl⟩ => (match cd.mro, sl.toList with
    | .ref C' :: bm, [_, _, _, _, some (.builtin n), _] => C' == C && n == "ValueError.__new__" && !cd.hasDel && cd.hasDict && PySem.HandSPX.refsVE bm
    | _, _ => false)
  | _ => false
theorem oexB_ok {K : PySem.W.Frag} {C : Addr} (q : oexB K C = true) : ∃ nm q N bs bm sn sub ab col dd k0 k1 k2 k3 k5, K.lookup C = some (excClassObj nm q C N bs bm true sn sub ab col dd k0 k1 k2 k3 k5 "ValueError.__new__") ∧ PySem.HandSPX.refsVE bm = true := by
  unfold oexB at q
  split at q
  · rename_i dd cd sl ho
    split at q
    · rename_i C' bm k0 k1 k2 k3 n k5 hm hs
      simp only [Bool.and_eq_true, beq_iff_eq, Bool.not_eq_true'] at q
      obtain ⟨⟨⟨⟨rfl, rfl⟩, hdel⟩, hd⟩, hr⟩ := q
      obtain ⟨nm, bs, mro, N, qn, hasd, sn, sub, ab, col, hdl⟩ := cd
      simp only at hm hdel hd
      subst hm
      subst hdel
      subst hd
      have e : sl = #[k0, k1, k2, k3, some (.builtin "ValueError.__new__"), k5] := by
        have := congrArg List.toArray hs
        simpa using this
      subst e
      exact ⟨nm, qn, N, bs, bm, sn, sub, ab, col, dd, k0, k1, k2, k3, k5, ho, hr⟩
    · cases q
  · cases q
end Wd

set_option Elab.async false
set_option linter.all false
set_option maxRecDepth 100000
set_option maxHeartbeats 4000000
namespace Wd
open PySem PySem.Spec PyProof.Rows L2 He
/-- own classes, then the family's order tl -/
def refsB (tl : List Value) : List Value → Bool
  | .ref _ :: r => refsB tl r
  | l => l == tl
/-- an own error with an __init__ of its own, of any family -/
def oexTB (newId : String) (tl : List Value) (K : PySem.W.Frag) (C : Addr) : Bool := match K.lookup C with
  | some ⟨.type "type", _, .cls cd, sl⟩ => (match cd.mro, sl.toList with
    | .ref C' :: bm, [_, _, _, _, some (.builtin n), _] => C' == C && n == newId && !cd.hasDel && cd.hasDict && refsB tl bm
    | _, _ => false)
  | _ => false
section
variable {K : PySem.W.Frag} {x qual : Str} {params : Arguments} {body : List Stmt} {scope : Scope} {dvs : List V} {kws : List (Str × V)} {f : Addr} {fd : FuncData} {ps : List Str}
/-- a call with keywords, of a def with defaults -/
theorem kbn_of (F : FunD K x qual params body scope dvs kws f fd) (n : Nat) (ks : List Str) (g : List Value → List Value → List Value) (gV : List V → List V → List V) (hd : dvs ≠ [])
    (h : ∀ (T : Addr) (kV doc pm : Value) (an : Option Addr) (cdv ct : Value) (us its ws : List Value), us.length = n → its.length = dvs.length → ws.length = ks.length →
      ∃ k, bindArgs (PySem.W.fnOf x qual params body scope (.ref T) kV doc pm an cdv ct) ⟨us, ks.zip ws⟩ = seqItems? (.ref T) >>= k ∧ k (some its.toArray) = pure (ps.zip (g us ws)))
    (rel : ∀ {vs : List V} {us : List Value} {zs : List V} {ws : List Value}, Vals vs us → Vals zs ws → Vals (gV vs zs) (g us ws)) : KBn K fd ps n ks g gV := by
  obtain ⟨oc, od, dV, kV, doc, pm, an, cdv, ct, osl, rfl, lk, hcd, hD, hK⟩ := F.ex
  rcases hD with ⟨e, _⟩ | ⟨_, T, o, its, m, rfl, lT, oT, rT⟩
  · exact absurd e hd
  · refine ⟨fun s us ws X l1 l2 => ?_, rel⟩
    obtain ⟨k, e1, e2⟩ := h T kV doc pm an cdv ct us its ws l1 rT.length.symm l2
    refine BindsTo.of_looks fun M => ?_
    rw [e1]
    exact looks_items X lT oT (.of_pure e2)
theorem vals_rev {vs : List V} {us : List Value} (r : Vals vs us) : Vals vs.reverse us.reverse := by
  induction r with
  | nil => exact .nil
  | cons h _ ih =>
    rw [List.reverse_cons, List.reverse_cons]
    exact ih.append (.cons h .nil)
end
end Wd

set_option Elab.async false
set_option linter.all false
set_option maxRecDepth 100000
set_option maxHeartbeats 0
namespace WdQ
open PySem PySem.Spec PyProof.Rows L2 Wd
def topR (i : Nat) : Stmt := PySem.Challenge.pw_willdealt_k15_whole_conditions_hang_toge.main.body.getD i (.Pass ⟨0, 0, 0, 0⟩)
def loose0 : List Str := ["__name__", "WordError", "LostError", "NoName", "NoSum", "NoPeople", "NoGoods", "NoStory", "NoDay", "NoCond", "NoPerson", "NoThing", "MOST_SUM", "is_whole", "is_sum", "LAST_DAY", "is_day", "LETTERS", "LONGEST", "WORDS", "is_word", "is_name", "MOST_PEOPLE", "MOST_GOODS", "is_person", "is_good", "check_people", "check_goods", "row_named", "person_line"]
def loose1 : List Str := ["House", "check_persons", "MOST_DEEP", "FEWEST_TERMS", "MOST_TERMS", "MOST_NAMES", "COND_WORDS", "is_lives", "is_formed", "leaves", "cond_names", "is_cond", "is_cond_or_none", "has_come", "comes", "MOST_DEATHS", "is_death", "check_deaths", "story_text", "Story", "_law_pool", "_law_take", "_law_words", "_law_home", "_law_atom", "_law_cond", "_law_deaths", "_law_all_ways", "_law_atoms_right", "_law_as_far"]
def loose2 : List Str := ["_law_risen", "_law_plain", "_law_right", "_law_named"]
def looseN : List Str := loose0 ++ loose1 ++ loose2
def asks0 : List Ask := [
  fun K => decide (PySem.W.nsIn K mainGlobals "is_name" = some (some (.ref (He.ga K "is_name")))),
  fun K => decide (PySem.W.nsIn K mainGlobals "is_word" = some (some (.ref (He.ga K "is_word")))),
  fun K => decide (PySem.W.nsIn K mainGlobals "is_whole" = some (some (.ref (He.ga K "is_whole")))),
  fun K => decide (PySem.W.nsIn K mainGlobals "is_sum" = some (some (.ref (He.ga K "is_sum")))),
  fun K => decide (PySem.W.nsIn K mainGlobals "is_day" = some (some (.ref (He.ga K "is_day")))),
  fun K => decide (PySem.W.nsIn K mainGlobals "is_person" = some (some (.ref (He.ga K "is_person")))),
  fun K => decide (PySem.W.nsIn K mainGlobals "check_people" = some (some (.ref (He.ga K "check_people")))),
  fun K => decide (PySem.W.nsIn K mainGlobals "is_good" = some (some (.ref (He.ga K "is_good")))),
  fun K => decide (PySem.W.nsIn K mainGlobals "check_goods" = some (some (.ref (He.ga K "check_goods")))),
  fun K => decide (PySem.W.nsIn K mainGlobals "is_death" = some (some (.ref (He.ga K "is_death")))),
  fun K => decide (PySem.W.nsIn K mainGlobals "check_deaths" = some (some (.ref (He.ga K "check_deaths")))),
  fun K => decide (PySem.W.nsIn K mainGlobals "is_lives" = some (some (.ref (He.ga K "is_lives")))),
  fun K => decide (PySem.W.nsIn K mainGlobals "is_formed" = some (some (.ref (He.ga K "is_formed")))),
  fun K => decide (PySem.W.nsIn K mainGlobals "leaves" = some (some (.ref (He.ga K "leaves")))),
  fun K => decide (PySem.W.nsIn K mainGlobals "is_cond" = some (some (.ref (He.ga K "is_cond")))),
  fun K => decide (PySem.W.nsIn K mainGlobals "is_cond_or_none" = some (some (.ref (He.ga K "is_cond_or_none")))),
  fun K => decide (PySem.W.nsIn K mainGlobals "row_named" = some (some (.ref (He.ga K "row_named")))),
  fun K => decide (PySem.W.nsIn K mainGlobals "cond_names" = some (some (.ref (He.ga K "cond_names")))),
  fun K => decide (PySem.W.nsIn K mainGlobals "check_persons" = some (some (.ref (He.ga K "check_persons")))),
  fun K => decide (PySem.W.nsIn K mainGlobals "has_come" = some (some (.ref (He.ga K "has_come")))),
  fun K => decide (PySem.W.nsIn K mainGlobals "_law_pool" = some (some (.ref (He.ga K "_law_pool")))),
  fun K => decide (PySem.W.nsIn K mainGlobals "_law_take" = some (some (.ref (He.ga K "_law_take")))),
  fun K => decide (PySem.W.nsIn K mainGlobals "_law_words" = some (some (.ref (He.ga K "_law_words")))),
  fun K => decide (PySem.W.nsIn K mainGlobals "_law_home" = some (some (.ref (He.ga K "_law_home")))),
  fun K => decide (PySem.W.nsIn K mainGlobals "_law_atom" = some (some (.ref (He.ga K "_law_atom")))),
  fun K => decide (PySem.W.nsIn K mainGlobals "_law_cond" = some (some (.ref (He.ga K "_law_cond")))),
  fun K => decide (PySem.W.nsIn K mainGlobals "_law_deaths" = some (some (.ref (He.ga K "_law_deaths")))),
  fun K => decide (PySem.W.nsIn K mainGlobals "_law_all_ways" = some (some (.ref (He.ga K "_law_all_ways")))),
  fun K => decide (PySem.W.nsIn K mainGlobals "_law_atoms_right" = some (some (.ref (He.ga K "_law_atoms_right")))),
  fun K => decide (PySem.W.nsIn K mainGlobals "_law_as_far" = some (some (.ref (He.ga K "_law_as_far")))),
  fun K => decide (PySem.W.nsIn K mainGlobals "_law_risen" = some (some (.ref (He.ga K "_law_risen"))))]
def asks1 : List Ask := [
  fun K => decide (PySem.W.nsIn K mainGlobals "_law_plain" = some (some (.ref (He.ga K "_law_plain")))),
  fun K => decide (PySem.W.nsIn K mainGlobals "_law_named" = some (some (.ref (He.ga K "_law_named")))),
  fun K => decide (PySem.W.nsIn K mainGlobals "_law_right" = some (some (.ref (He.ga K "_law_right")))),
  fun K => decide (PySem.W.nsIn K mainGlobals "law" = some (some (.ref (He.ga K "law")))),
  fun K => decide (PySem.W.nsIn K mainGlobals "isinstance" = some none),
  fun K => decide (PySem.W.nsIn K mainGlobals "int" = some none),
  fun K => decide (PySem.W.nsIn K mainGlobals "bool" = some none),
  fun K => decide (PySem.W.nsIn K mainGlobals "str" = some none),
  fun K => decide (PySem.W.nsIn K mainGlobals "tuple" = some none),
  fun K => decide (PySem.W.nsIn K mainGlobals "list" = some none),
  fun K => decide (PySem.W.nsIn K mainGlobals "len" = some none),
  fun K => decide (PySem.W.nsIn K mainGlobals "abs" = some none),
  fun K => decide (PySem.W.nsIn K mainGlobals "all" = some none),
  fun K => decide (PySem.W.nsIn K mainGlobals "any" = some none),
  fun K => decide (PySem.W.nsIn K mainGlobals "sum" = some none),
  fun K => decide (PySem.W.nsIn K mainGlobals "enumerate" = some none),
  fun K => decide (PySem.W.nsIn K mainGlobals "divmod" = some none),
  fun K => decide (PySem.W.nsIn K mainGlobals "range" = some none),
  fun K => decide (PySem.W.nsIn K mainGlobals "max" = some none),
  fun K => decide (PySem.W.nsIn K mainGlobals "min" = some none),
  fun K => decide (PySem.W.nsIn K mainGlobals "zip" = some none),
  fun K => decide (PySem.W.nsIn K mainGlobals "repr" = some none),
  fun K => decide (PySem.W.nsIn K mainGlobals "sorted" = some none),
  fun K => decide (PySem.W.nsIn K mainGlobals "dict" = some none),
  fun K => decide (PySem.W.specialIn K (.builtin "object.__class__") "__get__" = some (some (.builtin "getset_descriptor.__get__"))),
  fun K => decide (PySem.W.takesIn K (.builtin "object.__class__") = some true),
  fun K => decide (PySem.W.nsIn K mainGlobals "NoDay" = some (some (.ref (He.ga K "NoDay")))),
  fun K => decide (PySem.W.nsIn K mainGlobals "NoPerson" = some (some (.ref (He.ga K "NoPerson")))),
  fun K => decide (PySem.W.nsIn K mainGlobals "WordError" = some (some (.ref (He.ga K "WordError")))),
  fun K => decide (PySem.W.nsIn K mainGlobals "LostError" = some (some (.ref (He.ga K "LostError")))),
  fun K => decide (PySem.W.findIn K (.ref (He.ga K "NoDay")) "__getattribute__" = some (some (.builtin "BaseException.__getattribute__")))]
def asks2 : List Ask := [
  fun K => decide (PySem.W.findIn K (.ref (He.ga K "NoDay")) "__getattr__" = some none),
  fun K => decide (PySem.W.hasDictIn K (He.ga K "NoDay") = true),
  fun K => decide (PySem.W.findIn K (.ref (He.ga K "NoDay")) "__class__" = some (some (.builtin "object.__class__"))),
  fun K => decide (PySem.W.mroIn K (He.ga K "NoDay") (.type "object") = some true),
  fun K => decide (PySem.W.subIn K (.ref (He.ga K "NoDay")) (.type "BaseException") = some true),
  fun K => decide (PySem.W.typeIn K (.ref (He.ga K "NoDay")) = some (.type "type")),
  fun K => decide (PySem.W.keepIn K (.ref (He.ga K "NoDay")) = true),
  fun K => decide (PySem.W.findIn K (.ref (He.ga K "NoDay")) "__init__" = some (some (.ref (He.ma K (He.ga K "NoDay") "__init__")))),
  fun K => decide (PySem.W.typeIn K (.ref (He.ma K (He.ga K "NoDay") "__init__")) = some (.type "function")),
  fun K => decide (PySem.W.findIn K (.ref (He.ga K "NoDay")) "__setattr__" = some (some (.builtin "object.__setattr__"))),
  fun K => decide (PySem.W.findIn K (.ref (He.ga K "NoDay")) "thing" = some none),
  fun K => decide (PySem.W.exmOne K (.ref (He.ga K "NoDay")) (.ref (He.ga K "WordError")) = some true),
  fun K => oexB K (He.ga K "NoDay"),
  fun K => decide (PySem.W.findIn K (.ref (He.ga K "NoPerson")) "__getattribute__" = some (some (.builtin "BaseException.__getattribute__"))),
  fun K => decide (PySem.W.findIn K (.ref (He.ga K "NoPerson")) "__getattr__" = some none),
  fun K => decide (PySem.W.hasDictIn K (He.ga K "NoPerson") = true),
  fun K => decide (PySem.W.findIn K (.ref (He.ga K "NoPerson")) "__class__" = some (some (.builtin "object.__class__"))),
  fun K => decide (PySem.W.mroIn K (He.ga K "NoPerson") (.type "object") = some true),
  fun K => decide (PySem.W.subIn K (.ref (He.ga K "NoPerson")) (.type "BaseException") = some true),
  fun K => decide (PySem.W.typeIn K (.ref (He.ga K "NoPerson")) = some (.type "type")),
  fun K => decide (PySem.W.keepIn K (.ref (He.ga K "NoPerson")) = true),
  fun K => decide (PySem.W.findIn K (.ref (He.ga K "NoPerson")) "__init__" = some (some (.ref (He.ma K (He.ga K "NoPerson") "__init__")))),
  fun K => decide (PySem.W.typeIn K (.ref (He.ma K (He.ga K "NoPerson") "__init__")) = some (.type "function")),
  fun K => decide (PySem.W.findIn K (.ref (He.ga K "NoPerson")) "__setattr__" = some (some (.builtin "object.__setattr__"))),
  fun K => decide (PySem.W.findIn K (.ref (He.ga K "NoPerson")) "name" = some none),
  fun K => decide (PySem.W.exmOne K (.ref (He.ga K "NoPerson")) (.ref (He.ga K "LostError")) = some true),
  fun K => oexTB "LookupError.__new__" [.type "LookupError", .type "Exception", .type "BaseException", .type "object"] K (He.ga K "NoPerson"),
  fun K => decide (PySem.W.nsIn K mainGlobals "WORDS" = some (some (.ref (He.ga K "WORDS")))),
  fun K => (He.Fa.str "LETTERS" "abcdefghijklmnopqrstuvwxyz").ok K,
  fun K => (He.Fa.int "LONGEST" 8).ok K,
  fun K => He.tupB K "WORDS" [.str "all", .str "and", .str "children", .str "childless", .str "crown", .str "else", .str "if", .str "lives", .str "not", .str "of", .str "or", .str "stock", .str "to"]]
def asks3 : List Ask := [
  fun K => decide (PySem.W.nsIn K mainGlobals "COND_WORDS" = some (some (.ref (He.ga K "COND_WORDS")))),
  fun K => He.tupB K "COND_WORDS" [.str "lives", .str "childless", .str "not", .str "and", .str "or"],
  fun K => (He.Fa.int "MOST_DEEP" 6).ok K,
  fun K => (He.Fa.int "FEWEST_TERMS" 2).ok K,
  fun K => (He.Fa.int "MOST_TERMS" 6).ok K,
  fun K => (He.Fa.int "MOST_NAMES" 12).ok K,
  fun K => (He.Fa.int "LAST_DAY" 9999).ok K,
  fun K => (He.Fa.int "MOST_SUM" 1000000000).ok K,
  fun K => (He.Fa.int "MOST_PEOPLE" 8).ok K,
  fun K => (He.Fa.int "MOST_GOODS" 8).ok K,
  fun K => (He.Fa.int "MOST_DEATHS" 8).ok K,
  fun K => decide (PySem.W.nsIn K mainGlobals "House" = some (some (.ref (He.ga K "House")))),
  fun K => (He.Fa.mkr "House").ok K,
  fun K => decide (PySem.W.nsIn K mainGlobals "Story" = some (some (.ref (He.ga K "Story")))),
  fun K => (He.Fa.mkr "Story").ok K,
  fun K => (He.Fa.cls "House").ok K,
  fun K => (He.Fa.noat "House" "folk").ok K,
  fun K => (He.Fa.noat "House" "things").ok K,
  fun K => (He.Fa.noat "House" "purse").ok K,
  fun K => (He.Fa.noat "House" "debts").ok K,
  fun K => (He.Fa.cls "Story").ok K,
  fun K => (He.Fa.noat "Story" "deaths").ok K,
  fun K => decide (PySem.W.nsIn K mainGlobals "comes" = some (some (.ref (He.ga K "comes")))),
  fun K => (He.Fa.meth "House" "people").ok K,
  fun K => (He.Fa.meth "House" "person").ok K,
  fun K => (He.Fa.meth "House" "children").ok K,
  fun K => (He.Fa.meth "Story" "died").ok K,
  fun K => (He.Fa.meth "Story" "lives").ok K]
def asksN : List Ask := asks0 ++ asks1 ++ asks2 ++ asks3
def defs0 : List He.DefD := [
  ⟨("is_name", none), "is_name", "is_name", defArgs (topR 24), defBody (topR 24), defScope (topR 24), [], []⟩,
  ⟨("is_word", none), "is_word", "is_word", defArgs (topR 23), defBody (topR 23), defScope (topR 23), [], []⟩,
  ⟨("is_whole", none), "is_whole", "is_whole", defArgs (topR 14), defBody (topR 14), defScope (topR 14), [], []⟩,
  ⟨("is_sum", none), "is_sum", "is_sum", defArgs (topR 15), defBody (topR 15), defScope (topR 15), [], []⟩,
  ⟨("is_day", none), "is_day", "is_day", defArgs (topR 18), defBody (topR 18), defScope (topR 18), [], []⟩,
  ⟨("is_person", none), "is_person", "is_person", defArgs (topR 28), defBody (topR 28), defScope (topR 28), [], []⟩,
  ⟨("check_people", none), "check_people", "check_people", defArgs (topR 30), defBody (topR 30), defScope (topR 30), [], []⟩,
  ⟨("is_good", none), "is_good", "is_good", defArgs (topR 29), defBody (topR 29), defScope (topR 29), [], []⟩,
  ⟨("check_goods", none), "check_goods", "check_goods", defArgs (topR 31), defBody (topR 31), defScope (topR 31), [], []⟩,
  ⟨("is_death", none), "is_death", "is_death", defArgs (topR 52), defBody (topR 52), defScope (topR 52), [], []⟩,
  ⟨("check_deaths", none), "check_deaths", "check_deaths", defArgs (topR 53), defBody (topR 53), defScope (topR 53), [], []⟩,
  ⟨("is_lives", none), "is_lives", "is_lives", defArgs (topR 42), defBody (topR 42), defScope (topR 42), [], []⟩]
def defs1 : List He.DefD := [
  ⟨("is_formed", none), "is_formed", "is_formed", defArgs (topR 43), defBody (topR 43), defScope (topR 43), [], []⟩,
  ⟨("leaves", none), "leaves", "leaves", defArgs (topR 44), defBody (topR 44), defScope (topR 44), [], []⟩,
  ⟨("is_cond", none), "is_cond", "is_cond", defArgs (topR 46), defBody (topR 46), defScope (topR 46), [], []⟩,
  ⟨("is_cond_or_none", none), "is_cond_or_none", "is_cond_or_none", defArgs (topR 47), defBody (topR 47), defScope (topR 47), [], []⟩,
  ⟨("row_named", none), "row_named", "row_named", defArgs (topR 32), defBody (topR 32), defScope (topR 32), [], []⟩,
  ⟨("cond_names", none), "cond_names", "cond_names", defArgs (topR 45), defBody (topR 45), defScope (topR 45), [], []⟩,
  ⟨("check_persons", none), "check_persons", "check_persons", defArgs (topR 35), defBody (topR 35), defScope (topR 35), [], []⟩,
  ⟨("has_come", none), "has_come", "has_come", defArgs (topR 48), defBody (topR 48), defScope (topR 48), [], []⟩,
  ⟨("_law_pool", none), "_law_pool", "_law_pool", defArgs (topR 57), defBody (topR 57), defScope (topR 57), [], []⟩,
  ⟨("_law_take", none), "_law_take", "_law_take", defArgs (topR 58), defBody (topR 58), defScope (topR 58), [], []⟩,
  ⟨("_law_words", none), "_law_words", "_law_words", defArgs (topR 59), defBody (topR 59), defScope (topR 59), [], []⟩,
  ⟨("_law_home", none), "_law_home", "_law_home", defArgs (topR 60), defBody (topR 60), defScope (topR 60), [], []⟩]
def defs2 : List He.DefD := [
  ⟨("_law_atom", none), "_law_atom", "_law_atom", defArgs (topR 61), defBody (topR 61), defScope (topR 61), [], []⟩,
  ⟨("_law_cond", none), "_law_cond", "_law_cond", defArgs (topR 62), defBody (topR 62), defScope (topR 62), [], []⟩,
  ⟨("_law_deaths", none), "_law_deaths", "_law_deaths", defArgs (topR 63), defBody (topR 63), defScope (topR 63), [], []⟩,
  ⟨("_law_all_ways", none), "_law_all_ways", "_law_all_ways", defArgs (topR 64), defBody (topR 64), defScope (topR 64), [], []⟩,
  ⟨("_law_atoms_right", none), "_law_atoms_right", "_law_atoms_right", defArgs (topR 65), defBody (topR 65), defScope (topR 65), [], []⟩,
  ⟨("_law_as_far", none), "_law_as_far", "_law_as_far", defArgs (topR 66), defBody (topR 66), defScope (topR 66), [], []⟩,
  ⟨("_law_risen", none), "_law_risen", "_law_risen", defArgs (topR 67), defBody (topR 67), defScope (topR 67), [], []⟩,
  ⟨("_law_plain", none), "_law_plain", "_law_plain", defArgs (topR 68), defBody (topR 68), defScope (topR 68), [], []⟩,
  ⟨("_law_named", none), "_law_named", "_law_named", defArgs (topR 70), defBody (topR 70), defScope (topR 70), [], []⟩,
  ⟨("_law_right", none), "_law_right", "_law_right", defArgs (topR 69), defBody (topR 69), defScope (topR 69), [], []⟩,
  ⟨("law", none), "law", "law", defArgs (topR 71), defBody (topR 71), defScope (topR 71), [], []⟩,
  ⟨("NoDay", some "__init__"), "__init__", "NoDay.__init__", defArgs (inClass (topR 8) 0), defBody (inClass (topR 8) 0), defScope (inClass (topR 8) 0), [], []⟩]
def defs3 : List He.DefD := [
  ⟨("NoPerson", some "__init__"), "__init__", "NoPerson.__init__", defArgs (inClass (topR 10) 0), defBody (inClass (topR 10) 0), defScope (inClass (topR 10) 0), [], []⟩,
  ⟨("House", some "__init__"), "__init__", "House.__init__", defArgs (inClass (topR 34) 0), defBody (inClass (topR 34) 0), defScope (inClass (topR 34) 0), [.non, .int 0, .int 0], []⟩,
  ⟨("Story", some "__init__"), "__init__", "Story.__init__", defArgs (inClass (topR 55) 0), defBody (inClass (topR 55) 0), defScope (inClass (topR 55) 0), [.non], []⟩,
  ⟨("comes", none), "comes", "comes", defArgs (topR 49), defBody (topR 49), defScope (topR 49), [.int 0], []⟩,
  ⟨("House", some "people"), "people", "House.people", defArgs (inClass (topR 34) 1), defBody (inClass (topR 34) 1), defScope (inClass (topR 34) 1), [], []⟩,
  ⟨("House", some "person"), "person", "House.person", defArgs (inClass (topR 34) 7), defBody (inClass (topR 34) 7), defScope (inClass (topR 34) 7), [], []⟩,
  ⟨("House", some "children"), "children", "House.children", defArgs (inClass (topR 34) 2), defBody (inClass (topR 34) 2), defScope (inClass (topR 34) 2), [], []⟩,
  ⟨("Story", some "died"), "died", "Story.died", defArgs (inClass (topR 55) 1), defBody (inClass (topR 55) 1), defScope (inClass (topR 55) 1), [], []⟩,
  ⟨("Story", some "lives"), "lives", "Story.lives", defArgs (inClass (topR 55) 2), defBody (inClass (topR 55) 2), defScope (inClass (topR 55) 2), [.int 0], []⟩]
def defsN : List He.DefD := defs0 ++ defs1 ++ defs2 ++ defs3
abbrev hkN : PySem.W.Hook := hookW 4 asksN defsN
def obN (s : PySem.W.SharedT) : He.AlD := obsWG 4 asksN defsN (HandSHeadRun.getT s)
theorem obN_eq (s : PySem.W.SharedT) : obN s = hkN.obs s.abs := obsWG_eq (HandSHeadRun.getT_eq s)
theorem runA (w : World) : LkEq (PySem.W.OpenLaw.row PySem.Challenge.rw_willdealt_k15_whole_conditions_hang_toge) 12000 w := by
  intro os
  kernel_rfl
theorem runB (w : World) : SnEq (PySem.W.OpenLaw.row PySem.Challenge.rw_willdealt_k15_whole_conditions_hang_toge) (PySem.W.view (PySem.W.OpenLaw.row PySem.Challenge.rw_willdealt_k15_whole_conditions_hang_toge).prog [71]) 12000 looseN w := by
  intro os
  kernel_rfl
theorem runP0 (w : World) : ObEq (PySem.W.OpenLaw.row PySem.Challenge.rw_willdealt_k15_whole_conditions_hang_toge) 4 12000 asks0 defs0 w := by
  intro os
  kernel_rfl
theorem runP1 (w : World) : ObEq (PySem.W.OpenLaw.row PySem.Challenge.rw_willdealt_k15_whole_conditions_hang_toge) 4 12000 asks1 defs1 w := by
  intro os
  kernel_rfl
theorem runP2 (w : World) : ObEq (PySem.W.OpenLaw.row PySem.Challenge.rw_willdealt_k15_whole_conditions_hang_toge) 4 12000 asks2 defs2 w := by
  intro os
  kernel_rfl
theorem runP3 (w : World) : ObEq (PySem.W.OpenLaw.row PySem.Challenge.rw_willdealt_k15_whole_conditions_hang_toge) 4 12000 asks3 defs3 w := by
  intro os
  kernel_rfl
theorem runN (w : World) : HandSHeadRun.RunEq (PySem.W.OpenLaw.row PySem.Challenge.rw_willdealt_k15_whole_conditions_hang_toge) (PySem.W.view (PySem.W.OpenLaw.row PySem.Challenge.rw_willdealt_k15_whole_conditions_hang_toge).prog [71]) hkN obN 12000 looseN w := run_of3 (runA w) (runB w) (ob_app (ob_app (ob_app (runP0 w) (runP1 w)) (runP2 w)) (runP3 w))
end WdQ

set_option Elab.async false
set_option linter.all false
set_option maxRecDepth 100000
set_option maxHeartbeats 4000000
namespace Wd
open PySem PySem.Spec PyProof.Rows L2
/-! ### zip of a list or tuple with a list or tuple: one rule for the four mixes. A feed is what zip draws from. -/
inductive Feed where
  | li
  | tu
namespace Feed
def sq : Feed → PySem.W.Frag → Hp → Addr → List V → Prop
  | .li => SqL
  | .tu => SqT
def stands : Feed → Heap → Addr → Array Value → Prop
  | .li => Heap.IsList
  | .tu => Heap.IsTuple
def at_ : Feed → Heap → Addr → Addr → Nat → Prop
  | .li => Heap.IsListIter
  | .tu => Heap.IsTupleIter
def head : Feed → Addr → Obj
  | .li, a => { cls := .type "list_iterator", data := .fields #[.ref a, .int 0 0] }
  | .tu, a => { cls := .type "tuple_iterator", data := .fields #[.ref a, .int 0 0] }
variable (k : Feed)
theorem begins (a : Addr) (its : Array Value) : Begins (.ref a) (k.head a) fun h => k.stands h a its := by
  cases k
  · exact begins_list a its
  · exact begins_tuple a its
theorem draws {prog : Program} {w : World} {A : Around} (hA : A.handled = none) {it a : Addr} (ne : a ≠ it) (its : Array Value) : Draws prog w A it [it, a] its.size (fun i v => its[i]? = some v) (fun i h => k.at_ h it a i ∧ k.stands h a its) := by
  cases k
  · exact Draws.list hA it a ne its
  · exact Draws.tuple hA it a ne its
theorem first {h : Heap} {it a : Addr} (e : h.get? it = some (k.head a)) : k.at_ h it a 0 := by
  cases k <;> exact ⟨_, e, rfl, rfl⟩
theorem lives {h : Heap} {it a : Addr} {i : Nat} (e : k.at_ h it a i) : ∃ o, h.get? it = some o ∧ ∀ v, o.data ≠ .cell v := by
  cases k
  all_goals
    obtain ⟨o, e1, _, e2⟩ := e
    exact ⟨o, e1, fun v z => by rw [e2] at z; cases z⟩
theorem moved {h h' : Heap} {it a : Addr} {i : Nat} (e : k.at_ h it a i) (m : ∀ o, h.get? it = some o → h'.get? it = some o) : k.at_ h' it a i := by
  cases k
  · exact Heap.IsListIter.at e m
  · exact Heap.IsTupleIter.at e m
theorem known {X : Cx} {pins : List (Addr × Obj)} {σ : L2.St} {H : Hp} {s : Shared} {a : Addr} {xs : List V} (I : Inv X pins σ H s) (e : k.sq X.K H a xs) : ∃ its : List Value, Vals xs its ∧ k.stands s.heap a its.toArray ∧ a < s.heap.objs.size := by
  cases k
  · obtain ⟨its, v, p, _⟩ := I.list e
    exact ⟨its, v, p.isList, p.lt⟩
  · obtain ⟨its, v, p, _⟩ := I.tuple e
    obtain ⟨o, e1, _⟩ := id p
    exact ⟨its, v, p, Heap.lt_size e1⟩
theorem one {X : Cx} {pins : List (Addr × Obj)} {σ : L2.St} {H : Hp} {s : Shared} {a : Addr} {xs ys : List V} (I : Inv X pins σ H s) (e : k.sq X.K H a xs) (e' : k.sq X.K H a ys) : xs = ys := by
  cases k
  · exact I.list_inj e e'
  · exact I.tuple_inj e e'
end Feed
/-- the walk over zip of two feeds of one length -/
def ItZ (K : PySem.W.Frag) (k m : Feed) (a b : Addr) : It where
  go i H := ∃ xs ys x y, k.sq K H a xs ∧ m.sq K H b ys ∧ xs[i]? = some x ∧ ys[i]? = some y
  yld i H v H' := ∃ T x y, v = .ref T ∧ H T = none ∧ H' = upd H T (.tup [x, y]) ∧ (∀ xs, k.sq K H a xs → xs[i]? = some x) ∧ ∀ ys, m.sq K H b ys → ys[i]? = some y
  stop i H := ∃ xs ys, k.sq K H a xs ∧ m.sq K H b ys ∧ xs.length = i ∧ ys.length = i
theorem walkZ {K : PySem.W.Frag} {k m : Feed} {a b : Addr} {xs ys : List V} (hl : xs.length = ys.length) : Walk (ItZ K k m a b) xs.length (fun H => k.sq K H a xs ∧ m.sq K H b ys) (YPair (fun i => xs[i]?) fun i => ys[i]?) where
  goes := fun i H hi g => ⟨xs, ys, xs[i], ys[i]'(hl ▸ hi), g.1, g.2, List.getElem?_eq_getElem hi, List.getElem?_eq_getElem (hl ▸ hi)⟩
  stops := fun H g => ⟨xs, ys, g.1, g.2, rfl, hl.symm⟩
  yields := fun i H v H' _ g ⟨T, x, y, e1, e2, e3, e4, e5⟩ => ⟨T, x, y, e1, e2, e3, e4 xs g.1, e5 ys g.2⟩
/-- what holds of each of five cells holds of any of them -/
theorem of_five {z p q i j c : Addr} {R : Addr → Prop} (hc : c ∈ [z, p, q, i, j]) (hz : R z) (hp : R p) (hq : R q) (hi : R i) (hj : R j) : R c := by
  simp only [List.mem_cons, List.not_mem_nil, or_false] at hc
  rcases hc with e | e | e | e | e <;> (rw [e]; assumption)
theorem turnZ {P : Program} {w : World} {K : PySem.W.Frag} {elts : List Expr} {kk : Nat} {tpos : Pos} {k m : Feed} {a b z p q i1 i2 : Addr} (S : ZipSep2 z p q i1 i2 [i1, a] [i2, b]) (na : a ≠ i1) (nb : b ≠ i2) :
    Turn P w K (.Tuple elts kk tpos) (ItZ K k m a b) [z, p, q, i1, i2] z fun i h => IsZip h z p q .none ∧ IsTupOf2 h p (.ref i1) (.ref i2) ∧ (∃ x y, IsTupOf2 h q x y) ∧ k.at_ h i1 a i ∧ m.at_ h i2 b i where
  mem := List.mem_cons_self
  obj := by
    rintro i h ⟨gz, gp, ⟨x, y, gq⟩, g1, g2⟩ c hc
    exact of_five (R := fun c => ∃ o, h.get? c = some o ∧ ∀ v, o.data ≠ .cell v) hc ⟨_, gz, fun _ e => nomatch e⟩ ⟨_, gp, fun _ e => nomatch e⟩ ⟨_, gq, fun _ e => nomatch e⟩ (k.lives g1) (m.lives g2)
  keep := by
    rintro i h h' ⟨gz, gp, ⟨x, y, gq⟩, g1, g2⟩ same
    exact ⟨same _ (by simp) _ gz, same _ (by simp) _ gp, ⟨x, y, same _ (by simp) _ gq⟩, k.moved g1 (same _ (by simp)), m.moved g2 (same _ (by simp))⟩
  item := by
    rintro X rfl rfl rfl calm i pins s σ H E I free ⟨gz, gp, ⟨x0, y0, gq⟩, g1, g2⟩ ⟨xs, ys, x, y, hxs, hys, hx, hy⟩
    obtain ⟨us, rel1, st1, _⟩ := k.known I hxs
    obtain ⟨vs, rel2, st2, _⟩ := m.known I hys
    obtain ⟨u, hu, ru⟩ := rel1.get hx
    obtain ⟨v, hv, rv⟩ := rel2.get hy
    have hA : X.A.in1.handled = none := I.ok.hd calm
    have zlt := Heap.lt_size gz
    have n1 : i < us.toArray.size := by
      rw [List.size_toArray]
      exact (List.getElem?_eq_some_iff.mp hu).1
    have n2 : i < vs.toArray.size := by
      rw [List.size_toArray]
      exact (List.getElem?_eq_some_iff.mp hv).1
    refine wpAny_pyNext_zipD2_item S (k.draws hA na _) (m.draws hA nb _) gz gp gq ⟨g1, st1⟩ ⟨g2, st2⟩ n1 n2 ?_
    rintro u' v' h1 t1 eu ev gz1 gq1 ⟨d1, _⟩ ⟨d2, _⟩ gT _ same
    obtain rfl : u = u' := Option.some.inj (hu.symm.trans (by simpa using eu))
    obtain rfl : v = v' := Option.some.inj (hv.symm.trans (by simpa using ev))
    refine ⟨_, rfl, wpAny_letOwnedTupleGo_zip (s := { s with heap := h1, toks := t1 }) gz1 fun h2 gz2 sb => ?_⟩
    have all : ∀ c o, c ∉ [z, p, q, i1, i2] → s.heap.get? c = some o → h2.get? c = some o := fun c o hc e => by
      simp only [List.mem_cons, List.not_mem_nil, or_false, not_or] at hc
      rw [sb.2 c hc.1]
      exact same c o hc.1 hc.2.2.1 hc.2.2.2.1 hc.2.2.2.2 e
    have pair : h2.get? s.heap.objs.size = some { cls := .type "tuple", data := .seq #[u, v] } := (sb.2 _ (Nat.ne_of_gt zlt)).trans gT
    have made : ObjOk X.prog X.w (upd H s.heap.objs.size (.tup [x, y])) h2 s.heap.objs.size (.tup [x, y]) := ⟨by show 2 ≤ sizeLine; decide, [u, v], .cons ru (.cons rv .nil), _, pair, rfl, _, rfl⟩
    refine ⟨.ref s.heap.objs.size, _, I.turnedNew (t' := t1) all free (Nat.le_refl _) made, rfl, ?_, ?_, ?_⟩
    · exact ⟨_, x, y, rfl, I.hok.fresh (Nat.le_refl _), rfl, fun l e => k.one I e hxs ▸ hx, fun l e => m.one I e hys ▸ hy⟩
    · exact ⟨gz2, (sb.2 _ S.TIz).trans (same _ _ S.TIz S.TITO S.TIi1 S.TIi2 gp), ⟨u, v, (sb.2 _ S.TOz).trans gq1⟩, k.moved d1 fun o e => (sb.2 _ S.zi1.symm).trans e, m.moved d2 fun o e => (sb.2 _ S.zi2.symm).trans e⟩
    · intro c hc
      have old : c < s.heap.objs.size := by
        obtain ⟨o1, e1, _⟩ := k.lives g1
        obtain ⟨o2, e2, _⟩ := m.lives g2
        exact of_five (R := fun c => c < s.heap.objs.size) hc zlt (Heap.lt_size gp) (Heap.lt_size gq) (Heap.lt_size e1) (Heap.lt_size e2)
      rw [upd_ne (Nat.ne_of_lt old)]
      exact (free c hc).1
  done := by
    rintro X rfl rfl rfl calm i pins s σ H E I free ⟨gz, gp, ⟨x0, y0, gq⟩, g1, g2⟩ ⟨xs, ys, hxs, hys, n1, n2⟩
    obtain ⟨us, rel1, st1, _⟩ := k.known I hxs
    obtain ⟨vs, rel2, st2, _⟩ := m.known I hys
    have hA : X.A.in1.handled = none := I.ok.hd calm
    have z1 : us.toArray.size = i := by rw [List.size_toArray, ← rel1.length, n1]
    have z2 : vs.toArray.size = i := by rw [List.size_toArray, ← rel2.length, n2]
    refine wpAny_pyNext_zipD2_end S (k.draws hA na _) (m.draws hA nb _) gz gp gq ⟨g1, st1⟩ ⟨g2, st2⟩ (by omega) (by omega) (by omega) fun h1 t1 same => ⟨rfl, I.turnedL (t' := t1) (fun c o hc e => ?_) free⟩
    simp only [List.mem_cons, List.not_mem_nil, or_false, not_or] at hc
    exact same c o hc.1 hc.2.2.1 hc.2.2.2.1 hc.2.2.2.2 e
  self := fun _ _ _ _ _ g e => wpAny_pyIter_zip g.1 e
def iZ (K : PySem.W.Frag) (k m : Feed) (ta : TA) : TI := fun σ H R => ta σ H fun vs H1 => ∃ a b xs ys, vs = [.ref a, .ref b] ∧ k.sq K H1 a xs ∧ m.sq K H1 b ys ∧ R (ItZ K k m a b) H1
theorem pi_Z {X : Cx} {e e2 : Expr} {ta : TA} {pz pos tpos : Pos} {elts : List Expr} {kk : Nat} (k m : Feed) (hg : Gl X "zip") (hm : X.mg "zip" = none) (ha : PA X [e, e2] ta)
    (star : starEach [e, e2] X.env = (false, eval e X.env) :: starEach [e2] X.env := by rfl) (plain : (backTo pos (starEach [e2] X.env)).any (·.1) = false := by rfl) :
    PI X (.Tuple elts kk tpos) (.Call (.Name "zip" pz) [e, e2] [] pos) (iZ X.K k m ta) where
  run := by
    intro pins s σ H R I h
    refine Call_ (ld_blt I hg hm PyProof.Rows.boot_zip (PyProof.Rows.callWith_type1 (thn (ha.run pos pins s σ H _ I h) ?_) star plain))
    rintro us s1 ⟨vs, H1, I1, rel, a, b, xs, ys, rfl, hxs, hys, r⟩
    obtain ⟨ua, ub, rfl, ra, rb⟩ := vals2 rel
    cases ra
    cases rb
    obtain ⟨its1, _, st1, la⟩ := k.known I1 hxs
    obtain ⟨its2, _, st2, lb⟩ := m.known I1 hys
    have S : ZipSep2 (s1.heap.objs.size + 4) (s1.heap.objs.size + 2) (s1.heap.objs.size + 3) s1.heap.objs.size (s1.heap.objs.size + 1) [s1.heap.objs.size, a] [s1.heap.objs.size + 1, b] :=
      zip_sep2 (fun c hc => by rw [List.mem_singleton.mp hc]; exact la) (fun c hc => by rw [List.mem_singleton.mp hc]; exact lb)
    have far : ∀ c, s1.heap.objs.size ≤ c → FpOk X pins H1 c := fun c hc => I1.fpOk hc (I1.hok.fresh hc)
    refine zip_begins2 (k.begins a _) (m.begins b _) st1 st2 fun h1 gz gp gq f1 f2 _ same => wpAny_pyIter_zip gz ?_
    refine ⟨_, _, _, _, H1, rfl, I1.kept (t' := s1.toks) same, turnZ S (Nat.ne_of_lt la) (Nat.ne_of_lt (Nat.lt_succ_of_lt lb)), ⟨gz, gp, ⟨_, _, gq⟩, k.first f1, m.first f2⟩, fun c hc => ?_, r⟩
    exact of_five hc (far _ (Nat.le_add_right _ _)) (far _ (Nat.le_add_right _ _)) (far _ (Nat.le_add_right _ _)) (far _ (Nat.le_refl _)) (far _ (Nat.le_add_right _ _))
/-! ### sum of a tuple of ints -/
def rSumT (K : PySem.W.Frag) : List V → Hp → VK → Prop := fun vs H Q => ∃ (t : Addr) (ns : List Int), vs = [V.ref t] ∧ SqT K H t (ns.map V.int) ∧ Q (.int ns.sum) H
theorem cr_sumT {X : Cx} (calm : X.calm = true) : CallR X (.builtin "sum") (rSumT X.K) := by
  rintro pins s σ H vs us Q I rel ⟨t, ns, rfl, hs, want⟩
  obtain ⟨its, vals, tup, _⟩ := I.tuple hs
  rw [Vals.ref1 rel]
  have aI : IntsAre its ns := vals.ints
  obtain ⟨zs, ez⟩ := aI.allInts.items
  have sum_is : preSum (numAt zs) zs.size = ns.sum := by
    rw [preSum_eq, List.take_of_length_le (by simp), ← nums_intItems, ← ez]
    exact congrArg List.sum aI.numsOf
  have tup2 : s.heap.IsTuple t (intItems zs) := ez ▸ tup
  refine PySem.W.ktm_sumG (I.ok.hd calm) tup2 fun h1 k1 t1 same => ?_
  rw [sum_is]
  exact ⟨.int _, H, I.kept same, ⟨_, rfl⟩, want⟩
/-! ### xs[i] read by values, for xs[i] += e -/
def rGetL (K : PySem.W.Frag) : V → V → Hp → VK → Prop := fun x y H Q => ∃ p xs i v, x = .ref p ∧ y = .int i ∧ 0 ≤ i ∧ SqL K H p xs ∧ atI xs i = some v ∧ Q v H
theorem get_list {X : Cx} : PGet X (rGetL X.K) := by
  rintro pins s σ H _ _ ov iv Q I ro ri ⟨p, xs, i, v, rfl, rfl, i0, hxs, hat, want⟩
  cases ro
  obtain ⟨t, rfl⟩ := ri
  obtain ⟨its, vals, plain, small⟩ := I.list hxs
  obtain ⟨j, sj, gj, _, _, hi⟩ := atI_get hat
  obtain ⟨u, gu, ru⟩ := vals.get gj
  have ej : i.toNat = j := Option.some.inj ((seqIndex_of i0 hi).symm.trans sj)
  have line := line63
  exact wpAny_getItem_list plain.isList i0 (by omega) (by rw [ej]; simpa using gu) ⟨v, H, I, ru, want⟩
/-! ### f(k = v, ..), keywords alone -/
def tCallN0 (m : Nat) (sp : Sp) (gV : List V → List V → List V) (E : XK) (tk : TA) : TE := fun σ H Q => tk σ H fun zs H2 => zs.length = m ∧ sp (gV [] zs) H2 Q E
theorem pe_callN0 {X : Cx} {CX : CXT} {k : Nat} {f : Addr} {fd : FuncData} {ps ks : List Str} {sp : Sp} {E : XK} {x : Str} {p pos : Pos} {kws : List Keyword} {tk : TA} {g : List Value → List Value → List Value} {gV : List V → List V → List V}
    (F : FnOk X.prog X.w X.K X.mg X.base CX k f fd ps sp) (room : Room k X.A) (glob : Gl X x) (is : X.mg x = some (.ref f)) (kp : PySem.W.keepIn X.K (.ref f) = true) (bind : KBn X.K fd ps 0 ks g gV) (pass : Passes CX X E) (args : PK X kws tk)
    (named : (backToKw pos (keywordEach kws X.env)).all (·.1.isSome) = true := by rfl) (names : (backToKw pos (keywordEach kws X.env)).filterMap (·.1) = ks := by rfl)
    (nodebug : (x == ("__debug__" : Str)) = false := by decide) (plain : ((backTo pos (starEach [] X.env)).any (·.1) || (backToKw pos (keywordEach kws X.env)).any (·.1.isNone)) = false := by rfl) :
    PE X (.Call (.Name x p) [] kws pos) (tCallN0 ks.length sp gV E tk) where
  run := by
    intro pins s σ H Q I h
    refine wpAny_Call_Name_kw (ld_glob I glob is (PySem.W.callWith_KW0 (h₀ := X.base) I.ok.mod.kin kp named (thn (args.run pos pins s σ H _ I h) ?_) plain) nodebug)
    rintro ws s2 ⟨zs, H2, I2, rel, len, want⟩
    rw [names]
    exact ⟨I2.kIn, run_fnN F room bind pass I2 .nil rel rfl len want⟩
/-! ### t[::-1] of a tuple -/
section
variable {prog : Program} {w : World} {A : Around} {E : Value → Shared → Prop} {s : Shared}
theorem back_parts {sl : Addr} {v0 v1 v2 : Value} {n : Nat} {R : Int × Int × Nat → Shared → Prop} (cut : s.heap.IsSliceOf sl v0 v1 v2) (p0 : IsPart v0 none) (p1 : IsPart v1 none) (p2 : IsPart v2 (some (-1))) (want : R ((n : Int) - 1, -1, n) s) :
    wpAny (model prog w) A (Builtin.Slice.sliceApplied (.ref sl) (pure (n : Int))) R E s := by
  obtain ⟨o, eo, _, eds⟩ := cut
  have num : Builtin.Slice.slicePlaces ((n : Int) - 1) (-1) (-1) = n := by
    show (if (-1 : Int) > 0 then _ else if (n : Int) - 1 > -1 then ((n : Int) - 1 - -1 - 1) / (- -1) + 1 else 0).toNat = n
    rw [if_neg (by decide)]
    by_cases some : (n : Int) - 1 > -1
    · rw [if_pos some, show (- -1 : Int) = 1 by decide, Int.ediv_one]
      omega
    · rw [if_neg some]
      omega
  show wpAny _ _ (Builtin.Slice.sliceFields (.ref sl) >>= _) _ _ _
  refine wpAny_bind (wpAny_bind (wpAny_field eo eds (x := v0) rfl (wpAny_bind (wpAny_field eo eds (x := v1) rfl (wpAny_bind (wpAny_field eo eds (x := v2) rfl (wpAny_pure (wpAny_bind (HT.slicePart_ p2 ?_)))))))))
  show wpAny _ _ (if ((-1 : Int) == 0) = true then _ else _) _ _ _
  rw [if_neg (by decide)]
  refine wpAny_bind (HT.slicePart_ p0 (wpAny_bind (HT.slicePart_ p1 (wpAny_bind (wpAny_pure (wpAny_pure ?_))))))
  show R ((n : Int) - 1, -1, Builtin.Slice.slicePlaces ((n : Int) - 1) (-1) (-1)) s
  rw [num]
  exact want
theorem back_items (xs : Array Value) : ((List.range xs.size).filterMap fun (m : Nat) => xs[(((xs.size : Nat) : Int) - 1 + (m : Int) * (-1)).toNat]?).toArray = xs.toList.reverse.toArray := by
  have e : (fun (m : Nat) => xs[(((xs.size : Nat) : Int) - 1 + (m : Int) * (-1)).toNat]?) = (xs[·]?) ∘ fun m => xs.size - 1 - m := funext fun m => by
    show xs[(((xs.size : Nat) : Int) - 1 + (m : Int) * (-1)).toNat]? = xs[xs.size - 1 - m]?
    congr 1
    omega
  rw [e, ← List.filterMap_map, PySem.W.krv_range, List.filterMap_reverse, PySem.W.krv_all xs]
theorem tuple_back {t sl : Addr} {its : Array Value} {v0 v1 v2 : Value} {R : Value → Shared → Prop} (tup : IsTup s.heap t its) (cut : s.heap.IsSliceOf sl v0 v1 v2) (p0 : IsPart v0 none) (p1 : IsPart v1 none) (p2 : IsPart v2 (some (-1))) (small : its.size ≤ sizeLine)
    (want : R (.ref s.heap.objs.size) { s with heap := s.heap.push { cls := .type "tuple", data := .seq its.toList.reverse.toArray } }) : wpAny (model prog w) A (getItem (.ref t) (.ref sl)) R E s := by
  obtain ⟨o, eo, ecs, _⟩ := id cut
  have isSl : s.TypeIs (.ref sl) "slice" := ⟨o, eo, ecs⟩
  have fits : sizeOk (.seq its.toList.reverse.toArray) := by
    show its.toList.reverse.toArray.size ≤ sizeLine
    simpa using small
  unfold getItem
  (try with_reducible refine wpAny_holding ?_); (first | refine wpAny_bind (wpAny_pure ?_) | skip)
  refine wpAny_bind (wpAny_sequenceKey tup.typeIs (by decide) (wpAny_bind (wpAny_callSpecial?_slot (name := Str.ofString "__getitem__") tup.typeIs PyProof.Rows.slot_tuple_getitem (wpAny_call_entry PyProof.Rows.slot_tuple_getitem tup.typeIs entry_tuple_getitem ?_ (args_tuple_getitem _ _)))))
  refine wpAny_bind (m := Builtin.Tuple.tupleItemsOf (.ref t)) (tupleItemsOf_ tup (wpAny_bind (wpAny_typeOf isSl ?_)))
  rw [if_pos (by decide)]
  refine wpAny_bind (back_parts cut p0 p1 p2 ?_)
  show wpAny _ _ (if ((((its.size : Int) - 1) == 0 && (-1 : Int) == 1 && its.size == its.size) = true) then _ else _) _ _ _
  rw [if_neg (by simp), back_items]
  first
    | exact wpAny_bind (m := Builtin.Tuple.tupleExact _) (wpAny_newObj_type (wpAny_pure ⟨_, rfl, wpAny_pure want⟩) fits)
    | exact wpAny_bind (m := Builtin.Tuple.tupleExact _) (wpAny_newObj_type (wpAny_bind (wpAny_pure (wpAny_pure ⟨_, rfl, wpAny_pure want⟩))) fits)
end
def tRevT (K : PySem.W.Frag) (te : TE) : TE := fun σ H Q => te σ H fun x H1 => ∃ t xs, x = .ref t ∧ SqT K H1 t xs ∧ ∀ p, H1 p = none → Q (.ref p) (upd H1 p (.tup xs.reverse))
theorem pe_revT {X : Cx} {e : Expr} {te : TE} {k : Nat} {q1 q2 q3 pos : Pos} (he : PE X e te) : PE X (.Subscript e (.Slice none none (some (.UnaryOp .USub (.Constant (.int 1) k q1) q2)) q3) pos) (tRevT X.K te) where
  run := by
    intro pins s σ H Q I h
    have minus : PO X (some (.UnaryOp .USub (.Constant (.int 1) k q1) q2)) (tPart (tUn (rU fun i => .int (-i)) (tC (.int 1)))) := po_some (pe_un un_neg pe_int)
    refine Subscript_ (thn (he.run pins s σ H _ I h) ?_)
    rintro _ s1 ⟨_, H1, I1, rel, t, xs, rfl, hxs, want⟩
    cases rel
    refine wpAny_Slice (thn (po_none.run pins s1 σ H1 (fun o G => o = none ∧ G = H1) I1 ⟨rfl, rfl⟩) ?_)
    rintro v0 s2 ⟨_, _, I2, p0, rfl, rfl⟩
    refine thn (po_none.run pins s2 σ _ (fun o G => o = none ∧ G = _) I2 ⟨rfl, rfl⟩) ?_
    rintro v1 s3 ⟨_, _, I3, p1, rfl, rfl⟩
    refine thn (minus.run pins s3 σ _ (fun o G => o = some (-1) ∧ G = _) I3 ⟨1, rfl, -1, rfl, rfl, rfl⟩) ?_
    rintro v2 s4 ⟨_, _, I4, p2, rfl, rfl⟩
    have I5 := I4.kept (h' := s4.heap.push { cls := .type "slice", data := .fields #[v0, v1, v2] }) (t' := s4.toks) fun c o g => Heap.get?_push_of_some _ g
    obtain ⟨its, vals, tup, small⟩ := I5.tuple hxs
    refine tail_any (ops := [.ref t, .ref s4.heap.objs.size]) tup.typeIs PyProof.Rows.slot_tuple_getitem.lookup (tuple_back tup (Heap.IsSliceOf.new _ v0 v1 v2) p0 p1 p2 (by rw [List.size_toArray, ← vals.length]; exact small) ?_) (by with_unfolding_all rfl)
    exact ⟨.ref _, _, I5.laid (t' := s4.toks) (o := .tup xs.reverse) (fun c o g => Heap.get?_push_of_some _ g) (Nat.le_refl _) ⟨by rw [List.length_reverse]; exact small, _, vals.reverse, IsTup.new _ _⟩, rfl, want _ (I5.hok.fresh (Nat.le_refl _))⟩
end Wd

set_option linter.all false
namespace WdM
/-! ### pennies by weights -/
def deal (a T : Int) : Int → List Int → List Int
  | _, [] => []
  | k, w :: ws => if 0 < k ∧ a * w % T ≠ 0 then (a * w / T + 1) :: deal a T (k - 1) ws else a * w / T :: deal a T k ws
def bases (a T : Int) (ws : List Int) : List Int := ws.map fun w => a * w / T
def cnt (a T : Int) : List Int → Int
  | [] => 0
  | w :: ws => (if a * w % T ≠ 0 then 1 else 0) + cnt a T ws
def dealt (a : Int) (ws : List Int) : List Int := deal a ws.sum (a - (bases a ws.sum ws).sum) ws

theorem deal_len (a T : Int) : ∀ (k : Int) (ws : List Int), (deal a T k ws).length = ws.length
  | _, [] => rfl
  | k, w :: ws => by
    unfold deal
    split
    · rw [List.length_cons, deal_len a T (k - 1) ws, List.length_cons]
    · rw [List.length_cons, deal_len a T k ws, List.length_cons]
theorem dealt_len (a : Int) (ws : List Int) : (dealt a ws).length = ws.length := deal_len _ _ _ _
theorem cnt_cons (a T w : Int) (ws : List Int) : cnt a T (w :: ws) = (if a * w % T ≠ 0 then 1 else 0) + cnt a T ws := rfl
theorem cnt_nonneg (a T : Int) : ∀ ws, 0 ≤ cnt a T ws
  | [] => Int.le_refl 0
  | w :: ws => by
    have := cnt_nonneg a T ws
    unfold cnt
    split <;> omega
theorem deal_sum (a T : Int) : ∀ (k : Int) (ws : List Int), 0 ≤ k → (deal a T k ws).sum = (bases a T ws).sum + min k (cnt a T ws)
  | k, [], hk => by
    show (0 : Int) = 0 + min k 0
    omega
  | k, w :: ws, hk => by
    have hb : (bases a T (w :: ws)).sum = a * w / T + (bases a T ws).sum := by unfold bases; rw [List.map_cons, List.sum_cons]
    have hc := cnt_nonneg a T ws
    unfold deal
    split
    · rename_i h
      have ih := deal_sum a T (k - 1) ws (by omega)
      rw [List.sum_cons, ih, hb]
      rw [cnt_cons, if_pos h.2]
      generalize a * w / T = q
      omega
    · rename_i h
      have ih := deal_sum a T k ws hk
      rw [List.sum_cons, ih, hb]
      rw [cnt_cons]
      generalize a * w / T = q
      by_cases hz : a * w % T ≠ 0
      · have : ¬ 0 < k := fun z => h ⟨z, hz⟩
        rw [if_pos hz]
        omega
      · rw [if_neg hz]
        omega
def rems (a T : Int) (ws : List Int) : List Int := ws.map fun w => a * w % T
theorem bases_rems (a T : Int) : ∀ ws : List Int, T * (bases a T ws).sum + (rems a T ws).sum = a * ws.sum
  | [] => by
    show T * 0 + 0 = a * 0
    simp
  | w :: ws => by
    have ih := bases_rems a T ws
    have e : T * (a * w / T) + a * w % T = a * w := Int.mul_ediv_add_emod (a * w) T
    unfold bases rems at *
    rw [List.map_cons, List.map_cons, List.sum_cons, List.sum_cons, List.sum_cons, Int.mul_add, Int.mul_add]
    omega
theorem rems_bound (a T : Int) (hT : 0 < T) : ∀ ws : List Int, 0 ≤ (rems a T ws).sum ∧ (rems a T ws).sum ≤ (T - 1) * cnt a T ws
  | [] => by
    constructor
    · exact Int.le_refl 0
    · show (0 : Int) ≤ (T - 1) * 0
      simp
  | w :: ws => by
    have ih := rems_bound a T hT ws
    have h0 := Int.emod_nonneg (a * w) (show T ≠ 0 by omega)
    have h1 := Int.emod_lt_of_pos (a * w) hT
    unfold rems at *
    rw [List.map_cons, List.sum_cons]
    rw [cnt_cons]
    generalize hr : a * w % T = r at *
    by_cases hz : r ≠ 0
    · rw [if_pos hz, Int.mul_add, Int.mul_one]
      omega
    · rw [if_neg hz]
      have : r = 0 := by omega
      subst this
      rw [Int.zero_add, Int.zero_add]
      omega
theorem lack_bounds (a : Int) (ws : List Int) (hT : 0 < ws.sum) : 0 ≤ a - (bases a ws.sum ws).sum ∧ a - (bases a ws.sum ws).sum ≤ cnt a ws.sum ws := by
  have h1 := bases_rems a ws.sum ws
  have ⟨h2, h3⟩ := rems_bound a ws.sum hT ws
  have hc := cnt_nonneg a ws.sum ws
  generalize ws.sum = T at *
  generalize (bases a T ws).sum = B at *
  generalize (rems a T ws).sum = R at *
  generalize cnt a T ws = c at *
  have e : T * (a - B) = R := by
    rw [Int.mul_sub]
    have : a * T = T * a := Int.mul_comm _ _
    omega
  constructor
  · rcases Int.lt_or_le (a - B) 0 with h | h
    · have : T * (a - B) < 0 := Int.mul_neg_of_pos_of_neg hT h
      omega
    · exact h
  · rcases Int.lt_or_le c (a - B) with h | h
    · have h4 : T * (c + 1) ≤ T * (a - B) := Int.mul_le_mul_of_nonneg_left (by omega) (by omega)
      have h5 : (T - 1) * c = T * c - c := by rw [Int.sub_mul, Int.one_mul]
      rw [Int.mul_add, Int.mul_one] at h4
      omega
    · exact h
theorem dealt_sum (a : Int) (ws : List Int) (hT : 0 < ws.sum) : (dealt a ws).sum = a := by
  have ⟨h1, h2⟩ := lack_bounds a ws hT
  unfold dealt
  rw [deal_sum _ _ _ _ h1]
  omega
/-- each is its exact part, rounded down or up -/
theorem deal_get (a T : Int) : ∀ (k : Int) (ws : List Int) (i : Nat) (v : Int), (deal a T k ws)[i]? = some v → ∃ w, ws[i]? = some w ∧ (v = a * w / T ∨ v = a * w / T + 1)
  | _, [], i, v, h => by unfold deal at h; simp at h
  | k, w :: ws, i, v, h => by
    unfold deal at h
    split at h
    · cases i with
      | zero => exact ⟨w, rfl, .inr (by simpa using h.symm)⟩
      | succ i => exact deal_get a T _ ws i v (by simpa using h)
    · cases i with
      | zero => exact ⟨w, rfl, .inl (by simpa using h.symm)⟩
      | succ i => exact deal_get a T _ ws i v (by simpa using h)
/-! ### the same by other numbers of the same shares -/
theorem sum_scale (p : Int) : ∀ ws : List Int, (ws.map (p * ·)).sum = p * ws.sum
  | [] => by simp
  | w :: ws => by rw [List.map_cons, List.sum_cons, List.sum_cons, sum_scale p ws, Int.mul_add]
theorem part_scale {a T w p : Int} (hp : 0 < p) : a * (p * w) / (p * T) = a * w / T := by
  rw [show a * (p * w) = p * (a * w) by rw [← Int.mul_assoc, Int.mul_comm a p, Int.mul_assoc]]
  exact Int.mul_ediv_mul_of_pos _ _ hp
theorem rem_scale {a T w p : Int} (hp : 0 < p) : (a * (p * w) % (p * T) ≠ 0) ↔ (a * w % T ≠ 0) := by
  rw [show a * (p * w) = p * (a * w) by rw [← Int.mul_assoc, Int.mul_comm a p, Int.mul_assoc], Int.mul_emod_mul_of_pos _ _ hp]
  constructor
  · intro h z
    exact h (by rw [z, Int.mul_zero])
  · intro h z
    rcases Int.mul_eq_zero.mp z with q | q
    · omega
    · exact h q
theorem deal_scale {a T p : Int} (hp : 0 < p) : ∀ (k : Int) (ws : List Int), deal a (p * T) k (ws.map (p * ·)) = deal a T k ws
  | _, [] => rfl
  | k, w :: ws => by
    rw [List.map_cons]
    unfold deal
    rw [part_scale hp]
    by_cases h : 0 < k ∧ a * w % T ≠ 0
    · rw [if_pos h, if_pos ⟨h.1, (rem_scale hp).mpr h.2⟩, deal_scale hp (k - 1) ws]
    · rw [if_neg h, if_neg (fun z => h ⟨z.1, (rem_scale hp).mp z.2⟩), deal_scale hp k ws]
theorem bases_scale {a T p : Int} (hp : 0 < p) (ws : List Int) : bases a (p * T) (ws.map (p * ·)) = bases a T ws := by
  unfold bases
  rw [List.map_map]
  apply List.map_congr_left
  intro w _
  exact part_scale hp
theorem dealt_scale {a p : Int} (hp : 0 < p) (ws : List Int) : dealt a (ws.map (p * ·)) = dealt a ws := by
  unfold dealt
  rw [sum_scale, bases_scale hp, deal_scale hp]
theorem dealt_like {a p q : Int} (hp : 0 < p) (hq : 0 < q) {ws ws' : List Int} (h : ws.map (p * ·) = ws'.map (q * ·)) : dealt a ws = dealt a ws' := by
  rw [← dealt_scale hp ws, h, dealt_scale hq]
/-! ### weights of fractions -/
def lcmF : Int → List (Int × Int) → Int
  | b, [] => b
  | b, f :: fs => lcmF (b / (Int.gcd b f.2 : Int) * f.2) fs
def wts (L : Int) (fs : List (Int × Int)) : List Int := fs.map fun f => f.1 * (L / f.2)
def wtsOf (fs : List (Int × Int)) : List Int := wts (lcmF 1 fs) fs
structure Lcm (b L : Int) (fs : List (Int × Int)) : Prop where
  pos : 0 < L
  dvd : b ∣ L
  all : ∀ f ∈ fs, f.2 ∣ L
theorem step_lcm {b d : Int} (hb : 0 < b) (hd : 0 < d) : 0 < b / (Int.gcd b d : Int) * d ∧ b ∣ b / (Int.gcd b d : Int) * d ∧ d ∣ b / (Int.gcd b d : Int) * d := by
  have g0 : (0 : Int) < (Int.gcd b d : Int) := by
    have : Int.gcd b d ≠ 0 := fun z => by
      have := (Int.gcd_eq_zero_iff.mp z).1
      omega
    omega
  obtain ⟨x, hx⟩ := Int.gcd_dvd_left b d
  obtain ⟨y, hy⟩ := Int.gcd_dvd_right b d
  generalize hg : (Int.gcd b d : Int) = g at *
  have e : b / g = x := by rw [hx]; exact Int.mul_ediv_cancel_left x (by omega)
  have xp : 0 < x := by
    rcases Int.lt_or_le 0 x with h | h
    · exact h
    · have : g * x ≤ 0 := Int.mul_nonpos_of_nonneg_of_nonpos (by omega) h
      omega
  rw [e]
  refine ⟨Int.mul_pos xp hd, ⟨y, ?_⟩, ⟨x, Int.mul_comm _ _⟩⟩
  rw [hy, hx, ← Int.mul_assoc, Int.mul_comm x g]
theorem lcm_is : ∀ (fs : List (Int × Int)) (b : Int), 0 < b → (∀ f ∈ fs, 0 < f.2) → Lcm b (lcmF b fs) fs
  | [], b, hb, _ => ⟨hb, Int.dvd_refl b, fun f h => by cases h⟩
  | f :: fs, b, hb, h => by
    have hd := h f List.mem_cons_self
    have ⟨s1, s2, s3⟩ := step_lcm hb hd
    have ih := lcm_is fs _ s1 (fun g hg => h g (List.mem_cons_of_mem _ hg))
    refine ⟨ih.pos, Int.dvd_trans s2 ih.dvd, fun g hg => ?_⟩
    rcases List.mem_cons.mp hg with rfl | hg
    · exact Int.dvd_trans s3 ih.dvd
    · exact ih.all g hg
theorem wt_eq {L t d : Int} (h : d ∣ L) : t * (L / d) * d = t * L := by
  rw [Int.mul_assoc, Int.ediv_mul_cancel h]
/-- two rows of fractions that stand as B to A -/
theorem wts_like {A B L L' : Int} (hA : 0 < A) (hB : 0 < B) : ∀ (fs fs' : List (Int × Int)), fs.length = fs'.length → (∀ f ∈ fs, 0 < f.2 ∧ f.2 ∣ L) → (∀ f ∈ fs', 0 < f.2 ∧ f.2 ∣ L') →
    (∀ (i : Nat) (f f' : Int × Int), fs[i]? = some f → fs'[i]? = some f' → f'.1 * f.2 * B = f.1 * A * f'.2) → (wts L fs).map (A * L' * ·) = (wts L' fs').map (B * L * ·)
  | [], [], _, _, _, _ => rfl
  | f :: fs, f' :: fs', hl, h1, h2, h3 => by
    have ih := wts_like (L := L) (L' := L') hA hB fs fs' (by simpa using hl) (fun g hg => h1 g (List.mem_cons_of_mem _ hg)) (fun g hg => h2 g (List.mem_cons_of_mem _ hg)) (fun i g g' a b => h3 (i + 1) g g' (by simpa using a) (by simpa using b))
    have e := h3 0 f f' rfl rfl
    have ⟨p1, d1⟩ := h1 f List.mem_cons_self
    have ⟨p2, d2⟩ := h2 f' List.mem_cons_self
    unfold wts at *
    rw [List.map_cons, List.map_cons, List.map_cons, List.map_cons, ih]
    congr 1
    have w1 := wt_eq (t := f.1) d1
    have w2 := wt_eq (t := f'.1) d2
    generalize f.1 * (L / f.2) = w at *
    generalize f'.1 * (L' / f'.2) = w' at *
    have ne : f.2 * f'.2 ≠ 0 := Int.ne_of_gt (Int.mul_pos p1 p2)
    apply Int.eq_of_mul_eq_mul_right ne
    have l1 : A * L' * w * (f.2 * f'.2) = (w * f.2) * (A * L' * f'.2) := by
      ac_rfl
    have l2 : B * L * w' * (f.2 * f'.2) = (w' * f'.2) * (B * L * f.2) := by
      ac_rfl
    rw [l1, l2, w1, w2]
    have l3 : f.1 * L * (A * L' * f'.2) = (f.1 * A * f'.2) * (L * L') := by ac_rfl
    have l4 : f'.1 * L' * (B * L * f.2) = (f'.1 * f.2 * B) * (L * L') := by ac_rfl
    rw [l3, l4, e]
theorem dealt_frac {a A B : Int} (hA : 0 < A) (hB : 0 < B) {fs fs' : List (Int × Int)} (hl : fs.length = fs'.length) (h1 : ∀ f ∈ fs, 0 < f.2) (h2 : ∀ f ∈ fs', 0 < f.2)
    (h3 : ∀ (i : Nat) (f f' : Int × Int), fs[i]? = some f → fs'[i]? = some f' → f'.1 * f.2 * B = f.1 * A * f'.2) : dealt a (wtsOf fs) = dealt a (wtsOf fs') := by
  have c1 := lcm_is fs 1 (by decide) h1
  have c2 := lcm_is fs' 1 (by decide) h2
  exact dealt_like (Int.mul_pos hA c2.pos) (Int.mul_pos hB c1.pos) (wts_like hA hB fs fs' hl (fun f hf => ⟨h1 f hf, c1.all f hf⟩) (fun f hf => ⟨h2 f hf, c2.all f hf⟩) h3)
theorem wtsOf_sum_pos {fs : List (Int × Int)} (h1 : ∀ f ∈ fs, 0 ≤ f.1 ∧ 0 < f.2) (h2 : ∃ f ∈ fs, 0 < f.1) : 0 < (wtsOf fs).sum ∧ ∀ w ∈ wtsOf fs, 0 ≤ w := by
  have c := lcm_is fs 1 (by decide) (fun f hf => (h1 f hf).2)
  unfold wtsOf
  generalize lcmF 1 fs = L at *
  have q : ∀ f ∈ fs, 0 < L / f.2 := fun f hf => Int.ediv_pos_of_pos_of_dvd c.pos (Int.le_of_lt (h1 f hf).2) (c.all f hf)
  clear c
  have nn : ∀ w ∈ wts L fs, 0 ≤ w := fun w hw => by
    unfold wts at hw
    obtain ⟨f, hf, rfl⟩ := List.mem_map.mp hw
    exact Int.mul_nonneg (h1 f hf).1 (Int.le_of_lt (q f hf))
  refine ⟨?_, nn⟩
  induction fs with
  | nil => obtain ⟨f, hf, _⟩ := h2; cases hf
  | cons g fs ih =>
    unfold wts
    rw [List.map_cons, List.sum_cons]
    have g0 : 0 ≤ g.1 * (L / g.2) := nn _ (by unfold wts; rw [List.map_cons]; exact List.mem_cons_self)
    have rest : ∀ (xs : List Int), (∀ w ∈ xs, 0 ≤ w) → 0 ≤ xs.sum := fun xs => by
      induction xs with
      | nil => intro _; exact Int.le_refl 0
      | cons x xs ihx =>
        intro hx
        rw [List.sum_cons]
        have a := hx x List.mem_cons_self
        have b := ihx (fun w hw => hx w (List.mem_cons_of_mem _ hw))
        omega
    have r0 : 0 ≤ (fs.map fun f => f.1 * (L / f.2)).sum := rest _ (fun w hw => nn w (by unfold wts; rw [List.map_cons]; exact List.mem_cons_of_mem _ hw))
    obtain ⟨f, hf, hp⟩ := h2
    rcases List.mem_cons.mp hf with rfl | hf
    · have := Int.mul_pos hp (q f List.mem_cons_self)
      omega
    · have ih2 := ih (fun f hf => h1 f (List.mem_cons_of_mem _ hf)) ⟨f, hf, hp⟩ (fun f hf => q f (List.mem_cons_of_mem _ hf)) (fun w hw => nn w (by unfold wts at *; rw [List.map_cons]; exact List.mem_cons_of_mem _ hw))
      unfold wts at ih2
      omega
theorem wtsOf_len (fs : List (Int × Int)) : (wtsOf fs).length = fs.length := by unfold wtsOf wts; rw [List.length_map]
/-! ### whole shares -/
theorem lcm_whole : ∀ fs : List (Int × Int), (∀ f ∈ fs, f.2 = 1) → lcmF 1 fs = 1
  | [], _ => rfl
  | f :: fs, h => by
    unfold lcmF
    rw [h f List.mem_cons_self]
    show lcmF (1 / (Int.gcd 1 1 : Int) * 1) fs = 1
    rw [show (1 : Int) / (Int.gcd 1 1 : Int) * 1 = 1 by decide]
    exact lcm_whole fs (fun g hg => h g (List.mem_cons_of_mem _ hg))
theorem wtsOf_whole (ts : List Int) : wtsOf (ts.map fun t => (t, 1)) = ts := by
  unfold wtsOf
  rw [lcm_whole _ (fun f hf => by obtain ⟨t, _, rfl⟩ := List.mem_map.mp hf; rfl)]
  unfold wts
  rw [List.map_map]
  have e : ((fun f : Int × Int => f.1 * (1 / f.2)) ∘ fun t : Int => (t, (1 : Int))) = id := by
    funext t
    show t * (1 / 1) = t
    rw [show (1 : Int) / 1 = 1 by decide, Int.mul_one]
  rw [e, List.map_id]
theorem deal_self {T : Int} (hT : 0 < T) : ∀ (k : Int) (ws : List Int), deal T T k ws = ws
  | _, [] => rfl
  | k, w :: ws => by
    unfold deal
    have e : T * w % T = 0 := Int.mul_emod_right T w
    rw [if_neg (fun z => z.2 e), Int.mul_ediv_cancel_left w (by omega), deal_self hT k ws]
theorem dealt_self {ws : List Int} (hT : 0 < ws.sum) : dealt ws.sum ws = ws := deal_self hT _ _
theorem deal_more {a T t : Int} (hT : 0 < T) : ∀ (k : Int) (ws : List Int), deal (a + t * T) T k ws = List.zipWith (fun p w => p + t * w) (deal a T k ws) ws
  | _, [] => rfl
  | k, w :: ws => by
    have e : (a + t * T) * w = a * w + T * (t * w) := by
      rw [Int.add_mul]
      congr 1
      ac_rfl
    have e1 : (a + t * T) * w / T = a * w / T + t * w := by
      rw [e, Int.add_mul_ediv_left _ _ (by omega)]
    have e2 : (a + t * T) * w % T = a * w % T := by
      rw [e, Int.add_mul_emod_self_left]
    unfold deal
    rw [e1, e2]
    by_cases h : 0 < k ∧ a * w % T ≠ 0
    · rw [if_pos h, if_pos h, deal_more hT (k - 1) ws, List.zipWith_cons_cons]
      congr 1
      omega
    · rw [if_neg h, if_neg h, deal_more hT k ws, List.zipWith_cons_cons]
theorem bases_more {a T t : Int} (hT : 0 < T) : ∀ ws : List Int, (bases (a + t * T) T ws).sum = (bases a T ws).sum + t * ws.sum
  | [] => by
    show (0 : Int) = 0 + t * 0
    simp
  | w :: ws => by
    have ih := bases_more (a := a) (t := t) hT ws
    have e : (a + t * T) * w = a * w + T * (t * w) := by
      rw [Int.add_mul]
      congr 1
      ac_rfl
    have e1 : (a + t * T) * w / T = a * w / T + t * w := by
      rw [e, Int.add_mul_ediv_left _ _ (by omega)]
    unfold bases at *
    rw [List.map_cons, List.map_cons, List.sum_cons, List.sum_cons, List.sum_cons, ih, e1, Int.mul_add]
    omega
theorem dealt_more {a t : Int} {ws : List Int} (hT : 0 < ws.sum) : dealt (a + t * ws.sum) ws = List.zipWith (fun p w => p + t * w) (dealt a ws) ws := by
  unfold dealt
  rw [bases_more hT, deal_more hT]
  congr 2
  omega
/-! ### noughts between -/
def trues : Nat → List Bool → List Nat
  | _, [] => []
  | n, true :: r => n :: trues (n + 1) r
  | n, false :: r => trues (n + 1) r
theorem trues_append : ∀ (a b : List Bool) (n : Nat), trues n (a ++ b) = trues n a ++ trues (n + a.length) b
  | [], b, n => by simp [trues]
  | true :: a, b, n => by
    have := trues_append a b (n + 1)
    simp only [List.cons_append, trues, this, List.length_cons]
    rw [show n + 1 + a.length = n + (a.length + 1) by omega]
  | false :: a, b, n => by
    have := trues_append a b (n + 1)
    simp only [List.cons_append, trues, this, List.length_cons]
    rw [show n + 1 + a.length = n + (a.length + 1) by omega]
theorem trues_false : ∀ (z n : Nat), trues n (List.replicate z false) = []
  | 0, n => rfl
  | z + 1, n => by rw [List.replicate_succ]; exact trues_false z (n + 1)
theorem trues_mem : ∀ (m : List Bool) (n q : Nat), q ∈ trues n m ↔ n ≤ q ∧ m[q - n]? = some true
  | [], n, q => by simp [trues]
  | true :: m, n, q => by
    have ih := trues_mem m (n + 1) q
    simp only [trues, List.mem_cons, ih]
    constructor
    · rintro (rfl | ⟨h1, h2⟩)
      · simp
      · refine ⟨by omega, ?_⟩
        rw [show q - n = (q - (n + 1)) + 1 by omega]
        simpa using h2
    · rintro ⟨h1, h2⟩
      by_cases e : q = n
      · exact .inl e
      · right
        refine ⟨by omega, ?_⟩
        rw [show q - n = (q - (n + 1)) + 1 by omega] at h2
        simpa using h2
  | false :: m, n, q => by
    have ih := trues_mem m (n + 1) q
    simp only [trues, ih]
    constructor
    · rintro ⟨h1, h2⟩
      refine ⟨by omega, ?_⟩
      rw [show q - n = (q - (n + 1)) + 1 by omega]
      simpa using h2
    · rintro ⟨h1, h2⟩
      by_cases e : q = n
      · subst e
        simp at h2
      · refine ⟨by omega, ?_⟩
        rw [show q - n = (q - (n + 1)) + 1 by omega] at h2
        simpa using h2
theorem trues_lt {m : List Bool} {q : Nat} (h : q ∈ trues 0 m) : q < m.length := by
  have := ((trues_mem m 0 q).mp h).2
  rw [Nat.sub_zero] at this
  exact (List.getElem?_eq_some_iff.mp this).1
/-- what stands at the marked places -/
theorem trues_pick : ∀ (m : List (Bool × Int)) (pre : List Int), (trues pre.length (m.map (·.1))).map (fun p => (pre ++ m.map (·.2)).getD p 0) = (m.filter (·.1)).map (·.2)
  | [], pre => rfl
  | (true, v) :: m, pre => by
    have ih := trues_pick m (pre ++ [v])
    simp only [List.length_append, List.length_cons, List.length_nil, List.append_assoc, List.cons_append, List.nil_append] at ih
    simp only [List.map_cons, trues, List.filter_cons, if_true]
    rw [show pre.length + 1 = pre.length + (0 + 1) by omega, ih]
    congr 1
    simp [List.getD]
  | (false, v) :: m, pre => by
    have ih := trues_pick m (pre ++ [v])
    simp only [List.length_append, List.length_cons, List.length_nil, List.append_assoc, List.cons_append, List.nil_append] at ih
    simp only [List.map_cons, trues, List.filter_cons]
    rw [show pre.length + 1 = pre.length + (0 + 1) by omega, ih]
    simp
def Naught (m : List (Bool × Int)) : Prop := ∀ x ∈ m, x.1 = false → x.2 = 0
theorem sum_naught : ∀ m : List (Bool × Int), Naught m → (m.map (·.2)).sum = ((m.filter (·.1)).map (·.2)).sum
  | [], _ => rfl
  | (true, v) :: m, h => by
    have ih := sum_naught m (fun x hx => h x (List.mem_cons_of_mem _ hx))
    simp only [List.map_cons, List.sum_cons, List.filter_cons, if_true, ih]
  | (false, v) :: m, h => by
    have ih := sum_naught m (fun x hx => h x (List.mem_cons_of_mem _ hx))
    have e : v = 0 := h _ List.mem_cons_self rfl
    subst e
    simp only [List.map_cons, List.sum_cons, List.filter_cons, ih]
    simp
/-- the pennies with their marks -/
def marked (a T : Int) : Int → List (Bool × Int) → List (Bool × Int)
  | _, [] => []
  | k, (b, w) :: m => if 0 < k ∧ a * w % T ≠ 0 then (b, a * w / T + 1) :: marked a T (k - 1) m else (b, a * w / T) :: marked a T k m
theorem marked_snd (a T : Int) : ∀ (k : Int) (m : List (Bool × Int)), (marked a T k m).map (·.2) = deal a T k (m.map (·.2))
  | _, [] => rfl
  | k, (b, w) :: m => by
    unfold marked
    rw [List.map_cons]
    unfold deal
    split
    · rw [List.map_cons, marked_snd a T (k - 1) m]
    · rw [List.map_cons, marked_snd a T k m]
theorem marked_fst (a T : Int) : ∀ (k : Int) (m : List (Bool × Int)), (marked a T k m).map (·.1) = m.map (·.1)
  | _, [] => rfl
  | k, (b, w) :: m => by
    unfold marked
    rw [List.map_cons]
    split
    · rw [List.map_cons, marked_fst a T (k - 1) m]
    · rw [List.map_cons, marked_fst a T k m]
theorem marked_pick (a T : Int) : ∀ (k : Int) (m : List (Bool × Int)), Naught m → ((marked a T k m).filter (·.1)).map (·.2) = deal a T k ((m.filter (·.1)).map (·.2))
  | _, [], _ => rfl
  | k, (true, w) :: m, h => by
    have ih := fun k => marked_pick a T k m (fun x hx => h x (List.mem_cons_of_mem _ hx))
    unfold marked
    simp only [List.filter_cons, if_true, List.map_cons]
    unfold deal
    split
    · simp only [List.filter_cons, if_true, List.map_cons, ih]
    · simp only [List.filter_cons, if_true, List.map_cons, ih]
  | k, (false, w) :: m, h => by
    have ih := fun k => marked_pick a T k m (fun x hx => h x (List.mem_cons_of_mem _ hx))
    have e : w = 0 := h _ List.mem_cons_self rfl
    subst e
    unfold marked
    have e0 : a * 0 % T = 0 := by rw [Int.mul_zero, Int.zero_emod]
    rw [if_neg (fun z => z.2 e0)]
    simp [List.filter_cons, ih]
theorem marked_naught (a T : Int) : ∀ (k : Int) (m : List (Bool × Int)), Naught m → Naught (marked a T k m)
  | _, [], _ => fun x hx => by cases hx
  | k, (b, w) :: m, h => by
    have ih := fun k => marked_naught a T k m (fun x hx => h x (List.mem_cons_of_mem _ hx))
    have h0 := h _ List.mem_cons_self
    unfold marked
    split
    · rename_i hc
      intro x hx hf
      rcases List.mem_cons.mp hx with rfl | hx
      · have e : w = 0 := h0 hf
        subst e
        exact absurd (by rw [Int.mul_zero, Int.zero_emod]) hc.2
      · exact ih _ x hx hf
    · intro x hx hf
      rcases List.mem_cons.mp hx with rfl | hx
      · have e : w = 0 := h0 hf
        subst e
        show a * 0 / T = 0
        rw [Int.mul_zero, Int.zero_ediv]
      · exact ih _ x hx hf
theorem bases_naught (a T : Int) (m : List (Bool × Int)) (h : Naught m) : (bases a T (m.map (·.2))).sum = (bases a T ((m.filter (·.1)).map (·.2))).sum := by
  have e := sum_naught (m.map fun x => (x.1, a * x.2 / T)) (fun x hx hf => by
    obtain ⟨y, hy, rfl⟩ := List.mem_map.mp hx
    have : y.2 = 0 := h y hy hf
    show a * y.2 / T = 0
    rw [this, Int.mul_zero, Int.zero_ediv])
  unfold bases
  simp only [List.map_map, List.filter_map] at *
  exact e
/-- the pennies of a row with noughts between -/
theorem dealt_naught (a : Int) (m : List (Bool × Int)) (h : Naught m) : ∃ m' : List (Bool × Int), m'.map (·.2) = dealt a (m.map (·.2)) ∧ m'.map (·.1) = m.map (·.1) ∧ Naught m' ∧ (m'.filter (·.1)).map (·.2) = dealt a ((m.filter (·.1)).map (·.2)) := by
  refine ⟨marked a (m.map (·.2)).sum (a - (bases a (m.map (·.2)).sum (m.map (·.2))).sum) m, marked_snd .., marked_fst .., marked_naught _ _ _ _ h, ?_⟩
  rw [marked_pick _ _ _ _ h, bases_naught _ _ _ h, sum_naught m h]
  rfl
end WdM

set_option Elab.async false
set_option linter.all false
set_option maxRecDepth 100000
set_option maxHeartbeats 4000000
namespace Wd
open PySem PySem.Spec PyProof.Rows L2 WdM
/-! ### heaps: all but some addresses stand -/
def Bt (S : List Addr) (H H' : Hp) : Prop := ∀ b o, b ∉ S → H b = some o → H' b = some o
theorem Bt.refl {S : List Addr} (H : Hp) : Bt S H H := fun _ _ _ h => h
theorem Bt.trans {S : List Addr} {H H1 H2 : Hp} (a : Bt S H H1) (b : Bt S H1 H2) : Bt S H H2 := fun c o n h => b c o n (a c o n h)
theorem Bt.of_same {S : List Addr} {H H' : Hp} (e : Same H H') : Bt S H H' := fun b o _ h => e b o h
theorem Bt.same {H H' : Hp} (e : Bt [] H H') : Same H H' := fun b o h => e b o (by simp) h
theorem Bt.wide {S T : List Addr} {H H' : Hp} (h : ∀ a ∈ S, a ∈ T) (e : Bt S H H') : Bt T H H' := fun b o n q => e b o (fun z => n (h b z)) q
theorem Bt.new {S : List Addr} {H H1 : Hp} {p : Addr} {o : HO} (e : Bt S H H1) (h : H1 p = none) : Bt S H (upd H1 p o) := fun b x n q => by
  have q1 := e b x n q
  rw [upd_ne (ne_of_none q1 h)]
  exact q1
theorem Bt.upd0 {S : List Addr} {H H1 : Hp} {p : Addr} {o : HO} (e : Bt S H H1) (h : H p = none) : Bt S H (upd H1 p o) := fun b x n q => by
  rw [upd_ne (ne_of_none q h)]
  exact e b x n q
theorem Bt.upd1 {S : List Addr} {H H1 : Hp} {p : Addr} {o : HO} (e : Bt S H H1) (h : p ∈ S) : Bt S H (upd H1 p o) := fun b x n q => by
  rw [upd_ne (fun z => n (by rw [z]; exact h))]
  exact e b x n q
theorem Bt.none {S : List Addr} {H H' : Hp} (e : Bt S H H') {p : Addr} (hS : p ∉ S) (h : H' p = none) : H p = none := by
  cases q : H p with
  | none => rfl
  | some o => rw [e p o hS q] at h; cases h
/-! ### tuples stand where lists change -/
def Tk (H H' : Hp) : Prop := ∀ a xs, Rd H a (.tup xs) → Rd H' a (.tup xs)
theorem Tk.refl (H : Hp) : Tk H H := fun _ _ h => h
theorem Tk.trans {H H1 H2 : Hp} (a : Tk H H1) (b : Tk H1 H2) : Tk H H2 := fun c xs h => b c xs (a c xs h)
theorem Tk.sq {K : PySem.W.Frag} {H H' : Hp} {a : Addr} {xs : List V} (t : Tk H H') (h : SqT K H a xs) : SqT K H' a xs := by
  rcases h with h | h
  · exact .inl (t _ _ h)
  · exact .inr h
theorem Bt.tk {S : List Addr} {H H' : Hp} (e : Bt S H H') (h : ∀ l ∈ S, ∃ zs, H l = some (.lst zs)) : Tk H H' := fun a xs r => by
  rcases r with r | ⟨o, r⟩
  · refine .inl (e a _ (fun z => ?_) r)
    obtain ⟨zs, q⟩ := h a z
    rw [q] at r; cases r
  · refine .inr ⟨o, e a _ (fun z => ?_) r⟩
    obtain ⟨zs, q⟩ := h a z
    rw [q] at r; cases r
theorem tk_same {H H' : Hp} (e : Same H H') : Tk H H' := (Bt.of_same (S := []) e).tk (fun l h => by cases h)
theorem tk_new {H : Hp} {p : Addr} {o : HO} (h : H p = none) : Tk H (upd H p o) := tk_same ((Bt.refl (S := []) H).new h).same
theorem tk_lst {H : Hp} {p : Addr} {zs : List V} {o : HO} (h : H p = some (.lst zs)) : Tk H (upd H p o) := ((Bt.refl (S := [p]) H).upd1 (by simp)).tk (fun l hl => by
  rw [List.mem_singleton.mp hl]; exact ⟨zs, h⟩)
theorem sqT {K : PySem.W.Frag} {H : Hp} {a : Addr} {xs : List V} (h : H a = some (.tup xs)) : SqT K H a xs := .inl (.inl h)
theorem sqL {K : PySem.W.Frag} {H : Hp} {a : Addr} {xs : List V} (h : H a = some (.lst xs)) : SqL K H a xs := .inl (.inl h)
theorem same_new {H : Hp} {p : Addr} {o : HO} (h : H p = none) : Same H (upd H p o) := ((Bt.refl (S := []) H).new h).same
/-! ### fractions in the heap -/
def Fr (K : PySem.W.Frag) (H : Hp) (v : V) (f : Int × Int) : Prop := ∃ a, v = .ref a ∧ SqT K H a [.int f.1, .int f.2]
def FrAll (K : PySem.W.Frag) (H : Hp) (xs : List V) (fs : List (Int × Int)) : Prop := xs.length = fs.length ∧ ∀ (i : Nat) (x : V) (f : Int × Int), xs[i]? = some x → fs[i]? = some f → Fr K H x f
def Sh (K : PySem.W.Frag) (H : Hp) (v : V) (fs : List (Int × Int)) : Prop := ∃ a xs, v = .ref a ∧ SqT K H a xs ∧ FrAll K H xs fs
theorem Fr.tk {K : PySem.W.Frag} {H H' : Hp} {v : V} {f : Int × Int} (t : Tk H H') (h : Fr K H v f) : Fr K H' v f := by
  obtain ⟨a, e, s⟩ := h
  exact ⟨a, e, t.sq s⟩
theorem FrAll.tk {K : PySem.W.Frag} {H H' : Hp} {xs : List V} {fs : List (Int × Int)} (t : Tk H H') (h : FrAll K H xs fs) : FrAll K H' xs fs := ⟨h.1, fun i x f a b => (h.2 i x f a b).tk t⟩
theorem Sh.tk {K : PySem.W.Frag} {H H' : Hp} {v : V} {fs : List (Int × Int)} (t : Tk H H') (h : Sh K H v fs) : Sh K H' v fs := by
  obtain ⟨a, xs, e, s, q⟩ := h
  exact ⟨a, xs, e, t.sq s, q.tk t⟩
theorem FrAll.nil {K : PySem.W.Frag} {H : Hp} : FrAll K H [] [] := ⟨rfl, fun i x f a _ => by simp at a⟩
theorem FrAll.append {K : PySem.W.Frag} {H : Hp} {xs ys : List V} {fs gs : List (Int × Int)} (h : FrAll K H xs fs) (h' : FrAll K H ys gs) : FrAll K H (xs ++ ys) (fs ++ gs) := by
  refine ⟨by rw [List.length_append, List.length_append, h.1, h'.1], fun i x f a b => ?_⟩
  by_cases hi : i < xs.length
  · rw [List.getElem?_append_left hi] at a
    rw [List.getElem?_append_left (by rw [← h.1]; exact hi)] at b
    exact h.2 i x f a b
  · rw [List.getElem?_append_right (by omega)] at a
    rw [List.getElem?_append_right (by rw [← h.1]; omega)] at b
    exact h'.2 (i - xs.length) x f a (by rw [h.1]; exact b)
theorem FrAll.one {K : PySem.W.Frag} {H : Hp} {x : V} {f : Int × Int} (h : Fr K H x f) : FrAll K H [x] [f] := ⟨rfl, fun i y g a b => by
  cases i with
  | zero => cases a; cases b; exact h
  | succ i => simp at a⟩
theorem FrAll.snoc {K : PySem.W.Frag} {H : Hp} {xs : List V} {fs : List (Int × Int)} {x : V} {f : Int × Int} (h : FrAll K H xs fs) (h' : Fr K H x f) : FrAll K H (xs ++ [x]) (fs ++ [f]) := h.append (.one h')
theorem FrAll.reverse {K : PySem.W.Frag} {H : Hp} {xs : List V} {fs : List (Int × Int)} (h : FrAll K H xs fs) : FrAll K H xs.reverse fs.reverse := by
  refine ⟨by rw [List.length_reverse, List.length_reverse, h.1], fun i x f a b => ?_⟩
  have hi : i < xs.length := by
    have := (List.getElem?_eq_some_iff.mp a).1
    rwa [List.length_reverse] at this
  rw [List.getElem?_reverse hi] at a
  rw [List.getElem?_reverse (by rw [← h.1]; exact hi), ← h.1] at b
  exact h.2 _ x f a b
theorem FrAll.drop {K : PySem.W.Frag} {H : Hp} {xs : List V} {fs : List (Int × Int)} (n : Nat) (h : FrAll K H xs fs) : FrAll K H (xs.drop n) (fs.drop n) := by
  refine ⟨by rw [List.length_drop, List.length_drop, h.1], fun i x f a b => ?_⟩
  rw [List.getElem?_drop] at a b
  exact h.2 _ x f a b
theorem FrAll.get {K : PySem.W.Frag} {H : Hp} {xs : List V} {fs : List (Int × Int)} {i : Nat} {x : V} (h : FrAll K H xs fs) (e : xs[i]? = some x) : ∃ f p, fs[i]? = some f ∧ x = .ref p ∧ SqT K H p [.int f.1, .int f.2] := by
  have hi : i < fs.length := by
    rw [← h.1]
    exact (List.getElem?_eq_some_iff.mp e).1
  obtain ⟨p, rfl, s⟩ := h.2 i x _ e (List.getElem?_eq_getElem hi)
  exact ⟨_, p, List.getElem?_eq_getElem hi, rfl, s⟩
/-! ### ints of lists by place -/
theorem ints_get {ns : List Int} {i : Nat} {x : V} (h : (ns.map V.int)[i]? = some x) : ∃ n, ns[i]? = some n ∧ x = .int n := by
  rw [List.getElem?_map] at h
  cases e : ns[i]? with
  | none => rw [e] at h; cases h
  | some n => rw [e] at h; exact ⟨n, rfl, (Option.some.inj h).symm⟩
theorem take_more {α : Type} {l : List α} {i : Nat} {x : α} (h : l[i]? = some x) : l.take (i + 1) = l.take i ++ [x] := by
  rw [List.take_add_one, h]
  rfl
theorem lt_get {α : Type} {l : List α} {i : Nat} {x : α} (h : l[i]? = some x) : i < l.length := (List.getElem?_eq_some_iff.mp h).1
theorem small_line {n m : Nat} (h : n ≤ m) (hm : m ≤ 1000 := by decide) : n ≤ sizeLine := Nat.le_of_lt (small1000 (Nat.le_trans h hm))
/-! ### Euclid -/
theorem gcd_step {a b : Int} (ha : 0 ≤ a) (hb : 0 ≤ b) : Int.gcd b (a % b) = Int.gcd a b := by
  obtain ⟨m, rfl⟩ := Int.eq_ofNat_of_zero_le ha
  obtain ⟨n, rfl⟩ := Int.eq_ofNat_of_zero_le hb
  show Nat.gcd n (((m : Int) % (n : Int))).natAbs = Nat.gcd m n
  rw [← Int.natCast_emod, Int.natAbs_natCast, Nat.gcd_comm n, ← Nat.gcd_rec, Nat.gcd_comm]
theorem gcd_end {a : Int} (ha : 0 ≤ a) : (Int.gcd a 0 : Int) = a := by
  rw [Int.gcd_zero_right]
  omega
theorem canLay_ints : ∀ ns : List Int, PyData.canLayAll0 (ns.map .int) = true
  | [] => by simp [PyData.canLayAll0]
  | n :: ns => by
    rw [List.map_cons]
    unfold PyData.canLayAll0
    rw [canLay_ints ns]
    simp [PyData.canLay0]
theorem depth_ints : ∀ ns : List Int, PyData.depthAll (ns.map .int) = 0
  | [] => by simp [PyData.depthAll]
  | n :: ns => by
    rw [List.map_cons]
    unfold PyData.depthAll
    rw [depth_ints ns]
    simp [PyData.depth]
theorem eqv_ints : ∀ ns : List Int, PyData.eqvAll (ns.map .int) (ns.map .int) = true
  | [] => by simp [PyData.eqvAll]
  | n :: ns => by
    rw [List.map_cons]
    unfold PyData.eqvAll
    rw [eqv_ints ns]
    simp [PyData.eqv]
theorem shT (ns : List Int) : SeqAt.shaped (.tuple (ns.map .int)) = true := by
  unfold SeqAt.shaped PyData.canLay0 PyData.depth
  rw [canLay_ints, depth_ints]
  rfl
theorem shL (ns : List Int) : SeqAt.shaped (.list (ns.map .int)) = true := by
  unfold SeqAt.shaped PyData.canLay0 PyData.depth
  rw [canLay_ints, depth_ints]
  rfl
theorem eqvT (ns : List Int) : PyData.eqv (.tuple (ns.map .int)) (.tuple (ns.map .int)) = true := by
  unfold PyData.eqv
  exact eqv_ints ns
theorem eqvL (ns : List Int) : PyData.eqv (.list (ns.map .int)) (.list (ns.map .int)) = true := by
  unfold PyData.eqv
  exact eqv_ints ns
theorem dInts {K : PySem.W.Frag} {H : Hp} : ∀ ns : List Int, DpAll K H (ns.map V.int) (ns.map PyData.int)
  | [] => .nil
  | n :: ns => .cons (.int n) (dInts ns)
theorem dT {K : PySem.W.Frag} {H : Hp} {a : Addr} {ns : List Int} (h : SqT K H a (ns.map V.int)) : Dp K H (.ref a) (.tuple (ns.map .int)) := .tup h (dInts ns)
theorem dL {K : PySem.W.Frag} {H : Hp} {a : Addr} {ns : List Int} (h : SqL K H a (ns.map V.int)) : Dp K H (.ref a) (.list (ns.map .int)) := .lst h (dInts ns)
theorem tyT {K : PySem.W.Frag} {H : Hp} {a : Addr} {xs : List V} (h : SqT K H a xs) : TyX K H (.ref a) (.type "tuple") := by
  rcases h with (h | ⟨o, h⟩) | ⟨o, its, n, e, c, _⟩
  · exact .base (.tup h)
  · exact .fTuple h
  · exact .kTuple e c
/-! ### sizes -/
theorem lcm_snoc : ∀ (fs : List (Int × Int)) (b : Int) (f : Int × Int), lcmF b (fs ++ [f]) = lcmF b fs / (Int.gcd (lcmF b fs) f.2 : Int) * f.2
  | [], b, f => rfl
  | g :: fs, b, f => lcm_snoc fs _ f
theorem gcd_pos {a b : Int} (h : 0 < b) : (0 : Int) < (Int.gcd a b : Int) := by
  have : Int.gcd a b ≠ 0 := fun z => by
    have := (Int.gcd_eq_zero_iff.mp z).2
    omega
  omega
theorem gcd_le {a b : Int} (h : 0 < b) : (Int.gcd a b : Int) ≤ b := Int.le_of_dvd h (Int.gcd_dvd_right a b)
theorem lcm_bound : ∀ (fs : List (Int × Int)) (b : Int) (m : Nat), 0 < b → b.natAbs < 2 ^ m → (∀ f ∈ fs, 0 < f.2 ∧ f.2.natAbs < 2 ^ 64) → (lcmF b fs).natAbs < 2 ^ (m + 64 * fs.length)
  | [], b, m, _, h, _ => h
  | f :: fs, b, m, hb, h, hf => by
    have ⟨f1, f2⟩ := hf f List.mem_cons_self
    have g0 := gcd_pos (a := b) f1
    have s := step_lcm hb f1
    have q : (b / (Int.gcd b f.2 : Int) * f.2).natAbs < 2 ^ (m + 64) := wide_lt (wide_le (Int.ediv_nonneg (Int.le_of_lt hb) (Int.le_of_lt g0)) (Int.ediv_le_self _ (Int.le_of_lt hb)) h) f2
    have ih := lcm_bound fs _ _ s.1 q (fun g hg => hf g (List.mem_cons_of_mem _ hg))
    rw [List.length_cons, show m + 64 * (fs.length + 1) = m + 64 + 64 * fs.length by omega]
    exact ih
theorem pow_le {a b : Nat} (h : a ≤ b) : 2 ^ a ≤ 2 ^ b := Nat.pow_le_pow_right (by decide) h
/-- shares that can be parted by -/
structure Good (fs : List (Int × Int)) : Prop where
  len0 : 1 ≤ fs.length
  len1 : fs.length ≤ 64
  each : ∀ f ∈ fs, 0 ≤ f.1 ∧ 0 < f.2 ∧ f.1.natAbs < 2 ^ 64 ∧ f.2.natAbs < 2 ^ 64 ∧ Int.gcd f.1 f.2 = 1
  some : ∃ f ∈ fs, 0 < f.1
theorem Good.pos {fs : List (Int × Int)} (g : Good fs) : ∀ f ∈ fs, 0 < f.2 := fun f hf => (g.each f hf).2.1
theorem Good.lcm {fs : List (Int × Int)} (g : Good fs) : Lcm 1 (lcmF 1 fs) fs := lcm_is fs 1 (by decide) g.pos
theorem Good.sum {fs : List (Int × Int)} (g : Good fs) : 0 < (wtsOf fs).sum ∧ ∀ w ∈ wtsOf fs, 0 ≤ w := wtsOf_sum_pos (fun f hf => ⟨(g.each f hf).1, (g.each f hf).2.1⟩) g.some
theorem Good.lcmB {fs : List (Int × Int)} (g : Good fs) : (lcmF 1 fs).natAbs < 2 ^ 4097 :=
  Nat.lt_of_lt_of_le (lcm_bound fs 1 1 (by decide) (by decide) (fun f hf => ⟨(g.each f hf).2.1, (g.each f hf).2.2.2.1⟩)) (pow_le (by have := g.len1; omega))
theorem Good.quo {fs : List (Int × Int)} (g : Good fs) : ∀ f ∈ fs, 0 ≤ lcmF 1 fs / f.2 ∧ (lcmF 1 fs / f.2).natAbs < 2 ^ 4097 := fun f hf => by
  have h0 : 0 ≤ lcmF 1 fs / f.2 := Int.ediv_nonneg (Int.le_of_lt g.lcm.pos) (Int.le_of_lt (g.pos f hf))
  exact ⟨h0, wide_le h0 (Int.ediv_le_self _ (Int.le_of_lt g.lcm.pos)) g.lcmB⟩
theorem Good.wB {fs : List (Int × Int)} (g : Good fs) : ∀ w ∈ wtsOf fs, w.natAbs < 2 ^ 4161 := fun w hw => by
  unfold wtsOf wts at hw
  obtain ⟨f, hf, rfl⟩ := List.mem_map.mp hw
  exact wide_lt (a := 64) (b := 4097) (g.each f hf).2.2.1 (g.quo f hf).2
theorem sum_abs {B : Nat} : ∀ ws : List Int, (∀ w ∈ ws, w.natAbs < B) → ws.sum.natAbs ≤ ws.length * B
  | [], _ => by simp
  | w :: ws, h => by
    have ih := sum_abs ws (fun x hx => h x (List.mem_cons_of_mem _ hx))
    have h0 := h w List.mem_cons_self
    rw [List.sum_cons, List.length_cons, Nat.add_mul, Nat.one_mul]
    have := Int.natAbs_add_le w ws.sum
    omega
theorem Good.sumB {fs : List (Int × Int)} (g : Good fs) : (wtsOf fs).sum.natAbs < 2 ^ 4168 := by
  have h := sum_abs (wtsOf fs) g.wB
  rw [wtsOf_len] at h
  have h1 := g.len1
  have h2 : fs.length * 2 ^ 4161 ≤ 64 * 2 ^ 4161 := Nat.mul_le_mul_right _ h1
  have h3 : 64 * 2 ^ 4161 < 2 ^ 4168 := by
    rw [show (4168 : Nat) = 7 + 4161 by rfl, Nat.pow_add]
    exact Nat.mul_lt_mul_of_pos_right (by decide) (Nat.pow_pos (by decide))
  exact Nat.lt_of_le_of_lt h (Nat.lt_of_le_of_lt h2 h3)
/-! ### a def of the text -/
structure Df (K : PySem.W.Frag) (mg : Str → Option Value) (name : Str) (st : Stmt) (f : Addr) (fd : FuncData) (ps : List Str) : Prop where
  fn : Fun K name name st f fd
  mg : mg name = some (.ref f)
  bd : Binds K fd ps []
end Wd

set_option Elab.async false
set_option linter.all false
set_option maxRecDepth 100000
set_option maxHeartbeats 4000000
namespace Wd
open PySem PySem.Spec PyProof.Rows L2 WdM
/-! ### an exception that was caught and is kept: tracked from then on -/
def ExT (a : Addr) (cls : Value) (d : Option Addr) : HO := .ext fun h => ∃ oe vs, h.get? a = some oe ∧ Zc cls d oe ∧ oe.data = .fields vs
theorem exT_ok {P : Program} {w : World} {H : Hp} {h : Heap} {a : Addr} {cls : Value} {d : Option Addr} {oe : Obj} {vs : Array Value} (g : h.get? a = some oe) (z : Zc cls d oe) (f : oe.data = .fields vs) : ObjOk P w H h a (ExT a cls d) :=
  ⟨⟨oe, vs, g, z, f⟩, ⟨oe, g⟩, fun _ _ ⟨oe, vs, e, r⟩ k => ⟨oe, vs, k _ e, r⟩⟩
theorem exT_at {P : Program} {w : World} {H : Hp} {h : Heap} {a : Addr} {cls : Value} {d : Option Addr} (ok : HOk P w H h) (e : H a = some (ExT a cls d)) : ∃ oe vs, h.get? a = some oe ∧ Zc cls d oe ∧ oe.data = .fields vs := by
  have x : ObjOk P w H h a (.ext fun h => ∃ oe vs, h.get? a = some oe ∧ Zc cls d oe ∧ oe.data = .fields vs) := ok a _ e
  exact x.1
section
variable {X : Cx} {pins : List (Addr × Obj)} {σ : L2.St} {H : Hp} {s : Shared}
theorem track {a : Addr} {oe : Obj} {vs : Array Value} {cls : Value} {d : Option Addr} (I : Inv X ((a, oe) :: pins) σ H s) (hx : X.ex = []) (n0 : X.s_0.heap.get? a = none) (np : ∀ p ∈ X.pn ++ pins, p.1 ≠ a) (z : Zc cls d oe) (f : oe.data = .fields vs) :
    Inv X pins σ (upd H a (ExT a cls d)) s := by
  obtain ⟨ga, na, nl, nf, nc⟩ := I.pin (a, oe) (List.mem_append_right _ List.mem_cons_self)
  have far : ∀ {b : Addr} {u : HO}, H b = some u → b ≠ a := fun {b u} e z => by rw [z, na] at e; cases e
  refine { ok := I.ok, os := I.os, bare := I.bare, loc := I.loc, cell := I.cell, len := I.len, base := ?_, free := ?_, freeC := ?_, pin := ?_, hok := ?_ }
  · exact { keep := I.base.keep, slot := I.base.slot, there := I.base.there,
            free := fun b o e n k => by
              rw [upd_ne (fun z => by rw [z, n0] at e; cases e)]
              exact I.base.free b o e n k
            tups := fun b xs e => by
              have q := I.base.tups b xs e
              rw [upd_ne (far q)]
              exact q
            frzs := fun b o u e => by
              have q := I.base.frzs b o u e
              rw [upd_ne (far q)]
              exact q
            tbls := fun b ps e => by
              obtain ⟨m, q⟩ := I.base.tbls b ps e
              exact ⟨m, by rw [upd_ne (far q)]; exact q⟩ }
  · rw [upd_ne (Ne.symm nl)]
    exact I.free
  · intro x c e
    rw [upd_ne (fun z => by
      obtain ⟨v, o, go, eo⟩ := I.cell x c e
      rw [z, ga] at go
      cases go
      exact nc _ eo)]
    exact I.freeC x c e
  · intro p hp
    obtain ⟨e1, e2, e3⟩ := I.pin p (by
      rcases List.mem_append.mp hp with h | h
      · exact List.mem_append_left _ h
      · exact List.mem_append_right _ (List.mem_cons_of_mem _ h))
    exact ⟨e1, by rw [upd_ne (np p hp)]; exact e2, e3⟩
  · intro b u e
    by_cases hb : b = a
    · subst hb
      rw [upd_same] at e
      cases e
      exact exT_ok ga z f
    · rw [upd_ne hb] at e
      exact (I.hok b u e).stay (fun _ _ _ q => q) (fun c q => by rw [upd_ne (far q)]; exact q) fun c xs q => by rw [upd_ne (far q)]; exact q
end
/-- what «except x as n» wishes, where what was caught is looked at behind the suite: all that is raised is of x, and the suite runs to its end -/
def wGot (K : PySem.W.Frag) (c : Value) (i : Nat) (ts : Addr → Value → Option Addr → TS) (D : Ends) : WX := fun cls d σ H =>
  PySem.W.exmOne K cls c = some true ∧ ∀ a, H a = none → ts a cls d { nx := fun σ' H' => D.nx (σ'.set i none) (upd H' a (ExT a cls d)), rt := fun _ _ => False, bk := fun _ _ => False, ct := fun _ _ => False } (σ.set i (some (.ref a))) H
section
variable {X : Cx} {x n : Str} {c : Value} {i : Nat} {body suite : List Stmt} {b0 : Stmt} {np pos pos' : Pos} {tb : WX → TS} {ts : Addr → Value → Option Addr → TS}
theorem ps_try_got (top : X.stack = X.env :: X.outer) (fr : X.env.frame = some X.env.locals) (hex : X.ex = []) (nd : X.N.Nodup) (hi : X.N[i]? = some n) (loc : X.env.kindOf n = some .local) (hc : Names X x c)
    (runs : ∀ (W : WX) (pn : List (Addr × Obj)) (xe : Value → Shared → Prop), Takes (X.tr pn xe) W → PassesOwn (model X.prog X.w) X.A X.env xe → PSs (X.tr pn xe) body (tb W))
    (hsu : ∀ (a : Addr) (oe : Obj) (cls : Value) (d : Option Addr) (pn : List (Addr × Obj)), Zc cls d oe → (∃ vs, oe.data = .fields vs) → PSs (X.suite a ((a, oe) :: pn)) (b0 :: suite) (ts a cls d)) :
    PS X (.Try body [.ExceptHandler (some (.Name x np)) (some n) (b0 :: suite) pos'] [] [] pos) (fun D σ H => tb (wGot X.K c i ts D) D σ H) where
  run := by
    intro pins s σ H D I h
    have ok := I.ok
    have frames : X.A.frames = some (X.env :: X.outer) := by rw [ok.frames, top]
    refine wpAny_Try_except (wpAny_mono ((runs (wGot X.K c i ts D) (X.pn ++ pins) (fun e s₁ => wpAny (model X.prog X.w) X.A (noteFrame e X.env) (fun _ s₂ => wpAny (model X.prog X.w) X.A (setFlight e none) (fun _ s₃ =>
      wpAny (model X.prog X.w) X.A (handleBy e X.env [.ExceptHandler (some (.Name x np)) (some n) (b0 :: suite) pos']) (SP X pins D) X.xe s₃) X.xe s₂) X.xe s₁) ?_ PassesOwn.looking).run [] s σ H D (I.toTry _) h) ?_ (fun e s1 he => he))
    · rintro _ s' ⟨a, B, sI, pins', σ', H', cls, d, rfl, J0, nb, up, sky, na, os, ag, is, go⟩
      have J : Inv X pins σ' H' sI := J0.ofTry ok
      show wpAny (model X.prog X.w) X.A (noteFrame (Value.ref a) X.env) _ _ _
      refine Sky.land Zc.steady frames fr (top ▸ sky) fun h3 fl3 up3 => ?_
      have J3 : Inv X pins σ' H' { s' with heap := h3 } := Inv.landed J nb fl3.1 (up.trans up3) os ag
      obtain ⟨oe3, vs3, g3, z3, d3⟩ := fl3.there
      have gone : B.get? a = none := fl3.2.1
      have out : a ∉ frs (X.env :: X.outer) := fun m => by
        obtain ⟨_, o, e, no⟩ := fl3.2.2.1.mem m
        rw [g3] at e
        cases e
        exact no _ d3
      have nL : a ≠ X.env.locals := fun z => out (List.mem_filterMap.mpr ⟨X.env, List.mem_cons_self, by rw [fr, z]⟩)
      have nF : a ∉ X.fs := fun m => by
        obtain ⟨e, he, q⟩ := List.mem_filterMap.mp m
        exact out (List.mem_filterMap.mpr ⟨e, List.mem_cons_of_mem _ he, q⟩)
      have fresh : ∀ b o, sI.heap.get? b = some o → b ∉ frs X.stack → b ≠ a := fun b o e m z => by
        have q := nb b o e m
        rw [z, gone] at q
        cases q
      have n0 : X.s_0.heap.get? a = Option.none := by
        cases e : Heap.get? X.s_0.heap a with
        | none => rfl
        | some o =>
          obtain ⟨o', e'⟩ := J.base.there a o e (by rw [hex]; exact fun z => nomatch z)
          exact absurd rfl (fresh a o' e' (by rw [top]; exact out))
      have npin : ∀ p ∈ X.pn ++ pins, p.1 ≠ a := fun p hp => by
        obtain ⟨e1, _, e3, e4, _⟩ := J.pin p hp
        refine fresh p.1 p.2 e1 (fun m => ?_)
        rw [top] at m
        obtain ⟨e, he, q⟩ := List.mem_filterMap.mp m
        rcases List.mem_cons.mp he with rfl | he
        · rw [fr] at q
          exact e3 (Option.some.inj q).symm
        · exact e4 (List.mem_filterMap.mpr ⟨e, he, q⟩)
      have S3 := J3.suite g3 d3 na nL nF
      refine wpAny_handleBy_cons (codeAny_handlers_test ?_) (fun z => by cases z)
      have isCls : PySem.W.Looks (model X.prog X.w) h3 (typeOf (.ref a)) cls := fun A Q E s k q => wpAny_typeOf_ref (k _ _ g3) (by rw [z3.1]; exact q)
      have matches_ := PySem.W.exm_one (M := model X.prog X.w) J3.kIn isCls is
      have named : ∀ {Q : Value → Shared → Prop} {E : Value → Shared → Prop}, Q c { s' with heap := h3 } → wpAny (model X.prog X.w) (X.A.mark (some (.ref a))) (eval (.Name x np) X.env) Q E { s' with heap := h3 } := fun {Q E} q => by
        rcases hc with ⟨gl, nb2, own | ⟨no, blt, nn⟩⟩
        · exact ld_glob (X := X.suite a ((a, oe3) :: (X.pn ++ pins))) S3 gl own q nb2
        · exact ld_blt (X := X.suite a ((a, oe3) :: (X.pn ++ pins))) S3 gl no blt q nn nb2
      refine named (matches_.here (codeAny_handlers_suite_as (HandSPX.lands_againZ fl3 fun h4 fl4 up4 => ?_)))
      have J4 : Inv X pins σ' H' { s' with heap := h4 } := Inv.landed J nb fl4.1 ((up.trans up3).trans up4) os ag
      obtain ⟨oe4, vs4, g4, z4, d4⟩ := fl4.there
      refine store_ok (X := X.suite a ((a, oe4) :: (X.pn ++ pins))) (v := .ref a) (J4.suite g4 d4 na nL nF) nd hi (.inl loc) rfl (fun s5 S5 => ?_) (.inr loc)
      refine wpAny_mono ((hsu a oe4 cls d (X.pn ++ pins) z4 ⟨_, d4⟩).run [] s5 _ H' _ S5 (go a na)) (fun f s6 ends => ?_) (fun _ _ z => False.elim z)
      cases f with
      | next =>
        obtain ⟨σ6, H6, S6, q6⟩ := ends
        have K6 : Inv X ((a, oe4) :: pins) σ6 H6 s6 := { ok := ok, os := S6.os, bare := S6.bare, base := S6.base, loc := S6.loc, cell := S6.cell, free := S6.free, freeC := S6.freeC, hok := S6.hok, len := S6.len, pin := fun p hp => S6.pin p (by
          rw [List.append_nil]
          rcases List.mem_append.mp hp with h | h
          · exact List.mem_cons_of_mem _ (List.mem_append_left _ h)
          · rcases List.mem_cons.mp h with rfl | h
            · exact List.mem_cons_self
            · exact List.mem_cons_of_mem _ (List.mem_append_right _ h)) }
        exact gone_ok K6 nd hi loc fun s7 K7 => ⟨_, _, track K7 hex n0 npin z4 d4, q6⟩
      | brk => exact ends.elim fun _ e => e.elim fun _ e => e.2.elim
      | cont => exact ends.elim fun _ e => e.elim fun _ e => e.2.elim
      | ret u => exact ends.elim fun _ e => e.elim fun _ e => e.elim fun _ e => e.2.2.elim
    · intro f s1 ends
      cases f with
      | next => exact ends.elim fun σ' e => e.elim fun H' e => wpAny_execs_nil ⟨σ', H', e.1.ofTry ok, e.2⟩
      | brk => exact ends.elim fun σ' e => e.elim fun H' e => ⟨σ', H', e.1.ofTry ok, e.2⟩
      | cont => exact ends.elim fun σ' e => e.elim fun H' e => ⟨σ', H', e.1.ofTry ok, e.2⟩
      | ret u => exact ends.elim fun v e => e.elim fun σ' e => e.elim fun H' e => ⟨v, σ', H', e.1.ofTry ok, e.2⟩
end
/-! ### what is asked of a kept error -/
/-- isinstance(e, c) -/
def rIsT (K : PySem.W.Frag) : List V → Hp → VK → Prop := fun xs H Q => ∃ (a D : Addr) (d : Option Addr) (c : V) (cv : Value) (b : Bool), xs = [.ref a, c] ∧ H a = some (ExT a (.ref D) d) ∧ (∀ dx, d = some dx → ∃ fs, H dx = some (.xd fs)) ∧ ExcC K D ∧ ClsV c cv ∧ PySem.W.kitOne K (.ref D) cv = some b ∧ Q (.bl b) H
theorem instT {P : Program} {w : World} {H : Hp} {h : Heap} {a D : Addr} {d : Option Addr} (ok : HOk P w H h) (e : H a = some (ExT a (.ref D) d)) (xd : ∀ dx, d = some dx → ∃ fs, H dx = some (.xd fs)) : ∃ oe od, PySem.W.InstAt h a oe D od := by
  obtain ⟨oe, vs, g, ⟨z1, z2⟩, f⟩ := exT_at ok e
  cases d with
  | none => exact ⟨oe, none, g, z1, by unfold PySem.W.notCls; rw [f], by rw [z2]; trivial⟩
  | some dx =>
    obtain ⟨fs, ed⟩ := xd dx rfl
    have at_ : ObjOk P w H h dx (.xd fs) := ok dx _ ed
    obtain ⟨m, ns, _⟩ := at_
    obtain ⟨od, ho, _⟩ := lookIn_ns ns
    exact ⟨oe, some od, g, z1, by unfold PySem.W.notCls; rw [f], by rw [z2]; exact ho⟩
theorem call_isT {X : Cx} : CallR X (.builtin "isinstance") (rIsT X.K) := by
  rintro pins s σ H _ us Q I rel ⟨a, D, d, c, cv, b, rfl, e, xd, C, cls, ans, want⟩
  obtain ⟨u1, u2, rfl, r1, r2⟩ := vals2 rel
  cases r1
  obtain rfl := cls.eq r2
  obtain ⟨oe, od, J⟩ := instT I.hok e xd
  have some_ : (PySem.W.clsIn X.K D).isSome = true := by
    obtain ⟨cd, hc, _⟩ := PySem.W.any_some C.hd
    rw [hc]
    rfl
  exact PySem.W.kia_one (PySem.W.kitx_exc some_ C.hg C.hk C.hs C.ha C.hn C.ht C.hm) I.kIn J ans (fun z => nomatch z) fun tk => ⟨.bl b, H, I.tok tk, rfl, want⟩
/-- e.n -/
def tXt (K : PySem.W.Frag) (n : Str) (te : TE) : TE := fun σ H Q => te σ H fun x H1 => ∃ (a C dd : Addr) (fs : List (Str × V)) (v : V), x = .ref a ∧ H1 a = some (ExT a (.ref C) (some dd)) ∧ XfC K C ∧ PySem.W.findIn K (.ref C) n = some none ∧ H1 dd = some (.xd fs) ∧ fs.lookup n = some v ∧ Q v H1
theorem pe_xt {X : Cx} {e : Expr} {te : TE} {pos : Pos} {n : Str} (he : PE X e te) (plain : attributeBase e n X.env (eval e X.env) = eval e X.env := by rfl) : PE X (.Attribute e n pos) (tXt X.K n te) where
  run := by
    intro pins s σ H Q I h
    refine attr_of plain (thn (he.run pins s σ H _ I h) ?_)
    rintro _ s1 ⟨_, H1, I1, rel, a, C, dd, fs, v, rfl, e1, T, no, e2, has, want⟩
    cases rel
    obtain ⟨oe, vs, g, ⟨z1, z2⟩, f⟩ := exT_at I1.hok e1
    have at_ : ObjOk X.prog X.w H1 s1.heap dd (.xd fs) := I1.hok dd _ e2
    obtain ⟨m, ns, rels⟩ := at_
    obtain ⟨od, ho, hl⟩ := lookIn_ns ns
    obtain ⟨u, hu, ru⟩ := RelO.some_of (v := v) (o := m n) (has ▸ rels n)
    have J : PySem.W.InstAt s1.heap a oe C (some od) := ⟨g, z1, by unfold PySem.W.notCls; rw [f], by rw [z2]; exact ho⟩
    exact HandSPX.exc_get I1.kIn J T.ga T.gg T.exC (PySem.W.findObj_own T.hdC no rfl (by rw [hl, hu])) (handed_of ru) ⟨v, H1, I1.tok _, ru, want⟩
/-- X(), an own error without an __init__ of its own -/
theorem pmk_own0 {X : Cx} {C : Addr} {bmB : List Value} {B newId initId : String} {x : Str} {p pos : Pos} (F : ExcBaseFacts B newId initId bmB) (q : PySem.W.excIn X.K C bmB newId = true) (is : X.mg x = some (.ref C)) (kp : PySem.W.keepIn X.K (.ref C) = true) (r : Raises X (.ref C)) (glob : Gl X x)
    (nodebug : (x == ("__debug__" : Str)) = false := by decide) : PMk X (.Call (.Name x p) [] [] pos) (fun _ H Q => Q (.ref C) none H) := by
  intro pins s σ H Q I want
  refine wpAny_Call_Name_kw (ld_glob I glob is ?_ nodebug)
  refine PySem.W.callWith_KW0 (kws := []) (h₀ := X.base) I.ok.mod.kin kp rfl (wpAny_pure ⟨I.kIn, ?_⟩) rfl
  obtain ⟨bm, N, nm, qn, bs, hdct, sn, sub, ab, col, dd, k0, k1, k2, k3, k5, mN, hC, hN, hni, T⟩ := exc_obj I.kIn q
  exact wpAny_call_exc_subT F T hC hN hni (fun h' e made => mk_of I made r want (I.hok.gone made.new)) (Nat.zero_le _)
/-! ### how often a flat value stands in a list -/
def rCnt (K : PySem.W.Frag) : V → List V → Hp → VK → Prop := fun x xs H Q => ∃ p ys y, x = .ref p ∧ xs = [y] ∧ SqL K H p ys ∧ flatV y = true ∧ ys.all flatV = true ∧ Q (.int (ys.countP (fun z => eqV z y) : Nat)) H
theorem count_eqU {y : V} : ∀ {ys : List V} {us : List Value}, Vals ys us → ys.all flatV = true → us.countP (eqU y) = ys.countP fun z => eqV z y
  | _, _, .nil, _ => rfl
  | z :: ys, u :: us, .cons r t, f => by
    simp only [List.all_cons, Bool.and_eq_true] at f
    simp only [List.countP_cons, eqU_of r f.1, count_eqU t f.2]
theorem mt_cnt {X : Cx} : MtR X "list.count" (rCnt X.K) := by
  rintro pins s σ H _ _ v us Q I rx rxs ⟨p, ys, y, rfl, rfl, hs, fy, fys, want⟩
  cases rx
  obtain ⟨u, rfl, ru⟩ := rxs.one
  obtain ⟨its, vals, ⟨⟨cls, dd, data, sl⟩, n, ho, hc, hdn, hd⟩, small⟩ := I.list hs
  dsimp only at hc hd
  subst hc hd
  refine call_meets PySem.F.slot_list_count ⟨_, ho, rfl⟩ PySem.F.entry_list_count (PySem.F.args_list_count_2 _ _) (SeqAt.list_countAt p its.toArray n dd sl u (eqU y)) ⟨ho, fun z hz => mem_eqAt ru fy vals fys z (by simpa using hz), ?_⟩
  refine ⟨.int (ys.countP (fun z => eqV z y) : Nat), H, I.tok _, ⟨s.toks, ?_⟩, want⟩
  rw [← count_eqU vals fys]
/-! ### repr of data -/
inductive Seen (K : PySem.W.Frag) (H : Hp) : V → PyData → Prop
  | dp {x : V} {d : PyData} (h : Dp K H x d) (nd : d.hasDict = false) : Seen K H x d
  | nod {a : Addr} (h : H a = some (.dK [])) : Seen K H (.ref a) (.dict [])
def rRepr (K : PySem.W.Frag) : List V → Hp → VK → Prop := fun xs H Q => ∃ x d, xs = [x] ∧ Seen K H x d ∧ PyData.showable d = true ∧ d.depth ≤ 8 ∧ d.shown.length ≤ sizeLine ∧ Q (.str d.shown) H
theorem reads_nod {P : Program} {w : World} {H : Hp} {h : Heap} {a : Addr} (ok : HOk P w H h) (e : H a = some (.dK [])) : Reads h (.ref a) (.dict []) [a] ∧ sysModules ∉ [a] := by
  have at_ : ObjOk P w H h a (.dK []) := ok a _ e
  obtain ⟨_, ns, vs, kv, o, es, ep, g, ex, d, _, el, _⟩ := at_
  cases kv
  have z : es.toList = [] := List.eq_nil_of_length_eq_zero el.length
  have r0 : ReadsAll h (es.toList.map (·.key)) (([] : List (PyData × PyData)).map (·.1)) [] := by rw [z]; exact .nil
  have r1 : ReadsAll h (es.toList.map (·.val)) (([] : List (PyData × PyData)).map (·.2)) [] := by rw [z]; exact .nil
  exact ⟨.dict g ex.1 d r0 r1, fun m => by rw [List.mem_singleton.mp m] at ns; simp at ns⟩
theorem call_reprD {X : Cx} (gs : X.A.guards = some []) (hu : X.A.units + 64 < cLine) : CallR X (.builtin "repr") (rRepr X.K) := by
  rintro pins s σ H _ us Q I rel ⟨x, d, rfl, seen, sh, dep, len, want⟩
  cases rel with
  | cons ru rn =>
    cases rn
    rename_i u
    have boxed : ∀ (a : Addr) (as : List Addr), Reads s.heap (.ref a) d as → (d.hasDict = true → sysModules ∉ as) → wpAny (model X.prog X.w) X.A (call (.builtin "repr") [.ref a]) (EP X pins σ Q) X.xe s := fun a as r sm =>
      repr_of_reads' r sh sm gs (by omega) (fun _ _ e => e) (fun h' _ tk same => ⟨.str d.shown, H, I.kept (t' := tk) same, ⟨_, rfl⟩, want⟩) len
    cases seen with
    | nod h =>
      cases ru
      obtain ⟨r, n⟩ := reads_nod I.hok h
      exact boxed _ _ r fun _ => n
    | dp h nd =>
      obtain ⟨as, r⟩ := Dp.reads I d _ u h ru
      have no : d.hasDict = true → sysModules ∉ as := fun z => by rw [nd] at z; cases z
      have fin : ∀ {z : Str} {t k : Tok}, z = d.shown → EP X pins σ Q (.str z t) { s with toks := k } := fun {z t k} e => ⟨.str z, H, I.tok k, ⟨_, rfl⟩, e ▸ want⟩
      cases h with
      | non => cases ru; exact PySem.P.repr_of_none (fin (by simp [PyData.shown]))
      | bl b => cases ru; exact PySem.P.repr_of_bool (fin (by simp [PyData.shown]))
      | int i =>
        obtain ⟨t, rfl⟩ := ru
        exact PySem.P.repr_of_int (by simpa [PyData.showable] using sh) (fin (by simp [PyData.shown]))
      | str z =>
        obtain ⟨t, rfl⟩ := ru
        exact PySem.P.repr_of_str (fin (by simp [PyData.shown])) (by simpa [PyData.shown] using len)
      | lst _ _ => cases ru; exact boxed _ _ r no
      | tup _ _ => cases ru; exact boxed _ _ r no
end Wd

set_option Elab.async false
set_option linter.all false
set_option maxRecDepth 100000
set_option maxHeartbeats 4000000
namespace Wd
open PySem PySem.Spec PyProof.Rows L2 WdM
/-! ### defs whose promise wants that no repr is under way around the call -/
structure FnG (P : Program) (w : World) (K : PySem.W.Frag) (mg : Str → Option Value) (base : Heap) (k : Nat) (f : Addr) (fd : FuncData) (ps : List Str) (sp : Sp) : Prop where
  len : ∀ vs H Q E, sp vs H Q E → vs.length = ps.length
  run : ∀ (A : Around) (outer : List Env) (s : Shared) (H : Hp) (args : Args) (us : List Value) (vs : List V) (Q : VK) (E : XK), A.guards = some [] → Room k A → Env0 P w K mg base A outer s H → BindsTo s fd args (ps.zip us) → Vals vs us → sp vs H Q E →
    codeAny (model P w) A (.call (.ref f) args) (CR CX0 outer P w H s Q E) s
section
variable {P : Program} {w : World} {K : PySem.W.Frag} {mg : Str → Option Value} {base : Heap}
theorem okG {x qual : Str} {st : Stmt} {f : Addr} {fd : FuncData} {N ps : List Str} {k : Nat} {sp : Sp} (F : Fun K x qual st f fd) (S : FnScope N ps (defScope st)) (len : ∀ vs H Q E, sp vs H Q E → vs.length = ps.length)
    (body : ∀ (cdv : Value) (A : Around) (outer : List Env) (s : Shared) (H : Hp) (vs : List V) (Q : VK) (E : XK), A.guards = some [] → Room k (A.deeper (envOfC qual (defScope st) s.heap.objs.size f cdv)) → sp vs H Q E →
      ∃ t, PSs (cxOf CX0 P w K mg base N qual (defScope st) f cdv A outer s H E).nox (defBody st) t ∧ t { nx := fun _ H' => Q .non H', rt := Q } (start N vs) H) : FnG P w K mg base (k + 1) f fd ps sp where
  len := len
  run := by
    intro A outer s H args us vs Q E gs room e0 binds rel want
    obtain ⟨oc, od, kV, doc, pm, an, cdv, ct, osl, rfl, at_, code⟩ := F.ex
    have kin : K.In s.heap := e0.mod.kin.keeps fun b o e => (e0.bs b o e).1
    have kinds : ∀ y ∈ ps.zip us, (defScope st).names.lookup y.1 = some .local ∨ ((defScope st).names.lookup y.1 = some .cell ∧ ((cellsFrom (s.heap.objs.size + 1) (defScope st).names []).lookup y.1).isSome = true) := by
      rintro ⟨n, v⟩ hy
      exact (S.par n (List.of_mem_zip hy).1).imp id fun q => ⟨q, PySem.W.cellsFrom_some _ _ _ (.inl q)⟩
    refine codeAny_call_function room.depth (kin _ _ at_) rfl S.co S.gen rfl (PySem.W.codeRec_of kin code) (binds _ _ _ _ (wpAny_newFunctionEnv_cells S.kind kinds ?_))
    rintro env rfl s1 inside
    refine ⟨(e0.mod.nolimit.keeps fun b o e => (e0.bs b o e).1).keeps inside.toInCall.keep, codeAny_func ?_⟩
    obtain ⟨t, ht, good⟩ := body cdv A outer s H vs Q E gs (room.deeper _) want
    refine wpAny_mono (ht.nox.run [] s1 (start N vs) H _ (inv_start S room.hd e0 (len _ _ _ _ want) rel inside) good) (fun fl s' ends => ?_) fun _ _ z => z
    cases fl with
    | ret u => exact ends.elim fun v e => e.elim fun σ' e => e.elim fun H' ⟨J, rv, q⟩ => ⟨v, H', J.os, J.bare, J.base, J.hok, rv, q⟩
    | next => exact ends.elim fun σ' e => e.elim fun H' ⟨J, q⟩ => ⟨.non, H', J.os, J.bare, J.base, J.hok, rfl, q⟩
    | brk => exact ends.elim fun _ e => e.elim fun _ e => e.2.elim
    | cont => exact ends.elim fun _ e => e.elim fun _ e => e.2.elim
end
section
variable {X : Cx} {k : Nat} {f : Addr} {fd : FuncData} {ps : List Str} {sp : Sp} {x : Str} {p pos : Pos} {e : Expr} {es : List Expr} {t : TA}
theorem pe_callG (F : FnG X.prog X.w X.K X.mg X.base k f fd ps sp) (gs : X.A.guards = some []) (room : Room k X.A) (glob : Gl X x) (is : X.mg x = some (.ref f)) (kp : PySem.W.keepIn X.K (.ref f) = true) (bd : Binds X.K fd ps []) (args : PA X (e :: es) t)
    (nodebug : (x == ("__debug__" : Str)) = false := by decide) (star : starEach (e :: es) X.env = (false, eval e X.env) :: starEach es X.env := by rfl) (plain : (backTo pos (starEach es X.env)).any (·.1) = false := by rfl) :
    PE X (.Call (.Name x p) (e :: es) [] pos) (tCall sp [] E0 t) where
  run := by
    intro pins s σ H Q I h
    refine wpAny_Call_Name_kw (ld_glob I glob is (PySem.W.callWith_K (h₀ := X.base) I.ok.mod.kin kp (thn (args.run pos pins s σ H _ I h) ?_) star plain) nodebug)
    rintro us s1 ⟨vs, H1, I1, rel, want⟩
    have rel2 : Vals (vs ++ []) (us ++ []) := rel.append .nil
    refine ⟨I1.kIn, wpAny_call (codeAny_mono (F.run X.A X.stack s1 H1 ⟨us, []⟩ (us ++ []) (vs ++ []) Q E0 gs room I1.env0 (bd s1 us I1.kIn (by rw [← rel2.length]; exact F.len _ _ _ _ want)) rel2 want) fun r s' res => ?_)⟩
    cases r with
    | error er => exact False.elim res
    | ok fl =>
      cases fl with
      | ret u => exact I1.after res
      | next => exact False.elim res
      | brk => exact False.elim res
      | cont => exact False.elim res
end
/-! ### the law's own call -/
theorem law_callG {P : Program} {w : World} {K : PySem.W.Frag} {mg mb : Str → Option Value} {k : Nat} {fa a : Addr} {fd : FuncData} {x : Str} {sp : Sp} {s1 : Shared} {vs : List Value} {ns : List Int}
    (kin : K.In s1.heap) (globs : s1.heap.Ns mainGlobals mg) (blts : s1.heap.Ns builtinsNs mb) (boot : ∀ x : Str, x ≠ "__name__" → mb x = bootBuiltins x) (lim : s1.heap.NoLimit) (nogens : s1.gens = #[])
    (at_ : s1.heap.get? a = some { cls := .type "list", data := .seq vs.toArray }) (its : IntsAre vs ns) (small : ns.length ≤ sizeLine) (room : Room k callerA)
    (F : ∀ base : Heap, K.In base → base.Ns mainGlobals mg → FnG P w K mg base k fa fd [x] sp) (binds : ∀ (s : Shared) (u : Value), BindsTo s fd ⟨[u], []⟩ [(x, u)])
    (good : ∀ H : Hp, SqL K H a (ns.map V.int) → sp [.ref a] H (fun v _ => v = .bl true) fun _ _ _ => False) :
    codeAny (model P w) callerA (.call (.ref fa) ⟨[.ref a], []⟩) (fun r s' => r = .ok (.ret (.bool true)) ∧ OldK s1.heap s'.heap ∧ s'.os = s1.os ∧ AllBare s'.gens) s1 := by
  have go : ∀ H : Hp, (∀ b, H b = none ∨ (b = a ∧ K.lookup a = none ∧ ∃ o u, H b = some (.frz o u))) → SqL K H a (ns.map V.int) → HOk P w H s1.heap →
      codeAny (model P w) callerA (.call (.ref fa) ⟨[.ref a], []⟩) (fun r s' => r = .ok (.ret (.bool true)) ∧ OldK s1.heap s'.heap ∧ s'.os = s1.os ∧ AllBare s'.gens) s1 := by
    intro H only hS hok
    have free : ∀ b o, K.lookup b = some o → H b = none := fun b o e => by
      rcases only b with z | ⟨rfl, z, _⟩
      · exact z
      · rw [z] at e; cases e
    have dicts : ∀ {b : Addr} {m : Str → Option Value}, s1.heap.Ns b m → (hidT s1.heap H).Ns b m := by
      rintro b m ⟨o, es, ep, g, d, r⟩
      refine ⟨o, es, ep, hidT_get g ?_, d, r⟩
      rcases only b with z | ⟨rfl, _, _⟩
      · exact z
      · rw [at_] at g
        cases g
        exact absurd (show Data.seq vs.toArray _ = Data.dict es ep from d) (fun z => by cases z)
    have kb : K.In (hidT s1.heap H) := fun b o e => hidT_get (kin b o e) (free b o e)
    obtain ⟨mc, l1, l2⟩ := lim
    have md : Mod K mg (hidT s1.heap H) := ⟨kb, dicts globs, ⟨mb, dicts blts, boot⟩, mc, dicts l1, l2⟩
    have e0 : Env0 P w K mg (hidT s1.heap H) callerA [] s1 H := ⟨rfl, md, fun b o e => of_hidT e, Nat.le_of_eq (hidT_size _ _), trivial, fun b hb => (by cases hb), hok, .of_eq nogens⟩
    refine codeAny_mono ((F _ kb (dicts globs)).run callerA [] s1 H ⟨[.ref a], []⟩ [.ref a] [.ref a] _ _ rfl room e0 (binds s1 (.ref a)) (.cons rfl .nil) (good H hS)) fun r s' res => ?_
    cases r with
    | error er => exact False.elim res
    | ok fl =>
      cases fl with
      | next => exact False.elim res
      | brk => exact False.elim res
      | cont => exact False.elim res
      | ret u =>
        obtain ⟨v, H', os, bare, un, hok', rv, rfl⟩ := res
        obtain rfl : u = Value.bool true := rv
        refine ⟨rfl, .of_keep fun b o e => ?_, os, bare⟩
        rcases only b with z | ⟨rfl, _, ob, u, z⟩
        · exact un.keep b o e z (fun m => by cases m) (fun m => by cases m)
        · have was := (hok _ _ z).1
          rw [e] at was
          cases was
          exact (hok' _ _ (un.frzs _ _ _ z)).1
  cases own : K.lookup a with
  | some o =>
    have e := kin a o own
    rw [at_] at e
    cases e
    exact go (fun _ => none) (fun _ => .inl rfl) (.inr ⟨_, vs.toArray, _, own, rfl, rfl, rfl, by rw [List.size_toArray, its.length]; exact small, by simpa using vals_ints its⟩) fun b u z => by cases z
  | none =>
    refine go (fun b => if b = a then some (.frz { cls := .type "list", data := .seq vs.toArray } (.lst (ns.map V.int))) else none) (fun b => ?_) (.inl (.inr ⟨_, if_pos rfl⟩)) (fun b u z => ?_)
    · by_cases hb : b = a
      · exact .inr ⟨hb, own, _, _, if_pos hb⟩
      · exact .inl (if_neg hb)
    · by_cases hb : b = a
      · subst hb
        cases (if_pos rfl).symm.trans z
        exact ⟨at_, by rw [List.length_map]; exact small, vs, _, vals_ints its, at_⟩
      · cases (if_neg hb).symm.trans z
theorem walk_G {l : PySem.W.OpenLaw} {n k : Nat} {q : Program} {loose : List Str} {XP : (Str → Option Value) → Heap → Prop} {YP : World → Heap → Prop} {d : DefRec} {K : Params → PySem.W.Frag} {sp : World → Sp} {x : Str}
    (most : l.most = some n) (small : n ≤ sizeLine) (plain : d.params.defaults = []) (room : Room k callerA) (hY : ∀ (w : World) (h : Heap), YP w h → (K w.params).In h)
    (F : ∀ (w : World) (mg : Str → Option Value) (fa : Addr) (h : Heap), (K w.params).In h → h.Ns mainGlobals mg → mg d.name = some (.ref fa) → ∃ fd : FuncData, (∀ (s : Shared) (u : Value), BindsTo s fd ⟨[u], []⟩ [(x, u)]) ∧ ∀ base : Heap, (K w.params).In base → base.Ns mainGlobals mg → FnG l.prog w (K w.params) mg base k fa fd [x] (sp w))
    (good : ∀ (w : World) (H : Hp) (a : Addr) (ns : List Int), ns.length ≤ n → SqL (K w.params) H a (ns.map V.int) → sp w [.ref a] H (fun v _ => v = .bl true) fun _ _ _ => False) :
    PySem.W.WalkO q loose XP YP l.row.toRowW d [] (fun f vs => PySem.call f vs) := by
  refine Att.attach_call most plain fun w s0 s1 mg mb fa o pm cd doc a vs ns G Y _ _ _ is at_ its len gens => ?_
  obtain ⟨fd, binds, promise⟩ := F w mg fa _ (hY w _ Y) G.T.g is
  exact law_callG (hY w _ Y) G.T.g G.T.b G.T.builtins G.T.nolimit gens at_ its (Nat.le_trans len small) room promise binds fun H hS => good w H a ns len hS
end Wd

set_option Elab.async false
set_option linter.all false
set_option maxRecDepth 100000
set_option maxHeartbeats 4000000
namespace Wd
open PySem PySem.Spec PyProof.Rows L2 WdM
/-! ### C(e, ..) where __init__ may raise, what is raised wished for at the caller's slots -/
section
variable {X : Cx} {CX : CXT} {k : Nat} {f C : Addr} {fd : FuncData} {ps : List Str} {sp : Sp} {dvs : List V} {ds : List Value} {E : L2.St → XK} {x : Str} {p pos : Pos} {e : Expr} {es : List Expr} {t : TA}
def tMakeS (C : Addr) (sp : Sp) (dvs : List V) (E : L2.St → XK) (t : TA) : TE := fun σ H Q => t σ H fun vs G => ∀ o d, G o = none → G d = none → d ≠ o → sp (.ref o :: (vs ++ dvs)) (upd (upd G d (.own o)) o (.ins C d [])) (fun v G' => v = .non ∧ Q (.ref o) G') (E σ)
theorem run_makeS {pins : List (Addr × Obj)} {σ : L2.St} {H : Hp} {s : Shared} {Q : VK} {us : List Value} {vs : List V} (M : Mk X.K C f) (F : FnOk X.prog X.w X.K X.mg X.base CX k f fd ps sp) (room : Room (k + 1) X.A) (bd : Binds X.K fd ps ds) (rd : Vals dvs ds) (out : PassesAt CX X σ (E σ)) (I : Inv X pins σ H s) (rel : Vals vs us)
    (want : ∀ o d, H o = none → H d = none → d ≠ o → sp (.ref o :: (vs ++ dvs)) (upd (upd H d (.own o)) o (.ins C d [])) (fun v G' => v = .non ∧ Q (.ref o) G') (E σ)) :
    wpAny (model X.prog X.w) X.A (call (.ref C) us) (EP X pins σ Q) X.xe s := by
  have good := want (s.heap.objs.size + 1) s.heap.objs.size (I.hok.fresh (Nat.le_succ _)) (I.hok.fresh (Nat.le_refl _)) (Nat.ne_of_lt (Nat.lt_succ_self _))
  have J := Inv.made (C := C) I
  have full : Vals (V.ref (s.heap.objs.size + 1) :: (vs ++ dvs)) (Value.ref (s.heap.objs.size + 1) :: (us ++ ds)) := .cons rfl (rel.append rd)
  have many : (Value.ref (s.heap.objs.size + 1) :: us ++ ds).length = ps.length := full.length.symm.trans (F.len _ _ _ _ good)
  refine wpAny_call (make_map (f := f) I.kIn M.makes M.init (beq_iff_eq.mp M.fn) (codeAny_mono (F.run _ X.stack _ _ ⟨Value.ref (s.heap.objs.size + 1) :: us, []⟩ (Value.ref (s.heap.objs.size + 1) :: (us ++ ds)) _ _ (E σ) (room.make C us []) (J.env0.make C us []) (bd _ (Value.ref (s.heap.objs.size + 1) :: us) J.kIn many) full good) fun r s' res => ?_))
  cases r with
  | error er => exact out pins _ _ er s' J res
  | ok fl =>
    cases fl with
    | next => exact False.elim res
    | brk => exact False.elim res
    | cont => exact False.elim res
    | ret u =>
      obtain ⟨v, G, J3, rv, ev, q⟩ := J.after res
      subst ev
      exact ⟨rv, .ref (s.heap.objs.size + 1), G, J3, rfl, q⟩
theorem pe_makeS (M : Mk X.K C f) (F : FnOk X.prog X.w X.K X.mg X.base CX k f fd ps sp) (room : Room (k + 1) X.A) (glob : Gl X x) (is : X.mg x = some (.ref C)) (bd : Binds X.K fd ps ds) (rd : Vals dvs ds) (out : ∀ σ, PassesAt CX X σ (E σ)) (args : PA X (e :: es) t)
    (nodebug : (x == ("__debug__" : Str)) = false := by decide) (star : starEach (e :: es) X.env = (false, eval e X.env) :: starEach es X.env := by rfl) (plain : (backTo pos (starEach es X.env)).any (·.1) = false := by rfl) :
    PE X (.Call (.Name x p) (e :: es) [] pos) (tMakeS C sp dvs E t) where
  run := by
    intro pins s σ H Q I h
    refine wpAny_Call_Name_kw (ld_glob I glob is (PySem.W.callWith_K (h₀ := X.base) I.ok.mod.kin M.kp (thn (args.run pos pins s σ H _ I h) ?_) star plain) nodebug)
    rintro us s1 ⟨vs, H1, I1, rel, want⟩
    exact ⟨I1.kIn, run_makeS M F room bd rd (out σ) I1 rel want⟩
end
/-! ### what is never reached -/
theorem pe_no {X : Cx} {e : Expr} : PE X e (fun _ _ _ => False) := ⟨fun _ _ _ _ _ _ h => h.elim⟩
theorem pt_no {X : Cx} {e : Expr} : PT X e (fun _ _ _ => False) := ⟨fun _ _ _ _ _ _ h => h.elim⟩
theorem ps_no {X : Cx} {st : Stmt} : PS X st (fun _ _ _ => False) := ⟨fun _ _ _ _ _ _ h => h.elim⟩
theorem pss_no {X : Cx} {st : List Stmt} : PSs X st (fun _ _ _ => False) := ⟨fun _ _ _ _ _ _ h => h.elim⟩
/-! ### enumerate of a list or tuple -/
theorem enum_new {v : Value} {o : Obj} {G : Heap → Prop} (B : Begins v o G) :
    Meets (Builtin.«enumerate.__new__» ⟨[.type "enumerate", v], []⟩) (fun _ R s => G s.heap ∧ R (.ok (.ret (.ref (s.heap.push o).objs.size))) { s with heap := (s.heap.push o).push { cls := .type "enumerate", data := .fields #[.none, .bool false, .ref s.heap.objs.size, rawInt 0, .none, .none] } }) :=
  .of_wp fun prog w A R s h => by
    obtain ⟨hp, gs, ds, tk, os⟩ := s
    obtain ⟨g0, fin⟩ := h
    have sub := sub_enumerate
    have iter : ∀ {A' : Around} {E : Value → Shared → Prop} {Q : Value → Shared → Prop}, Q (.ref hp.objs.size) ⟨hp.push o, gs, ds, tk, os⟩ → wpAny (model prog w) A' (pyIter v) Q E ⟨hp, gs, ds, tk, os⟩ := fun q => B.iter prog w _ _ _ _ g0 q
    wp_walk using iter
    refine wpAny_stack_any fun st => wpAny_pure ?_
    split
    · rename_i c _ _ _ _ _
      cases c == Value.type "enumerate" <;> (wp_walk using iter) <;> exact ⟨_, rfl, fin⟩
    · wp_walk using iter
      exact ⟨_, rfl, fin⟩
theorem enum_made {prog : Program} {w : World} {A : Around} {E : Value → Shared → Prop} {s : Shared} {v : Value} {o : Obj} {G : Heap → Prop} {Q : Value → Shared → Prop} (B : Begins v o G) (g0 : G s.heap)
    (want : ∀ h1, IsEnum h1 (s.heap.objs.size + 1) s.heap.objs.size 0 .none → h1.get? s.heap.objs.size = some o → (∀ b o, s.heap.get? b = some o → h1.get? b = some o) → Q (.ref (s.heap.objs.size + 1)) { s with heap := h1 }) :
    wpAny (model prog w) A (call (.type "enumerate") [v]) Q E s := by
  refine callType_new F.called_enumerate (by decide) (F.typeCall_enumerate_1 _) (F.newCall_enumerate_1 _) (fun obj => F.args_object_init_2 obj _) F.entry_enumerate_new (enum_new B) ⟨g0, ?_⟩
  have size1 : (s.heap.push o).objs.size = s.heap.objs.size + 1 := Heap.size_push ..
  have made := Heap.get?_push_size (s.heap.push o) (o := { cls := .type "enumerate", data := .fields #[.none, .bool false, .ref s.heap.objs.size, rawInt 0, .none, .none] }) rfl
  show _ ∧ _
  rw [size1] at made ⊢
  exact ⟨⟨_, made, rfl⟩, want _ made (Heap.get?_push_of_some _ (Heap.get?_push_size _ B.free)) fun b o g => Heap.get?_push_of_some _ (Heap.get?_push_of_some _ g)⟩
def ItE (K : PySem.W.Frag) (k : Feed) (a : Addr) : It where
  go i H := ∃ xs x, k.sq K H a xs ∧ xs[i]? = some x
  yld i H v H' := ∃ T x, v = .ref T ∧ H T = none ∧ H' = upd H T (.tup [.int (i : Nat), x]) ∧ ∀ xs, k.sq K H a xs → xs[i]? = some x
  stop i H := ∃ xs, k.sq K H a xs ∧ xs.length = i
theorem walkE {K : PySem.W.Frag} {k : Feed} {a : Addr} {xs : List V} : Walk (ItE K k a) xs.length (fun H => k.sq K H a xs) (YPair (fun i => some (.int (i : Nat))) fun i => xs[i]?) where
  goes := fun i H hi g => ⟨xs, xs[i], g, List.getElem?_eq_getElem hi⟩
  stops := fun H g => ⟨xs, g, rfl⟩
  yields := fun i H v H' _ g ⟨T, x, e1, e2, e3, e4⟩ => ⟨T, .int (i : Nat), x, e1, e2, e3, rfl, e4 xs g⟩
theorem turnE {P : Program} {w : World} {K : PySem.W.Frag} {elts : List Expr} {kk : Nat} {tpos : Pos} {k : Feed} {a e it : Addr} (na : a ≠ it) (ea : e ≠ a) (ei : e ≠ it) :
    Turn P w K (.Tuple elts kk tpos) (ItE K k a) [e, it] e fun i h => (∃ old, IsEnum h e it ((i : Nat) : Int) old) ∧ k.at_ h it a i where
  mem := List.mem_cons_self
  obj := by
    rintro i h ⟨⟨old, ge⟩, gi⟩ c hc
    rcases List.mem_cons.mp hc with rfl | hc
    · exact ⟨_, ge, fun _ z => nomatch z⟩
    · rw [List.mem_singleton.mp hc]
      exact k.lives gi
  keep := by
    rintro i h h' ⟨⟨old, ge⟩, gi⟩ same
    exact ⟨⟨old, same _ (by simp) _ ge⟩, k.moved gi (same _ (by simp))⟩
  item := by
    rintro X rfl rfl rfl calm i pins s σ H E I free ⟨⟨old, ge⟩, gi⟩ ⟨xs, x, hxs, hx⟩
    obtain ⟨us, rel, st, _⟩ := k.known I hxs
    obtain ⟨u, hu, ru⟩ := rel.get hx
    have hA : X.A.in1.handled = none := I.ok.hd calm
    have el := Heap.lt_size ge
    have n1 : i < us.toArray.size := by
      rw [List.size_toArray]
      exact (List.getElem?_eq_some_iff.mp hu).1
    refine wpAny_pyNext_enum_itemD (k.draws hA na _) ge ⟨gi, st⟩ n1 ei (by simp [ei, ea]) ?_
    rintro u' h1 t1 eu out ⟨d1, _⟩ gT _ same
    obtain rfl : u = u' := Option.some.inj (hu.symm.trans (by simpa using eu))
    refine ⟨_, rfl, wpAny_letOwnedTupleGo_enum (s := { s with heap := h1, toks := t1 + 1 }) out fun h2 ge2 sb => ?_⟩
    have all : ∀ c o, c ∉ [e, it] → s.heap.get? c = some o → h2.get? c = some o := fun c o hc g => by
      simp only [List.mem_cons, List.not_mem_nil, or_false, not_or] at hc
      exact (sb.2 c hc.1).trans (same c o hc.1 hc.2 g)
    have pair : h2.get? s.heap.objs.size = some { cls := .type "tuple", data := .seq #[.int i t1, u] } := (sb.2 _ (Nat.ne_of_gt el)).trans gT
    have made : ObjOk X.prog X.w (upd H s.heap.objs.size (.tup [.int (i : Nat), x])) h2 s.heap.objs.size (.tup [.int (i : Nat), x]) := ⟨by show 2 ≤ sizeLine; decide, [.int i t1, u], .cons ⟨_, rfl⟩ (.cons ru .nil), _, pair, rfl, _, rfl⟩
    refine ⟨.ref s.heap.objs.size, _, I.turnedNew (t' := t1 + 1) all free (Nat.le_refl _) made, rfl, ?_, ?_, ?_⟩
    · exact ⟨_, x, rfl, I.hok.fresh (Nat.le_refl _), rfl, fun l g => k.one I g hxs ▸ hx⟩
    · refine ⟨⟨u, ?_⟩, k.moved d1 fun o g => (sb.2 _ ei.symm).trans g⟩
      rw [show ((i + 1 : Nat) : Int) = (i : Int) + 1 by omega]
      exact ge2
    · intro c hc
      have old : c < s.heap.objs.size := by
        rcases List.mem_cons.mp hc with rfl | hc
        · exact el
        · rw [List.mem_singleton.mp hc]
          obtain ⟨o1, e1, _⟩ := k.lives gi
          exact Heap.lt_size e1
      rw [upd_ne (Nat.ne_of_lt old)]
      exact (free c hc).1
  done := by
    rintro X rfl rfl rfl calm i pins s σ H E I free ⟨⟨old, ge⟩, gi⟩ ⟨xs, hxs, n⟩
    obtain ⟨us, rel, st, _⟩ := k.known I hxs
    have hA : X.A.in1.handled = none := I.ok.hd calm
    have z : us.toArray.size = i := by rw [List.size_toArray, ← rel.length, n]
    refine wpAny_pyNext_enum_endD (k.draws hA na us.toArray) ge ⟨z ▸ gi, st⟩ fun h1 same => ⟨rfl, I.turnedL (t' := s.toks) (fun c o hc g => ?_) free⟩
    simp only [List.mem_cons, List.not_mem_nil, or_false, not_or] at hc
    exact same c o hc.2 g
  self := fun _ _ _ _ _ g q => g.1.elim fun _ ge => wpAny_pyIter_enum ge q
def iE (K : PySem.W.Frag) (k : Feed) (ta : TA) : TI := fun σ H R => ta σ H fun vs H1 => ∃ a xs, vs = [.ref a] ∧ k.sq K H1 a xs ∧ R (ItE K k a) H1
theorem pi_E {X : Cx} {e : Expr} {ta : TA} {p pos tpos : Pos} {elts : List Expr} {kk : Nat} (k : Feed) (hg : Gl X "enumerate") (hm : X.mg "enumerate" = none) (ha : PA X [e] ta) (star : starEach [e] X.env = [(false, eval e X.env)] := by rfl) :
    PI X (.Tuple elts kk tpos) (.Call (.Name "enumerate" p) [e] [] pos) (iE X.K k ta) where
  run := by
    intro pins s σ H R I h
    refine Call_ (ld_blt I hg hm boot_enumerate (PyProof.Rows.callWith_type1 (thn (ha.run pos pins s σ H _ I h) ?_) star rfl))
    rintro us s1 ⟨vs, H1, I1, rel, a, xs, rfl, hxs, r⟩
    rw [Vals.ref1 rel]
    obtain ⟨its, _, st, la⟩ := k.known I1 hxs
    refine enum_made (k.begins a its.toArray) st fun h1 ge gi same => wpAny_pyIter_enum ge ?_
    have I2 : Inv X pins σ H1 { s1 with heap := h1 } := I1.kept (t' := s1.toks) same
    have na : a ≠ s1.heap.objs.size := Nat.ne_of_lt la
    have ea : s1.heap.objs.size + 1 ≠ a := fun z => absurd la (by rw [← z]; exact Nat.not_lt.mpr (Nat.le_succ _))
    refine ⟨s1.heap.objs.size + 1, [s1.heap.objs.size + 1, s1.heap.objs.size], _, _, H1, rfl, I2, turnE na ea (Nat.succ_ne_self _), ⟨⟨.none, ge⟩, k.first gi⟩, fun b hb => ?_, r⟩
    have le : s1.heap.objs.size ≤ b := by
      rcases List.mem_cons.mp hb with rfl | hb
      · exact Nat.le_succ _
      · exact Nat.le_of_eq (List.mem_singleton.mp hb).symm
    exact I1.fpOk le (I1.hok.fresh le)
end Wd

set_option Elab.async false
set_option linter.all false
set_option maxRecDepth 100000
set_option maxHeartbeats 4000000
namespace Wd
open PySem PySem.Spec PyProof.Rows L2 WdM
/-! ### readings may be weakened -/
theorem PE.wk {X : Cx} {e : Expr} {t t' : TE} (h : PE X e t) (w : ∀ σ H Q, t' σ H Q → t σ H Q) : PE X e t' := ⟨fun pins s σ H Q I hw => h.run pins s σ H Q I (w _ _ _ hw)⟩
theorem PA.wk {X : Cx} {es : List Expr} {t t' : TA} (h : PA X es t) (w : ∀ σ H Q, t' σ H Q → t σ H Q) : PA X es t' := ⟨fun pos pins s σ H Q I hw => h.run pos pins s σ H Q I (w _ _ _ hw)⟩
theorem PT.wk {X : Cx} {e : Expr} {t t' : TT} (h : PT X e t) (w : ∀ σ H Q, t' σ H Q → t σ H Q) : PT X e t' := ⟨fun pins s σ H Q I hw => h.run pins s σ H Q I (w _ _ _ hw)⟩
theorem PS.wk {X : Cx} {st : Stmt} {t t' : TS} (h : PS X st t) (w : ∀ D σ H, t' D σ H → t D σ H) : PS X st t' := ⟨fun pins s σ H D I hw => h.run pins s σ H D I (w _ _ _ hw)⟩
theorem PSs.wk {X : Cx} {st : List Stmt} {t t' : TS} (h : PSs X st t) (w : ∀ D σ H, t' D σ H → t D σ H) : PSs X st t' := ⟨fun pins s σ H D I hw => h.run pins s σ H D I (w _ _ _ hw)⟩
theorem tyes {σ : L2.St} {H : Hp} {f : Bool → Hp → Prop} (h : f true H) : tYes σ H f := h
theorem bt_same1 {l : Addr} {H H' : Hp} (e : Bt [l] H H') (h : H l = none) : Same H H' := fun b o q => e b o (by simp [ne_of_none q h]) q
/-- the built-ins' names, which the top leaves alone -/
structure Bi (mg : Str → Option Value) : Prop where
  isi : mg "isinstance" = none
  int : mg "int" = none
  bool : mg "bool" = none
  str : mg "str" = none
  tuple : mg "tuple" = none
  list : mg "list" = none
  len : mg "len" = none
  abs : mg "abs" = none
  all : mg "all" = none
  any : mg "any" = none
  sum : mg "sum" = none
  enum : mg "enumerate" = none
  divmod : mg "divmod" = none
  range : mg "range" = none
  max : mg "max" = none
  min : mg "min" = none
  zip : mg "zip" = none
  repr : mg "repr" = none
section
variable {K : PySem.W.Frag}
/-! ### things of any kind -/
inductive Th (K : PySem.W.Frag) (H : Hp) : V → PyData → Prop
  | dp {x : V} {d : PyData} (h : Dp K H x d) : Th K H x d
  | nod {a : Addr} (h : H a = some (.dK [])) : Th K H (.ref a) (.dict [])
mutual
theorem dp_same {H H' : Hp} (e : Same H H') : ∀ {v : V} {d : PyData}, Dp K H v d → Dp K H' v d
  | _, _, .non => .non
  | _, _, .bl b => .bl b
  | _, _, .int i => .int i
  | _, _, .str x => .str x
  | _, _, .lst h a => .lst (e.seq h) (dpAll_same e a)
  | _, _, .tup h a => .tup ((tk_same e).sq h) (dpAll_same e a)
theorem dpAll_same {H H' : Hp} (e : Same H H') : ∀ {vs : List V} {ds : List PyData}, DpAll K H vs ds → DpAll K H' vs ds
  | _, _, .nil => .nil
  | _, _, .cons h t => .cons (dp_same e h) (dpAll_same e t)
end
theorem Th.same {H H' : Hp} {v : V} {d : PyData} (e : Same H H') (h : Th K H v d) : Th K H' v d := by
  cases h with
  | dp h => exact .dp (dp_same e h)
  | nod h => exact .nod (e _ _ h)
def tyN : PyData → String
  | .none => "NoneType"
  | .bool _ => "bool"
  | .int _ => "int"
  | .str _ => "str"
  | .list _ => "list"
  | .tuple _ => "tuple"
  | .dict _ => "dict"
theorem Th.ty {H : Hp} {v : V} {d : PyData} (h : Th K H v d) : TyX K H v (.type (tyN d)) := by
  cases h with
  | nod h => exact .base (.dK h)
  | dp h =>
    cases h with
    | non => exact .base .non
    | bl b => exact .base (.bl b)
    | int i => exact .base (.int i)
    | str x => exact .base (.str x)
    | lst h _ =>
      rcases h with (h | ⟨o, h⟩) | ⟨o, its, n, e, c, _⟩
      · exact .base (.lst h)
      · exact .base (.frz h)
      · exact .kList e c
    | tup h _ => exact tyT h
/-- whether a thing is an instance of a built-in class -/
def isaB (T : String) : PyData → Bool
  | .none => T == "NoneType"
  | .bool _ => T == "bool" || T == "int"
  | .int _ => T == "int"
  | .str _ => T == "str"
  | .list _ => T == "list"
  | .tuple _ => T == "tuple"
  | .dict _ => T == "dict"
theorem kit_all : ∀ T ∈ ["int", "bool", "str", "tuple", "list"], kitB "NoneType" T = some (T == "NoneType") ∧ kitB "bool" T = some (T == "bool" || T == "int") ∧ kitB "int" T = some (T == "int") ∧ kitB "str" T = some (T == "str") ∧ kitB "list" T = some (T == "list") ∧ kitB "tuple" T = some (T == "tuple") ∧ kitB "dict" T = some (T == "dict") := by
  decide +kernel
theorem kit_isa {T : String} (h : T ∈ ["int", "bool", "str", "tuple", "list"]) (d : PyData) : PySem.W.kitOne K (.type (tyN d)) (.type T) = some (isaB T d) := by
  obtain ⟨a0, a1, a2, a3, a4, a5, a6⟩ := kit_all T h
  cases d
  · exact kit_ty a0
  · exact kit_ty a1
  · exact kit_ty a2
  · exact kit_ty a3
  · exact kit_ty a4
  · exact kit_ty a5
  · exact kit_ty a6
def strB : PyData → Bool
  | .str _ => true
  | _ => false
def tupB : PyData → Bool
  | .tuple _ => true
  | _ => false
def wholeB : PyData → Bool
  | .int _ => true
  | _ => false
theorem kit_str (d : PyData) : PySem.W.kitOne K (.type (tyN d)) (.type "str") = some (strB d) := by
  rw [kit_isa (by decide) d]
  cases d <;> rfl
theorem kit_tup (d : PyData) : PySem.W.kitOne K (.type (tyN d)) (.type "tuple") = some (tupB d) := by
  rw [kit_isa (by decide) d]
  cases d <;> rfl
theorem kit_whole (d : PyData) : ∃ b1 b2, PySem.W.kitOne K (.type (tyN d)) (.type "int") = some b1 ∧ PySem.W.kitOne K (.type (tyN d)) (.type "bool") = some b2 ∧ (b1 && !b2) = wholeB d := by
  refine ⟨_, _, kit_isa (by decide) d, kit_isa (by decide) d, ?_⟩
  cases d <;> rfl
theorem str_of {d : PyData} (h : strB d = true) : ∃ z, d = .str z := by
  cases d with
  | str z => exact ⟨z, rfl⟩
  | _ => cases h
theorem tup_of {d : PyData} (h : tupB d = true) : ∃ ds, d = .tuple ds := by
  cases d with
  | tuple ds => exact ⟨ds, rfl⟩
  | _ => cases h
theorem whole_of {d : PyData} (h : wholeB d = true) : ∃ i, d = .int i := by
  cases d with
  | int i => exact ⟨i, rfl⟩
  | _ => cases h
theorem th_str {H : Hp} {v : V} {z : Str} (h : Th K H v (.str z)) : v = .str z := by
  cases h with
  | dp h => cases h; rfl
theorem th_tup {H : Hp} {v : V} {ds : List PyData} (h : Th K H v (.tuple ds)) : ∃ a xs, v = .ref a ∧ SqT K H a xs ∧ DpAll K H xs ds := by
  cases h with
  | dp h => cases h with | tup hs hd => exact ⟨_, _, rfl, hs, hd⟩
theorem dpAll_len {H : Hp} : ∀ {xs : List V} {ds : List PyData}, DpAll K H xs ds → xs.length = ds.length
  | _, _, .nil => rfl
  | _, _, .cons _ t => congrArg (· + 1) (dpAll_len t)
end
/-! ### names -/
def lettersS : Str := "abcdefghijklmnopqrstuvwxyz"
def noNames : List V := [.str "all", .str "and", .str "children", .str "childless", .str "crown", .str "else", .str "if", .str "lives", .str "not", .str "of", .str "or", .str "stock", .str "to"]
def letB (c : Nat) : Bool := decide (c ∈ lettersS.cps.toList)
def nmB (z : Str) : Bool := decide (1 ≤ z.length ∧ z.length ≤ 8) && !inV (.str z) noNames && z.cps.toList.all letB
def nameB : PyData → Bool
  | .str z => nmB z
  | _ => false
theorem name_no {d : PyData} (h : strB d = false) : nameB d = false := by
  cases d <;> first | rfl | cases h
/-- texts that are not too long -/
def Short (d : PyData) : Prop := ∀ z, d = .str z → z.length ≤ 1000
theorem ixN_nat {n i : Nat} (h : i < n) : ixN n (i : Int) = some i := by
  unfold ixN
  rw [if_pos (by omega), if_pos (by omega)]
  rfl
theorem small_len {n : Nat} (h : n ≤ 1000) : n ≤ sizeLine := Nat.le_trans h (by decide)
end Wd

set_option Elab.async false
set_option linter.all false
set_option maxRecDepth 100000
set_option maxHeartbeats 4000000
/-! ### own errors of any family, with an __init__ that stores one field -/
namespace Wd
open PySem PySem.W PySem.Calls PyProof.Rows PySem.HandSPX
open Builtin Builtin.ObjectAttr
/-- own classes, then the family's order tl -/
def refsT (tl : List Value) : List Value → Bool
  | .ref _ :: r => refsT tl r
  | l => l == tl
/-- what is known of a family -/
structure Fam (B newId initId : String) (tl : List Value) : Prop where
  base : ExcBaseFacts B newId initId tl
  pass : ∀ self, refuseLoop self "__setattr__" tl = pure ()
  ne : tl.isEmpty = false
  ob : tl.contains (.type "object") = true
theorem fam_lookup : Fam "LookupError" "LookupError.__new__" "LookupError.__init__" [.type "LookupError", .type "Exception", .type "BaseException", .type "object"] :=
  ⟨F.excBase_LookupError, fun self => F.store_LookupError.passes self, rfl, by decide +kernel⟩
theorem fam_arith : Fam "ArithmeticError" "ArithmeticError.__new__" "ArithmeticError.__init__" [.type "ArithmeticError", .type "Exception", .type "BaseException", .type "object"] :=
  ⟨F.excBase_ArithmeticError, fun self => F.store_ArithmeticError.passes self, rfl, by decide +kernel⟩
section
variable {B newId initId : String} {tl : List Value}
theorem refsT_cases : ∀ l : List Value, refsT tl l = true → (∃ c r, l = .ref c :: r ∧ refsT tl r = true) ∨ l = tl := by
  intro l e
  cases l with
  | nil => exact .inr (beq_iff_eq.mp e)
  | cons a r => cases a <;> first | exact .inl ⟨_, _, rfl, e⟩ | exact .inr (beq_iff_eq.mp e)
theorem refsT_pass (f : Fam B newId initId tl) (self : Value) : ∀ l : List Value, refsT tl l = true → refuseLoop self "__setattr__" l = pure () := by
  intro l
  induction l with
  | nil =>
    intro e
    rcases refsT_cases [] e with ⟨_, _, h, _⟩ | h
    · cases h
    · rw [h]; exact f.pass self
  | cons a r ih =>
    intro e
    rcases refsT_cases (a :: r) e with ⟨c, r', q, h⟩ | q
    · cases q
      rw [refuseLoop_ref]
      exact ih h
    · rw [q]; exact f.pass self
theorem refsT_has (X : String) : ∀ l : List Value, refsT tl l = true → l.contains (.type X) = tl.contains (.type X) := by
  intro l
  induction l with
  | nil =>
    intro e
    rcases refsT_cases [] e with ⟨_, _, h, _⟩ | h
    · cases h
    · rw [h]
  | cons a r ih =>
    intro e
    rcases refsT_cases (a :: r) e with ⟨c, r', q, h⟩ | q
    · cases q
      rw [List.contains_cons, ih h]
      rfl
    · rw [q]
theorem refsT_ne (f : Fam B newId initId tl) {l : List Value} (e : refsT tl l = true) : l.isEmpty = false := by
  cases l with
  | nil =>
    rcases refsT_cases [] e with ⟨_, _, h, _⟩ | h
    · cases h
    · rw [h]; exact f.ne
  | cons _ _ => rfl
end
section
variable {B newId initId : String} {tl : List Value} {prog : Program} {w : World} {A : Around} {E : Value → Shared → Prop} {R : Result → Shared → Prop} {hp : Heap} {g : Array GenState} {d : Drawn} {t : Nat} {os : OsState}
/-- the first field of an error that is being made -/
theorem osa_T (f : Fam B newId initId tl) {K : W.Frag} {name : Str} {tk : Tok} {v : Value} {x C : Addr} {fv : Array Value} {cd : ClassData}
    (X : K.In hp) (hx : hp.get? x = some { cls := .ref C, data := .fields fv }) (hcd : W.clsIn K C = some cd) (hm : refsT tl cd.mro = true) (hh : cd.hasDict = true) (ha : W.findIn K (.ref C) name = some none)
    (hq : ∀ h' tk' dx, (∀ b o, b ≠ x → hp.get? b = some o → h'.get? b = some o) → hp.objs.size ≤ dx → dx ≠ x → h'.get? x = some { cls := .ref C, dict := some dx, data := .fields fv } →
      h'.Ns1 dx (fun y => if y = name then some v else none) → R (.ok (.ret .none)) ⟨h', g, d, tk', os⟩) :
    codeAny (model prog w) A (.call (.builtin "object.__setattr__") ⟨[.ref x, .str name tk, v], []⟩) R ⟨hp, g, d, t, os⟩ := by
  have I : W.InstAt hp x { cls := .ref C, data := .fields fv } C none := ⟨hx, rfl, rfl, trivial⟩
  have SF := F.store_object
  have hob : cd.mro.contains (.type "object") = true := (refsT_has "object" _ hm).trans f.ob
  have hxs : x ≠ hp.objs.size := Nat.ne_of_lt (Heap.lt_size hx)
  have sub : W.Looks (model prog w) hp (isInstance (.ref x) (.type "object")) true := I.type.andThen (W.looks_mroIn X (by unfold W.mroIn; rw [hcd, Option.bind_some, if_neg (by rw [refsT_ne f hm]; decide), hob]))
  refine codeAny_call_builtin SF.slot.plain SF.entry (@W.check_slot (model prog w) _ _ ⟨hp, g, d, t, os⟩ "object.__setattr__" "object" "__setattr__" (.ref x) [.str name tk, v] [] _ SF.kind SF.split sub (SF.args (.ref x) (.str name tk) v) ?_)
  have hmr : W.Looks (model prog w) hp (mroOf (.ref C)) cd.mro := (W.looks_clsIn X hcd).andThen .now
  have L3 : W.Looks (model prog w) hp (storeTaker? none) none := .now
  have hcls : W.Looks (model prog w) hp (classData C) cd := W.looks_clsIn X hcd
  rw [W.osa_eq, refuse_eq]
  refine wpAny_bind (wpAny_bind (I.type.at (wpAny_bind (hmr.at ?_))))
  rw [refsT_pass f _ _ hm]
  refine wpAny_pure (wpAny_bind (I.type.at (wpAny_bind ((W.looks_findIn X ha).at (wpAny_bind (L3.at ?_))))))
  show wpAny _ _ (storeInOwnDict (.ref x) (.ref C) (.str name tk) name v false) _ _ _
  obtain ⟨nm, bs, mro, ns, qn, hd, sn, sb, ab, col, del⟩ := cd
  dsimp only at hh
  subst hh
  unfold storeInOwnDict ownDictForStores
  repeat (first | with_reducible refine store_in_new ?_ ?_ | with_reducible refine wpAny_loadPart_at hx ?_ | with_reducible refine hcls.at ?_ | wp_step)
  · exact ⟨_, #[], _, (Heap.get?_update_ne _ _ _ _ hxs.symm).trans (Heap.get?_push_at rfl rfl), rfl, fun e he => absurd he (by simp), fun _ => rfl⟩
  · intro h' tk' hn' hs
    have hx₁ : (hp.push { cls := .type "dict", data := .dict #[] }).get? x = some { cls := .ref C, data := .fields fv } := Heap.get?_push_of_some _ hx
    refine hq h' tk' hp.objs.size (fun b o hb ho => ?_) (Nat.le_refl _) hxs.symm ?_ hn'
    · exact (hs.2 b (Nat.ne_of_lt (Heap.lt_size ho))).trans ((Heap.get?_update_ne _ _ _ _ hb).trans (Heap.get?_push_of_some _ ho))
    · exact (hs.2 x hxs).trans (Heap.get?_update_self _ hx₁ rfl)
end
end Wd
namespace Wd
open PySem PySem.Spec PyProof.Rows L2 WdM
/-- what the top says of the class -/
structure OexT (newId : String) (tl : List Value) (K : PySem.W.Frag) (C : Addr) : Prop where
  cls : ∃ nm q N bs bm sn sub ab col dd k0 k1 k2 k3 k5, K.lookup C = some (excClassObj nm q C N bs bm true sn sub ab col dd k0 k1 k2 k3 k5 newId) ∧ refsT tl bm = true
  sa : PySem.W.findIn K (.ref C) "__setattr__" = some (some (.builtin "object.__setattr__"))
  exC : PySem.W.subIn K (.ref C) (.type "BaseException") = some true
  tyC : PySem.W.typeIn K (.ref C) = some (.type "type")
  kC : PySem.W.keepIn K (.ref C) = true
section
variable {B newId initId : String} {tl : List Value} {X : Cx} {pins : List (Addr × Obj)} {σ : L2.St} {H : Hp} {s : Shared} {a C : Addr} {fl : Str} {y : V} {u : Value} {Q : Unit → Shared → Prop} {E : Value → Shared → Prop} {A : Around}
theorem ost_T (f : Fam B newId initId tl) (T : OexT newId tl X.K C) (I : Inv X pins σ H s) (e : H a = some (exo a C none)) (hno : PySem.W.findIn X.K (.ref C) fl = some none) (ry : RelV y u)
    (h : ∀ dx s', H dx = none → dx ≠ a → Inv X pins σ (upd (upd H dx (exd dx [(fl, y)])) a (exo a C (some dx))) s' → Q () s') : wpAny (model X.prog X.w) A (setAttr (.ref a) fl u) Q E s := by
  obtain ⟨nm, q, N, bs, bm, sn, sub, ab, col, dd, k0, k1, k2, k3, k5, hC, hbm⟩ := T.cls
  have hcl : PySem.W.clsIn X.K C = some { name := nm, bases := bs, mro := .ref C :: bm, ns := N, qualname := q, hasDict := true, slotNames := sn, subclasses := sub, abstract := ab, collection := col, hasDel := false } := by unfold PySem.W.clsIn; rw [hC] <;> rfl
  obtain ⟨t1, ho⟩ := exo_at I.hok e
  obtain ⟨hp, g, d, t, os⟩ := s
  refine PySem.W.set_plain I.kIn (ox := { cls := .ref C, dict := none, data := .fields #[.ref t1, .none, .none, .none, .bool false, .none] }) (od := none) ⟨ho, rfl, rfl, trivial⟩ T.sa ?_
  refine osa_T f I.kIn ho hcl (show refsT tl (.ref C :: bm) = true from hbm) rfl hno (fun h' tk' dx k dn dne hx hn => ?_)
  have hnd : H dx = none := I.hok.fresh dn
  have nd : ∀ {b : Addr} {o : Obj}, hp.get? b = some o → b ≠ dx := fun {b o} q => Nat.ne_of_lt (Nat.lt_of_lt_of_le (Heap.lt_size q) dn)
  have na : ∀ {b : Addr}, H b = none → b ≠ a := fun {b} n z => by
    rw [z, e] at n
    cases n
  have Un1 : Un X.fs [] H (upd (upd H dx (exd dx [(fl, y)])) a (exo a C (some dx))) hp h' := {
    keep := fun b o q n _ _ => k b o (na n) q
    slot := fun b o q n _ _ => ⟨o.slots, k b o (na n) q⟩
    free := fun b o q n _ => by rw [upd_ne (na n), upd_ne (nd q)]; exact n
    there := fun b o q _ => by
      by_cases hb : b = a
      · exact ⟨_, by rw [hb]; exact hx⟩
      · exact ⟨o, k b o hb q⟩
    tups := fun b xs q => by rw [upd_ne (at_ne e q exo_tup), upd_ne (ne_of_none q hnd)]; exact q
    frzs := fun b o v q => by rw [upd_ne (at_ne e q exo_frz), upd_ne (ne_of_none q hnd)]; exact q
    tbls := fun b ps q => ⟨#[], by rw [upd_ne (at_ne e q exo_tbl), upd_ne (ne_of_none q hnd), q]; simp⟩ }
  refine h dx _ hnd dne (I.un (t' := tk') Un1 fun b o q => ?_)
  by_cases hb : b = a
  · subst hb
    rw [upd_same] at q
    cases q
    exact exo_ok hx
  · rw [upd_ne hb] at q
    by_cases hd : b = dx
    · subst hd
      rw [upd_same] at q
      cases q
      exact exd_ok hn (relO_put (fs := []) ry fun g => True.intro)
    · rw [upd_ne hd] at q
      exact (I.hok b o q).stay (fun c v hc z => k c v (by
          rcases hc with hc | hc
          · rw [hc]
            exact hb
          · exact at_ne e hc exo_own) z)
        (fun c hc => by rw [upd_ne (at_ne e hc exo_own), upd_ne (ne_of_none hc hnd)]; exact hc) (fun c xs hc => by rw [upd_ne (at_ne e hc exo_tup), upd_ne (ne_of_none hc hnd)]; exact hc)
end
/-- self.f = e, the first one -/
def tOsT (newId : String) (tl : List Value) (K : PySem.W.Frag) (f : Str) (to te : TE) : TS := fun D σ H => te σ H fun y H1 => to σ H1 fun x H2 => ∃ a C : Addr, x = .ref a ∧ OexT newId tl K C ∧ PySem.W.findIn K (.ref C) f = some none ∧
  H2 a = some (exo a C none) ∧ ∀ dx, H2 dx = none → dx ≠ a → D.nx σ (upd (upd H2 dx (exd dx [(f, y)])) a (exo a C (some dx)))
section
variable {B newId initId : String} {tl : List Value} {X : Cx} {o e : Expr} {es : List Expr} {to te : TE} {ta : TA} {f : Str} {p p' pos : Pos}
theorem ps_osT (fm : Fam B newId initId tl) (ho : PE X o to) (he : PE X e te) (hs : swapsWith e (some (.Attribute o f p')) pos.line X.env = pure false := by rfl) : PS X (.Assign [.Attribute o f p'] e pos) (tOsT newId tl X.K f to te) := by
  refine ⟨fun pins s σ H D I h => ?_⟩
  refine plainObj_wpAny_Assign_Attribute (thn (he.run pins s σ H _ I h) fun v s1 ⟨y, H1, I1, r1, q1⟩ => thn (ho.run pins s1 σ H1 _ I1 q1) fun u s2 ⟨x, H2, I2, r2, a, C, ex, T, hno, ea, q⟩ => ?_) hs
  subst ex
  obtain rfl : u = Value.ref a := r2
  exact ost_T fm T I2 ea hno r1 fun dx s' n ne J => ⟨σ, _, J, q dx n ne⟩
theorem pmk_T (fm : Fam B newId initId tl) {CX : CXT} {x : Str} {C fI : Addr} {k : Nat} {fd : FuncData} {ps : List Str} {sp : Sp} {ds : List Value} {dvs : List V} (T : OexT newId tl X.K C) (iC : PySem.W.findIn X.K (.ref C) "__init__" = some (some (.ref fI))) (tI : PySem.W.typeIn X.K (.ref fI) = some (.type "function"))
    (F1 : FnOk X.prog X.w X.K X.mg X.base CX k fI fd ps sp) (hr : Room (k + 1) X.A) (hb : Binds X.K fd ps ds) (hd : Vals dvs ds) (hx : Passes CX X (fun _ _ _ => False)) (hg : Gl X x) (hm : X.mg x = some (.ref C)) (ha : PA X (e :: es) ta)
    (hdb : (x == ("__debug__" : Str)) = false := by decide) (he : starEach (e :: es) X.env = (false, eval e X.env) :: starEach es X.env := by rfl) (hpl : (backTo pos (starEach es X.env)).any (·.1) = false := by rfl) :
    PMk X (.Call (.Name x p) (e :: es) [] pos) (tMkO C sp dvs ta) := by
  intro pins s σ H Q I h
  obtain ⟨nm, q, N, bs, bm, sn, sub, ab, col, dd, k0, k1, k2, k3, k5, hC, hbm⟩ := T.cls
  refine wpAny_Call_Name_kw (ld_glob I hg hm ?_ hdb)
  refine PySem.W.callWith_K (h₀ := X.base) I.ok.mod.kin T.kC (thn (ha.run pos pins s σ H _ I h) fun us s1 ⟨vs, H1, I1, r1, hz, q1⟩ => ⟨I1.kIn, ?_⟩) he hpl
  show wpAny _ _ (call (.ref C) us) _ _ _
  obtain ⟨hp, g, dr, tk, os⟩ := s1
  have hsz : hp.objs.size ≤ hp.objs.size + 1 := Nat.le_succ _
  have hn : H1 (hp.objs.size + 1) = none := I1.hok.fresh hsz
  have hq := q1 (hp.objs.size + 1) hn
  have kk : ∀ b o, hp.get? b = some o → ((hp.push (PySem.W.kdv_tup us)).push (PySem.HandSPX.excO C hp.objs.size)).get? b = some o := fun b o e => Heap.get?_push_of_some _ (Heap.get?_push_of_some _ e)
  have hget : ((hp.push (PySem.W.kdv_tup us)).push (PySem.HandSPX.excO C hp.objs.size)).get? (hp.objs.size + 1) = some (PySem.HandSPX.excO C hp.objs.size) := by heap_get
  have I2 : Inv X pins σ (upd H1 (hp.objs.size + 1) (exo (hp.objs.size + 1) C none)) ⟨(hp.push (PySem.W.kdv_tup us)).push (PySem.HandSPX.excO C hp.objs.size), g, dr, tk, os⟩ :=
    I1.laid (t' := tk) (a := hp.objs.size + 1) (o := exo (hp.objs.size + 1) C none) (h' := (hp.push (PySem.W.kdv_tup us)).push (PySem.HandSPX.excO C hp.objs.size)) kk hsz (exo_ok hget)
  have r2 : Vals (V.ref (hp.objs.size + 1) :: (vs ++ dvs)) (Value.ref (hp.objs.size + 1) :: (us ++ ds)) := .cons rfl (r1.append hd)
  have hl : (Value.ref (hp.objs.size + 1) :: us ++ ds).length = ps.length := by
    have e := r2.length
    rw [F1.len _ _ _ _ hq] at e
    exact e.symm
  have hus : us.length ≤ sizeLine := by
    rw [← Paired.length r1, sizeLine_eq]
    omega
  refine wpAny_call (PySem.HandSPX.call_own fm.base (fun Y => refsT_has Y bm hbm) (I1.kIn _ _ hC) (PySem.W.looks_findIn I1.kIn iC) (fun self => PySem.W.bind_fn I1.kIn self tI) hus
    (codeAny_mono (F1.run _ X.stack _ _ ⟨Value.ref (hp.objs.size + 1) :: us, []⟩ (Value.ref (hp.objs.size + 1) :: (us ++ ds)) _ _ (fun _ _ _ => False) (hr.make C us []) (I2.env0.make C us []) (hb _ (Value.ref (hp.objs.size + 1) :: us) I2.kIn hl) r2 hq) fun r s' hq' => ?_))
  cases r with
  | error er => exact hx pins σ _ _ er s' I2 hq'
  | ok fl =>
    cases fl with
    | ret u =>
      obtain ⟨v, H2, os2, bare2, un2, hok2, rv, ev, d, fs, ea, ed, hd1, q2⟩ := hq'
      subst ev
      obtain ⟨h2, g2, d2, t2, os'⟩ := s'
      exact ⟨rv, mk_end (raises_own T.exC T.tyC) I1 hsz kk un2 hok2 os2 bare2 ea ed hd1 q2⟩
    | next => exact False.elim hq'
    | brk => exact False.elim hq'
    | cont => exact False.elim hq'
end
end Wd

set_option Elab.async false
set_option linter.all false
set_option maxRecDepth 100000
set_option maxHeartbeats 4000000
namespace Wd
open PySem PySem.Spec PyProof.Rows L2 He
theorem refsB_eq {tl : List Value} : ∀ l : List Value, refsB tl l = true → refsT tl l = true
  | [], h => h
  | .ref _ :: r, h => refsB_eq r h
  | a :: r, h => by
    cases a <;> first | exact refsB_eq r h | exact h
theorem oexTB_ok {newId : String} {tl : List Value} {K : PySem.W.Frag} {C : Addr} (q : oexTB newId tl K C = true) : ∃ nm q N bs bm sn sub ab col dd k0 k1 k2 k3 k5, K.lookup C = some (excClassObj nm q C N bs bm true sn sub ab col dd k0 k1 k2 k3 k5 newId) ∧ refsT tl bm = true := by
  unfold oexTB at q
  split at q
  · rename_i dd cd sl ho
    split at q
    · rename_i C' bm k0 k1 k2 k3 n k5 hm hs
      simp only [Bool.and_eq_true, beq_iff_eq, Bool.not_eq_true'] at q
      obtain ⟨⟨⟨⟨rfl, rfl⟩, hdel⟩, hd⟩, hr⟩ := q
      obtain ⟨nm, bs, mro, N, qn, hasd, sn, sub, ab, col, hdl⟩ := cd
      simp only at hm hdel hd
      subst hm
      subst hdel
      subst hd
      have e : sl = #[k0, k1, k2, k3, some (.builtin n), k5] := by
        have := congrArg List.toArray hs
        simpa using this
      subst e
      exact ⟨nm, qn, N, bs, bm, sn, sub, ab, col, dd, k0, k1, k2, k3, k5, ho, refsB_eq _ hr⟩
    · cases q
  · cases q
end Wd

set_option Elab.async false
set_option linter.all false
set_option maxRecDepth 100000
set_option maxHeartbeats 4000000
namespace Wd
open PySem PySem.Spec PyProof.Rows L2 WdM
/-! ### displays of values that are all of one sort -/
section
variable {X : Cx} {R : L2.St → Hp → Prop} {Bd : Hp → V → Prop} {e : Expr} {es : List Expr} {n : Nat}
/-- where R holds, a value that is Bd -/
def tB (R : L2.St → Hp → Prop) (Bd : Hp → V → Prop) : TE := fun σ H Q => R σ H ∧ ∀ v H', Same H H' → Bd H' v → Q v H'
def taB (R : L2.St → Hp → Prop) (Bd : Hp → V → Prop) (n : Nat) : TA := fun σ H Q => R σ H ∧ ∀ xs H', Same H H' → xs.length = n → (∀ x ∈ xs, Bd H' x) → Q xs H'
def tlB (R : L2.St → Hp → Prop) (Bd : Hp → V → Prop) (n : Nat) : TE := fun σ H Q => R σ H ∧ ∀ p xs H', Same H H' → H' p = none → xs.length = n → (∀ x ∈ xs, Bd H' x) → Q (.ref p) (upd H' p (.lst xs))
/-- kept where the heap grows -/
structure Kp (R : L2.St → Hp → Prop) (Bd : Hp → V → Prop) : Prop where
  r : ∀ σ H H', Same H H' → R σ H → R σ H'
  b : ∀ H H' v, Same H H' → Bd H v → Bd H' v
theorem paB_nil : PA X [] (taB R Bd 0) := PA.wk pa_nil fun σ H Q ⟨_, q⟩ => q [] H (Same.refl H) rfl (fun x hx => nomatch hx)
theorem paB_cons (k : Kp R Bd) (h : PE X e (tB R Bd)) (t : PA X es (taB R Bd n)) (hs : starEach (e :: es) X.env = (false, eval e X.env) :: starEach es X.env := by rfl) : PA X (e :: es) (taB R Bd (n + 1)) :=
  PA.wk (pa_cons h t hs) fun σ H Q ⟨r, q⟩ => ⟨r, fun v H1 s1 b1 => ⟨k.r _ _ _ s1 r, fun xs H2 s2 l2 b2 => q (v :: xs) H2 (s1.trans s2) (by rw [List.length_cons, l2]) (fun x hx => by
    rcases List.mem_cons.mp hx with rfl | hx
    · exact k.b _ _ _ s2 b1
    · exact b2 x hx)⟩⟩
theorem peB_lst {pos : Pos} (t : PA X es (taB R Bd n)) (hn : n ≤ sizeLine) : PE X (.List es pos) (tlB R Bd n) :=
  PE.wk (pe_lst t) fun σ H Q ⟨r, q⟩ => ⟨r, fun xs H1 s1 l1 b1 => ⟨by rw [l1]; exact hn, fun p np => q p xs _ s1 np l1 b1⟩⟩
end
def RT : L2.St → Hp → Prop := fun _ _ => True
section
variable {K : PySem.W.Frag} {X : Cx}
/-- a thing whose texts aren't too long -/
def ThS (K : PySem.W.Frag) (H : Hp) (v : V) : Prop := ∃ d, Th K H v d ∧ Short d
theorem kpS : Kp RT (ThS K) := ⟨fun _ _ _ _ _ => trivial, fun _ _ _ e ⟨d, th, n⟩ => ⟨d, th.same e, n⟩⟩
theorem short_of {d : PyData} (h : strB d = false) : Short d := fun z e => by rw [e] at h; cases h
/-- texts of at most b signs -/
def StrL (b : Nat) (v : V) : Prop := ∃ z : Str, v = .str z ∧ z.length ≤ b
theorem StrL.th {b : Nat} {v : V} {H : Hp} (h : StrL b v) (hb : b ≤ 1000) : ThS K H v := by
  obtain ⟨z, rfl, l⟩ := h
  exact ⟨.str z, .dp (.str z), fun y e => by cases e; omega⟩
theorem at_of {P : V → Prop} {xs : List V} {d : Int} (h : ∀ x ∈ xs, P x) (d0 : 0 ≤ d) (d1 : d < xs.length) : ∃ v, atI xs d = some v ∧ P v := by
  obtain ⟨n, rfl⟩ := Int.eq_ofNat_of_zero_le d0
  have hn : n < xs.length := by omega
  exact ⟨xs[n], atI_nat (List.getElem?_eq_getElem hn), h _ (List.getElem_mem hn)⟩
end
end Wd

set_option Elab.async false
set_option linter.all false
set_option maxRecDepth 100000
set_option maxHeartbeats 4000000
namespace Wd
open PySem PySem.Spec PyProof.Rows L2 WdM
/-- what is never reached, by a name -/
def tsNo : TS := fun _ _ _ => False
theorem pss_noS {X : Cx} {st : List Stmt} : PSs X st tsNo := ⟨fun _ _ _ _ _ _ h => h.elim⟩
/-! ### data with empty dicts in it; its lists and dicts aren't at the places S -/
mutual
inductive Dz (S : List Addr) (K : PySem.W.Frag) (H : Hp) : V → PyData → Prop
  | non : Dz S K H .non .none
  | bl (b : Bool) : Dz S K H (.bl b) (.bool b)
  | int (i : Int) : Dz S K H (.int i) (.int i)
  | str (x : Str) : Dz S K H (.str x) (.str x)
  | lst {a : Addr} {xs : List V} {ds : List PyData} (n : a ∉ S) (h : SqL K H a xs) (t : DzAll S K H xs ds) : Dz S K H (.ref a) (.list ds)
  | tup {a : Addr} {xs : List V} {ds : List PyData} (h : SqT K H a xs) (t : DzAll S K H xs ds) : Dz S K H (.ref a) (.tuple ds)
  | nod {a : Addr} (n : a ∉ S) (h : H a = some (.dK [])) : Dz S K H (.ref a) (.dict [])
inductive DzAll (S : List Addr) (K : PySem.W.Frag) (H : Hp) : List V → List PyData → Prop
  | nil : DzAll S K H [] []
  | cons {v : V} {vs : List V} {d : PyData} {ds : List PyData} (h : Dz S K H v d) (t : DzAll S K H vs ds) : DzAll S K H (v :: vs) (d :: ds)
end
section
variable {S : List Addr} {K : PySem.W.Frag}
structure Stay (S : List Addr) (K : PySem.W.Frag) (H H' : Hp) : Prop where
  l : ∀ a xs, a ∉ S → SqL K H a xs → SqL K H' a xs
  t : ∀ a xs, SqT K H a xs → SqT K H' a xs
  d : ∀ a, a ∉ S → H a = some (.dK []) → H' a = some (.dK [])
mutual
theorem dz_stay {H H' : Hp} (e : Stay S K H H') : ∀ {v : V} {d : PyData}, Dz S K H v d → Dz S K H' v d
  | _, _, .non => .non
  | _, _, .bl b => .bl b
  | _, _, .int i => .int i
  | _, _, .str x => .str x
  | _, _, .lst n h a => .lst n (e.l _ _ n h) (dzAll_stay e a)
  | _, _, .tup h a => .tup (e.t _ _ h) (dzAll_stay e a)
  | _, _, .nod n h => .nod n (e.d _ n h)
theorem dzAll_stay {H H' : Hp} (e : Stay S K H H') : ∀ {vs : List V} {ds : List PyData}, DzAll S K H vs ds → DzAll S K H' vs ds
  | _, _, .nil => .nil
  | _, _, .cons h t => .cons (dz_stay e h) (dzAll_stay e t)
end
theorem stay_same {H H' : Hp} (e : Same H H') : Stay S K H H' := ⟨fun a xs _ h => e.seq h, fun a xs h => (tk_same e).sq h, fun a _ h => e _ _ h⟩
theorem stay_bt {H H' : Hp} (e : Bt S H H') (hl : ∀ a ∈ S, ∃ zs, H a = some (.lst zs)) : Stay S K H H' := ⟨fun a xs n h => by
  rcases h with (h | ⟨o, h⟩) | h
  · exact .inl (.inl (e _ _ n h))
  · exact .inl (.inr ⟨o, e _ _ n h⟩)
  · exact .inr h, fun a xs h => (e.tk hl).sq h, fun a n h => e _ _ n h⟩
theorem Dz.same {H H' : Hp} {v : V} {d : PyData} (h : Dz S K H v d) (e : Same H H') : Dz S K H' v d := dz_stay (stay_same e) h
theorem DzAll.same {H H' : Hp} {v : List V} {d : List PyData} (h : DzAll S K H v d) (e : Same H H') : DzAll S K H' v d := dzAll_stay (stay_same e) h
mutual
theorem Dz.less {H : Hp} : ∀ {v : V} {d : PyData}, Dz S K H v d → Dz [] K H v d
  | _, _, .non => .non
  | _, _, .bl b => .bl b
  | _, _, .int i => .int i
  | _, _, .str x => .str x
  | _, _, .lst n h a => .lst (by simp) h a.less
  | _, _, .tup h a => .tup h a.less
  | _, _, .nod n h => .nod (by simp) h
theorem DzAll.less {H : Hp} : ∀ {vs : List V} {ds : List PyData}, DzAll S K H vs ds → DzAll [] K H vs ds
  | _, _, .nil => .nil
  | _, _, .cons h t => .cons h.less t.less
end
theorem Dz.ty {H : Hp} {v : V} {d : PyData} (h : Dz S K H v d) : TyX K H v (.type (tyN d)) := by
  cases h with
  | non => exact .base .non
  | bl b => exact .base (.bl b)
  | int i => exact .base (.int i)
  | str x => exact .base (.str x)
  | lst _ h _ =>
    rcases h with (h | ⟨o, h⟩) | ⟨o, its, n, e, c, _⟩
    · exact .base (.lst h)
    · exact .base (.frz h)
    · exact .kList e c
  | tup h _ => exact tyT h
  | nod _ h => exact .base (.dK h)
theorem dz_str {H : Hp} {v : V} {z : Str} (h : Dz S K H v (.str z)) : v = .str z := by cases h; rfl
theorem dz_tup {H : Hp} {v : V} {ds : List PyData} (h : Dz S K H v (.tuple ds)) : ∃ a xs, v = .ref a ∧ SqT K H a xs ∧ DzAll S K H xs ds := by
  cases h with
  | tup h t => exact ⟨_, _, rfl, h, t⟩
theorem DzAll.len {H : Hp} : ∀ {xs : List V} {ds : List PyData}, DzAll S K H xs ds → xs.length = ds.length
  | _, _, .nil => rfl
  | _, _, .cons _ t => congrArg (· + 1) t.len
theorem DzAll.get {H : Hp} : ∀ {xs : List V} {ds : List PyData} {i : Nat} {x : V}, DzAll S K H xs ds → xs[i]? = some x → ∃ d, ds[i]? = some d ∧ Dz S K H x d
  | _, _, 0, _, .cons h t, e => by cases e; exact ⟨_, rfl, h⟩
  | _, _, i + 1, _, .cons h t, e => t.get (i := i) e
  | _, _, 0, _, .nil, e => by cases e
  | _, _, i + 1, _, .nil, e => by cases e
theorem DzAll.app {H : Hp} : ∀ {xs ys : List V} {ds es : List PyData}, DzAll S K H xs ds → DzAll S K H ys es → DzAll S K H (xs ++ ys) (ds ++ es)
  | _, _, _, _, .nil, q => q
  | _, _, _, _, .cons h t, q => .cons h (t.app q)
theorem DzAll.take {H : Hp} : ∀ {xs : List V} {ds : List PyData} (n : Nat), DzAll S K H xs ds → DzAll S K H (xs.take n) (ds.take n)
  | _, _, 0, _ => by simp only [List.take_zero]; exact .nil
  | _, _, n + 1, .nil => .nil
  | _, _, n + 1, .cons h t => .cons h (t.take n)
theorem DzAll.drop {H : Hp} : ∀ {xs : List V} {ds : List PyData} (n : Nat), DzAll S K H xs ds → DzAll S K H (xs.drop n) (ds.drop n)
  | _, _, 0, h => h
  | _, _, n + 1, .nil => .nil
  | _, _, n + 1, .cons h t => t.drop n
theorem DzAll.rev {H : Hp} : ∀ {xs : List V} {ds : List PyData}, DzAll S K H xs ds → DzAll S K H xs.reverse ds.reverse
  | _, _, .nil => .nil
  | _, _, .cons h t => by simp only [List.reverse_cons]; exact t.rev.app (.cons h .nil)
theorem DzAll.two {H : Hp} {xs : List V} {ds : List PyData} (h : DzAll S K H xs ds) (l : xs.length = 2) : ∃ x1 x2 d1 d2, xs = [x1, x2] ∧ ds = [d1, d2] ∧ Dz S K H x1 d1 ∧ Dz S K H x2 d2 := by
  cases h with
  | nil => cases l
  | cons h1 t =>
    cases t with
    | nil => cases l
    | cons h2 t =>
      cases t with
      | nil => exact ⟨_, _, _, _, rfl, rfl, h1, h2⟩
      | cons _ _ => simp only [List.length_cons] at l; omega
end
/-- what is asked of a thing at the door -/
structure Is (K : PySem.W.Frag) (H : Hp) (v : V) (d : PyData) : Prop where
  ty0 : ∀ H', Same H H' → TyX K H' v (.type (tyN d))
  str : ∀ z, d = .str z → v = .str z
theorem Is.ty {K : PySem.W.Frag} {H : Hp} {v : V} {d : PyData} (h : Is K H v d) : TyX K H v (.type (tyN d)) := h.ty0 H (Same.refl H)
theorem Dz.is {S : List Addr} {K : PySem.W.Frag} {H : Hp} {v : V} {d : PyData} (h : Dz S K H v d) : Is K H v d := ⟨fun _ e => (h.same e).ty, fun z e => by subst e; exact dz_str h⟩
theorem Th.is {K : PySem.W.Frag} {H : Hp} {v : V} {d : PyData} (h : Th K H v d) : Is K H v d := ⟨fun _ e => (h.same e).ty, fun z e => by subst e; exact th_str h⟩
/-! ### data that is small: depth n, b: lists, no dicts; else dicts, no lists -/
def okS (x : Str) : Prop := ∀ c ∈ x.cps.toList, c < 1114112
def Fine (b : Bool) : Nat → PyData → Prop
  | _, .none => True
  | _, .bool _ => True
  | _, .int i => -1 ≤ i ∧ i ≤ 1
  | _, .str x => okS x ∧ x.length ≤ 30
  | 0, .list _ => False
  | 0, .tuple _ => False
  | 0, .dict _ => False
  | n + 1, .list ds => b = true ∧ ds.length ≤ 8 ∧ ∀ d ∈ ds, Fine b n d
  | n + 1, .tuple ds => ds.length ≤ 8 ∧ ∀ d ∈ ds, Fine b n d
  | _ + 1, .dict [] => b = false
  | _ + 1, .dict (_ :: _) => False
theorem Fine.up {b : Bool} : ∀ {n : Nat} {d : PyData}, Fine b n d → Fine b (n + 1) d
  | n, .none, _ => trivial
  | n, .bool _, _ => trivial
  | n, .int _, h => by cases n <;> exact h
  | n, .str _, h => by cases n <;> exact h
  | n + 1, .list ds, h => ⟨h.1, h.2.1, fun d hd => (h.2.2 d hd).up⟩
  | n + 1, .tuple ds, h => ⟨h.1, fun d hd => (h.2 d hd).up⟩
  | n + 1, .dict [], h => h
  | n + 1, .dict (_ :: _), h => h.elim
theorem Fine.mono {b : Bool} {n : Nat} {d : PyData} (h : Fine b n d) : ∀ {m : Nat}, n ≤ m → Fine b m d := by
  intro m hm
  induction hm with
  | refl => exact h
  | step _ ih => exact ih.up
theorem Fine.short {b : Bool} {n : Nat} {d : PyData} (h : Fine b n d) : Short d := fun z e => by
  subst e
  have h : okS z ∧ z.length ≤ 30 := by cases n <;> exact h
  omega
theorem Fine.mem {b : Bool} {n : Nat} {ds : List PyData} {d : PyData} (h : Fine b n (.tuple ds)) (m : d ∈ ds) : ∃ n, Fine b n d := by
  cases n with
  | zero => exact h.elim
  | succ n => exact ⟨n, h.2 d m⟩
/-- small, in either way -/
def Fin (d : PyData) : Prop := ∃ b n, Fine b n d
theorem Fin.short {d : PyData} (h : Fin d) : Short d := h.elim fun _ h => h.elim fun _ h => h.short
theorem Fin.mem {ds : List PyData} {d : PyData} (h : Fin (.tuple ds)) (m : d ∈ ds) : Fin d := by
  obtain ⟨b, n, h⟩ := h
  exact ⟨b, h.mem m⟩
theorem Fin.len {ds : List PyData} (h : Fin (.tuple ds)) : ds.length ≤ 8 := by
  obtain ⟨b, n, h⟩ := h
  cases n with
  | zero => exact h.elim
  | succ n => exact h.1
def LL : Nat → Nat
  | 0 => 302
  | n + 1 => 8 * (LL n + 2) + 3
theorem LL_up (n : Nat) : LL n ≤ LL (n + 1) := by
  show LL n ≤ 8 * (LL n + 2) + 3
  omega
theorem piled_le {B : Nat} : ∀ {ts : List Str}, (∀ t ∈ ts, t.length ≤ B) → piled ts ≤ ts.length * (B + 2)
  | [], _ => by simp [piled]
  | t :: ts, h => by
    rw [piled_cons, List.length_cons, Nat.succ_mul]
    have h1 := h t List.mem_cons_self
    have h2 := piled_le (ts := ts) fun x hx => h x (List.mem_cons_of_mem _ hx)
    omega
theorem from_le : ∀ (ts : List Str) (k : Nat) (acc : Str), (textFrom k acc ts).length ≤ acc.length + piled ts
  | [], k, acc => by simp [textFrom, piled]
  | t :: ts, k, acc => by
    have ih := from_le ts (k + 1) (acc ++ (if k > 0 then ", " else "" : String) ++ t)
    rw [piled_cons]
    have e : (acc ++ (if k > 0 then ", " else "" : String) ++ t).length ≤ acc.length + (2 + t.length) := by
      rw [strLen_append, strLen_append]
      have : (((if k > 0 then ", " else "" : String) : Str)).length ≤ 2 := by
        split <;> decide
      omega
    show (textFrom (k + 1) _ ts).length ≤ _
    omega
theorem list_le {B : Nat} {ts : List Str} (h : ∀ t ∈ ts, t.length ≤ B) (l : ts.length ≤ 8) : (listText ts).length ≤ 8 * (B + 2) + 3 := by
  unfold listText
  rw [strLen_append]
  have a := from_le ts 0 "["
  have b := piled_le h
  have c : ts.length * (B + 2) ≤ 8 * (B + 2) := Nat.mul_le_mul_right _ l
  have d : ("[" : Str).length = 1 := by decide
  have e : ("]" : Str).length = 1 := by decide
  omega
theorem tuple_le {B : Nat} {ts : List Str} (h : ∀ t ∈ ts, t.length ≤ B) (l : ts.length ≤ 8) : (tupleText ts).length ≤ 8 * (B + 2) + 3 := by
  unfold tupleText
  rw [strLen_append, strLen_append]
  have b := piled_le h
  have c : ts.length * (B + 2) ≤ 8 * (B + 2) := Nat.mul_le_mul_right _ l
  have d : ("(" : Str).length = 1 := by decide
  have e : (((if ts.length == 1 then ",)" else ")" : String) : Str)).length ≤ 2 := by split <;> decide
  by_cases z : ts = []
  · subst z
    have : (Str.join ", " []).length = 0 := by decide
    omega
  · have := join_length_add ts z
    omega
theorem shownAll_eq : ∀ ds : List PyData, PyData.shownAll ds = ds.map PyData.shown
  | [] => by simp [PyData.shownAll]
  | d :: ds => by simp only [PyData.shownAll, List.map_cons, shownAll_eq ds]
theorem showableAll_eq : ∀ {ds : List PyData}, (∀ d ∈ ds, PyData.showable d = true) → PyData.showableAll ds = true
  | [], _ => by simp [PyData.showableAll]
  | d :: ds, h => by
    simp only [PyData.showableAll, h d List.mem_cons_self, Bool.true_and]
    exact showableAll_eq fun x hx => h x (List.mem_cons_of_mem _ hx)
theorem depthAll_le {n : Nat} : ∀ {ds : List PyData}, (∀ d ∈ ds, PyData.depth d ≤ n) → PyData.depthAll ds ≤ n
  | [], _ => by simp [PyData.depthAll]
  | d :: ds, h => by
    simp only [PyData.depthAll]
    exact Nat.max_le.mpr ⟨h d List.mem_cons_self, depthAll_le fun x hx => h x (List.mem_cons_of_mem _ hx)⟩
theorem hasDictAll_no : ∀ {ds : List PyData}, (∀ d ∈ ds, PyData.hasDict d = false) → PyData.hasDictAll ds = false
  | [], _ => by simp [PyData.hasDictAll]
  | d :: ds, h => by
    simp only [PyData.hasDictAll, h d List.mem_cons_self, Bool.false_or]
    exact hasDictAll_no fun x hx => h x (List.mem_cons_of_mem _ hx)
theorem Fine.shown {b : Bool} : ∀ {n : Nat} {d : PyData}, Fine b n d → (PyData.shown d).length ≤ LL n ∧ PyData.showable d = true ∧ PyData.depth d ≤ n ∧ (b = true → PyData.hasDict d = false) := by
  have l0 : ∀ n, 302 ≤ LL n := fun n => by
    induction n with
    | zero => exact Nat.le_refl _
    | succ n ih => exact Nat.le_trans ih (LL_up n)
  intro n
  induction n with
  | zero =>
    intro d h
    cases d with
    | none => exact ⟨by simp only [PyData.shown]; decide, by simp [PyData.showable], by simp [PyData.depth], fun _ => by simp [PyData.hasDict]⟩
    | bool c => exact ⟨by simp only [PyData.shown]; cases c <;> decide, by simp [PyData.showable], by simp [PyData.depth], fun _ => by simp [PyData.hasDict]⟩
    | int i =>
      have h : -1 ≤ i ∧ i ≤ 1 := h
      have : i = -1 ∨ i = 0 ∨ i = 1 := by omega
      rcases this with rfl | rfl | rfl <;> exact ⟨by simp only [PyData.shown]; decide, by simp only [PyData.showable]; decide, by simp [PyData.depth], fun _ => by simp [PyData.hasDict]⟩
    | str x =>
      have h : okS x ∧ x.length ≤ 30 := h
      refine ⟨?_, by simp [PyData.showable], by simp [PyData.depth], fun _ => by simp [PyData.hasDict]⟩
      simp only [PyData.shown]
      have := StrLaws.reprText_len x (fun c hc => Nat.lt_of_lt_of_le (h.1 c hc) (by decide))
      show _ ≤ 302
      omega
    | list ds => exact h.elim
    | tuple ds => exact h.elim
    | dict ds => exact h.elim
  | succ n ih =>
    intro d h
    cases d with
    | none => exact ⟨Nat.le_trans (by simp only [PyData.shown]; decide) (l0 _), by simp [PyData.showable], by simp [PyData.depth], fun _ => by simp [PyData.hasDict]⟩
    | bool c => exact ⟨Nat.le_trans (by simp only [PyData.shown]; cases c <;> decide) (l0 _), by simp [PyData.showable], by simp [PyData.depth], fun _ => by simp [PyData.hasDict]⟩
    | int i =>
      have h : -1 ≤ i ∧ i ≤ 1 := h
      have : i = -1 ∨ i = 0 ∨ i = 1 := by omega
      rcases this with rfl | rfl | rfl <;> exact ⟨Nat.le_trans (by simp only [PyData.shown]; decide) (l0 _), by simp only [PyData.showable]; decide, by simp [PyData.depth], fun _ => by simp [PyData.hasDict]⟩
    | str x =>
      have h : okS x ∧ x.length ≤ 30 := h
      refine ⟨?_, by simp [PyData.showable], by simp [PyData.depth], fun _ => by simp [PyData.hasDict]⟩
      simp only [PyData.shown]
      have := StrLaws.reprText_len x (fun c hc => Nat.lt_of_lt_of_le (h.1 c hc) (by decide))
      have := l0 (n + 1)
      omega
    | list ds =>
      have h : b = true ∧ ds.length ≤ 8 ∧ ∀ d ∈ ds, Fine b n d := h
      refine ⟨?_, ?_, ?_, fun hb => ?_⟩
      · simp only [PyData.shown, shownAll_eq]
        exact list_le (fun t ht => by obtain ⟨d, hd, rfl⟩ := List.mem_map.mp ht; exact (ih (h.2.2 d hd)).1) (by rw [List.length_map]; exact h.2.1)
      · simp only [PyData.showable]
        exact showableAll_eq fun d hd => (ih (h.2.2 d hd)).2.1
      · simp only [PyData.depth]
        have := depthAll_le fun d hd => (ih (h.2.2 d hd)).2.2.1
        omega
      · simp only [PyData.hasDict]
        exact hasDictAll_no fun d hd => (ih (h.2.2 d hd)).2.2.2 hb
    | tuple ds =>
      have h : ds.length ≤ 8 ∧ ∀ d ∈ ds, Fine b n d := h
      refine ⟨?_, ?_, ?_, fun hb => ?_⟩
      · simp only [PyData.shown, shownAll_eq]
        exact tuple_le (fun t ht => by obtain ⟨d, hd, rfl⟩ := List.mem_map.mp ht; exact (ih (h.2 d hd)).1) (by rw [List.length_map]; exact h.1)
      · simp only [PyData.showable]
        exact showableAll_eq fun d hd => (ih (h.2 d hd)).2.1
      · simp only [PyData.depth]
        have := depthAll_le fun d hd => (ih (h.2 d hd)).2.2.1
        omega
      · simp only [PyData.hasDict]
        exact hasDictAll_no fun d hd => (ih (h.2 d hd)).2.2.2 hb
    | dict kvs =>
      cases kvs with
      | nil =>
        have h : b = false := h
        refine ⟨Nat.le_trans ?_ (l0 _), by simp [PyData.showable, PyData.showableKv], by simp [PyData.depth, PyData.depthKv], fun hb => by rw [h] at hb; cases hb⟩
        simp only [PyData.shown, PyData.shownKv]
        decide
      | cons kv r => exact h.elim
theorem LL5 : LL 5 ≤ sizeLine := by decide
/-! ### such data in the machine's heap -/
section
variable {S : List Addr} {X : Cx} {pins : List (Addr × Obj)} {σ : L2.St} {H : Hp} {s : Shared}
mutual
theorem Dz.reads (I : Inv X pins σ H s) : ∀ (d : PyData) (v : V) (u : Value), Dz S X.K H v d → RelV v u → ∃ as, Reads s.heap u d as ∧ ∀ n, Fine false n d → sysModules ∉ as
  | .none, _, _, h, r => by
    cases h; cases r
    exact ⟨_, .none, fun _ _ => by simp⟩
  | .bool b, _, _, h, r => by
    cases h; cases r
    exact ⟨_, .bool b, fun _ _ => by simp⟩
  | .int i, _, _, h, r => by
    cases h
    obtain ⟨t, rfl⟩ := r
    exact ⟨_, .int i t, fun _ _ => by simp⟩
  | .str x, _, _, h, r => by
    cases h
    obtain ⟨t, rfl⟩ := r
    exact ⟨_, .str x t, fun _ _ => by simp⟩
  | .list ds, _, _, h, r => by
    cases h with
    | lst _ hs ha =>
      cases r
      obtain ⟨its, rv, ⟨o, n, ho, hc, _, hd⟩, _⟩ := I.list hs
      obtain ⟨as, hr, _⟩ := Dz.readsAll I ds _ its ha rv
      refine ⟨_, .list ho hc hd hr, fun n f => ?_⟩
      cases n with
      | zero => exact f.elim
      | succ n => exact nomatch f.1
  | .tuple ds, _, _, h, r => by
    cases h with
    | tup hs ha =>
      cases r
      obtain ⟨its, rv, ⟨o, ho, hc, n, hd⟩, _⟩ := I.tuple hs
      obtain ⟨as, hr, no⟩ := Dz.readsAll I ds _ its ha rv
      refine ⟨_, .tuple ho hc hd hr, fun n f => ?_⟩
      cases n with
      | zero => exact f.elim
      | succ n => exact no n f.2
  | .dict kvs, _, _, h, r => by
    cases h with
    | nod _ h =>
      cases r
      obtain ⟨q, n⟩ := reads_nod I.hok h
      exact ⟨_, q, fun _ _ => n⟩
theorem Dz.readsAll (I : Inv X pins σ H s) : ∀ (ds : List PyData) (vs : List V) (us : List Value), DzAll S X.K H vs ds → Vals vs us → ∃ as, ReadsAll s.heap us ds as ∧ ∀ n, (∀ d ∈ ds, Fine false n d) → sysModules ∉ as
  | [], _, _, h, r => by
    cases h; cases r
    exact ⟨_, .nil, fun _ _ => by simp⟩
  | d :: ds, _, _, h, r => by
    cases h with
    | cons h1 h2 =>
      cases r with
      | cons r1 r2 =>
        obtain ⟨as, q1, n1⟩ := Dz.reads I d _ _ h1 r1
        obtain ⟨bs, q2, n2⟩ := Dz.readsAll I ds _ _ h2 r2
        exact ⟨_, .cons q1 q2, fun n f m => (List.mem_append.mp m).elim (n1 n (f d List.mem_cons_self)) (n2 n fun x hx => f x (List.mem_cons_of_mem _ hx))⟩
end
end
def rReprZ (K : PySem.W.Frag) : List V → Hp → VK → Prop := fun xs H Q => ∃ x d b, xs = [x] ∧ Dz [] K H x d ∧ Fine b 5 d ∧ Q (.str d.shown) H
theorem call_reprZ {X : Cx} (gs : X.A.guards = some []) (hu : X.A.units + 64 < cLine) : CallR X (.builtin "repr") (rReprZ X.K) := by
  rintro pins s σ H _ us Q I rel ⟨x, d, b, rfl, dz, fine, want⟩
  obtain ⟨len, sh, dep, nd⟩ := fine.shown
  have len : d.shown.length ≤ sizeLine := Nat.le_trans len LL5
  cases rel with
  | cons ru rn =>
    cases rn
    rename_i u
    obtain ⟨as, r, sm⟩ := Dz.reads I d _ u dz ru
    have sm : d.hasDict = true → sysModules ∉ as := fun h => by
      cases b with
      | true => rw [nd rfl] at h; cases h
      | false => exact sm 5 fine
    have boxed : ∀ a : Addr, Reads s.heap (.ref a) d as → wpAny (model X.prog X.w) X.A (call (.builtin "repr") [.ref a]) (EP X pins σ Q) X.xe s := fun a r =>
      repr_of_reads' r sh sm gs (by omega) (fun _ _ e => e) (fun h' _ tk same => ⟨.str d.shown, H, I.kept (t' := tk) same, ⟨_, rfl⟩, want⟩) len
    have fin : ∀ {z : Str} {t k : Tok}, z = d.shown → EP X pins σ Q (.str z t) { s with toks := k } := fun {z t k} e => ⟨.str z, H, I.tok k, ⟨_, rfl⟩, e ▸ want⟩
    cases dz with
    | non => cases ru; exact PySem.P.repr_of_none (fin (by simp [PyData.shown]))
    | bl b => cases ru; exact PySem.P.repr_of_bool (fin (by simp [PyData.shown]))
    | int i =>
      obtain ⟨t, rfl⟩ := ru
      exact PySem.P.repr_of_int (by simpa [PyData.showable] using sh) (fin (by simp [PyData.shown]))
    | str z =>
      obtain ⟨t, rfl⟩ := ru
      exact PySem.P.repr_of_str (fin (by simp [PyData.shown])) (by simpa [PyData.shown] using len)
    | lst _ _ _ => cases ru; exact boxed _ r
    | tup _ _ => cases ru; exact boxed _ r
    | nod _ _ => cases ru; exact boxed _ r
end Wd

set_option Elab.async false
set_option linter.all false
set_option maxRecDepth 100000
set_option maxHeartbeats 4000000
set_option exponentiation.threshold 5000
namespace WdQ
open PySem PySem.Spec PyProof.Rows L2 WdM Wd
def topS (i : Nat) : Stmt := PySem.Challenge.pw_willdealt_k15_whole_conditions_hang_toge.main.body.getD i (.Pass ⟨0, 0, 0, 0⟩)
abbrev sName : Stmt := topS 24
theorem scName : FnScope ["thing", "sign"] ["thing"] (defScope sName) := ⟨rfl, rfl, rfl, by decide +kernel, rfl, by decide +kernel, by decide +kernel⟩
/-- what the top holds for names -/
structure NmF (K : PySem.W.Frag) (mg : Str → Option Value) (aW : Addr) : Prop where
  gL : ∃ t, mg "LETTERS" = some (.str lettersS t)
  gN : ∃ t, mg "LONGEST" = some (.int 8 t)
  gW : mg "WORDS" = some (.ref aW)
  tW : ∀ H, SqT K H aW noNames
section
variable {P : Program} {w : World} {K : PySem.W.Frag} {mg : Str → Option Value} {base : Heap}
def spName (K : PySem.W.Frag) : Sp := fun vs H Q _ => ∃ (v : V) (d : PyData), vs = [v] ∧ Is K H v d ∧ Short d ∧ ∀ H', Same H H' → Q (.bl (nameB d)) H'
theorem ok_name {f : Addr} {fd : FuncData} {k : Nat} {aW : Addr} (B : Bi mg) (T : NmF K mg aW) (D : Df K mg "is_name" sName f fd ["thing"]) : FnOk P w K mg base CX0 (k + 1) f fd ["thing"] (spName K) := by
  refine D.fn.ok scName (fun vs H Q E h => ?_) (fun cdv A outer s H vs Q E hr h => ?_)
  · obtain ⟨v, d, rfl, _⟩ := h
    rfl
  · obtain ⟨v, d, rfl, th, sk, q⟩ := h
    obtain ⟨tL, gL⟩ := T.gL
    obtain ⟨tN, gN⟩ := T.gN
    refine ⟨_, pss_cons (ps_if (PW.pt (pw_or (pt_not (pt_val (pe_callB call_isi (by rfl) B.isi boot_isinstance (pa_cons (pv 0) (pa_cons (pe_bltn (v := .ty "str") (by rfl) B.str boot_str rfl) pa_nil)))))
          (pw_or1 (pt_not (pt_chain op_le op_le pe_int (pe_callB call_len_str (by rfl) B.len PySem.boot_len (pa_cons (pv 0) pa_nil)) (pe_glob (v := .int 8) (by rfl) gN ⟨_, rfl⟩)))))) (pss_one (ps_ret pe_bl)) pss_nil)
      (pss_one (ps_ret (pe_and (pe_cmpR op_notIn_seq (pv 0) (pe_glob (v := .ref aW) (by rfl) T.gW rfl) (by rfl)) (pe_one (pe_callB (cr_all rfl) (by rfl) B.all (by decide +kernel) (pa_cons
          (pe_lc (own := [("sign", 1)]) (g := gName 1) (tt := tYes) rfl scName.nd (pi_str (pv 0)) (blkOk_by (own := [("sign", 1)]) (N := ["thing", "sign"]) (sc := defScope sName) (by decide +kernel))
            (fun _ _ _ _ _ => pg_name (i := 1) scName.nd rfl (Or.inl rfl)) (fun _ _ _ _ _ => pts_nil)
            (fun _ _ _ _ _ => pe_cmpR op_in_sign (pv 1) (pe_glob (v := .str lettersS) (by rfl) gL ⟨_, rfl⟩) (by rfl))) pa_nil)))))), ?_⟩
    refine ⟨_, rfl, _, .ty "str", _, .type "str", _, rfl, .ty _, th.ty, kit_str d, _, rfl, ?_⟩
    by_cases hs : strB d = true
    · rw [hs]
      obtain ⟨z, rfl⟩ := str_of hs
      obtain rfl := th.str z rfl
      have zl := sk z rfl
      have no : ¬ (1 ≤ z.length ∧ z.length ≤ 8) → nameB (.str z) = false := fun e => by
        show (decide _ && _ && _) = false
        rw [decide_eq_false e]
        rfl
      refine iteF ⟨_, rfl, z, rfl, small_len zl, 1, _, rfl, rfl, _, rfl, ?_⟩
      by_cases l0 : 1 ≤ z.length
      · rw [decide_eq_true (show (1 : Int) ≤ (z.length : Int) by omega)]
        refine iteT ⟨_, 8, rfl, rfl, _, rfl, ?_⟩
        by_cases l1 : z.length ≤ 8
        · rw [decide_eq_true (show (z.length : Int) ≤ 8 by omega)]
          refine iteF ⟨_, rfl, aW, noNames, rfl, .inr (T.tW H), rfl, rfl, _, rfl, ?_⟩
          have yes : nameB (.str z) = (!inV (.str z) noNames && z.cps.toList.all letB) := by
            show (decide _ && _ && _) = _
            rw [decide_eq_true ⟨l0, l1⟩]
            rfl
          rw [yes] at q
          by_cases hi : inV (.str z) noNames = true
          · rw [hi] at q ⊢
            exact iteF (q H (Same.refl H))
          · have hi' : inV (.str z) noNames = false := by simpa using hi
            rw [hi'] at q ⊢
            refine iteT ⟨_, rfl, z, rfl, fun L nL => lc_it walk_str (fun i H' => H' L = some (.lst (((z.cps.toList.take i).map letB).map V.bl)) ∧ Same H H') ⟨upd_same, same_new nL⟩ (fun _ _ _ _ => trivial) ?_ ?_⟩
            · rintro i x H1 H' hx ⟨hL, sm⟩ ⟨rfl, c, hc, rfl⟩
              refine ⟨rfl, tyes (iteT ⟨_, rfl, c, lettersS, rfl, rfl, ?_⟩)⟩
              have hc' : z.cps.toList[i]? = some c := by simpa using hc
              refine ⟨_, hL, ?_, ?_, ?_⟩
              · rw [List.length_map, List.length_map, List.length_take]
                exact small1000 (by have := lt_get hc'; have : z.cps.toList.length = z.length := by simp [Str.length]
                                    omega)
              · rw [upd_same, take_more hc', List.map_append, List.map_append]
                rfl
              · exact ((Bt.of_same (S := []) sm).upd0 nL).same
            · rintro H' ⟨hL, sm⟩
              have e : z.cps.toList.take z.cps.size = z.cps.toList := List.take_of_length_le (by simp)
              rw [e] at hL
              refine ⟨L, _, rfl, sqL hL, ?_⟩
              have e2 : (z.cps.toList.map letB).all id = z.cps.toList.all letB := by rw [List.all_map]; rfl
              rw [e2]
              exact q H' sm
        · rw [decide_eq_false (show ¬ (z.length : Int) ≤ 8 by omega)]
          rw [no (fun e => l1 e.2)] at q
          exact iteT (q H (Same.refl H))
      · rw [decide_eq_false (show ¬ (1 : Int) ≤ (z.length : Int) by omega)]
        rw [no (fun e => l0 e.1)] at q
        exact iteF ⟨_, rfl, iteT (q H (Same.refl H))⟩
    · have hs' : strB d = false := by simpa using hs
      rw [hs']
      rw [name_no hs'] at q
      exact iteT (iteT (q H (Same.refl H)))
end
end WdQ

set_option Elab.async false
set_option linter.all false
set_option maxRecDepth 100000
set_option maxHeartbeats 4000000
set_option exponentiation.threshold 5000
namespace WdQ
open PySem PySem.Spec PyProof.Rows L2 WdM Wd
abbrev sPool : Stmt := topS 57
abbrev sTake : Stmt := topS 58
theorem scPool : FnScope ["_law_script", "_law_k", "_law_cell", "_law_mix", "_law_found", "_law_turn"] ["_law_script", "_law_k"] (defScope sPool) := ⟨rfl, rfl, rfl, by decide +kernel, rfl, by decide +kernel, by decide +kernel⟩
theorem scTake : FnScope ["_law_pool_here", "_law_many", "_law_digit"] ["_law_pool_here", "_law_many"] (defScope sTake) := ⟨rfl, rfl, rfl, by decide +kernel, rfl, by decide +kernel, by decide +kernel⟩
def PoolAt (H : Hp) (l : Addr) : Prop := ∃ n : Int, H l = some (.lst [.int n]) ∧ 0 ≤ n ∧ n.natAbs < 2 ^ 1300
theorem PoolAt.lst {H : Hp} {l : Addr} (h : PoolAt H l) : ∀ a ∈ [l], ∃ zs, H a = some (.lst zs) := fun a ha => by
  obtain ⟨n, e, _⟩ := h
  rw [List.mem_singleton.mp ha]
  exact ⟨_, e⟩
theorem PoolAt.same {H H' : Hp} {l : Addr} (h : PoolAt H l) (e : Same H H') : PoolAt H' l := by
  obtain ⟨n, a, b⟩ := h
  exact ⟨n, e _ _ a, b⟩
theorem PoolAt.ne {H : Hp} {l p : Addr} (h : PoolAt H l) (e : H p = none) : l ≠ p := by
  obtain ⟨n, a, b⟩ := h
  exact ne_of_none a e
theorem PoolAt.upd {H : Hp} {l p : Addr} {o : HO} (h : PoolAt H l) (e : l ≠ p) : PoolAt (upd H p o) l := by
  obtain ⟨n, a, b⟩ := h
  exact ⟨n, by rw [upd_ne e]; exact a, b⟩
theorem kept {S : List Addr} {H H' : Hp} {b : Addr} {o : HO} (e : Bt S H H') (h : H b = some o) (n : b ∉ S) : H' b = some o := e b o n h
theorem lst_ne {H : Hp} {l p : Addr} {ws : List V} (h : PoolAt H l) (e : H p = some (.lst ws)) (n : ws.length ≠ 1) : p ≠ l := fun z => by
  obtain ⟨m, q, _⟩ := h
  rw [← z, e] at q
  exact n (congrArg (fun o : Option HO => match o with | some (.lst xs) => xs.length | _ => 0) q)
theorem PoolAt.bt {H H' : Hp} {p l : Addr} (h : PoolAt H p) (b : Bt [l] H H') (n : p ≠ l) : PoolAt H' p := by
  obtain ⟨m, q, r⟩ := h
  exact ⟨m, b _ _ (by simp [n]) q, r⟩
section
variable {P : Program} {w : World} {K : PySem.W.Frag} {mg : Str → Option Value} {base : Heap}
def spTake : Sp := fun vs H Q _ => ∃ (l : Addr) (m : Int), vs = [.ref l, .int m] ∧ PoolAt H l ∧ 0 < m ∧ ∀ H' d, Bt [l] H H' → PoolAt H' l → 0 ≤ d → d < m → Q (.int d) H'
theorem ok_take {f : Addr} {fd : FuncData} {k : Nat} (B : Bi mg) (D : Df K mg "_law_take" sTake f fd ["_law_pool_here", "_law_many"]) : FnOk P w K mg base CX0 (k + 1) f fd ["_law_pool_here", "_law_many"] spTake := by
  refine D.fn.ok scTake (fun vs H Q E h => ?_) (fun cdv A outer s H vs Q E hr h => ?_)
  · obtain ⟨l, m, rfl, _⟩ := h
    rfl
  · obtain ⟨l, m, rfl, ⟨n, hl, n0, nB⟩, m0, q⟩ := h
    refine ⟨_, pss_cons (ps_asg (pe_callB call_divmodW (by rfl) B.divmod (by decide +kernel) (pa_cons (pe_ix (r := rIxL K) ix_list (pv 0) pe_int (fun _ _ => rfl)) (pa_cons (pv 1) pa_nil)))
        (pg_tup rfl (pgs_cons (pg_sub (pv 0) pe_int set_list) (pgs_cons (pg_name (i := 2) scTake.nd rfl (.inl rfl)) pgs_nil))))
      (pss_one (ps_ret (pv 2))), ?_⟩
    refine ⟨_, rfl, l, _, 0, .int n, rfl, rfl, sqL hl, atI_nat (j := 0) rfl, _, rfl, n, m, rfl, divp_ok m0 ?_, fun p hp => ?_⟩
    · have := PyProof.Rows.intBits_le nB
      omega
    · have nlp : l ≠ p := ne_of_none hl hp
      have hl2 : (upd H p (.tup [.int (n / m), .int (n % m)])) l = some (.lst [.int n]) := by rw [upd_ne nlp]; exact hl
      refine ⟨p, _, rfl, sqT upd_same, rfl, _, _, rfl, _, rfl, l, _, 0, 0, rfl, rfl, hl2, ixN_nat (n := 1) (i := 0) (by decide), _, _, rfl, rfl, ?_⟩
      refine ⟨_, rfl, q _ _ (((Bt.refl H).new hp).upd1 (by simp)) ⟨n / m, upd_same, Int.ediv_nonneg n0 (Int.le_of_lt m0), ?_⟩ (Int.emod_nonneg n (by omega)) (Int.emod_lt_of_pos n m0)⟩
      exact wide_le (Int.ediv_nonneg n0 (Int.le_of_lt m0)) (Int.ediv_le_self _ n0) nB
def spPool (K : PySem.W.Frag) : Sp := fun vs H Q _ => ∃ (a : Addr) (ns : List Int) (i : Int), vs = [.ref a, .int i] ∧ SqL K H a (ns.map V.int) ∧ 0 ≤ i ∧ i < 64 ∧ ∀ H' l, Same H H' → H l = none → PoolAt H' l → Q (.ref l) H'
theorem found_step {f x : Int} {m : Nat} (h0 : 0 ≤ f) (h1 : f.natAbs < 2 ^ m) (h2 : 0 ≤ x) (h3 : x < 99999999977) : 0 ≤ f * 100000000000 + x ∧ (f * 100000000000 + x).natAbs < 2 ^ (m + 37) := by
  rw [Nat.pow_add]
  generalize 2 ^ m = B at *
  rw [show (2 : Nat) ^ 37 = 137438953472 by decide]
  omega
theorem cut_ints (ns : List Int) (lo hi : Option Int) : ∃ ms : List Int, cutV (ns.map V.int) lo hi = ms.map V.int := by
  unfold cutV
  exact ⟨(ns.drop _).take _, by rw [List.map_take, List.map_drop]⟩
theorem ok_pool {f : Addr} {fd : FuncData} {k : Nat} (B : Bi mg) (D : Df K mg "_law_pool" sPool f fd ["_law_script", "_law_k"]) : FnOk P w K mg base CX0 (k + 1) f fd ["_law_script", "_law_k"] (spPool K) := by
  refine D.fn.ok scPool (fun vs H Q E h => ?_) (fun cdv A outer s H vs Q E hr h => ?_)
  · obtain ⟨l, m, i, rfl, _⟩ := h
    rfl
  · obtain ⟨a, ns, i, rfl, hs, i0, i1, q⟩ := h
    refine ⟨_, pss_cons (ps_set (i := 2) scPool.nd rfl (.inl rfl) (pe_callB (cr_sum rfl) (by rfl) B.sum (by decide +kernel) (pa_cons (pe_slice sl_list (pv 0) (po_some (pv 1)) (po_some (pe_op op_add (pv 1) pe_int))) pa_nil)))
      (pss_cons (ps_if (PW.pt (pw_or (pt_cmpR op_lt (pv 2) pe_int (nomark _)) (pw_or1 (pt_cmpR op_ge (pv 2) (pe_op op_pow pe_int pe_int) (nomark _)))))
        (pss_one (ps_ret (pe_lst (pa_cons (pe_op op_mod (pe_callB call_abs (by rfl) B.abs (by decide +kernel) (pa_cons (pv 2) pa_nil))
          (pe_op op_mulW (pe_op op_mulW (pe_op op_mulW (pe_op op_mulW (pe_op op_mulW (pe_op op_pow pe_int pe_int) (pe_op op_pow pe_int pe_int)) (pe_op op_pow pe_int pe_int)) (pe_op op_pow pe_int pe_int)) (pe_op op_pow pe_int pe_int)) (pe_op op_pow pe_int pe_int))) pa_nil)))) pss_nil)
      (pss_cons (ps_set (i := 3) scPool.nd rfl (.inl rfl) (pe_op op_add (pe_op op_add (pe_op op_mul (pv 2) pe_int) (pe_op op_mul (pe_op op_mul pe_int (pv 1)) (pv 1))) pe_int))
      (pss_cons (ps_set (i := 4) scPool.nd rfl (.inl rfl) pe_int)
      (pss_cons (ps_for PassesOwn.never rfl (pi_range1 (by rfl) B.range (pa_cons pe_int pa_nil)) (pg_name (i := 5) scPool.nd rfl (.inl rfl))
        (pss_cons (ps_set (i := 3) scPool.nd rfl (.inl rfl) (pe_op op_mod (pe_op op_add (pe_op op_add (pe_op op_mul (pe_op op_mod (pv 3) pe_int) pe_int) (pe_op op_mul pe_int (pv 5))) pe_int) pe_int))
        (pss_one (ps_set (i := 4) scPool.nd rfl (.inl rfl) (pe_op op_add (pe_op op_mulW (pv 4) (pe_op op_pow pe_int pe_int)) (pe_op op_mod (pe_op op_mul (pv 3) (pe_op op_add (pe_op op_mod (pv 3) pe_int) pe_int)) pe_int))))))
      (pss_one (ps_ret (pe_lst (pa_cons (pv 4) pa_nil)))))))), ?_⟩
    refine ⟨_, rfl, _, rfl, i, rfl, _, rfl, i, 1, rfl, rfl, i + 1, rfl, a, _, rfl, hs, fun p hp => ?_⟩
    obtain ⟨ms, em⟩ := cut_ints ns (some i) (some (i + 1))
    have sm : Same H (upd H p (.lst (cutV (ns.map V.int) (some i) (some (i + 1))))) := same_new hp
    refine ⟨p, ms, rfl, sqL (by rw [upd_same, em]), ?_⟩
    generalize ms.sum = c
    revert sm
    generalize upd H p (.lst (cutV (ns.map V.int) (some i) (some (i + 1)))) = H1
    intro sm
    refine ⟨_, rfl, c, 0, rfl, rfl, _, rfl, ?_⟩
    have huge : ∀ (Q2 : V → Hp → Prop), (∀ l n, H1 l = none → 0 ≤ n → n.natAbs < 2 ^ 1300 → Q2 (.ref l) (upd H1 l (.lst [.int n]))) →
        tLst (tCons (tOp (rI (fun _ j => 0 < j) fun i j => .int (i % j)) (tCB (fun xs H Q => ∃ i, xs = [.int i] ∧ Q (.int (if i < 0 then -i else i)) H) (tCons (tVar 2) tNil))
          (tOp (rI CMulW fun i j => .int (i * j)) (tOp (rI CMulW fun i j => .int (i * j)) (tOp (rI CMulW fun i j => .int (i * j)) (tOp (rI CMulW fun i j => .int (i * j)) (tOp (rI CMulW fun i j => .int (i * j)) (tOp (rI CPow fun i j => .int (i ^ j.toNat)) (tC (.int 10)) (tC (.int 64))) (tOp (rI CPow fun i j => .int (i ^ j.toNat)) (tC (.int 10)) (tC (.int 64)))) (tOp (rI CPow fun i j => .int (i ^ j.toNat)) (tC (.int 10)) (tC (.int 64)))) (tOp (rI CPow fun i j => .int (i ^ j.toNat)) (tC (.int 10)) (tC (.int 64)))) (tOp (rI CPow fun i j => .int (i ^ j.toNat)) (tC (.int 10)) (tC (.int 64)))) (tOp (rI CPow fun i j => .int (i ^ j.toNat)) (tC (.int 10)) (tC (.int 64))))) tNil)
          [some (.ref a), some (.int i), some (.int c), none, none, none] H1 Q2 := fun Q2 h => by
      have cp : CPow 10 64 := ⟨by decide, by decide, by decide⟩
      have t0 : ((10 : Int) ^ (64 : Int).toNat).natAbs < 2 ^ 213 := by decide
      have b0 : (0 : Int) < (10 : Int) ^ (64 : Int).toNat := by decide
      generalize he : (10 : Int) ^ (64 : Int).toNat = t at t0 b0
      have t1 := wide_lt t0 t0
      have t2 := wide_lt t1 t0
      have t3 := wide_lt t2 t0
      have t4 := wide_lt t3 t0
      have t5 := wide_lt t4 t0
      have b5 : 0 < t * t * t * t * t * t := Int.mul_pos (Int.mul_pos (Int.mul_pos (Int.mul_pos (Int.mul_pos b0 b0) b0) b0) b0) b0
      have hv := congrArg V.int he
      refine ⟨_, rfl, c, rfl, 10, 64, rfl, rfl, cp, 10, 64, rfl, rfl, cp, t, t, hv, hv, wide_mul t0 t0 (by decide) (by decide) (by decide), 10, 64, rfl, rfl, cp,
        t * t, t, rfl, hv, wide_mul t1 t0 (by decide) (by decide) (by decide), 10, 64, rfl, rfl, cp, t * t * t, t, rfl, hv, wide_mul t2 t0 (by decide) (by decide) (by decide), 10, 64, rfl, rfl, cp,
        t * t * t * t, t, rfl, hv, wide_mul t3 t0 (by decide) (by decide) (by decide), 10, 64, rfl, rfl, cp, t * t * t * t * t, t, rfl, hv, wide_mul t4 t0 (by decide) (by decide) (by decide),
        _, _, rfl, rfl, b5, by show 1 ≤ sizeLine; decide, fun l hl => h l _ hl (Int.emod_nonneg _ (by omega)) ?_⟩
      have := Int.emod_lt_of_pos (if c < 0 then -c else c) b5
      exact Nat.lt_of_lt_of_le (wide_le (Int.emod_nonneg _ (by omega)) (Int.le_of_lt this) t5) (pow_le (by decide))
    have fin : ∀ l n, H1 l = none → 0 ≤ n → n.natAbs < 2 ^ 1300 → Q (.ref l) (upd H1 l (.lst [.int n])) := fun l n hl h0 hB => q _ l (sm.trans (same_new hl)) (sm.free hl) ⟨n, upd_same, h0, hB⟩
    by_cases hneg : c < 0
    · rw [decide_eq_true hneg]
      exact iteT (iteT (huge Q fin))
    · rw [decide_eq_false hneg]
      refine iteF ⟨_, rfl, 10, 18, rfl, rfl, ⟨by decide, by decide, by decide⟩, c, _, rfl, rfl, _, rfl, ?_⟩
      by_cases hbig : (10 : Int) ^ (18 : Int).toNat ≤ c
      · rw [decide_eq_true hbig]
        exact iteT (huge Q fin)
      · rw [decide_eq_false hbig]
        have hc : c < 1000000000000000000 := by
          have : (10 : Int) ^ (18 : Int).toNat = 1000000000000000000 := by decide
          omega
        refine iteF ?_
        refine ⟨_, rfl, c, 48271, rfl, rfl, .inr ⟨by decide, by decide⟩, _, rfl, 977, i, rfl, rfl, .inl ⟨by decide, by decide⟩, _, rfl, _, i, rfl, rfl, .inr ⟨by omega, by omega⟩, _, _, rfl, rfl, _, 13, rfl, rfl, ?_⟩
        have m0 : 0 ≤ c * 48271 + 977 * i * i + 13 := by
          have := Int.mul_nonneg (show 0 ≤ 977 * i by omega) i0
          omega
        refine ⟨27, rfl, by decide, by decide, for_range (lo := 0) (n := 27) (fun j σ H' => ∃ (mm ff : Int) (y : Option V), σ = [some (.ref a), some (.int i), some (.int c), some (.int mm), some (.int ff), y] ∧ 0 ≤ mm ∧ 0 ≤ ff ∧ ff.natAbs < 2 ^ (37 * j) ∧ H' = H1)
          ⟨_, 0, none, rfl, m0, Int.le_refl 0, by decide, rfl⟩ ?_ ?_⟩
        · rintro j σ H' hj ⟨mm, ff, y, rfl, g1, g2, g3, rfl⟩
          have r0 := Int.emod_nonneg mm (show (999999999989 : Int) ≠ 0 by decide)
          have r1 := Int.emod_lt_of_pos mm (show (0 : Int) < 999999999989 by decide)
          refine ⟨_, rfl, mm, 999999999989, rfl, rfl, by show (0 : Int) < 999999999989; decide, _, 69621, rfl, rfl, .inr ⟨by decide, by decide⟩, _, rfl, 40503, _, rfl, rfl, .inl ⟨by decide, by decide⟩, _, _, rfl, rfl, _, 271, rfl, rfl, _, 999999999989, rfl, rfl, by show (0 : Int) < 999999999989; decide, ?_⟩
          have s0 := Int.emod_nonneg (mm % 999999999989 * 69621 + 40503 * (0 + (j : Int)) + 271) (show (999999999989 : Int) ≠ 0 by decide)
          have s1 := Int.emod_lt_of_pos (mm % 999999999989 * 69621 + 40503 * (0 + (j : Int)) + 271) (show (0 : Int) < 999999999989 by decide)
          have fB : ff.natAbs < 2 ^ 1000 := Nat.lt_of_lt_of_le g3 (pow_le (by omega))
          refine ⟨_, rfl, 10, 11, rfl, rfl, ⟨by decide, by decide, by decide⟩, ff, _, rfl, rfl, wide_mul fB (show ((10 : Int) ^ (11 : Int).toNat).natAbs < 2 ^ 64 by decide) (by decide) (by decide) (by decide), _, rfl, _, rfl, _, 65537, rfl, rfl, by show (0 : Int) < 65537; decide, _, 3, rfl, rfl, _, _, rfl, rfl, .inl ⟨Int.lt_of_lt_of_le (by decide) s0, Int.lt_trans s1 (by decide)⟩, _, 99999999977, rfl, rfl, by show (0 : Int) < 99999999977; decide, _, _, rfl, rfl, ?_⟩
          refine ⟨_, _, _, rfl, s0, ?_, ?_, rfl⟩
          · exact (found_step g2 g3 (Int.emod_nonneg _ (by decide)) (Int.emod_lt_of_pos _ (by decide))).1
          · exact (found_step g2 g3 (Int.emod_nonneg _ (by decide)) (Int.emod_lt_of_pos _ (by decide))).2
        · rintro σ H' ⟨mm, ff, y, rfl, g1, g2, g3, rfl⟩
          exact ⟨_, rfl, by show 1 ≤ sizeLine; decide, fun l hl => fin l ff hl g2 (Nat.lt_of_lt_of_le g3 (pow_le (by decide)))⟩
end
end WdQ

set_option Elab.async false
set_option linter.all false
set_option maxRecDepth 100000
set_option maxHeartbeats 4000000
namespace Wd
open PySem PySem.Spec PyProof.Rows L2 WdM
/-! ### clean data: tuples of small letters -/
def okL (x : Str) : Prop := ∀ c ∈ x.cps.toList, letB c = true
def Cl : Nat → PyData → Prop
  | _, .none => False
  | _, .bool _ => False
  | _, .int _ => False
  | _, .str x => okL x ∧ x.length ≤ 9
  | _, .list _ => False
  | 0, .tuple _ => False
  | n + 1, .tuple ds => ds.length ≤ 7 ∧ ∀ d ∈ ds, Cl n d
  | _, .dict _ => False
theorem let_lt : ∀ c ∈ lettersS.cps.toList, c < 128 := by decide +kernel
theorem okL.ok {x : Str} (h : okL x) : okS x := fun c hc => Nat.lt_trans (let_lt c (of_decide_eq_true (h c hc))) (by decide)
theorem Cl.str {n : Nat} {x : Str} (h : Cl n (.str x)) : okL x ∧ x.length ≤ 9 := by cases n <;> exact h
theorem Cl.of_str {n : Nat} {x : Str} (h : okL x ∧ x.length ≤ 9) : Cl n (.str x) := by cases n <;> exact h
theorem Cl.fine {b : Bool} : ∀ {n : Nat} {d : PyData}, Cl n d → Fine b n d
  | n, .none, h => by cases n <;> exact h.elim
  | n, .bool _, h => by cases n <;> exact h.elim
  | n, .int _, h => by cases n <;> exact h.elim
  | n, .str x, h => by
    have := h.str
    have : okS x ∧ x.length ≤ 30 := ⟨this.1.ok, by omega⟩
    cases n <;> exact this
  | n, .list _, h => by cases n <;> exact h.elim
  | n, .dict _, h => by cases n <;> exact h.elim
  | 0, .tuple _, h => h.elim
  | n + 1, .tuple ds, h => ⟨by have := h.1; omega, fun d hd => (h.2 d hd).fine⟩
/-- a clean value -/
def Cz (K : PySem.W.Frag) (n : Nat) (H : Hp) (v : V) : Prop := ∃ d, Dz [] K H v d ∧ Cl n d
section
variable {K : PySem.W.Frag} {S S' : List Addr}
theorem cl_tk {H H' : Hp} (e : Tk H H') : ∀ {n : Nat} {v : V} {d : PyData}, Cl n d → Dz S K H v d → Dz S' K H' v d := by
  intro n
  induction n with
  | zero =>
    intro v d c h
    cases h with
    | str x => exact .str x
    | _ => exact c.elim
  | succ n ih =>
    intro v d c h
    have all : ∀ {xs : List V} {ds : List PyData}, (∀ d ∈ ds, Cl n d) → DzAll S K H xs ds → DzAll S' K H' xs ds := by
      intro xs
      induction xs with
      | nil =>
        intro ds _ h
        cases h
        exact .nil
      | cons x xs ih2 =>
        intro ds hc h
        cases h with
        | cons h t => exact .cons (ih (hc _ List.mem_cons_self) h) (ih2 (fun d hd => hc d (List.mem_cons_of_mem _ hd)) t)
    cases h with
    | str x => exact .str x
    | tup h t => exact .tup (e.sq h) (all c.2 t)
    | _ => exact c.elim
theorem Cz.tk {H H' : Hp} {n : Nat} {v : V} (h : Cz K n H v) (e : Tk H H') : Cz K n H' v := by
  obtain ⟨d, h, c⟩ := h
  exact ⟨d, cl_tk e c h, c⟩
/-- a value of small data: lists where b, else dicts -/
def Bz (K : PySem.W.Frag) (S : List Addr) (b : Bool) (n : Nat) (H : Hp) (v : V) : Prop := ∃ d, Dz S K H v d ∧ Fine b n d
theorem Cz.bz {H : Hp} {n : Nat} {v : V} {b : Bool} (h : Cz K n H v) : Bz K S b n H v := by
  obtain ⟨d, h, c⟩ := h
  exact ⟨d, cl_tk (Tk.refl H) c h, c.fine⟩
theorem Bz.same {H H' : Hp} {n : Nat} {v : V} {b : Bool} (h : Bz K S b n H v) (e : Same H H') : Bz K S b n H' v := by
  obtain ⟨d, h, c⟩ := h
  exact ⟨d, h.same e, c⟩
theorem Bz.mono {H : Hp} {n m : Nat} {v : V} {b : Bool} (h : Bz K S b n H v) (l : n ≤ m) : Bz K S b m H v := by
  obtain ⟨d, h, c⟩ := h
  exact ⟨d, h, c.mono l⟩
theorem Bz.bt {H H' : Hp} {n : Nat} {v : V} {b : Bool} (h : Bz K S b n H v) (e : Bt S H H') (hl : ∀ a ∈ S, ∃ zs, H a = some (.lst zs)) : Bz K S b n H' v := by
  obtain ⟨d, h, c⟩ := h
  exact ⟨d, dz_stay (stay_bt e hl) h, c⟩
theorem Bz.less {H : Hp} {n : Nat} {v : V} {b : Bool} (h : Bz K S b n H v) : Bz K [] b n H v := by
  obtain ⟨d, h, c⟩ := h
  exact ⟨d, h.less, c⟩
theorem bz_all {H : Hp} {n : Nat} {b : Bool} : ∀ {xs : List V}, (∀ x ∈ xs, Bz K S b n H x) → ∃ ds, DzAll S K H xs ds ∧ ∀ d ∈ ds, Fine b n d
  | [], _ => ⟨[], .nil, fun _ h => nomatch h⟩
  | x :: xs, h => by
    obtain ⟨d, h1, f1⟩ := h x List.mem_cons_self
    obtain ⟨ds, h2, f2⟩ := bz_all (xs := xs) fun y hy => h y (List.mem_cons_of_mem _ hy)
    exact ⟨d :: ds, .cons h1 h2, fun e he => (List.mem_cons.mp he).elim (fun z => z ▸ f1) (f2 e)⟩
theorem bz_tup {H : Hp} {n : Nat} {b : Bool} {a : Addr} {xs : List V} (h : SqT K H a xs) (l : xs.length ≤ 8) (e : ∀ x ∈ xs, Bz K S b n H x) : Bz K S b (n + 1) H (.ref a) := by
  obtain ⟨ds, h1, f1⟩ := bz_all e
  exact ⟨.tuple ds, .tup h h1, by rw [← h1.len]; exact l, f1⟩
theorem bz_lst {H : Hp} {n : Nat} {a : Addr} {xs : List V} (na : a ∉ S) (h : SqL K H a xs) (l : xs.length ≤ 8) (e : ∀ x ∈ xs, Bz K S true n H x) : Bz K S true (n + 1) H (.ref a) := by
  obtain ⟨ds, h1, f1⟩ := bz_all e
  exact ⟨.list ds, .lst na h h1, rfl, by rw [← h1.len]; exact l, f1⟩
theorem cz_all {H : Hp} {n : Nat} : ∀ {xs : List V}, (∀ x ∈ xs, Cz K n H x) → ∃ ds, DzAll [] K H xs ds ∧ ∀ d ∈ ds, Cl n d
  | [], _ => ⟨[], .nil, fun _ h => nomatch h⟩
  | x :: xs, h => by
    obtain ⟨d, h1, f1⟩ := h x List.mem_cons_self
    obtain ⟨ds, h2, f2⟩ := cz_all (xs := xs) fun y hy => h y (List.mem_cons_of_mem _ hy)
    exact ⟨d :: ds, .cons h1 h2, fun e he => (List.mem_cons.mp he).elim (fun z => z ▸ f1) (f2 e)⟩
theorem cz_tup {H : Hp} {n : Nat} {a : Addr} {xs : List V} (h : SqT K H a xs) (l : xs.length ≤ 7) (e : ∀ x ∈ xs, Cz K n H x) : Cz K (n + 1) H (.ref a) := by
  obtain ⟨ds, h1, f1⟩ := cz_all e
  exact ⟨.tuple ds, .tup h h1, by rw [← h1.len]; exact l, f1⟩
theorem cz_str {H : Hp} {n : Nat} {z : Str} (h : okL z ∧ z.length ≤ 9) : Cz K n H (.str z) := ⟨.str z, .str z, Cl.of_str h⟩
/-- a clean value is a text or a tuple of clean ones -/
theorem cz_cases {H : Hp} {n : Nat} {v : V} (h : Cz K n H v) : (∃ z, v = .str z ∧ okL z ∧ z.length ≤ 9) ∨ ∃ (m : Nat) (a : Addr) (xs : List V), n = m + 1 ∧ v = .ref a ∧ SqT K H a xs ∧ xs.length ≤ 7 ∧ ∀ x ∈ xs, Cz K m H x := by
  obtain ⟨d, h, c⟩ := h
  cases h with
  | str x => exact .inl ⟨x, rfl, c.str⟩
  | tup h t =>
    cases n with
    | zero => exact c.elim
    | succ m =>
      refine .inr ⟨m, _, _, rfl, rfl, h, by rw [t.len]; exact c.1, fun x hx => ?_⟩
      obtain ⟨i, hi⟩ := List.mem_iff_getElem?.mp hx
      obtain ⟨e, he, q⟩ := t.get hi
      exact ⟨e, q, c.2 e (List.mem_of_getElem? he)⟩
  | non => cases n <;> exact c.elim
  | bl => cases n <;> exact c.elim
  | int => cases n <;> exact c.elim
  | lst => cases n <;> exact c.elim
  | nod => cases n <;> exact c.elim
theorem cl_dp {H : Hp} : ∀ {n : Nat} {v : V} {d : PyData}, Cl n d → Dz S K H v d → Dp K H v d := by
  intro n
  induction n with
  | zero =>
    intro v d c h
    cases h with
    | str x => exact .str x
    | _ => exact c.elim
  | succ n ih =>
    intro v d c h
    have all : ∀ {xs : List V} {ds : List PyData}, (∀ d ∈ ds, Cl n d) → DzAll S K H xs ds → DpAll K H xs ds := by
      intro xs
      induction xs with
      | nil =>
        intro ds _ h
        cases h
        exact .nil
      | cons x xs ih2 =>
        intro ds hc h
        cases h with
        | cons h t => exact .cons (ih (hc _ List.mem_cons_self) h) (ih2 (fun d hd => hc d (List.mem_cons_of_mem _ hd)) t)
    cases h with
    | str x => exact .str x
    | tup h t => exact .tup h (all c.2 t)
    | _ => exact c.elim
end
theorem strOk_of {x : Str} (h : okS x) : PyData.strOk x = true := by
  unfold PyData.strOk
  rw [Array.all_eq_true']
  intro c hc
  exact decide_eq_true (h c (Array.mem_toList_iff.mpr hc))
theorem canLayAll_of : ∀ {ds : List PyData}, (∀ d ∈ ds, PyData.canLay0 d = true) → PyData.canLayAll0 ds = true
  | [], _ => by simp [PyData.canLayAll0]
  | d :: ds, h => by
    simp only [PyData.canLayAll0, h d List.mem_cons_self, Bool.true_and]
    exact canLayAll_of fun x hx => h x (List.mem_cons_of_mem _ hx)
theorem cl_lay : ∀ {n : Nat} {d : PyData}, Cl n d → PyData.canLay0 d = true := by
  intro n
  induction n with
  | zero =>
    intro d c
    cases d with
    | str x => simp only [PyData.canLay0]; exact strOk_of c.1.ok
    | _ => exact c.elim
  | succ n ih =>
    intro d c
    cases d with
    | str x => simp only [PyData.canLay0]; exact strOk_of c.1.ok
    | tuple ds => simp only [PyData.canLay0]; exact canLayAll_of fun d hd => ih (c.2 d hd)
    | _ => exact c.elim
theorem cl_shaped {n : Nat} {d : PyData} (c : Cl n d) (hn : n ≤ 64) : SeqAt.shaped d = true := by
  unfold SeqAt.shaped
  rw [cl_lay c, decide_eq_true (Nat.le_trans (c.fine (b := true)).shown.2.2.1 hn)]
  rfl
/-! ### great letters -/
theorem up_lt : ∀ c ∈ lettersS.cps.toList, ∀ e ∈ Unicode.upperOf c, e < 1114112 := by decide +kernel
theorem up_ok {x : Str} (h : okL x) : okS (Txt.upper x) := by
  intro e he
  have he : e ∈ (Txt.upper x).cps := Array.mem_toList_iff.mp he
  unfold Txt.upper placed at he
  obtain ⟨ys, hy, hm⟩ := Array.mem_flatten.mp he
  obtain ⟨i, hi, rfl⟩ := Array.mem_mapIdx.mp hy
  exact up_lt _ (of_decide_eq_true (h _ (Array.mem_toList_iff.mpr (Array.getElem_mem hi)))) e (by simpa using hm)
/-! ### cuts of a list -/
theorem cut_front {xs : List V} {k : Nat} (h : k ≤ xs.length) : cutV xs none (some (k : Int)) = xs.take k := by
  unfold cutV
  rw [HT.sIx_none, HT.sIx_nat, Nat.min_eq_left h]
  simp
theorem cut_back {xs : List V} {k : Nat} (h : k ≤ xs.length) : cutV xs (some (k : Int)) none = xs.drop k := by
  unfold cutV
  rw [HT.sIx_none, HT.sIx_nat, Nat.min_eq_left h]
  rw [List.take_of_length_le (by rw [List.length_drop]; omega)]
theorem cut_mem {xs : List V} {lo hi : Option Int} {x : V} (h : x ∈ cutV xs lo hi) : x ∈ xs := by
  unfold cutV at h
  exact List.mem_of_mem_drop (List.mem_of_mem_take h)
end Wd

set_option Elab.async false
set_option linter.all false
set_option maxRecDepth 100000
set_option maxHeartbeats 4000000
namespace Wd
open PySem PySem.Spec PyProof.Rows L2 WdM
/-! ### unlike names -/
/-- a text of letters, not too long -/
def wdB (n : Nat) (z : Str) : Prop := okL z ∧ 1 ≤ z.length ∧ z.length ≤ n
/-- a drawn name -/
def Nm (z : Str) : Prop := wdB 6 z ∧ inV (.str z) noNames = false
theorem Nm.name {z : Str} (h : Nm z) : nmB z = true := by
  unfold nmB
  rw [h.2, decide_eq_true (show 1 ≤ z.length ∧ z.length ≤ 8 from ⟨h.1.2.1, by have := h.1.2.2; omega⟩)]
  rw [show z.cps.toList.all letB = true from List.all_eq_true.mpr h.1.1]
  rfl
theorem app_cps (x y : Str) : (x ++ y).cps.toList = x.cps.toList ++ y.cps.toList := by
  show (x.cps ++ y.cps).toList = _
  exact Array.toList_append
theorem str_ext {x y : Str} (h : x.cps.toList = y.cps.toList) : x = y := by
  cases x; cases y
  have := Array.toList_inj.mp h
  simp only at this
  rw [this]
theorem app_len (x y : Str) : (x ++ y).length = x.length + y.length := by
  show (x.cps ++ y.cps).size = _
  rw [Array.size_append]
  rfl
theorem okL_app {x y : Str} (hx : okL x) (hy : okL y) : okL (x ++ y) := fun c hc => by
  rw [app_cps] at hc
  rcases List.mem_append.mp hc with h | h
  · exact hx c h
  · exact hy c h
theorem cut_sub {z : Str} {lo hi : Option Int} {c : Nat} (h : c ∈ (cutS z lo hi).cps.toList) : c ∈ z.cps.toList := by
  unfold cutS at h
  exact List.mem_of_mem_drop (List.mem_of_mem_take h)
/-- word[:4] + letter + "x" -/
def cand (z : Str) (c : Nat) : Str := cutS z none (some 4) ++ ⟨#[c]⟩ ++ "x"
theorem cand_cps (z : Str) (c : Nat) : (cand z c).cps.toList = (cutS z none (some 4)).cps.toList ++ [c, 120] := by
  unfold cand
  rw [app_cps, app_cps, List.append_assoc]
  rfl
theorem cand_inj {z : Str} {c d : Nat} (h : cand z c = cand z d) : c = d := by
  have := congrArg (fun s : Str => s.cps.toList) h
  simp only [cand_cps] at this
  have := List.append_cancel_left this
  exact (List.cons.inj this).1
theorem eqV_str {a b : Str} (h : eqV (.str a) (.str b) = true) : a = b := by
  have h : (a == b) = true := h
  exact eq_of_beq h
theorem inV_str {z : Str} {ws : List Str} : inV (.str z) (ws.map V.str) = true ↔ z ∈ ws := by
  unfold inV
  rw [List.any_map, List.any_eq_true]
  constructor
  · rintro ⟨x, hx, e⟩
    rw [← eqV_str e]
    exact hx
  · intro h
    exact ⟨z, h, by show (z == z) = true; exact beq_self_eq_true z⟩
def noS : List Str := ["all", "and", "children", "childless", "crown", "else", "if", "lives", "not", "of", "or", "stock", "to"]
theorem noNames_eq : noNames = noS.map V.str := rfl
theorem no_last : ∀ z ∈ noS, z.cps.toList.getLast? ≠ some 120 := by decide +kernel
theorem cand_no {z : Str} {c : Nat} : inV (.str (cand z c)) noNames = false := by
  rw [Bool.eq_false_iff, noNames_eq]
  intro h
  have := no_last _ (inV_str.mp h)
  rw [cand_cps] at this
  exact this (by simp)
theorem cand_wd {z : Str} {c : Nat} (h : okL z) (hc : letB c = true) : wdB 6 (cand z c) := by
  refine ⟨?_, ?_, ?_⟩
  · intro x hx
    rw [cand_cps] at hx
    rcases List.mem_append.mp hx with h1 | h1
    · exact h x (cut_sub h1)
    · simp only [List.mem_cons, List.not_mem_nil, or_false] at h1
      rcases h1 with rfl | rfl
      · exact hc
      · decide
  · unfold cand
    rw [app_len]
    show 1 ≤ _ + 1
    omega
  · unfold cand
    rw [app_len, app_len]
    have : (cutS z none (some 4)).length ≤ 4 := by
      show (((z.cps.toList.drop (HT.sIx z.length 0 none)).take (HT.sIx z.length z.length (some 4) - HT.sIx z.length 0 none)).toArray).size ≤ 4
      rw [List.size_toArray, List.length_take, List.length_drop]
      have : HT.sIx z.length z.length (some 4) ≤ 4 := by
        unfold HT.sIx
        simp
        omega
      omega
    show _ + 1 + 1 ≤ 6
    omega
theorem pick {f : Nat → Str} (inj : ∀ c d, f c = f d → c = d) : ∀ (cs : List Nat) (found : List Str), cs.Nodup → (∀ c ∈ cs, f c ∈ found) → cs.length ≤ found.length
  | [], _, _, _ => Nat.zero_le _
  | c :: cs, found, nd, h => by
    have h0 := h c List.mem_cons_self
    have nd' := List.nodup_cons.mp nd
    have := pick inj cs (found.erase (f c)) nd'.2 (fun d hd => by
      refine (List.mem_erase_of_ne (fun e => ?_)).mpr (h d (List.mem_cons_of_mem _ hd))
      exact nd'.1 (inj _ _ e ▸ hd))
    rw [List.length_erase_of_mem h0] at this
    have := List.length_pos_of_mem h0
    rw [List.length_cons]
    omega
theorem letters_nodup : lettersS.cps.toList.Nodup := by decide +kernel
/-- the candidates of a word, and those that may be taken -/
def cands (z : Str) : List Str := z :: lettersS.cps.toList.map (cand z)
def freeB (found : List Str) (z : Str) : Bool := !inV (.str z) (found.map V.str) && !inV (.str z) noNames
theorem some_free {z : Str} {found : List Str} (h : found.length < 26) : ∃ y ys, (cands z).filter (freeB found) = y :: ys := by
  cases e : (cands z).filter (freeB found) with
  | cons y ys => exact ⟨y, ys, rfl⟩
  | nil =>
    exfalso
    have all : ∀ c ∈ lettersS.cps.toList, cand z c ∈ found := fun c hc => by
      have := List.filter_eq_nil_iff.mp e (cand z c) (List.mem_cons_of_mem _ (List.mem_map_of_mem hc))
      unfold freeB at this
      rw [cand_no] at this
      apply inV_str.mp
      cases h2 : inV (.str (cand z c)) (found.map V.str) with
      | true => rfl
      | false => rw [h2] at this; exact absurd rfl this
    have := pick (f := cand z) (fun _ _ => cand_inj) _ _ letters_nodup all
    have : lettersS.cps.toList.length = 26 := by decide +kernel
    omega
theorem free_nm {z y : Str} {found : List Str} (hz : wdB 6 z) (h : y ∈ (cands z).filter (freeB found)) : Nm y ∧ y ∉ found := by
  obtain ⟨h1, h2⟩ := List.mem_filter.mp h
  obtain ⟨a, b⟩ := Bool.and_eq_true_iff.mp h2
  have b : inV (.str y) noNames = false := by simpa using b
  have a : inV (.str y) (found.map V.str) = false := by simpa using a
  refine ⟨⟨?_, b⟩, fun m => by rw [inV_str.mpr m] at a; cases a⟩
  rcases List.mem_cons.mp h1 with rfl | h1
  · exact hz
  · obtain ⟨c, hc, rfl⟩ := List.mem_map.mp h1
    exact cand_wd hz.1 (decide_eq_true hc)
/-! ### texts in their order -/
def LtS (a b : Str) : Prop := a.cps.toList < b.cps.toList
theorem LtS.trans {a b c : Str} (h : LtS a b) (h2 : LtS b c) : LtS a c := List.lt_trans h h2
theorem lt_of_not {a b : Str} (h : ltCps b.cps.toList a.cps.toList = false) (n : a ≠ b) : LtS a b := by
  rw [ltCps_eq] at h
  have h := of_decide_eq_false h
  have h1 := List.not_lt.mp h
  apply Classical.byContradiction
  intro h2
  exact n (str_ext (List.le_antisymm h1 (List.not_lt.mp h2)))
theorem rising_pw : ∀ (p : Str) (l : List Str), risingS p l = true → (p :: l).Nodup → (p :: l).Pairwise LtS
  | p, [], _, _ => List.pairwise_singleton _ _
  | p, x :: r, h, nd => by
    obtain ⟨h1, h2⟩ := Bool.and_eq_true_iff.mp (show (!ltCps x.cps.toList p.cps.toList && risingS x r) = true from h)
    have h1 : ltCps x.cps.toList p.cps.toList = false := by simpa using h1
    have nd' := List.nodup_cons.mp nd
    have ih := rising_pw x r h2 nd'.2
    have px : LtS p x := lt_of_not h1 (fun e => nd'.1 (e ▸ List.mem_cons_self))
    refine List.pairwise_cons.mpr ⟨fun y hy => ?_, ih⟩
    rcases List.mem_cons.mp hy with rfl | hy
    · exact px
    · exact px.trans ((List.pairwise_cons.mp ih).1 y hy)
theorem sorted_pw {l : List Str} (h : sortedS l = true) (nd : l.Nodup) : l.Pairwise LtS := by
  cases l with
  | nil => exact List.Pairwise.nil
  | cons x r => exact rising_pw x r h nd
theorem pw_next : ∀ {l : List Str} {i : Nat} {a b : Str}, l.Pairwise LtS → l[i]? = some a → l[i + 1]? = some b → LtS a b
  | [], i, a, b, _, h, _ => by cases h
  | x :: l, 0, a, b, p, h, h2 => by
    cases h
    exact (List.pairwise_cons.mp p).1 b (List.mem_of_getElem? (show l[0]? = some b from h2))
  | x :: l, i + 1, a, b, p, h, h2 => pw_next (List.pairwise_cons.mp p).2 (show l[i]? = some a from h) (show l[i + 1]? = some b from h2)
end Wd

set_option Elab.async false
set_option linter.all false
set_option maxRecDepth 100000
set_option maxHeartbeats 4000000
set_option exponentiation.threshold 5000
namespace WdQ
open PySem PySem.Spec PyProof.Rows L2 WdM Wd
abbrev sWords : Stmt := topS 59
def nWords : List Str := ["_law_pool_here", "_law_many", "_law_own", "_law_letters", "_law_found", "_law_turn", "_law_word", "_law_place", "_law_letter", "_law_some", "_law_odd", "_law_one"]
theorem scWords : FnScope nWords ["_law_pool_here", "_law_many"] (defScope sWords) := ⟨rfl, rfl, rfl, by decide +kernel, rfl, by decide +kernel, by decide +kernel⟩
def ownS : List Str := ["give", "pay", "rest", "wait", "ranks", "sums", "names", "kinds", "person", "thing", "none", "deal"]
def ownW : List V := ownS.map V.str
theorem own_wd : ∀ z ∈ ownS, wdB 6 z := by
  have : ∀ z ∈ ownS, z.cps.toList.all letB = true ∧ 1 ≤ z.length ∧ z.length ≤ 6 := by decide +kernel
  exact fun z hz => ⟨fun c hc => List.all_eq_true.mp (this z hz).1 c hc, (this z hz).2⟩
def tWsN (ws : List V) : TE := fun σ H Q => ∀ p H', Same H H' → H p = none → H' p = some (.lst ws) → Q (.ref p) H'
/-- one word is drawn -/
def tIfW : TS := fun D σ H => ∃ (l : Addr) (y1 y2 y4 y5 y9 y10 : Option V) (z : Str), σ = [some (.ref l), y1, y2, some (.str lettersS), y4, y5, some (.str z), none, none, y9, y10, none] ∧ PoolAt H l ∧ wdB 6 z ∧ ∀ H' z', Bt [l] H H' → PoolAt H' l → wdB 6 z' → D.nx [some (.ref l), y1, y2, some (.str lettersS), y4, y5, some (.str z'), none, none, y9, y10, none] H'
theorem at_letters {d : Int} (d0 : 0 ≤ d) (d1 : d < 26) : ∃ c, atI lettersS.cps.toList d = some c ∧ letB c = true := by
  obtain ⟨n, rfl⟩ := Int.eq_ofNat_of_zero_le d0
  have hn : n < lettersS.cps.toList.length := by
    show n < 26
    omega
  exact ⟨_, atI_nat (List.getElem?_eq_getElem hn), decide_eq_true (List.getElem_mem hn)⟩
theorem ones_sum : ∀ cs : List Nat, ((cs.map fun c => (⟨#[c]⟩ : Str)).map (·.length)).sum = cs.length
  | [] => rfl
  | c :: cs => by
    rw [List.map_cons, List.map_cons, List.sum_cons, ones_sum cs, List.length_cons]
    show 1 + _ = _
    omega
theorem flat_strs (zs : List Str) : (zs.map V.str).all flatV = true := by
  rw [List.all_map, List.all_eq_true]
  exact fun _ _ => rfl
theorem joinL_one : ∀ cs : List Nat, TL.joinL [] (cs.map fun c => [c]) = cs
  | [] => rfl
  | [_] => rfl
  | c :: d :: cs => by
    have := joinL_one (d :: cs)
    show [c] ++ ([] ++ TL.joinL [] ((d :: cs).map fun c => [c])) = _
    rw [this]
    rfl
theorem join_letters : ∀ {cs : List Nat}, (∀ c ∈ cs, letB c = true) → okL (Txt.join "" (cs.map fun c => (⟨#[c]⟩ : Str))) ∧ (Txt.join "" (cs.map fun c => (⟨#[c]⟩ : Str))).length = cs.length := by
  intro cs h
  have e : Txt.join "" (cs.map fun c => (⟨#[c]⟩ : Str)) = ⟨cs.toArray⟩ := by
    rw [TL.join_eq]
    refine TL.ext_tl ?_
    rw [TL.tl_join, List.map_map]
    have := joinL_one cs
    exact this.trans (by show cs = cs.toArray.toList; simp)
  rw [e]
  exact ⟨fun c hc => h c (by simpa using hc), by show cs.toArray.size = _; simp⟩
section
variable {P : Program} {w : World} {K : PySem.W.Frag} {mg : Str → Option Value} {base : Heap}
def spWords : Sp := fun vs H Q _ => ∃ (l : Addr) (m : Nat), vs = [.ref l, .int (m : Nat)] ∧ PoolAt H l ∧ m ≤ 20 ∧ ∀ (H' : Hp) (p : Addr) (zs : List Str), Bt [l] H H' → PoolAt H' l → H p = none → H' p = some (.lst (zs.map V.str)) → zs.length = m → zs.Nodup → (∀ z ∈ zs, Nm z) → Q (.ref p) H'
theorem ok_words {f fT : Addr} {fd fdT : FuncData} {k : Nat} (B : Bi mg) (D : Df K mg "_law_words" sWords f fd ["_law_pool_here", "_law_many"]) (DT : Df K mg "_law_take" sTake fT fdT ["_law_pool_here", "_law_many"]) (GT : FnOk P w K mg base CX0 (k + 1) fT fdT ["_law_pool_here", "_law_many"] spTake) : FnOk P w K mg base CX0 (k + 2) f fd ["_law_pool_here", "_law_many"] spWords := by
  refine D.fn.ok scWords (fun vs H Q E h => ?_) (fun cdv A outer s H vs Q E hr h => ?_)
  · obtain ⟨l, m, rfl, _⟩ := h
    rfl
  · obtain ⟨l, m, rfl, pool, m20, q⟩ := h
    refine ⟨_, pss_cons (ps_set (i := 2) scWords.nd rfl (.inl rfl) (PE.wk (t' := tWsN ownW) (pe_lst (pa_cons pe_str (pa_cons pe_str (pa_cons pe_str (pa_cons pe_str (pa_cons pe_str (pa_cons pe_str (pa_cons pe_str (pa_cons pe_str (pa_cons pe_str (pa_cons pe_str (pa_cons pe_str (pa_cons pe_str pa_nil))))))))))))) (by intro σ H Q q; exact ⟨by show ownW.length ≤ sizeLine; decide, fun p n => q p _ (same_new n) n upd_same⟩)))
      (pss_cons (ps_asg (pe_tup (pa_cons pe_str (pa_cons (pe_lst pa_nil) pa_nil))) (pg_tup rfl (pgs_cons (pg_name (i := 3) scWords.nd rfl (.inr rfl)) (pgs_cons (pg_name (i := 4) scWords.nd rfl (.inr rfl)) pgs_nil))))
      (pss_cons (ps_for PassesOwn.never rfl (pi_range1 (by rfl) B.range (pa_cons (pv 1) pa_nil)) (pg_name (i := 5) scWords.nd rfl (.inl rfl))
        (pss_cons (ps_set (i := 6) scWords.nd rfl (.inr rfl) (pe_ix (r := rIxL K) ix_list (pv 2) (pe_call GT hr (by rfl) DT.mg DT.fn.kp DT.bd .nil pass0 (pa_cons (pv 0) (pa_cons pe_int pa_nil))) (fun _ _ => rfl)))
        (pss_cons (PS.wk (t' := tIfW) (ps_if (pt_cmpR op_gt (pe_call GT hr (by rfl) DT.mg DT.fn.kp DT.bd .nil pass0 (pa_cons (pv 0) (pa_cons pe_int pa_nil))) pe_int (nomark _))
          (pss_one (ps_set (i := 6) scWords.nd rfl (.inr rfl) (pe_join pe_str (pe_lc (own := [("_law_place", 7)]) (g := gName 7) (tt := tYes) rfl scWords.nd (pi_range1 (by rfl) B.range (pa_cons (pe_op op_add pe_int (pe_call GT hr (by rfl) DT.mg DT.fn.kp DT.bd .nil pass0 (pa_cons (pv 0) (pa_cons pe_int pa_nil)))) pa_nil)) (blkOk_by (own := [("_law_place", 7)]) (N := nWords) (sc := defScope sWords) (by decide +kernel))
            (fun _ _ _ _ _ => pg_name (i := 7) scWords.nd rfl (Or.inl rfl)) (fun _ _ _ _ _ => pts_nil)
            (fun _ _ _ _ _ => pe_ix (r := rIxS) ix_str (pv 3) (pe_call GT hr (by rfl) DT.mg DT.fn.kp DT.bd .nil pass0 (pa_cons (pv 0) (pa_cons pe_int pa_nil))) (fun _ _ => rfl)))))) pss_nil) (by
          rintro D σ H ⟨l, y1, y2, y4, y5, y9, y10, z, rfl, pool, wz, q⟩
          refine ⟨_, rfl, l, 4, rfl, pool, by decide, fun H6 d6 b6 pool6 d60 d61 => ⟨d6, 0, rfl, rfl, _, rfl, ?_⟩⟩
          by_cases dp : (0 : Int) < d6
          rotate_left
          · rw [decide_eq_false dp]
            exact iteF (q H6 z b6 pool6 wz)
          rw [decide_eq_true dp]
          refine iteT ⟨⟨_, rfl⟩, _, rfl, l, 5, rfl, pool6, by decide, fun H7 d7 b7 pool7 d70 d71 => ⟨1, d7, rfl, rfl, 1 + d7, rfl, by omega, by omega, fun L nL => ?_⟩⟩
          have nlL : l ≠ L := pool7.ne nL
          refine lc_range (lo := 0) (n := (1 + d7).toNat) (fun j H' => ∃ cs : List Nat, H' L = some (.lst ((cs.map fun c => (⟨#[c]⟩ : Str)).map V.str)) ∧ cs.length = j ∧ (∀ c ∈ cs, letB c = true) ∧ PoolAt H' l ∧ Bt [l] H7 H') ⟨[], upd_same, rfl, (fun x hx => nomatch hx), pool7.upd nlL, (Bt.refl H7).new nL⟩ ?_ ?_
          · rintro j H8 hj ⟨cs, hL, cl, lt, pool8, b8⟩
            refine ⟨rfl, tyes (iteT ⟨_, rfl, _, rfl, l, 26, rfl, pool8, by decide, fun H9 d9 b9 pool9 d90 d91 => ?_⟩)⟩
            obtain ⟨c, hc, lc⟩ := at_letters d90 d91
            refine ⟨lettersS, d9, c, rfl, rfl, by show 26 ≤ sizeLine; decide, hc, _, kept b9 hL (by simp [nlL.symm]), ?_, cs ++ [c], ?_, ?_, ?_, pool9.upd nlL, (b8.trans b9).upd0 nL⟩
            · rw [List.length_map, List.length_map, cl]
              exact Nat.lt_of_lt_of_le (show j < 8 by omega) (by decide)
            · rw [upd_same, List.map_append, List.map_append]
              rfl
            · rw [List.length_append, cl]
              rfl
            · intro x hx
              rcases List.mem_append.mp hx with h | h
              · exact lt x h
              · rw [List.mem_singleton.mp h]
                exact lc
          · rintro H8 ⟨cs, hL, cl, lt, pool8, b8⟩
            obtain ⟨k1, k2⟩ := join_letters lt
            refine ⟨_, L, cs.map fun c => (⟨#[c]⟩ : Str), rfl, rfl, .inl (sqL hL), ?_, ?_⟩
            · rw [ones_sum, List.length_map]
              show cs.length + cs.length * 0 ≤ 16777216
              omega
            · exact q H8 _ ((b6.trans b7).trans b8) pool8 ⟨k1, by omega, by omega⟩))
        (pss_cons (ps_set (i := 9) scWords.nd rfl (.inl rfl) (pe_op op_cat (pe_lst (pa_cons (pv 6) pa_nil)) (pe_lc (own := [("_law_letter", 8)]) (g := gName 8) (tt := tYes) rfl scWords.nd (pi_str (pv 3)) (blkOk_by (own := [("_law_letter", 8)]) (N := nWords) (sc := defScope sWords) (by decide +kernel))
            (fun _ _ _ _ _ => pg_name (i := 8) scWords.nd rfl (Or.inl rfl)) (fun _ _ _ _ _ => pts_nil)
            (fun _ _ _ _ _ => pe_op op_add_str (pe_op op_add_str (pe_slice (r := rSlS) sl_str (pv 6) po_none (po_some pe_int)) (pv 8)) pe_str))))
        (pss_cons (ps_set (i := 10) scWords.nd rfl (.inr rfl) (PE.wk (t' := tWsN noNames) (pe_lst (pa_cons pe_str (pa_cons pe_str (pa_cons pe_str (pa_cons pe_str (pa_cons pe_str (pa_cons pe_str (pa_cons pe_str (pa_cons pe_str (pa_cons pe_str (pa_cons pe_str (pa_cons pe_str (pa_cons pe_str (pa_cons pe_str pa_nil)))))))))))))) (by intro σ H Q q; exact ⟨by show noNames.length ≤ sizeLine; decide, fun p n => q p _ (same_new n) n upd_same⟩)))
        (pss_one (ps_expr (pe_bm PySem.F.plainAttrs_list PySem.F.slot_list_append PySem.F.type_list_append mt_append (pv 4) (pa_cons (pe_ix (r := rIxL K) ix_list (pe_lc (own := [("_law_one", 11)]) (g := gName 11) rfl scWords.nd (pi_list (pv 9)) (blkOk_by (own := [("_law_one", 11)]) (N := nWords) (sc := defScope sWords) (by decide +kernel))
            (fun _ _ _ _ _ => pg_name (i := 11) scWords.nd rfl (Or.inl rfl)) (fun _ _ _ _ _ => pts_one (PW.pt (pw_and (pt_cmpR (r := rIn K true) op_notIn_seq (pv 11) (pv 4) (by rfl)) (pw_and1 (pt_cmpR (r := rIn K true) op_notIn_seq (pv 11) (pv 10) (by rfl))))))
            (fun _ _ _ _ _ => pv 11)) pe_int (fun _ _ => rfl)) pa_nil)))))))))
      (pss_one (ps_ret (pv 4))))), ?_⟩
    intro aO H1 s1 nO hO
    refine ⟨by show 0 ≤ sizeLine; decide, fun aF nF => ?_⟩
    have pool2 := (pool.same s1).upd (o := .lst []) ((pool.same s1).ne nF)
    have hO2 : (upd H1 aF (.lst [])) aO = some (.lst ownW) := by rw [upd_ne (ne_of_none hO nF)]; exact hO
    have s2 : Same H (upd H1 aF (.lst [])) := s1.trans (same_new nF)
    have hF2 : (upd H1 aF (.lst [])) aF = some (.lst []) := upd_same
    revert pool2 hO2 s2 hF2
    generalize upd H1 aF (.lst []) = H2
    intro pool2 hO2 s2 hF2
    refine ⟨by show 2 ≤ sizeLine; decide, fun tp ntp => ⟨tp, _, rfl, sqT upd_same, rfl, _, _, rfl, _, _, rfl, rfl, ?_⟩⟩
    have s23 : Same H2 (upd H2 tp (.tup [.str "abcdefghijklmnopqrstuvwxyz", .ref aF])) := same_new ntp
    revert s23
    generalize upd H2 tp (.tup [.str "abcdefghijklmnopqrstuvwxyz", .ref aF]) = H3
    intro s23
    have pool3 := pool2.same s23
    have b3 : Bt [l] H H3 := Bt.of_same (s2.trans s23)
    have hO3 := s23 _ _ hO2
    have hF3 := s23 _ _ hF2
    have nlO : aO ≠ l := lst_ne pool3 hO3 (by decide)
    have nlF : aF ≠ l := lst_ne pool3 hF3 (by decide)
    have nFO : aO ≠ aF := fun e => by
      rw [e, hF3] at hO3
      cases hO3
    have fF : H aF = none := s1.free nF
    refine ⟨_, rfl, (m : Int), rfl, by omega, by omega, for_range (lo := 0) (n := ((m : Nat) : Int).toNat) (fun i σ H' => (∃ y5 y6 y9 y10 : Option V, σ = [some (.ref l), some (.int (m : Nat)), some (.ref aO), some (.str lettersS), some (.ref aF), y5, y6, none, none, y9, y10, none]) ∧ H' aO = some (.lst ownW) ∧ (∃ zs : List Str, H' aF = some (.lst (zs.map V.str)) ∧ zs.length = i ∧ zs.Nodup ∧ ∀ z ∈ zs, Nm z) ∧ Bt [l] H H' ∧ PoolAt H' l) ⟨⟨none, none, none, none, rfl⟩, hO3, ⟨[], hF3, rfl, List.nodup_nil, fun z hz => nomatch hz⟩, b3, pool3⟩ ?_ ?_⟩
    · rintro i σ H4 hi ⟨⟨y5, y6, y9, y10, rfl⟩, hO4, ⟨zs, hF4, zl, nd, nm⟩, b4, pool4⟩
      refine ⟨_, rfl, _, rfl, l, 12, rfl, pool4, by decide, fun H5 d5 b5 pool5 d50 d51 => ?_⟩
      obtain ⟨v5, e5, z5, rfl, w5⟩ := at_of (P := fun v => ∃ z, v = .str z ∧ wdB 6 z) (xs := ownW) (d := d5) (fun x hx => by
        obtain ⟨z, hz, rfl⟩ := List.mem_map.mp hx
        exact ⟨z, rfl, own_wd z hz⟩) d50 (by show d5 < 12; omega)
      have hO5 := kept b5 hO4 (by simp [nlO])
      refine ⟨aO, _, d5, _, rfl, rfl, sqL hO5, e5, ?_⟩
      refine ⟨l, _, _, _, _, _, _, z5, rfl, pool5, w5, fun H6 z6 b6 pool6 w6 => ?_⟩
      have b46 := b5.trans b6
      have hO6 := kept b46 hO4 (by simp [nlO])
      have hF6 := kept b46 hF4 (by simp [nlF])
      have b06 := b4.trans b46
      have z66 := w6.2.2
      refine ⟨_, rfl, by show 1 ≤ sizeLine; decide, fun p7 n7 => ⟨_, rfl, lettersS, rfl, fun L nL => ?_⟩⟩
      have h7 : (upd H6 p7 (.lst [.str z6])) p7 = some (.lst [.str z6]) := upd_same
      have s7 : Same H6 (upd H6 p7 (.lst [.str z6])) := same_new n7
      revert h7 s7 nL
      generalize upd H6 p7 (.lst [.str z6]) = H7
      intro nL h7 s7
      refine lc_it walk_str (fun i H' => H' L = some (.lst (((lettersS.cps.toList.take i).map (cand z6)).map V.str)) ∧ Same H7 H') ⟨upd_same, same_new nL⟩ (fun _ _ _ _ => trivial) ?_ ?_
      · rintro i x H8 H' hx ⟨hL, sm⟩ ⟨rfl, c, hc, rfl⟩
        have hc' : lettersS.cps.toList[i]? = some c := by simpa using hc
        refine ⟨rfl, tyes (iteT ⟨_, rfl, 4, rfl, z6, rfl, ?_, _, rfl, cutS z6 none (some 4), ⟨#[c]⟩, rfl, rfl, ?_, cutS z6 none (some 4) ++ ⟨#[c]⟩, "x", rfl, rfl, ?_, _, hL, ?_, ?_, ?_⟩)⟩
        · exact Nat.le_trans z66 (by decide)
        · have := cutS_length z6 none (some 4)
          show _ + 1 ≤ sizeLine
          exact Nat.le_trans (show _ ≤ 8 by omega) (by decide)
        · have := cutS_length z6 none (some 4)
          rw [app_len]
          show _ + 1 + 1 ≤ sizeLine
          exact Nat.le_trans (show _ ≤ 8 by omega) (by decide)
        · rw [List.length_map, List.length_map, List.length_take]
          exact Nat.lt_of_lt_of_le (show _ < 26 by have := lt_get hc'; have : lettersS.cps.toList.length = 26 := by decide +kernel
                                                   omega) (by decide)
        · rw [upd_same, take_more hc', List.map_append, List.map_append]
          rfl
        · exact ((Bt.of_same (S := []) sm).upd0 nL).same
      · rintro H8 ⟨hL, s8⟩
        have e : lettersS.cps.toList.take lettersS.cps.size = lettersS.cps.toList := List.take_of_length_le (by simp)
        rw [e] at hL
        refine ⟨p7, L, _, _, rfl, rfl, s8 _ _ h7, hL, ?_, fun p9 n9 => ?_⟩
        · rw [List.length_map, List.length_map]
          show 1 + 26 ≤ sizeLine
          decide
        have h9 : (upd H8 p9 (.lst ([.str z6] ++ ((lettersS.cps.toList.map (cand z6)).map V.str)))) p9 = some (.lst ((cands z6).map V.str)) := upd_same
        have s9 : Same H6 (upd H8 p9 (.lst ([.str z6] ++ ((lettersS.cps.toList.map (cand z6)).map V.str)))) := (s7.trans s8).trans (same_new n9)
        revert h9 s9
        generalize upd H8 p9 (.lst ([.str z6] ++ ((lettersS.cps.toList.map (cand z6)).map V.str))) = H9
        intro h9 s9
        intro aD HD sD nD hD9
        have h9 := sD _ _ h9
        have s9 := s9.trans sD
        have hF9 := s9 _ _ hF6
        clear n9
        revert h9 s9 hF9 hD9
        generalize HD = H9
        intro hD9 h9 s9 hF9
        refine ⟨_, rfl, .inl ⟨rfl, _, sqL hF9⟩, _, rfl, p9, rfl, ⟨_, sqL h9⟩, fun L2 nL2 => lc_list (K := K) (a := p9) (xs := (cands z6).map V.str) (fun i H' => H' L2 = some (.lst ((((cands z6).take i).filter (freeB zs)).map V.str)) ∧ Same H9 H') ⟨upd_same, same_new nL2⟩ (fun i H' _ h => sqL (h.2 _ _ h9)) ?_ ?_⟩
        · rintro i x H' hx ⟨hL2, sm⟩
          obtain ⟨y, hy, rfl⟩ : ∃ y, (cands z6)[i]? = some y ∧ x = .str y := by
            rw [List.getElem?_map] at hx
            cases hc : (cands z6)[i]? with
            | none => rw [hc] at hx; cases hx
            | some y => rw [hc] at hx; cases hx; exact ⟨y, rfl, rfl⟩
          have no : freeB zs y = false → ((cands z6).take (i + 1)).filter (freeB zs) = ((cands z6).take i).filter (freeB zs) := fun e => by
            rw [take_more hy, List.filter_append, List.filter_cons, e]
            simp
          have yes : freeB zs y = true → ((cands z6).take (i + 1)).filter (freeB zs) = ((cands z6).take i).filter (freeB zs) ++ [y] := fun e => by
            rw [take_more hy, List.filter_append, List.filter_cons, e]
            simp
          refine ⟨rfl, ⟨_, rfl, _, rfl, aF, _, rfl, .inl (sqL (sm _ _ hF9)), rfl, flat_strs zs, _, rfl, ?_⟩⟩
          cases c1 : inV (.str y) (zs.map V.str) with
          | true =>
            refine iteF (iteF ⟨?_, sm⟩)
            rw [no (by unfold freeB; rw [c1]; rfl)]
            exact hL2
          | false =>
            refine iteT ⟨_, rfl, _, rfl, aD, _, rfl, .inl (sqL (sm _ _ hD9)), rfl, rfl, _, rfl, ?_⟩
            cases c2 : inV (.str y) noNames with
            | true =>
              refine iteF ⟨?_, sm⟩
              rw [no (by unfold freeB; rw [c1, c2]; rfl)]
              exact hL2
            | false =>
              refine iteT ⟨_, rfl, _, hL2, ?_, ?_, ((Bt.of_same (S := []) sm).upd0 nL2).same⟩
              · rw [List.length_map]
                refine Nat.lt_of_le_of_lt (List.length_filter_le _ _) ?_
                rw [List.length_take]
                refine Nat.lt_of_le_of_lt (Nat.min_le_right _ _) ?_
                show 27 < sizeLine
                decide
              · rw [upd_same, yes (by unfold freeB; rw [c1, c2]; rfl), List.map_append]
                rfl
        · rintro H' ⟨hL2, sm⟩
          rw [List.length_map, List.take_length] at hL2
          obtain ⟨y, ys, ey⟩ := some_free (z := z6) (found := zs) (by omega)
          obtain ⟨ny, nf⟩ := free_nm (found := zs) w6 (show y ∈ _ by rw [ey]; exact List.mem_cons_self)
          rw [ey] at hL2
          have hF' := sm _ _ hF9
          have s0 := s9.trans sm
          have bH : Bt [l] H H' := b06.trans (Bt.of_same s0)
          have nL2F : aF ≠ l := nlF
          refine ⟨L2, _, 0, .str y, rfl, rfl, sqL hL2, atI_nat (j := 0) rfl, aF, _, .str y, rfl, rfl, hF', ?_, ?_⟩
          · rw [List.length_map, zl]
            exact Nat.lt_of_lt_of_le (show i < 20 by omega) (by decide)
          refine ⟨⟨_, _, _, _, rfl⟩, ?_, ⟨zs ++ [y], ?_, ?_, ?_, ?_⟩, bH.upd0 fF, (pool6.same s0).upd nlF.symm⟩
          · rw [upd_ne nFO]
            exact s0 _ _ hO6
          · rw [upd_same, List.map_append]
            rfl
          · rw [List.length_append, zl]
            rfl
          · rw [List.nodup_append]
            refine ⟨nd, by simp, fun a ha b hb e => ?_⟩
            rw [List.mem_singleton.mp hb] at e
            exact nf (e ▸ ha)
          · intro z hz
            rcases List.mem_append.mp hz with h | h
            · exact nm z h
            · rw [List.mem_singleton.mp h]
              exact ny
    · rintro σ H4 ⟨⟨y5, y6, y9, y10, rfl⟩, hO4, ⟨zs, hF4, zl, nd, nm⟩, b4, pool4⟩
      exact ⟨_, rfl, q H4 aF zs b4 pool4 fF hF4 (by omega) nd nm⟩
end
end WdQ

set_option Elab.async false
set_option linter.all false
set_option maxRecDepth 100000
set_option maxHeartbeats 4000000
namespace Wd
open PySem PySem.Spec PyProof.Rows L2 WdM
/-! ### data whose texts and tuples aren't too long -/
def Sm : Nat → PyData → Prop
  | _, .none => True
  | _, .bool _ => True
  | _, .int _ => True
  | _, .str x => x.length ≤ 100
  | 0, .list _ => False
  | 0, .tuple _ => False
  | 0, .dict _ => False
  | n + 1, .list ds => ∀ d ∈ ds, Sm n d
  | n + 1, .tuple ds => ds.length ≤ 100 ∧ ∀ d ∈ ds, Sm n d
  | _ + 1, .dict _ => True
def Sml (d : PyData) : Prop := ∃ n, Sm n d
theorem Sml.short {d : PyData} (h : Sml d) : Short d := fun z e => by
  subst e
  obtain ⟨n, h⟩ := h
  have h : z.length ≤ 100 := by cases n <;> exact h
  omega
theorem Sml.mem {ds : List PyData} {d : PyData} (h : Sml (.tuple ds)) (m : d ∈ ds) : Sml d := by
  obtain ⟨n, h⟩ := h
  cases n with
  | zero => exact h.elim
  | succ n => exact ⟨n, h.2 d m⟩
theorem Sml.len {ds : List PyData} (h : Sml (.tuple ds)) : ds.length ≤ 100 := by
  obtain ⟨n, h⟩ := h
  cases n with
  | zero => exact h.elim
  | succ n => exact h.1
theorem sm_up {n : Nat} : ∀ {d : PyData}, Sm n d → Sm (n + 1) d := by
  induction n with
  | zero =>
    intro d h
    cases d with
    | none => trivial
    | bool _ => trivial
    | int _ => trivial
    | str _ => exact h
    | _ => exact h.elim
  | succ n ih =>
    intro d h
    cases d with
    | none => trivial
    | bool _ => trivial
    | int _ => trivial
    | str _ => exact h
    | list ds => exact fun d hd => ih (h d hd)
    | tuple ds => exact ⟨h.1, fun d hd => ih (h.2 d hd)⟩
    | dict _ => trivial
theorem sm_mono {n m : Nat} {d : PyData} (h : Sm n d) (l : n ≤ m) : Sm m d := by
  induction l with
  | refl => exact h
  | step _ ih => exact sm_up ih
theorem dz_int {S : List Addr} {K : PySem.W.Frag} {H : Hp} {v : V} {i : Int} (h : Dz S K H v (.int i)) : v = .int i := by cases h; rfl
/-! ### t == (), whatever t holds -/
def rEqNil (K : PySem.W.Frag) : R2 := fun x y H Q => ∃ a b xs, x = .ref a ∧ y = .ref b ∧ SqT K H a xs ∧ SqT K H b [] ∧ Q (.bl (decide (xs = []))) H
theorem op_eqNil {X : Cx} (hu : X.A.units + 64 < cLine) : OpR X (compareOp .Eq) (rEqNil X.K) := by
  rintro pins s σ H _ _ v u Q I rx ry ⟨a, b, xs, rfl, rfl, ha, hb, q⟩
  cases rx
  cases ry
  obtain ⟨i1, r1, p1, _⟩ := I.tuple ha
  obtain ⟨i2, r2, p2, _⟩ := I.tuple hb
  cases r2
  refine SeqAt.eq_tupleAt (e := fun _ => true) p1 p2 (by omega) (fun j _ h2 => absurd h2 (by simp)) ⟨.bl (decide (xs = [])), H, I, ?_, q⟩
  show Value.bool _ = Value.bool _
  have e := r1.length
  congr 1
  cases xs with
  | nil =>
    cases r1
    simp
  | cons x xs =>
    cases r1
    simp
/-! ### t[1:] -/
theorem cut_tup1 {K : PySem.W.Frag} {σ : L2.St} {H : Hp} {a : Addr} {xs : List V} {Q : VK} (ha : SqT K H a xs) (l : 1 ≤ xs.length) (q : ∀ p H', Same H H' → SqT K H' p (xs.drop 1) → Q (.ref p) H') : tNoPart σ H fun u H3 => rSlA K (.ref a) (some 1) u H3 Q := by
  have e : cutV xs (some 1) none = xs.drop 1 := cut_back (k := 1) l
  refine ⟨a, xs, rfl, ha, fun ⟨e1, _⟩ => ?_, fun _ p np => q p _ (same_new np) (by rw [← e]; exact sqT upd_same)⟩
  have e2 : HT.sIx xs.length 0 (some ((1 : Nat) : Int)) = 0 := e1
  rw [HT.sIx_nat] at e2
  omega
/-! ### two sources in one comprehension -/
section
variable {J J1 : It} {n : Nat} {G : Hp → Prop} {Y : Nat → Hp → V → Hp → Prop}
theorem lc_outer (w : Walk J n G Y) {g : TG} {tt : TT} {B : (Hp → Prop) → L2.St → Hp → Prop} {vs : List Nat} {σ : L2.St} {H1 : Hp} {D : Addr} {Qd : Hp → Prop} (Pv : Nat → Hp → Prop) (h0 : Pv 0 (upd H1 D (.lst []))) (hG : ∀ i H, i ≤ n → Pv i H → G H)
    (hs : ∀ i x H H', i < n → Pv i H → Y i H x H' → g x (wipe σ vs) H' fun σ2 H2 => wipe σ2 vs = wipe σ vs ∧ tt σ2 H2 fun b H3 => if b = true then B (Pv (i + 1)) σ2 H3 else Pv (i + 1) H3) (hd : ∀ H, Pv n H → Qd H) :
    ∃ W : Nat → Nat → Hp → Prop, (∃ m, W 0 m (upd H1 D (.lst []))) ∧ ∀ i m H, W i m H → (J.stop i H ∧ Qd H) ∨ (J.go i H ∧ ∃ Nx : Hp → Prop, (∀ H', Nx H' → ∃ m', m' < m ∧ W (i + 1) m' H') ∧ ∀ x H', J.yld i H x H' → g x (wipe σ vs) H' fun σ2 H2 => wipe σ2 vs = wipe σ vs ∧ tt σ2 H2 fun b H3 => if b = true then B Nx σ2 H3 else Nx H3) := by
  refine ⟨fun i m H => m = n - i ∧ i ≤ n ∧ Pv i H, ⟨n, rfl, Nat.zero_le _, h0⟩, ?_⟩
  rintro i _ H ⟨rfl, hi, p⟩
  have g0 := hG i H hi p
  by_cases hlt : i < n
  · exact .inr ⟨w.goes i H hlt g0, Pv (i + 1), fun H' p' => ⟨n - (i + 1), by omega, rfl, hlt, p'⟩, fun x H' y => hs i x H H' hlt p (w.yields i H x H' hlt g0 y)⟩
  · obtain rfl : i = n := by omega
    exact .inl ⟨w.stops H g0, hd H p⟩
theorem lc_inner (w : Walk J n G Y) {g : TG} {tt : TT} {te : TE} {vs : List Nat} {σ : L2.St} {H1 : Hp} {D : Addr} {Nx : Hp → Prop} (Pv : Nat → Hp → Prop) (h0 : Pv 0 H1) (hG : ∀ i H, i ≤ n → Pv i H → G H)
    (hs : ∀ i x H H', i < n → Pv i H → Y i H x H' → g x (wipe σ vs) H' fun σ3 H5 => wipe σ3 vs = wipe σ vs ∧ tt σ3 H5 fun b H6 => if b = true then te σ3 H6 fun y H7 => ∃ acc, H7 D = some (.lst acc) ∧ acc.length < sizeLine ∧ Pv (i + 1) (upd H7 D (.lst (acc ++ [y]))) else Pv (i + 1) H6) (hd : ∀ H, Pv n H → Nx H) :
    ∃ W1 : Nat → Nat → Hp → Prop, (∃ m, W1 0 m H1) ∧ ∀ j k H, W1 j k H → (J.stop j H ∧ Nx H) ∨ (J.go j H ∧ ∃ Nx1 : Hp → Prop, (∀ H', Nx1 H' → ∃ k', k' < k ∧ W1 (j + 1) k' H') ∧ ∀ x H', J.yld j H x H' → g x (wipe σ vs) H' fun σ3 H5 => wipe σ3 vs = wipe σ vs ∧ tt σ3 H5 fun b H6 => if b = true then te σ3 H6 fun y H7 => ∃ acc, H7 D = some (.lst acc) ∧ acc.length < sizeLine ∧ Nx1 (upd H7 D (.lst (acc ++ [y]))) else Nx1 H6) := by
  refine ⟨fun i m H => m = n - i ∧ i ≤ n ∧ Pv i H, ⟨n, rfl, Nat.zero_le _, h0⟩, ?_⟩
  rintro i _ H ⟨rfl, hi, p⟩
  have g0 := hG i H hi p
  by_cases hlt : i < n
  · exact .inr ⟨w.goes i H hlt g0, Pv (i + 1), fun H' p' => ⟨n - (i + 1), by omega, rfl, hlt, p'⟩, fun x H' y => hs i x H H' hlt p (w.yields i H x H' hlt g0 y)⟩
  · obtain rfl : i = n := by omega
    exact .inl ⟨w.stops H g0, hd H p⟩
end
end Wd

set_option Elab.async false
set_option linter.all false
set_option maxRecDepth 100000
set_option maxHeartbeats 4000000
set_option exponentiation.threshold 5000
namespace WdQ
open PySem PySem.Spec PyProof.Rows L2 WdM Wd
abbrev sWhole : Stmt := topS 14
abbrev sDay : Stmt := topS 18
theorem scWhole : FnScope ["thing"] ["thing"] (defScope sWhole) := ⟨rfl, rfl, rfl, by decide +kernel, rfl, by decide +kernel, by decide +kernel⟩
theorem scDay : FnScope ["thing"] ["thing"] (defScope sDay) := ⟨rfl, rfl, rfl, by decide +kernel, rfl, by decide +kernel, by decide +kernel⟩
def dayB : PyData → Bool
  | .int i => decide (-9999 ≤ i ∧ i ≤ 9999)
  | _ => false
theorem day_no {d : PyData} (h : wholeB d = false) : dayB d = false := by cases d <;> first | rfl | cases h
section
variable {P : Program} {w : World} {K : PySem.W.Frag} {mg : Str → Option Value} {base : Heap}
def spWhole (K : PySem.W.Frag) : Sp := fun vs H Q _ => ∃ (x : V) (d : PyData), vs = [x] ∧ Is K H x d ∧ Q (.bl (wholeB d)) H
theorem ok_whole {f : Addr} {fd : FuncData} {k : Nat} (B : Bi mg) (D : Df K mg "is_whole" sWhole f fd ["thing"]) : FnOk P w K mg base CX0 (k + 1) f fd ["thing"] (spWhole K) := by
  refine D.fn.ok scWhole (fun vs H Q E h => ?_) (fun cdv A outer s H vs Q E hr h => ?_)
  · obtain ⟨x, d, rfl, _⟩ := h
    rfl
  · obtain ⟨x, d, rfl, th, q⟩ := h
    obtain ⟨b1, b2, k1, k2, e⟩ := kit_whole (K := K) d
    rw [← e] at q
    refine ⟨_, pss_one (ps_ret (pe_and (pe_callB call_isi (by rfl) B.isi boot_isinstance (pa_cons (pv 0) (pa_cons (pe_bltn (v := .ty "int") (by rfl) B.int boot_int rfl) pa_nil)))
      (pe_one (pe_not (pe_callB call_isi (by rfl) B.isi boot_isinstance (pa_cons (pv 0) (pa_cons (pe_bltn (v := .ty "bool") (by rfl) B.bool boot_bool rfl) pa_nil))))))), ?_⟩
    refine ⟨x, rfl, x, .ty "int", _, _, b1, rfl, .ty _, th.ty, k1, b1, rfl, ?_⟩
    cases b1 with
    | false => exact iteF q
    | true => exact iteT ⟨x, rfl, x, .ty "bool", _, _, b2, rfl, .ty _, th.ty, k2, b2, rfl, q⟩
def spDay (K : PySem.W.Frag) : Sp := fun vs H Q _ => ∃ (S : List Addr) (v : V) (d : PyData), vs = [v] ∧ Dz S K H v d ∧ Q (.bl (dayB d)) H
theorem ok_day {f fW : Addr} {fd fdW : FuncData} {k : Nat} {tS : Tok} (B : Bi mg) (gS : mg "LAST_DAY" = some (.int 9999 tS)) (D : Df K mg "is_day" sDay f fd ["thing"]) (DW : Df K mg "is_whole" sWhole fW fdW ["thing"]) : FnOk P w K mg base CX0 (k + 2) f fd ["thing"] (spDay K) := by
  have GW : FnOk P w K mg base CX0 (k + 1) fW fdW ["thing"] (spWhole K) := ok_whole B DW
  refine D.fn.ok scDay (fun vs H Q E h => ?_) (fun cdv A outer s H vs Q E hr h => ?_)
  · obtain ⟨S, v, d, rfl, _⟩ := h
    rfl
  · obtain ⟨S, v, d, rfl, dz, q⟩ := h
    refine ⟨_, pss_one (ps_ret (pe_and (pe_call GW hr (by rfl) DW.mg DW.fn.kp DW.bd .nil pass0 (pa_cons (pv 0) pa_nil)) (pe_one (pe_chain op_le op_le (pe_un un_neg (pe_glob (v := .int 9999) (by rfl) gS ⟨_, rfl⟩)) (pv 0) (pe_glob (v := .int 9999) (by rfl) gS ⟨_, rfl⟩))))), ?_⟩
    refine ⟨_, rfl, v, d, rfl, dz.is, _, rfl, ?_⟩
    by_cases hw : wholeB d = true
    · rw [hw]
      obtain ⟨i, rfl⟩ := whole_of hw
      obtain rfl := dz_int dz
      have q : Q (.bl (decide (-9999 ≤ i ∧ i ≤ 9999))) H := q
      refine iteT ⟨9999, rfl, _, rfl, -9999, i, rfl, rfl, _, rfl, ?_⟩
      by_cases l0 : -9999 ≤ i
      · rw [decide_eq_true l0]
        refine iteT ⟨i, 9999, rfl, rfl, ?_⟩
        rw [show decide (-9999 ≤ i ∧ i ≤ 9999) = decide (i ≤ 9999) by simp [l0]] at q
        exact q
      · rw [decide_eq_false l0]
        rw [show decide (-9999 ≤ i ∧ i ≤ 9999) = false by simp [l0]] at q
        exact iteF q
    · have hw' : wholeB d = false := by simpa using hw
      rw [hw']
      rw [day_no hw'] at q
      exact iteF q
end
end WdQ

set_option Elab.async false
set_option linter.all false
set_option maxRecDepth 100000
set_option maxHeartbeats 4000000
set_option exponentiation.threshold 5000
namespace WdQ
open PySem PySem.Spec PyProof.Rows L2 WdM Wd
abbrev sDeath : Stmt := topS 52
abbrev sChkD : Stmt := topS 53
abbrev sStory : Stmt := topS 55
abbrev sSI : Stmt := inClass sStory 0
theorem scDeath : FnScope ["thing", "ahead", "name", "day"] ["thing", "ahead"] (defScope sDeath) := ⟨rfl, rfl, rfl, by decide +kernel, rfl, by decide +kernel, by decide +kernel⟩
theorem scChkD : FnScope ["deaths", "ahead", "number", "death"] ["deaths"] (defScope sChkD) := ⟨rfl, rfl, rfl, by decide +kernel, rfl, by decide +kernel, by decide +kernel⟩
theorem scSI : FnScope ["self", "deaths", "rows"] ["self", "deaths"] (defScope sSI) := ⟨rfl, rfl, rfl, by decide +kernel, rfl, by decide +kernel, by decide +kernel⟩
structure GoodD (rows : List (Str × Int)) : Prop where
  l8 : rows.length ≤ 8
  nm : ∀ r ∈ rows, nmB r.1 = true ∧ r.1.length ≤ 1000
  dy : ∀ r ∈ rows, -9999 ≤ r.2 ∧ r.2 ≤ 9999
  up : ∀ (i : Nat) (r s : Str × Int), rows[i]? = some r → rows[i + 1]? = some s → r.1.cps.toList < s.1.cps.toList
def DeathsAt (K : PySem.W.Frag) (H : Hp) (v : V) (rows : List (Str × Int)) : Prop := ∃ (t : Addr) (xs : List V), v = .ref t ∧ SqT K H t xs ∧ xs.length = rows.length ∧ ∀ (i : Nat) (x : V), xs[i]? = some x → ∃ (a : Addr) (r : Str × Int), x = .ref a ∧ rows[i]? = some r ∧ SqT K H a [.str r.1, .int r.2]
section
variable {P : Program} {w : World} {K : PySem.W.Frag} {mg : Str → Option Value} {base : Heap} {CH CY : Addr}
theorem DeathsAt.tk {H H' : Hp} {v : V} {rows : List (Str × Int)} (h : DeathsAt K H v rows) (e : Tk H H') : DeathsAt K H' v rows := by
  obtain ⟨t, xs, rfl, hs, l, hx⟩ := h
  exact ⟨t, xs, rfl, e.sq hs, l, fun i x hi => by obtain ⟨a, r, e1, e2, e3⟩ := hx i x hi; exact ⟨a, r, e1, e2, e.sq e3⟩⟩
/-! ### one of the deaths -/
def ahV : Option Str → V
  | none => .non
  | some y => .str y
def spDeath (K : PySem.W.Frag) : Sp := fun vs H Q _ => ∃ (t : Addr) (z : Str) (d : Int) (o : Option Str), vs = [.ref t, ahV o] ∧ SqT K H t [.str z, .int d] ∧ nmB z = true ∧ z.length ≤ 1000 ∧ -9999 ≤ d ∧ d ≤ 9999 ∧ (∀ y, o = some y → y.cps.toList < z.cps.toList) ∧ ∀ H', Same H H' → Q (.bl true) H'
theorem ok_death {f fN fY : Addr} {fd fdN fdY : FuncData} {k : Nat} (B : Bi mg) (GN : FnOk P w K mg base CX0 (k + 2) fN fdN ["thing"] (spName K)) (GY : FnOk P w K mg base CX0 (k + 2) fY fdY ["thing"] (spDay K)) (D : Df K mg "is_death" sDeath f fd ["thing", "ahead"]) (DN : Df K mg "is_name" sName fN fdN ["thing"]) (DY : Df K mg "is_day" sDay fY fdY ["thing"]) :
    FnOk P w K mg base CX0 (k + 3) f fd ["thing", "ahead"] (spDeath K) := by
  refine D.fn.ok scDeath (fun vs H Q E h => ?_) (fun cdv A outer s H vs Q E hr h => ?_)
  · obtain ⟨t, z, d, o, rfl, _⟩ := h
    rfl
  · obtain ⟨t, z, d, o, rfl, hs, nm, zl, d0, d1, po, q⟩ := h
    refine ⟨_, pss_cons (ps_if (PW.pt (pw_or (pt_not (pt_val (pe_callB call_isi (by rfl) B.isi boot_isinstance (pa_cons (pv 0) (pa_cons (pe_bltn (v := .ty "tuple") (by rfl) B.tuple boot_tuple rfl) pa_nil)))))
          (pw_or1 (pt_cmpR op_ne (pe_callB call_len_seq (by rfl) B.len PySem.boot_len (pa_cons (pv 0) pa_nil)) pe_int (nomark _))))) (pss_one (ps_ret pe_bl)) pss_nil)
      (pss_cons (ps_asg (pv 0) (pg_tup rfl (pgs_cons (pg_name (i := 2) scDeath.nd rfl (.inl rfl)) (pgs_cons (pg_name (i := 3) scDeath.nd rfl (.inl rfl)) pgs_nil))))
      (pss_cons (ps_if (PW.pt (pw_or (pt_not (pt_val (pe_call GN hr (by rfl) DN.mg DN.fn.kp DN.bd .nil pass0 (pa_cons (pv 2) pa_nil)))) (pw_or1 (pt_not (pt_val (pe_call GY hr (by rfl) DY.mg DY.fn.kp DY.bd .nil pass0 (pa_cons (pv 3) pa_nil))))))) (pss_one (ps_ret pe_bl)) pss_nil)
      (pss_one (ps_ret (pe_or (pe_cmpR op_isN (pv 1) pe_non (nomark _)) (pe_one (pe_cmpR op_gt_str (pv 2) (pv 1) (nomark _)))))))), ?_⟩
    refine ⟨_, rfl, _, .ty "tuple", _, .type "tuple", true, rfl, .ty _, tyT hs, kit_ty (by decide +kernel), true, rfl, iteF ⟨_, rfl, t, _, rfl, .inr hs, rfl, _, rfl, iteF ?_⟩⟩
    refine ⟨_, rfl, t, _, rfl, hs, rfl, _, _, rfl, _, _, rfl, rfl, ?_⟩
    refine ⟨_, rfl, .str z, .str z, rfl, (Th.dp (.str z)).is, (fun y e => by cases e; exact zl), fun H1 sm => ?_⟩
    rw [show nameB (.str z) = true from nm]
    refine ⟨true, rfl, iteF ⟨_, rfl, [], .int d, .int d, rfl, .int d, ?_⟩⟩
    rw [show dayB (.int d) = true from decide_eq_true ⟨d0, d1⟩]
    refine ⟨true, rfl, iteF ⟨_, rfl, rfl, _, rfl, ?_⟩⟩
    cases o with
    | none => exact iteT (q H1 sm)
    | some y =>
      refine iteF ⟨_, rfl, _, rfl, z, y, rfl, rfl, ?_⟩
      rw [decide_eq_true (po y rfl)]
      exact q H1 sm
def spChkD (K : PySem.W.Frag) : Sp := fun vs H Q _ => ∃ (v : V) (rows : List (Str × Int)), vs = [v] ∧ DeathsAt K H v rows ∧ GoodD rows ∧ ∀ H', Same H H' → Q .non H'
def lastN (rows : List (Str × Int)) : Nat → Option Str
  | 0 => none
  | i + 1 => rows[i]?.map Prod.fst
theorem ok_chkD {f fD : Addr} {fd fdD : FuncData} {tM : Tok} {k : Nat} (B : Bi mg) (gM : mg "MOST_DEATHS" = some (.int 8 tM))
    (GD : FnOk P w K mg base CX0 (k + 3) fD fdD ["thing", "ahead"] (spDeath K)) (D : Df K mg "check_deaths" sChkD f fd ["deaths"]) (DD : Df K mg "is_death" sDeath fD fdD ["thing", "ahead"]) : FnOk P w K mg base (L2.CX P w) (k + 4) f fd ["deaths"] (spChkD K) := by
  refine D.fn.okX scChkD (fun vs H Q E h => ?_) (fun cdv A outer s H vs Q E hr h => ?_)
  · obtain ⟨v, rows, rfl, _⟩ := h
    rfl
  · obtain ⟨v, rows, rfl, ⟨t, xs, rfl, ht, xl, hx⟩, gf, q⟩ := h
    refine ⟨_, pss_cons (ps_if (PW.pt (pw_or (pt_not (pt_val (pe_callB call_isi (by rfl) B.isi boot_isinstance (pa_cons (pv 0) (pa_cons (pe_bltn (v := .ty "tuple") (by rfl) B.tuple boot_tuple rfl) pa_nil)))))
          (pw_or1 (pt_cmpR op_gt (pe_callB call_len_seq (by rfl) B.len PySem.boot_len (pa_cons (pv 0) pa_nil)) (pe_glob (v := .int 8) (by rfl) gM ⟨_, rfl⟩) (nomark _))))) (pss_one ps_no) pss_nil)
      (pss_cons (ps_set (i := 1) scChkD.nd rfl (.inl rfl) pe_non)
      (pss_one (ps_for (passes_of rfl) rfl (pi_E .tu (by rfl) B.enum (pa_cons (pv 0) pa_nil)) (pg_tup rfl (pgs_cons (pg_name (i := 2) scChkD.nd rfl (.inl rfl)) (pgs_cons (pg_name (i := 3) scChkD.nd rfl (.inl rfl)) pgs_nil)))
        (pss_cons (ps_if (pt_not (pt_val (pe_call GD hr (by rfl) DD.mg DD.fn.kp DD.bd .nil pass0 (pa_cons (pv 3) (pa_cons (pv 1) pa_nil))))) (pss_one ps_no) pss_nil)
        (pss_one (ps_set (i := 1) scChkD.nd rfl (.inl rfl) (pe_ix (r := rIxT K) ix_tup (pv 3) pe_int (fun _ _ => rfl)))))))), ?_⟩
    have l8 := gf.l8
    refine ⟨_, rfl, _, .ty "tuple", _, .type "tuple", true, rfl, .ty _, tyT ht, kit_ty (by decide +kernel), true, rfl, iteF ⟨_, rfl, t, _, rfl, .inr ht, _, 8, rfl, rfl, _, rfl, ?_⟩⟩
    rw [decide_eq_false (show ¬ (8 : Int) < ((xs.length : Nat) : Int) by omega)]
    refine iteF ?_
    refine ⟨_, rfl, t, _, rfl, ht, for_it (walkE (K := K) (k := .tu) (a := t) (xs := xs)) (fun i σ H' => ∃ y2 y3, σ = [some (.ref t), some (ahV (lastN rows i)), y2, y3] ∧ Same H H') ⟨none, none, rfl, Same.refl H⟩ (fun i σ H' _ ⟨_, _, _, s⟩ => (tk_same s).sq ht) ?_ ?_⟩
    · rintro i _ σ H4 _ i1 ⟨y2, y3, rfl, s4⟩ ⟨T1, _, y, rfl, nT, rfl, ei, hy⟩
      cases ei
      obtain ⟨a, r, rfl, hr, ha⟩ := hx i y hy
      have s5 : Same H4 (upd H4 T1 (.tup [.int (i : Nat), .ref a])) := same_new nT
      have g5 : (upd H4 T1 (.tup [.int (i : Nat), .ref a])) T1 = some (.tup [.int (i : Nat), .ref a]) := upd_same
      revert s5 g5
      generalize upd H4 T1 (.tup [.int (i : Nat), .ref a]) = H5
      intro s5 g5
      refine ⟨T1, _, rfl, sqT g5, rfl, _, _, rfl, _, _, rfl, rfl, ?_⟩
      have h25 := (tk_same (s4.trans s5)).sq ha
      have m := List.mem_of_getElem? hr
      have nm := gf.nm r m
      have dy := gf.dy r m
      refine ⟨_, rfl, _, rfl, a, r.1, r.2, lastN rows i, rfl, h25, nm.1, nm.2, dy.1, dy.2, ?_, fun H6 s6 => ⟨true, rfl, iteF ?_⟩⟩
      · intro z e
        cases i with
        | zero => cases e
        | succ j =>
          have e : rows[j]?.map Prod.fst = some z := e
          cases hj : rows[j]? with
          | none => rw [hj] at e; cases e
          | some r0 =>
            rw [hj] at e
            cases e
            exact gf.up j r0 r hj hr
      refine ⟨_, rfl, a, _, 0, .str r.1, rfl, rfl, (tk_same s6).sq h25, atI_nat (j := 0) rfl, ?_⟩
      refine ⟨some (.int (i : Nat)), some (.ref a), ?_, s4.trans (s5.trans s6)⟩
      show [some (.ref t), some (V.str r.1), some (.int (i : Nat)), some (.ref a)] = [some (.ref t), some (ahV (rows[i]?.map Prod.fst)), some (.int (i : Nat)), some (.ref a)]
      rw [hr]
      rfl
    · rintro σ H4 ⟨y2, y3, rfl, s4⟩
      exact q H4 s4
structure SyF (K : PySem.W.Frag) (C : Addr) : Prop where
  cl : Cls K C
  n1 : NoAttr K C "deaths"
def spSI (K : PySem.W.Frag) (CY : Addr) : Sp := fun vs H Q _ => ∃ (o dx : Addr) (v : V) (rows : List (Str × Int)), vs = [.ref o, v] ∧ H o = some (.ins CY dx []) ∧ DeathsAt K H v rows ∧ GoodD rows ∧ ∀ H', Bt [o] H H' → H' o = some (.ins CY dx [("deaths", v)]) → Q .non H'
theorem ok_SI {f fC : Addr} {fd fdC : FuncData} {k : Nat} (T : SyF K CY) (F : FunD K "__init__" "Story.__init__" (defArgs sSI) (defBody sSI) (defScope sSI) [.non] [] f fd) (GC : FnOk P w K mg base (L2.CX P w) (k + 4) fC fdC ["deaths"] (spChkD K)) (DC : Df K mg "check_deaths" sChkD fC fdC ["deaths"]) :
    FnOk P w K mg base (L2.CX P w) (k + 5) f fd ["self", "deaths"] (spSI K CY) := by
  refine F.ok scSI (fun vs H Q E h => ?_) (fun cdv A outer s H vs Q E hr h => ?_)
  · obtain ⟨o, dx, v, rows, rfl, _⟩ := h
    rfl
  · obtain ⟨o, dx, v, rows, rfl, ho, hv, gd, q⟩ := h
    refine ⟨_, pss_cons (ps_set (i := 2) scSI.nd rfl (.inl rfl) (pe_ifExp (pt_cmpR op_isN (pv 1) pe_non (nomark _)) pe_no (pv 1)))
      (pss_cons (ps_expr (pe_callS GC hr (by rfl) DC.mg DC.fn.kp DC.bd (fun σ => passAt (takes_of rfl rfl rfl rfl) σ) (pa_cons (pv 2) pa_nil)))
      (pss_one (ps_fld (pv 0) (pv 2) rfl))), ?_⟩
    obtain ⟨t, xs, rfl, hs, xl, hx⟩ := hv
    refine ⟨_, rfl, rfl, _, rfl, iteF ⟨_, rfl, _, rfl, .ref t, rows, rfl, ⟨t, xs, rfl, hs, xl, hx⟩, gd, fun H1 s1 => ?_⟩⟩
    refine ⟨_, rfl, _, rfl, o, CY, dx, _, rfl, s1 _ _ ho, T.cl, T.n1, by show 0 < 1000; decide, ?_⟩
    exact q _ ((Bt.of_same s1).upd1 (by simp)) upd_same
end
end WdQ

set_option Elab.async false
set_option linter.all false
set_option maxRecDepth 100000
set_option maxHeartbeats 4000000
set_option exponentiation.threshold 5000
namespace WdQ
open PySem PySem.Spec PyProof.Rows L2 WdM Wd
abbrev sWord : Stmt := topS 23
theorem scWord : FnScope ["thing", "words"] ["thing", "words"] (defScope sWord) := ⟨rfl, rfl, rfl, by decide +kernel, rfl, by decide +kernel, by decide +kernel⟩
def wordB (ws : List V) : PyData → Bool
  | .str z => inV (.str z) ws
  | _ => false
theorem word_no {ws : List V} {d : PyData} (h : strB d = false) : wordB ws d = false := by cases d <;> first | rfl | cases h
section
variable {P : Program} {w : World} {K : PySem.W.Frag} {mg : Str → Option Value} {base : Heap}
def spWord (K : PySem.W.Frag) : Sp := fun vs H Q _ => ∃ (v : V) (d : PyData) (a : Addr) (ws : List V), vs = [v, .ref a] ∧ Is K H v d ∧ (SqL K H a ws ∨ SqT K H a ws) ∧ ws.all flatV = true ∧ Q (.bl (wordB ws d)) H
theorem ok_word {f : Addr} {fd : FuncData} {k : Nat} (B : Bi mg) (D : Df K mg "is_word" sWord f fd ["thing", "words"]) : FnOk P w K mg base CX0 (k + 1) f fd ["thing", "words"] (spWord K) := by
  refine D.fn.ok scWord (fun vs H Q E h => ?_) (fun cdv A outer s H vs Q E hr h => ?_)
  · obtain ⟨v, d, a, ws, rfl, _⟩ := h
    rfl
  · obtain ⟨v, d, a, ws, rfl, th, hw, fl, q⟩ := h
    refine ⟨_, pss_one (ps_ret (pe_and (pe_callB call_isi (by rfl) B.isi boot_isinstance (pa_cons (pv 0) (pa_cons (pe_bltn (v := .ty "str") (by rfl) B.str boot_str rfl) pa_nil))) (pe_one (pe_cmpR op_in_seq (pv 0) (pv 1) (by rfl))))), ?_⟩
    refine ⟨_, rfl, _, .ty "str", _, .type "str", _, rfl, .ty _, th.ty, kit_str d, _, rfl, ?_⟩
    by_cases hs : strB d = true
    · rw [hs]
      obtain ⟨z, rfl⟩ := str_of hs
      obtain rfl := th.str z rfl
      exact iteT ⟨_, rfl, _, rfl, a, ws, rfl, hw, rfl, fl, q⟩
    · have hs' : strB d = false := by simpa using hs
      rw [hs']
      rw [word_no hs'] at q
      exact iteF q
end
end WdQ

set_option Elab.async false
set_option linter.all false
set_option maxRecDepth 100000
set_option maxHeartbeats 4000000
namespace Wd
open PySem PySem.Spec PyProof.Rows L2 WdM
/-- what the top has written of an own error with one field: the class x at C, its __init__ at fI; CW its family -/
structure ErC (K : PySem.W.Frag) (mg : Str → Option Value) (x fld : Str) (C fI CW : Addr) : Prop where
  o : OexC K C
  no : PySem.W.findIn K (.ref C) fld = some none
  i : PySem.W.findIn K (.ref C) "__init__" = some (some (.ref fI))
  t : PySem.W.typeIn K (.ref fI) = some (.type "function")
  g : mg x = some (.ref C)
  m : PySem.W.exmOne K (.ref C) (.ref CW) = some true
  c : ExcC K C
  f : XfC K C
def spInitE (C : Addr) (fld : Str) : Sp := fun vs H Q _ => ∃ (a : Addr) (y : V), vs = [.ref a, y] ∧ H a = some (exo a C none) ∧ ∀ dx, H dx = none → dx ≠ a → Q .non (upd (upd H dx (exd dx [(fld, y)])) a (exo a C (some dx)))
theorem heap_made {H : Hp} {a dx : Addr} {o1 o2 o3 o4 : HO} (ha : H a = none) (ne : dx ≠ a) : upd (del (upd (upd (upd H a o1) dx o2) a o3) a) dx o4 = upd H dx o4 := by
  funext b
  by_cases h1 : b = dx
  · rw [h1, upd_same, upd_same]
  · rw [upd_ne h1, upd_ne h1]
    by_cases h2 : b = a
    · rw [h2, del_same, ha]
    · rw [del_ne h2, upd_ne h2, upd_ne h1, upd_ne h2]
theorem raise_var {C : Addr} {fld : Str} {i : Nat} {x : V} {H : Hp} {σ : L2.St} {R : XK} (h0 : σ[i]? = some (some x)) (hq : ∀ dd, H dd = none → R (.ref C) (some dd) (upd H dd (.xd [(fld, x)]))) : tMkO C (spInitE C fld) [] (tCons (tVar i) tNil) σ H R :=
  ⟨x, h0, by show 1 ≤ 1000; decide, fun e ne => ⟨e, x, rfl, upd_same, fun dx h1 h2 => ⟨rfl, dx, [(fld, x)], upd_same, by rw [upd_ne h2, upd_same], by rw [upd_ne h2] at h1; exact h1, by
    rw [heap_made ne h2]
    exact hq dx (by rw [upd_ne h2] at h1; exact h1)⟩⟩⟩
/-- an own error without a field: the class x at C, CW its family -/
structure ErN (K : PySem.W.Frag) (mg : Str → Option Value) (x : Str) (C CW : Addr) : Prop where
  x_ : PySem.W.excIn K C [.type "ValueError", .type "Exception", .type "BaseException", .type "object"] "ValueError.__new__" = true
  g : mg x = some (.ref C)
  k : PySem.W.keepIn K (.ref C) = true
  b : PySem.W.subIn K (.ref C) (.type "BaseException") = some true
  t : PySem.W.typeIn K (.ref C) = some (.type "type")
  m : PySem.W.exmOne K (.ref C) (.ref CW) = some true
  c : ExcC K C
  i : PySem.W.kitOne K (.ref C) (.ref C) = some true
end Wd

set_option Elab.async false
set_option linter.all false
set_option maxRecDepth 100000
set_option maxHeartbeats 4000000
set_option exponentiation.threshold 5000
namespace WdQ
open PySem PySem.Spec PyProof.Rows L2 WdM Wd
abbrev sSum : Stmt := topS 15
abbrev sPerson : Stmt := topS 28
abbrev sChkP : Stmt := topS 30
abbrev sChkG : Stmt := topS 31
abbrev sHouse : Stmt := topS 34
abbrev sHI : Stmt := inClass sHouse 0
theorem scSum : FnScope ["thing"] ["thing"] (defScope sSum) := ⟨rfl, rfl, rfl, by decide +kernel, rfl, by decide +kernel, by decide +kernel⟩
theorem scPerson : FnScope ["thing", "ahead", "name", "parent"] ["thing", "ahead"] (defScope sPerson) := ⟨rfl, rfl, rfl, by decide +kernel, rfl, by decide +kernel, by decide +kernel⟩
theorem scChkP : FnScope ["people", "ahead", "number", "person"] ["people"] (defScope sChkP) := ⟨rfl, rfl, rfl, by decide +kernel, rfl, by decide +kernel, by decide +kernel⟩
theorem scChkG : FnScope ["goods", "ahead", "number", "good"] ["goods"] (defScope sChkG) := ⟨rfl, rfl, rfl, by decide +kernel, rfl, by decide +kernel, by decide +kernel⟩
theorem scHI : FnScope ["self", "people", "goods", "purse", "debts", "things", "amount"] ["self", "people", "goods", "purse", "debts"] (defScope sHI) := ⟨rfl, rfl, rfl, by decide +kernel, rfl, by decide +kernel, by decide +kernel⟩
def parV : Option Str → V
  | none => .non
  | some y => .str y
/-- rows that a house is made of -/
structure GoodF (rows : List (Str × Option Str)) : Prop where
  l1 : 1 ≤ rows.length
  l8 : rows.length ≤ 8
  nd : (rows.map Prod.fst).Nodup
  nm : ∀ r ∈ rows, Nm r.1
  pr : ∀ (i : Nat) (r : Str × Option Str) (y : Str), rows[i]? = some r → r.2 = some y → y ∈ (rows.take i).map Prod.fst
def FolkAt (K : PySem.W.Frag) (H : Hp) (v : V) (rows : List (Str × Option Str)) : Prop := ∃ (t : Addr) (xs : List V), v = .ref t ∧ SqT K H t xs ∧ xs.length = rows.length ∧ ∀ (i : Nat) (x : V), xs[i]? = some x → ∃ (a : Addr) (r : Str × Option Str), x = .ref a ∧ rows[i]? = some r ∧ SqT K H a [.str r.1, parV r.2]
section
variable {P : Program} {w : World} {K : PySem.W.Frag} {mg : Str → Option Value} {base : Heap} {CH CY : Addr}
theorem FolkAt.tk {H H' : Hp} {v : V} {rows : List (Str × Option Str)} (h : FolkAt K H v rows) (e : Tk H H') : FolkAt K H' v rows := by
  obtain ⟨t, xs, rfl, hs, l, hx⟩ := h
  exact ⟨t, xs, rfl, e.sq hs, l, fun i x hi => by obtain ⟨a, r, e1, e2, e3⟩ := hx i x hi; exact ⟨a, r, e1, e2, e.sq e3⟩⟩
def spZero : Sp := fun vs H Q _ => vs = [.int 0] ∧ Q (.bl true) H
theorem ok_zero {f fW : Addr} {fd fdW : FuncData} {k : Nat} {tS : Tok} (B : Bi mg) (gS : mg "MOST_SUM" = some (.int 1000000000 tS)) (D : Df K mg "is_sum" sSum f fd ["thing"]) (DW : Df K mg "is_whole" sWhole fW fdW ["thing"]) : FnOk P w K mg base CX0 (k + 2) f fd ["thing"] spZero := by
  have GW : FnOk P w K mg base CX0 (k + 1) fW fdW ["thing"] (spWhole K) := ok_whole B DW
  refine D.fn.ok scSum (fun vs H Q E h => ?_) (fun cdv A outer s H vs Q E hr h => ?_)
  · obtain ⟨rfl, _⟩ := h
    rfl
  · obtain ⟨rfl, q⟩ := h
    refine ⟨_, pss_one (ps_ret (pe_and (pe_call GW hr (by rfl) DW.mg DW.fn.kp DW.bd .nil pass0 (pa_cons (pv 0) pa_nil)) (pe_one (pe_chain op_le op_le pe_int (pv 0) (pe_glob (v := .int 1000000000) (by rfl) gS ⟨_, rfl⟩))))), ?_⟩
    exact ⟨_, rfl, .int 0, .int 0, rfl, (Th.dp (.int 0)).is, true, rfl, iteT ⟨_, rfl, 0, 0, rfl, rfl, true, rfl, iteT ⟨0, _, rfl, rfl, q⟩⟩⟩
/-! ### one of the people -/
def spPerson (K : PySem.W.Frag) : Sp := fun vs H Q _ => ∃ (t l : Addr) (z : Str) (o : Option Str) (ns : List Str), vs = [.ref t, .ref l] ∧ SqT K H t [.str z, parV o] ∧ H l = some (.lst (ns.map V.str)) ∧ nmB z = true ∧ z.length ≤ 1000 ∧ z ∉ ns ∧ (∀ y, o = some y → y ∈ ns) ∧ ∀ H', Same H H' → Q (.bl true) H'
theorem flatS (zs : List Str) : (zs.map V.str).all flatV = true := by
  rw [List.all_map, List.all_eq_true]
  exact fun _ _ => rfl
theorem ok_person {f fN fW : Addr} {fd fdN fdW : FuncData} {k : Nat} (B : Bi mg) (GN : FnOk P w K mg base CX0 (k + 1) fN fdN ["thing"] (spName K)) (GW : FnOk P w K mg base CX0 (k + 1) fW fdW ["thing", "words"] (spWord K)) (D : Df K mg "is_person" sPerson f fd ["thing", "ahead"]) (DN : Df K mg "is_name" sName fN fdN ["thing"]) (DW : Df K mg "is_word" sWord fW fdW ["thing", "words"]) :
    FnOk P w K mg base CX0 (k + 2) f fd ["thing", "ahead"] (spPerson K) := by
  refine D.fn.ok scPerson (fun vs H Q E h => ?_) (fun cdv A outer s H vs Q E hr h => ?_)
  · obtain ⟨t, l, z, o, ns, rfl, _⟩ := h
    rfl
  · obtain ⟨t, l, z, o, ns, rfl, hs, hl, nm, zl, nn, po, q⟩ := h
    refine ⟨_, pss_cons (ps_if (PW.pt (pw_or (pt_not (pt_val (pe_callB call_isi (by rfl) B.isi boot_isinstance (pa_cons (pv 0) (pa_cons (pe_bltn (v := .ty "tuple") (by rfl) B.tuple boot_tuple rfl) pa_nil)))))
          (pw_or1 (pt_cmpR op_ne (pe_callB call_len_seq (by rfl) B.len PySem.boot_len (pa_cons (pv 0) pa_nil)) pe_int (nomark _))))) (pss_one (ps_ret pe_bl)) pss_nil)
      (pss_cons (ps_asg (pv 0) (pg_tup rfl (pgs_cons (pg_name (i := 2) scPerson.nd rfl (.inl rfl)) (pgs_cons (pg_name (i := 3) scPerson.nd rfl (.inl rfl)) pgs_nil))))
      (pss_cons (ps_if (PW.pt (pw_or (pt_not (pt_val (pe_call GN hr (by rfl) DN.mg DN.fn.kp DN.bd .nil pass0 (pa_cons (pv 2) pa_nil)))) (pw_or1 (pt_cmpR op_in_seq (pv 2) (pv 1) (by rfl))))) (pss_one (ps_ret pe_bl)) pss_nil)
      (pss_one (ps_ret (pe_or (pe_cmpR op_isN (pv 3) pe_non (nomark _)) (pe_one (pe_call GW hr (by rfl) DW.mg DW.fn.kp DW.bd .nil pass0 (pa_cons (pv 3) (pa_cons (pv 1) pa_nil))))))))), ?_⟩
    refine ⟨_, rfl, _, .ty "tuple", _, .type "tuple", true, rfl, .ty _, tyT hs, kit_ty (by decide +kernel), true, rfl, iteF ⟨_, rfl, t, _, rfl, .inr hs, rfl, _, rfl, iteF ?_⟩⟩
    refine ⟨_, rfl, t, _, rfl, hs, rfl, _, _, rfl, _, _, rfl, rfl, ?_⟩
    refine ⟨_, rfl, .str z, .str z, rfl, (Th.dp (.str z)).is, (fun y e => by cases e; exact zl), fun H1 sm => ?_⟩
    rw [show nameB (.str z) = true from nm]
    have nin : inV (.str z) (ns.map V.str) = false := by
      rw [Bool.eq_false_iff]
      exact fun e => nn (inV_str.mp e)
    refine ⟨true, rfl, iteF ⟨_, rfl, _, rfl, l, _, rfl, .inl (sqL (sm _ _ hl)), rfl, flatS ns, _, rfl, ?_⟩⟩
    show if inV (.str z) (ns.map V.str) = true then _ else _
    rw [nin]
    cases o with
    | none => exact iteF ⟨_, rfl, rfl, true, rfl, iteT (q H1 sm)⟩
    | some y =>
      refine iteF ⟨_, rfl, rfl, false, rfl, iteF ⟨_, rfl, _, rfl, .str y, .str y, l, _, rfl, (Th.dp (.str y)).is, .inl (sqL (sm _ _ hl)), flatS ns, ?_⟩⟩
      rw [show wordB (ns.map V.str) (.str y) = true from inV_str.mpr (po y rfl)]
      exact q H1 sm
def spChkP (K : PySem.W.Frag) : Sp := fun vs H Q _ => ∃ (v : V) (rows : List (Str × Option Str)), vs = [v] ∧ FolkAt K H v rows ∧ GoodF rows ∧ ∀ H', Same H H' → Q .non H'
theorem fst_new {α : Type} : ∀ {rows : List (Str × α)} {i : Nat} {r : Str × α}, (rows.map Prod.fst).Nodup → rows[i]? = some r → r.1 ∉ (rows.take i).map Prod.fst
  | [], i, r, _, h => by cases h
  | s :: rows, 0, r, nd, h => by simp
  | s :: rows, i + 1, r, nd, h => by
    rw [List.map_cons, List.nodup_cons] at nd
    have h : rows[i]? = some r := h
    rw [List.take_succ_cons, List.map_cons, List.mem_cons]
    rintro (e | e)
    · exact nd.1 (e ▸ List.mem_map_of_mem (List.mem_of_getElem? h))
    · exact fst_new nd.2 h e
theorem ok_chkP {f fD : Addr} {fd fdD : FuncData} {tM : Tok} {k : Nat} (B : Bi mg) (gM : mg "MOST_PEOPLE" = some (.int 8 tM))
    (GD : FnOk P w K mg base CX0 (k + 2) fD fdD ["thing", "ahead"] (spPerson K)) (D : Df K mg "check_people" sChkP f fd ["people"]) (DD : Df K mg "is_person" sPerson fD fdD ["thing", "ahead"]) : FnOk P w K mg base (L2.CX P w) (k + 3) f fd ["people"] (spChkP K) := by
  refine D.fn.okX scChkP (fun vs H Q E h => ?_) (fun cdv A outer s H vs Q E hr h => ?_)
  · obtain ⟨v, rows, rfl, _⟩ := h
    rfl
  · obtain ⟨v, rows, rfl, ⟨t, xs, rfl, ht, xl, hx⟩, gf, q⟩ := h
    refine ⟨_, pss_cons (ps_if (PW.pt (pw_or (pt_not (pt_val (pe_callB call_isi (by rfl) B.isi boot_isinstance (pa_cons (pv 0) (pa_cons (pe_bltn (v := .ty "tuple") (by rfl) B.tuple boot_tuple rfl) pa_nil)))))
          (pw_or1 (pt_not (pt_chain op_le op_le pe_int (pe_callB call_len_seq (by rfl) B.len PySem.boot_len (pa_cons (pv 0) pa_nil)) (pe_glob (v := .int 8) (by rfl) gM ⟨_, rfl⟩)))))) (pss_one ps_no) pss_nil)
      (pss_cons (ps_set (i := 1) scChkP.nd rfl (.inl rfl) (pe_lst pa_nil))
      (pss_one (ps_for (passes_of rfl) rfl (pi_E .tu (by rfl) B.enum (pa_cons (pv 0) pa_nil)) (pg_tup rfl (pgs_cons (pg_name (i := 2) scChkP.nd rfl (.inl rfl)) (pgs_cons (pg_name (i := 3) scChkP.nd rfl (.inl rfl)) pgs_nil)))
        (pss_cons (ps_if (pt_not (pt_val (pe_call GD hr (by rfl) DD.mg DD.fn.kp DD.bd .nil pass0 (pa_cons (pv 3) (pa_cons (pv 1) pa_nil))))) (pss_one ps_no) pss_nil)
        (pss_one (ps_expr (pe_bm PySem.F.plainAttrs_list PySem.F.slot_list_append PySem.F.type_list_append mt_append (pv 1) (pa_cons (pe_ix (r := rIxT K) ix_tup (pv 3) pe_int (fun _ _ => rfl)) pa_nil)))))))), ?_⟩
    have l1 := gf.l1
    have l8 := gf.l8
    refine ⟨_, rfl, _, .ty "tuple", _, .type "tuple", true, rfl, .ty _, tyT ht, kit_ty (by decide +kernel), true, rfl, iteF ⟨_, rfl, t, _, rfl, .inr ht, 1, _, rfl, rfl, _, rfl, ?_⟩⟩
    rw [decide_eq_true (show (1 : Int) ≤ ((xs.length : Nat) : Int) by omega)]
    refine iteT ⟨_, 8, rfl, rfl, _, rfl, ?_⟩
    rw [decide_eq_true (show ((xs.length : Nat) : Int) ≤ 8 by omega)]
    refine iteF ?_
    refine ⟨by show 0 ≤ sizeLine; decide, fun l nl => ?_⟩
    have sm0 : Same H (upd H l (.lst [])) := same_new nl
    have hl0 : (upd H l (.lst [])) l = some (.lst []) := upd_same
    revert sm0 hl0
    generalize upd H l (.lst []) = H1
    intro sm0 hl0
    have ht1 := (tk_same sm0).sq ht
    refine ⟨_, rfl, t, _, rfl, ht1, for_it (walkE (K := K) (k := .tu) (a := t) (xs := xs)) (fun i σ H' => ∃ y2 y3, σ = [some (.ref t), some (.ref l), y2, y3] ∧ Same H H' ∧ H' l = some (.lst (((rows.take i).map Prod.fst).map V.str))) ⟨none, none, rfl, sm0, hl0⟩ (fun i σ H' _ ⟨_, _, _, s, _⟩ => (tk_same s).sq ht) ?_ ?_⟩
    · rintro i _ σ H4 _ i1 ⟨y2, y3, rfl, s4, hl4⟩ ⟨T1, _, y, rfl, nT, rfl, ei, hy⟩
      cases ei
      obtain ⟨a, r, rfl, hr, ha⟩ := hx i y hy
      have s5 : Same H4 (upd H4 T1 (.tup [.int (i : Nat), .ref a])) := same_new nT
      have g5 : (upd H4 T1 (.tup [.int (i : Nat), .ref a])) T1 = some (.tup [.int (i : Nat), .ref a]) := upd_same
      revert s5 g5
      generalize upd H4 T1 (.tup [.int (i : Nat), .ref a]) = H5
      intro s5 g5
      refine ⟨T1, _, rfl, sqT g5, rfl, _, _, rfl, _, _, rfl, rfl, ?_⟩
      have h25 := (tk_same (s4.trans s5)).sq ha
      have nm := gf.nm r (List.mem_of_getElem? hr)
      refine ⟨_, rfl, _, rfl, a, l, r.1, r.2, _, rfl, h25, s5 _ _ hl4, nm.name, by have := nm.1.2.2; omega, fst_new gf.nd hr, fun z e => gf.pr i r z hr e, fun H6 s6 => ⟨true, rfl, iteF ?_⟩⟩
      have hl6 := s6 _ _ (s5 _ _ hl4)
      refine ⟨_, rfl, .inl ⟨rfl, _, sqL hl6⟩, _, rfl, a, _, 0, .str r.1, rfl, rfl, (tk_same s6).sq h25, atI_nat (j := 0) rfl, l, _, _, rfl, rfl, hl6, ?_, ?_⟩
      · rw [List.length_map, List.length_map, List.length_take]
        exact Nat.lt_of_lt_of_le (show _ < 9 by omega) (by decide)
      refine ⟨_, _, rfl, ((Bt.of_same (S := []) (s4.trans (s5.trans s6))).upd0 nl).same, ?_⟩
      rw [upd_same, take_more hr, List.map_append, List.map_append]
      rfl
    · rintro σ H4 ⟨y2, y3, rfl, s4, _⟩
      exact q H4 s4
def spChk0 (K : PySem.W.Frag) : Sp := fun vs H Q _ => ∃ t, vs = [.ref t] ∧ SqT K H t [] ∧ ∀ H', Same H H' → Q .non H'
theorem ok_chkG0 {f : Addr} {fd : FuncData} {tM : Tok} {k : Nat} (B : Bi mg) (gM : mg "MOST_GOODS" = some (.int 8 tM)) (D : Df K mg "check_goods" sChkG f fd ["goods"]) : FnOk P w K mg base (L2.CX P w) (k + 1) f fd ["goods"] (spChk0 K) := by
  refine D.fn.okX scChkG (fun vs H Q E h => ?_) (fun cdv A outer s H vs Q E hr h => ?_)
  · obtain ⟨t, rfl, _⟩ := h
    rfl
  · obtain ⟨t, rfl, ht, q⟩ := h
    refine ⟨_, pss_cons (ps_if (PW.pt (pw_or (pt_not (pt_val (pe_callB call_isi (by rfl) B.isi boot_isinstance (pa_cons (pv 0) (pa_cons (pe_bltn (v := .ty "tuple") (by rfl) B.tuple boot_tuple rfl) pa_nil)))))
          (pw_or1 (pt_cmpR op_gt (pe_callB call_len_seq (by rfl) B.len PySem.boot_len (pa_cons (pv 0) pa_nil)) (pe_glob (v := .int 8) (by rfl) gM ⟨_, rfl⟩) (nomark _))))) (pss_one ps_no) pss_nil)
      (pss_cons (ps_set (i := 1) scChkG.nd rfl (.inl rfl) (pe_lst pa_nil))
      (pss_one (ps_for (passes_of rfl) rfl (pi_E .tu (by rfl) B.enum (pa_cons (pv 0) pa_nil)) (pg_tup rfl (pgs_cons (pg_name (i := 2) scChkG.nd rfl (.inl rfl)) (pgs_cons (pg_name (i := 3) scChkG.nd rfl (.inl rfl)) pgs_nil))) pss_noS))), ?_⟩
    refine ⟨_, rfl, _, .ty "tuple", _, .type "tuple", true, rfl, .ty _, tyT ht, kit_ty (by decide +kernel), true, rfl, iteF ⟨_, rfl, t, _, rfl, .inr ht, _, 8, rfl, rfl, _, rfl, iteF ?_⟩⟩
    refine ⟨by show 0 ≤ sizeLine; decide, fun l nl => ?_⟩
    have sm0 : Same H (upd H l (.lst [])) := same_new nl
    revert sm0
    generalize upd H l (.lst []) = H1
    intro sm0
    refine ⟨_, rfl, t, _, rfl, (tk_same sm0).sq ht, for_it (walkE (K := K) (k := .tu) (a := t) (xs := [])) (fun i σ H' => Same H H') sm0 (fun i σ H' _ s => (tk_same s).sq ht) ?_ ?_⟩
    · intro i x σ H3 H4 hi
      exact absurd hi (Nat.not_lt_zero _)
    · intro σ H' s
      exact q H' s
/-! ### House -/
structure HsF (K : PySem.W.Frag) (C : Addr) : Prop where
  cl : Cls K C
  n1 : NoAttr K C "folk"
  n2 : NoAttr K C "things"
  n3 : NoAttr K C "purse"
  n4 : NoAttr K C "debts"
/-- a house of people without goods, purse and debts -/
def HouseAt (K : PySem.W.Frag) (CH : Addr) (H : Hp) (o : Addr) (v : V) : Prop := ∃ (dx t : Addr), H o = some (.ins CH dx [("folk", v), ("things", .ref t), ("purse", .int 0), ("debts", .int 0)]) ∧ SqT K H t []
def spHI (K : PySem.W.Frag) (CH : Addr) : Sp := fun vs H Q _ => ∃ (o dx : Addr) (v : V) (rows : List (Str × Option Str)), vs = [.ref o, v, .non, .int 0, .int 0] ∧ H o = some (.ins CH dx []) ∧ FolkAt K H v rows ∧ GoodF rows ∧ ∀ H', Bt [o] H H' → Q .non H'
theorem ok_HI {f fC fG fS : Addr} {fd fdC fdG fdS : FuncData} {k : Nat} (B : Bi mg) (T : HsF K CH) (F : FunD K "__init__" "House.__init__" (defArgs sHI) (defBody sHI) (defScope sHI) [.non, .int 0, .int 0] [] f fd) (GC : FnOk P w K mg base (L2.CX P w) (k + 3) fC fdC ["people"] (spChkP K)) (DC : Df K mg "check_people" sChkP fC fdC ["people"])
    (GG : FnOk P w K mg base (L2.CX P w) (k + 1) fG fdG ["goods"] (spChk0 K)) (DG : Df K mg "check_goods" sChkG fG fdG ["goods"]) (GS : FnOk P w K mg base CX0 (k + 2) fS fdS ["thing"] spZero) (DS : Df K mg "is_sum" sSum fS fdS ["thing"]) :
    FnOk P w K mg base (L2.CX P w) (k + 4) f fd ["self", "people", "goods", "purse", "debts"] (spHI K CH) := by
  refine F.ok scHI (fun vs H Q E h => ?_) (fun cdv A outer s H vs Q E hr h => ?_)
  · obtain ⟨o, dx, v, rows, rfl, _⟩ := h
    rfl
  · obtain ⟨o, dx, v, rows, rfl, ho, hv, gf, q⟩ := h
    have r1 : Room (k + 1) _ := hr.mono (by omega)
    have r2 : Room (k + 2) _ := hr.mono (by omega)
    refine ⟨_, pss_cons (ps_expr (pe_callS GC hr (by rfl) DC.mg DC.fn.kp DC.bd (fun σ => passAt (takes_of rfl rfl rfl rfl) σ) (pa_cons (pv 1) pa_nil)))
      (pss_cons (ps_set (i := 5) scHI.nd rfl (.inl rfl) (pe_ifExp (pt_cmpR op_isN (pv 2) pe_non (nomark _)) (pe_tup pa_nil) pe_no))
      (pss_cons (ps_expr (pe_callS GG r1 (by rfl) DG.mg DG.fn.kp DG.bd (fun σ => passAt (takes_of rfl rfl rfl rfl) σ) (pa_cons (pv 5) pa_nil)))
      (pss_cons (ps_for (passes_of rfl) rfl (pi_tup (pe_tup (pa_cons (pv 3) (pa_cons (pv 4) pa_nil)))) (pg_name (i := 6) scHI.nd rfl (.inl rfl))
        (pss_one (ps_if (pt_not (pt_val (pe_call GS r2 (by rfl) DS.mg DS.fn.kp DS.bd .nil pass0 (pa_cons (pv 6) pa_nil)))) (pss_one ps_no) pss_nil)))
      (pss_cons (ps_fld (pv 0) (pv 1) rfl) (pss_cons (ps_fld (pv 0) (pv 5) rfl) (pss_cons (ps_fld (pv 0) (pv 3) rfl) (pss_one (ps_fld (pv 0) (pv 4) rfl)))))))), ?_⟩
    refine ⟨_, rfl, v, rows, rfl, hv, gf, fun H1 s1 => ?_⟩
    refine ⟨_, rfl, rfl, _, rfl, iteT ⟨by show 0 ≤ sizeLine; decide, fun t nt => ?_⟩⟩
    refine ⟨_, rfl, t, rfl, sqT upd_same, fun H2 s2 => ?_⟩
    have s12 : Same H H2 := s1.trans ((same_new nt).trans s2)
    refine ⟨_, rfl, _, rfl, by show 2 ≤ sizeLine; decide, fun t2 nt2 => ⟨t2, rfl, ⟨_, sqT upd_same⟩, ?_⟩⟩
    have s3 : Same H (upd H2 t2 (.tup [.int 0, .int 0])) := s12.trans (same_new nt2)
    have g3 : (upd H2 t2 (.tup [.int 0, .int 0])) t2 = some (.tup [.int 0, .int 0]) := upd_same
    revert s3 g3
    generalize upd H2 t2 (.tup [.int 0, .int 0]) = H3
    intro s3 g3
    refine for_tup (K := K) (a := t2) (xs := [.int 0, .int 0]) (fun i σ H' => (∃ y, σ = [some (.ref o), some v, some .non, some (.int 0), some (.int 0), some (.ref t), y]) ∧ H' = H3) ⟨⟨_, rfl⟩, rfl⟩ (fun i σ H' _ h => h.2 ▸ sqT g3) ?_ ?_
    · rintro i x σ H4 hx ⟨⟨y, rfl⟩, rfl⟩
      have : x = .int 0 := by
        match i, hx with
        | 0, hx => cases hx; rfl
        | 1, hx => cases hx; rfl
        | i + 2, hx => cases hx
      subst this
      exact ⟨_, rfl, rfl, true, rfl, iteF ⟨⟨_, rfl⟩, rfl⟩⟩
    · rintro σ H4 ⟨⟨y, rfl⟩, rfl⟩
      refine ⟨_, rfl, _, rfl, o, CH, dx, _, rfl, s3 _ _ ho, T.cl, T.n1, by show 0 < 1000; decide, ?_⟩
      refine ⟨_, rfl, _, rfl, o, CH, dx, _, rfl, upd_same, T.cl, T.n2, by show 1 < 1000; decide, ?_⟩
      refine ⟨_, rfl, _, rfl, o, CH, dx, _, rfl, upd_same, T.cl, T.n3, by show 2 < 1000; decide, ?_⟩
      refine ⟨_, rfl, _, rfl, o, CH, dx, _, rfl, upd_same, T.cl, T.n4, by show 3 < 1000; decide, ?_⟩
      exact q _ (((((Bt.of_same s3).upd1 (by simp)).upd1 (by simp)).upd1 (by simp)).upd1 (by simp))
end
end WdQ

set_option Elab.async false
set_option linter.all false
set_option maxRecDepth 100000
set_option maxHeartbeats 4000000
namespace Wd
open PySem PySem.Spec PyProof.Rows L2 WdM
/-! ### an own object's special methods: str, repr, len, ==, != -/
section
variable {X : Cx} {n : Nat} {f C : Addr} {fd : FuncData} {ps : List Str} {sp : Sp}
/-- a def is called somewhere below the running body -/
theorem run_own (F : FnOk X.prog X.w X.K X.mg X.base CX0 n f fd ps sp) (hb : Binds X.K fd ps []) {A : Around} (sb : Sub X n A) {pins : List (Addr × Obj)} {σ : L2.St} {H : Hp} {s : Shared} (I : Inv X pins σ H s) {vs : List V} {us : List Value} (r : Vals vs us) {Q : VK} (h : sp vs H Q E0) :
    wpAny (model X.prog X.w) A (call (.ref f) us) (fun u s' => ∃ v H', Inv X pins σ H' s' ∧ RelV v u ∧ Q v H') X.xe s := by
  have e0 : Env0 X.prog X.w X.K X.mg X.base A X.stack s H := by
    have e := I.env0
    exact ⟨by rw [sb.fr]; exact e.frames, e.mod, e.bs, e.bsz, e.funs, e.frf, e.hok, e.bare⟩
  have hl := F.len _ _ _ _ h
  have hu : us.length = vs.length := r.length.symm
  refine wpAny_call (codeAny_mono (F.run A X.stack s H ⟨us, []⟩ us vs _ E0 sb.room e0 (by
    have := hb s us I.kIn (by simpa [hu] using hl)
    simpa using this) r h) fun r s' hq => ?_)
  cases r with
  | error e => exact (hq : False).elim
  | ok fl =>
    cases fl with
    | ret w =>
      obtain ⟨z, H', I', rz, ez⟩ := I.after hq
      exact ⟨z, H', I', rz, ez⟩
    | next => exact False.elim hq
    | brk => exact False.elim hq
    | cont => exact False.elim hq
def rOwnS (C : Addr) (sp : Sp) : List V → Hp → VK → Prop := fun xs H Q => ∃ a dx fs, xs = [.ref a] ∧ H a = some (.ins C dx fs) ∧ sp [.ref a] H (fun v H' => ∃ y, v = .str y ∧ Q v H') E0
def rOwnI (C : Addr) (sp : Sp) : List V → Hp → VK → Prop := fun xs H Q => ∃ a dx fs, xs = [.ref a] ∧ H a = some (.ins C dx fs) ∧ sp [.ref a] H (fun v H' => ∃ i : Int, v = .int i ∧ 0 ≤ i ∧ i < 2 ^ 62 ∧ Q v H') E0
theorem call_strO (F : FnOk X.prog X.w X.K X.mg X.base CX0 n f fd ps sp) (hs : PySem.W.findIn X.K (.ref C) "__str__" = some (some (.ref f))) (hf : PySem.W.isFn X.K (.ref f) = true) (hb : Binds X.K fd ps []) (room : Room (n + 2) X.A) : CallR X (.type "str") (rOwnS C sp) := by
  rintro pins s σ H _ us Q I r ⟨a, dx, fs, rfl, ha, h⟩
  obtain ⟨u, rfl, ru⟩ := vals1 r
  cases ru
  obtain ⟨mA, J, _⟩ := ins_get I.hok ha
  obtain ⟨od, J, _⟩ := J.look
  have sb : Sub X n X.A.in1.in1 := (Sub.in1 (Sub.in1 ⟨room, rfl⟩))
  refine PySem.W.kso_call sb.room.units0 I.kIn J hs hf (wpAny_mono (run_own (vs := [.ref a]) (us := [.ref a]) F hb sb I (.cons rfl .nil) h) (fun v s' z => ?_) fun _ _ z => z)
  obtain ⟨v, H', I', rv, y, rfl, q⟩ := z
  obtain ⟨t, rfl⟩ := rv
  exact ⟨.str y, H', I', ⟨t, rfl⟩, q⟩
theorem call_reprO (F : FnOk X.prog X.w X.K X.mg X.base CX0 n f fd ps sp) (hs : PySem.W.findIn X.K (.ref C) "__repr__" = some (some (.ref f))) (hf : PySem.W.isFn X.K (.ref f) = true) (hb : Binds X.K fd ps []) (room : Room (n + 1) X.A) : CallR X (.builtin "repr") (rOwnS C sp) := by
  rintro pins s σ H _ us Q I r ⟨a, dx, fs, rfl, ha, h⟩
  obtain ⟨u, rfl, ru⟩ := vals1 r
  cases ru
  obtain ⟨mA, J, _⟩ := ins_get I.hok ha
  obtain ⟨od, J, _⟩ := J.look
  obtain ⟨m, hF⟩ := I.fr
  have sb : Sub X n X.A.in1 := (Sub.in1 ⟨room, rfl⟩)
  refine PySem.W.repr_K sb.room.units0 hF I.ok.mod.kin J hs hf (wpAny_mono (run_own (vs := [.ref a]) (us := [.ref a]) F hb sb I (.cons rfl .nil) h) (fun v s' z => ?_) fun _ _ z => z)
  obtain ⟨v, H', I', rv, y, rfl, q⟩ := z
  obtain ⟨t, rfl⟩ := rv
  exact ⟨.str y, H', I', ⟨t, rfl⟩, q⟩
theorem call_lenO (F : FnOk X.prog X.w X.K X.mg X.base CX0 n f fd ps sp) (hs : PySem.W.findIn X.K (.ref C) "__len__" = some (some (.ref f))) (hf : PySem.W.isFn X.K (.ref f) = true) (hb : Binds X.K fd ps []) (room : Room (n + 1) X.A) : CallR X (.builtin "len") (rOwnI C sp) := by
  rintro pins s σ H _ us Q I r ⟨a, dx, fs, rfl, ha, h⟩
  obtain ⟨u, rfl, ru⟩ := vals1 r
  cases ru
  obtain ⟨mA, J, _⟩ := ins_get I.hok ha
  obtain ⟨od, J, _⟩ := J.look
  obtain ⟨m, hF⟩ := I.fr
  have sb : Sub X n X.A.in1 := (Sub.in1 ⟨room, rfl⟩)
  refine PySem.W.len_K hF I.ok.mod.kin J hs hf (wpAny_mono (run_own (vs := [.ref a]) (us := [.ref a]) F hb sb I (.cons rfl .nil) h) (fun v s' z => ?_) fun _ _ z => z)
  obtain ⟨v, H', I', rv, i, rfl, i0, i1, q⟩ := z
  obtain ⟨t, rfl⟩ := rv
  exact ⟨⟨i0, Int.lt_of_lt_of_le i1 (by decide)⟩, .int i, H', I'.tok _, ⟨_, rfl⟩, q⟩
/-- x == y of two own objects of one class -/
def rOwnE (C : Addr) (sp : Sp) (g : Bool → Bool) : R2 := fun x y H Q => ∃ a b dx dy fs gs, x = .ref a ∧ y = .ref b ∧ H a = some (.ins C dx fs) ∧ H b = some (.ins C dy gs) ∧ sp [.ref a, .ref b] H (fun v H' => ∃ k, v = .bl k ∧ Q (.bl (g k)) H') E0
theorem op_eqO (F : FnOk X.prog X.w X.K X.mg X.base CX0 n f fd ps sp) (hs : PySem.W.findIn X.K (.ref C) "__eq__" = some (some (.ref f))) (hf : PySem.W.isFn X.K (.ref f) = true) (hb : Binds X.K fd ps []) (room : Room n X.A) : OpR X (compareOp .Eq) (rOwnE C sp id) := by
  rintro pins s σ H _ _ u v Q I rx ry ⟨a, b, dx, dy, fs, gs, rfl, rfl, ha, hb', h⟩
  cases rx
  cases ry
  obtain ⟨mA, J, _⟩ := ins_get I.hok ha
  obtain ⟨mB, J', _⟩ := ins_get I.hok hb'
  obtain ⟨od, J, _⟩ := J.look
  obtain ⟨od', J', _⟩ := J'.look
  obtain ⟨m, hF⟩ := I.fr
  have sb : Sub X n X.A := ⟨room, rfl⟩
  refine PySem.W.cmp_K (op := .Eq) (tb := .ref C) sb.room.units0 hF I.ok.mod.kin J J'.type (by simp [PySem.W.notFirst]) hs hf (wpAny_mono (run_own (vs := [.ref a, .ref b]) (us := [.ref a, .ref b]) F hb sb I (.cons rfl (.cons rfl .nil)) h) (fun v s' z => ?_) fun _ _ z => z)
  obtain ⟨v, H', I', rv, k, rfl, q⟩ := z
  cases rv
  exact ⟨.bl k, H', I', rfl, q⟩
end
end Wd

set_option Elab.async false
set_option linter.all false
set_option maxRecDepth 100000
set_option maxHeartbeats 4000000
namespace Wd
open PySem PySem.Spec PyProof.Rows L2 WdM
section
variable {prog : Program} {w : World} {A : Around} {E : Value → Shared → Prop} {s : Shared} {K : PySem.W.Frag} {x C f : Addr} {ox : Obj} {od : Option Obj} {b tb : Value}
open PySem.W in
theorem ifBound_B {M : Model} {name : Str} {id : String} {args : List Value} {Q : Option Value → Shared → Prop} (X : K.In s.heap) (I : InstAt s.heap x ox C od) (hs : findIn K (.ref C) name = some (some (.builtin id))) (hb : ∀ self, bindSpecial (.builtin id) self = pure (.builtin id, [self]))
    (h : wpAny M A (call (.builtin id) (.ref x :: args)) (fun v => Q (some v)) E s) : wpAny M A (callSpecialIfBound? (.ref x) name args) Q E s := by
  simp only [callSpecialIfBound?, bindSpecialIfBound?]
  refine wpAny_holding (wpAny_bind (wpAny_bind (wpAny_bind (I.type.here ((looks_findIn X hs).here ?_)))))
  simp only [hb]
  refine wpAny_bind (wpAny_askSetting (wpAny_ite ?_))
  have fin : wpAny M A (call (.builtin id) ([.ref x] ++ args) >>= fun v => pure (some v)) Q E s := wpAny_bind (wpAny_mono h (fun v s' h' => wpAny_pure h') fun _ _ h' => h')
  split
  · exact wpAny_bind (wpAny_pure (wpAny_pure fin))
  · exact wpAny_tryCatch (wpAny_bind (wpAny_pure (wpAny_pure fin)))
open PySem.W in
theorem objNe_K (hu : A.units < cLine) (X : K.In s.heap) (I : InstAt s.heap x ox C od) (he : findIn K (.ref C) "__eq__" = some (some (.ref f))) (hf : isFn K (.ref f) = true) {Q : PySem.Fin → Shared → Prop}
    (hcall : wpAny (model prog w) A (call (.ref f) [.ref x, b]) (fun v s' => ∃ k, v = .bool k ∧ Q (.done (.ret (.bool (!k)))) s') E s) :
    wpAny (model prog w) A (Builtin.«object.__ne__» ⟨[.ref x, b], []⟩) Q E s := by
  unfold Builtin.«object.__ne__»
  repeat (first
    | with_reducible refine wpAny_cRoomFor hu ?_
    | (refine wpAny_bind (m := callSpecialIfBound? (.ref x) (Str.ofString "__eq__") [b])
        (ifBound_K X I he hf (wpAny_mono hcall (fun r s' hr => by
          obtain ⟨k, rfl, hq⟩ := hr
          repeat (first | exact hq | exact wpAny_pure hq | exact wpAny_truthy_bool hq | (refine wpAny_bind (m := truthy (.bool _)) (wpAny_truthy_bool ?_)) | wp_step)) fun _ _ e => e)))
    | wp_step)
open PySem.W in
theorem ne_K {Q : Value → Shared → Prop} (hu : A.units + 1 < cLine) (X : K.In s.heap) (I : InstAt s.heap x ox C od) (hb : Looks (model prog w) s.heap (typeOf b) tb) (hn : notFirst K C tb = true) (hm : mroIn K C (.type "object") = some true)
    (hne : findIn K (.ref C) "__ne__" = some (some (.builtin "object.__ne__"))) (he : findIn K (.ref C) "__eq__" = some (some (.ref f))) (hf : isFn K (.ref f) = true)
    (h : wpAny (model prog w) A.in1 (call (.ref f) [.ref x, b]) (fun v s' => ∃ k, v = .bool k ∧ Q (.bool (!k)) s') E s) : wpAny (model prog w) A (richCompare .NotEq (.ref x) b) Q E s := by
  have one : wpAny (model prog w) A (tryCompare (.ref x) (cmpInfo .NotEq).2.1 b) (fun r s' => ∃ v, r = some v ∧ Q v s') E s := by
    simp only [tryCompare]
    refine wpAny_bind (ifBound_B X I hne PySem.F.slot_object_ne.bind (wpAny_call (codeAny_call_builtin PySem.F.slot_object_ne.plain PySem.F.cmpEntry_ne
      (check_slot (i := "object.__ne__") (owner := "object") (n := "__ne__") (by decide +kernel) (by decide +kernel) (I.type.andThen (looks_mroIn X hm)) (PySem.F.cmpArgs_ne _ _)
        (objNe_K (A := A.in1) hu X I he hf (wpAny_mono h (fun v s' hv => ?_) fun _ _ e => e))))))
    obtain ⟨k, rfl, hq⟩ := hv
    first | exact ⟨k, rfl, wpAny_pure ⟨_, rfl, hq⟩⟩ | exact ⟨k, rfl, wpAny_pure (wpAny_pure ⟨_, rfl, hq⟩)⟩ | exact ⟨k, rfl, ⟨_, rfl, hq⟩⟩
  unfold richCompare
  simp only [oneThing_ref]
  refine wpAny_holding (wpAny_bind (wpAny_cRoomFor (Nat.lt_of_succ_lt hu) ?_))
  refine wpAny_bind (I.type.here (wpAny_bind (hb.here ?_)))
  split
  · rename_i q
    have e : subIn K tb (.ref C) = some false := by
      rcases Bool.or_eq_true_iff.mp hn with e | e
      · rw [beq_iff_eq.mp e] at q; simp at q
      · exact beq_iff_eq.mp e
    refine wpAny_bind ((looks_subIn X e).here ?_)
    simp only [Bool.false_eq_true, if_false]
    refine wpAny_bind (wpAny_mono one (fun r s' z => ?_) fun _ _ e => e)
    obtain ⟨v, rfl, hq⟩ := z
    exact wpAny_pure hq
  · refine wpAny_bind (wpAny_pure ?_)
    simp only [Bool.false_eq_true, if_false]
    refine wpAny_bind (wpAny_mono one (fun r s' z => ?_) fun _ _ e => e)
    obtain ⟨v, rfl, hq⟩ := z
    exact wpAny_pure hq
end
section
variable {X : Cx} {n : Nat} {f C : Addr} {fd : FuncData} {ps : List Str} {sp : Sp}
theorem op_neO (F : FnOk X.prog X.w X.K X.mg X.base CX0 n f fd ps sp) (hne : PySem.W.findIn X.K (.ref C) "__ne__" = some (some (.builtin "object.__ne__"))) (hm : PySem.W.mroIn X.K C (.type "object") = some true) (hs : PySem.W.findIn X.K (.ref C) "__eq__" = some (some (.ref f))) (hf : PySem.W.isFn X.K (.ref f) = true) (hb : Binds X.K fd ps []) (room : Room (n + 1) X.A) : OpR X (compareOp .NotEq) (rOwnE C sp (fun k => !k)) := by
  rintro pins s σ H _ _ u v Q I rx ry ⟨a, b, dx, dy, fs, gs, rfl, rfl, ha, hb', h⟩
  cases rx
  cases ry
  obtain ⟨mA, J, _⟩ := ins_get I.hok ha
  obtain ⟨mB, J', _⟩ := ins_get I.hok hb'
  obtain ⟨od, J, _⟩ := J.look
  obtain ⟨od', J', _⟩ := J'.look
  have sb : Sub X n X.A.in1 := (Sub.in1 ⟨room, rfl⟩)
  refine ne_K (tb := .ref C) sb.room.units0 I.kIn J J'.type (by simp [PySem.W.notFirst]) hm hne hs hf (wpAny_mono (run_own (vs := [.ref a, .ref b]) (us := [.ref a, .ref b]) F hb sb I (.cons rfl (.cons rfl .nil)) h) (fun v s' z => ?_) fun _ _ z => z)
  obtain ⟨v, H', I', rv, k, rfl, q⟩ := z
  cases rv
  exact ⟨k, rfl, .bl (!k), H', I', rfl, q⟩
/-- {o} in an f-string, o an own object -/
def tFmtO (C : Addr) (sp : Sp) (te : TE) : TE := fun σ H Q => te σ H fun x H1 => ∃ a dx fs, x = .ref a ∧ H1 a = some (.ins C dx fs) ∧ sp [.ref a] H1 (fun v H' => ∃ y, v = .str y ∧ Q v H') E0
theorem pe_fmtO {e : Expr} {te : TE} {pos : Pos} (F : FnOk X.prog X.w X.K X.mg X.base CX0 n f fd ps sp) (hfm : PySem.W.findIn X.K (.ref C) "__format__" = some (some (.builtin "object.__format__"))) (hm : PySem.W.mroIn X.K C (.type "object") = some true) (hs : PySem.W.findIn X.K (.ref C) "__str__" = some (some (.ref f))) (hf : PySem.W.isFn X.K (.ref f) = true) (hb : Binds X.K fd ps []) (room : Room (n + 1) X.A) (he : PE X e te) : PE X (.FormattedValue e (-1) none pos) (tFmtO C sp te) := by
  refine ⟨fun pins s σ H Q I h => ?_⟩
  refine wpAny_FormattedValue_plain (thn (he.run pins s σ H _ I h) fun v s1 hv => ?_)
  obtain ⟨x, H1, I1, r1, a, dx, fs, rfl, ha, q⟩ := hv
  cases r1
  obtain ⟨mA, J, _⟩ := ins_get I1.hok ha
  obtain ⟨od, J, _⟩ := J.look
  have sb : Sub X n X.A.in1 := (Sub.in1 ⟨room, rfl⟩)
  refine PySem.W.kfo_fieldS sb.room.units0 I1.kIn J hfm hm hs hf (wpAny_mono (run_own (vs := [.ref a]) (us := [.ref a]) F hb sb (I1.tok _) (.cons rfl .nil) q) (fun v s' z => ?_) fun _ _ z => z)
  obtain ⟨v, H', I', rv, y, rfl, q⟩ := z
  obtain ⟨t, rfl⟩ := rv
  exact ⟨.str y, H', I', ⟨t, rfl⟩, q⟩
end
end Wd

set_option Elab.async false
set_option linter.all false
set_option maxRecDepth 100000
set_option maxHeartbeats 4000000
set_option exponentiation.threshold 5000
namespace WdQ
open PySem PySem.Spec PyProof.Rows L2 WdM Wd
abbrev sDied : Stmt := inClass sStory 1
abbrev sLiv : Stmt := inClass sStory 2
abbrev sLen : Stmt := inClass sStory 3
abbrev sEq : Stmt := inClass sStory 4
abbrev sStr : Stmt := inClass sStory 5
abbrev sRepr : Stmt := inClass sStory 6
abbrev sText : Stmt := topS 54
theorem scDied : FnScope ["self", "name", "one", "day"] ["self", "name"] (defScope sDied) := ⟨rfl, rfl, rfl, by decide +kernel, rfl, by decide +kernel, by decide +kernel⟩
theorem scLiv : FnScope ["self", "name", "more", "day"] ["self", "name", "more"] (defScope sLiv) := ⟨rfl, rfl, rfl, by decide +kernel, rfl, by decide +kernel, by decide +kernel⟩
theorem scLen : FnScope ["self"] ["self"] (defScope sLen) := ⟨rfl, rfl, rfl, by decide +kernel, rfl, by decide +kernel, by decide +kernel⟩
theorem scEq : FnScope ["self", "other"] ["self", "other"] (defScope sEq) := ⟨rfl, rfl, rfl, by decide +kernel, rfl, by decide +kernel, by decide +kernel⟩
theorem scStr : FnScope ["self"] ["self"] (defScope sStr) := ⟨rfl, rfl, rfl, by decide +kernel, rfl, by decide +kernel, by decide +kernel⟩
theorem scRepr : FnScope ["self"] ["self"] (defScope sRepr) := ⟨rfl, rfl, rfl, by decide +kernel, rfl, by decide +kernel, by decide +kernel⟩
def nText : List Str := ["deaths", "name", "day"]
theorem scText : FnScope nText ["deaths"] (defScope sText) := ⟨rfl, rfl, rfl, by decide +kernel, rfl, by decide +kernel, by decide +kernel⟩
/-! ### the day of a name -/
def look : List (Str × Int) → Str → Option Int
  | [], _ => none
  | r :: rs, z => if r.1 = z then some r.2 else look rs z
def dayV : Option Int → V
  | none => .non
  | some d => .int d
def aliveB (rows : List (Str × Int)) (z : Str) (m : Int) : Bool := match look rows z with
  | none => true
  | some d => decide (m < d)
theorem look_drop {rows : List (Str × Int)} {i : Nat} {r : Str × Int} (h : rows[i]? = some r) (z : Str) : look (rows.drop i) z = if r.1 = z then some r.2 else look (rows.drop (i + 1)) z := by
  obtain ⟨hi, rfl⟩ := List.getElem?_eq_some_iff.mp h
  rw [List.drop_eq_getElem_cons hi]
  rfl
/-! ### its text -/
def deathT (r : Str × Int) : Str := ((Str.empty ++ r.1) ++ " ") ++ Str.ofString (toString r.2)
def storyT (rows : List (Str × Int)) : Str := if rows = [] then "none" else Txt.join ", " (rows.map deathT)
theorem log_day {i : Int} (h0 : -9999 ≤ i) (h1 : i ≤ 9999) : i.natAbs.log2 < 1920 := by
  by_cases z : i.natAbs = 0
  · rw [z]; decide
  · exact Nat.lt_of_lt_of_le ((Nat.log2_lt z).mpr (show i.natAbs < 2 ^ 14 by omega)) (by decide)
theorem day_text {i : Int} (h0 : -9999 ≤ i) (h1 : i ≤ 9999) : (Str.ofString (toString i)).length ≤ 5 := by
  have e : (toString i).length ≤ 4 + 1 := int_text_length_le10 (k := 4) (by decide) (by omega)
  rw [PySem.ofString_length]
  omega
theorem len_app (x y : Str) : (x ++ y).length = x.length + y.length := strLen_append x y
theorem nm_len {z : Str} (h : nmB z = true) : 1 ≤ z.length ∧ z.length ≤ 8 := by
  unfold nmB at h
  simp only [Bool.and_eq_true, decide_eq_true_eq] at h
  exact h.1.1
theorem nm_let {z : Str} (h : nmB z = true) : okL z := by
  unfold nmB at h
  simp only [Bool.and_eq_true] at h
  exact fun c hc => List.all_eq_true.mp h.2 c hc
theorem death_len {r : Str × Int} (h : nmB r.1 = true) (d0 : -9999 ≤ r.2) (d1 : r.2 ≤ 9999) : (deathT r).length ≤ 14 := by
  have a := nm_len h
  have b := day_text d0 d1
  unfold deathT
  rw [len_app, len_app, len_app]
  show 0 + r.1.length + 1 + _ ≤ 14
  omega
theorem sum_le14 : ∀ {ys : List Str}, (∀ y ∈ ys, y.length ≤ 14) → (ys.map (·.length)).sum ≤ 14 * ys.length
  | [], _ => by simp
  | y :: ys, h => by
    have a := h y List.mem_cons_self
    have b := sum_le14 (ys := ys) fun x hx => h x (List.mem_cons_of_mem _ hx)
    simp only [List.map_cons, List.sum_cons, List.length_cons]
    omega
section
variable {P : Program} {w : World} {K : PySem.W.Frag} {mg : Str → Option Value} {base : Heap} {CY : Addr}
/-- a story -/
def StoryAt (K : PySem.W.Frag) (CY : Addr) (H : Hp) (o : Addr) (rows : List (Str × Int)) : Prop := ∃ (dx : Addr) (v : V), H o = some (.ins CY dx [("deaths", v)]) ∧ DeathsAt K H v rows ∧ GoodD rows
theorem StoryAt.same {H H' : Hp} {o : Addr} {rows : List (Str × Int)} (h : StoryAt K CY H o rows) (e : Same H H') : StoryAt K CY H' o rows := by
  obtain ⟨dx, v, h, d, g⟩ := h
  exact ⟨dx, v, e _ _ h, d.tk (tk_same e), g⟩
def spDied (K : PySem.W.Frag) (CY : Addr) : Sp := fun vs H Q _ => ∃ (o : Addr) (z : Str) (rows : List (Str × Int)), vs = [.ref o, .str z] ∧ StoryAt K CY H o rows ∧ nmB z = true ∧ ∀ H', Same H H' → Q (dayV (look rows z)) H'
theorem ok_died {f fN : Addr} {fd fdN : FuncData} {k : Nat} (T : SyF K CY) (F : Fun K "died" "Story.died" sDied f fd) (GN : FnOk P w K mg base CX0 (k + 1) fN fdN ["thing"] (spName K)) (DN : Df K mg "is_name" sName fN fdN ["thing"]) : FnOk P w K mg base CX0 (k + 2) f fd ["self", "name"] (spDied K CY) := by
  refine F.ok scDied (fun vs H Q E h => ?_) (fun cdv A outer s H vs Q E hr h => ?_)
  · obtain ⟨o, z, rows, rfl, _⟩ := h
    rfl
  · obtain ⟨o, z, rows, rfl, st, nm, q⟩ := h
    refine ⟨_, pss_cons (ps_if (pt_not (pt_val (pe_call GN hr (by rfl) DN.mg DN.fn.kp DN.bd .nil pass0 (pa_cons (pv 1) pa_nil)))) pss_noS pss_nil)
      (pss_cons (ps_for PassesOwn.never rfl (pi_tup (pe_fld (pv 0) rfl)) (pg_tup rfl (pgs_cons (pg_name (i := 2) scDied.nd rfl (.inl rfl)) (pgs_cons (pg_name (i := 3) scDied.nd rfl (.inl rfl)) pgs_nil)))
        (pss_one (ps_if (pt_cmpR op_eq (pv 2) (pv 1) (nomark _)) (pss_one (ps_ret (pv 3))) pss_nil)))
      (pss_one (ps_ret pe_non))), ?_⟩
    refine ⟨_, rfl, .str z, .str z, rfl, (Th.dp (.str z)).is, (fun y e => by cases e; have := nm_len nm; omega), fun H1 s1 => ?_⟩
    rw [show nameB (.str z) = true from nm]
    refine ⟨true, rfl, iteF ?_⟩
    obtain ⟨dx, v, ho, ⟨t, xs, rfl, ht, xl, hx⟩, gd⟩ := st.same s1
    refine ⟨_, rfl, o, CY, dx, _, _, rfl, ho, T.cl, T.n1, rfl, t, rfl, ⟨_, ht⟩, for_tup (K := K) (a := t) (xs := xs) (fun i σ H' => (∃ y2 y3, σ = [some (.ref o), some (.str z), y2, y3]) ∧ look rows z = look (rows.drop i) z ∧ Same H1 H') ⟨⟨none, none, rfl⟩, rfl, Same.refl H1⟩ (fun i σ H' _ h => (tk_same h.2.2).sq ht) ?_ ?_⟩
    · rintro i x σ H2 hx2 ⟨⟨y2, y3, rfl⟩, lk, s2⟩
      obtain ⟨a, r, rfl, hr2, ha⟩ := hx i x hx2
      refine ⟨a, _, rfl, (tk_same s2).sq ha, rfl, _, _, rfl, _, _, rfl, rfl, ?_⟩
      rw [look_drop hr2] at lk
      refine ⟨_, rfl, _, rfl, rfl, _, rfl, ?_⟩
      by_cases e : r.1 = z
      · rw [show decide (V.str r.1 = V.str z) = true by simp [e]]
        rw [if_pos e] at lk
        refine iteT ⟨_, rfl, ?_⟩
        have := q H2 (s1.trans s2)
        rw [lk] at this
        exact this
      · rw [show decide (V.str r.1 = V.str z) = false by simp [e]]
        rw [if_neg e] at lk
        exact iteF ⟨⟨_, _, rfl⟩, lk, s2⟩
    · rintro σ H2 ⟨⟨y2, y3, rfl⟩, lk, s2⟩
      rw [xl, List.drop_length] at lk
      have := q H2 (s1.trans s2)
      rw [lk] at this
      exact this
def spLiv (K : PySem.W.Frag) (CY : Addr) : Sp := fun vs H Q _ => ∃ (o : Addr) (z : Str) (m : Int) (rows : List (Str × Int)), vs = [.ref o, .str z, .int m] ∧ StoryAt K CY H o rows ∧ nmB z = true ∧ -9999 ≤ m ∧ m ≤ 9999 ∧ ∀ H', Same H H' → Q (.bl (aliveB rows z m)) H'
theorem ok_liv {f fD fY : Addr} {fd fdD fdY : FuncData} {k : Nat} (T : SyF K CY) (F : FunD K "lives" "Story.lives" (defArgs sLiv) (defBody sLiv) (defScope sLiv) [.int 0] [] f fd) (MD : Meth K CY "died" fD) (bD : Binds K fdD ["self", "name"] []) (GD : FnOk P w K mg base CX0 (k + 2) fD fdD ["self", "name"] (spDied K CY))
    (GY : FnOk P w K mg base CX0 (k + 2) fY fdY ["thing"] (spDay K)) (DY : Df K mg "is_day" sDay fY fdY ["thing"]) : FnOk P w K mg base CX0 (k + 3) f fd ["self", "name", "more"] (spLiv K CY) := by
  refine F.ok scLiv (fun vs H Q E h => ?_) (fun cdv A outer s H vs Q E hr h => ?_)
  · obtain ⟨o, z, m, rows, rfl, _⟩ := h
    rfl
  · obtain ⟨o, z, m, rows, rfl, st, nm, m0, m1, q⟩ := h
    refine ⟨_, pss_cons (ps_set (i := 3) scLiv.nd rfl (.inl rfl) (pe_meth (pv 0) T.cl MD GD hr bD .nil pass0 (pa_cons (pv 1) pa_nil)))
      (pss_cons (ps_if (pt_not (pt_val (pe_call GY hr (by rfl) DY.mg DY.fn.kp DY.bd .nil pass0 (pa_cons (pv 2) pa_nil)))) pss_noS pss_nil)
      (pss_one (ps_ret (pe_or (pe_cmpR op_isN (pv 3) pe_non (nomark _)) (pe_one (pe_cmpR op_gt (pv 3) (pv 2) (nomark _))))))), ?_⟩
    have st0 := st
    obtain ⟨dx, v, ho, dh, gd⟩ := st
    refine ⟨_, rfl, o, dx, _, rfl, ho, rfl, _, rfl, o, z, rows, rfl, st0, nm, fun H1 s1 => ?_⟩
    refine ⟨_, rfl, [], .int m, .int m, rfl, .int m, ?_⟩
    rw [show dayB (.int m) = true from decide_eq_true ⟨m0, m1⟩]
    refine ⟨true, rfl, iteF ⟨_, rfl, rfl, _, rfl, ?_⟩⟩
    have q := q H1 s1
    unfold aliveB at q
    cases lk : look rows z with
    | none =>
      rw [lk] at q
      exact iteT q
    | some d =>
      rw [lk] at q
      exact iteF ⟨_, rfl, _, rfl, d, m, rfl, rfl, q⟩
def spLen (K : PySem.W.Frag) (CY : Addr) : Sp := fun vs H Q _ => ∃ (o : Addr) (rows : List (Str × Int)), vs = [.ref o] ∧ StoryAt K CY H o rows ∧ Q (.int (rows.length : Nat)) H
theorem ok_len {f : Addr} {fd : FuncData} {k : Nat} (B : Bi mg) (T : SyF K CY) (F : Fun K "__len__" "Story.__len__" sLen f fd) : FnOk P w K mg base CX0 (k + 1) f fd ["self"] (spLen K CY) := by
  refine F.ok scLen (fun vs H Q E h => ?_) (fun cdv A outer s H vs Q E hr h => ?_)
  · obtain ⟨o, rows, rfl, _⟩ := h
    rfl
  · obtain ⟨o, rows, rfl, ⟨dx, v, ho, ⟨t, xs, rfl, ht, xl, hx⟩, gd⟩, q⟩ := h
    refine ⟨_, pss_one (ps_ret (pe_callB call_len_seq (by rfl) B.len PySem.boot_len (pa_cons (pe_fld (pv 0) rfl) pa_nil))), ?_⟩
    rw [← xl] at q
    exact ⟨_, rfl, o, CY, dx, _, _, rfl, ho, T.cl, T.n1, rfl, t, _, rfl, .inr ht, q⟩
def tDT : TE := fun σ H Q => ∃ (z : Str) (d : Int), σ[1]? = some (some (.str z)) ∧ σ[2]? = some (some (.int d)) ∧ nmB z = true ∧ -9999 ≤ d ∧ d ≤ 9999 ∧ Q (.str (deathT (z, d))) H
def spText (K : PySem.W.Frag) : Sp := fun vs H Q _ => ∃ (v : V) (rows : List (Str × Int)), vs = [v] ∧ DeathsAt K H v rows ∧ GoodD rows ∧ ∀ H', Same H H' → Q (.str (storyT rows)) H'
theorem ok_text {f : Addr} {fd : FuncData} {k : Nat} (B : Bi mg) (D : Df K mg "story_text" sText f fd ["deaths"]) : FnOk P w K mg base CX0 (k + 1) f fd ["deaths"] (spText K) := by
  refine D.fn.ok scText (fun vs H Q E h => ?_) (fun cdv A outer s H vs Q E hr h => ?_)
  · obtain ⟨v, rows, rfl, _⟩ := h
    rfl
  · obtain ⟨v, rows, rfl, ⟨t, xs, rfl, ht, xl, hx⟩, gd, q⟩ := h
    refine ⟨_, pss_cons (ps_if (pt_cmpR op_eq (pe_callB call_len_seq (by rfl) B.len PySem.boot_len (pa_cons (pv 0) pa_nil)) pe_int (nomark _)) (pss_one (ps_ret pe_str)) pss_nil)
      (pss_one (ps_ret (pe_join pe_str (pe_lc (own := [("name", 1), ("day", 2)]) (g := gTup K 2 (gCons (gName 1) (gCons (gName 2) gNil))) (tt := tYes) rfl scText.nd (pi_tup (pv 0)) (blkOk_by (own := [("name", 1), ("day", 2)]) (N := nText) (sc := defScope sText) (by decide +kernel))
        (fun _ _ _ _ _ => pg_tup rfl (pgs_cons (pg_name (i := 1) scText.nd rfl (Or.inl rfl)) (pgs_cons (pg_name (i := 2) scText.nd rfl (Or.inl rfl)) pgs_nil))) (fun _ _ _ _ _ => pts_nil)
        (fun _ _ _ _ _ => PE.wk (t' := tDT) (pe_joined (PJ.cons (pe_fmt (pv 1)) (PJ.cons pe_str (PJ.cons (pe_fmt (pv 2)) PJ.nil)))) (by
          rintro σ H Q ⟨z, d, h1, h2, nm, d0, d1, q⟩
          have ln := nm_len nm
          have lt := day_text d0 d1
          refine ⟨_, h1, .inl ⟨z, rfl, small_len (by omega), z, rfl, ?_, " ", rfl, ?_, _, h2, .inr ⟨d, rfl, log_day d0 d1, _, rfl, ?_, q⟩⟩⟩
          · rw [len_app]
            show 0 + z.length ≤ sizeLine
            exact small_len (by omega)
          · rw [len_app, len_app]
            show 0 + z.length + 1 ≤ sizeLine
            exact small_len (by omega)
          · have ld := death_len (r := (z, d)) nm d0 d1
            exact small_len (by show (deathT (z, d)).length ≤ 1000; omega))))))), ?_⟩
    refine ⟨_, rfl, t, _, rfl, .inr ht, rfl, _, rfl, ?_⟩
    have l8 := gd.l8
    by_cases e : rows = []
    · subst e
      have x0 : xs.length = 0 := xl
      rw [show decide (V.int ((xs.length : Nat) : Int) = V.int 0) = true by simp [x0]]
      exact iteT (q H (Same.refl H))
    · have r0 : 1 ≤ rows.length := by
        cases rows with
        | nil => exact absurd rfl e
        | cons r rs => exact Nat.succ_le_succ (Nat.zero_le _)
      have x0 : ((xs.length : Nat) : Int) ≠ 0 := by omega
      rw [show decide (V.int ((xs.length : Nat) : Int) = V.int 0) = false from decide_eq_false (fun e => x0 (by injection e))]
      have q2 : ∀ H', Same H H' → Q (.str (Txt.join ", " (rows.map deathT))) H' := fun H' s => by
        have := q H' s
        unfold storyT at this
        rw [if_neg e] at this
        exact this
      refine iteF ⟨⟨_, rfl⟩, _, rfl, t, rfl, ⟨_, ht⟩, fun L nL => lc_tup (K := K) (a := t) (xs := xs) (fun j H' => H' L = some (.lst (((rows.take j).map deathT).map V.str)) ∧ Same H H') ⟨upd_same, same_new nL⟩ (fun j H' _ h => (tk_same h.2).sq ht) ?_ ?_⟩
      · rintro j x H5 hx5 ⟨hL, s5⟩
        obtain ⟨ra, r, rfl, hr5, hra⟩ := hx j x hx5
        have jl := lt_get hx5
        have m := List.mem_of_getElem? hr5
        have nm := gd.nm r m
        have dy := gd.dy r m
        have ln := nm_len nm.1
        have lt := day_text dy.1 dy.2
        have ld := death_len nm.1 dy.1 dy.2
        refine ⟨ra, _, rfl, (tk_same s5).sq hra, rfl, _, _, rfl, _, _, rfl, rfl, rfl, tyes (iteT ?_)⟩
        refine ⟨r.1, r.2, rfl, rfl, nm.1, dy.1, dy.2, _, hL, ?_, ?_, ((Bt.of_same (S := []) s5).upd0 nL).same⟩
        · rw [List.length_map, List.length_map, List.length_take]
          exact small1000 (by omega)
        · rw [upd_same, take_more hr5, List.map_append, List.map_append]
          rfl
      · rintro H5 ⟨hL, s5⟩
        rw [xl, List.take_length] at hL
        refine ⟨", ", L, rows.map deathT, rfl, rfl, .inl (sqL hL), ?_, q2 H5 s5⟩
        have := sum_le14 (ys := rows.map deathT) (fun y hy => by
          obtain ⟨r, hr, rfl⟩ := List.mem_map.mp hy
          exact death_len (gd.nm r hr).1 (gd.dy r hr).1 (gd.dy r hr).2)
        rw [List.length_map] at this ⊢
        show _ + rows.length * 2 ≤ _
        omega
end
end WdQ

set_option Elab.async false
set_option linter.all false
set_option maxRecDepth 100000
set_option maxHeartbeats 4000000
set_option exponentiation.threshold 5000
namespace WdQ
open PySem PySem.Spec PyProof.Rows L2 WdM Wd
abbrev sRow : Stmt := topS 32
abbrev sPers : Stmt := inClass sHouse 7
abbrev sPeo : Stmt := inClass sHouse 1
abbrev sChi : Stmt := inClass sHouse 2
abbrev sCkP : Stmt := topS 35
theorem scRow : FnScope ["rows", "name", "row"] ["rows", "name"] (defScope sRow) := ⟨rfl, rfl, rfl, by decide +kernel, rfl, by decide +kernel, by decide +kernel⟩
theorem scPers : FnScope ["self", "name", "row"] ["self", "name"] (defScope sPers) := ⟨rfl, rfl, rfl, by decide +kernel, rfl, by decide +kernel, by decide +kernel⟩
theorem scPeo : FnScope ["self", "row"] ["self"] (defScope sPeo) := ⟨rfl, rfl, rfl, by decide +kernel, rfl, by decide +kernel, by decide +kernel⟩
theorem scChi : FnScope ["self", "name", "row"] ["self", "name"] (defScope sChi) := ⟨rfl, rfl, rfl, by decide +kernel, rfl, by decide +kernel, by decide +kernel⟩
theorem scCkP : FnScope ["house", "names", "people", "name"] ["house", "names"] (defScope sCkP) := ⟨rfl, rfl, rfl, by decide +kernel, rfl, by decide +kernel, by decide +kernel⟩
theorem tk_ins {H : Hp} {p C dx : Addr} {fs : List (Str × V)} {o : HO} (h : H p = some (.ins C dx fs)) : Tk H (upd H p o) := fun a xs r => by
  rcases r with r | ⟨q, r⟩
  · refine .inl ?_
    rw [upd_ne (fun e => by rw [e, h] at r; cases r)]
    exact r
  · refine .inr ⟨q, ?_⟩
    rw [upd_ne (fun e => by rw [e, h] at r; cases r)]
    exact r
section
variable {P : Program} {w : World} {K : PySem.W.Frag} {mg : Str → Option Value} {base : Heap} {CH CY : Addr}
/-- a house, of which the people are told -/
def HomeAt (K : PySem.W.Frag) (CH : Addr) (H : Hp) (o : Addr) (rows : List (Str × Option Str)) : Prop := ∃ (dx : Addr) (v : V) (t : V × V × V), H o = some (.ins CH dx [("folk", v), ("things", t.1), ("purse", t.2.1), ("debts", t.2.2)]) ∧ FolkAt K H v rows ∧ GoodF rows ∧ True
theorem HomeAt.same {H H' : Hp} {o : Addr} {rows : List (Str × Option Str)} (h : HomeAt K CH H o rows) (e : Same H H') : HomeAt K CH H' o rows := by
  obtain ⟨dx, v, t, h, d, g, ht⟩ := h
  exact ⟨dx, v, t, e _ _ h, d.tk (tk_same e), g, trivial⟩
def spHIa (K : PySem.W.Frag) (CH : Addr) : Sp := fun vs H Q _ => ∃ (o dx : Addr) (v : V) (rows : List (Str × Option Str)), vs = [.ref o, v, .non, .int 0, .int 0] ∧ H o = some (.ins CH dx []) ∧ FolkAt K H v rows ∧ GoodF rows ∧ ∀ H', Bt [o] H H' → HomeAt K CH H' o rows → Q .non H'
theorem ok_HIa {f fC fG fS : Addr} {fd fdC fdG fdS : FuncData} {k : Nat} (B : Bi mg) (T : HsF K CH) (F : FunD K "__init__" "House.__init__" (defArgs sHI) (defBody sHI) (defScope sHI) [.non, .int 0, .int 0] [] f fd) (GC : FnOk P w K mg base (L2.CX P w) (k + 3) fC fdC ["people"] (spChkP K)) (DC : Df K mg "check_people" sChkP fC fdC ["people"])
    (GG : FnOk P w K mg base (L2.CX P w) (k + 1) fG fdG ["goods"] (spChk0 K)) (DG : Df K mg "check_goods" sChkG fG fdG ["goods"]) (GS : FnOk P w K mg base CX0 (k + 2) fS fdS ["thing"] spZero) (DS : Df K mg "is_sum" sSum fS fdS ["thing"]) :
    FnOk P w K mg base (L2.CX P w) (k + 4) f fd ["self", "people", "goods", "purse", "debts"] (spHIa K CH) := by
  refine F.ok scHI (fun vs H Q E h => ?_) (fun cdv A outer s H vs Q E hr h => ?_)
  · obtain ⟨o, dx, v, rows, rfl, _⟩ := h
    rfl
  · obtain ⟨o, dx, v, rows, rfl, ho, hv, gf, q⟩ := h
    have r1 : Room (k + 1) _ := hr.mono (by omega)
    have r2 : Room (k + 2) _ := hr.mono (by omega)
    refine ⟨_, pss_cons (ps_expr (pe_callS GC hr (by rfl) DC.mg DC.fn.kp DC.bd (fun σ => passAt (takes_of rfl rfl rfl rfl) σ) (pa_cons (pv 1) pa_nil)))
      (pss_cons (ps_set (i := 5) scHI.nd rfl (.inl rfl) (pe_ifExp (pt_cmpR op_isN (pv 2) pe_non (nomark _)) (pe_tup pa_nil) pe_no))
      (pss_cons (ps_expr (pe_callS GG r1 (by rfl) DG.mg DG.fn.kp DG.bd (fun σ => passAt (takes_of rfl rfl rfl rfl) σ) (pa_cons (pv 5) pa_nil)))
      (pss_cons (ps_for (passes_of rfl) rfl (pi_tup (pe_tup (pa_cons (pv 3) (pa_cons (pv 4) pa_nil)))) (pg_name (i := 6) scHI.nd rfl (.inl rfl))
        (pss_one (ps_if (pt_not (pt_val (pe_call GS r2 (by rfl) DS.mg DS.fn.kp DS.bd .nil pass0 (pa_cons (pv 6) pa_nil)))) (pss_one ps_no) pss_nil)))
      (pss_cons (ps_fld (pv 0) (pv 1) rfl) (pss_cons (ps_fld (pv 0) (pv 5) rfl) (pss_cons (ps_fld (pv 0) (pv 3) rfl) (pss_one (ps_fld (pv 0) (pv 4) rfl)))))))), ?_⟩
    refine ⟨_, rfl, v, rows, rfl, hv, gf, fun H1 s1 => ?_⟩
    refine ⟨_, rfl, rfl, _, rfl, iteT ⟨by show 0 ≤ sizeLine; decide, fun t nt => ?_⟩⟩
    refine ⟨_, rfl, t, rfl, sqT upd_same, fun H2 s2 => ?_⟩
    have s12 : Same H H2 := s1.trans ((same_new nt).trans s2)
    have ht2 : SqT K H2 t [] := sqT (s2 _ _ upd_same)
    refine ⟨_, rfl, _, rfl, by show 2 ≤ sizeLine; decide, fun t2 nt2 => ⟨t2, rfl, ⟨_, sqT upd_same⟩, ?_⟩⟩
    have s3 : Same H (upd H2 t2 (.tup [.int 0, .int 0])) := s12.trans (same_new nt2)
    have g3 : (upd H2 t2 (.tup [.int 0, .int 0])) t2 = some (.tup [.int 0, .int 0]) := upd_same
    have ht3 : SqT K (upd H2 t2 (.tup [.int 0, .int 0])) t [] := (tk_new nt2).sq ht2
    revert s3 g3 ht3
    generalize upd H2 t2 (.tup [.int 0, .int 0]) = H3
    intro s3 g3 ht3
    refine for_tup (K := K) (a := t2) (xs := [.int 0, .int 0]) (fun i σ H' => (∃ y, σ = [some (.ref o), some v, some .non, some (.int 0), some (.int 0), some (.ref t), y]) ∧ H' = H3) ⟨⟨_, rfl⟩, rfl⟩ (fun i σ H' _ h => h.2 ▸ sqT g3) ?_ ?_
    · rintro i x σ H4 hx ⟨⟨y, rfl⟩, rfl⟩
      have : x = .int 0 := by
        match i, hx with
        | 0, hx => cases hx; rfl
        | 1, hx => cases hx; rfl
        | i + 2, hx => cases hx
      subst this
      exact ⟨_, rfl, rfl, true, rfl, iteF ⟨⟨_, rfl⟩, rfl⟩⟩
    · rintro σ H4 ⟨⟨y, rfl⟩, rfl⟩
      refine ⟨_, rfl, _, rfl, o, CH, dx, _, rfl, s3 _ _ ho, T.cl, T.n1, by show 0 < 1000; decide, ?_⟩
      refine ⟨_, rfl, _, rfl, o, CH, dx, _, rfl, upd_same, T.cl, T.n2, by show 1 < 1000; decide, ?_⟩
      refine ⟨_, rfl, _, rfl, o, CH, dx, _, rfl, upd_same, T.cl, T.n3, by show 2 < 1000; decide, ?_⟩
      refine ⟨_, rfl, _, rfl, o, CH, dx, _, rfl, upd_same, T.cl, T.n4, by show 3 < 1000; decide, ?_⟩
      have tk1 : ∀ {A : Hp} {fs : List (Str × V)} {ob : HO}, A o = some (.ins CH dx fs) → Tk A (upd A o ob) := fun {A fs ob} h => tk_ins h
      refine q _ (((((Bt.of_same s3).upd1 (by simp)).upd1 (by simp)).upd1 (by simp)).upd1 (by simp)) ⟨dx, v, (.ref t, .int 0, .int 0), upd_same, ?_, gf, trivial⟩
      exact ((((hv.tk (tk_same s3)).tk (tk1 (s3 _ _ ho))).tk (tk1 upd_same)).tk (tk1 upd_same)).tk (tk1 upd_same)
/-! ### people -/
def spPeo (K : PySem.W.Frag) (CH : Addr) : Sp := fun vs H Q _ => ∃ (o : Addr) (rows : List (Str × Option Str)), vs = [.ref o] ∧ HomeAt K CH H o rows ∧ ∀ H' t, Same H H' → SqT K H' t ((rows.map Prod.fst).map V.str) → Q (.ref t) H'
theorem ok_peo {f : Addr} {fd : FuncData} {k : Nat} (B : Bi mg) (T : HsF K CH) (F : Fun K "people" "House.people" sPeo f fd) : FnOk P w K mg base CX0 (k + 1) f fd ["self"] (spPeo K CH) := by
  refine F.ok scPeo (fun vs H Q E h => ?_) (fun cdv A outer s H vs Q E hr h => ?_)
  · obtain ⟨o, rows, rfl, _⟩ := h
    rfl
  · obtain ⟨o, rows, rfl, ⟨dx, v, tt, ho, ⟨t, xs, rfl, ht, xl, hx⟩, gf, _⟩, q⟩ := h
    refine ⟨_, pss_one (ps_ret (pe_callTy call_tuple_of (by rfl) B.tuple boot_tuple (pa_cons (pe_lc (own := [("row", 1)]) (g := gName 1) (tt := tYes) rfl scPeo.nd (pi_tup (pe_fld (pv 0) rfl)) (blkOk_by (own := [("row", 1)]) (N := ["self", "row"]) (sc := defScope sPeo) (by decide +kernel))
        (fun _ _ _ _ _ => pg_name (i := 1) scPeo.nd rfl (Or.inl rfl)) (fun _ _ _ _ _ => pts_nil) (fun _ _ _ _ _ => pe_ix (r := rIxT K) ix_tup (pv 1) pe_int (fun _ _ => rfl))) pa_nil))), ?_⟩
    have l8 := gf.l8
    refine ⟨_, rfl, o, CH, dx, _, _, rfl, ho, T.cl, T.n1, rfl, t, rfl, ⟨_, ht⟩, fun L nL => lc_tup (K := K) (a := t) (xs := xs) (fun j H' => H' L = some (.lst (((rows.take j).map Prod.fst).map V.str)) ∧ Same H H') ⟨upd_same, same_new nL⟩ (fun j H' _ h => (tk_same h.2).sq ht) ?_ ?_⟩
    · rintro j x H5 hx5 ⟨hL, s5⟩
      obtain ⟨ra, r, rfl, hr5, hra⟩ := hx j x hx5
      have jl := lt_get hx5
      refine ⟨rfl, tyes (iteT ⟨_, rfl, ra, _, 0, .str r.1, rfl, rfl, (tk_same s5).sq hra, atI_nat (j := 0) rfl, _, hL, ?_, ?_, ((Bt.of_same (S := []) s5).upd0 nL).same⟩)⟩
      · rw [List.length_map, List.length_map, List.length_take]
        exact small1000 (by omega)
      · rw [upd_same, take_more hr5, List.map_append, List.map_append]
        rfl
    · rintro H5 ⟨hL, s5⟩
      rw [xl, List.take_length] at hL
      exact ⟨L, _, rfl, .inl ⟨sqL hL, fun tp ntp => q _ tp (s5.trans (same_new ntp)) (sqT upd_same)⟩⟩
/-! ### the row of a name -/
def spRow (K : PySem.W.Frag) : Sp := fun vs H Q _ => ∃ (v : V) (z : Str) (rows : List (Str × Option Str)), vs = [v, .str z] ∧ FolkAt K H v rows ∧ z ∈ rows.map Prod.fst ∧ ∀ H' a r, Same H H' → r ∈ rows → r.1 = z → SqT K H' a [.str r.1, parV r.2] → Q (.ref a) H'
theorem ok_row {f fW : Addr} {fd fdW : FuncData} {k : Nat} (D : Df K mg "row_named" sRow f fd ["rows", "name"]) (DW : Df K mg "is_word" sWord fW fdW ["thing", "words"]) (GW : FnOk P w K mg base CX0 (k + 1) fW fdW ["thing", "words"] (spWord K)) : FnOk P w K mg base CX0 (k + 2) f fd ["rows", "name"] (spRow K) := by
  refine D.fn.ok scRow (fun vs H Q E h => ?_) (fun cdv A outer s H vs Q E hr h => ?_)
  · obtain ⟨v, z, rows, rfl, _⟩ := h
    rfl
  · obtain ⟨v, z, rows, rfl, ⟨t, xs, rfl, ht, xl, hx⟩, zm, q⟩ := h
    refine ⟨_, pss_cons (ps_for PassesOwn.never rfl (pi_tup (pv 0)) (pg_name (i := 2) scRow.nd rfl (.inl rfl))
        (pss_one (ps_if (pt_val (pe_call GW hr (by rfl) DW.mg DW.fn.kp DW.bd .nil pass0 (pa_cons (pv 1) (pa_cons (pe_tup (pa_cons (pe_ix (r := rIxT K) ix_tup (pv 2) pe_int (fun _ _ => rfl)) pa_nil)) pa_nil)))) (pss_one (ps_ret (pv 2))) pss_nil)))
      (pss_one (ps_ret pe_non)), ?_⟩
    refine ⟨_, rfl, t, rfl, ⟨_, ht⟩, for_tup (K := K) (a := t) (xs := xs) (fun i σ H' => (∃ y2, σ = [some (.ref t), some (.str z), y2]) ∧ z ∈ (rows.drop i).map Prod.fst ∧ Same H H') ⟨⟨none, rfl⟩, zm, Same.refl H⟩ (fun i σ H' _ h => (tk_same h.2.2).sq ht) ?_ ?_⟩
    · rintro i x σ H2 hx2 ⟨⟨y2, rfl⟩, zi, s2⟩
      obtain ⟨a, r, rfl, hr2, ha⟩ := hx i x hx2
      have m := List.mem_of_getElem? hr2
      refine ⟨_, rfl, _, rfl, a, _, 0, .str r.1, rfl, rfl, (tk_same s2).sq ha, atI_nat (j := 0) rfl, by show 1 ≤ sizeLine; decide, fun tp ntp => ?_⟩
      have s3 : Same H (upd H2 tp (.tup [.str r.1])) := s2.trans (same_new ntp)
      have h3 : (upd H2 tp (.tup [.str r.1])) tp = some (.tup [.str r.1]) := upd_same
      revert s3 h3
      generalize upd H2 tp (.tup [.str r.1]) = H3
      intro s3 h3
      refine ⟨.str z, .str z, tp, [.str r.1], rfl, (Th.dp (.str z)).is, .inr (sqT h3), rfl, ?_⟩
      have wb : wordB [V.str r.1] (.str z) = decide (r.1 = z) := by
        show ((r.1 == z) || false) = _
        rw [Bool.or_false]
        by_cases e : r.1 = z <;> simp [e]
      rw [wb]
      refine ⟨_, rfl, ?_⟩
      by_cases e : r.1 = z
      · rw [decide_eq_true e]
        exact iteT ⟨_, rfl, q H3 a r s3 m e ((tk_same s3).sq ha)⟩
      · rw [decide_eq_false e]
        refine iteF ⟨⟨_, rfl⟩, ?_, s3⟩
        obtain ⟨hi, e2⟩ := List.getElem?_eq_some_iff.mp hr2
        rw [List.drop_eq_getElem_cons hi, List.map_cons] at zi
        rcases List.mem_cons.mp zi with h | h
        · exact absurd (by rw [← e2]; exact h.symm) e
        · exact h
    · rintro σ H2 ⟨⟨y2, rfl⟩, zi, s2⟩
      rw [xl, List.drop_length] at zi
      cases zi
end
end WdQ

set_option Elab.async false
set_option linter.all false
set_option maxRecDepth 100000
set_option maxHeartbeats 4000000
set_option exponentiation.threshold 5000
namespace WdQ
open PySem PySem.Spec PyProof.Rows L2 WdM Wd
/-! ### goods -/
abbrev sGood : Stmt := topS 29
theorem scGood : FnScope ["thing", "ahead", "name", "kind", "worth"] ["thing", "ahead"] (defScope sGood) := ⟨rfl, rfl, rfl, by decide +kernel, rfl, by decide +kernel, by decide +kernel⟩
theorem scChkG2 : FnScope ["goods", "ahead", "number", "good"] ["goods"] (defScope sChkG) := ⟨rfl, rfl, rfl, by decide +kernel, rfl, by decide +kernel, by decide +kernel⟩
def rowG (r : Str × Str × Int) : List V := [.str r.1, .str r.2.1, .int r.2.2]
def GoodsAt (K : PySem.W.Frag) (H : Hp) (v : V) (rows : List (Str × Str × Int)) : Prop := ∃ (t : Addr) (xs : List V), v = .ref t ∧ SqT K H t xs ∧ xs.length = rows.length ∧ ∀ (i : Nat) (x : V), xs[i]? = some x → ∃ (a : Addr) (r : Str × Str × Int), x = .ref a ∧ rows[i]? = some r ∧ SqT K H a (rowG r)
structure GoodG (rows : List (Str × Str × Int)) : Prop where
  l8 : rows.length ≤ 8
  nd : (rows.map Prod.fst).Nodup
  nm : ∀ r ∈ rows, Nm r.1 ∧ Nm r.2.1
  sm : ∀ r ∈ rows, 0 ≤ r.2.2 ∧ r.2.2 ≤ 1000000000
section
variable {P : Program} {w : World} {K : PySem.W.Frag} {mg : Str → Option Value} {base : Heap} {CH CY : Addr}
theorem GoodsAt.tk {H H' : Hp} {v : V} {rows : List (Str × Str × Int)} (h : GoodsAt K H v rows) (e : Tk H H') : GoodsAt K H' v rows := by
  obtain ⟨t, xs, rfl, hs, l, hx⟩ := h
  exact ⟨t, xs, rfl, e.sq hs, l, fun i x hi => by obtain ⟨a, r, e1, e2, e3⟩ := hx i x hi; exact ⟨a, r, e1, e2, e.sq e3⟩⟩
def spSumG : Sp := fun vs H Q _ => ∃ i : Int, vs = [.int i] ∧ 0 ≤ i ∧ i ≤ 1000000000 ∧ Q (.bl true) H
theorem ok_sumG {f fW : Addr} {fd fdW : FuncData} {k : Nat} {tS : Tok} (B : Bi mg) (gS : mg "MOST_SUM" = some (.int 1000000000 tS)) (D : Df K mg "is_sum" sSum f fd ["thing"]) (DW : Df K mg "is_whole" sWhole fW fdW ["thing"]) : FnOk P w K mg base CX0 (k + 2) f fd ["thing"] spSumG := by
  have GW : FnOk P w K mg base CX0 (k + 1) fW fdW ["thing"] (spWhole K) := ok_whole B DW
  refine D.fn.ok scSum (fun vs H Q E h => ?_) (fun cdv A outer s H vs Q E hr h => ?_)
  · obtain ⟨i, rfl, _⟩ := h
    rfl
  · obtain ⟨i, rfl, i0, i1, q⟩ := h
    refine ⟨_, pss_one (ps_ret (pe_and (pe_call GW hr (by rfl) DW.mg DW.fn.kp DW.bd .nil pass0 (pa_cons (pv 0) pa_nil)) (pe_one (pe_chain op_le op_le pe_int (pv 0) (pe_glob (v := .int 1000000000) (by rfl) gS ⟨_, rfl⟩))))), ?_⟩
    refine ⟨_, rfl, .int i, .int i, rfl, (Th.dp (.int i)).is, true, rfl, iteT ⟨_, rfl, 0, i, rfl, rfl, _, rfl, ?_⟩⟩
    rw [decide_eq_true i0]
    refine iteT ⟨i, _, rfl, rfl, ?_⟩
    show Q (.bl (decide (i ≤ 1000000000))) H
    rw [decide_eq_true i1]
    exact q
def spGood (K : PySem.W.Frag) : Sp := fun vs H Q _ => ∃ (t l : Addr) (r : Str × Str × Int) (ns : List Str), vs = [.ref t, .ref l] ∧ SqT K H t (rowG r) ∧ H l = some (.lst (ns.map V.str)) ∧ Nm r.1 ∧ Nm r.2.1 ∧ r.1 ∉ ns ∧ 0 ≤ r.2.2 ∧ r.2.2 ≤ 1000000000 ∧ ∀ H', Same H H' → Q (.bl true) H'
theorem ok_good {f fN fS : Addr} {fd fdN fdS : FuncData} {k : Nat} (B : Bi mg) (GN : FnOk P w K mg base CX0 (k + 2) fN fdN ["thing"] (spName K)) (GS : FnOk P w K mg base CX0 (k + 2) fS fdS ["thing"] spSumG) (D : Df K mg "is_good" sGood f fd ["thing", "ahead"]) (DN : Df K mg "is_name" sName fN fdN ["thing"]) (DS : Df K mg "is_sum" sSum fS fdS ["thing"]) :
    FnOk P w K mg base CX0 (k + 3) f fd ["thing", "ahead"] (spGood K) := by
  refine D.fn.ok scGood (fun vs H Q E h => ?_) (fun cdv A outer s H vs Q E hr h => ?_)
  · obtain ⟨t, l, r, ns, rfl, _⟩ := h
    rfl
  · obtain ⟨t, l, r, ns, rfl, hs, hl, nm, nk, nn, s0, s1, q⟩ := h
    refine ⟨_, pss_cons (ps_if (PW.pt (pw_or (pt_not (pt_val (pe_callB call_isi (by rfl) B.isi boot_isinstance (pa_cons (pv 0) (pa_cons (pe_bltn (v := .ty "tuple") (by rfl) B.tuple boot_tuple rfl) pa_nil)))))
          (pw_or1 (pt_cmpR op_ne (pe_callB call_len_seq (by rfl) B.len PySem.boot_len (pa_cons (pv 0) pa_nil)) pe_int (nomark _))))) (pss_one (ps_ret pe_bl)) pss_nil)
      (pss_cons (ps_asg (pv 0) (pg_tup rfl (pgs_cons (pg_name (i := 2) scGood.nd rfl (.inl rfl)) (pgs_cons (pg_name (i := 3) scGood.nd rfl (.inl rfl)) (pgs_cons (pg_name (i := 4) scGood.nd rfl (.inl rfl)) pgs_nil)))))
      (pss_one (ps_ret (pe_and (pe_call GN hr (by rfl) DN.mg DN.fn.kp DN.bd .nil pass0 (pa_cons (pv 2) pa_nil)) (pe_and (pe_cmpR (r := rIn K true) op_notIn_seq (pv 2) (pv 1) (by rfl)) (pe_and (pe_call GN hr (by rfl) DN.mg DN.fn.kp DN.bd .nil pass0 (pa_cons (pv 3) pa_nil)) (pe_one (pe_call GS hr (by rfl) DS.mg DS.fn.kp DS.bd .nil pass0 (pa_cons (pv 4) pa_nil))))))))), ?_⟩
    refine ⟨_, rfl, _, .ty "tuple", _, .type "tuple", true, rfl, .ty _, tyT hs, kit_ty (by decide +kernel), true, rfl, iteF ⟨_, rfl, t, _, rfl, .inr hs, rfl, _, rfl, iteF ?_⟩⟩
    refine ⟨_, rfl, t, _, rfl, hs, rfl, _, _, rfl, _, _, rfl, _, _, rfl, rfl, ?_⟩
    refine ⟨_, rfl, .str r.1, .str r.1, rfl, (Th.dp (.str r.1)).is, (fun y e => by cases e; have := nm.1.2.2; omega), fun H1 sm => ?_⟩
    rw [show nameB (.str r.1) = true from nm.name]
    have nin : inV (.str r.1) (ns.map V.str) = false := by
      rw [Bool.eq_false_iff]
      exact fun e => nn (inV_str.mp e)
    refine ⟨true, rfl, iteT ⟨_, rfl, _, rfl, l, _, rfl, .inl (sqL (sm _ _ hl)), rfl, flatS ns, true, ?_, iteT ?_⟩⟩
    · show V.bl (!inV (.str r.1) (ns.map V.str)) = _
      rw [nin]
      rfl
    refine ⟨_, rfl, .str r.2.1, .str r.2.1, rfl, (Th.dp (.str r.2.1)).is, (fun y e => by cases e; have := nk.1.2.2; omega), fun H2 sm2 => ?_⟩
    rw [show nameB (.str r.2.1) = true from nk.name]
    exact ⟨true, rfl, iteT ⟨_, rfl, r.2.2, rfl, s0, s1, q H2 (sm.trans sm2)⟩⟩
def spChkG (K : PySem.W.Frag) : Sp := fun vs H Q _ => ∃ (v : V) (rows : List (Str × Str × Int)), vs = [v] ∧ GoodsAt K H v rows ∧ GoodG rows ∧ ∀ H', Same H H' → Q .non H'
theorem ok_chkG {f fD : Addr} {fd fdD : FuncData} {tM : Tok} {k : Nat} (B : Bi mg) (gM : mg "MOST_GOODS" = some (.int 8 tM))
    (GD : FnOk P w K mg base CX0 (k + 3) fD fdD ["thing", "ahead"] (spGood K)) (D : Df K mg "check_goods" sChkG f fd ["goods"]) (DD : Df K mg "is_good" sGood fD fdD ["thing", "ahead"]) : FnOk P w K mg base (L2.CX P w) (k + 4) f fd ["goods"] (spChkG K) := by
  refine D.fn.okX scChkG2 (fun vs H Q E h => ?_) (fun cdv A outer s H vs Q E hr h => ?_)
  · obtain ⟨v, rows, rfl, _⟩ := h
    rfl
  · obtain ⟨v, rows, rfl, ⟨t, xs, rfl, ht, xl, hx⟩, gf, q⟩ := h
    refine ⟨_, pss_cons (ps_if (PW.pt (pw_or (pt_not (pt_val (pe_callB call_isi (by rfl) B.isi boot_isinstance (pa_cons (pv 0) (pa_cons (pe_bltn (v := .ty "tuple") (by rfl) B.tuple boot_tuple rfl) pa_nil)))))
          (pw_or1 (pt_cmpR op_gt (pe_callB call_len_seq (by rfl) B.len PySem.boot_len (pa_cons (pv 0) pa_nil)) (pe_glob (v := .int 8) (by rfl) gM ⟨_, rfl⟩) (nomark _))))) (pss_one ps_no) pss_nil)
      (pss_cons (ps_set (i := 1) scChkG2.nd rfl (.inl rfl) (pe_lst pa_nil))
      (pss_one (ps_for (passes_of rfl) rfl (pi_E .tu (by rfl) B.enum (pa_cons (pv 0) pa_nil)) (pg_tup rfl (pgs_cons (pg_name (i := 2) scChkG2.nd rfl (.inl rfl)) (pgs_cons (pg_name (i := 3) scChkG2.nd rfl (.inl rfl)) pgs_nil)))
        (pss_cons (ps_if (pt_not (pt_val (pe_call GD hr (by rfl) DD.mg DD.fn.kp DD.bd .nil pass0 (pa_cons (pv 3) (pa_cons (pv 1) pa_nil))))) (pss_one ps_no) pss_nil)
        (pss_one (ps_expr (pe_bm PySem.F.plainAttrs_list PySem.F.slot_list_append PySem.F.type_list_append mt_append (pv 1) (pa_cons (pe_ix (r := rIxT K) ix_tup (pv 3) pe_int (fun _ _ => rfl)) pa_nil)))))))), ?_⟩
    have l8 := gf.l8
    refine ⟨_, rfl, _, .ty "tuple", _, .type "tuple", true, rfl, .ty _, tyT ht, kit_ty (by decide +kernel), true, rfl, iteF ⟨_, rfl, t, _, rfl, .inr ht, _, 8, rfl, rfl, _, rfl, ?_⟩⟩
    rw [decide_eq_false (show ¬ (8 : Int) < ((xs.length : Nat) : Int) by omega)]
    refine iteF ?_
    refine ⟨by show 0 ≤ sizeLine; decide, fun l nl => ?_⟩
    have sm0 : Same H (upd H l (.lst [])) := same_new nl
    have hl0 : (upd H l (.lst [])) l = some (.lst []) := upd_same
    revert sm0 hl0
    generalize upd H l (.lst []) = H1
    intro sm0 hl0
    have ht1 := (tk_same sm0).sq ht
    refine ⟨_, rfl, t, _, rfl, ht1, for_it (walkE (K := K) (k := .tu) (a := t) (xs := xs)) (fun i σ H' => ∃ y2 y3, σ = [some (.ref t), some (.ref l), y2, y3] ∧ Same H H' ∧ H' l = some (.lst (((rows.take i).map Prod.fst).map V.str))) ⟨none, none, rfl, sm0, hl0⟩ (fun i σ H' _ ⟨_, _, _, s, _⟩ => (tk_same s).sq ht) ?_ ?_⟩
    · rintro i _ σ H4 _ i1 ⟨y2, y3, rfl, s4, hl4⟩ ⟨T1, _, y, rfl, nT, rfl, ei, hy⟩
      cases ei
      obtain ⟨a, r, rfl, hr, ha⟩ := hx i y hy
      have s5 : Same H4 (upd H4 T1 (.tup [.int (i : Nat), .ref a])) := same_new nT
      have g5 : (upd H4 T1 (.tup [.int (i : Nat), .ref a])) T1 = some (.tup [.int (i : Nat), .ref a]) := upd_same
      revert s5 g5
      generalize upd H4 T1 (.tup [.int (i : Nat), .ref a]) = H5
      intro s5 g5
      refine ⟨T1, _, rfl, sqT g5, rfl, _, _, rfl, _, _, rfl, rfl, ?_⟩
      have h25 := (tk_same (s4.trans s5)).sq ha
      obtain ⟨nm, nk⟩ := gf.nm r (List.mem_of_getElem? hr)
      obtain ⟨s0, s1⟩ := gf.sm r (List.mem_of_getElem? hr)
      refine ⟨_, rfl, _, rfl, a, l, r, _, rfl, h25, s5 _ _ hl4, nm, nk, fst_new gf.nd hr, s0, s1, fun H6 s6 => ⟨true, rfl, iteF ?_⟩⟩
      have hl6 := s6 _ _ (s5 _ _ hl4)
      refine ⟨_, rfl, .inl ⟨rfl, _, sqL hl6⟩, _, rfl, a, _, 0, .str r.1, rfl, rfl, (tk_same s6).sq h25, atI_nat (j := 0) rfl, l, _, _, rfl, rfl, hl6, ?_, ?_⟩
      · rw [List.length_map, List.length_map, List.length_take]
        exact Nat.lt_of_lt_of_le (show _ < 9 by omega) (by decide)
      refine ⟨_, _, rfl, ((Bt.of_same (S := []) (s4.trans (s5.trans s6))).upd0 nl).same, ?_⟩
      rw [upd_same, take_more hr, List.map_append, List.map_append]
      rfl
    · rintro σ H4 ⟨y2, y3, rfl, s4, _⟩
      exact q H4 s4
/-! ### a house with goods, a purse, debts -/
def spHIg (K : PySem.W.Frag) (CH : Addr) : Sp := fun vs H Q _ => ∃ (o dx : Addr) (v g : V) (p d : Int) (rows : List (Str × Option Str)) (goods : List (Str × Str × Int)), vs = [.ref o, v, g, .int p, .int d] ∧ H o = some (.ins CH dx []) ∧ FolkAt K H v rows ∧ GoodF rows ∧ GoodsAt K H g goods ∧ GoodG goods ∧ 0 ≤ p ∧ p ≤ 1000000000 ∧ 0 ≤ d ∧ d ≤ 1000000000 ∧ ∀ H', Bt [o] H H' → HomeAt K CH H' o rows → Q .non H'
theorem ok_HIg {f fC fG fS : Addr} {fd fdC fdG fdS : FuncData} {k : Nat} (B : Bi mg) (T : HsF K CH) (F : FunD K "__init__" "House.__init__" (defArgs sHI) (defBody sHI) (defScope sHI) [.non, .int 0, .int 0] [] f fd) (GC : FnOk P w K mg base (L2.CX P w) (k + 4) fC fdC ["people"] (spChkP K)) (DC : Df K mg "check_people" sChkP fC fdC ["people"])
    (GG : FnOk P w K mg base (L2.CX P w) (k + 4) fG fdG ["goods"] (spChkG K)) (DG : Df K mg "check_goods" sChkG fG fdG ["goods"]) (GS : FnOk P w K mg base CX0 (k + 2) fS fdS ["thing"] spSumG) (DS : Df K mg "is_sum" sSum fS fdS ["thing"]) :
    FnOk P w K mg base (L2.CX P w) (k + 5) f fd ["self", "people", "goods", "purse", "debts"] (spHIg K CH) := by
  refine F.ok scHI (fun vs H Q E h => ?_) (fun cdv A outer s H vs Q E hr h => ?_)
  · obtain ⟨o, dx, v, g, p, d, rows, goods, rfl, _⟩ := h
    rfl
  · obtain ⟨o, dx, v, g, p, d, rows, goods, rfl, ho, hv, gf, hg, gg, p0, p1, d0, d1, q⟩ := h
    have r2 : Room (k + 2) _ := hr.mono (by omega)
    obtain ⟨tg, xg, rfl, _⟩ := id hg
    refine ⟨_, pss_cons (ps_expr (pe_callS GC hr (by rfl) DC.mg DC.fn.kp DC.bd (fun σ => passAt (takes_of rfl rfl rfl rfl) σ) (pa_cons (pv 1) pa_nil)))
      (pss_cons (ps_set (i := 5) scHI.nd rfl (.inl rfl) (pe_ifExp (pt_cmpR op_isN (pv 2) pe_non (nomark _)) (pe_tup pa_nil) (pv 2)))
      (pss_cons (ps_expr (pe_callS GG hr (by rfl) DG.mg DG.fn.kp DG.bd (fun σ => passAt (takes_of rfl rfl rfl rfl) σ) (pa_cons (pv 5) pa_nil)))
      (pss_cons (ps_for (passes_of rfl) rfl (pi_tup (pe_tup (pa_cons (pv 3) (pa_cons (pv 4) pa_nil)))) (pg_name (i := 6) scHI.nd rfl (.inl rfl))
        (pss_one (ps_if (pt_not (pt_val (pe_call GS r2 (by rfl) DS.mg DS.fn.kp DS.bd .nil pass0 (pa_cons (pv 6) pa_nil)))) (pss_one ps_no) pss_nil)))
      (pss_cons (ps_fld (pv 0) (pv 1) rfl) (pss_cons (ps_fld (pv 0) (pv 5) rfl) (pss_cons (ps_fld (pv 0) (pv 3) rfl) (pss_one (ps_fld (pv 0) (pv 4) rfl)))))))), ?_⟩
    refine ⟨_, rfl, v, rows, rfl, hv, gf, fun H1 s1 => ?_⟩
    refine ⟨_, rfl, rfl, _, rfl, iteF ⟨_, rfl, ?_⟩⟩
    refine ⟨_, rfl, _, goods, rfl, hg.tk (tk_same s1), gg, fun H2 s2 => ?_⟩
    have s12 : Same H H2 := s1.trans s2
    refine ⟨_, rfl, _, rfl, by show 2 ≤ sizeLine; decide, fun t2 nt2 => ⟨t2, rfl, ⟨_, sqT upd_same⟩, ?_⟩⟩
    have s3 : Same H (upd H2 t2 (.tup [.int p, .int d])) := s12.trans (same_new nt2)
    have g3 : (upd H2 t2 (.tup [.int p, .int d])) t2 = some (.tup [.int p, .int d]) := upd_same
    revert s3 g3
    generalize upd H2 t2 (.tup [.int p, .int d]) = H3
    intro s3 g3
    refine for_tup (K := K) (a := t2) (xs := [.int p, .int d]) (fun i σ H' => (∃ y, σ = [some (.ref o), some v, some (.ref tg), some (.int p), some (.int d), some (.ref tg), y]) ∧ H' = H3) ⟨⟨_, rfl⟩, rfl⟩ (fun i σ H' _ h => h.2 ▸ sqT g3) ?_ ?_
    · rintro i x σ H4 hx ⟨⟨y, rfl⟩, rfl⟩
      obtain ⟨c, rfl, c0, c1⟩ : ∃ c : Int, x = .int c ∧ 0 ≤ c ∧ c ≤ 1000000000 := by
        match i, hx with
        | 0, hx => cases hx; exact ⟨p, rfl, p0, p1⟩
        | 1, hx => cases hx; exact ⟨d, rfl, d0, d1⟩
        | i + 2, hx => cases hx
      exact ⟨_, rfl, c, rfl, c0, c1, true, rfl, iteF ⟨⟨_, rfl⟩, rfl⟩⟩
    · rintro σ H4 ⟨⟨y, rfl⟩, rfl⟩
      refine ⟨_, rfl, _, rfl, o, CH, dx, _, rfl, s3 _ _ ho, T.cl, T.n1, by show 0 < 1000; decide, ?_⟩
      refine ⟨_, rfl, _, rfl, o, CH, dx, _, rfl, upd_same, T.cl, T.n2, by show 1 < 1000; decide, ?_⟩
      refine ⟨_, rfl, _, rfl, o, CH, dx, _, rfl, upd_same, T.cl, T.n3, by show 2 < 1000; decide, ?_⟩
      refine ⟨_, rfl, _, rfl, o, CH, dx, _, rfl, upd_same, T.cl, T.n4, by show 3 < 1000; decide, ?_⟩
      have tk1 : ∀ {A : Hp} {fs : List (Str × V)} {ob : HO}, A o = some (.ins CH dx fs) → Tk A (upd A o ob) := fun {A fs ob} h => tk_ins h
      refine q _ (((((Bt.of_same s3).upd1 (by simp)).upd1 (by simp)).upd1 (by simp)).upd1 (by simp)) ⟨dx, v, (.ref tg, .int p, .int d), upd_same, ?_, gf, trivial⟩
      exact ((((hv.tk (tk_same s3)).tk (tk1 (s3 _ _ ho))).tk (tk1 upd_same)).tk (tk1 upd_same)).tk (tk1 upd_same)
end
end WdQ


set_option Elab.async false
set_option linter.all false
set_option maxRecDepth 100000
set_option maxHeartbeats 4000000
set_option exponentiation.threshold 5000
namespace WdQ
open PySem PySem.Spec PyProof.Rows L2 WdM Wd
abbrev sLives : Stmt := topS 42
abbrev sForm : Stmt := topS 43
abbrev sLeav : Stmt := topS 44
abbrev sCond : Stmt := topS 46
abbrev sCondN : Stmt := topS 47
theorem scLives : FnScope ["thing"] ["thing"] (defScope sLives) := ⟨rfl, rfl, rfl, by decide +kernel, rfl, by decide +kernel, by decide +kernel⟩
theorem scForm : FnScope ["thing", "room", "word", "terms", "term"] ["thing", "room"] (defScope sForm) := ⟨rfl, rfl, rfl, by decide +kernel, rfl, by decide +kernel, by decide +kernel⟩
theorem scLeav : FnScope ["cond", "term", "leaf"] ["cond"] (defScope sLeav) := ⟨rfl, rfl, rfl, by decide +kernel, rfl, by decide +kernel, by decide +kernel⟩
theorem scCond : FnScope ["thing"] ["thing"] (defScope sCond) := ⟨rfl, rfl, rfl, by decide +kernel, rfl, by decide +kernel, by decide +kernel⟩
theorem scCondN : FnScope ["thing"] ["thing"] (defScope sCondN) := ⟨rfl, rfl, rfl, by decide +kernel, rfl, by decide +kernel, by decide +kernel⟩
def condW : List V := [.str "lives", .str "childless", .str "not", .str "and", .str "or"]
def eqW (w x : Str) : Bool := decide (V.str w = V.str x)
def livesB : List PyData → Bool
  | [_, n, d] => nameB n && dayB d
  | [_, n] => nameB n
  | _ => false
/-- formed as a condition, of so many within one another; the first one is the word -/
def formL (f : PyData → Bool) (w : Str) (t : PyData) (ts : List PyData) : Bool :=
  if inV (.str w) condW = true then
    if eqW w "lives" = true then livesB (.str w :: t :: ts) else if eqW w "childless" = true then ts.isEmpty && nameB t else if eqW w "not" = true then ts.isEmpty && f t else decide (2 ≤ (t :: ts).length ∧ (t :: ts).length ≤ 6) && (t :: ts).all f
  else false
def formB : Nat → PyData → Bool
  | 0, _ => false
  | r + 1, .tuple (.str w :: t :: ts) => formL (formB r) w t ts
  | _ + 1, _ => false
def leafL (f : PyData → Nat) (w : Str) (ts : List PyData) : Nat := if (eqW w "lives" || eqW w "childless") = true then 1 else (ts.map f).sum
def leafN : Nat → PyData → Nat
  | 0, _ => 0
  | r + 1, .tuple (.str w :: ts) => leafL (leafN r) w ts
  | _ + 1, _ => 0
def condB (d : PyData) : Bool := formB 6 d && decide (leafN 6 d ≤ 12)
theorem form_no {r : Nat} {d : PyData} (h : tupB d = false) : formB r d = false := by
  cases r with
  | zero => rfl
  | succ r => cases d <;> first | rfl | cases h
theorem form_short {r : Nat} {ds : List PyData} (h : ds.length < 2) : formB r (.tuple ds) = false := by
  cases r with
  | zero => rfl
  | succ r =>
    match ds with
    | [] => rfl
    | [d] => cases d <;> rfl
    | _ :: _ :: _ => simp at h; omega
theorem form_word {r : Nat} {d t : PyData} {ts : List PyData} (h : strB d = false) : formB r (.tuple (d :: t :: ts)) = false := by
  cases r with
  | zero => rfl
  | succ r => cases d <;> first | rfl | cases h
/-- what the top holds for conditions -/
structure CoF (K : PySem.W.Frag) (mg : Str → Option Value) (aC : Addr) : Prop where
  gW : mg "COND_WORDS" = some (.ref aC)
  tW : ∀ H, SqT K H aC condW
  gD : ∃ t, mg "MOST_DEEP" = some (.int 6 t)
  g2 : ∃ t, mg "FEWEST_TERMS" = some (.int 2 t)
  g6 : ∃ t, mg "MOST_TERMS" = some (.int 6 t)
  gN : ∃ t, mg "MOST_NAMES" = some (.int 12 t)
section
variable {P : Program} {w : World} {K : PySem.W.Frag} {mg : Str → Option Value} {base : Heap}
theorem dz_cons2 {S : List Addr} {H : Hp} {xs : List V} {ds : List PyData} (h : DzAll S K H xs ds) (l : 2 ≤ ds.length) : ∃ x1 x2 ys d1 d2 es, xs = x1 :: x2 :: ys ∧ ds = d1 :: d2 :: es ∧ Dz S K H x1 d1 ∧ Dz S K H x2 d2 ∧ DzAll S K H ys es := by
  cases h with
  | nil => simp at l
  | cons h1 t =>
    cases t with
    | nil => simp at l
    | cons h2 t => exact ⟨_, _, _, _, _, _, rfl, rfl, h1, h2, t⟩
def spLives (K : PySem.W.Frag) : Sp := fun vs H Q _ => ∃ (S : List Addr) (v : V) (ds : List PyData), vs = [v] ∧ Dz S K H v (.tuple ds) ∧ Sml (.tuple ds) ∧ 2 ≤ ds.length ∧ ∀ H', Same H H' → Q (.bl (livesB ds)) H'
theorem ok_lives {f fN fD : Addr} {fd fdN fdD : FuncData} {k : Nat} (B : Bi mg) (D : Df K mg "is_lives" sLives f fd ["thing"]) (DN : Df K mg "is_name" sName fN fdN ["thing"]) (DD : Df K mg "is_day" sDay fD fdD ["thing"])
    (GN : FnOk P w K mg base CX0 (k + 2) fN fdN ["thing"] (spName K)) (GD : FnOk P w K mg base CX0 (k + 2) fD fdD ["thing"] (spDay K)) : FnOk P w K mg base CX0 (k + 3) f fd ["thing"] (spLives K) := by
  refine D.fn.ok scLives (fun vs H Q E h => ?_) (fun cdv A outer s H vs Q E hr h => ?_)
  · obtain ⟨S, v, ds, rfl, _⟩ := h
    rfl
  · obtain ⟨S, v, ds, rfl, dz, sm, l2, q⟩ := h
    refine ⟨_, pss_cons (ps_if (pt_cmpR op_eq (pe_callB call_len_seq (by rfl) B.len PySem.boot_len (pa_cons (pv 0) pa_nil)) pe_int (nomark _))
          (pss_one (ps_ret (pe_and (pe_call GN hr (by rfl) DN.mg DN.fn.kp DN.bd .nil pass0 (pa_cons (pe_ix (r := rIxT K) ix_tup (pv 0) pe_int (fun _ _ => rfl)) pa_nil)) (pe_one (pe_call GD hr (by rfl) DD.mg DD.fn.kp DD.bd .nil pass0 (pa_cons (pe_ix (r := rIxT K) ix_tup (pv 0) pe_int (fun _ _ => rfl)) pa_nil)))))) pss_nil)
      (pss_one (ps_ret (pe_and (pe_cmpR op_eq (pe_callB call_len_seq (by rfl) B.len PySem.boot_len (pa_cons (pv 0) pa_nil)) pe_int (nomark _)) (pe_one (pe_call GN hr (by rfl) DN.mg DN.fn.kp DN.bd .nil pass0 (pa_cons (pe_ix (r := rIxT K) ix_tup (pv 0) pe_int (fun _ _ => rfl)) pa_nil)))))), ?_⟩
    obtain ⟨a, xs, rfl, hs, hd⟩ := dz_tup dz
    have hl := hd.len
    obtain ⟨x1, x2, ys, d1, d2, es, rfl, rfl, h1, h2, ht⟩ := dz_cons2 hd l2
    refine ⟨_, rfl, a, _, rfl, .inr hs, rfl, _, rfl, ?_⟩
    have sh2 := (sm.mem (show d2 ∈ d1 :: d2 :: es by simp)).short
    cases ht with
    | nil =>
      refine iteF ⟨_, rfl, a, _, rfl, .inr hs, rfl, true, rfl, iteT ?_⟩
      exact ⟨_, rfl, a, _, 1, x2, rfl, rfl, hs, atI_nat (j := 1) rfl, x2, d2, rfl, h2.is, sh2, fun H1 s1 => q H1 s1⟩
    | cons h3 ht =>
      cases ht with
      | nil =>
        rename_i x3 d3
        refine iteT ⟨_, rfl, a, _, 1, x2, rfl, rfl, hs, atI_nat (j := 1) rfl, x2, d2, rfl, h2.is, sh2, fun H1 s1 => ⟨_, rfl, ?_⟩⟩
        have q : ∀ H', Same H H' → Q (.bl (nameB d2 && dayB d3)) H' := q
        by_cases nm : nameB d2 = true
        · rw [nm] at q ⊢
          have hs1 := (tk_same s1).sq hs
          exact iteT ⟨_, rfl, a, _, 2, x3, rfl, rfl, hs1, atI_nat (j := 2) rfl, S, x3, d3, rfl, h3.same s1, q H1 s1⟩
        · have nm' : nameB d2 = false := by simpa using nm
          rw [nm'] at q ⊢
          exact iteF (q H1 s1)
      | cons h4 ht =>
        rename_i x3 d3 x4 zs d4 fs
        have e3 : decide (V.int ((x1 :: x2 :: x3 :: x4 :: zs).length : Nat) = V.int 3) = false := by
          have : ((x1 :: x2 :: x3 :: x4 :: zs).length : Int) ≠ 3 := by simp only [List.length_cons]; omega
          simpa using this
        have e2 : decide (V.int ((x1 :: x2 :: x3 :: x4 :: zs).length : Nat) = V.int 2) = false := by
          have : ((x1 :: x2 :: x3 :: x4 :: zs).length : Int) ≠ 2 := by simp only [List.length_cons]; omega
          simpa using this
        rw [e3]
        refine iteF ⟨_, rfl, a, _, rfl, .inr hs, rfl, false, congrArg V.bl e2, iteF ?_⟩
        exact q H (Same.refl H)
/-! ### formed as conditions are -/
def spForm (K : PySem.W.Frag) (r : Nat) : Sp := fun vs H Q _ => ∃ (S : List Addr) (v : V) (d : PyData), vs = [v, .int (r : Nat)] ∧ Dz S K H v d ∧ Sml d ∧ ∀ H', Same H H' → Q (.bl (formB r d)) H'
def spFormR (K : PySem.W.Frag) : Nat → Sp
  | 0 => fun _ _ _ _ => False
  | r + 1 => spForm K r
theorem form_step {f fN fL fW aC : Addr} {fd fdN fdL fdW : FuncData} {k r : Nat} (B : Bi mg) (T : CoF K mg aC) (D : Df K mg "is_formed" sForm f fd ["thing", "room"]) (DN : Df K mg "is_name" sName fN fdN ["thing"]) (DL : Df K mg "is_lives" sLives fL fdL ["thing"]) (DW : Df K mg "is_word" sWord fW fdW ["thing", "words"])
    (GN : FnOk P w K mg base CX0 (k + 2) fN fdN ["thing"] (spName K)) (GL : FnOk P w K mg base CX0 (k + 3) fL fdL ["thing"] (spLives K)) (GW : FnOk P w K mg base CX0 (k + 1) fW fdW ["thing", "words"] (spWord K))
    (GB : FnOk P w K mg base CX0 (k + 3 + r) f fd ["thing", "room"] (spFormR K r)) : FnOk P w K mg base CX0 (k + 4 + r) f fd ["thing", "room"] (spForm K r) := by
  obtain ⟨t2, g2⟩ := T.g2
  obtain ⟨t6, g6⟩ := T.g6
  have e : k + 4 + r = (k + 3 + r) + 1 := by omega
  rw [e]
  refine D.fn.ok scForm (fun vs H Q E h => ?_) (fun cdv A outer s H vs Q E hr h => ?_)
  · obtain ⟨S, v, d, rfl, _⟩ := h
    rfl
  · obtain ⟨S, v, d, rfl, dz, sm, q⟩ := h
    have r1 : Room (k + 1) _ := hr.mono (by omega)
    have r2 : Room (k + 2) _ := hr.mono (by omega)
    have r3 : Room (k + 3) _ := hr.mono (by omega)
    refine ⟨_, pss_cons (ps_if (PW.pt (pw_or (pt_cmpR op_eq (pv 1) pe_int (nomark _)) (pw_or (pt_not (pt_val (pe_callB call_isi (by rfl) B.isi boot_isinstance (pa_cons (pv 0) (pa_cons (pe_bltn (v := .ty "tuple") (by rfl) B.tuple boot_tuple rfl) pa_nil)))))
          (pw_or1 (pt_cmpR op_lt (pe_callB call_len_seq (by rfl) B.len PySem.boot_len (pa_cons (pv 0) pa_nil)) pe_int (nomark _)))))) (pss_one (ps_ret pe_bl)) pss_nil)
      (pss_cons (ps_set (i := 2) scForm.nd rfl (.inl rfl) (pe_ix (r := rIxT K) ix_tup (pv 0) pe_int (fun _ _ => rfl)))
      (pss_cons (ps_if (pt_not (pt_val (pe_call GW r1 (by rfl) DW.mg DW.fn.kp DW.bd .nil pass0 (pa_cons (pv 2) (pa_cons (pe_glob (v := .ref aC) (by rfl) T.gW rfl) pa_nil))))) (pss_one (ps_ret pe_bl)) pss_nil)
      (pss_cons (ps_if (pt_cmpR op_eq (pv 2) pe_str (nomark _)) (pss_one (ps_ret (pe_call GL r3 (by rfl) DL.mg DL.fn.kp DL.bd .nil pass0 (pa_cons (pv 0) pa_nil)))) pss_nil)
      (pss_cons (ps_if (pt_cmpR op_eq (pv 2) pe_str (nomark _)) (pss_one (ps_ret (pe_and (pe_cmpR op_eq (pe_callB call_len_seq (by rfl) B.len PySem.boot_len (pa_cons (pv 0) pa_nil)) pe_int (nomark _)) (pe_one (pe_call GN r2 (by rfl) DN.mg DN.fn.kp DN.bd .nil pass0 (pa_cons (pe_ix (r := rIxT K) ix_tup (pv 0) pe_int (fun _ _ => rfl)) pa_nil)))))) pss_nil)
      (pss_cons (ps_if (pt_cmpR op_eq (pv 2) pe_str (nomark _)) (pss_one (ps_ret (pe_and (pe_cmpR op_eq (pe_callB call_len_seq (by rfl) B.len PySem.boot_len (pa_cons (pv 0) pa_nil)) pe_int (nomark _)) (pe_one (pe_call GB hr (by rfl) D.mg D.fn.kp D.bd .nil pass0 (pa_cons (pe_ix (r := rIxT K) ix_tup (pv 0) pe_int (fun _ _ => rfl)) (pa_cons (pe_op op_sub (pv 1) pe_int) pa_nil))))))) pss_nil)
      (pss_cons (ps_set (i := 3) scForm.nd rfl (.inl rfl) (pe_slice sl_tupA (pv 0) (po_some pe_int) po_none))
      (pss_cons (ps_if (pt_not (pt_chain op_le op_le (pe_glob (v := .int 2) (by rfl) g2 ⟨_, rfl⟩) (pe_callB call_len_seq (by rfl) B.len PySem.boot_len (pa_cons (pv 3) pa_nil)) (pe_glob (v := .int 6) (by rfl) g6 ⟨_, rfl⟩))) (pss_one (ps_ret pe_bl)) pss_nil)
      (pss_one (ps_ret (pe_callB (cr_all rfl) (by rfl) B.all (by decide +kernel) (pa_cons
          (pe_lc (own := [("term", 4)]) (g := gName 4) (tt := tYes) rfl scForm.nd (pi_tup (pv 3)) (blkOk_by (own := [("term", 4)]) (N := ["thing", "room", "word", "terms", "term"]) (sc := defScope sForm) (by decide +kernel))
            (fun _ _ _ _ _ => pg_name (i := 4) scForm.nd rfl (Or.inl rfl)) (fun _ _ _ _ _ => pts_nil)
            (fun _ _ _ _ _ => pe_call GB hr (by rfl) D.mg D.fn.kp D.bd .nil pass0 (pa_cons (pv 4) (pa_cons (pe_op op_sub (pv 1) pe_int) pa_nil)))) pa_nil))))))))))), ?_⟩
    refine ⟨_, rfl, rfl, _, rfl, ?_⟩
    cases r with
    | zero => exact iteT (iteT (q H (Same.refl H)))
    | succ r =>
      rw [show decide (V.int ((r + 1 : Nat) : Int) = V.int 0) = false by simp; omega]
      refine iteF ⟨_, rfl, _, .ty "tuple", _, .type "tuple", _, rfl, .ty _, dz.ty, kit_tup d, _, rfl, ?_⟩
      by_cases ht : tupB d = true
      rotate_left
      · have ht' : tupB d = false := by simpa using ht
        rw [ht']
        rw [form_no ht'] at q
        exact iteT (iteT (q H (Same.refl H)))
      rw [ht]
      obtain ⟨ds, rfl⟩ := tup_of ht
      obtain ⟨a, xs, rfl, hs, hd⟩ := dz_tup dz
      have hl := hd.len
      refine iteF ⟨_, rfl, a, _, rfl, .inr hs, _, 2, rfl, rfl, _, rfl, ?_⟩
      by_cases l2 : ds.length < 2
      · rw [decide_eq_true (show (xs.length : Int) < 2 by omega)]
        rw [form_short l2] at q
        exact iteT (q H (Same.refl H))
      rw [decide_eq_false (show ¬ (xs.length : Int) < 2 by omega)]
      obtain ⟨x1, x2, ys, d1, d2, es, rfl, rfl, h1, h2, hts⟩ := dz_cons2 hd (by omega)
      refine iteF ⟨_, rfl, a, _, 0, x1, rfl, rfl, hs, atI_nat (j := 0) rfl, ?_⟩
      refine ⟨_, rfl, x1, d1, aC, condW, rfl, h1.is, .inr (T.tW H), rfl, _, rfl, ?_⟩
      by_cases s1 : strB d1 = true
      rotate_left
      · have s1' : strB d1 = false := by simpa using s1
        rw [word_no s1']
        rw [form_word s1'] at q
        exact iteT (q H (Same.refl H))
      obtain ⟨wd, rfl⟩ := str_of s1
      obtain rfl := dz_str h1
      have q : ∀ H', Same H H' → Q (.bl (formL (formB r) wd d2 es)) H' := q
      unfold formL at q
      show if (!inV (.str wd) condW) = true then _ else _
      by_cases iw : inV (.str wd) condW = true
      rotate_left
      · have iw' : inV (.str wd) condW = false := by simpa using iw
        rw [iw'] at q ⊢
        exact iteT (q H (Same.refl H))
      rw [iw] at q ⊢
      rw [if_pos rfl] at q
      refine iteF ⟨_, rfl, rfl, _, rfl, ?_⟩
      show if eqW wd "lives" = true then _ else _
      by_cases c1 : eqW wd "lives" = true
      · rw [c1] at q ⊢
        rw [if_pos rfl] at q
        exact iteT ⟨_, rfl, S, _, _, rfl, dz, sm, by simp, fun H1 s1 => q H1 s1⟩
      have c1' : eqW wd "lives" = false := by simpa using c1
      rw [c1'] at q ⊢
      rw [if_neg (by decide)] at q
      refine iteF ⟨_, rfl, rfl, _, rfl, ?_⟩
      show if eqW wd "childless" = true then _ else _
      have lenE : ∀ b, b = es.isEmpty → decide (V.int ((V.str wd :: x2 :: ys).length : Nat) = V.int 2) = b := fun b hb => by
        subst hb
        have : ys.length = es.length := by
          have := hl
          simp only [List.length_cons] at this
          omega
        cases es with
        | nil =>
          cases ys with
          | nil => rfl
          | cons _ _ => simp at this
        | cons e es =>
          cases ys with
          | nil => simp at this
          | cons y ys =>
            have : ((V.str wd :: x2 :: y :: ys).length : Int) ≠ 2 := by simp only [List.length_cons]; omega
            simpa using this
      by_cases c2 : eqW wd "childless" = true
      · rw [c2] at q ⊢
        rw [if_pos rfl] at q
        refine iteT ⟨_, rfl, a, _, rfl, .inr hs, rfl, _, rfl, ?_⟩
        rw [lenE _ rfl]
        by_cases em : es.isEmpty = true
        · rw [em] at q ⊢
          exact iteT ⟨_, rfl, a, _, 1, x2, rfl, rfl, hs, atI_nat (j := 1) rfl, x2, d2, rfl, h2.is, (sm.mem (by simp)).short, fun H1 s1 => q H1 s1⟩
        · have em' : es.isEmpty = false := by simpa using em
          rw [em'] at q ⊢
          exact iteF (q H (Same.refl H))
      have c2' : eqW wd "childless" = false := by simpa using c2
      rw [c2'] at q ⊢
      rw [if_neg (by decide)] at q
      refine iteF ⟨_, rfl, rfl, _, rfl, ?_⟩
      show if eqW wd "not" = true then _ else _
      by_cases c3 : eqW wd "not" = true
      · rw [c3] at q ⊢
        rw [if_pos rfl] at q
        refine iteT ⟨_, rfl, a, _, rfl, .inr hs, rfl, _, rfl, ?_⟩
        rw [lenE _ rfl]
        by_cases em : es.isEmpty = true
        · rw [em] at q ⊢
          refine iteT ⟨_, rfl, a, _, 1, x2, rfl, rfl, hs, atI_nat (j := 1) rfl, _, rfl, _, 1, rfl, rfl, S, x2, d2, ?_, h2, sm.mem (by simp), fun H1 s1 => q H1 s1⟩
          show [x2, V.int (((r + 1 : Nat) : Int) - 1)] = _
          rw [show (((r + 1 : Nat) : Int) - 1) = (r : Int) by omega]
        · have em' : es.isEmpty = false := by simpa using em
          rw [em'] at q ⊢
          exact iteF (q H (Same.refl H))
      have c3' : eqW wd "not" = false := by simpa using c3
      rw [c3'] at q ⊢
      rw [if_neg (by decide)] at q
      refine iteF ⟨_, rfl, 1, rfl, ?_⟩
      refine (show tNoPart _ H _ from cut_tup1 hs (by show 1 ≤ _; simp) (fun p H1 s1 sq => ?_))
      have sq : SqT K H1 p (x2 :: ys) := sq
      have ht1 : DzAll S K H1 (x2 :: ys) (d2 :: es) := (DzAll.cons h2 hts).same s1
      have hl2 := ht1.len
      refine ⟨_, rfl, p, _, rfl, .inr sq, 2, _, rfl, rfl, _, rfl, ?_⟩
      by_cases m2 : 2 ≤ (d2 :: es).length
      rotate_left
      · rw [decide_eq_false (show ¬ (2 : Int) ≤ ((x2 :: ys).length : Int) by omega)]
        rw [decide_eq_false (show ¬ (2 ≤ (d2 :: es).length ∧ (d2 :: es).length ≤ 6) from fun z => m2 z.1)] at q
        exact iteF ⟨_, rfl, iteT (q H1 s1)⟩
      rw [decide_eq_true (show (2 : Int) ≤ ((x2 :: ys).length : Int) by omega)]
      refine iteT ⟨_, 6, rfl, rfl, _, rfl, ?_⟩
      by_cases m6 : (d2 :: es).length ≤ 6
      rotate_left
      · rw [decide_eq_false (show ¬ ((x2 :: ys).length : Int) ≤ 6 by omega)]
        rw [decide_eq_false (show ¬ (2 ≤ (d2 :: es).length ∧ (d2 :: es).length ≤ 6) from fun z => m6 z.2)] at q
        exact iteT (q H1 s1)
      rw [decide_eq_true (show ((x2 :: ys).length : Int) ≤ 6 by omega)]
      rw [decide_eq_true (show 2 ≤ (d2 :: es).length ∧ (d2 :: es).length ≤ 6 from ⟨m2, m6⟩), Bool.true_and] at q
      have smt : ∀ e ∈ d2 :: es, Sml e := fun e he => sm.mem (List.mem_cons_of_mem _ he)
      revert sq ht1 hl2 q smt m6
      generalize x2 :: ys = zs
      generalize d2 :: es = fs
      intro q sq ht1 hl2 m6 smt
      refine iteF ⟨_, rfl, p, rfl, ⟨zs, sq⟩, fun L nL => lc_tup (K := K) (a := p) (xs := zs) (fun i H' => H' L = some (.lst (((fs.take i).map (formB r)).map V.bl)) ∧ Same H1 H') ⟨upd_same, same_new nL⟩ (fun i H' _ h => tk_same h.2 |>.sq sq) ?_ ?_⟩
      · rintro i x H2 hx ⟨hL, s2⟩
        obtain ⟨e, he, dx⟩ := ht1.get hx
        have il := lt_get hx
        refine ⟨rfl, tyes (iteT ⟨_, rfl, _, rfl, _, 1, rfl, rfl, S, x, e, ?_, dx.same s2, smt e (List.mem_of_getElem? he), fun H3 s3 => ?_⟩)⟩
        · show [x, V.int (((r + 1 : Nat) : Int) - 1)] = _
          rw [show (((r + 1 : Nat) : Int) - 1) = (r : Int) by omega]
        refine ⟨_, s3 _ _ hL, ?_, ?_, ?_⟩
        · rw [List.length_map, List.length_map, List.length_take]
          exact small1000 (by omega)
        · rw [upd_same, take_more he, List.map_append, List.map_append]
          rfl
        · exact ((Bt.of_same (S := []) (s2.trans s3)).upd0 nL).same
      · rintro H2 ⟨hL, s2⟩
        rw [hl2, List.take_length] at hL
        refine ⟨L, _, rfl, sqL hL, ?_⟩
        rw [show (fs.map (formB r)).all id = fs.all (formB r) by rw [List.all_map]; rfl]
        exact q H2 (s1.trans s2)
theorem ok_form {f fN fL fW aC : Addr} {fd fdN fdL fdW : FuncData} {k : Nat} (B : Bi mg) (T : CoF K mg aC) (D : Df K mg "is_formed" sForm f fd ["thing", "room"]) (DN : Df K mg "is_name" sName fN fdN ["thing"]) (DL : Df K mg "is_lives" sLives fL fdL ["thing"]) (DW : Df K mg "is_word" sWord fW fdW ["thing", "words"])
    (GN : FnOk P w K mg base CX0 (k + 2) fN fdN ["thing"] (spName K)) (GL : FnOk P w K mg base CX0 (k + 3) fL fdL ["thing"] (spLives K)) (GW : FnOk P w K mg base CX0 (k + 1) fW fdW ["thing", "words"] (spWord K)) : ∀ r, FnOk P w K mg base CX0 (k + 4 + r) f fd ["thing", "room"] (spForm K r)
  | 0 => form_step B T D DN DL DW GN GL GW ⟨fun _ _ _ _ h => h.elim, fun _ _ _ _ _ _ _ _ _ _ _ _ _ h => h.elim⟩
  | r + 1 => form_step (r := r + 1) B T D DN DL DW GN GL GW (by
    have := ok_form B T D DN DL DW GN GL GW r
    have e : k + 3 + (r + 1) = k + 4 + r := by omega
    rw [e]
    exact this)
end
end WdQ

set_option Elab.async false
set_option linter.all false
set_option maxRecDepth 100000
set_option maxHeartbeats 4000000
set_option exponentiation.threshold 5000
namespace WdQ
open PySem PySem.Spec PyProof.Rows L2 WdM Wd
abbrev sComes : Stmt := topS 49
abbrev sEDay : Stmt := inClass (topS 8) 0
theorem scComes : FnScope ["house", "cond", "story", "wait"] ["house", "cond", "story", "wait"] (defScope sComes) := ⟨rfl, rfl, rfl, by decide +kernel, rfl, by decide +kernel, by decide +kernel⟩
theorem scEDay : FnScope ["self", "thing"] ["self", "thing"] (defScope sEDay) := ⟨rfl, rfl, rfl, by decide +kernel, rfl, by decide +kernel, by decide +kernel⟩
theorem sum_le {f : PyData → Nat} {b : Nat} : ∀ {ds : List PyData}, (∀ d ∈ ds, f d ≤ b) → (ds.map f).sum ≤ ds.length * b
  | [], _ => by simp
  | d :: ds, h => by
    rw [List.map_cons, List.sum_cons, List.length_cons, Nat.succ_mul]
    have h1 := h d List.mem_cons_self
    have h2 := sum_le (ds := ds) fun x hx => h x (List.mem_cons_of_mem _ hx)
    omega
/-- the ways in which something is formed -/
theorem form_ways {f : PyData → Bool} {w : Str} {t : PyData} {ts : List PyData} (h : formL f w t ts = true) :
    ((eqW w "lives" || eqW w "childless") = true) ∨ ((eqW w "lives" || eqW w "childless") = false ∧ (t :: ts).length ≤ 6 ∧ ∀ d ∈ t :: ts, f d = true) := by
  unfold formL at h
  by_cases c1 : eqW w "lives" = true
  · exact .inl (by rw [c1]; rfl)
  by_cases c2 : eqW w "childless" = true
  · exact .inl (by rw [c2]; exact Bool.or_true _)
  have c1' : eqW w "lives" = false := by simpa using c1
  have c2' : eqW w "childless" = false := by simpa using c2
  refine .inr ⟨by rw [c1', c2']; rfl, ?_⟩
  by_cases iw : inV (.str w) condW = true
  · rw [if_pos iw, if_neg c1, if_neg c2] at h
    by_cases c3 : eqW w "not" = true
    · rw [if_pos c3] at h
      obtain ⟨e1, e2⟩ := Bool.and_eq_true_iff.mp h
      have e1 : ts = [] := by simpa using e1
      subst e1
      exact ⟨by simp, fun d hd => by rw [List.mem_singleton.mp hd]; exact e2⟩
    · rw [if_neg c3] at h
      obtain ⟨e1, e2⟩ := Bool.and_eq_true_iff.mp h
      exact ⟨(of_decide_eq_true e1).2, fun d hd => List.all_eq_true.mp e2 d hd⟩
  · rw [if_neg iw] at h
    cases h
theorem form_shape {r : Nat} {d : PyData} (h : formB r d = true) : ∃ q w t ts, r = q + 1 ∧ d = .tuple (.str w :: t :: ts) ∧ formL (formB q) w t ts = true := by
  cases r with
  | zero => cases h
  | succ q =>
    cases d with
    | tuple ds =>
      match ds with
      | [] => cases h
      | [e] => cases e <;> cases h
      | e :: t :: ts =>
        cases e with
        | str w => exact ⟨q, w, t, ts, rfl, rfl, h⟩
        | _ => cases h
    | _ => cases h
theorem leaf_le : ∀ {r : Nat} {d : PyData}, formB r d = true → leafN r d ≤ 6 ^ r := by
  intro r
  induction r with
  | zero => intro d h; cases h
  | succ r ih =>
    intro d h
    obtain ⟨q, w, t, ts, e, rfl, hf⟩ := form_shape h
    obtain rfl : r = q := by omega
    show leafL (leafN r) w (t :: ts) ≤ _
    unfold leafL
    have p : 0 < 6 ^ r := Nat.pow_pos (by decide)
    rw [Nat.pow_succ]
    rcases form_ways hf with hw | ⟨hw, l6, all⟩
    · rw [if_pos hw]
      omega
    · rw [if_neg (by rw [hw]; decide)]
      have := sum_le (f := leafN r) (b := 6 ^ r) (ds := t :: ts) fun d hd => ih (all d hd)
      have := Nat.mul_le_mul_right (6 ^ r) l6
      omega
section
variable {P : Program} {w : World} {K : PySem.W.Frag} {mg : Str → Option Value} {base : Heap} {CC CD fE CW : Addr}
def spLeav (K : PySem.W.Frag) (r : Nat) : Sp := fun vs H Q _ => ∃ (S : List Addr) (v : V) (d : PyData), vs = [v] ∧ Dz S K H v d ∧ formB r d = true ∧ ∀ H' p xs, Same H H' → H p = none → H' p = some (.lst xs) → xs.length = leafN r d → Q (.ref p) H'
def spLeavR (K : PySem.W.Frag) : Nat → Sp
  | 0 => fun _ _ _ _ => False
  | r + 1 => spLeav K r
theorem leav_step {f : Addr} {fd : FuncData} {k r : Nat} (r6 : r ≤ 6) (B : Bi mg) (D : Df K mg "leaves" sLeav f fd ["cond"]) (GB : FnOk P w K mg base CX0 (k + r) f fd ["cond"] (spLeavR K r)) : FnOk P w K mg base CX0 (k + r + 1) f fd ["cond"] (spLeav K r) := by
  refine D.fn.ok scLeav (fun vs H Q E h => ?_) (fun cdv A outer s H vs Q E hr h => ?_)
  · obtain ⟨S, v, d, rfl, _⟩ := h
    rfl
  · obtain ⟨S, v, d, rfl, dz, fm, q⟩ := h
    refine ⟨_, pss_cons (ps_if (pt_cmpR op_isN (pv 0) pe_non (nomark _)) (pss_one ps_no) pss_nil)
      (pss_cons (ps_if (PW.pt (pw_or (pt_cmpR op_eq (pe_ix (r := rIxT K) ix_tup (pv 0) pe_int (fun _ _ => rfl)) pe_str (nomark _)) (pw_or1 (pt_cmpR op_eq (pe_ix (r := rIxT K) ix_tup (pv 0) pe_int (fun _ _ => rfl)) pe_str (nomark _))))) (pss_one (ps_ret (pe_lst (pa_cons (pv 0) pa_nil)))) pss_nil)
      (pss_one (ps_ret (pe_lc2 (own := [("term", 1), ("leaf", 2)]) (vs1 := [2]) (g := gName 1) (g1 := gName 2) (tt := tYes) (tt1 := tYes) (wi1 := iList K (tCall (spLeavR K r) [] E0 (tCons (tVar 1) tNil))) rfl scLeav.nd (pi_tup (pe_slice sl_tupA (pv 0) (po_some pe_int) po_none))
          (blkOk_by (own := [("term", 1), ("leaf", 2)]) (N := ["cond", "term", "leaf"]) (sc := defScope sLeav) (by decide +kernel)) (by decide)
          (fun _ _ _ _ _ => pg_name (i := 1) scLeav.nd rfl (Or.inl rfl)) (fun _ _ _ _ _ => pts_nil)
          (fun _ _ _ _ _ => pi_list (pe_call GB hr (by rfl) D.mg D.fn.kp D.bd .nil pass0 (pa_cons (pv 1) pa_nil)))
          (fun _ _ _ _ _ => pg_name (i := 2) scLeav.nd rfl (Or.inl rfl)) (fun _ _ _ _ _ => pts_nil)
          (fun _ _ _ _ _ => pv 2))))), ?_⟩
    obtain ⟨n, wd, t, ts, rfl, rfl, hf⟩ := form_shape fm
    obtain ⟨a, xs, rfl, hs, hd⟩ := dz_tup dz
    obtain ⟨x1, x2, ys, d1, d2, es, rfl, e, h1, h2, hts⟩ := dz_cons2 hd (by simp)
    cases e
    obtain rfl := dz_str h1
    have q : ∀ H' p zs, Same H H' → H p = none → H' p = some (.lst zs) → zs.length = leafL (leafN n) wd (t :: ts) → Q (.ref p) H' := q
    unfold leafL at q
    refine ⟨_, rfl, rfl, false, rfl, iteF ?_⟩
    refine ⟨_, rfl, a, _, 0, _, rfl, rfl, hs, atI_nat (j := 0) rfl, rfl, _, rfl, ?_⟩
    show if eqW wd "lives" = true then _ else _
    have one : (eqW wd "lives" || eqW wd "childless") = true → ∀ p, H p = none → Q (.ref p) (upd H p (.lst [.ref a])) := fun hw p np => by
      refine q _ p _ (same_new np) np upd_same ?_
      rw [if_pos hw]
      rfl
    by_cases c1 : eqW wd "lives" = true
    · rw [c1]
      exact iteT (iteT ⟨_, rfl, by show 1 ≤ sizeLine; decide, fun p np => one (by rw [c1]; rfl) p np⟩)
    have c1' : eqW wd "lives" = false := by simpa using c1
    rw [c1']
    refine iteF ⟨_, rfl, a, _, 0, _, rfl, rfl, hs, atI_nat (j := 0) rfl, rfl, _, rfl, ?_⟩
    show if eqW wd "childless" = true then _ else _
    by_cases c2 : eqW wd "childless" = true
    · rw [c2]
      exact iteT ⟨_, rfl, by show 1 ≤ sizeLine; decide, fun p np => one (by rw [c2]; exact Bool.or_true _) p np⟩
    have c2' : eqW wd "childless" = false := by simpa using c2
    rw [c2']
    rcases form_ways hf with hw | ⟨hw, l6, all⟩
    · rw [c1', c2'] at hw
      cases hw
    rw [if_neg (by rw [hw]; decide)] at q
    refine iteF ⟨_, rfl, 1, rfl, ?_⟩
    refine (show tNoPart _ H _ from cut_tup1 hs (by show 1 ≤ _; simp) (fun p H1 s1 sq => ?_))
    have sq : SqT K H1 p (x2 :: ys) := sq
    have ht1 : DzAll S K H1 (x2 :: ys) (t :: ts) := (DzAll.cons h2 hts).same s1
    have hl := ht1.len
    have lf : ∀ e ∈ t :: ts, leafN n e ≤ 6 ^ 5 := fun e he => Nat.le_trans (leaf_le (all e he)) (Nat.pow_le_pow_right (by decide) (by omega))
    revert sq ht1 hl q all l6 lf
    generalize x2 :: ys = zs
    generalize t :: ts = fs
    intro q l6 all sq ht1 hl lf
    refine ⟨p, rfl, ⟨zs, sq⟩, fun L nL => ?_⟩
    have part : ∀ i, i ≤ zs.length → ((fs.take i).map (leafN n)).sum ≤ 46656 := fun i hi => by
      have := sum_le (f := leafN n) (b := 6 ^ 5) (ds := fs.take i) fun d hd => lf d (List.mem_of_mem_take hd)
      have : (fs.take i).length ≤ 6 := by rw [List.length_take]; omega
      have := Nat.mul_le_mul_right (6 ^ 5) this
      omega
    refine lc_outer (walk_tup (K := K) (a := p) (xs := zs)) (fun i H' => ∃ acc, H' L = some (.lst acc) ∧ acc.length = ((fs.take i).map (leafN n)).sum ∧ Same H1 H') ⟨[], upd_same, rfl, same_new nL⟩ (fun i H' _ ⟨_, _, _, s⟩ => (tk_same s).sq sq) ?_ ?_
    · rintro i x H2 _ hi ⟨acc, hL, al, s2⟩ ⟨rfl, hx⟩
      obtain ⟨e, he, dx⟩ := ht1.get hx
      have fe := all e (List.mem_of_getElem? he)
      refine ⟨rfl, tyes (iteT ⟨_, rfl, S, x, e, rfl, dx.same s2, fe, fun H3 p3 ws s3 n3 h3 wl => ⟨p3, rfl, ⟨_, sqL h3⟩, ?_⟩⟩)⟩
      have n3L : p3 ≠ L := (ne_of_none hL n3).symm
      refine lc_inner (walk_list (K := K) (a := p3) (xs := ws)) (fun j H' => ∃ acc', H' L = some (.lst acc') ∧ acc'.length = acc.length + j ∧ H' p3 = some (.lst ws) ∧ Same H1 H') ⟨acc, s3 _ _ hL, rfl, h3, s2.trans s3⟩ (fun j H' _ ⟨_, _, _, h, _⟩ => sqL h) ?_ ?_
      · rintro j y H4 _ hj ⟨acc', hL4, al4, h34, s4⟩ ⟨rfl, hy⟩
        have t1 := part (i + 1) (by omega)
        rw [take_more he, List.map_append, List.sum_append] at t1
        simp only [List.map_cons, List.map_nil, List.sum_cons, List.sum_nil] at t1
        refine ⟨rfl, tyes (iteT ⟨_, rfl, acc', hL4, Nat.lt_of_lt_of_le (show acc'.length < 50000 by omega) (by decide), acc' ++ [y], upd_same, by rw [List.length_append, al4]; show _ + 1 = _; omega, by rw [upd_ne n3L]; exact h34, ((Bt.of_same (S := []) s4).upd0 nL).same⟩)⟩
      · rintro H4 ⟨acc', hL4, al4, h34, s4⟩
        refine ⟨acc', hL4, ?_, s4⟩
        rw [al4, al, wl, take_more he, List.map_append, List.sum_append]
        simp
    · rintro H2 ⟨acc, hL, al, s2⟩
      rw [hl, List.take_length] at al
      exact q H2 L acc (s1.trans s2) (s1.free nL) hL al
theorem ok_leav {f : Addr} {fd : FuncData} {k : Nat} (B : Bi mg) (D : Df K mg "leaves" sLeav f fd ["cond"]) : ∀ r, r ≤ 6 → FnOk P w K mg base CX0 (k + r + 1) f fd ["cond"] (spLeav K r)
  | 0, h => leav_step h B D ⟨fun _ _ _ _ h => h.elim, fun _ _ _ _ _ _ _ _ _ _ _ _ _ h => h.elim⟩
  | r + 1, h => leav_step (r := r + 1) h B D (ok_leav B D r (by omega))
def spB (K : PySem.W.Frag) (f : PyData → Bool) : Sp := fun vs H Q _ => ∃ (S : List Addr) (v : V) (d : PyData), vs = [v] ∧ Dz S K H v d ∧ Sml d ∧ ∀ H', Same H H' → Q (.bl (f d)) H'
theorem ok_cond {f fF fL aC : Addr} {fd fdF fdL : FuncData} {k : Nat} (B : Bi mg) (T : CoF K mg aC) (D : Df K mg "is_cond" sCond f fd ["thing"]) (DF : Df K mg "is_formed" sForm fF fdF ["thing", "room"]) (DL : Df K mg "leaves" sLeav fL fdL ["cond"])
    (GF : FnOk P w K mg base CX0 (k + 10) fF fdF ["thing", "room"] (spForm K 6)) : FnOk P w K mg base CX0 (k + 11) f fd ["thing"] (spB K condB) := by
  have GL : FnOk P w K mg base CX0 (k + 10) fL fdL ["cond"] (spLeav K 6) := ok_leav (k := k + 3) B DL 6 (by decide)
  obtain ⟨tD, gD⟩ := T.gD
  obtain ⟨tN, gN⟩ := T.gN
  refine D.fn.ok scCond (fun vs H Q E h => ?_) (fun cdv A outer s H vs Q E hr h => ?_)
  · obtain ⟨S, v, d, rfl, _⟩ := h
    rfl
  · obtain ⟨S, v, d, rfl, dz, sm, q⟩ := h
    refine ⟨_, pss_one (ps_ret (pe_and (pe_call GF hr (by rfl) DF.mg DF.fn.kp DF.bd .nil pass0 (pa_cons (pv 0) (pa_cons (pe_glob (v := .int 6) (by rfl) gD ⟨_, rfl⟩) pa_nil)))
      (pe_one (pe_cmpR op_le (pe_callB call_len_seq (by rfl) B.len PySem.boot_len (pa_cons (pe_call GL hr (by rfl) DL.mg DL.fn.kp DL.bd .nil pass0 (pa_cons (pv 0) pa_nil)) pa_nil)) (pe_glob (v := .int 12) (by rfl) gN ⟨_, rfl⟩) (nomark _))))), ?_⟩
    refine ⟨_, rfl, S, v, d, rfl, dz, sm, fun H1 s1 => ⟨_, rfl, ?_⟩⟩
    have q : ∀ H', Same H H' → Q (.bl (formB 6 d && decide (leafN 6 d ≤ 12))) H' := q
    by_cases fm : formB 6 d = true
    · rw [fm] at q ⊢
      refine iteT ⟨_, rfl, S, v, d, rfl, dz.same s1, fm, fun H2 p xs s2 _ hp xl => ⟨p, _, rfl, .inl (sqL hp), _, 12, rfl, rfl, ?_⟩⟩
      have := q H2 (s1.trans s2)
      show Q (.bl (decide ((xs.length : Int) ≤ 12))) H2
      rw [show decide ((xs.length : Int) ≤ 12) = (true && decide (leafN 6 d ≤ 12)) by rw [Bool.true_and, xl]; congr 1; exact propext ⟨fun h => by omega, fun h => by omega⟩]
      exact this
    · have fm' : formB 6 d = false := by simpa using fm
      rw [fm'] at q ⊢
      exact iteF (q H1 s1)
def condNB (d : PyData) : Bool := match d with | .none => true | d => condB d
theorem ok_condN {f fC : Addr} {fd fdC : FuncData} {k : Nat} (D : Df K mg "is_cond_or_none" sCondN f fd ["thing"]) (DC : Df K mg "is_cond" sCond fC fdC ["thing"]) (GC : FnOk P w K mg base CX0 (k + 11) fC fdC ["thing"] (spB K condB)) : FnOk P w K mg base CX0 (k + 12) f fd ["thing"] (spB K condNB) := by
  refine D.fn.ok scCondN (fun vs H Q E h => ?_) (fun cdv A outer s H vs Q E hr h => ?_)
  · obtain ⟨S, v, d, rfl, _⟩ := h
    rfl
  · obtain ⟨S, v, d, rfl, dz, sm, q⟩ := h
    refine ⟨_, pss_one (ps_ret (pe_or (pe_cmpR op_isN (pv 0) pe_non (nomark _)) (pe_one (pe_call GC hr (by rfl) DC.mg DC.fn.kp DC.bd .nil pass0 (pa_cons (pv 0) pa_nil))))), ?_⟩
    refine ⟨_, rfl, rfl, _, rfl, ?_⟩
    cases dz with
    | non => exact iteT (q H (Same.refl H))
    | bl b => exact iteF ⟨_, rfl, S, _, _, rfl, .bl b, sm, q⟩
    | int b => exact iteF ⟨_, rfl, S, _, _, rfl, .int b, sm, q⟩
    | str b => exact iteF ⟨_, rfl, S, _, _, rfl, .str b, sm, q⟩
    | lst n h t => exact iteF ⟨_, rfl, S, _, _, rfl, .lst n h t, sm, q⟩
    | tup h t => exact iteF ⟨_, rfl, S, _, _, rfl, .tup h t, sm, q⟩
    | nod n h => exact iteF ⟨_, rfl, S, _, _, rfl, .nod n h, sm, q⟩
/-! ### refused -/
theorem ok_eDay {fd : FuncData} {k : Nat} (T : ErC K mg "NoDay" "thing" CD fE CW) (F : Fun K "__init__" "NoDay.__init__" sEDay fE fd) : FnOk P w K mg base CX0 (k + 1) fE fd ["self", "thing"] (spInitE CD "thing") := by
  refine F.ok scEDay (fun vs H Q E h => ?_) (fun cdv A outer s H vs Q E hr h => ?_)
  · obtain ⟨a, y, rfl, _⟩ := h
    rfl
  · obtain ⟨a, y, rfl, ha, q⟩ := h
    exact ⟨_, pss_one (ps_ost (pv 0) (pv 1)), y, rfl, .ref a, rfl, a, CD, rfl, T.o, T.no, .inl ⟨ha, fun dx h1 h2 => q dx h1 h2⟩⟩
def spComes0 (K : PySem.W.Frag) (CC CD : Addr) : Sp := fun vs H _ E => ∃ (S : List Addr) (h v st x : V) (d e : PyData), vs = [h, v, st, x] ∧ Dz S K H v d ∧ Sml d ∧ Dz S K H x e ∧
  ((condNB d = false ∧ ∀ H', Same H H' → E (.ref CC) none H') ∨ (condNB d = true ∧ dayB e = false ∧ ∀ H' dd, Same H H' → H' dd = none → E (.ref CD) (some dd) (upd H' dd (.xd [("thing", x)]))))
theorem ok_comes0 {f fC fD : Addr} {fd fdC fdD fdI : FuncData} (TC : ErN K mg "NoCond" CC CW) (TD : ErC K mg "NoDay" "thing" CD fE CW) (FI : Fun K "__init__" "NoDay.__init__" sEDay fE fdI) (bI : Binds K fdI ["self", "thing"] []) (F : FunD K "comes" "comes" (defArgs sComes) (defBody sComes) (defScope sComes) [.int 0] [] f fd)
    (GC : FnOk P w K mg base CX0 12 fC fdC ["thing"] (spB K condNB)) (DC : Df K mg "is_cond_or_none" sCondN fC fdC ["thing"]) (GD : FnOk P w K mg base CX0 2 fD fdD ["thing"] (spDay K)) (DD : Df K mg "is_day" sDay fD fdD ["thing"]) :
    FnOk P w K mg base (L2.CX P w) 13 f fd ["house", "cond", "story", "wait"] (spComes0 K CC CD) := by
  have GI : FnOk P w K mg base CX0 1 fE fdI ["self", "thing"] (spInitE CD "thing") := ok_eDay (k := 0) TD FI
  refine F.ok scComes (fun vs H Q E h => ?_) (fun cdv A outer s H vs Q E hr h => ?_)
  · obtain ⟨S, h, v, st, x, d, e, rfl, _⟩ := h
    rfl
  · obtain ⟨S, h, v, st, x, d, e, rfl, dz, sm, dx, hc⟩ := h
    have r2 : Room 2 _ := hr.mono (by omega)
    refine ⟨_, pss_cons (ps_if (pt_not (pt_val (pe_call GC hr (by rfl) DC.mg DC.fn.kp DC.bd .nil pass0 (pa_cons (pv 1) pa_nil))))
          (pss_one (ps_raise rfl (takes_of rfl rfl rfl rfl) (pmk_own0 PySem.F.excBase_ValueError TC.x_ TC.g TC.k (raises_own TC.b TC.t) (by rfl)))) pss_nil)
      (pss_cons (ps_if (pt_not (pt_val (pe_call GD r2 (by rfl) DD.mg DD.fn.kp DD.bd .nil pass0 (pa_cons (pv 3) pa_nil))))
          (pss_one (ps_raise rfl (takes_of rfl rfl rfl rfl) (pmk_oex TD.o TD.i TD.t GI r2 bI .nil pass0 (by rfl) TD.g (pa_cons (pv 3) pa_nil)))) pss_nil) pss_no), ?_⟩
    refine ⟨_, rfl, S, v, d, rfl, dz, sm, fun H1 s1 => ⟨_, rfl, ?_⟩⟩
    rcases hc with ⟨bad, q⟩ | ⟨good, bad, q⟩
    · rw [bad]
      exact iteT (q H1 s1)
    · rw [good]
      refine iteF ⟨_, rfl, S, x, e, rfl, dx.same s1, _, rfl, ?_⟩
      rw [bad]
      exact iteT (raise_var rfl fun dd h => q H1 dd s1 h)
end
end WdQ

set_option Elab.async false
set_option linter.all false
set_option maxRecDepth 100000
set_option maxHeartbeats 4000000
set_option exponentiation.threshold 5000
namespace WdQ
open PySem PySem.Spec PyProof.Rows L2 WdM Wd
/-! ### two rows side by side -/
inductive A2 {α β : Type} (R : α → β → Prop) : List α → List β → Prop
  | nil : A2 R [] []
  | cons {a : α} {b : β} {as : List α} {bs : List β} : R a b → A2 R as bs → A2 R (a :: as) (b :: bs)
theorem A2.imp {α β : Type} {R R' : α → β → Prop} (f : ∀ a b, R a b → R' a b) : ∀ {as : List α} {bs : List β}, A2 R as bs → A2 R' as bs
  | _, _, .nil => .nil
  | _, _, .cons h t => .cons (f _ _ h) (t.imp f)
theorem A2.append {α β : Type} {R : α → β → Prop} : ∀ {as cs : List α} {bs ds : List β}, A2 R as bs → A2 R cs ds → A2 R (as ++ cs) (bs ++ ds)
  | _, _, _, _, .nil, h => h
  | _, _, _, _, .cons h t, h2 => .cons h (t.append h2)
theorem A2.len {α β : Type} {R : α → β → Prop} : ∀ {as : List α} {bs : List β}, A2 R as bs → as.length = bs.length
  | _, _, .nil => rfl
  | _, _, .cons _ t => by rw [List.length_cons, List.length_cons, t.len]
theorem A2.get {α β : Type} {R : α → β → Prop} : ∀ {as : List α} {bs : List β} {i : Nat} {a : α}, A2 R as bs → as[i]? = some a → ∃ b, bs[i]? = some b ∧ R a b
  | _, _, 0, _, .cons h _, e => by cases e; exact ⟨_, rfl, h⟩
  | _, _, i + 1, _, .cons _ t, e => t.get (i := i) e
/-! ### conditions by their ways -/
def rowS (b : Bool) : Str := if b then "and" else "or"
inductive Fv (q : Nat) : PyData → Prop
  | liv (z : Str) : nmB z = true → Fv q (.tuple [.str "lives", .str z])
  | livAt (z : Str) (i : Int) : nmB z = true → -9999 ≤ i → i ≤ 9999 → Fv q (.tuple [.str "lives", .str z, .int i])
  | chl (z : Str) : nmB z = true → Fv q (.tuple [.str "childless", .str z])
  | neg (c : PyData) : formB q c = true → Fv q (.tuple [.str "not", c])
  | row (b : Bool) (c1 c2 : PyData) (cs : List PyData) : (c1 :: c2 :: cs).length ≤ 6 → (∀ c ∈ c1 :: c2 :: cs, formB q c = true) → Fv q (.tuple (.str (rowS b) :: c1 :: c2 :: cs))
theorem eqW_eq {w x : Str} (h : eqW w x = true) : w = x := by
  have h : V.str w = V.str x := of_decide_eq_true h
  cases h
  rfl
theorem eqV (a w : Str) : (a == w) = eqW w a := by
  unfold eqW
  by_cases h : a = w
  · subst h; simp
  · have h2 : ¬ V.str w = V.str a := fun z => h (by cases z; rfl)
    rw [decide_eq_false h2]
    simpa using h
theorem in_condV (w : Str) : inV (.str w) condW = (eqW w "lives" || (eqW w "childless" || (eqW w "not" || (eqW w "and" || eqW w "or")))) := by
  show (("lives" : Str) == w || (("childless" : Str) == w || (("not" : Str) == w || (("and" : Str) == w || (("or" : Str) == w || false))))) = _
  rw [eqV, eqV, eqV, eqV, eqV, Bool.or_false]
theorem name_is {d : PyData} (h : nameB d = true) : ∃ z, d = .str z ∧ nmB z = true := by
  cases d with
  | str z => exact ⟨z, rfl, h⟩
  | _ => cases h
theorem day_is {d : PyData} (h : dayB d = true) : ∃ i : Int, d = .int i ∧ -9999 ≤ i ∧ i ≤ 9999 := by
  cases d with
  | int i => exact ⟨i, rfl, of_decide_eq_true h⟩
  | _ => cases h
theorem form_view {r : Nat} {d : PyData} (h : formB r d = true) : ∃ q, r = q + 1 ∧ Fv q d := by
  obtain ⟨q, w, t, ts, rfl, rfl, hf⟩ := form_shape h
  refine ⟨q, rfl, ?_⟩
  unfold formL at hf
  by_cases iw : inV (.str w) condW = true
  · rw [if_pos iw] at hf
    by_cases c1 : eqW w "lives" = true
    · rw [if_pos c1] at hf
      obtain rfl := eqW_eq c1
      match ts, hf with
      | [], hf =>
        obtain ⟨z, rfl, hz⟩ := name_is hf
        exact .liv z hz
      | [d], hf =>
        obtain ⟨hn, hd⟩ := Bool.and_eq_true_iff.mp hf
        obtain ⟨z, rfl, hz⟩ := name_is hn
        obtain ⟨i, rfl, i0, i1⟩ := day_is hd
        exact .livAt z i hz i0 i1
      | _ :: _ :: _, hf => cases hf
    rw [if_neg c1] at hf
    by_cases c2 : eqW w "childless" = true
    · rw [if_pos c2] at hf
      obtain rfl := eqW_eq c2
      obtain ⟨e1, e2⟩ := Bool.and_eq_true_iff.mp hf
      have e1 : ts = [] := by simpa using e1
      subst e1
      obtain ⟨z, rfl, hz⟩ := name_is e2
      exact .chl z hz
    rw [if_neg c2] at hf
    by_cases c3 : eqW w "not" = true
    · rw [if_pos c3] at hf
      obtain rfl := eqW_eq c3
      obtain ⟨e1, e2⟩ := Bool.and_eq_true_iff.mp hf
      have e1 : ts = [] := by simpa using e1
      subst e1
      exact .neg t e2
    rw [if_neg c3] at hf
    obtain ⟨e1, e2⟩ := Bool.and_eq_true_iff.mp hf
    obtain ⟨l2, l6⟩ := of_decide_eq_true e1
    have hw : w = "and" ∨ w = "or" := by
      rw [in_condV] at iw
      simp only [Bool.or_eq_true] at iw
      rcases iw with h | h | h | h | h
      · exact absurd h c1
      · exact absurd h c2
      · exact absurd h c3
      · exact .inl (eqW_eq h)
      · exact .inr (eqW_eq h)
    have all : ∀ c ∈ t :: ts, formB q c = true := fun c hc => List.all_eq_true.mp e2 c hc
    match ts, l2, l6, all with
    | [], l2, _, _ => simp at l2
    | t2 :: cs, _, l6, all =>
      rcases hw with rfl | rfl
      · exact .row true t t2 cs l6 all
      · exact .row false t t2 cs l6 all
  · rw [if_neg iw] at hf
    cases hf
/-! ### the names of a condition -/
def fstS : List PyData → List Str
  | .str z :: _ => [z]
  | _ => []
def namesL (f : PyData → List Str) (w : Str) (ts : List PyData) : List Str := if (eqW w "lives" || eqW w "childless") = true then fstS ts else (ts.map f).flatten
def namesN : Nat → PyData → List Str
  | 0, _ => []
  | r + 1, .tuple (.str w :: ts) => namesL (namesN r) w ts
  | _ + 1, _ => []
theorem names_neg {q : Nat} {c : PyData} : namesN (q + 1) (.tuple [.str "not", c]) = namesN q c := by
  show namesL (namesN q) "not" [c] = _
  unfold namesL
  rw [if_neg (by decide)]
  simp
theorem row_leaf (b : Bool) : (eqW (rowS b) "lives" || eqW (rowS b) "childless") = false := by cases b <;> decide
theorem names_row {q : Nat} {b : Bool} {cs : List PyData} : namesN (q + 1) (.tuple (.str (rowS b) :: cs)) = (cs.map (namesN q)).flatten := by
  show namesL (namesN q) (rowS b) cs = _
  unfold namesL
  rw [if_neg (by rw [row_leaf]; decide)]
theorem names_len : ∀ {r : Nat} {d : PyData}, formB r d = true → (namesN r d).length = leafN r d := by
  intro r
  induction r with
  | zero => intro d h; cases h
  | succ r ih =>
    intro d h
    obtain ⟨q, e, v⟩ := form_view h
    obtain rfl : r = q := by omega
    have sumE : ∀ cs : List PyData, (∀ c ∈ cs, formB r c = true) → ((cs.map (namesN r)).flatten).length = (cs.map (leafN r)).sum := by
      intro cs
      induction cs with
      | nil => intro _; rfl
      | cons c cs ih2 =>
        intro a
        rw [List.map_cons, List.flatten_cons, List.length_append, List.map_cons, List.sum_cons, ih (a c List.mem_cons_self), ih2 fun x hx => a x (List.mem_cons_of_mem _ hx)]
    cases v with
    | liv z _ => rfl
    | livAt z i _ _ _ => rfl
    | chl z _ => rfl
    | neg c hc =>
      rw [names_neg, ih hc]
      show _ = leafL (leafN r) "not" [c]
      unfold leafL
      rw [if_neg (by decide)]
      simp
    | row b c1 c2 cs l a =>
      rw [names_row, sumE _ a]
      show _ = leafL (leafN r) (rowS b) (c1 :: c2 :: cs)
      unfold leafL
      rw [if_neg (by rw [row_leaf]; decide)]
theorem names_nm : ∀ {r : Nat} {d : PyData}, formB r d = true → ∀ z ∈ namesN r d, nmB z = true := by
  intro r
  induction r with
  | zero => intro d h; cases h
  | succ r ih =>
    intro d h z hz
    obtain ⟨q, e, v⟩ := form_view h
    obtain rfl : r = q := by omega
    cases v with
    | liv y hy => rw [List.mem_singleton.mp (show z ∈ [y] from hz)]; exact hy
    | livAt y i hy _ _ => rw [List.mem_singleton.mp (show z ∈ [y] from hz)]; exact hy
    | chl y hy => rw [List.mem_singleton.mp (show z ∈ [y] from hz)]; exact hy
    | neg c hc => rw [names_neg] at hz; exact ih hc z hz
    | row b c1 c2 cs l a =>
      rw [names_row] at hz
      obtain ⟨l, hl, zl⟩ := List.mem_flatten.mp hz
      obtain ⟨c, hc, rfl⟩ := List.mem_map.mp hl
      exact ih (a c hc) z zl
theorem names_ways {n : Nat} {d : PyData} (fv : Fv n d) : ∃ wd t ts, d = .tuple (.str wd :: t :: ts) ∧ (((eqW wd "lives" || eqW wd "childless") = true ∧ ∃ z, t = .str z ∧ nmB z = true ∧ namesN (n + 1) d = [z]) ∨
    ((eqW wd "lives" || eqW wd "childless") = false ∧ (t :: ts).length ≤ 6 ∧ (∀ c ∈ t :: ts, formB n c = true) ∧ namesN (n + 1) d = ((t :: ts).map (namesN n)).flatten)) := by
  cases fv with
  | liv z hz => exact ⟨_, _, _, rfl, .inl ⟨by decide, z, rfl, hz, rfl⟩⟩
  | livAt z i hz _ _ => exact ⟨_, _, _, rfl, .inl ⟨by decide, z, rfl, hz, rfl⟩⟩
  | chl z hz => exact ⟨_, _, _, rfl, .inl ⟨by decide, z, rfl, hz, rfl⟩⟩
  | neg c hc => exact ⟨_, _, _, rfl, .inr ⟨by decide, by simp, fun d hd => by rw [List.mem_singleton.mp hd]; exact hc, by rw [names_neg]; simp⟩⟩
  | row b c1 c2 cs l a => exact ⟨_, _, _, rfl, .inr ⟨row_leaf b, l, a, names_row⟩⟩
section
variable {P : Program} {w : World} {K : PySem.W.Frag} {mg : Str → Option Value} {base : Heap}
/-! ### leaves, told with what they are -/
def LfAt (K : PySem.W.Frag) (H : Hp) (x : V) (z : Str) : Prop := ∃ (a : Addr) (ws : List V), x = .ref a ∧ SqT K H a ws ∧ ws[1]? = some (.str z)
theorem LfAt.tk {H H' : Hp} {x : V} {z : Str} (h : LfAt K H x z) (e : Tk H H') : LfAt K H' x z := by
  obtain ⟨a, ws, rfl, hs, h1⟩ := h
  exact ⟨a, ws, rfl, e.sq hs, h1⟩
theorem lfs_tk {H H' : Hp} {xs : List V} {zs : List Str} (h : A2 (LfAt K H) xs zs) (e : Tk H H') : A2 (LfAt K H') xs zs := h.imp fun _ _ h => h.tk e
def spLvN (K : PySem.W.Frag) (r : Nat) : Sp := fun vs H Q _ => (vs = [.non] ∧ ∀ p, H p = none → Q (.ref p) (upd H p (.lst []))) ∨ ∃ (S : List Addr) (v : V) (d : PyData), vs = [v] ∧ Dz S K H v d ∧ formB r d = true ∧ ∀ H' p xs, Same H H' → H p = none → H' p = some (.lst xs) → A2 (LfAt K H') xs (namesN r d) → Q (.ref p) H'
def spLvNR (K : PySem.W.Frag) : Nat → Sp
  | 0 => fun _ _ _ _ => False
  | r + 1 => spLvN K r
theorem lvN_step {f : Addr} {fd : FuncData} {k r : Nat} (r6 : r ≤ 6) (B : Bi mg) (D : Df K mg "leaves" sLeav f fd ["cond"]) (GB : FnOk P w K mg base CX0 (k + r) f fd ["cond"] (spLvNR K r)) : FnOk P w K mg base CX0 (k + r + 1) f fd ["cond"] (spLvN K r) := by
  refine D.fn.ok scLeav (fun vs H Q E h => ?_) (fun cdv A outer s H vs Q E hr h => ?_)
  · rcases h with ⟨rfl, _⟩ | ⟨S, v, d, rfl, _⟩ <;> rfl
  · refine ⟨_, pss_cons (ps_if (pt_cmpR op_isN (pv 0) pe_non (nomark _)) (pss_one (ps_ret (pe_lst pa_nil))) pss_nil)
      (pss_cons (ps_if (PW.pt (pw_or (pt_cmpR op_eq (pe_ix (r := rIxT K) ix_tup (pv 0) pe_int (fun _ _ => rfl)) pe_str (nomark _)) (pw_or1 (pt_cmpR op_eq (pe_ix (r := rIxT K) ix_tup (pv 0) pe_int (fun _ _ => rfl)) pe_str (nomark _))))) (pss_one (ps_ret (pe_lst (pa_cons (pv 0) pa_nil)))) pss_nil)
      (pss_one (ps_ret (pe_lc2 (own := [("term", 1), ("leaf", 2)]) (vs1 := [2]) (g := gName 1) (g1 := gName 2) (tt := tYes) (tt1 := tYes) (wi1 := iList K (tCall (spLvNR K r) [] E0 (tCons (tVar 1) tNil))) rfl scLeav.nd (pi_tup (pe_slice sl_tupA (pv 0) (po_some pe_int) po_none))
          (blkOk_by (own := [("term", 1), ("leaf", 2)]) (N := ["cond", "term", "leaf"]) (sc := defScope sLeav) (by decide +kernel)) (by decide)
          (fun _ _ _ _ _ => pg_name (i := 1) scLeav.nd rfl (Or.inl rfl)) (fun _ _ _ _ _ => pts_nil)
          (fun _ _ _ _ _ => pi_list (pe_call GB hr (by rfl) D.mg D.fn.kp D.bd .nil pass0 (pa_cons (pv 1) pa_nil)))
          (fun _ _ _ _ _ => pg_name (i := 2) scLeav.nd rfl (Or.inl rfl)) (fun _ _ _ _ _ => pts_nil)
          (fun _ _ _ _ _ => pv 2))))), ?_⟩
    rcases h with ⟨rfl, q⟩ | ⟨S, v, d, rfl, dz, fm, q⟩
    · exact ⟨_, rfl, rfl, true, rfl, iteT ⟨by show 0 ≤ sizeLine; decide, fun p np => q p np⟩⟩
    obtain ⟨n, rfl, fv⟩ := form_view fm
    obtain ⟨wd, t, ts, rfl, ways⟩ := names_ways fv
    obtain ⟨a, xs, rfl, hs, hd⟩ := dz_tup dz
    obtain ⟨x1, x2, ys, d1, d2, es, rfl, e, h1, h2, hts⟩ := dz_cons2 hd (by simp)
    cases e
    obtain rfl := dz_str h1
    refine ⟨_, rfl, rfl, false, rfl, iteF ?_⟩
    refine ⟨_, rfl, a, _, 0, _, rfl, rfl, hs, atI_nat (j := 0) rfl, rfl, _, rfl, ?_⟩
    show if eqW wd "lives" = true then _ else _
    have one : (eqW wd "lives" || eqW wd "childless") = true → ∀ p, H p = none → Q (.ref p) (upd H p (.lst [.ref a])) := fun hw p np => by
      rcases ways with ⟨_, z, rfl, _, e⟩ | ⟨hw2, _⟩
      · obtain rfl := dz_str h2
        refine q _ p _ (same_new np) np upd_same ?_
        rw [e]
        exact .cons ⟨a, _, rfl, (tk_new np).sq hs, rfl⟩ .nil
      · rw [hw] at hw2
        cases hw2
    by_cases c1 : eqW wd "lives" = true
    · rw [c1]
      exact iteT (iteT ⟨_, rfl, by show 1 ≤ sizeLine; decide, fun p np => one (by rw [c1]; rfl) p np⟩)
    have c1' : eqW wd "lives" = false := by simpa using c1
    rw [c1']
    refine iteF ⟨_, rfl, a, _, 0, _, rfl, rfl, hs, atI_nat (j := 0) rfl, rfl, _, rfl, ?_⟩
    show if eqW wd "childless" = true then _ else _
    by_cases c2 : eqW wd "childless" = true
    · rw [c2]
      exact iteT ⟨_, rfl, by show 1 ≤ sizeLine; decide, fun p np => one (by rw [c2]; exact Bool.or_true _) p np⟩
    have c2' : eqW wd "childless" = false := by simpa using c2
    rw [c2']
    rcases ways with ⟨hw, _⟩ | ⟨_, l6, all, en⟩
    · rw [c1', c2'] at hw
      cases hw
    rw [en] at q
    refine iteF ⟨_, rfl, 1, rfl, ?_⟩
    refine (show tNoPart _ H _ from cut_tup1 hs (by show 1 ≤ _; simp) (fun p H1 s1 sq => ?_))
    have sq : SqT K H1 p (x2 :: ys) := sq
    have ht1 : DzAll S K H1 (x2 :: ys) (t :: ts) := (DzAll.cons h2 hts).same s1
    have hl := ht1.len
    have lf : ∀ e ∈ t :: ts, (namesN n e).length ≤ 6 ^ 5 := fun e he => by
      rw [names_len (all e he)]
      exact Nat.le_trans (leaf_le (all e he)) (Nat.pow_le_pow_right (by decide) (by omega))
    clear fv fm dz one en hs hd h1 h2 hts
    revert sq ht1 hl q all l6 lf
    generalize x2 :: ys = zs
    generalize t :: ts = fs
    intro q l6 all sq ht1 hl lf
    refine ⟨p, rfl, ⟨zs, sq⟩, fun L nL => ?_⟩
    have part : ∀ i, i ≤ zs.length → (((fs.take i).map (namesN n)).flatten).length ≤ 46656 := fun i hi => by
      rw [List.length_flatten, List.map_map]
      have := sum_le (f := fun c => (namesN n c).length) (b := 6 ^ 5) (ds := fs.take i) fun d hd => lf d (List.mem_of_mem_take hd)
      have l : (fs.take i).length ≤ 6 := by rw [List.length_take]; omega
      have := Nat.mul_le_mul_right (6 ^ 5) l
      have e : (List.map (List.length ∘ namesN n) (fs.take i)) = (fs.take i).map fun c => (namesN n c).length := rfl
      rw [e]
      omega
    refine lc_outer (walk_tup (K := K) (a := p) (xs := zs)) (fun i H' => ∃ acc, H' L = some (.lst acc) ∧ A2 (LfAt K H') acc (((fs.take i).map (namesN n)).flatten) ∧ Same H1 H') ⟨[], upd_same, .nil, same_new nL⟩ (fun i H' _ ⟨_, _, _, s⟩ => (tk_same s).sq sq) ?_ ?_
    · rintro i x H2 _ hi ⟨acc, hL, al, s2⟩ ⟨rfl, hx⟩
      obtain ⟨e, he, dx⟩ := ht1.get hx
      have fe := all e (List.mem_of_getElem? he)
      refine ⟨rfl, tyes (iteT ⟨_, rfl, .inr ⟨S, x, e, rfl, dx.same s2, fe, fun H3 p3 ws s3 n3 h3 wl => ⟨p3, rfl, ⟨_, sqL h3⟩, ?_⟩⟩⟩)⟩
      have n3L : p3 ≠ L := (ne_of_none hL n3).symm
      have cat : A2 (LfAt K H3) (acc ++ ws) (((fs.take (i + 1)).map (namesN n)).flatten) := by
        rw [take_more he, List.map_append, List.flatten_append]
        simp only [List.map_cons, List.map_nil, List.flatten_cons, List.flatten_nil, List.append_nil]
        exact (lfs_tk al (tk_same s3)).append wl
      have t1 : (acc ++ ws).length ≤ 46656 := by
        rw [cat.len]
        exact part (i + 1) (by omega)
      rw [List.length_append] at t1
      refine lc_inner (walk_list (K := K) (a := p3) (xs := ws)) (fun j H' => H' L = some (.lst (acc ++ ws.take j)) ∧ H' p3 = some (.lst ws) ∧ Same H1 H' ∧ Tk H3 H') ⟨by rw [List.take_zero, List.append_nil]; exact s3 _ _ hL, h3, s2.trans s3, Tk.refl H3⟩ (fun j H' _ ⟨_, h, _, _⟩ => sqL h) ?_ ?_
      · rintro j y H4 _ hj ⟨hL4, h34, s4, t4⟩ ⟨rfl, hy⟩
        refine ⟨rfl, tyes (iteT ⟨_, rfl, _, hL4, Nat.lt_of_lt_of_le (show (acc ++ ws.take j).length < 50000 by rw [List.length_append, List.length_take]; omega) (by decide), ?_, by rw [upd_ne n3L]; exact h34, ((Bt.of_same (S := []) s4).upd0 nL).same, t4.trans (tk_lst hL4)⟩)⟩
        rw [upd_same, take_more hy, List.append_assoc]
      · rintro H4 ⟨hL4, h34, s4, t4⟩
        rw [List.take_length] at hL4
        exact ⟨_, hL4, lfs_tk cat t4, s4⟩
    · rintro H2 ⟨acc, hL, al, s2⟩
      rw [hl, List.take_length] at al
      exact q H2 L acc (s1.trans s2) (s1.free nL) hL al
theorem ok_lvN {f : Addr} {fd : FuncData} {k : Nat} (B : Bi mg) (D : Df K mg "leaves" sLeav f fd ["cond"]) : ∀ r, r ≤ 6 → FnOk P w K mg base CX0 (k + r + 1) f fd ["cond"] (spLvN K r)
  | 0, h => lvN_step h B D ⟨fun _ _ _ _ h => h.elim, fun _ _ _ _ _ _ _ _ _ _ _ _ _ h => h.elim⟩
  | r + 1, h => lvN_step (r := r + 1) h B D (ok_lvN B D r (by omega))
end
end WdQ

set_option Elab.async false
set_option linter.all false
set_option maxRecDepth 100000
set_option maxHeartbeats 4000000
set_option exponentiation.threshold 5000
namespace WdQ
open PySem PySem.Spec PyProof.Rows L2 WdM Wd
def kidB (z : Str) (r : Str × Option Str) : Bool := decide (r.2 = some z)
def kidsOf (rows : List (Str × Option Str)) (z : Str) : List Str := (rows.filter (kidB z)).map Prod.fst
theorem kid_eq (z : Str) (r : Str × Option Str) : decide (parV r.2 = V.str z) = kidB z r := by
  unfold kidB
  cases r.2 with
  | none => rfl
  | some y =>
    by_cases e : y = z
    · subst e; simp [parV]
    · rw [decide_eq_false (fun h => e (Option.some.inj h)), decide_eq_false]
      intro h
      cases h
      exact e rfl
section
variable {P : Program} {w : World} {K : PySem.W.Frag} {mg : Str → Option Value} {base : Heap} {CH CY : Addr}
def spPers (K : PySem.W.Frag) (CH : Addr) : Sp := fun vs H Q _ => ∃ (o : Addr) (z : Str) (rows : List (Str × Option Str)), vs = [.ref o, .str z] ∧ HomeAt K CH H o rows ∧ z ∈ rows.map Prod.fst ∧ ∀ H' a, Same H H' → Q (.ref a) H'
theorem ok_pers {f fR : Addr} {fd fdR : FuncData} {k : Nat} (T : HsF K CH) (F : Fun K "person" "House.person" sPers f fd) (DR : Df K mg "row_named" sRow fR fdR ["rows", "name"]) (GR : FnOk P w K mg base CX0 (k + 2) fR fdR ["rows", "name"] (spRow K)) : FnOk P w K mg base CX0 (k + 3) f fd ["self", "name"] (spPers K CH) := by
  refine F.ok scPers (fun vs H Q E h => ?_) (fun cdv A outer s H vs Q E hr h => ?_)
  · obtain ⟨o, z, rows, rfl, _⟩ := h
    rfl
  · obtain ⟨o, z, rows, rfl, ⟨dx, v, t, ho, hv, gf, ht⟩, zm, q⟩ := h
    refine ⟨_, pss_cons (ps_set (i := 2) scPers.nd rfl (.inl rfl) (pe_call GR hr (by rfl) DR.mg DR.fn.kp DR.bd .nil pass0 (pa_cons (pe_fld (pv 0) rfl) (pa_cons (pv 1) pa_nil))))
      (pss_cons (ps_if (pt_cmpR op_isN (pv 2) pe_non (nomark _)) pss_noS pss_nil) (pss_one (ps_ret (pv 2)))), ?_⟩
    refine ⟨_, rfl, o, CH, dx, _, _, rfl, ho, T.cl, T.n1, rfl, _, rfl, v, z, rows, rfl, hv, zm, fun H1 a r s1 _ _ _ => ?_⟩
    exact ⟨_, rfl, rfl, false, rfl, iteF ⟨_, rfl, q H1 a s1⟩⟩
def spKids (K : PySem.W.Frag) (CH : Addr) : Sp := fun vs H Q _ => ∃ (o : Addr) (z : Str) (rows : List (Str × Option Str)), vs = [.ref o, .str z] ∧ HomeAt K CH H o rows ∧ z ∈ rows.map Prod.fst ∧ ∀ H' t, Same H H' → SqT K H' t ((kidsOf rows z).map V.str) → Q (.ref t) H'
theorem ok_kids {f fP : Addr} {fd fdP : FuncData} {k : Nat} (B : Bi mg) (T : HsF K CH) (F : Fun K "children" "House.children" sChi f fd) (MP : Meth K CH "person" fP) (bP : Binds K fdP ["self", "name"] []) (GP : FnOk P w K mg base CX0 (k + 3) fP fdP ["self", "name"] (spPers K CH)) :
    FnOk P w K mg base CX0 (k + 4) f fd ["self", "name"] (spKids K CH) := by
  refine F.ok scChi (fun vs H Q E h => ?_) (fun cdv A outer s H vs Q E hr h => ?_)
  · obtain ⟨o, z, rows, rfl, _⟩ := h
    rfl
  · obtain ⟨o, z, rows, rfl, hh, zm, q⟩ := h
    refine ⟨_, pss_cons (ps_expr (pe_meth (pv 0) T.cl MP GP hr bP .nil pass0 (pa_cons (pv 1) pa_nil)))
      (pss_one (ps_ret (pe_callTy call_tuple_of (by rfl) B.tuple boot_tuple (pa_cons (pe_lc (own := [("row", 2)]) (g := gName 2) rfl scChi.nd (pi_tup (pe_fld (pv 0) rfl)) (blkOk_by (own := [("row", 2)]) (N := ["self", "name", "row"]) (sc := defScope sChi) (by decide +kernel))
        (fun _ _ _ _ _ => pg_name (i := 2) scChi.nd rfl (Or.inl rfl)) (fun _ _ _ _ _ => pts_one (pt_cmpR op_eq (pe_ix (r := rIxT K) ix_tup (pv 2) pe_int (fun _ _ => rfl)) (pv 1) (nomark _))) (fun _ _ _ _ _ => pe_ix (r := rIxT K) ix_tup (pv 2) pe_int (fun _ _ => rfl))) pa_nil)))), ?_⟩
    have hh0 := hh
    obtain ⟨dx, v, tt, ho, _, gf, _⟩ := hh
    refine ⟨_, rfl, o, dx, _, rfl, ho, rfl, _, rfl, o, z, rows, rfl, hh0, zm, fun H1 a1 s1 => ?_⟩
    obtain ⟨dx1, v1, tt1, ho1, ⟨t, xs, rfl, ht, xl, hx⟩, gf1, _⟩ := hh0.same s1
    have l8 := gf.l8
    refine ⟨_, rfl, o, CH, dx1, _, _, rfl, ho1, T.cl, T.n1, rfl, t, rfl, ⟨_, ht⟩, fun L nL => lc_tup (K := K) (a := t) (xs := xs) (fun j H' => H' L = some (.lst ((kidsOf (rows.take j) z).map V.str)) ∧ Same H1 H') ⟨upd_same, same_new nL⟩ (fun j H' _ h => (tk_same h.2).sq ht) ?_ ?_⟩
    · rintro j x H5 hx5 ⟨hL, s5⟩
      obtain ⟨ra, r, rfl, hr5, hra⟩ := hx j x hx5
      have jl := lt_get hx5
      have hr6 : SqT K H5 ra [.str r.1, parV r.2] := (tk_same s5).sq hra
      have fl : ((rows.take j).filter (kidB z)).length ≤ 8 := by
        have := List.length_filter_le (kidB z) (rows.take j)
        rw [List.length_take] at this
        omega
      refine ⟨rfl, _, rfl, ra, _, 1, parV r.2, rfl, rfl, hr6, atI_nat (j := 1) rfl, _, rfl, by cases r.2 <;> rfl, _, rfl, ?_⟩
      rw [kid_eq]
      by_cases e : kidB z r = true
      · rw [e]
        refine iteT ⟨_, rfl, ra, _, 0, .str r.1, rfl, rfl, hr6, atI_nat (j := 0) rfl, _, hL, ?_, ?_, ((Bt.of_same (S := []) s5).upd0 nL).same⟩
        · rw [List.length_map]
          unfold kidsOf
          rw [List.length_map]
          exact small1000 (by omega)
        · rw [upd_same, take_more hr5]
          unfold kidsOf
          rw [List.filter_append, List.filter_cons_of_pos e, List.map_append, List.map_append]
          rfl
      · rw [show kidB z r = false by simpa using e]
        refine iteF ⟨?_, s5⟩
        rw [hL, take_more hr5]
        unfold kidsOf
        rw [List.filter_append, List.filter_cons_of_neg e, List.filter_nil, List.append_nil]
    · rintro H5 ⟨hL, s5⟩
      rw [xl, List.take_length] at hL
      exact ⟨L, _, rfl, .inl ⟨sqL hL, fun tp ntp => q _ tp ((s1.trans s5).trans (same_new ntp)) (sqT upd_same)⟩⟩
end
end WdQ

set_option Elab.async false
set_option linter.all false
set_option maxRecDepth 100000
set_option maxHeartbeats 4000000
set_option exponentiation.threshold 5000
namespace WdQ
open PySem PySem.Spec PyProof.Rows L2 WdM Wd
abbrev leTail : List Value := [.type "LookupError", .type "Exception", .type "BaseException", .type "object"]
/-- what the top has written of an own error of the family of LookupError, with one field -/
structure ErL (K : PySem.W.Frag) (mg : Str → Option Value) (x fld : Str) (C fI CW : Addr) : Prop where
  o : OexT "LookupError.__new__" leTail K C
  no : PySem.W.findIn K (.ref C) fld = some none
  i : PySem.W.findIn K (.ref C) "__init__" = some (some (.ref fI))
  t : PySem.W.typeIn K (.ref fI) = some (.type "function")
  g : mg x = some (.ref C)
  m : PySem.W.exmOne K (.ref C) (.ref CW) = some true
  c : ExcC K C
  f : XfC K C
abbrev sEPer : Stmt := inClass (topS 10) 0
abbrev sCN : Stmt := topS 45
theorem scEPer : FnScope ["self", "name"] ["self", "name"] (defScope sEPer) := ⟨rfl, rfl, rfl, by decide +kernel, rfl, by decide +kernel, by decide +kernel⟩
theorem scCN : FnScope ["cond", "leaf"] ["cond"] (defScope sCN) := ⟨rfl, rfl, rfl, by decide +kernel, rfl, by decide +kernel, by decide +kernel⟩
/-- the first of the names that isn't there -/
def missN (ns zs : List Str) : Option Str := zs.find? fun z => !inV (.str z) (ns.map V.str)
theorem miss_drop {ns zs : List Str} {i : Nat} {z : Str} (h : zs[i]? = some z) : missN ns (zs.drop i) = if inV (.str z) (ns.map V.str) = true then missN ns (zs.drop (i + 1)) else some z := by
  obtain ⟨hi, e⟩ := List.getElem?_eq_some_iff.mp h
  rw [List.drop_eq_getElem_cons hi, e]
  unfold missN
  rw [List.find?_cons]
  cases inV (.str z) (ns.map V.str) <;> rfl
section
variable {P : Program} {w : World} {K : PySem.W.Frag} {mg : Str → Option Value} {base : Heap} {CH CY CP fE CL : Addr}
theorem ok_ePer {fd : FuncData} {k : Nat} (T : ErL K mg "NoPerson" "name" CP fE CL) (F : Fun K "__init__" "NoPerson.__init__" sEPer fE fd) : FnOk P w K mg base CX0 (k + 1) fE fd ["self", "name"] (spInitE CP "name") := by
  refine F.ok scEPer (fun vs H Q E h => ?_) (fun cdv A outer s H vs Q E hr h => ?_)
  · obtain ⟨a, y, rfl, _⟩ := h
    rfl
  · obtain ⟨a, y, rfl, ha, q⟩ := h
    exact ⟨_, pss_one (ps_osT fam_lookup (pv 0) (pv 1)), y, rfl, .ref a, rfl, a, CP, rfl, T.o, T.no, ha, fun dx h1 h2 => q dx h1 h2⟩
def spCkP (K : PySem.W.Frag) (CH CP : Addr) : Sp := fun vs H Q E => ∃ (o L : Addr) (rows : List (Str × Option Str)) (zs : List Str), vs = [.ref o, .ref L] ∧ HomeAt K CH H o rows ∧ H L = some (.lst (zs.map V.str)) ∧
  (missN (rows.map Prod.fst) zs = none → ∀ H', Same H H' → Q .non H') ∧ (∀ z, missN (rows.map Prod.fst) zs = some z → ∀ H' dd, Same H H' → H' dd = none → E (.ref CP) (some dd) (upd H' dd (.xd [("name", .str z)])))
theorem ok_ckP {f fP : Addr} {fd fdP fdI : FuncData} {k : Nat} (T : HsF K CH) (TP : ErL K mg "NoPerson" "name" CP fE CL) (FI : Fun K "__init__" "NoPerson.__init__" sEPer fE fdI) (bI : Binds K fdI ["self", "name"] []) (D : Df K mg "check_persons" sCkP f fd ["house", "names"])
    (MP : Meth K CH "people" fP) (bP : Binds K fdP ["self"] []) (GP : FnOk P w K mg base CX0 (k + 1) fP fdP ["self"] (spPeo K CH)) : FnOk P w K mg base (L2.CX P w) (k + 3) f fd ["house", "names"] (spCkP K CH CP) := by
  have GI : FnOk P w K mg base CX0 (k + 1) fE fdI ["self", "name"] (spInitE CP "name") := ok_ePer (k := k) TP FI
  refine D.fn.okX scCkP (fun vs H Q E h => ?_) (fun cdv A outer s H vs Q E hr h => ?_)
  · obtain ⟨o, L, rows, zs, rfl, _⟩ := h
    rfl
  · obtain ⟨o, L, rows, zs, rfl, hh, hL, q, x⟩ := h
    refine ⟨_, pss_cons (ps_set (i := 2) scCkP.nd rfl (.inl rfl) (pe_meth0 (pv 0) T.cl MP GP (hr.mono (by omega)) bP .nil pass0))
      (pss_one (ps_for (passes_of rfl) rfl (pi_list (pv 1)) (pg_name (i := 3) scCkP.nd rfl (.inl rfl))
        (pss_one (ps_if (pt_cmpR (r := rIn K true) op_notIn_seq (pv 3) (pv 2) (by rfl))
          (pss_one (ps_raise rfl (takes_of rfl rfl rfl rfl) (pmk_T fam_lookup TP.o TP.i TP.t GI hr bI .nil pass0 (by rfl) TP.g (pa_cons (pv 3) pa_nil)))) pss_nil)))), ?_⟩
    have hh0 := hh
    obtain ⟨dx, v, tt, ho, _, gf, _⟩ := hh
    refine ⟨_, rfl, o, dx, _, rfl, ho, rfl, o, rows, rfl, hh0, fun H1 t s1 ht => ?_⟩
    refine ⟨_, rfl, L, rfl, ⟨_, sqL (s1 _ _ hL)⟩, for_list (K := K) (a := L) (xs := zs.map V.str) (fun i σ H' => (∃ y, σ = [some (.ref o), some (.ref L), some (.ref t), y]) ∧ missN (rows.map Prod.fst) zs = missN (rows.map Prod.fst) (zs.drop i) ∧ Same H1 H') ⟨⟨none, rfl⟩, rfl, Same.refl H1⟩ (fun i σ H' _ h => sqL (h.2.2 _ _ (s1 _ _ hL))) ?_ ?_⟩
    · rintro i x' σ H2 hx2 ⟨⟨y, rfl⟩, em, s2⟩
      obtain ⟨z, hz, rfl⟩ : ∃ z, zs[i]? = some z ∧ x' = .str z := by
        rw [List.getElem?_map] at hx2
        cases hc : zs[i]? with
        | none => rw [hc] at hx2; cases hx2
        | some z => rw [hc] at hx2; cases hx2; exact ⟨z, rfl, rfl⟩
      refine ⟨_, rfl, _, rfl, t, _, rfl, .inr ((tk_same s2).sq ht), rfl, flatS _, _, rfl, ?_⟩
      rw [miss_drop hz] at em
      cases c : inV (.str z) ((rows.map Prod.fst).map V.str) with
      | true =>
        rw [if_pos c] at em
        exact iteF ⟨⟨_, rfl⟩, em, s2⟩
      | false =>
        rw [if_neg (by rw [c]; decide)] at em
        exact iteT (raise_var rfl fun dd hd => x z em H2 dd (s1.trans s2) hd)
    · rintro σ H2 ⟨⟨y, rfl⟩, em, s2⟩
      rw [List.length_map, List.drop_length] at em
      exact q em H2 (s1.trans s2)
/-! ### the names of a condition, in a list -/
def spCN (K : PySem.W.Frag) : Sp := fun vs H Q _ => ∃ (v : V) (zs : List Str), vs = [v] ∧ ((v = .non ∧ zs = []) ∨ ∃ (S : List Addr) (d : PyData), Dz S K H v d ∧ formB 6 d = true ∧ zs = namesN 6 d) ∧ ∀ H' p, Same H H' → H p = none → H' p = some (.lst (zs.map V.str)) → Q (.ref p) H'
theorem ok_CN {f fL : Addr} {fd fdL : FuncData} {k : Nat} (B : Bi mg) (D : Df K mg "cond_names" sCN f fd ["cond"]) (DL : Df K mg "leaves" sLeav fL fdL ["cond"]) : FnOk P w K mg base CX0 (k + 8) f fd ["cond"] (spCN K) := by
  have GL : FnOk P w K mg base CX0 (k + 7) fL fdL ["cond"] (spLvN K 6) := ok_lvN (k := k) B DL 6 (by decide)
  refine D.fn.ok scCN (fun vs H Q E h => ?_) (fun cdv A outer s H vs Q E hr h => ?_)
  · obtain ⟨v, zs, rfl, _⟩ := h
    rfl
  · obtain ⟨v, zs, rfl, hv, q⟩ := h
    refine ⟨_, pss_one (ps_ret (pe_lc (own := [("leaf", 1)]) (g := gName 1) (tt := tYes) rfl scCN.nd (pi_list (pe_call GL hr (by rfl) DL.mg DL.fn.kp DL.bd .nil pass0 (pa_cons (pv 0) pa_nil))) (blkOk_by (own := [("leaf", 1)]) (N := ["cond", "leaf"]) (sc := defScope sCN) (by decide +kernel))
        (fun _ _ _ _ _ => pg_name (i := 1) scCN.nd rfl (Or.inl rfl)) (fun _ _ _ _ _ => pts_nil) (fun _ _ _ _ _ => pe_ix (r := rIxT K) ix_tup (pv 1) pe_int (fun _ _ => rfl)))), ?_⟩
    rcases hv with ⟨rfl, rfl⟩ | ⟨S, d, dz, fm, rfl⟩
    · refine ⟨_, rfl, .inl ⟨rfl, fun p np => ⟨p, rfl, ⟨_, sqL upd_same⟩, fun L nL => ?_⟩⟩⟩
      refine lc_list (K := K) (a := p) (xs := []) (fun j H' => H' L = some (.lst []) ∧ Same (upd H p (.lst [])) H') ⟨upd_same, same_new nL⟩ (fun j H' _ h => sqL (h.2 _ _ upd_same)) ?_ ?_
      · rintro j x H5 hx5 _
        cases hx5
      · rintro H5 ⟨hL, s5⟩
        exact q H5 L ((same_new np).trans s5) ((same_new np).free nL) hL
    · refine ⟨_, rfl, .inr ⟨S, v, d, rfl, dz, fm, fun H1 p xs s1 np hp al => ⟨p, rfl, ⟨_, sqL hp⟩, fun L nL => ?_⟩⟩⟩
      have zl : (namesN 6 d).length ≤ 46656 := by rw [names_len fm]; exact leaf_le fm
      revert al q zl
      generalize namesN 6 d = zs
      intro q al zl
      refine lc_list (K := K) (a := p) (xs := xs) (fun j H' => H' L = some (.lst ((zs.take j).map V.str)) ∧ Same H1 H') ⟨upd_same, same_new nL⟩ (fun j H' _ h => sqL (h.2 _ _ hp)) ?_ ?_
      · rintro j x H5 hx5 ⟨hL, s5⟩
        obtain ⟨z, hz, a, ws, rfl, hs, h1⟩ := al.get hx5
        refine ⟨rfl, tyes (iteT ⟨_, rfl, a, ws, 1, .str z, rfl, rfl, (tk_same s5).sq hs, atI_nat (j := 1) h1, _, hL, ?_, ?_, ((Bt.of_same (S := []) s5).upd0 nL).same⟩)⟩
        · rw [List.length_map, List.length_take]
          exact Nat.lt_of_lt_of_le (show _ < 50000 by omega) (by decide)
        · rw [upd_same, take_more hz, List.map_append]
          rfl
      · rintro H5 ⟨hL, s5⟩
        rw [al.len, List.take_length] at hL
        exact q H5 L (s1.trans s5) (s1.free nL) hL
end
end WdQ

set_option Elab.async false
set_option linter.all false
set_option maxRecDepth 100000
set_option maxHeartbeats 4000000
set_option exponentiation.threshold 5000
namespace WdQ
open PySem PySem.Spec PyProof.Rows L2 WdM Wd
abbrev sHC : Stmt := topS 48
def nHC : List Str := ["house", "cond", "story", "wait", "word", "child", "told", "term"]
theorem scHC : FnScope nHC ["house", "cond", "story", "wait"] (defScope sHC) := ⟨rfl, rfl, rfl, by decide +kernel, rfl, by decide +kernel, by decide +kernel⟩
/-! ### when a condition comes -/
def comeL (F : List (Str × Option Str)) (D : List (Str × Int)) (m : Int) (f : PyData → Bool) (w : Str) (ts : List PyData) : Bool :=
  if eqW w "lives" = true then (match ts with | [.str z] => aliveB D z m | [.str z, .int i] => aliveB D z i | _ => false) else
  if eqW w "childless" = true then (match ts with | [.str z] => !((kidsOf F z).any fun y => aliveB D y m) | _ => false) else
  if eqW w "not" = true then (match ts with | [c] => !f c | _ => false) else if eqW w "and" = true then ts.all f else ts.any f
def comeN (F : List (Str × Option Str)) (D : List (Str × Int)) (m : Int) : Nat → PyData → Bool
  | 0, _ => false
  | r + 1, .tuple (.str w :: ts) => comeL F D m (comeN F D m r) w ts
  | _ + 1, _ => false
section
variable {F : List (Str × Option Str)} {D : List (Str × Int)} {m : Int} {q : Nat}
theorem come_liv {z : Str} : comeN F D m (q + 1) (.tuple [.str "lives", .str z]) = aliveB D z m := by
  show comeL F D m _ "lives" [.str z] = _
  unfold comeL
  rw [if_pos (by decide)]
theorem come_livAt {z : Str} {i : Int} : comeN F D m (q + 1) (.tuple [.str "lives", .str z, .int i]) = aliveB D z i := by
  show comeL F D m _ "lives" [.str z, .int i] = _
  unfold comeL
  rw [if_pos (by decide)]
theorem come_chl {z : Str} : comeN F D m (q + 1) (.tuple [.str "childless", .str z]) = !((kidsOf F z).any fun y => aliveB D y m) := by
  show comeL F D m _ "childless" [.str z] = _
  unfold comeL
  rw [if_neg (by decide), if_pos (by decide)]
theorem come_neg {c : PyData} : comeN F D m (q + 1) (.tuple [.str "not", c]) = !comeN F D m q c := by
  show comeL F D m _ "not" [c] = _
  unfold comeL
  rw [if_neg (by decide), if_neg (by decide), if_pos (by decide)]
theorem come_and {cs : List PyData} : comeN F D m (q + 1) (.tuple (.str "and" :: cs)) = cs.all (comeN F D m q) := by
  show comeL F D m _ "and" cs = _
  unfold comeL
  rw [if_neg (by decide), if_neg (by decide), if_neg (by decide), if_pos (by decide)]
theorem come_or {cs : List PyData} : comeN F D m (q + 1) (.tuple (.str "or" :: cs)) = cs.any (comeN F D m q) := by
  show comeL F D m _ "or" cs = _
  unfold comeL
  rw [if_neg (by decide), if_neg (by decide), if_neg (by decide), if_neg (by decide)]
end
theorem kids_nm {rows : List (Str × Option Str)} (g : GoodF rows) {z y : Str} (h : y ∈ kidsOf rows z) : nmB y = true := by
  obtain ⟨r, hr, rfl⟩ := List.mem_map.mp h
  exact (g.nm r (List.mem_filter.mp hr).1).name
theorem kids_len (rows : List (Str × Option Str)) (z : Str) : (kidsOf rows z).length ≤ rows.length := by
  unfold kidsOf
  rw [List.length_map]
  exact List.length_filter_le _ _
section
variable {P : Program} {w : World} {K : PySem.W.Frag} {mg : Str → Option Value} {base : Heap} {CH CY : Addr}
def spHC (K : PySem.W.Frag) (CH CY : Addr) (r : Nat) : Sp := fun vs H Q _ => ∃ (S : List Addr) (ho so : Addr) (v : V) (d : PyData) (m : Int) (F : List (Str × Option Str)) (D : List (Str × Int)), vs = [.ref ho, v, .ref so, .int m] ∧ HomeAt K CH H ho F ∧ StoryAt K CY H so D ∧ Dz S K H v d ∧ formB r d = true ∧
  (∀ z ∈ namesN r d, z ∈ F.map Prod.fst) ∧ -9999 ≤ m ∧ m ≤ 9999 ∧ ∀ H', Same H H' → Q (.bl (comeN F D m r d)) H'
def spHCR (K : PySem.W.Frag) (CH CY : Addr) : Nat → Sp
  | 0 => fun _ _ _ _ => False
  | r + 1 => spHC K CH CY r
theorem hc_step {f fK fL : Addr} {fd fdK fdL : FuncData} {k r : Nat} (B : Bi mg) (TH : HsF K CH) (TY : SyF K CY) (D : Df K mg "has_come" sHC f fd ["house", "cond", "story", "wait"])
    (MK : Meth K CH "children" fK) (bK : Binds K fdK ["self", "name"] []) (GK : FnOk P w K mg base CX0 (k + 4) fK fdK ["self", "name"] (spKids K CH))
    (ML : Meth K CY "lives" fL) (bL : Binds K fdL ["self", "name", "more"] []) (GL : FnOk P w K mg base CX0 (k + 3) fL fdL ["self", "name", "more"] (spLiv K CY))
    (GB : FnOk P w K mg base CX0 (k + 4 + r) f fd ["house", "cond", "story", "wait"] (spHCR K CH CY r)) : FnOk P w K mg base CX0 (k + 4 + r + 1) f fd ["house", "cond", "story", "wait"] (spHC K CH CY r) := by
  refine D.fn.ok scHC (fun vs H Q E h => ?_) (fun cdv A outer s H vs Q E hr h => ?_)
  · obtain ⟨S, ho, so, v, d, m, F, Dd, rfl, _⟩ := h
    rfl
  · obtain ⟨S, ho, so, v, d, m, F, Dd, rfl, hH, hY, dz, fm, nin, m0, m1, q⟩ := h
    have r4 : Room (k + 4) _ := hr.mono (by omega)
    have r3 : Room (k + 3) _ := hr.mono (by omega)
    refine ⟨_, pss_cons (ps_set (i := 4) scHC.nd rfl (.inl rfl) (pe_ix (r := rIxT K) ix_tup (pv 1) pe_int (fun _ _ => rfl)))
      (pss_cons (ps_if (pt_cmpR op_eq (pv 4) pe_str (nomark _)) (pss_one (ps_ret (pe_meth (pv 2) TY.cl ML GL r3 bL .nil pass0 (pa_cons (pe_ix (r := rIxT K) ix_tup (pv 1) pe_int (fun _ _ => rfl)) (pa_cons (pe_ifExp (pt_cmpR op_eq (pe_callB call_len_seq (by rfl) B.len PySem.boot_len (pa_cons (pv 1) pa_nil)) pe_int (nomark _)) (pe_ix (r := rIxT K) ix_tup (pv 1) pe_int (fun _ _ => rfl)) (pv 3)) pa_nil))))) pss_nil)
      (pss_cons (ps_if (pt_cmpR op_eq (pv 4) pe_str (nomark _)) (pss_one (ps_ret (pe_not (pe_callB (cr_any rfl) (by rfl) B.any (by decide +kernel) (pa_cons (pe_lc (own := [("child", 5)]) (g := gName 5) (tt := tYes) rfl scHC.nd (pi_tup (pe_meth (pv 0) TH.cl MK GK r4 bK .nil pass0 (pa_cons (pe_ix (r := rIxT K) ix_tup (pv 1) pe_int (fun _ _ => rfl)) pa_nil))) (blkOk_by (own := [("child", 5)]) (N := nHC) (sc := defScope sHC) (by decide +kernel))
          (fun _ _ _ _ _ => pg_name (i := 5) scHC.nd rfl (Or.inl rfl)) (fun _ _ _ _ _ => pts_nil) (fun _ _ _ _ _ => pe_meth (pv 2) TY.cl ML GL r3 bL .nil pass0 (pa_cons (pv 5) (pa_cons (pv 3) pa_nil)))) pa_nil))))) pss_nil)
      (pss_cons (ps_setLc (i := 6) (own := [("term", 7)]) (g := gName 7) (tt := tYes) rfl scHC.nd rfl rfl (sw_true rfl rfl rfl (by decide +kernel)) (pi_tup (pe_slice sl_tupA (pv 1) (po_some pe_int) po_none)) (blkOk_by (own := [("term", 7)]) (N := nHC) (sc := defScope sHC) (by decide +kernel))
          (fun _ _ _ _ _ => pg_name (i := 7) scHC.nd rfl (Or.inl rfl)) (fun _ _ _ _ _ => pts_nil) (fun _ _ _ _ _ => pe_call GB hr (by rfl) D.mg D.fn.kp D.bd .nil pass0 (pa_cons (pv 0) (pa_cons (pv 7) (pa_cons (pv 2) (pa_cons (pv 3) pa_nil))))))
      (pss_cons (ps_if (pt_cmpR op_eq (pv 4) pe_str (nomark _)) (pss_one (ps_ret (pe_not (pe_ix (r := rIxL K) ix_list (pv 6) pe_int (fun _ _ => rfl))))) pss_nil)
      (pss_one (ps_ret (pe_ifExp (pt_cmpR op_eq (pv 4) pe_str (nomark _)) (pe_callB (cr_all rfl) (by rfl) B.all (by decide +kernel) (pa_cons (pv 6) pa_nil)) (pe_callB (cr_any rfl) (by rfl) B.any (by decide +kernel) (pa_cons (pv 6) pa_nil))))))))), ?_⟩
    obtain ⟨n, rfl, fv⟩ := form_view fm
    obtain ⟨dxY, vY, hoY, dhY, gdY⟩ := id hY
    obtain ⟨dxH, vH, ttH, hoH, _, gfH, _⟩ := id hH
    cases fv with
    | liv z hz =>
      obtain ⟨a, xs, rfl, hs, hd⟩ := dz_tup dz
      obtain ⟨x1, x2, ys, d1, d2, es, rfl, e, h1, h2, hts⟩ := dz_cons2 hd (by simp)
      cases e
      obtain rfl := dz_str h1
      obtain rfl := dz_str h2
      cases hts
      rw [come_liv] at q
      refine ⟨_, rfl, a, _, 0, _, rfl, rfl, hs, atI_nat (j := 0) rfl, _, rfl, rfl, true, rfl, iteT ?_⟩
      refine ⟨_, rfl, so, dxY, _, rfl, hoY, rfl, _, rfl, a, _, 1, .str z, rfl, rfl, hs, atI_nat (j := 1) rfl, _, rfl, a, _, rfl, .inr hs, rfl, false, rfl, iteF ⟨_, rfl, ?_⟩⟩
      exact ⟨so, z, m, Dd, rfl, hY, hz, m0, m1, fun H' s1 => q H' s1⟩
    | livAt z i hz i0 i1 =>
      obtain ⟨a, xs, rfl, hs, hd⟩ := dz_tup dz
      obtain ⟨x1, x2, ys, d1, d2, es, rfl, e, h1, h2, hts⟩ := dz_cons2 hd (by simp)
      cases e
      obtain rfl := dz_str h1
      obtain rfl := dz_str h2
      cases hts with
      | cons h3 h4 =>
      cases h4
      cases h3
      rw [come_livAt] at q
      refine ⟨_, rfl, a, _, 0, _, rfl, rfl, hs, atI_nat (j := 0) rfl, _, rfl, rfl, true, rfl, iteT ?_⟩
      refine ⟨_, rfl, so, dxY, _, rfl, hoY, rfl, _, rfl, a, _, 1, .str z, rfl, rfl, hs, atI_nat (j := 1) rfl, _, rfl, a, _, rfl, .inr hs, rfl, true, rfl, iteT ⟨_, rfl, a, _, 2, .int i, rfl, rfl, hs, atI_nat (j := 2) rfl, ?_⟩⟩
      exact ⟨so, z, i, Dd, rfl, hY, hz, i0, i1, fun H' s1 => q H' s1⟩
    | chl z hz =>
      obtain ⟨a, xs, rfl, hs, hd⟩ := dz_tup dz
      obtain ⟨x1, x2, ys, d1, d2, es, rfl, e, h1, h2, hts⟩ := dz_cons2 hd (by simp)
      cases e
      obtain rfl := dz_str h1
      obtain rfl := dz_str h2
      cases hts
      rw [come_chl] at q
      have zin : z ∈ F.map Prod.fst := nin z (by show z ∈ [z]; simp)
      refine ⟨_, rfl, a, _, 0, _, rfl, rfl, hs, atI_nat (j := 0) rfl, _, rfl, rfl, false, rfl, iteF ⟨_, rfl, rfl, true, rfl, iteT ?_⟩⟩
      refine ⟨_, rfl, ho, dxH, _, rfl, hoH, rfl, _, rfl, a, _, 1, .str z, rfl, rfl, hs, atI_nat (j := 1) rfl, ho, z, F, rfl, hH, zin, fun H1 t s1 ht => ⟨t, rfl, ⟨_, ht⟩, fun L nL => ?_⟩⟩
      have kl := kids_len F z
      have l8 := gfH.l8
      refine lc_tup (K := K) (a := t) (xs := (kidsOf F z).map V.str) (fun j H' => H' L = some (.lst ((((kidsOf F z).take j).map fun y => aliveB Dd y m).map V.bl)) ∧ Same H1 H') ⟨upd_same, same_new nL⟩ (fun j H' _ h => (tk_same h.2).sq ht) ?_ ?_
      · rintro j x H5 hx5 ⟨hL, s5⟩
        obtain ⟨y, hy, rfl⟩ : ∃ y, (kidsOf F z)[j]? = some y ∧ x = .str y := by
          rw [List.getElem?_map] at hx5
          cases hc : (kidsOf F z)[j]? with
          | none => rw [hc] at hx5; cases hx5
          | some y => rw [hc] at hx5; cases hx5; exact ⟨y, rfl, rfl⟩
        have s15 := s1.trans s5
        refine ⟨rfl, tyes (iteT ⟨_, rfl, so, dxY, _, rfl, s15 _ _ hoY, rfl, _, rfl, _, rfl, so, y, m, Dd, rfl, hY.same s15, kids_nm gfH (List.mem_of_getElem? hy), m0, m1, fun H6 s6 => ⟨_, s6 _ _ hL, ?_, ?_, ?_⟩⟩)⟩
        · rw [List.length_map, List.length_map, List.length_take]
          exact small1000 (by omega)
        · rw [upd_same, take_more hy, List.map_append, List.map_append]
          rfl
        · exact ((Bt.of_same (S := []) (s5.trans s6)).upd0 nL).same
      · rintro H5 ⟨hL, s5⟩
        rw [List.length_map, List.take_length] at hL
        refine ⟨L, _, rfl, sqL hL, _, rfl, ?_⟩
        rw [show (((kidsOf F z).map fun y => aliveB Dd y m).any id) = (kidsOf F z).any fun y => aliveB Dd y m by rw [List.any_map]; rfl]
        exact q H5 (s1.trans s5)
    | neg c hc =>
      obtain ⟨a, xs, rfl, hs, hd⟩ := dz_tup dz
      obtain ⟨x1, x2, ys, d1, d2, es, rfl, e, h1, h2, hts⟩ := dz_cons2 hd (by simp)
      cases e
      obtain rfl := dz_str h1
      cases hts
      rw [come_neg] at q
      rw [names_neg] at nin
      refine ⟨_, rfl, a, _, 0, _, rfl, rfl, hs, atI_nat (j := 0) rfl, _, rfl, rfl, false, rfl, iteF ⟨_, rfl, rfl, false, rfl, iteF ?_⟩⟩
      refine ⟨_, rfl, 1, rfl, ?_⟩
      refine (show tNoPart _ H _ from cut_tup1 hs (by show 1 ≤ _; simp) (fun p H1 s1 sq => ?_))
      have sq : SqT K H1 p [x2] := sq
      refine ⟨p, rfl, ⟨_, sq⟩, fun L nL => ?_⟩
      refine lc_tup (K := K) (a := p) (xs := [x2]) (fun j H' => H' L = some (.lst ((([c].take j).map (comeN F Dd m n)).map V.bl)) ∧ Same H1 H') ⟨upd_same, same_new nL⟩ (fun j H' _ h => (tk_same h.2).sq sq) ?_ ?_
      · rintro j x H5 hx5 ⟨hL, s5⟩
        obtain rfl : j = 0 := by have := lt_get hx5; simpa using this
        cases hx5
        have s15 := s1.trans s5
        refine ⟨rfl, tyes (iteT ⟨_, rfl, _, rfl, _, rfl, _, rfl, S, ho, so, x2, c, m, F, Dd, rfl, hH.same s15, hY.same s15, h2.same s15, hc, nin, m0, m1, fun H6 s6 => ⟨_, s6 _ _ hL, small1000 (by simp), upd_same, ((Bt.of_same (S := []) (s5.trans s6)).upd0 nL).same⟩⟩)⟩
      · rintro H5 ⟨hL, s5⟩
        exact ⟨_, rfl, rfl, true, rfl, iteT ⟨_, rfl, L, _, 0, _, rfl, rfl, sqL hL, atI_nat (j := 0) rfl, _, rfl, q H5 (s1.trans s5)⟩⟩
    | row b c1 c2 cs l al =>
      obtain ⟨a, xs, rfl, hs, hd⟩ := dz_tup dz
      obtain ⟨x1, x2, ys, d1, d2, es, rfl, e, h1, h2, hts⟩ := dz_cons2 hd (by simp)
      cases e
      obtain rfl := dz_str h1
      rw [names_row] at nin
      cases b with
      | true =>
      rw [show comeN F Dd m (n + 1) (.tuple (.str (rowS true) :: c1 :: c2 :: cs)) = (c1 :: c2 :: cs).all (comeN F Dd m n) from come_and] at q
      refine ⟨_, rfl, a, _, 0, _, rfl, rfl, hs, atI_nat (j := 0) rfl, _, rfl, rfl, false, rfl, iteF ⟨_, rfl, rfl, false, rfl, iteF ?_⟩⟩
      refine ⟨_, rfl, 1, rfl, ?_⟩
      refine (show tNoPart _ H _ from cut_tup1 hs (by show 1 ≤ _; simp) (fun p H1 s1 sq => ?_))
      have sq : SqT K H1 p (x2 :: ys) := sq
      have ht1 : DzAll S K H1 (x2 :: ys) (c1 :: c2 :: cs) := (DzAll.cons h2 hts).same s1
      have hl := ht1.len
      clear dz fm hd h1 h2 hts hs
      revert sq ht1 hl q al l nin
      generalize x2 :: ys = zs
      generalize c1 :: c2 :: cs = fs
      intro l al nin q sq ht1 hl
      refine ⟨p, rfl, ⟨_, sq⟩, fun L nL => ?_⟩
      refine lc_tup (K := K) (a := p) (xs := zs) (fun j H' => H' L = some (.lst (((fs.take j).map (comeN F Dd m n)).map V.bl)) ∧ Same H1 H') ⟨upd_same, same_new nL⟩ (fun j H' _ h => (tk_same h.2).sq sq) ?_ ?_
      · rintro j x H5 hx5 ⟨hL, s5⟩
        obtain ⟨e, he, dx⟩ := ht1.get hx5
        have il := lt_get hx5
        have em := List.mem_of_getElem? he
        have s15 := s1.trans s5
        refine ⟨rfl, tyes (iteT ⟨_, rfl, _, rfl, _, rfl, _, rfl, S, ho, so, x, e, m, F, Dd, rfl, hH.same s15, hY.same s15, dx.same s5, al e em, (fun z hz => nin z (List.mem_flatten.mpr ⟨_, List.mem_map.mpr ⟨e, em, rfl⟩, hz⟩)), m0, m1, fun H6 s6 => ⟨_, s6 _ _ hL, ?_, ?_, ((Bt.of_same (S := []) (s5.trans s6)).upd0 nL).same⟩⟩)⟩
        · rw [List.length_map, List.length_map, List.length_take]
          exact small1000 (by omega)
        · rw [upd_same, take_more he, List.map_append, List.map_append]
          rfl
      · rintro H5 ⟨hL, s5⟩
        rw [hl, List.take_length] at hL
        refine ⟨_, rfl, rfl, false, rfl, iteF ⟨_, rfl, rfl, true, rfl, iteT ⟨_, rfl, L, _, rfl, sqL hL, ?_⟩⟩⟩
        rw [show (fs.map (comeN F Dd m n)).all id = fs.all (comeN F Dd m n) by rw [List.all_map]; rfl]
        exact q H5 (s1.trans s5)
      | false =>
      rw [show comeN F Dd m (n + 1) (.tuple (.str (rowS false) :: c1 :: c2 :: cs)) = (c1 :: c2 :: cs).any (comeN F Dd m n) from come_or] at q
      refine ⟨_, rfl, a, _, 0, _, rfl, rfl, hs, atI_nat (j := 0) rfl, _, rfl, rfl, false, rfl, iteF ⟨_, rfl, rfl, false, rfl, iteF ?_⟩⟩
      refine ⟨_, rfl, 1, rfl, ?_⟩
      refine (show tNoPart _ H _ from cut_tup1 hs (by show 1 ≤ _; simp) (fun p H1 s1 sq => ?_))
      have sq : SqT K H1 p (x2 :: ys) := sq
      have ht1 : DzAll S K H1 (x2 :: ys) (c1 :: c2 :: cs) := (DzAll.cons h2 hts).same s1
      have hl := ht1.len
      clear dz fm hd h1 h2 hts hs
      revert sq ht1 hl q al l nin
      generalize x2 :: ys = zs
      generalize c1 :: c2 :: cs = fs
      intro l al nin q sq ht1 hl
      refine ⟨p, rfl, ⟨_, sq⟩, fun L nL => ?_⟩
      refine lc_tup (K := K) (a := p) (xs := zs) (fun j H' => H' L = some (.lst (((fs.take j).map (comeN F Dd m n)).map V.bl)) ∧ Same H1 H') ⟨upd_same, same_new nL⟩ (fun j H' _ h => (tk_same h.2).sq sq) ?_ ?_
      · rintro j x H5 hx5 ⟨hL, s5⟩
        obtain ⟨e, he, dx⟩ := ht1.get hx5
        have il := lt_get hx5
        have em := List.mem_of_getElem? he
        have s15 := s1.trans s5
        refine ⟨rfl, tyes (iteT ⟨_, rfl, _, rfl, _, rfl, _, rfl, S, ho, so, x, e, m, F, Dd, rfl, hH.same s15, hY.same s15, dx.same s5, al e em, (fun z hz => nin z (List.mem_flatten.mpr ⟨_, List.mem_map.mpr ⟨e, em, rfl⟩, hz⟩)), m0, m1, fun H6 s6 => ⟨_, s6 _ _ hL, ?_, ?_, ((Bt.of_same (S := []) (s5.trans s6)).upd0 nL).same⟩⟩)⟩
        · rw [List.length_map, List.length_map, List.length_take]
          exact small1000 (by omega)
        · rw [upd_same, take_more he, List.map_append, List.map_append]
          rfl
      · rintro H5 ⟨hL, s5⟩
        rw [hl, List.take_length] at hL
        refine ⟨_, rfl, rfl, false, rfl, iteF ⟨_, rfl, rfl, false, rfl, iteF ⟨_, rfl, L, _, rfl, sqL hL, ?_⟩⟩⟩
        rw [show (fs.map (comeN F Dd m n)).any id = fs.any (comeN F Dd m n) by rw [List.any_map]; rfl]
        exact q H5 (s1.trans s5)
theorem ok_hc {f fK fL : Addr} {fd fdK fdL : FuncData} {k : Nat} (B : Bi mg) (TH : HsF K CH) (TY : SyF K CY) (D : Df K mg "has_come" sHC f fd ["house", "cond", "story", "wait"])
    (MK : Meth K CH "children" fK) (bK : Binds K fdK ["self", "name"] []) (GK : FnOk P w K mg base CX0 (k + 4) fK fdK ["self", "name"] (spKids K CH))
    (ML : Meth K CY "lives" fL) (bL : Binds K fdL ["self", "name", "more"] []) (GL : FnOk P w K mg base CX0 (k + 3) fL fdL ["self", "name", "more"] (spLiv K CY)) : ∀ r, FnOk P w K mg base CX0 (k + 4 + r + 1) f fd ["house", "cond", "story", "wait"] (spHC K CH CY r)
  | 0 => hc_step (r := 0) B TH TY D MK bK GK ML bL GL ⟨fun _ _ _ _ h => h.elim, fun _ _ _ _ _ _ _ _ _ _ _ _ _ h => h.elim⟩
  | r + 1 => hc_step (r := r + 1) B TH TY D MK bK GK ML bL GL (ok_hc B TH TY D MK bK GK ML bL GL r)
end
end WdQ

set_option Elab.async false
set_option linter.all false
set_option maxRecDepth 100000
set_option maxHeartbeats 4000000
set_option exponentiation.threshold 5000
namespace WdQ
open PySem PySem.Spec PyProof.Rows L2 WdM Wd
def namesO : PyData → List Str
  | .none => []
  | d => namesN 6 d
def comeO (F : List (Str × Option Str)) (D : List (Str × Int)) (m : Int) : PyData → Bool
  | .none => true
  | d => comeN F D m 6 d
theorem condNB_ways {d : PyData} (h : condNB d = true) : d = .none ∨ (condB d = true ∧ namesO d = namesN 6 d ∧ ∀ F D m, comeO F D m d = comeN F D m 6 d) := by
  cases d <;> first | exact .inl rfl | exact .inr ⟨h, rfl, fun _ _ _ => rfl⟩
theorem missN_none {ns zs : List Str} (h : missN ns zs = none) : ∀ z ∈ zs, z ∈ ns := fun z hz => by
  have := List.find?_eq_none.mp h z hz
  simp only [Bool.not_eq_true', Bool.not_eq_false] at this
  have e : inV (.str z) (ns.map V.str) = true := by simpa using this
  exact inV_str.mp e
section
variable {P : Program} {w : World} {K : PySem.W.Frag} {mg : Str → Option Value} {base : Heap} {CH CY CD CP CW CL fE fI : Addr}
def spComes (K : PySem.W.Frag) (CH CY CD CP : Addr) : Sp := fun vs H Q E => ∃ (S : List Addr) (ho so : Addr) (v x : V) (d e : PyData) (F : List (Str × Option Str)) (D : List (Str × Int)), vs = [.ref ho, v, .ref so, x] ∧ HomeAt K CH H ho F ∧ StoryAt K CY H so D ∧ Dz S K H v d ∧ Sml d ∧ condNB d = true ∧ Dz S K H x e ∧
  (dayB e = false → ∀ H' dd, Same H H' → H' dd = none → E (.ref CD) (some dd) (upd H' dd (.xd [("thing", x)]))) ∧
  (∀ m z, e = .int m → dayB e = true → missN (F.map Prod.fst) (namesO d) = some z → ∀ H' dd, Same H H' → H' dd = none → E (.ref CP) (some dd) (upd H' dd (.xd [("name", .str z)]))) ∧
  (∀ m, e = .int m → dayB e = true → missN (F.map Prod.fst) (namesO d) = none → ∀ H', Same H H' → Q (.bl (comeO F D m d)) H')
theorem ok_comes {f fC fD fN fK fH : Addr} {fd fdC fdD fdI fdN fdK fdH : FuncData} (TD : ErC K mg "NoDay" "thing" CD fE CW) (FI : Fun K "__init__" "NoDay.__init__" sEDay fE fdI) (bI : Binds K fdI ["self", "thing"] []) (F : FunD K "comes" "comes" (defArgs sComes) (defBody sComes) (defScope sComes) [.int 0] [] f fd)
    (GC : FnOk P w K mg base CX0 12 fC fdC ["thing"] (spB K condNB)) (DC : Df K mg "is_cond_or_none" sCondN fC fdC ["thing"]) (GD : FnOk P w K mg base CX0 2 fD fdD ["thing"] (spDay K)) (DD : Df K mg "is_day" sDay fD fdD ["thing"])
    (GN : FnOk P w K mg base CX0 8 fN fdN ["cond"] (spCN K)) (DN : Df K mg "cond_names" sCN fN fdN ["cond"]) (GK : FnOk P w K mg base (L2.CX P w) 3 fK fdK ["house", "names"] (spCkP K CH CP)) (DK : Df K mg "check_persons" sCkP fK fdK ["house", "names"])
    (GH : FnOk P w K mg base CX0 11 fH fdH ["house", "cond", "story", "wait"] (spHC K CH CY 6)) (DH : Df K mg "has_come" sHC fH fdH ["house", "cond", "story", "wait"]) :
    FnOk P w K mg base (L2.CX P w) 13 f fd ["house", "cond", "story", "wait"] (spComes K CH CY CD CP) := by
  have GI : FnOk P w K mg base CX0 1 fE fdI ["self", "thing"] (spInitE CD "thing") := ok_eDay (k := 0) TD FI
  refine F.ok scComes (fun vs H Q E h => ?_) (fun cdv A outer s H vs Q E hr h => ?_)
  · obtain ⟨S, ho, so, v, x, d, e, Ff, Dd, rfl, _⟩ := h
    rfl
  · obtain ⟨S, ho, so, v, x, d, e, Ff, Dd, rfl, hH, hY, dz, sm, cn, dx, bad, miss, good⟩ := h
    have r2 : Room 2 _ := hr.mono (by omega)
    have r3 : Room 3 _ := hr.mono (by omega)
    have r8 : Room 8 _ := hr.mono (by omega)
    have r11 : Room 11 _ := hr.mono (by omega)
    refine ⟨_, pss_cons (ps_if (pt_not (pt_val (pe_call GC hr (by rfl) DC.mg DC.fn.kp DC.bd .nil pass0 (pa_cons (pv 1) pa_nil)))) pss_noS pss_nil)
      (pss_cons (ps_if (pt_not (pt_val (pe_call GD r2 (by rfl) DD.mg DD.fn.kp DD.bd .nil pass0 (pa_cons (pv 3) pa_nil))))
          (pss_one (ps_raise rfl (takes_of rfl rfl rfl rfl) (pmk_oex TD.o TD.i TD.t GI r2 bI .nil pass0 (by rfl) TD.g (pa_cons (pv 3) pa_nil)))) pss_nil)
      (pss_cons (ps_expr (pe_callS GK r3 (by rfl) DK.mg DK.fn.kp DK.bd (fun σ => passAt (takes_of rfl rfl rfl rfl) σ) (pa_cons (pv 0) (pa_cons (pe_call GN r8 (by rfl) DN.mg DN.fn.kp DN.bd .nil pass0 (pa_cons (pv 1) pa_nil)) pa_nil))))
      (pss_one (ps_ret (pe_or (pe_cmpR op_isN (pv 1) pe_non (nomark _)) (pe_one (pe_call GH r11 (by rfl) DH.mg DH.fn.kp DH.bd .nil pass0 (pa_cons (pv 0) (pa_cons (pv 1) (pa_cons (pv 2) (pa_cons (pv 3) pa_nil))))))))))), ?_⟩
    refine ⟨_, rfl, S, v, d, rfl, dz, sm, fun H1 s1 => ⟨_, rfl, ?_⟩⟩
    rw [cn]
    refine iteF ⟨_, rfl, S, x, e, rfl, dx.same s1, _, rfl, ?_⟩
    cases de : dayB e with
    | false => exact iteT (raise_var rfl fun dd h => bad de H1 dd s1 h)
    | true =>
      obtain ⟨m, rfl, m0, m1⟩ := day_is de
      obtain rfl : x = .int m := by cases dx; rfl
      refine iteF ⟨_, rfl, _, rfl, v, namesO d, rfl, ?_, fun H2 L s2 nL hL => ?_⟩
      · rcases condNB_ways cn with rfl | ⟨cb, e1, _⟩
        · cases dz
          exact .inl ⟨rfl, rfl⟩
        · obtain ⟨fm, _⟩ := Bool.and_eq_true_iff.mp cb
          exact .inr ⟨S, d, dz.same s1, fm, e1⟩
      · have s12 := s1.trans s2
        refine ⟨ho, L, Ff, namesO d, rfl, hH.same s12, hL, fun em H3 s3 => ?_, fun z em H3 dd s3 nd => ?_⟩
        · have s13 := s12.trans s3
          have g := good m rfl de em
          rcases condNB_ways cn with rfl | ⟨cb, e1, e2⟩
          · cases dz
            exact ⟨_, rfl, rfl, _, rfl, iteT (g H3 s13)⟩
          · obtain ⟨fm, _⟩ := Bool.and_eq_true_iff.mp cb
            obtain ⟨a, xs, rfl, _⟩ : ∃ a xs, v = .ref a ∧ SqT K H a xs := by
              obtain ⟨_, _, _, _, _, rfl, _⟩ := form_shape fm
              obtain ⟨a, xs, rfl, hs, _⟩ := dz_tup dz
              exact ⟨a, xs, rfl, hs⟩
            rw [e1] at em
            refine ⟨_, rfl, rfl, _, rfl, iteF ⟨_, rfl, _, rfl, _, rfl, _, rfl, S, ho, so, _, d, m, Ff, Dd, rfl, hH.same s13, hY.same s13, dz.same s13, fm, missN_none em, m0, m1, fun H4 s4 => ?_⟩⟩
            have := g H4 (s13.trans s4)
            rw [e2] at this
            exact this
        · exact miss m z rfl de em H3 dd (s12.trans s3) nd
end
end WdQ

set_option Elab.async false
set_option linter.all false
set_option maxRecDepth 100000
set_option maxHeartbeats 4000000
namespace Wd
open PySem PySem.Spec PyProof.Rows L2 WdM
/-! ### clean data: tuples of small letters and of days -/
def Cd : Nat → PyData → Prop
  | _, .none => False
  | _, .bool _ => False
  | _, .int i => -9999 ≤ i ∧ i ≤ 9999
  | _, .str x => okL x ∧ x.length ≤ 9
  | _, .list _ => False
  | 0, .tuple _ => False
  | n + 1, .tuple ds => 1 ≤ ds.length ∧ ds.length ≤ 7 ∧ ∀ d ∈ ds, Cd n d
  | _, .dict _ => False
theorem Cd.str {n : Nat} {x : Str} (h : Cd n (.str x)) : okL x ∧ x.length ≤ 9 := by cases n <;> exact h
theorem Cd.of_str {n : Nat} {x : Str} (h : okL x ∧ x.length ≤ 9) : Cd n (.str x) := by cases n <;> exact h
theorem Cd.int {n : Nat} {i : Int} (h : Cd n (.int i)) : -9999 ≤ i ∧ i ≤ 9999 := by cases n <;> exact h
theorem Cd.of_int {n : Nat} {i : Int} (h : -9999 ≤ i ∧ i ≤ 9999) : Cd n (.int i) := by cases n <;> exact h
theorem Cd.sm : ∀ {n : Nat} {d : PyData}, Cd n d → Sm n d := by
  intro n
  induction n with
  | zero =>
    intro d c
    cases d with
    | str x => exact Nat.le_trans c.str.2 (by decide)
    | int i => exact trivial
    | _ => exact c.elim
  | succ n ih =>
    intro d c
    cases d with
    | str x => exact Nat.le_trans c.str.2 (by decide)
    | int i => exact trivial
    | tuple ds => exact ⟨Nat.le_trans c.2.1 (by decide), fun d hd => ih (c.2.2 d hd)⟩
    | _ => exact c.elim
theorem Cd.up : ∀ {n : Nat} {d : PyData}, Cd n d → Cd (n + 1) d := by
  intro n
  induction n with
  | zero =>
    intro d c
    cases d with
    | str x => exact c
    | int i => exact c
    | _ => exact c.elim
  | succ n ih =>
    intro d c
    cases d with
    | str x => exact c
    | int i => exact c
    | tuple ds => exact ⟨c.1, c.2.1, fun d hd => ih (c.2.2 d hd)⟩
    | _ => exact c.elim
theorem Cd.mono {n m : Nat} {d : PyData} (h : Cd n d) (l : n ≤ m) : Cd m d := by
  induction l with
  | refl => exact h
  | step _ ih => exact ih.up
/-- a clean value -/
def Cq (K : PySem.W.Frag) (n : Nat) (H : Hp) (v : V) : Prop := ∃ d, Dz [] K H v d ∧ Cd n d
section
variable {K : PySem.W.Frag} {S S' : List Addr}
theorem cd_tk {H H' : Hp} (e : Tk H H') : ∀ {n : Nat} {v : V} {d : PyData}, Cd n d → Dz S K H v d → Dz S' K H' v d := by
  intro n
  induction n with
  | zero =>
    intro v d c h
    cases h with
    | str x => exact .str x
    | int i => exact .int i
    | _ => exact c.elim
  | succ n ih =>
    intro v d c h
    have all : ∀ {xs : List V} {ds : List PyData}, (∀ d ∈ ds, Cd n d) → DzAll S K H xs ds → DzAll S' K H' xs ds := by
      intro xs
      induction xs with
      | nil =>
        intro ds _ h
        cases h
        exact .nil
      | cons x xs ih2 =>
        intro ds hc h
        cases h with
        | cons h t => exact .cons (ih (hc _ List.mem_cons_self) h) (ih2 (fun d hd => hc d (List.mem_cons_of_mem _ hd)) t)
    cases h with
    | str x => exact .str x
    | int i => exact .int i
    | tup h t => exact .tup (e.sq h) (all c.2.2 t)
    | _ => exact c.elim
theorem Cq.tk {H H' : Hp} {n : Nat} {v : V} (h : Cq K n H v) (e : Tk H H') : Cq K n H' v := by
  obtain ⟨d, h, c⟩ := h
  exact ⟨d, cd_tk e c h, c⟩
theorem Cq.mono {H : Hp} {n m : Nat} {v : V} (h : Cq K n H v) (l : n ≤ m) : Cq K m H v := by
  obtain ⟨d, h, c⟩ := h
  exact ⟨d, h, c.mono l⟩
theorem cq_all {H : Hp} {n : Nat} : ∀ {xs : List V}, (∀ x ∈ xs, Cq K n H x) → ∃ ds, DzAll [] K H xs ds ∧ ∀ d ∈ ds, Cd n d
  | [], _ => ⟨[], .nil, fun _ h => nomatch h⟩
  | x :: xs, h => by
    obtain ⟨d, h1, f1⟩ := h x List.mem_cons_self
    obtain ⟨ds, h2, f2⟩ := cq_all (xs := xs) fun y hy => h y (List.mem_cons_of_mem _ hy)
    exact ⟨d :: ds, .cons h1 h2, fun e he => (List.mem_cons.mp he).elim (fun z => z ▸ f1) (f2 e)⟩
theorem cq_tup {H : Hp} {n : Nat} {a : Addr} {xs : List V} (h : SqT K H a xs) (l1 : 1 ≤ xs.length) (l : xs.length ≤ 7) (e : ∀ x ∈ xs, Cq K n H x) : Cq K (n + 1) H (.ref a) := by
  obtain ⟨ds, h1, f1⟩ := cq_all e
  exact ⟨.tuple ds, .tup h h1, by rw [← h1.len]; exact l1, by rw [← h1.len]; exact l, f1⟩
theorem cq_str {H : Hp} {n : Nat} {z : Str} (h : okL z ∧ z.length ≤ 9) : Cq K n H (.str z) := ⟨.str z, .str z, Cd.of_str h⟩
theorem cq_int {H : Hp} {n : Nat} {i : Int} (h : -9999 ≤ i ∧ i ≤ 9999) : Cq K n H (.int i) := ⟨.int i, .int i, Cd.of_int h⟩
/-- a clean value is a text, a day or a tuple of clean ones -/
theorem cq_cases {H : Hp} {n : Nat} {v : V} (h : Cq K n H v) : (∃ z, v = .str z ∧ okL z ∧ z.length ≤ 9) ∨ (∃ i, v = .int i ∧ -9999 ≤ i ∧ i ≤ 9999) ∨ ∃ (m : Nat) (a : Addr) (xs : List V), n = m + 1 ∧ v = .ref a ∧ SqT K H a xs ∧ 1 ≤ xs.length ∧ xs.length ≤ 7 ∧ ∀ x ∈ xs, Cq K m H x := by
  obtain ⟨d, h, c⟩ := h
  cases h with
  | str x => exact .inl ⟨x, rfl, c.str⟩
  | int i => exact .inr (.inl ⟨i, rfl, c.int⟩)
  | tup h t =>
    cases n with
    | zero => exact c.elim
    | succ m =>
      refine .inr (.inr ⟨m, _, _, rfl, rfl, h, by rw [t.len]; exact c.1, by rw [t.len]; exact c.2.1, fun x hx => ?_⟩)
      obtain ⟨i, hi⟩ := List.mem_iff_getElem?.mp hx
      obtain ⟨e, he, q⟩ := t.get hi
      exact ⟨e, q, c.2.2 e (List.mem_of_getElem? he)⟩
  | non => cases n <;> exact c.elim
  | bl => cases n <;> exact c.elim
  | lst => cases n <;> exact c.elim
  | nod => cases n <;> exact c.elim
end
end Wd

set_option Elab.async false
set_option linter.all false
set_option maxRecDepth 100000
set_option maxHeartbeats 4000000
set_option exponentiation.threshold 5000
namespace WdQ
open PySem PySem.Spec PyProof.Rows L2 WdM Wd
theorem word_cd : ∀ z ∈ (["lives", "childless", "not", "and", "or"] : List Str), okL z ∧ z.length ≤ 9 := by
  intro z hz
  simp only [List.mem_cons, List.not_mem_nil, or_false] at hz
  rcases hz with rfl | rfl | rfl | rfl | rfl <;> exact ⟨fun c hc => by revert c; decide +kernel, by decide⟩
theorem rowS_cd (b : Bool) : okL (rowS b) ∧ (rowS b).length ≤ 9 := by
  cases b
  · exact word_cd "or" (by simp)
  · exact word_cd "and" (by simp)
theorem nm_cd {z : Str} (h : nmB z = true) : okL z ∧ z.length ≤ 9 := ⟨nm_let h, by have := nm_len h; omega⟩
/-- a condition is clean -/
theorem form_cd : ∀ {r : Nat} {d : PyData}, formB r d = true → Cd r d := by
  intro r
  induction r with
  | zero => intro d h; cases h
  | succ r ih =>
    intro d h
    obtain ⟨q, e, v⟩ := form_view h
    obtain rfl : r = q := by omega
    cases v with
    | liv z hz =>
      refine ⟨by simp, by simp, fun d hd => ?_⟩
      simp only [List.mem_cons, List.not_mem_nil, or_false] at hd
      rcases hd with rfl | rfl
      · exact Cd.of_str (word_cd _ (by simp))
      · exact Cd.of_str (nm_cd hz)
    | livAt z i hz i0 i1 =>
      refine ⟨by simp, by simp, fun d hd => ?_⟩
      simp only [List.mem_cons, List.not_mem_nil, or_false] at hd
      rcases hd with rfl | rfl | rfl
      · exact Cd.of_str (word_cd _ (by simp))
      · exact Cd.of_str (nm_cd hz)
      · exact Cd.of_int ⟨i0, i1⟩
    | chl z hz =>
      refine ⟨by simp, by simp, fun d hd => ?_⟩
      simp only [List.mem_cons, List.not_mem_nil, or_false] at hd
      rcases hd with rfl | rfl
      · exact Cd.of_str (word_cd _ (by simp))
      · exact Cd.of_str (nm_cd hz)
    | neg c hc =>
      refine ⟨by simp, by simp, fun d hd => ?_⟩
      simp only [List.mem_cons, List.not_mem_nil, or_false] at hd
      rcases hd with rfl | rfl
      · exact Cd.of_str (word_cd _ (by simp))
      · exact ih hc
    | row b c1 c2 cs l a =>
      refine ⟨by simp, by rw [List.length_cons]; omega, fun d hd => ?_⟩
      rcases List.mem_cons.mp hd with rfl | hd
      · exact Cd.of_str (rowS_cd b)
      · exact ih (a d hd)
/-! ### made again -/
theorem form_liv {q : Nat} {z : Str} (h : nmB z = true) : formB (q + 1) (.tuple [.str "lives", .str z]) = true := by
  show formL (formB q) "lives" (.str z) [] = true
  unfold formL
  rw [if_pos (by decide), if_pos (by decide)]
  exact h
theorem form_livAt {q : Nat} {z : Str} {i : Int} (h : nmB z = true) (i0 : -9999 ≤ i) (i1 : i ≤ 9999) : formB (q + 1) (.tuple [.str "lives", .str z, .int i]) = true := by
  show formL (formB q) "lives" (.str z) [.int i] = true
  unfold formL
  rw [if_pos (by decide), if_pos (by decide)]
  show (nmB z && decide (-9999 ≤ i ∧ i ≤ 9999)) = true
  rw [h, decide_eq_true ⟨i0, i1⟩]
  rfl
theorem form_chl {q : Nat} {z : Str} (h : nmB z = true) : formB (q + 1) (.tuple [.str "childless", .str z]) = true := by
  show formL (formB q) "childless" (.str z) [] = true
  unfold formL
  rw [if_pos (by decide), if_neg (by decide), if_pos (by decide)]
  exact h
theorem form_neg {q : Nat} {c : PyData} (h : formB q c = true) : formB (q + 1) (.tuple [.str "not", c]) = true := by
  show formL (formB q) "not" c [] = true
  unfold formL
  rw [if_pos (by decide), if_neg (by decide), if_neg (by decide), if_pos (by decide)]
  exact h
theorem form_row {q : Nat} {b : Bool} {cs : List PyData} (l2 : 2 ≤ cs.length) (l6 : cs.length ≤ 6) (h : ∀ c ∈ cs, formB q c = true) : formB (q + 1) (.tuple (.str (rowS b) :: cs)) = true := by
  match cs, l2, l6, h with
  | c1 :: c2 :: cs, l2, l6, h =>
    show formL (formB q) (rowS b) c1 (c2 :: cs) = true
    unfold formL
    have e : decide (2 ≤ (c1 :: c2 :: cs).length ∧ (c1 :: c2 :: cs).length ≤ 6) = true := decide_eq_true ⟨l2, l6⟩
    have e2 : (c1 :: c2 :: cs).all (formB q) = true := List.all_eq_true.mpr h
    cases b
    · rw [if_pos (by decide), if_neg (by decide), if_neg (by decide), if_neg (by decide), e, e2]
      rfl
    · rw [if_pos (by decide), if_neg (by decide), if_neg (by decide), if_neg (by decide), e, e2]
      rfl
theorem map_eqF {α β : Type} {f g : α → β} : ∀ {cs : List α}, (∀ c ∈ cs, f c = g c) → cs.map f = cs.map g := fun h => List.map_congr_left h
theorem any_eqF {α : Type} {f g : α → Bool} : ∀ {cs : List α}, (∀ c ∈ cs, f c = g c) → cs.any f = cs.any g
  | [], _ => rfl
  | c :: cs, h => by rw [List.any_cons, List.any_cons, h c List.mem_cons_self, any_eqF fun x hx => h x (List.mem_cons_of_mem _ hx)]
theorem all_eqF {α : Type} {f g : α → Bool} : ∀ {cs : List α}, (∀ c ∈ cs, f c = g c) → cs.all f = cs.all g
  | [], _ => rfl
  | c :: cs, h => by rw [List.all_cons, List.all_cons, h c List.mem_cons_self, all_eqF fun x hx => h x (List.mem_cons_of_mem _ hx)]
/-- more within one another changes nothing -/
theorem form_up {F : List (Str × Option Str)} {D : List (Str × Int)} {m : Int} : ∀ {r : Nat} {d : PyData}, formB r d = true → formB (r + 1) d = true ∧ namesN (r + 1) d = namesN r d ∧ comeN F D m (r + 1) d = comeN F D m r d := by
  intro r
  induction r with
  | zero => intro d h; cases h
  | succ r ih =>
    intro d h
    obtain ⟨q, e, v⟩ := form_view h
    obtain rfl : r = q := by omega
    cases v with
    | liv z hz => exact ⟨form_liv hz, rfl, by rw [come_liv, come_liv]⟩
    | livAt z i hz i0 i1 => exact ⟨form_livAt hz i0 i1, rfl, by rw [come_livAt, come_livAt]⟩
    | chl z hz => exact ⟨form_chl hz, rfl, by rw [come_chl, come_chl]⟩
    | neg c hc => exact ⟨form_neg (ih hc).1, by rw [names_neg, names_neg, (ih hc).2.1], by rw [come_neg, come_neg, (ih hc).2.2]⟩
    | row b c1 c2 cs l a =>
      refine ⟨form_row (by simp) l fun c hc => (ih (a c hc)).1, ?_, ?_⟩
      · rw [names_row, names_row, map_eqF fun c hc => (ih (a c hc)).2.1]
      · cases b
        · rw [show rowS false = "or" from rfl, come_or, come_or]
          exact any_eqF fun c hc => (ih (a c hc)).2.2
        · rw [show rowS true = "and" from rfl, come_and, come_and]
          exact all_eqF fun c hc => (ih (a c hc)).2.2
theorem form_more {F : List (Str × Option Str)} {D : List (Str × Int)} {m : Int} {r n : Nat} {d : PyData} (h : formB r d = true) (l : r ≤ n) : formB n d = true ∧ namesN n d = namesN r d ∧ comeN F D m n d = comeN F D m r d := by
  induction l with
  | refl => exact ⟨h, rfl, rfl⟩
  | step _ ih =>
    obtain ⟨h1, e1, e2⟩ := ih
    obtain ⟨h2, f1, f2⟩ := form_up (F := F) (D := D) (m := m) h1
    exact ⟨h2, f1.trans e1, f2.trans e2⟩
/-! ### a good condition, of these names -/
def Cg (K : PySem.W.Frag) (zs : List Str) (n : Nat) (H : Hp) (v : V) : Prop := ∃ d, Dz [] K H v d ∧ formB n d = true ∧ ∀ z ∈ namesN n d, z ∈ zs
section
variable {K : PySem.W.Frag} {zs : List Str} {H H' : Hp} {n m : Nat} {v : V} {a : Addr} {z : Str}
theorem Cg.tk (h : Cg K zs n H v) (e : Tk H H') : Cg K zs n H' v := by
  obtain ⟨d, h, f, nm⟩ := h
  exact ⟨d, cd_tk e (form_cd f) h, f, nm⟩
theorem Cg.mono (h : Cg K zs n H v) (l : n ≤ m) : Cg K zs m H v := by
  obtain ⟨d, h, f, nm⟩ := h
  obtain ⟨h2, e, _⟩ := form_more (F := []) (D := []) (m := 0) f l
  exact ⟨d, h, h2, by rw [e]; exact nm⟩
theorem cg_liv (h : SqT K H a [.str "lives", .str z]) (o : nmB z = true) (i : z ∈ zs) : Cg K zs 1 H (.ref a) := ⟨_, .tup h (.cons (.str _) (.cons (.str _) .nil)), form_liv o, fun y hy => by rw [List.mem_singleton.mp (show y ∈ [z] from hy)]; exact i⟩
theorem cg_livAt {j : Int} (h : SqT K H a [.str "lives", .str z, .int j]) (o : nmB z = true) (j0 : -9999 ≤ j) (j1 : j ≤ 9999) (i : z ∈ zs) : Cg K zs 1 H (.ref a) := ⟨_, .tup h (.cons (.str _) (.cons (.str _) (.cons (.int _) .nil))), form_livAt o j0 j1, fun y hy => by rw [List.mem_singleton.mp (show y ∈ [z] from hy)]; exact i⟩
theorem cg_chl (h : SqT K H a [.str "childless", .str z]) (o : nmB z = true) (i : z ∈ zs) : Cg K zs 1 H (.ref a) := ⟨_, .tup h (.cons (.str _) (.cons (.str _) .nil)), form_chl o, fun y hy => by rw [List.mem_singleton.mp (show y ∈ [z] from hy)]; exact i⟩
theorem cg_neg (h : SqT K H a [.str "not", v]) (c : Cg K zs n H v) : Cg K zs (n + 1) H (.ref a) := by
  obtain ⟨d, hd, f, nm⟩ := c
  exact ⟨_, .tup h (.cons (.str _) (.cons hd .nil)), form_neg f, by rw [names_neg]; exact nm⟩
theorem cg_all : ∀ {xs : List V}, (∀ x ∈ xs, Cg K zs n H x) → ∃ ds, DzAll [] K H xs ds ∧ (∀ d ∈ ds, formB n d = true) ∧ ∀ y ∈ (ds.map (namesN n)).flatten, y ∈ zs
  | [], _ => ⟨[], .nil, fun _ h => (List.not_mem_nil h).elim, fun _ h => (List.not_mem_nil h).elim⟩
  | x :: xs, h => by
    obtain ⟨d, h1, f1, n1⟩ := h x List.mem_cons_self
    obtain ⟨ds, h2, f2, n2⟩ := cg_all (xs := xs) fun y hy => h y (List.mem_cons_of_mem _ hy)
    refine ⟨d :: ds, .cons h1 h2, fun e he => (List.mem_cons.mp he).elim (fun z => z ▸ f1) (f2 e), fun y hy => ?_⟩
    rw [List.map_cons, List.flatten_cons] at hy
    exact (List.mem_append.mp hy).elim (n1 y) (n2 y)
theorem cg_row {b : Bool} {xs : List V} (h : SqT K H a (.str (rowS b) :: xs)) (l2 : 2 ≤ xs.length) (l6 : xs.length ≤ 6) (c : ∀ x ∈ xs, Cg K zs n H x) : Cg K zs (n + 1) H (.ref a) := by
  obtain ⟨ds, hd, f, nm⟩ := cg_all c
  have e := hd.len
  exact ⟨_, .tup h (.cons (.str _) hd), form_row (by omega) (by omega) f, by rw [names_row]; exact nm⟩
end
end WdQ

set_option Elab.async false
set_option linter.all false
set_option maxRecDepth 100000
set_option maxHeartbeats 4000000
set_option exponentiation.threshold 5000
namespace WdQ
open PySem PySem.Spec PyProof.Rows L2 WdM Wd
section
variable {P : Program} {w : World} {K : PySem.W.Frag} {mg : Str → Option Value} {base : Heap} {CY CN : Addr}
/-! ### a story, made of rows or of nothing -/
def spSIa (K : PySem.W.Frag) (CY : Addr) : Sp := fun vs H Q _ => ∃ (o dx : Addr) (v : V) (rows : List (Str × Int)), vs = [.ref o, v] ∧ H o = some (.ins CY dx []) ∧ ((v = .non ∧ rows = []) ∨ DeathsAt K H v rows) ∧ GoodD rows ∧ ∀ H', Bt [o] H H' → StoryAt K CY H' o rows → Q .non H'
theorem ok_SIa {f fC : Addr} {fd fdC : FuncData} {k : Nat} (T : SyF K CY) (F : FunD K "__init__" "Story.__init__" (defArgs sSI) (defBody sSI) (defScope sSI) [.non] [] f fd) (GC : FnOk P w K mg base (L2.CX P w) (k + 4) fC fdC ["deaths"] (spChkD K)) (DC : Df K mg "check_deaths" sChkD fC fdC ["deaths"]) :
    FnOk P w K mg base (L2.CX P w) (k + 5) f fd ["self", "deaths"] (spSIa K CY) := by
  refine F.ok scSI (fun vs H Q E h => ?_) (fun cdv A outer s H vs Q E hr h => ?_)
  · obtain ⟨o, dx, v, rows, rfl, _⟩ := h
    rfl
  · obtain ⟨o, dx, v, rows, rfl, ho, hv, gd, q⟩ := h
    refine ⟨_, pss_cons (ps_set (i := 2) scSI.nd rfl (.inl rfl) (pe_ifExp (pt_cmpR op_isN (pv 1) pe_non (nomark _)) (pe_tup pa_nil) (pv 1)))
      (pss_cons (ps_expr (pe_callS GC hr (by rfl) DC.mg DC.fn.kp DC.bd (fun σ => passAt (takes_of rfl rfl rfl rfl) σ) (pa_cons (pv 2) pa_nil)))
      (pss_one (ps_fld (pv 0) (pv 2) rfl))), ?_⟩
    have fin : ∀ H1 H2 (t : Addr), Same H H1 → Same H1 H2 → DeathsAt K H1 (.ref t) rows → Q .non (upd H2 o (.ins CY dx [("deaths", .ref t)])) := fun H1 H2 t s1 s2 dh => by
      refine q _ ((Bt.of_same (s1.trans s2)).upd1 (by simp)) ⟨dx, .ref t, upd_same, ?_, gd⟩
      refine (dh.tk (tk_same s2)).tk ?_
      exact tk_ins (s2 _ _ (s1 _ _ ho))
    rcases hv with ⟨rfl, rfl⟩ | hv
    · refine ⟨_, rfl, rfl, _, rfl, iteT ⟨by show 0 ≤ sizeLine; decide, fun t nt => ?_⟩⟩
      have s1 : Same H (upd H t (.tup [])) := same_new nt
      have dh : DeathsAt K (upd H t (.tup [])) (.ref t) [] := ⟨t, [], rfl, sqT upd_same, rfl, fun i x h => by simp at h⟩
      refine ⟨_, rfl, .ref t, [], rfl, dh, gd, fun H2 s2 => ?_⟩
      exact ⟨_, rfl, _, rfl, o, CY, dx, _, rfl, s2 _ _ (s1 _ _ ho), T.cl, T.n1, by show 0 < 1000; decide, fin _ H2 t s1 s2 dh⟩
    · have hv0 := hv
      obtain ⟨t, xs, rfl, hs, xl, hx⟩ := hv
      refine ⟨_, rfl, rfl, _, rfl, iteF ⟨_, rfl, _, rfl, .ref t, rows, rfl, hv0, gd, fun H1 s1 => ?_⟩⟩
      exact ⟨_, rfl, _, rfl, o, CY, dx, _, rfl, s1 _ _ ho, T.cl, T.n1, by show 0 < 1000; decide, fin H H1 t (Same.refl H) s1 hv0⟩
theorem same_made {G H' : Hp} {o d : Addr} {h1 h2 : HO} (no : G o = none) (nd : G d = none) (b : Bt [o] (upd (upd G d h1) o h2) H') : Same G H' := fun c x e => by
  have c1 : c ≠ o := ne_of_none e no
  have c2 : c ≠ d := ne_of_none e nd
  exact b c x (by simp [c1]) (by rw [upd_ne c1, upd_ne c2]; exact e)
end
end WdQ


set_option Elab.async false
set_option linter.all false
set_option maxRecDepth 100000
set_option maxHeartbeats 4000000
set_option exponentiation.threshold 5000
namespace WdQ
open PySem PySem.Spec PyProof.Rows L2 WdM Wd
theorem passNo {X : Cx} {σ : L2.St} : PassesAt (L2.CX X.prog X.w) X σ E0 := fun _ _ _ _ _ _ h => by
  obtain ⟨_, _, _, _, _, _, _, _, _, _, _, _, h⟩ := h
  exact h.elim
section
variable {P : Program} {w : World} {K : PySem.W.Frag} {mg : Str → Option Value} {base : Heap} {CH CY CD CP : Addr}
theorem cond_sml {d : PyData} (cn : condNB d = true) : Sml d := by
  rcases condNB_ways cn with rfl | ⟨cb, _, _⟩
  · exact ⟨0, trivial⟩
  · exact ⟨6, (form_cd (Bool.and_eq_true_iff.mp cb).1).sm⟩
theorem condNB_of {ds : List PyData} (f : formB 6 (.tuple ds) = true) (l : (namesN 6 (.tuple ds)).length ≤ 12) : condNB (.tuple ds) = true := by
  show condB _ = true
  unfold condB
  rw [f, ← names_len f, decide_eq_true l]
  rfl
theorem neg_facts {F : List (Str × Option Str)} {D : List (Str × Int)} {m : Int} {d : PyData} {e : Nat} (fe : formB e d = true) (e5 : e ≤ 5) (l : (namesN 6 d).length ≤ 11) : condNB (.tuple [.str "not", d]) = true ∧ namesO (.tuple [.str "not", d]) = namesN 6 d ∧ comeO F D m (.tuple [.str "not", d]) = !comeN F D m 6 d := by
  obtain ⟨f5, n5, c5⟩ := form_more (F := F) (D := D) (m := m) fe e5
  obtain ⟨f6, n6, c6⟩ := form_more (F := F) (D := D) (m := m) fe (Nat.le_trans e5 (by decide : 5 ≤ 6))
  have en : namesN 6 (.tuple [.str "not", d]) = namesN 6 d := by rw [names_neg, n5, n6]
  refine ⟨condNB_of (form_neg f5) (by rw [en]; omega), en, ?_⟩
  show comeN F D m 6 _ = _
  rw [come_neg, c5, c6]
theorem liv_facts {F : List (Str × Option Str)} {D : List (Str × Int)} {m : Int} {z : Str} (h : nmB z = true) : condNB (.tuple [.str "lives", .str z]) = true ∧ namesO (.tuple [.str "lives", .str z]) = [z] ∧ comeO F D m (.tuple [.str "lives", .str z]) = aliveB D z m :=
  ⟨condNB_of (form_liv h) (by show 1 ≤ 12; decide), rfl, come_liv⟩
theorem row_facts {F : List (Str × Option Str)} {D : List (Str × Int)} {m : Int} {d : PyData} {e : Nat} {z : Str} (b : Bool) (hz : nmB z = true) (fe : formB e d = true) (e5 : e ≤ 5) (l : (namesN 6 d).length ≤ 11) : condNB (.tuple [.str (rowS b), d, .tuple [.str "lives", .str z]]) = true ∧ namesO (.tuple [.str (rowS b), d, .tuple [.str "lives", .str z]]) = namesN 6 d ++ [z] ∧
    comeO F D m (.tuple [.str (rowS b), d, .tuple [.str "lives", .str z]]) = (if b then comeN F D m 6 d && aliveB D z m else comeN F D m 6 d || aliveB D z m) := by
  obtain ⟨f5, n5, c5⟩ := form_more (F := F) (D := D) (m := m) fe e5
  obtain ⟨f6, n6, c6⟩ := form_more (F := F) (D := D) (m := m) fe (Nat.le_trans e5 (by decide : 5 ≤ 6))
  have en : namesN 6 (.tuple [.str (rowS b), d, .tuple [.str "lives", .str z]]) = namesN 6 d ++ [z] := by
    rw [names_row, n6, ← n5]
    rfl
  refine ⟨condNB_of (form_row (by show 2 ≤ 2; decide) (by show 2 ≤ 6; decide) fun c hc => ?_) (by rw [en, List.length_append]; show _ + 1 ≤ 12; omega), en, ?_⟩
  · simp only [List.mem_cons, List.not_mem_nil, or_false] at hc
    rcases hc with rfl | rfl
    · exact f5
    · exact form_liv hz
  · show comeN F D m 6 _ = _
    cases b
    · rw [show rowS false = "or" from rfl, come_or, List.any_cons, List.any_cons, List.any_nil, Bool.or_false, c5, come_liv, c6]
      rfl
    · rw [show rowS true = "and" from rfl, come_and, List.all_cons, List.all_cons, List.all_nil, Bool.and_true, c5, come_liv, c6]
      rfl
theorem miss_app {ns zs : List Str} {z : Str} (h : missN ns zs = none) (hz : z ∈ ns) : missN ns (zs ++ [z]) = none := by
  unfold missN at h ⊢
  rw [List.find?_append, h, List.find?_cons, inV_str.mpr hz]
  rfl
theorem HomeAt.bt {H H' : Hp} {o l : Addr} {rows : List (Str × Option Str)} (h : HomeAt K CH H o rows) (p : PoolAt H l) (b : Bt [l] H H') : HomeAt K CH H' o rows := by
  obtain ⟨dx, v, t, h, d, g, ht⟩ := h
  have tk := b.tk p.lst
  refine ⟨dx, v, t, b _ _ (fun z => ?_) h, d.tk tk, g, trivial⟩
  obtain ⟨zs, q⟩ := p.lst o z
  rw [h] at q
  cases q
theorem StoryAt.bt {H H' : Hp} {o l : Addr} {rows : List (Str × Int)} (h : StoryAt K CY H o rows) (p : PoolAt H l) (b : Bt [l] H H') : StoryAt K CY H' o rows := by
  obtain ⟨dx, v, h, d, g⟩ := h
  have tk := b.tk p.lst
  refine ⟨dx, v, b _ _ (fun z => ?_) h, d.tk tk, g⟩
  obtain ⟨zs, q⟩ := p.lst o z
  rw [h] at q
  cases q
theorem folk_mem {H : Hp} {F : List (Str × Option Str)} {xs : List V} (l : xs.length = F.length) (h : ∀ (i : Nat) (x : V), xs[i]? = some x → ∃ (a : Addr) (r : Str × Option Str), x = .ref a ∧ F[i]? = some r ∧ SqT K H a [.str r.1, parV r.2]) : ∀ x ∈ xs, ∃ (a : Addr) (r : Str × Option Str), x = .ref a ∧ r ∈ F ∧ SqT K H a [.str r.1, parV r.2] := fun x hx => by
  obtain ⟨i, hi⟩ := List.mem_iff_getElem?.mp hx
  obtain ⟨a, r, e1, e2, e3⟩ := h i x hi
  exact ⟨a, r, e1, List.mem_of_getElem? e2, e3⟩
theorem mno {o : Option Str} {z : Str} (h : o = none) (h' : o = some z) : False := by rw [h] at h'; cases h'
end
end WdQ

set_option Elab.async false
set_option linter.all false
set_option maxRecDepth 100000
set_option maxHeartbeats 4000000
set_option exponentiation.threshold 5000
namespace WdQ
open PySem PySem.Spec PyProof.Rows L2 WdM Wd
/-! ### what a house is made of, drawn -/
abbrev sHome : Stmt := topS 60
def nHome : List Str := ["_law_pool_here", "_law_most", "_law_many", "_law_folk", "_law_wares", "_law_kinds", "_law_people", "_law_k", "_law_at", "_law_size", "_law_ware", "_law_goods"]
theorem scHome : FnScope nHome ["_law_pool_here", "_law_most"] (defScope sHome) := ⟨rfl, rfl, rfl, by decide +kernel, rfl, by decide +kernel, by decide +kernel⟩
section
variable {P : Program} {w : World} {K : PySem.W.Frag} {mg : Str → Option Value} {base : Heap}
theorem rows_snoc {α : Type} {f : α → List V} {H : Hp} {xs : List V} {rows : List α} {b : Addr} {r0 : α} (l : xs.length = rows.length) (h : ∀ (i : Nat) (x : V), xs[i]? = some x → ∃ (a : Addr) (r : α), x = .ref a ∧ rows[i]? = some r ∧ SqT K H a (f r)) (hb : SqT K H b (f r0)) :
    ∀ (i : Nat) (x : V), (xs ++ [V.ref b])[i]? = some x → ∃ (a : Addr) (r : α), x = .ref a ∧ (rows ++ [r0])[i]? = some r ∧ SqT K H a (f r) := by
  intro i x hx
  by_cases hi : i < xs.length
  · rw [List.getElem?_append_left hi] at hx
    obtain ⟨a, r, e1, e2, e3⟩ := h i x hx
    exact ⟨a, r, e1, by rw [List.getElem?_append_left (by omega)]; exact e2, e3⟩
  · have hl := lt_get hx
    rw [List.length_append] at hl
    simp only [List.length_cons, List.length_nil] at hl
    obtain rfl : i = xs.length := by omega
    rw [List.getElem?_append_right (Nat.le_refl _), Nat.sub_self] at hx
    cases hx
    exact ⟨b, r0, rfl, by rw [List.getElem?_append_right (by omega), l, Nat.sub_self]; rfl, hb⟩
theorem rows_tk {α : Type} {f : α → List V} {H H' : Hp} {xs : List V} {rows : List α} (e : Tk H H') (h : ∀ (i : Nat) (x : V), xs[i]? = some x → ∃ (a : Addr) (r : α), x = .ref a ∧ rows[i]? = some r ∧ SqT K H a (f r)) :
    ∀ (i : Nat) (x : V), xs[i]? = some x → ∃ (a : Addr) (r : α), x = .ref a ∧ rows[i]? = some r ∧ SqT K H' a (f r) := fun i x hx => by
  obtain ⟨a, r, e1, e2, e3⟩ := h i x hx
  exact ⟨a, r, e1, e2, e.sq e3⟩
def rowF (r : Str × Option Str) : List V := [.str r.1, parV r.2]
/-- None, or one of those ahead -/
def tPar (K : PySem.W.Frag) : TE := fun σ H Q => ∃ (aW : Addr) (zs : List Str) (i : Nat) (d : Int), σ[3]? = some (some (.ref aW)) ∧ σ[7]? = some (some (.int (0 + (i : Nat)))) ∧ σ[8]? = some (some (.int d)) ∧ H aW = some (.lst (zs.map V.str)) ∧ 0 ≤ d ∧ i ≤ zs.length ∧ ∀ o : Option Str, (∀ y, o = some y → y ∈ zs.take i) → Q (parV o) H
def spHome (K : PySem.W.Frag) : Sp := fun vs H Q _ => ∃ l : Addr, vs = [.ref l, .int 6] ∧ PoolAt H l ∧ ∀ (H' : Hp) (p tp tg : Addr) (pu de : Int) (rows : List (Str × Option Str)) (goods : List (Str × Str × Int)), Bt [l] H H' → PoolAt H' l → SqT K H' p [.ref tp, .ref tg, .int pu, .int de] → FolkAt K H' (.ref tp) rows → GoodF rows → rows.length ≤ 6 → GoodsAt K H' (.ref tg) goods → GoodG goods → 0 ≤ pu → pu ≤ 1000000000 → 0 ≤ de → de ≤ 1000000000 → Q (.ref p) H'
theorem sizes {d : Int} (d0 : 0 ≤ d) (d1 : d < 3) : ∃ n : Int, atI [V.int 10, V.int 100, V.int (10 ^ (9 : Int).toNat)] d = some (.int n) ∧ 10 ≤ n ∧ n ≤ 1000000000 := by
  have hd : d = 0 ∨ d = 1 ∨ d = 2 := by omega
  rcases hd with rfl | rfl | rfl
  · exact ⟨10, rfl, by decide, by decide⟩
  · exact ⟨100, rfl, by decide, by decide⟩
  · exact ⟨1000000000, rfl, by decide, by decide⟩
theorem ok_home {f fT fW : Addr} {fd fdT fdW : FuncData} {k : Nat} (B : Bi mg) (D : Df K mg "_law_home" sHome f fd ["_law_pool_here", "_law_most"]) (DT : Df K mg "_law_take" sTake fT fdT ["_law_pool_here", "_law_many"]) (DW : Df K mg "_law_words" sWords fW fdW ["_law_pool_here", "_law_many"])
    (GT : FnOk P w K mg base CX0 (k + 1) fT fdT ["_law_pool_here", "_law_many"] spTake) (GW : FnOk P w K mg base CX0 (k + 2) fW fdW ["_law_pool_here", "_law_many"] spWords) : FnOk P w K mg base CX0 (k + 3) f fd ["_law_pool_here", "_law_most"] (spHome K) := by
  refine D.fn.ok scHome (fun vs H Q E h => ?_) (fun cdv A outer s H vs Q E hr h => ?_)
  · obtain ⟨l, rfl, _⟩ := h
    rfl
  · obtain ⟨l, rfl, pool, q⟩ := h
    have r1 : Room (k + 1) _ := hr.mono (by omega)
    refine ⟨_, pss_cons (ps_set (i := 2) scHome.nd rfl (.inl rfl) (pe_op op_add pe_int (pe_call GT r1 (by rfl) DT.mg DT.fn.kp DT.bd .nil pass0 (pa_cons (pv 0) (pa_cons (pv 1) pa_nil)))))
      (pss_cons (ps_asg (pe_tup (pa_cons (pe_call GW hr (by rfl) DW.mg DW.fn.kp DW.bd .nil pass0 (pa_cons (pv 0) (pa_cons (pv 2) pa_nil))) (pa_cons (pe_call GW hr (by rfl) DW.mg DW.fn.kp DW.bd .nil pass0 (pa_cons (pv 0) (pa_cons (pe_call GT r1 (by rfl) DT.mg DT.fn.kp DT.bd .nil pass0 (pa_cons (pv 0) (pa_cons (pe_op op_add (pv 1) pe_int) pa_nil))) pa_nil))) (pa_cons (pe_call GW hr (by rfl) DW.mg DW.fn.kp DW.bd .nil pass0 (pa_cons (pv 0) (pa_cons pe_int pa_nil))) pa_nil))))
          (pg_tup rfl (pgs_cons (pg_name (i := 3) scHome.nd rfl (.inl rfl)) (pgs_cons (pg_name (i := 4) scHome.nd rfl (.inl rfl)) (pgs_cons (pg_name (i := 5) scHome.nd rfl (.inr rfl)) pgs_nil)))))
      (pss_cons (ps_set (i := 6) scHome.nd rfl (.inl rfl) (pe_lst pa_nil))
      (pss_cons (ps_for PassesOwn.never rfl (pi_range1 (by rfl) B.range (pa_cons (pv 2) pa_nil)) (pg_name (i := 7) scHome.nd rfl (.inl rfl))
        (pss_cons (ps_set (i := 8) scHome.nd rfl (.inl rfl) (pe_call GT r1 (by rfl) DT.mg DT.fn.kp DT.bd .nil pass0 (pa_cons (pv 0) (pa_cons (pe_op op_add (pv 7) pe_int) pa_nil))))
        (pss_one (ps_expr (pe_bm PySem.F.plainAttrs_list PySem.F.slot_list_append PySem.F.type_list_append mt_append (pv 6) (pa_cons (pe_tup (pa_cons (pe_ix (r := rIxL K) ix_list (pv 3) (pv 7) (fun _ _ => rfl)) (pa_cons (PE.wk (t' := tPar K) (pe_ifExp (pt_cmpR op_ge (pv 8) (pv 7) (nomark _)) pe_non (pe_ix (r := rIxL K) ix_list (pv 3) (pv 8) (fun _ _ => rfl))) (by
            rintro σ H Q ⟨aW, zs, i, d, h3, h7, h8, hW, d0, il, q⟩
            refine ⟨_, h8, _, h7, d, _, rfl, rfl, _, rfl, ?_⟩
            by_cases dc : (0 : Int) + (i : Nat) ≤ d
            · rw [decide_eq_true dc]
              exact iteT (q none (fun y e => nomatch e))
            · rw [decide_eq_false dc]
              obtain ⟨n, rfl⟩ := Int.eq_ofNat_of_zero_le d0
              have nl : n < zs.length := by omega
              have hy : zs[n]? = some zs[n] := List.getElem?_eq_getElem nl
              have hyV : (zs.map V.str)[n]? = some (.str zs[n]) := by rw [List.getElem?_map, hy]; rfl
              refine iteF ⟨_, h3, _, h8, aW, _, _, .str zs[n], rfl, rfl, sqL hW, atI_nat hyV, q (some zs[n]) fun y e => ?_⟩
              cases e
              exact List.mem_of_getElem? (i := n) (by rw [List.getElem?_take_of_lt (by omega)]; exact hy))) pa_nil))) pa_nil))))))
      (pss_cons (ps_set (i := 9) scHome.nd rfl (.inr rfl) (pe_ix (r := rIxL K) ix_list (pe_lst (pa_cons pe_int (pa_cons pe_int (pa_cons (pe_op op_pow pe_int pe_int) pa_nil)))) (pe_call GT r1 (by rfl) DT.mg DT.fn.kp DT.bd .nil pass0 (pa_cons (pv 0) (pa_cons pe_int pa_nil))) (fun _ _ => rfl)))
      (pss_cons (ps_setLc (i := 11) (own := [("_law_ware", 10)]) (g := gName 10) (tt := tYes) rfl scHome.nd rfl rfl (sw_true rfl rfl rfl (by decide +kernel)) (pi_list (pv 4)) (blkOk_by (own := [("_law_ware", 10)]) (N := nHome) (sc := defScope sHome) (by decide +kernel))
          (fun _ _ _ _ _ => pg_name (i := 10) scHome.nd rfl (Or.inl rfl)) (fun _ _ _ _ _ => pts_nil) (fun _ _ _ _ _ => pe_tup (pa_cons (pv 10) (pa_cons (pe_ix (r := rIxL K) ix_list (pv 5) (pe_call GT r1 (by rfl) DT.mg DT.fn.kp DT.bd .nil pass0 (pa_cons (pv 0) (pa_cons pe_int pa_nil))) (fun _ _ => rfl)) (pa_cons (pe_call GT r1 (by rfl) DT.mg DT.fn.kp DT.bd .nil pass0 (pa_cons (pv 0) (pa_cons (pe_op op_add (pv 9) pe_int) pa_nil))) pa_nil)))))
      (pss_one (ps_ret (pe_tup (pa_cons (pe_callTy call_tuple_of (by rfl) B.tuple boot_tuple (pa_cons (pv 6) pa_nil)) (pa_cons (pe_callTy call_tuple_of (by rfl) B.tuple boot_tuple (pa_cons (pv 11) pa_nil)) (pa_cons (pe_op op_mod (pe_call GT r1 (by rfl) DT.mg DT.fn.kp DT.bd .nil pass0 (pa_cons (pv 0) (pa_cons (pe_op op_mul pe_int (pv 9)) pa_nil))) (pe_op op_add (pe_op op_pow pe_int pe_int) pe_int)) (pa_cons (pe_call GT r1 (by rfl) DT.mg DT.fn.kp DT.bd .nil pass0 (pa_cons (pv 0) (pa_cons (pe_op op_add (pv 9) pe_int) pa_nil))) pa_nil)))))))))))), ?_⟩
    refine ⟨_, rfl, _, rfl, l, 6, rfl, pool, by decide, fun H0 d0 b0 pool0 d00 d01 => ⟨1, d0, rfl, rfl, ?_⟩⟩
    obtain ⟨n0, rfl⟩ := Int.eq_ofNat_of_zero_le d00
    have key : ((fun i j : Int => V.int (i + j)) 1 (n0 : Nat)) = V.int ((n0 + 1 : Nat) : Int) := by
      show V.int (1 + (n0 : Nat)) = _
      rw [show (1 : Int) + (n0 : Nat) = ((n0 + 1 : Nat) : Int) by omega]
    rw [key]
    obtain ⟨m, hm⟩ : ∃ m, m = n0 + 1 := ⟨_, rfl⟩
    rw [← hm]
    have m6 : m ≤ 6 := by omega
    have m1 : 1 ≤ m := by omega
    clear key hm d00 d01 n0
    refine ⟨_, rfl, _, rfl, l, m, rfl, pool0, by omega, fun H1 aW zs b1 pool1 nW hW zl nd nm => ?_⟩
    refine ⟨_, rfl, _, rfl, _, rfl, 6, 1, rfl, rfl, l, _, rfl, pool1, by decide, fun H2 d2 b2 pool2 d20 d21 => ?_⟩
    obtain ⟨n2, rfl⟩ := Int.eq_ofNat_of_zero_le d20
    have n26 : n2 ≤ 6 := by omega
    refine ⟨l, n2, rfl, pool2, by omega, fun H3 aG gs b3 pool3 nG hG gl gnd gnm => ?_⟩
    refine ⟨_, rfl, l, 2, rfl, pool3, by decide, fun H4 aK ks b4 pool4 nK hK kl knd knm => ?_⟩
    refine ⟨by show 3 ≤ sizeLine; decide, fun tt ntt => ⟨tt, _, rfl, sqT upd_same, rfl, _, _, rfl, _, _, rfl, _, _, rfl, rfl, ?_⟩⟩
    have nlW : aW ≠ l := fun e => pool0.ne nW e.symm
    have nlG : aG ≠ l := fun e => pool2.ne nG e.symm
    have nlK : aK ≠ l := fun e => pool3.ne nK e.symm
    have hW5 : (upd H4 tt (.tup [.ref aW, .ref aG, .ref aK])) aW = some (.lst (zs.map V.str)) := same_new ntt _ _ (kept ((b2.trans b3).trans b4) hW (by simp [nlW]))
    have hG5 : (upd H4 tt (.tup [.ref aW, .ref aG, .ref aK])) aG = some (.lst (gs.map V.str)) := same_new ntt _ _ (kept b4 hG (by simp [nlG]))
    have hK5 : (upd H4 tt (.tup [.ref aW, .ref aG, .ref aK])) aK = some (.lst (ks.map V.str)) := same_new ntt _ _ hK
    have b5 : Bt [l] H (upd H4 tt (.tup [.ref aW, .ref aG, .ref aK])) := ((((b0.trans b1).trans b2).trans b3).trans b4).new ntt
    have pool5 : PoolAt (upd H4 tt (.tup [.ref aW, .ref aG, .ref aK])) l := pool4.same (same_new ntt)
    revert hW5 hG5 hK5 b5 pool5
    generalize upd H4 tt (.tup [.ref aW, .ref aG, .ref aK]) = H5
    intro hW5 hG5 hK5 b5 pool5
    clear b0 b1 b2 b3 b4 pool0 pool1 pool2 pool3 pool4 nW nG nK hW hG hK ntt d20 d21
    refine ⟨by show 0 ≤ sizeLine; decide, fun aF nF => ?_⟩
    have nlF : l ≠ aF := pool5.ne nF
    have nWF : aW ≠ aF := ne_of_none hW5 nF
    have nGF : aG ≠ aF := ne_of_none hG5 nF
    have nKF : aK ≠ aF := ne_of_none hK5 nF
    have fF : H aF = none := by
      cases e : H aF with
      | none => rfl
      | some o =>
        have := b5 aF o (by simp [nlF.symm]) e
        rw [nF] at this
        cases this
    refine ⟨_, rfl, (m : Int), rfl, by omega, by omega, for_range (lo := 0) (n := ((m : Nat) : Int).toNat) (fun i σ H' => (∃ y7 y8 : Option V, σ = [some (.ref l), some (.int 6), some (.int (m : Nat)), some (.ref aW), some (.ref aG), some (.ref aK), some (.ref aF), y7, y8, none, none, none]) ∧ H' aW = some (.lst (zs.map V.str)) ∧ H' aG = some (.lst (gs.map V.str)) ∧ H' aK = some (.lst (ks.map V.str)) ∧ (∃ (xs : List V) (rows : List (Str × Option Str)), H' aF = some (.lst xs) ∧ xs.length = i ∧ rows.length = i ∧ rows.map Prod.fst = zs.take i ∧ (∀ (j : Nat) (x : V), xs[j]? = some x → ∃ (a : Addr) (r : Str × Option Str), x = .ref a ∧ rows[j]? = some r ∧ SqT K H' a (rowF r)) ∧ (∀ (j : Nat) (r : Str × Option Str) (y : Str), rows[j]? = some r → r.2 = some y → y ∈ zs.take j)) ∧ Bt [l] H H' ∧ PoolAt H' l)
      ⟨⟨none, none, rfl⟩, ?_, ?_, ?_, ⟨[], [], upd_same, rfl, rfl, rfl, (fun j x hx => nomatch hx), (fun j r y hr => nomatch hr)⟩, b5.new nF, pool5.upd nlF⟩ ?_ ?_⟩
    · rw [upd_ne nWF]
      exact hW5
    · rw [upd_ne nGF]
      exact hG5
    · rw [upd_ne nKF]
      exact hK5
    · rintro i σ H6 hi ⟨⟨y7, y8, rfl⟩, hW6, hG6, hK6, ⟨xs, rows, hF6, xl, rl, rz, hx, pr⟩, b6, pool6⟩
      refine ⟨_, rfl, _, rfl, _, 2, rfl, rfl, l, _, rfl, pool6, by omega, fun H7 d b7 pool7 d0 d1 => ?_⟩
      have hW7 := kept b7 hW6 (by simp [nlW])
      have hG7 := kept b7 hG6 (by simp [nlG])
      have hK7 := kept b7 hK6 (by simp [nlK])
      have hF7 := kept b7 hF6 (by simp [nlF.symm])
      have tk7 : Tk H6 H7 := b7.tk pool6.lst
      obtain ⟨z, hz⟩ : ∃ z, zs[i]? = some z := ⟨zs[i], List.getElem?_eq_getElem (by omega)⟩
      have hzV : (zs.map V.str)[i]? = some (.str z) := by rw [List.getElem?_map, hz]; rfl
      have hat : atI (zs.map V.str) (0 + (i : Nat)) = some (.str z) := by
        rw [Int.zero_add]
        exact atI_nat hzV
      refine ⟨_, rfl, .inl ⟨rfl, _, sqL hF7⟩, _, rfl, _, rfl, aW, _, _, .str z, rfl, rfl, sqL hW7, hat, ?_⟩
      refine ⟨aW, zs, i, d, rfl, rfl, rfl, hW7, d0, by omega, fun o ho => ⟨by show 2 ≤ sizeLine; decide, fun tp ntp => ?_⟩⟩
      have nlt : l ≠ tp := pool7.ne ntp
      have s8 : Same H7 (upd H7 tp (.tup [.str z, parV o])) := same_new ntp
      have tk8 : Tk H6 (upd H7 tp (.tup [.str z, parV o])) := tk7.trans (tk_new ntp)
      have sN : SqT K (upd H7 tp (.tup [.str z, parV o])) tp (rowF (z, o)) := sqT upd_same
      have b8 : Bt [l] H (upd H7 tp (.tup [.str z, parV o])) := (b6.trans b7).new ntp
      have pool8 := pool7.upd (o := .tup [.str z, parV o]) nlt
      revert s8 tk8 sN b8 pool8
      generalize upd H7 tp (.tup [.str z, parV o]) = H8
      intro s8 tk8 sN b8 pool8
      have hF8 := s8 _ _ hF7
      have tk9 : Tk H8 (upd H8 aF (.lst (xs ++ [.ref tp]))) := tk_lst hF8
      refine ⟨aF, xs, .ref tp, rfl, rfl, hF8, by rw [xl]; exact Nat.lt_of_lt_of_le (show i < 8 by omega) (by decide), ⟨_, _, rfl⟩, ?_, ?_, ?_, ⟨xs ++ [.ref tp], rows ++ [(z, o)], upd_same, ?_, ?_, ?_, ?_, ?_⟩, b8.upd0 fF, pool8.upd nlF⟩
      · rw [upd_ne nWF]
        exact s8 _ _ hW7
      · rw [upd_ne nGF]
        exact s8 _ _ hG7
      · rw [upd_ne nKF]
        exact s8 _ _ hK7
      · rw [List.length_append, xl]
        rfl
      · rw [List.length_append, rl]
        rfl
      · rw [List.map_append, rz, take_more hz]
        rfl
      · exact rows_tk tk9 (rows_snoc (f := rowF) (by omega) (rows_tk tk8 hx) sN)
      · intro j r y hr e
        by_cases hj : j < rows.length
        · rw [List.getElem?_append_left hj] at hr
          exact pr j r y hr e
        · have hj2 : j = rows.length := by
            have := lt_get hr
            rw [List.length_append] at this
            simp only [List.length_cons, List.length_nil] at this
            omega
          subst hj2
          rw [List.getElem?_append_right (Nat.le_refl _), Nat.sub_self] at hr
          cases hr
          rw [rl]
          exact ho y e
    rintro σ H6 ⟨⟨y7, y8, rfl⟩, hW6, hG6, hK6, ⟨xs, rows, hF6, xl, rl, rz, hx, pr⟩, b6, pool6⟩
    have rm : rows.length = m := by omega
    have rz2 : rows.map Prod.fst = zs := by rw [rz]; exact List.take_of_length_le (by omega)
    have gf : GoodF rows := ⟨by omega, by omega, rz2 ▸ nd, fun r hr => nm r.1 (rz2 ▸ List.mem_map_of_mem hr), fun j r y hr e => by
      have := pr j r y hr e
      rw [List.map_take, rz2]
      exact this⟩
    have xl2 : xs.length = rows.length := by omega
    clear pr rz rz2 nd nm zl hW6 hW5 hG5 hK5 b5 pool5 nF nWF nlW rl xl nGF nKF fF
    refine ⟨10, 9, rfl, rfl, ⟨by decide, by decide, by decide⟩, by show 3 ≤ sizeLine; decide, fun pS nS => ?_⟩
    have hS7 : (upd H6 pS (.lst [.int 10, .int 100, .int (10 ^ (9 : Int).toNat)])) pS = some (.lst [.int 10, .int 100, .int (10 ^ (9 : Int).toNat)]) := upd_same
    have s7 : Same H6 (upd H6 pS (.lst [.int 10, .int 100, .int (10 ^ (9 : Int).toNat)])) := same_new nS
    have nSl : pS ≠ l := fun e => pool6.ne nS e.symm
    revert hS7 s7
    generalize upd H6 pS (.lst [.int 10, .int 100, .int (10 ^ (9 : Int).toNat)]) = H7
    intro hS7 s7
    refine ⟨_, rfl, l, 3, rfl, pool6.same s7, by decide, fun H8 d8 b8 pool8 d80 d81 => ?_⟩
    obtain ⟨sz, esz, z10, z9⟩ := sizes d80 d81
    refine ⟨pS, _, d8, _, rfl, rfl, sqL (kept b8 hS7 (by simp [nSl])), esz, ?_⟩
    have b68 : Bt [l] H6 H8 := (Bt.of_same s7).trans b8
    have hG8 := kept b68 hG6 (by simp [nlG])
    have hK8 := kept b68 hK6 (by simp [nlK])
    have hF8 := kept b68 hF6 (by simp [nlF.symm])
    have hx8 := rows_tk (b68.tk pool6.lst) hx
    have b08 := b6.trans b68
    clear hS7 s7 nS nSl b8 b68 hG6 hK6 hF6 hx b6 pool6 d80 d81 esz
    refine ⟨_, rfl, aG, rfl, ⟨_, sqL hG8⟩, fun L nL => ?_⟩
    have nlL : L ≠ l := fun e => pool8.ne nL e.symm
    refine lc_list (K := K) (a := aG) (xs := gs.map V.str) (fun j H' => (∃ (ys : List V) (goods : List (Str × Str × Int)), H' L = some (.lst ys) ∧ ys.length = goods.length ∧ goods.map Prod.fst = gs.take j ∧ (∀ (i : Nat) (x : V), ys[i]? = some x → ∃ (a : Addr) (r : Str × Str × Int), x = .ref a ∧ goods[i]? = some r ∧ SqT K H' a (rowG r)) ∧ ∀ r ∈ goods, Nm r.2.1 ∧ 0 ≤ r.2.2 ∧ r.2.2 ≤ 1000000000) ∧ Bt [l] H8 H' ∧ PoolAt H' l) ⟨⟨[], [], upd_same, rfl, rfl, (fun j x hx => nomatch hx), fun r hr => nomatch hr⟩, (Bt.refl H8).new nL, pool8.upd nlL.symm⟩ (fun j H' _ h => sqL (kept h.2.1 hG8 (by simp [nlG]))) ?_ ?_
    · rintro j x H9 hx9 ⟨⟨ys, goods, hL, yl, gz, hy, gd⟩, b9, pool9⟩
      obtain ⟨z, hz, rfl⟩ : ∃ z, gs[j]? = some z ∧ x = .str z := by
        rw [List.getElem?_map] at hx9
        cases hc : gs[j]? with
        | none => rw [hc] at hx9; cases hx9
        | some y => rw [hc] at hx9; cases hx9; exact ⟨y, rfl, rfl⟩
      have jl := lt_get hz
      refine ⟨rfl, tyes (iteT ⟨_, rfl, _, rfl, _, rfl, l, 2, rfl, pool9, by decide, fun H10 d b10 pool10 d0 d1 => ?_⟩)⟩
      have hK10 := kept (b9.trans b10) hK8 (by simp [nlK])
      obtain ⟨_, ex, kz, rfl, nkz⟩ := at_of (P := fun v => ∃ z : Str, v = .str z ∧ Nm z) (xs := ks.map V.str) (d := d) (fun x hx => by
        obtain ⟨z, hz, rfl⟩ := List.mem_map.mp hx
        exact ⟨z, rfl, knm z hz⟩) d0 (by rw [List.length_map, kl]; exact d1)
      refine ⟨aK, _, d, _, rfl, rfl, sqL hK10, ex, _, rfl, _, rfl, sz, 1, rfl, rfl, l, _, rfl, pool10, by omega, fun H11 c b11 pool11 c0 c1 => ⟨by show 3 ≤ sizeLine; decide, fun tp ntp => ?_⟩⟩
      have b911 := b10.trans b11
      have hL11 := kept b911 hL (by simp [nlL])
      have hL12 : (upd H11 tp (.tup [.str z, .str kz, .int c])) L = some (.lst ys) := same_new ntp _ _ hL11
      have tk12 : Tk H9 (upd H11 tp (.tup [.str z, .str kz, .int c])) := (b911.tk pool9.lst).trans (tk_new ntp)
      refine ⟨ys, hL12, ?_, ⟨ys ++ [.ref tp], goods ++ [(z, kz, c)], upd_same, ?_, ?_, ?_, ?_⟩, (((b9.trans b911).new ntp).upd0 nL), (pool11.same (same_new ntp)).upd nlL.symm⟩
      · have := congrArg List.length gz
        rw [List.length_map, List.length_take] at this
        rw [yl]
        exact small1000 (by omega)
      · rw [List.length_append, List.length_append, yl]
        rfl
      · rw [List.map_append, gz, take_more hz]
        rfl
      · exact rows_tk (tk_lst hL12) (rows_snoc (f := rowG) yl (rows_tk tk12 hy) (sqT upd_same))
      · intro r hr
        rcases List.mem_append.mp hr with h | h
        · exact gd r h
        · rw [List.mem_singleton.mp h]
          exact ⟨nkz, c0, by show c ≤ _; omega⟩
    rintro H9 ⟨⟨ys, goods, hL, yl, gz, hy, gd⟩, b9, pool9⟩
    rw [List.length_map, List.take_length] at gz
    have gg : GoodG goods := ⟨by have := congrArg List.length gz; rw [List.length_map] at this; omega, gz ▸ gnd, fun r hr => ⟨gnm r.1 (gz ▸ List.mem_map_of_mem hr), (gd r hr).1⟩, fun r hr => (gd r hr).2⟩
    have hF9 := kept b9 hF8 (by simp [nlF.symm])
    have hx9 := rows_tk (b9.tk pool8.lst) hx8
    have b09 := b08.trans b9
    refine ⟨_, rfl, aF, xs, rfl, .inl ⟨sqL hF9, fun tp ntp => ?_⟩⟩
    refine ⟨_, rfl, L, ys, rfl, .inl ⟨sqL (same_new ntp _ _ hL), fun tg ntg => ?_⟩⟩
    have fk : FolkAt K (upd (upd H9 tp (.tup xs)) tg (.tup ys)) (.ref tp) rows := ⟨tp, xs, rfl, (tk_new ntg).sq (sqT upd_same), xl2, rows_tk (tk_new ntg) (rows_tk (tk_new ntp) hx9)⟩
    have gds : GoodsAt K (upd (upd H9 tp (.tup xs)) tg (.tup ys)) (.ref tg) goods := ⟨tg, ys, rfl, sqT upd_same, yl, rows_tk (tk_new ntg) (rows_tk (tk_new ntp) hy)⟩
    have b10 : Bt [l] H (upd (upd H9 tp (.tup xs)) tg (.tup ys)) := (b09.new ntp).new ntg
    have pool10 : PoolAt (upd (upd H9 tp (.tup xs)) tg (.tup ys)) l := (pool9.same (same_new ntp)).same (same_new ntg)
    revert fk gds b10 pool10
    generalize upd (upd H9 tp (.tup xs)) tg (.tup ys) = H10
    intro fk gds b10 pool10
    refine ⟨_, rfl, _, rfl, 2, sz, rfl, rfl, .inl ⟨by decide, by decide⟩, l, _, rfl, pool10, by omega, fun H11 c b11 pool11 c0 c1 => ?_⟩
    refine ⟨10, 9, rfl, rfl, ⟨by decide, by decide, by decide⟩, _, 1, rfl, rfl, c, _, rfl, rfl, (by show (0 : Int) < 10 ^ (9 : Int).toNat + 1; decide), _, rfl, _, rfl, sz, 1, rfl, rfl, l, _, rfl, pool11, by omega, fun H12 e b12 pool12 e0 e1 => ⟨by show 4 ≤ sizeLine; decide, fun p np => ?_⟩⟩
    have tk := (b11.trans b12).tk pool10.lst
    have big : (10 : Int) ^ (9 : Int).toNat + 1 = 1000000001 := by decide
    refine q _ p tp tg _ e rows goods (((b10.trans b11).trans b12).new np) (pool12.same (same_new np)) (sqT upd_same) ((fk.tk tk).tk (tk_new np)) gf (by omega) ((gds.tk tk).tk (tk_new np)) gg ?_ ?_ e0 (by omega)
    · rw [big]
      exact Int.emod_nonneg _ (by decide)
    · rw [big]
      have := Int.emod_lt_of_pos c (show (0 : Int) < 1000000001 by decide)
      omega
end
end WdQ

set_option Elab.async false
set_option linter.all false
set_option maxRecDepth 100000
set_option maxHeartbeats 4000000
set_option exponentiation.threshold 5000
namespace WdQ
open PySem PySem.Spec PyProof.Rows L2 WdM Wd
/-! ### the days told in a condition -/
def intsOf : List PyData → List Int
  | [_, .int i] => [i]
  | _ => []
def daysL (f : PyData → List Int) (w : Str) (ts : List PyData) : List Int := if eqW w "childless" = true then [] else if eqW w "lives" = true then intsOf ts else (ts.map f).flatten
def daysN : Nat → PyData → List Int
  | 0, _ => []
  | r + 1, .tuple (.str w :: ts) => daysL (daysN r) w ts
  | _ + 1, _ => []
theorem days_livAt {q : Nat} {z : Str} {i : Int} : daysN (q + 1) (.tuple [.str "lives", .str z, .int i]) = [i] := by
  show daysL _ "lives" _ = _
  unfold daysL
  rw [if_neg (by decide), if_pos (by decide)]
  rfl
theorem days_liv {q : Nat} {z : Str} : daysN (q + 1) (.tuple [.str "lives", .str z]) = [] := by
  show daysL _ "lives" _ = _
  unfold daysL
  rw [if_neg (by decide), if_pos (by decide)]
  rfl
theorem days_neg {q : Nat} {c : PyData} : daysN (q + 1) (.tuple [.str "not", c]) = daysN q c := by
  show daysL _ "not" _ = _
  unfold daysL
  rw [if_neg (by decide), if_neg (by decide)]
  simp
theorem days_row {q : Nat} {b : Bool} {cs : List PyData} : daysN (q + 1) (.tuple (.str (rowS b) :: cs)) = (cs.map (daysN q)).flatten := by
  show daysL _ (rowS b) _ = _
  unfold daysL
  cases b
  · rw [if_neg (by decide), if_neg (by decide)]
  · rw [if_neg (by decide), if_neg (by decide)]
theorem days_chl {q : Nat} {z : Str} : daysN (q + 1) (.tuple [.str "childless", .str z]) = [] := by
  show daysL _ "childless" _ = _
  unfold daysL
  rw [if_pos (by decide)]
theorem days_up : ∀ {r : Nat} {d : PyData}, formB r d = true → daysN (r + 1) d = daysN r d := by
  intro r
  induction r with
  | zero => intro d h; cases h
  | succ r ih =>
    intro d h
    obtain ⟨q, e, v⟩ := form_view h
    obtain rfl : r = q := by omega
    cases v with
    | liv z hz => rw [days_liv, days_liv]
    | livAt z i hz i0 i1 => rw [days_livAt, days_livAt]
    | chl z hz => rw [days_chl, days_chl]
    | neg c hc => rw [days_neg, days_neg, ih hc]
    | row b c1 c2 cs l a => rw [days_row, days_row, map_eqF fun c hc => ih (a c hc)]
theorem days_more {r n : Nat} {d : PyData} (h : formB r d = true) (l : r ≤ n) : daysN n d = daysN r d := by
  induction l with
  | refl => rfl
  | step l ih => rw [days_up (form_more (F := []) (D := []) (m := 0) h l).1, ih]
/-- by stories that are outlived alike a condition comes alike -/
theorem come_eq {F : List (Str × Option Str)} {D D' : List (Str × Int)} {m : Int} : ∀ {r : Nat} {d : PyData}, formB r d = true → (∀ z ∈ namesN r d, z ∈ F.map Prod.fst) → (∀ z ∈ F.map Prod.fst, ∀ t, t = m ∨ t ∈ daysN r d → aliveB D' z t = aliveB D z t) → comeN F D' m r d = comeN F D m r d := by
  intro r
  induction r with
  | zero => intro d h; cases h
  | succ r ih =>
    intro d h nin al
    obtain ⟨q, e, v⟩ := form_view h
    obtain rfl : r = q := by omega
    cases v with
    | liv z hz => rw [come_liv, come_liv, al z (nin z (List.mem_singleton.mpr rfl)) m (.inl rfl)]
    | livAt z i hz i0 i1 => rw [come_livAt, come_livAt, al z (nin z (List.mem_singleton.mpr rfl)) i (.inr (by rw [days_livAt]; simp))]
    | chl z hz =>
      rw [come_chl, come_chl]
      congr 1
      refine any_eqF fun y hy => al y ?_ m (.inl rfl)
      obtain ⟨r, hr, rfl⟩ := List.mem_map.mp hy
      exact List.mem_map_of_mem (List.mem_filter.mp hr).1
    | neg c hc =>
      rw [days_neg] at al
      rw [names_neg] at nin
      rw [come_neg, come_neg, ih hc nin al]
    | row b c1 c2 cs l a =>
      rw [days_row] at al
      rw [names_row] at nin
      have sub : ∀ c ∈ c1 :: c2 :: cs, comeN F D' m r c = comeN F D m r c := fun c hc => ih (a c hc) (fun z hz => nin z (List.mem_flatten.mpr ⟨_, List.mem_map.mpr ⟨c, hc, rfl⟩, hz⟩)) fun z hz t ht => al z hz t (ht.imp id fun hi => List.mem_flatten.mpr ⟨_, List.mem_map.mpr ⟨c, hc, rfl⟩, hi⟩)
      cases b
      · rw [show rowS false = "or" from rfl, come_or, come_or]
        exact any_eqF sub
      · rw [show rowS true = "and" from rfl, come_and, come_and]
        exact all_eqF sub
end WdQ

set_option Elab.async false
set_option linter.all false
set_option maxRecDepth 100000
set_option maxHeartbeats 4000000
set_option exponentiation.threshold 5000
namespace WdQ
open PySem PySem.Spec PyProof.Rows L2 WdM Wd
/-! ### a good condition, of these names, by how deep it is and how many names it has -/
def Ck (K : PySem.W.Frag) (zs : List Str) (ds : List Int) (n c : Nat) (H : Hp) (v : V) : Prop := ∃ d, Dz [] K H v d ∧ formB n d = true ∧ (namesN n d).length ≤ c ∧ (∀ z ∈ namesN n d, z ∈ zs) ∧ ∀ i ∈ daysN n d, i ∈ ds
section
variable {K : PySem.W.Frag} {zs : List Str} {ds : List Int} {H H' : Hp} {n m c c' : Nat} {v x y : V} {a : Addr} {z : Str}
theorem Ck.tk (h : Ck K zs ds n c H v) (e : Tk H H') : Ck K zs ds n c H' v := by
  obtain ⟨d, h, f, l, nm⟩ := h
  exact ⟨d, cd_tk e (form_cd f) h, f, l, nm⟩
theorem Ck.mono (h : Ck K zs ds n c H v) (l : n ≤ m) (lc : c ≤ c') : Ck K zs ds m c' H v := by
  obtain ⟨d, h, f, k, nm⟩ := h
  obtain ⟨h2, e, _⟩ := form_more (F := []) (D := []) (m := 0) f l
  exact ⟨d, h, h2, by rw [e]; omega, by rw [e]; exact nm.1, by rw [days_more f l]; exact nm.2⟩
theorem ck_liv (h : SqT K H a [.str "lives", .str z]) (o : nmB z = true) (i : z ∈ zs) : Ck K zs ds 1 1 H (.ref a) := ⟨_, .tup h (.cons (.str _) (.cons (.str _) .nil)), form_liv o, Nat.le_refl _, (fun y hy => by rw [List.mem_singleton.mp (show y ∈ [z] from hy)]; exact i), by rw [days_liv]; exact fun _ h => nomatch h⟩
theorem ck_livAt {j : Int} (h : SqT K H a [.str "lives", .str z, .int j]) (o : nmB z = true) (j0 : -9999 ≤ j) (j1 : j ≤ 9999) (jd : j ∈ ds) (i : z ∈ zs) : Ck K zs ds 1 1 H (.ref a) := ⟨_, .tup h (.cons (.str _) (.cons (.str _) (.cons (.int _) .nil))), form_livAt o j0 j1, Nat.le_refl _, (fun y hy => by rw [List.mem_singleton.mp (show y ∈ [z] from hy)]; exact i), by rw [days_livAt]; exact fun t ht => by rw [List.mem_singleton.mp ht]; exact jd⟩
theorem ck_chl (h : SqT K H a [.str "childless", .str z]) (o : nmB z = true) (i : z ∈ zs) : Ck K zs ds 1 1 H (.ref a) := ⟨_, .tup h (.cons (.str _) (.cons (.str _) .nil)), form_chl o, Nat.le_refl _, (fun y hy => by rw [List.mem_singleton.mp (show y ∈ [z] from hy)]; exact i), by rw [days_chl]; exact fun _ h => nomatch h⟩
theorem ck_neg (h : SqT K H a [.str "not", v]) (k : Ck K zs ds n c H v) : Ck K zs ds (n + 1) c H (.ref a) := by
  obtain ⟨d, hd, f, l, nm⟩ := k
  exact ⟨_, .tup h (.cons (.str _) (.cons hd .nil)), form_neg f, by rw [names_neg]; exact l, by rw [names_neg]; exact nm.1, by rw [days_neg]; exact nm.2⟩
theorem names_two {b : Bool} {d e : PyData} : namesN (n + 1) (.tuple [.str (rowS b), d, e]) = namesN n d ++ namesN n e := by
  rw [names_row]
  show namesN n d ++ (namesN n e ++ []) = _
  rw [List.append_nil]
theorem names_three {b : Bool} {d e g : PyData} : namesN (n + 1) (.tuple [.str (rowS b), d, e, g]) = namesN n d ++ (namesN n e ++ namesN n g) := by
  rw [names_row]
  show namesN n d ++ (namesN n e ++ (namesN n g ++ [])) = _
  rw [List.append_nil]
theorem days_two {b : Bool} {d e : PyData} : daysN (n + 1) (.tuple [.str (rowS b), d, e]) = daysN n d ++ daysN n e := by
  rw [days_row]
  show daysN n d ++ (daysN n e ++ []) = _
  rw [List.append_nil]
theorem days_three {b : Bool} {d e g : PyData} : daysN (n + 1) (.tuple [.str (rowS b), d, e, g]) = daysN n d ++ (daysN n e ++ daysN n g) := by
  rw [days_row]
  show daysN n d ++ (daysN n e ++ (daysN n g ++ [])) = _
  rw [List.append_nil]
theorem ck_two {b : Bool} {p q : Nat} (h : SqT K H a [.str (rowS b), x, y]) (k1 : Ck K zs ds n p H x) (k2 : Ck K zs ds n q H y) : Ck K zs ds (n + 1) (p + q) H (.ref a) := by
  obtain ⟨d, hd, f, l, nm⟩ := k1
  obtain ⟨e, he, f2, l2, nm2⟩ := k2
  refine ⟨_, .tup h (.cons (.str _) (.cons hd (.cons he .nil))), form_row (by show 2 ≤ 2; decide) (by show 2 ≤ 6; decide) (fun c hc => ?_), ?_, ?_, ?_⟩
  · simp only [List.mem_cons, List.not_mem_nil, or_false] at hc
    rcases hc with rfl | rfl
    · exact f
    · exact f2
  · rw [names_two, List.length_append]
    omega
  · rw [names_two]
    exact fun z hz => (List.mem_append.mp hz).elim (nm.1 z) (nm2.1 z)
  · rw [days_two]
    exact fun z hz => (List.mem_append.mp hz).elim (nm.2 z) (nm2.2 z)
theorem ck_three {b : Bool} {p q r : Nat} {u : V} (h : SqT K H a [.str (rowS b), x, y, u]) (k1 : Ck K zs ds n p H x) (k2 : Ck K zs ds n q H y) (k3 : Ck K zs ds n r H u) : Ck K zs ds (n + 1) (p + (q + r)) H (.ref a) := by
  obtain ⟨d, hd, f, l, nm⟩ := k1
  obtain ⟨e, he, f2, l2, nm2⟩ := k2
  obtain ⟨g, hg, f3, l3, nm3⟩ := k3
  refine ⟨_, .tup h (.cons (.str _) (.cons hd (.cons he (.cons hg .nil)))), form_row (by show 2 ≤ 3; decide) (by show 3 ≤ 6; decide) (fun c hc => ?_), ?_, ?_, ?_⟩
  · simp only [List.mem_cons, List.not_mem_nil, or_false] at hc
    rcases hc with rfl | rfl | rfl
    · exact f
    · exact f2
    · exact f3
  · rw [names_three, List.length_append, List.length_append]
    omega
  · rw [names_three]
    exact fun z hz => (List.mem_append.mp hz).elim (nm.1 z) fun hz => (List.mem_append.mp hz).elim (nm2.1 z) (nm3.1 z)
  · rw [days_three]
    exact fun z hz => (List.mem_append.mp hz).elim (nm.2 z) fun hz => (List.mem_append.mp hz).elim (nm2.2 z) (nm3.2 z)
end
abbrev sAtom : Stmt := topS 61
abbrev sLc : Stmt := topS 62
def pAt : List Str := ["_law_pool_here", "_law_folk", "_law_dawns"]
theorem scAtom : FnScope ["_law_pool_here", "_law_folk", "_law_dawns", "_law_one"] pAt (defScope sAtom) := ⟨rfl, rfl, rfl, by decide +kernel, rfl, by decide +kernel, by decide +kernel⟩
def nLc : List Str := ["_law_pool_here", "_law_folk", "_law_dawns", "_law_way", "_law_turn", "_law_some", "_law_inner", "_law_third"]
theorem scLc : FnScope nLc pAt (defScope sLc) := ⟨rfl, rfl, rfl, by decide +kernel, rfl, by decide +kernel, by decide +kernel⟩
section
variable {P : Program} {w : World} {K : PySem.W.Frag} {mg : Str → Option Value} {base : Heap}
/-- names and days to draw of -/
def Drw (H : Hp) (l aN aD : Addr) (zs : List Str) (ds : List Int) : Prop := H aN = some (.lst (zs.map V.str)) ∧ H aD = some (.lst (ds.map V.int)) ∧ aN ≠ l ∧ aD ≠ l ∧ (∀ z ∈ zs, nmB z = true) ∧ (∀ i ∈ ds, -9999 ≤ i ∧ i ≤ 9999) ∧ 1 ≤ zs.length ∧ 1 ≤ ds.length
theorem Drw.bt {H H' : Hp} {l aN aD : Addr} {zs : List Str} {ds : List Int} (h : Drw H l aN aD zs ds) (b : Bt [l] H H') : Drw H' l aN aD zs ds := ⟨kept b h.1 (by simp [h.2.2.1]), kept b h.2.1 (by simp [h.2.2.2.1]), h.2.2⟩
theorem Drw.same {H H' : Hp} {l aN aD : Addr} {zs : List Str} {ds : List Int} (h : Drw H l aN aD zs ds) (b : Same H H') : Drw H' l aN aD zs ds := ⟨b _ _ h.1, b _ _ h.2.1, h.2.2⟩
def spAt (K : PySem.W.Frag) : Sp := fun vs H Q _ => ∃ (l aN aD : Addr) (zs : List Str) (ds : List Int), vs = [.ref l, .ref aN, .ref aD] ∧ PoolAt H l ∧ Drw H l aN aD zs ds ∧ ∀ (H' : Hp) (v : V), Bt [l] H H' → PoolAt H' l → Ck K zs ds 1 1 H' v → Q v H'
theorem ok_at {f fT : Addr} {fd fdT : FuncData} {k : Nat} (B : Bi mg) (D : Df K mg "_law_atom" sAtom f fd pAt) (DT : Df K mg "_law_take" sTake fT fdT ["_law_pool_here", "_law_many"]) (GT : FnOk P w K mg base CX0 (k + 1) fT fdT ["_law_pool_here", "_law_many"] spTake) : FnOk P w K mg base CX0 (k + 2) f fd pAt (spAt K) := by
  refine D.fn.ok scAtom (fun vs H Q E h => ?_) (fun cdv A outer s H vs Q E hr h => ?_)
  · obtain ⟨l, aN, aD, zs, ds, rfl, _⟩ := h
    rfl
  · obtain ⟨l, aN, aD, zs, ds, rfl, pool, dr, q⟩ := h
    refine ⟨_, pss_cons (ps_set (i := 3) scAtom.nd rfl (.inl rfl) (pe_ix (r := rIxL K) ix_list (pv 1) (pe_call GT hr (by rfl) DT.mg DT.fn.kp DT.bd .nil pass0 (pa_cons (pv 0) (pa_cons (pe_callB call_len_seq (by rfl) B.len PySem.boot_len (pa_cons (pv 1) pa_nil)) pa_nil))) (fun _ _ => rfl)))
      (pss_one (ps_ret (pe_ix (r := rIxL K) ix_list (pe_lst (pa_cons (pe_tup (pa_cons pe_str (pa_cons (pv 3) pa_nil))) (pa_cons (pe_tup (pa_cons pe_str (pa_cons (pv 3) (pa_cons (pe_ix (r := rIxL K) ix_list (pv 2) (pe_call GT hr (by rfl) DT.mg DT.fn.kp DT.bd .nil pass0 (pa_cons (pv 0) (pa_cons (pe_callB call_len_seq (by rfl) B.len PySem.boot_len (pa_cons (pv 2) pa_nil)) pa_nil))) (fun _ _ => rfl)) pa_nil)))) (pa_cons (pe_tup (pa_cons pe_str (pa_cons (pv 3) pa_nil))) pa_nil)))) (pe_call GT hr (by rfl) DT.mg DT.fn.kp DT.bd .nil pass0 (pa_cons (pv 0) (pa_cons pe_int pa_nil))) (fun _ _ => rfl)))), ?_⟩
    obtain ⟨_, _, _, _, zn, dn, z1, d1⟩ := id dr
    refine ⟨_, rfl, _, rfl, _, rfl, aN, _, rfl, .inl (sqL dr.1), l, _, rfl, pool, by rw [List.length_map]; omega, fun H1 i1 b1 pool1 i10 i11 => ?_⟩
    obtain ⟨_, ex, z, rfl, zin⟩ := at_of (P := fun v => ∃ z : Str, v = .str z ∧ z ∈ zs) (xs := zs.map V.str) (d := i1) (fun x hx => by
      obtain ⟨z, hz, rfl⟩ := List.mem_map.mp hx
      exact ⟨z, rfl, hz⟩) i10 i11
    have dr1 := dr.bt b1
    refine ⟨aN, _, i1, _, rfl, rfl, sqL dr1.1, ex, ?_⟩
    refine ⟨_, rfl, by show 2 ≤ sizeLine; decide, fun t1 n1 => ?_⟩
    have h2 : SqT K (upd H1 t1 (.tup [.str "lives", .str z])) t1 [.str "lives", .str z] := sqT upd_same
    have s2 : Same H1 (upd H1 t1 (.tup [.str "lives", .str z])) := same_new n1
    revert h2 s2
    generalize upd H1 t1 (.tup [.str "lives", .str z]) = H2
    intro h2 s2
    have dr2 := dr1.same s2
    refine ⟨_, rfl, _, rfl, _, rfl, _, rfl, aD, _, rfl, .inl (sqL dr2.2.1), l, _, rfl, pool1.same s2, by rw [List.length_map]; omega, fun H3 i3 b3 pool3 i30 i31 => ?_⟩
    obtain ⟨_, ex3, j, rfl, jd, j0, j1⟩ := at_of (P := fun v => ∃ i : Int, v = .int i ∧ i ∈ ds ∧ -9999 ≤ i ∧ i ≤ 9999) (xs := ds.map V.int) (d := i3) (fun x hx => by
      obtain ⟨z, hz, rfl⟩ := List.mem_map.mp hx
      exact ⟨z, rfl, hz, dn z hz⟩) i30 i31
    have dr3 := dr2.bt b3
    refine ⟨aD, _, i3, _, rfl, rfl, sqL dr3.2.1, ex3, by show 3 ≤ sizeLine; decide, fun t2 n2 => ?_⟩
    refine ⟨_, rfl, by show 2 ≤ sizeLine; decide, fun t3 n3 => ⟨by show 3 ≤ sizeLine; decide, fun p4 n4 => ?_⟩⟩
    have tk3 := b3.tk (pool1.same s2).lst
    have c1 : Ck K zs ds 1 1 (upd (upd (upd H3 t2 (.tup [.str "lives", .str z, .int j])) t3 (.tup [.str "childless", .str z])) p4 (.lst [.ref t1, .ref t2, .ref t3])) (.ref t1) := ck_liv ((tk_new n4).sq ((tk_new n3).sq ((tk_new n2).sq (tk3.sq h2)))) (zn z zin) zin
    have c2 : Ck K zs ds 1 1 (upd (upd (upd H3 t2 (.tup [.str "lives", .str z, .int j])) t3 (.tup [.str "childless", .str z])) p4 (.lst [.ref t1, .ref t2, .ref t3])) (.ref t2) := ck_livAt ((tk_new n4).sq ((tk_new n3).sq (sqT upd_same))) (zn z zin) j0 j1 jd zin
    have c3 : Ck K zs ds 1 1 (upd (upd (upd H3 t2 (.tup [.str "lives", .str z, .int j])) t3 (.tup [.str "childless", .str z])) p4 (.lst [.ref t1, .ref t2, .ref t3])) (.ref t3) := ck_chl ((tk_new n4).sq (sqT upd_same)) (zn z zin) zin
    have h4 : (upd (upd (upd H3 t2 (.tup [.str "lives", .str z, .int j])) t3 (.tup [.str "childless", .str z])) p4 (.lst [.ref t1, .ref t2, .ref t3])) p4 = some (.lst [.ref t1, .ref t2, .ref t3]) := upd_same
    have s4 : Same H3 (upd (upd (upd H3 t2 (.tup [.str "lives", .str z, .int j])) t3 (.tup [.str "childless", .str z])) p4 (.lst [.ref t1, .ref t2, .ref t3])) := ((same_new n2).trans (same_new n3)).trans (same_new n4)
    have np4 : p4 ≠ l := fun e => (pool3.same ((same_new n2).trans (same_new n3))).ne n4 e.symm
    revert c1 c2 c3 h4 s4
    generalize upd (upd (upd H3 t2 (.tup [.str "lives", .str z, .int j])) t3 (.tup [.str "childless", .str z])) p4 (.lst [.ref t1, .ref t2, .ref t3]) = H4
    intro c1 c2 c3 h4 s4
    have pool4 := pool3.same s4
    refine ⟨_, rfl, l, 3, rfl, pool4, by decide, fun H5 i5 b5 pool5 i50 i51 => ?_⟩
    have tk5 := b5.tk pool4.lst
    obtain ⟨v, ex5, cv⟩ := at_of (P := fun v => Ck K zs ds 1 1 H5 v) (xs := [.ref t1, .ref t2, .ref t3]) (d := i5) (fun x hx => by
      simp only [List.mem_cons, List.not_mem_nil, or_false] at hx
      rcases hx with rfl | rfl | rfl
      · exact c1.tk tk5
      · exact c2.tk tk5
      · exact c3.tk tk5) i50 i51
    exact ⟨p4, _, i5, v, rfl, rfl, sqL (kept b5 h4 (by simp [np4])), ex5, q H5 v ((((b1.trans (.of_same s2)).trans b3).trans (.of_same s4)).trans b5) pool5 cv⟩
theorem cut_tup {H : Hp} {a : Addr} {xs : List V} {lo hi : Option Int} {Q : VK} (ha : SqT K H a xs) (q : ∀ p H', Same H H' → SqT K H' p (cutV xs lo hi) → Q (.ref p) H') : rSlA K (.ref a) lo hi H Q :=
  ⟨a, xs, rfl, ha, fun ⟨e1, e2⟩ => q a H (Same.refl H) (by unfold cutV; rw [e1, e2]; simpa using ha), fun _ p np => q p _ (same_new np) (sqT upd_same)⟩
def spLc (K : PySem.W.Frag) : Sp := fun vs H Q _ => ∃ (l aN aD : Addr) (zs : List Str) (ds : List Int), vs = [.ref l, .ref aN, .ref aD] ∧ PoolAt H l ∧ Drw H l aN aD zs ds ∧ ∀ (H' : Hp) (v : V), Bt [l] H H' → PoolAt H' l → (v = .non ∨ Ck K zs ds 4 4 H' v) → Q v H'
theorem row_at {xs : List V} (h : xs = [.str "or", .str "and"] ∨ xs = [.str "and", .str "or"]) {i : Int} : ∃ b, atI xs (i % 2) = some (.str (rowS b)) := by
  have hi : i % 2 = 0 ∨ i % 2 = 1 := by omega
  rcases h with rfl | rfl <;> rcases hi with e | e <;> rw [e]
  · exact ⟨false, rfl⟩
  · exact ⟨true, rfl⟩
  · exact ⟨true, rfl⟩
  · exact ⟨false, rfl⟩
theorem ok_lc {f fT fA : Addr} {fd fdT fdA : FuncData} {k : Nat} (B : Bi mg) (D : Df K mg "_law_cond" sLc f fd pAt) (DT : Df K mg "_law_take" sTake fT fdT ["_law_pool_here", "_law_many"]) (DA : Df K mg "_law_atom" sAtom fA fdA pAt) (GT : FnOk P w K mg base CX0 (k + 1) fT fdT ["_law_pool_here", "_law_many"] spTake) (GA : FnOk P w K mg base CX0 (k + 2) fA fdA pAt (spAt K)) : FnOk P w K mg base CX0 (k + 3) f fd pAt (spLc K) := by
  refine D.fn.ok scLc (fun vs H Q E h => ?_) (fun cdv A outer s H vs Q E hr h => ?_)
  · obtain ⟨l, aN, aD, zs, ds, rfl, _⟩ := h
    rfl
  · obtain ⟨l, aN, aD, zs, ds, rfl, pool, dr, q⟩ := h
    have r1 : Room (k + 1) _ := hr.mono (by omega)
    refine ⟨_, pss_cons (ps_set (i := 3) scLc.nd rfl (.inl rfl) (pe_call GT r1 (by rfl) DT.mg DT.fn.kp DT.bd .nil pass0 (pa_cons (pv 0) (pa_cons pe_int pa_nil))))
      (pss_cons (ps_if (pt_cmpR op_lt (pv 3) pe_int (nomark _)) (pss_one (ps_ret pe_non)) pss_nil)
      (pss_cons (ps_setLc (i := 5) (own := [("_law_turn", 4)]) (g := gName 4) (tt := tYes) rfl scLc.nd rfl rfl (sw_true rfl rfl rfl (by decide +kernel)) (pi_range1 (by rfl) B.range (pa_cons pe_int pa_nil)) (blkOk_by (own := [("_law_turn", 4)]) (N := nLc) (sc := defScope sLc) (by decide +kernel))
          (fun _ _ _ _ _ => pg_name (i := 4) scLc.nd rfl (Or.inl rfl)) (fun _ _ _ _ _ => pts_nil) (fun _ _ _ _ _ => pe_call GA hr (by rfl) DA.mg DA.fn.kp DA.bd .nil pass0 (pa_cons (pv 0) (pa_cons (pv 1) (pa_cons (pv 2) pa_nil)))))
      (pss_cons (ps_if (pt_cmpR op_eq (pv 3) pe_int (nomark _)) (pss_one (ps_ret (pe_ix (r := rIxL K) ix_list (pv 5) pe_int (fun _ _ => rfl)))) pss_nil)
      (pss_cons (ps_if (pt_cmpR op_eq (pv 3) pe_int (nomark _)) (pss_one (ps_ret (pe_tup (pa_cons pe_str (pa_cons (pe_ix (r := rIxL K) ix_list (pv 5) pe_int (fun _ _ => rfl)) pa_nil))))) pss_nil)
      (pss_cons (ps_set (i := 6) scLc.nd rfl (.inl rfl) (pe_tup (pa_cons (pe_ix (r := rIxL K) ix_list (pe_lst (pa_cons pe_str (pa_cons pe_str pa_nil))) (pe_op op_mod (pv 3) pe_int) (fun _ _ => rfl)) (pa_cons (pe_ix (r := rIxL K) ix_list (pv 5) pe_int (fun _ _ => rfl)) (pa_cons (pe_ix (r := rIxL K) ix_list (pv 5) pe_int (fun _ _ => rfl)) pa_nil)))))
      (pss_cons (ps_set (i := 7) scLc.nd rfl (.inl rfl) (pe_ix (r := rIxL K) ix_list (pe_lst (pa_cons (pe_tup (pa_cons pe_str (pa_cons (pv 6) pa_nil))) (pa_cons (pv 6) (pa_cons (pe_ix (r := rIxL K) ix_list (pv 5) pe_int (fun _ _ => rfl)) pa_nil)))) (pe_call GT r1 (by rfl) DT.mg DT.fn.kp DT.bd .nil pass0 (pa_cons (pv 0) (pa_cons pe_int pa_nil))) (fun _ _ => rfl)))
      (pss_one (ps_ret (pe_slice sl_tupA (pe_tup (pa_cons (pe_ix (r := rIxL K) ix_list (pe_lst (pa_cons pe_str (pa_cons pe_str pa_nil))) (pe_op op_mod (pv 3) pe_int) (fun _ _ => rfl)) (pa_cons (pe_ix (r := rIxL K) ix_list (pv 5) pe_int (fun _ _ => rfl)) (pa_cons (pe_ix (r := rIxL K) ix_list (pv 5) pe_int (fun _ _ => rfl)) (pa_cons (pv 7) pa_nil))))) po_none (po_some (pe_op op_add pe_int (pe_call GT r1 (by rfl) DT.mg DT.fn.kp DT.bd .nil pass0 (pa_cons (pv 0) (pa_cons pe_int pa_nil)))))))))))))), ?_⟩
    refine ⟨_, rfl, l, 6, rfl, pool, by decide, fun H1 way b1 pool1 w0 w1 => ⟨_, rfl, way, 2, rfl, rfl, _, rfl, ?_⟩⟩
    by_cases c2 : way < 2
    · rw [decide_eq_true c2]
      exact iteT (q H1 .non b1 pool1 (.inl rfl))
    rw [decide_eq_false c2]
    have dr1 := dr.bt b1
    refine iteF ⟨4, rfl, by decide, by decide, fun L nL => ?_⟩
    have nlL : L ≠ l := fun e => pool1.ne nL e.symm
    refine lc_it (walk_range (lo := 0) (n := 4)) (fun j H' => (∃ xs, H' L = some (.lst xs) ∧ xs.length = j ∧ ∀ x ∈ xs, Ck K zs ds 1 1 H' x) ∧ Bt [l] H1 H' ∧ PoolAt H' l) ⟨⟨[], upd_same, rfl, fun x hx => nomatch hx⟩, (Bt.refl H1).new nL, pool1.upd nlL.symm⟩ (fun _ _ _ _ => trivial) ?_ ?_
    · rintro j x H5 H6 hj ⟨⟨xs, hL, xl, cx⟩, b5, pool5⟩ ⟨rfl, rfl⟩
      refine ⟨rfl, tyes (iteT ⟨_, rfl, _, rfl, _, rfl, l, aN, aD, zs, ds, rfl, pool5, dr1.bt b5, fun H7 v b7 pool7 cv => ?_⟩)⟩
      have hL7 := kept b7 hL (by simp [nlL])
      refine ⟨_, hL7, ?_, ⟨xs ++ [v], upd_same, ?_, fun y hy => ?_⟩, (b5.trans b7).upd0 nL, pool7.upd nlL.symm⟩
      · rw [xl]
        exact small1000 (by omega)
      · rw [List.length_append, xl]
        rfl
      · rcases List.mem_append.mp hy with h | h
        · exact ((cx y h).tk (b7.tk pool5.lst)).tk (tk_lst hL7)
        · rw [List.mem_singleton.mp h]
          exact cv.tk (tk_lst hL7)
    rintro H5 ⟨⟨xs, hL, xl, cx⟩, b5, pool5⟩
    obtain ⟨x0, x1, x2, x3, rfl⟩ : ∃ x0 x1 x2 x3, xs = [x0, x1, x2, x3] := by
      match xs, xl with
      | [a, b, c, d], _ => exact ⟨a, b, c, d, rfl⟩
    have k0 := cx x0 (by simp)
    have k1 := cx x1 (by simp)
    have k2 := cx x2 (by simp)
    have k3 := cx x3 (by simp)
    have b05 := b1.trans b5
    refine ⟨_, rfl, rfl, _, rfl, ?_⟩
    by_cases e2 : way = 2
    · subst e2
      exact iteT ⟨_, rfl, L, _, 0, _, rfl, rfl, sqL hL, rfl, q H5 _ b05 pool5 (.inr (k0.mono (by decide) (by decide)))⟩
    rw [show decide (V.int way = V.int 2) = false by simp [e2]]
    refine iteF ⟨_, rfl, rfl, _, rfl, ?_⟩
    by_cases e3 : way = 3
    · subst e3
      refine iteT ⟨_, rfl, L, _, 0, _, rfl, rfl, sqL hL, rfl, by show 2 ≤ sizeLine; decide, fun t nt => q _ _ (b05.new nt) (pool5.same (same_new nt)) (.inr ?_)⟩
      exact (ck_neg (sqT upd_same) (k0.tk (tk_new nt))).mono (by decide) (by decide)
    rw [show decide (V.int way = V.int 3) = false by simp [e3]]
    refine iteF ?_
    obtain ⟨b, hb⟩ := row_at (xs := [.str "or", .str "and"]) (.inl rfl) (i := way)
    obtain ⟨c, hc⟩ := row_at (xs := [.str "and", .str "or"]) (.inr rfl) (i := way)
    refine ⟨by show 2 ≤ sizeLine; decide, fun pw npw => ⟨_, rfl, way, 2, rfl, rfl, (by show (0 : Int) < 2; decide), pw, _, _, _, rfl, rfl, sqL upd_same, hb, ?_⟩⟩
    have s6 : Same H5 (upd H5 pw (.lst [.str "or", .str "and"])) := same_new npw
    revert s6
    generalize upd H5 pw (.lst [.str "or", .str "and"]) = H6
    intro s6
    have hL6 := s6 _ _ hL
    refine ⟨_, rfl, L, _, 2, _, rfl, rfl, sqL hL6, rfl, _, rfl, L, _, 3, _, rfl, rfl, sqL hL6, rfl, by show 3 ≤ sizeLine; decide, fun ti nti => ?_⟩
    have s7 : Same H5 (upd H6 ti (.tup [.str (rowS b), x2, x3])) := s6.trans (same_new nti)
    have i7 : Ck K zs ds 2 2 (upd H6 ti (.tup [.str (rowS b), x2, x3])) (.ref ti) := ck_two (sqT upd_same) (k2.tk (tk_same s7)) (k3.tk (tk_same s7))
    revert s7 i7
    generalize upd H6 ti (.tup [.str (rowS b), x2, x3]) = H7
    intro s7 i7
    refine ⟨_, rfl, by show 2 ≤ sizeLine; decide, fun tn ntn => ?_⟩
    have s8 : Same H5 (upd H7 tn (.tup [.str "not", .ref ti])) := s7.trans (same_new ntn)
    have n8 : Ck K zs ds 3 2 (upd H7 tn (.tup [.str "not", .ref ti])) (.ref tn) := ck_neg (sqT upd_same) (i7.tk (tk_new ntn))
    have i8 := i7.tk (tk_new (o := .tup [.str "not", .ref ti]) ntn)
    revert s8 n8 i8
    generalize upd H7 tn (.tup [.str "not", .ref ti]) = H8
    intro s8 n8 i8
    refine ⟨_, rfl, _, rfl, L, _, 2, _, rfl, rfl, sqL (s8 _ _ hL), rfl, by show 3 ≤ sizeLine; decide, fun p9 n9 => ?_⟩
    have s9 : Same H5 (upd H8 p9 (.lst [.ref tn, .ref ti, x2])) := s8.trans (same_new n9)
    have h9 : (upd H8 p9 (.lst [.ref tn, .ref ti, x2])) p9 = some (.lst [.ref tn, .ref ti, x2]) := upd_same
    have n9' := n8.tk (tk_new (o := .lst [.ref tn, .ref ti, x2]) n9)
    have i9 := i8.tk (tk_new (o := .lst [.ref tn, .ref ti, x2]) n9)
    have np9 : p9 ≠ l := fun e => (pool5.same s8).ne n9 e.symm
    revert s9 h9 n9' i9
    generalize upd H8 p9 (.lst [.ref tn, .ref ti, x2]) = H9
    intro s9 h9 n9' i9
    have pool9 := pool5.same s9
    refine ⟨_, rfl, l, 3, rfl, pool9, by decide, fun H10 d10 b10 pool10 d100 d101 => ?_⟩
    have tk10 := b10.tk pool9.lst
    obtain ⟨x, ex, kx⟩ := at_of (P := fun v => Ck K zs ds 3 2 H10 v) (xs := [.ref tn, .ref ti, x2]) (d := d10) (fun y hy => by
      simp only [List.mem_cons, List.not_mem_nil, or_false] at hy
      rcases hy with rfl | rfl | rfl
      · exact n9'.tk tk10
      · exact (i9.tk tk10).mono (by decide) (by decide)
      · exact ((k2.tk (tk_same s9)).tk tk10).mono (by decide) (by decide)) d100 d101
    refine ⟨p9, _, d10, x, rfl, rfl, sqL (kept b10 h9 (by simp [np9])), ex, ?_⟩
    have b510 : Bt [l] H5 H10 := (Bt.of_same s9).trans b10
    have hL10 := kept b510 hL (by simp [nlL])
    have tk510 := b510.tk pool5.lst
    refine ⟨by show 2 ≤ sizeLine; decide, fun pw2 npw2 => ⟨_, rfl, way, 2, rfl, rfl, (by show (0 : Int) < 2; decide), pw2, _, _, _, rfl, rfl, sqL upd_same, hc, ?_⟩⟩
    have s11 : Same H10 (upd H10 pw2 (.lst [.str "and", .str "or"])) := same_new npw2
    revert s11
    generalize upd H10 pw2 (.lst [.str "and", .str "or"]) = H11
    intro s11
    have hL11 := s11 _ _ hL10
    refine ⟨_, rfl, L, _, 0, _, rfl, rfl, sqL hL11, rfl, _, rfl, L, _, 1, _, rfl, rfl, sqL hL11, rfl, _, rfl, by show 4 ≤ sizeLine; decide, fun tr ntr => ?_⟩
    have s12 : Same H10 (upd H11 tr (.tup [.str (rowS c), x0, x1, x])) := s11.trans (same_new ntr)
    have r12 : SqT K (upd H11 tr (.tup [.str (rowS c), x0, x1, x])) tr [.str (rowS c), x0, x1, x] := sqT upd_same
    revert s12 r12
    generalize upd H11 tr (.tup [.str (rowS c), x0, x1, x]) = H12
    intro s12 r12
    have pool12 := pool10.same s12
    refine ⟨_, rfl, l, 2, rfl, pool12, by decide, fun H13 e b13 pool13 e0 e1 => ⟨3, e, rfl, rfl, 3 + e, rfl, ?_⟩⟩
    have tk13 := b13.tk pool12.lst
    have tkA := (tk510.trans (tk_same s12)).trans tk13
    have k0' := k0.tk tkA
    have k1' := k1.tk tkA
    have kx' := (kx.tk (tk_same s12)).tk tk13
    refine cut_tup (tk13.sq r12) fun p H14 s14 sq => ?_
    have bb : Bt [l] H H14 := (((b05.trans b510).trans (.of_same s12)).trans b13).trans (.of_same s14)
    refine q H14 _ bb (pool13.same s14) (.inr ?_)
    have he : e = 0 ∨ e = 1 := by omega
    rcases he with rfl | rfl
    · exact (ck_two (b := c) sq ((k0'.tk (tk_same s14)).mono (m := 3) (c' := 1) (by decide) (by decide)) ((k1'.tk (tk_same s14)).mono (m := 3) (c' := 1) (by decide) (by decide))).mono (by decide) (by decide)
    · exact (ck_three (b := c) sq ((k0'.tk (tk_same s14)).mono (m := 3) (c' := 1) (by decide) (by decide)) ((k1'.tk (tk_same s14)).mono (m := 3) (c' := 1) (by decide) (by decide)) (kx'.tk (tk_same s14))).mono (by decide) (by decide)
end
end WdQ

set_option Elab.async false
set_option linter.all false
set_option maxRecDepth 100000
set_option maxHeartbeats 4000000
set_option exponentiation.threshold 5000
namespace WdQ
open PySem PySem.Spec PyProof.Rows L2 WdM Wd
abbrev sDeaths : Stmt := topS 63
def nDeaths : List Str := ["_law_pool_here", "_law_folk", "_law_dawns", "_law_found", "_law_one", "_law_near", "_law_day"]
theorem scDeaths : FnScope nDeaths ["_law_pool_here", "_law_folk", "_law_dawns"] (defScope sDeaths) := ⟨rfl, rfl, rfl, by decide +kernel, rfl, by decide +kernel, by decide +kernel⟩
section
variable {P : Program} {w : World} {K : PySem.W.Frag} {mg : Str → Option Value} {base : Heap}
def rowD (r : Str × Int) : List V := [.str r.1, .int r.2]
def spDeaths (K : PySem.W.Frag) : Sp := fun vs H Q _ => ∃ (l aN aD : Addr) (zs : List Str) (ds : List Int), vs = [.ref l, .ref aN, .ref aD] ∧ PoolAt H l ∧ H aN = some (.lst (zs.map V.str)) ∧ H aD = some (.lst (ds.map V.int)) ∧ aD ≠ l ∧ zs.Nodup ∧ (∀ z ∈ zs, Nm z) ∧ zs.length ≤ 8 ∧ 1 ≤ ds.length ∧ ds.length ≤ 100 ∧
  ∀ (H' : Hp) (p : Addr) (rows : List (Str × Int)), Bt [l] H H' → PoolAt H' l → DeathsAt K H' (.ref p) rows → GoodD rows → (∀ r ∈ rows, r.1 ∈ zs) → Q (.ref p) H'
theorem ok_deaths {f fT : Addr} {fd fdT : FuncData} {k : Nat} (B : Bi mg) (nS : mg "sorted" = none) (D : Df K mg "_law_deaths" sDeaths f fd ["_law_pool_here", "_law_folk", "_law_dawns"]) (DT : Df K mg "_law_take" sTake fT fdT ["_law_pool_here", "_law_many"])
    (GT : FnOk P w K mg base CX0 (k + 1) fT fdT ["_law_pool_here", "_law_many"] spTake) : FnOk P w K mg base CX0 (k + 2) f fd ["_law_pool_here", "_law_folk", "_law_dawns"] (spDeaths K) := by
  refine D.fn.ok scDeaths (fun vs H Q E h => ?_) (fun cdv A outer s H vs Q E hr h => ?_)
  · obtain ⟨l, aN, aD, zs, ds, rfl, _⟩ := h
    rfl
  · obtain ⟨l, aN, aD, zs, ds, rfl, pool, hN, hD, nDl, nd, nm, z8, d1, d100, q⟩ := h
    refine ⟨_, pss_cons (ps_set (i := 3) scDeaths.nd rfl (.inl rfl) (pe_lst pa_nil))
      (pss_cons (ps_for PassesOwn.never rfl (pi_list (pe_callB cr_sortedS (by rfl) nS (by decide +kernel) (pa_cons (pv 1) pa_nil))) (pg_name (i := 4) scDeaths.nd rfl (.inl rfl))
        (pss_cons (ps_set (i := 5) scDeaths.nd rfl (.inl rfl) (pe_op op_sub (pe_op op_add (pe_ix (r := rIxL K) ix_list (pv 2) (pe_call GT hr (by rfl) DT.mg DT.fn.kp DT.bd .nil pass0 (pa_cons (pv 0) (pa_cons (pe_callB call_len_seq (by rfl) B.len PySem.boot_len (pa_cons (pv 2) pa_nil)) pa_nil))) (fun _ _ => rfl)) (pe_call GT hr (by rfl) DT.mg DT.fn.kp DT.bd .nil pass0 (pa_cons (pv 0) (pa_cons pe_int pa_nil)))) pe_int))
        (pss_cons (ps_set (i := 6) scDeaths.nd rfl (.inl rfl) (pe_ix (r := rIxL K) ix_list (pe_lst (pa_cons (pv 5) (pa_cons (pe_op op_sub (pe_call GT hr (by rfl) DT.mg DT.fn.kp DT.bd .nil pass0 (pa_cons (pv 0) (pa_cons pe_int pa_nil))) pe_int) pa_nil))) (pe_call GT hr (by rfl) DT.mg DT.fn.kp DT.bd .nil pass0 (pa_cons (pv 0) (pa_cons pe_int pa_nil))) (fun _ _ => rfl)))
        (pss_one (ps_if (pt_cmpR op_eq (pe_call GT hr (by rfl) DT.mg DT.fn.kp DT.bd .nil pass0 (pa_cons (pv 0) (pa_cons pe_int pa_nil))) pe_int (nomark _))
          (pss_one (ps_expr (pe_bm PySem.F.plainAttrs_list PySem.F.slot_list_append PySem.F.type_list_append mt_append (pv 3) (pa_cons (pe_tup (pa_cons (pv 4) (pa_cons (pe_callB (call_max2 rfl) (by rfl) B.max (by decide +kernel) (pa_cons (pe_un un_neg pe_int) (pa_cons (pe_callB (call_min2 rfl) (by rfl) B.min (by decide +kernel) (pa_cons pe_int (pa_cons (pv 6) pa_nil))) pa_nil))) pa_nil))) pa_nil)))) pss_nil)))))
      (pss_one (ps_ret (pe_callTy call_tuple_of (by rfl) B.tuple boot_tuple (pa_cons (pv 3) pa_nil))))), ?_⟩
    refine ⟨by show 0 ≤ sizeLine; decide, fun aF nF => ?_⟩
    have hN1 : (upd H aF (.lst [])) aN = some (.lst (zs.map V.str)) := by rw [upd_ne (ne_of_none hN nF)]; exact hN
    refine ⟨_, rfl, aN, zs, rfl, sqL hN1, by omega, fun ys p perm srt np => ?_⟩
    have ny : ys.Nodup := perm.nodup_iff.mpr nd
    have pw := sorted_pw srt ny
    have y8 : ys.length ≤ 8 := by rw [perm.length_eq]; exact z8
    have nmy : ∀ z ∈ ys, Nm z := fun z hz => nm z (perm.mem_iff.mp hz)
    have npF : aF ≠ p := ne_of_none upd_same np
    have nFl : aF ≠ l := fun e => pool.ne nF e.symm
    have s1 : Same H (upd (upd H aF (.lst [])) p (.lst (ys.map V.str))) := (same_new nF).trans (same_new np)
    have hp2 : (upd (upd H aF (.lst [])) p (.lst (ys.map V.str))) p = some (.lst (ys.map V.str)) := upd_same
    have hF2 : (upd (upd H aF (.lst [])) p (.lst (ys.map V.str))) aF = some (.lst []) := by rw [upd_ne npF]; exact upd_same
    have npl : p ≠ l := fun e => by
      have := (pool.same (same_new nF)).ne np
      exact this e.symm
    revert s1 hp2 hF2
    generalize upd (upd H aF (.lst [])) p (.lst (ys.map V.str)) = H2
    intro s1 hp2 hF2
    have pool2 := pool.same s1
    have hD2 := s1 _ _ hD
    refine ⟨p, rfl, ⟨_, sqL hp2⟩, for_list (K := K) (a := p) (xs := ys.map V.str) (fun i σ H' => (∃ y4 y5 y6 : Option V, σ = [some (.ref l), some (.ref aN), some (.ref aD), some (.ref aF), y4, y5, y6]) ∧ H' aD = some (.lst (ds.map V.int)) ∧ H' p = some (.lst (ys.map V.str)) ∧ (∃ (xs : List V) (rows : List (Str × Int)), H' aF = some (.lst xs) ∧ xs.length = rows.length ∧ (rows.map Prod.fst).Sublist (ys.take i) ∧ (∀ r ∈ rows, -9999 ≤ r.2 ∧ r.2 ≤ 9999) ∧ (∀ (j : Nat) (x : V), xs[j]? = some x → ∃ (a : Addr) (r : Str × Int), x = .ref a ∧ rows[j]? = some r ∧ SqT K H' a (rowD r))) ∧ Bt [l] H H' ∧ PoolAt H' l)
      ⟨⟨none, none, none, rfl⟩, hD2, hp2, ⟨[], [], hF2, rfl, List.Sublist.refl _, (fun r hr => nomatch hr), (fun j x hx => nomatch hx)⟩, Bt.of_same s1, pool2⟩ (fun i σ H' _ h => sqL h.2.2.1) ?_ ?_⟩
    · rintro i x σ H4 hx ⟨⟨y4, y5, y6, rfl⟩, hD4, hp4, ⟨xs, rows, hF4, xl, sub, dy, hrow⟩, b4, pool4⟩
      obtain ⟨z, hz, rfl⟩ : ∃ z, ys[i]? = some z ∧ x = .str z := by
        rw [List.getElem?_map] at hx
        cases hc : ys[i]? with
        | none => rw [hc] at hx; cases hx
        | some y => rw [hc] at hx; cases hx; exact ⟨y, rfl, rfl⟩
      have r8 : rows.length ≤ 8 := by
        have := sub.length_le
        rw [List.length_map, List.length_take] at this
        omega
      refine ⟨_, rfl, _, rfl, _, rfl, aD, _, rfl, .inl (sqL hD4), l, _, rfl, pool4, by rw [List.length_map]; omega, fun H5 d5 b5 pool5 d50 d51 => ?_⟩
      rw [List.length_map] at d51
      obtain ⟨v5, e5, i5, rfl⟩ := at_of (P := fun v => ∃ i, v = .int i) (xs := ds.map V.int) (d := d5) (fun x hx => by
        obtain ⟨z, hz, rfl⟩ := List.mem_map.mp hx
        exact ⟨z, rfl⟩) d50 (by rw [List.length_map]; exact d51)
      have hD5 := kept b5 hD4 (by simp [nDl])
      refine ⟨aD, _, d5, _, rfl, rfl, sqL hD5, e5, ?_⟩
      refine ⟨_, rfl, l, 3, rfl, pool5, by decide, fun H6 d6 b6 pool6 d60 d61 => ⟨i5, d6, rfl, rfl, _, 1, rfl, rfl, ?_⟩⟩
      refine ⟨_, rfl, _, rfl, l, 19999, rfl, pool6, by decide, fun H7 d7 b7 pool7 d70 d71 => ⟨d7, 9999, rfl, rfl, by show 2 ≤ sizeLine; decide, fun pL nL => ?_⟩⟩
      have nlL : l ≠ pL := pool7.ne nL
      refine ⟨_, rfl, l, 2, rfl, pool7.upd nlL, by decide, fun H8 d8 b8 pool8 d80 d81 => ?_⟩
      obtain ⟨v8, e8, i8, rfl⟩ := at_of (P := fun v => ∃ i, v = .int i) (xs := [.int (i5 + d6 - 1), .int (d7 - 9999)]) (d := d8) (fun x hx => by
        simp only [List.mem_cons, List.not_mem_nil, or_false] at hx
        rcases hx with rfl | rfl <;> exact ⟨_, rfl⟩) d80 (by show d8 < 2; omega)
      refine ⟨pL, _, d8, _, rfl, rfl, sqL (kept b8 upd_same (by simp [nlL.symm])), e8, ?_⟩
      have b48 : Bt [l] H4 H8 := ((b5.trans (b6.trans b7)).new nL).trans b8
      refine ⟨_, rfl, l, 2, rfl, pool8, by decide, fun H9 d9 b9 pool9 d90 d91 => ⟨rfl, _, rfl, ?_⟩⟩
      have b49 := b48.trans b9
      have tk9 : Tk H4 H9 := b49.tk pool4.lst
      have hD9 := kept b49 hD4 (by simp [nDl])
      have hp9 := kept b49 hp4 (by simp [npl])
      have hF9 := kept b49 hF4 (by simp [nFl])
      have more : (ys.take i).Sublist (ys.take (i + 1)) := by
        rw [take_more hz]
        exact List.sublist_append_left _ _
      by_cases dp : d9 = 0
      rotate_left
      · rw [show decide (V.int d9 = V.int 0) = false by simp [dp]]
        exact iteF ⟨⟨_, _, _, rfl⟩, hD9, hp9, ⟨xs, rows, hF9, xl, sub.trans more, dy, rows_tk tk9 hrow⟩, b4.trans b49, pool9⟩
      rw [show decide (V.int d9 = V.int 0) = true by simp [dp]]
      refine iteT ⟨_, rfl, .inl ⟨rfl, _, sqL hF9⟩, _, rfl, 9999, rfl, _, rfl, 9999, i8, rfl, -9999, _, rfl, by show 2 ≤ sizeLine; decide, fun tp ntp => ?_⟩
      have dd : ∃ e : Int, (if (if i8 < 9999 then i8 else 9999) > -9999 then (if i8 < 9999 then i8 else 9999) else -9999) = e ∧ -9999 ≤ e ∧ e ≤ 9999 := ⟨_, rfl, by split <;> split at * <;> omega, by split <;> split at * <;> omega⟩
      obtain ⟨e, ee, e0, e1⟩ := dd
      rw [ee]
      have nlt : l ≠ tp := pool9.ne ntp
      have hF6 : (upd H9 tp (.tup [.str z, .int e])) aF = some (.lst xs) := by rw [upd_ne (ne_of_none hF9 ntp)]; exact hF9
      have hD6 : (upd H9 tp (.tup [.str z, .int e])) aD = some (.lst (ds.map V.int)) := by rw [upd_ne (ne_of_none hD9 ntp)]; exact hD9
      have hp6 : (upd H9 tp (.tup [.str z, .int e])) p = some (.lst (ys.map V.str)) := by rw [upd_ne (ne_of_none hp9 ntp)]; exact hp9
      have tk6 : Tk H4 (upd H9 tp (.tup [.str z, .int e])) := tk9.trans (tk_new ntp)
      have sN : SqT K (upd H9 tp (.tup [.str z, .int e])) tp (rowD (z, e)) := sqT upd_same
      have bb : Bt [l] H (upd H9 tp (.tup [.str z, .int e])) := (b4.trans b49).new ntp
      have pool10 := pool9.upd (o := .tup [.str z, .int e]) nlt
      revert hF6 hD6 hp6 tk6 sN bb pool10
      generalize upd H9 tp (.tup [.str z, .int e]) = H10
      intro hF6 hD6 hp6 tk6 sN bb pool10
      have tk7 : Tk H10 (upd H10 aF (.lst (xs ++ [.ref tp]))) := tk_lst hF6
      refine ⟨aF, xs, .ref tp, rfl, rfl, hF6, by rw [xl]; exact Nat.lt_of_lt_of_le (show rows.length < 9 by omega) (by decide), ⟨_, _, _, rfl⟩, ?_, ?_, ⟨xs ++ [.ref tp], rows ++ [(z, e)], upd_same, ?_, ?_, ?_, ?_⟩, bb.upd0 nF, pool10.upd nFl.symm⟩
      · rw [upd_ne (ne_of_none hD nF)]
        exact hD6
      · rw [upd_ne npF.symm]
        exact hp6
      · rw [List.length_append, List.length_append, xl]
        rfl
      · rw [List.map_append, take_more hz]
        exact List.Sublist.append sub (List.Sublist.refl _)
      · intro r hr
        rcases List.mem_append.mp hr with h | h
        · exact dy r h
        · rw [List.mem_singleton.mp h]
          exact ⟨e0, e1⟩
      · exact rows_tk tk7 (rows_snoc (f := rowD) xl (rows_tk tk6 hrow) sN)
    · rintro σ H4 ⟨⟨y4, y5, y6, rfl⟩, hD4, hp4, ⟨xs, rows, hF4, xl, sub, dy, hrow⟩, b4, pool4⟩
      have sub : (rows.map Prod.fst).Sublist ys := sub.trans (List.take_sublist _ _)
      have r8 : rows.length ≤ 8 := by
        have := sub.length_le
        rw [List.length_map] at this
        omega
      refine ⟨_, rfl, aF, xs, rfl, .inl ⟨sqL hF4, fun tp ntp => q _ _ rows (b4.new ntp) (pool4.upd (pool4.ne ntp)) ⟨tp, xs, rfl, sqT upd_same, xl, rows_tk (tk_new ntp) hrow⟩ ⟨r8, fun r hr => ?_, dy, fun j r s h1 h2 => ?_⟩ fun r hr => perm.mem_iff.mp (sub.subset (List.mem_map_of_mem hr))⟩⟩
      · have := nmy r.1 (sub.subset (List.mem_map_of_mem hr))
        exact ⟨this.name, by have := this.1.2.2; omega⟩
      · exact pw_next (pw.sublist sub) (by rw [List.getElem?_map, h1]; rfl) (by rw [List.getElem?_map, h2]; rfl)
end
end WdQ

set_option Elab.async false
set_option linter.all false
set_option maxRecDepth 100000
set_option maxHeartbeats 4000000
set_option exponentiation.threshold 5000
namespace WdQ
open PySem PySem.Spec PyProof.Rows L2 WdM Wd
/-! ### conditions by what they come to -/
structure Val (F : List (Str × Option Str)) (D : List (Str × Int)) (m : Int) (n c : Nat) (d : PyData) (b : Bool) : Prop where
  f : formB n d = true
  l : (namesN n d).length ≤ c
  i : ∀ z ∈ namesN n d, z ∈ F.map Prod.fst
  v : comeN F D m n d = b
section
variable {F : List (Str × Option Str)} {D : List (Str × Int)} {m : Int} {n n' c c' : Nat} {d e : PyData} {b b' : Bool} {z : Str}
theorem Val.mono (h : Val F D m n c d b) (l : n ≤ n') (lc : c ≤ c') : Val F D m n' c' d b := by
  obtain ⟨f, e1, e2⟩ := form_more (F := F) (D := D) (m := m) h.f l
  exact ⟨f, by rw [e1]; have := h.l; omega, by rw [e1]; exact h.i, by rw [e2]; exact h.v⟩
theorem Val.neg (h : Val F D m n c d b) : Val F D m (n + 1) c (.tuple [.str "not", d]) (!b) :=
  ⟨form_neg h.f, by rw [names_neg]; exact h.l, by rw [names_neg]; exact h.i, by rw [come_neg, h.v]⟩
theorem val_liv (hz : nmB z = true) (iz : z ∈ F.map Prod.fst) : Val F D m 1 1 (.tuple [.str "lives", .str z]) (aliveB D z m) :=
  ⟨form_liv hz, Nat.le_refl _, fun y hy => by rw [List.mem_singleton.mp (show y ∈ [z] from hy)]; exact iz, come_liv⟩
theorem val_livAt {j : Int} (hz : nmB z = true) (iz : z ∈ F.map Prod.fst) (j0 : -9999 ≤ j) (j1 : j ≤ 9999) : Val F D m 1 1 (.tuple [.str "lives", .str z, .int j]) (aliveB D z j) :=
  ⟨form_livAt hz j0 j1, Nat.le_refl _, fun y hy => by rw [List.mem_singleton.mp (show y ∈ [z] from hy)]; exact iz, come_livAt⟩
/-- conditions and what they come to, one by one -/
def Vals2 (F : List (Str × Option Str)) (D : List (Str × Int)) (m : Int) (n c : Nat) (ds : List PyData) (bs : List Bool) : Prop := ds.length = bs.length ∧ ∀ (i : Nat) (d : PyData), ds[i]? = some d → ∃ b, bs[i]? = some b ∧ Val F D m n c d b
theorem Vals2.nil : Vals2 F D m n c [] [] := ⟨rfl, fun i d h => by simp at h⟩
theorem Vals2.cons {ds : List PyData} {bs : List Bool} (h : Val F D m n c d b) (t : Vals2 F D m n c ds bs) : Vals2 F D m n c (d :: ds) (b :: bs) := ⟨by rw [List.length_cons, List.length_cons, t.1], fun i e he => by
  cases i with
  | zero => cases he; exact ⟨b, rfl, h⟩
  | succ i => exact t.2 i e he⟩
theorem Vals2.tail {ds : List PyData} {bs : List Bool} (t : Vals2 F D m n c (d :: ds) (b :: bs)) : Val F D m n c d b ∧ Vals2 F D m n c ds bs := by
  refine ⟨?_, by have := t.1; simpa using this, fun i e he => t.2 (i + 1) e he⟩
  obtain ⟨b', e, v⟩ := t.2 0 d rfl
  cases e
  exact v
theorem Vals2.val : ∀ {ds : List PyData} {bs : List Bool}, Vals2 F D m n c ds bs → ds.map (comeN F D m n) = bs ∧ ((ds.map (namesN n)).flatten).length ≤ ds.length * c ∧ (∀ z ∈ (ds.map (namesN n)).flatten, z ∈ F.map Prod.fst) ∧ ∀ d ∈ ds, formB n d = true
  | [], [], _ => ⟨rfl, Nat.zero_le _, fun z hz => (List.not_mem_nil hz).elim, fun z hz => (List.not_mem_nil hz).elim⟩
  | [], _ :: _, h => by have := h.1; simp at this
  | _ :: _, [], h => by have := h.1; simp at this
  | d :: ds, b :: bs, h => by
    obtain ⟨v, t⟩ := h.tail
    obtain ⟨e, l, i, f⟩ := Vals2.val t
    refine ⟨by rw [List.map_cons, e, v.v], ?_, fun z hz => ?_, fun x hx => (List.mem_cons.mp hx).elim (fun e => e ▸ v.f) (f x)⟩
    · rw [List.map_cons, List.flatten_cons, List.length_append, List.length_cons, Nat.add_mul]
      have := v.l
      omega
    · rw [List.map_cons, List.flatten_cons] at hz
      exact (List.mem_append.mp hz).elim (v.i z) (i z)
theorem all_map {α : Type} (f : α → Bool) (xs : List α) : xs.all f = (xs.map f).all id := by rw [List.all_map]; rfl
theorem any_map {α : Type} (f : α → Bool) (xs : List α) : xs.any f = (xs.map f).any id := by rw [List.any_map]; rfl
theorem Vals2.row (w : Bool) {ds : List PyData} {bs : List Bool} (h : Vals2 F D m n c ds bs) (l2 : 2 ≤ ds.length) (l6 : ds.length ≤ 6) : Val F D m (n + 1) (ds.length * c) (.tuple (.str (rowS w) :: ds)) (if w then bs.all id else bs.any id) := by
  obtain ⟨e, l, i, f⟩ := h.val
  refine ⟨form_row l2 l6 f, by rw [names_row]; exact l, by rw [names_row]; exact i, ?_⟩
  cases w
  · rw [show rowS false = "or" from rfl, come_or, any_map, e]
    rfl
  · rw [show rowS true = "and" from rfl, come_and, all_map, e]
    rfl
theorem Vals2.map {ds : List PyData} {bs : List Bool} {g : PyData → PyData} {h : Bool → Bool} (t : Vals2 F D m n c ds bs) (k : ∀ d b, Val F D m n c d b → Val F D m n' c' (g d) (h b)) : Vals2 F D m n' c' (ds.map g) (bs.map h) := ⟨by rw [List.length_map, List.length_map, t.1], fun i e he => by
  rw [List.getElem?_map] at he
  cases hc : ds[i]? with
  | none => rw [hc] at he; cases he
  | some d =>
    rw [hc] at he
    cases he
    obtain ⟨b, e1, v⟩ := t.2 i d hc
    exact ⟨h b, by rw [List.getElem?_map, e1]; rfl, k d b v⟩⟩
theorem Vals2.reverse {ds : List PyData} {bs : List Bool} (t : Vals2 F D m n c ds bs) : Vals2 F D m n c ds.reverse bs.reverse := ⟨by rw [List.length_reverse, List.length_reverse, t.1], fun i e he => by
  have hi := lt_get he
  rw [List.length_reverse] at hi
  rw [List.getElem?_reverse hi] at he
  obtain ⟨b, e1, v⟩ := t.2 _ e he
  refine ⟨b, ?_, v⟩
  rw [List.getElem?_reverse (by rw [← t.1]; exact hi), ← t.1]
  exact e1⟩
theorem Val.ok (h : Val F D m 6 12 d b) : condNB d = true ∧ missN (F.map Prod.fst) (namesO d) = none ∧ comeO F D m d = b := by
  obtain ⟨_, _, _, _, _, rfl, _⟩ := form_shape h.f
  exact ⟨condNB_of h.f h.l, List.find?_eq_none.mpr fun z hz => by rw [inV_str.mpr (h.i z hz)]; decide, h.v⟩
end
section
variable {K : PySem.W.Frag} {CH CY CD CP : Addr}
theorem cat_tup {H : Hp} {a b : Addr} {xs ys : List V} {Q : VK} (ha : SqT K H a xs) (hb : SqT K H b ys) (l : xs.length + ys.length ≤ 100) (q : ∀ p H', Same H H' → SqT K H' p (xs ++ ys) → Q (.ref p) H') : rCatA K (.ref a) (.ref b) H Q :=
  ⟨a, b, xs, ys, rfl, rfl, ha, hb, Nat.le_trans l (by decide), fun e => q b H (Same.refl H) (by rw [e]; exact hb), fun _ e => q a H (Same.refl H) (by rw [e, List.append_nil]; exact ha), fun _ _ p np => q p _ (same_new np) (sqT upd_same)⟩
theorem passNoP {X : Cx} : Passes (L2.CX X.prog X.w) X E0 := fun _ _ _ _ _ _ _ h => by
  obtain ⟨_, _, _, _, _, _, _, _, _, _, _, _, h⟩ := h
  exact h.elim
/-- conditions in a list, of these names -/
def Tms (K : PySem.W.Frag) (zs : List Str) (dys : List Int) (H : Hp) (a : Addr) (xs : List V) (ds : List PyData) : Prop := H a = some (.lst xs) ∧ DzAll [] K H xs ds ∧ (∀ d ∈ ds, formB 4 d = true ∧ (namesN 4 d).length ≤ 4 ∧ (∀ z ∈ namesN 4 d, z ∈ zs) ∧ ∀ i ∈ daysN 4 d, i ∈ dys) ∧ 2 ≤ ds.length ∧ ds.length ≤ 3
theorem Tms.same {zs : List Str} {dys : List Int} {H H' : Hp} {a : Addr} {xs : List V} {ds : List PyData} (h : Tms K zs dys H a xs ds) (e : Same H H') : Tms K zs dys H' a xs ds := ⟨e _ _ h.1, h.2.1.same e, h.2.2⟩
theorem Tms.vals {F : List (Str × Option Str)} {D : List (Str × Int)} {m : Int} {dys : List Int} {H : Hp} {a : Addr} {xs : List V} {ds : List PyData} (h : Tms K (F.map Prod.fst) dys H a xs ds) : Vals2 F D m 4 4 ds (ds.map (comeN F D m 4)) := ⟨by rw [List.length_map], fun i d hd => ⟨_, by rw [List.getElem?_map, hd]; rfl, by
  obtain ⟨f, l, i, _⟩ := h.2.2.1 d (List.mem_of_getElem? hd)
  exact ⟨f, l, i, rfl⟩⟩⟩
theorem Vals2.mono {F : List (Str × Option Str)} {D : List (Str × Int)} {m : Int} {n c n' c' : Nat} {ds : List PyData} {bs : List Bool} (t : Vals2 F D m n c ds bs) (l : n ≤ n') (lc : c ≤ c') : Vals2 F D m n' c' ds bs := ⟨t.1, fun i d hd => by
  obtain ⟨b, e, v⟩ := t.2 i d hd
  exact ⟨b, e, v.mono l lc⟩⟩
def pCo : List Str := ["house", "cond", "story", "wait"]
/-- what is asked of comes, as a whole -/
structure SpCm (K : PySem.W.Frag) (CH CY CD CP : Addr) (vs : List V) (H : Hp) (Q : VK) (E : XK) : Prop where
  it : spComes K CH CY CD CP vs H Q E
theorem comes_go {H : Hp} {Q : VK} {E : XK} {ho so : Addr} {v : V} {d : PyData} {b : Bool} {m : Int} {F : List (Str × Option Str)} {D : List (Str × Int)} (home : HomeAt K CH H ho F) (tale : StoryAt K CY H so D) (dz : Dz [] K H v d) (vl : Val F D m 6 12 d b) (m0 : -9999 ≤ m) (m1 : m ≤ 9999) (q : ∀ H', Same H H' → Q (.bl b) H') : SpCm K CH CY CD CP [.ref ho, v, .ref so, .int m] H Q E :=
  have dy : dayB (.int m) = true := decide_eq_true ⟨m0, m1⟩
  ⟨⟨[], ho, so, v, .int m, d, .int m, F, D, rfl, home, tale, dz, cond_sml vl.ok.1, vl.ok.1, .int m, fun h => absurd (dy.symm.trans h) (by decide), (fun m' z _ _ h => by rw [vl.ok.2.1] at h; cases h), fun m' e _ _ H' s => by cases e; rw [vl.ok.2.2]; exact q H' s⟩⟩
end
end WdQ

set_option Elab.async false
set_option linter.all false
set_option maxRecDepth 100000
set_option maxHeartbeats 4000000
set_option exponentiation.threshold 5000
namespace WdQ
open PySem PySem.Spec PyProof.Rows L2 WdM Wd
abbrev sAw : Stmt := topS 64
def pAw : List Str := ["_law_estate", "_law_terms", "_law_tale", "_law_least"]
def nAw : List Str := ["_law_estate", "_law_terms", "_law_tale", "_law_least", "_law_term", "_law_known", "_law_one", "_law_due", "_law_some", "_law_other", "_law_word", "_law_row", "_law_back", "_law_nots"]
theorem scAw : FnScope nAw pAw (defScope sAw) := ⟨rfl, rfl, rfl, by decide +kernel, rfl, by decide +kernel, by decide +kernel⟩
theorem dzall_snoc {S : List Addr} {K : PySem.W.Frag} {H : Hp} : ∀ {xs : List V} {ds : List PyData} {x : V} {d : PyData}, DzAll S K H xs ds → Dz S K H x d → DzAll S K H (xs ++ [x]) (ds ++ [d])
  | _, _, _, _, .nil, h => .cons h .nil
  | _, _, _, _, .cons h1 t, h => .cons h1 (dzall_snoc t h)
theorem dzall_rev {S : List Addr} {K : PySem.W.Frag} {H : Hp} : ∀ {xs : List V} {ds : List PyData}, DzAll S K H xs ds → DzAll S K H xs.reverse ds.reverse
  | _, _, .nil => .nil
  | _, _, .cons h t => by
    rw [List.reverse_cons, List.reverse_cons]
    exact dzall_snoc (dzall_rev t) h
theorem dzall_of {S : List Addr} {K : PySem.W.Frag} {H : Hp} : ∀ {xs : List V} {ds : List PyData}, xs.length = ds.length → (∀ (i : Nat) (x : V), xs[i]? = some x → ∃ d, ds[i]? = some d ∧ Dz S K H x d) → DzAll S K H xs ds
  | [], [], _, _ => .nil
  | [], _ :: _, l, _ => by simp at l
  | _ :: _, [], l, _ => by simp at l
  | x :: xs, d :: ds, l, h => by
    obtain ⟨d', e, z⟩ := h 0 x rfl
    cases e
    exact .cons z (dzall_of (by simpa using l) fun i y hy => h (i + 1) y hy)
def notD (d : PyData) : PyData := .tuple [.str "not", d]
def someD (d : PyData) : List PyData := [notD (notD d), .tuple [.str (rowS true), d, d], .tuple [.str (rowS false), d, d]]
theorem some_vals {F : List (Str × Option Str)} {D : List (Str × Int)} {m : Int} {d : PyData} {b : Bool} (v : Val F D m 4 4 d b) : Vals2 F D m 6 12 (someD d) [b, b, b] := by
  have two : Vals2 F D m 4 4 [d, d] [b, b] := .cons v (.cons v .nil)
  have e1 := v.neg.neg
  have e2 := (two.row true (by show 2 ≤ 2; decide) (by show 2 ≤ 6; decide)).mono (n' := 6) (c' := 12) (by decide) (by show 2 * 4 ≤ 12; decide)
  have e3 := (two.row false (by show 2 ≤ 2; decide) (by show 2 ≤ 6; decide)).mono (n' := 6) (c' := 12) (by decide) (by show 2 * 4 ≤ 12; decide)
  rw [Bool.not_not] at e1
  rw [show (if true = true then [b, b].all id else [b, b].any id) = b by cases b <;> rfl] at e2
  rw [show (if false = true then [b, b].all id else [b, b].any id) = b by cases b <;> rfl] at e3
  exact .cons (e1.mono (by decide) (by decide)) (.cons e2 (.cons e3 .nil))
def dueB (w : Bool) (bs : List Bool) : Bool := if w then bs.all id else bs.any id
theorem nots_val {w : Bool} : ∀ {bs : List Bool}, dueB (!w) (bs.map not) = !dueB w bs := by
  intro bs
  unfold dueB
  induction bs with
  | nil => cases w <;> rfl
  | cons b bs ih =>
    cases w
    · have ih : (bs.map not).all id = !bs.any id := ih
      show ((b :: bs).map not).all id = !(b :: bs).any id
      rw [List.map_cons, List.all_cons, List.any_cons, ih]
      cases b <;> simp
    · have ih : (bs.map not).any id = !bs.all id := ih
      show ((b :: bs).map not).any id = !(b :: bs).all id
      rw [List.map_cons, List.any_cons, List.all_cons, ih]
      cases b <;> simp
theorem rev_val {w : Bool} {bs : List Bool} : dueB w bs.reverse = dueB w bs := by
  unfold dueB
  cases w
  · show bs.reverse.any id = bs.any id
    rw [List.any_reverse]
  · show bs.reverse.all id = bs.all id
    rw [List.all_reverse]
theorem not_at {w : Bool} : atI [V.str "or", V.str "and"] (if decide (V.str (rowS w) = V.str "or") then (1 : Int) else 0) = some (.str (rowS (!w))) := by
  cases w
  · rw [show decide (V.str (rowS false) = V.str "or") = true by decide +kernel]
    rfl
  · rw [show decide (V.str (rowS true) = V.str "or") = false by decide +kernel]
    rfl
section
variable {P : Program} {w : World} {K : PySem.W.Frag} {mg : Str → Option Value} {base : Heap} {CH CY CD CP : Addr}
def spAw (K : PySem.W.Frag) (CH CY : Addr) : Sp := fun vs H Q _ => ∃ (ho aT so : Addr) (xs : List V) (ds : List PyData) (dys : List Int) (m : Int) (F : List (Str × Option Str)) (D : List (Str × Int)), vs = [.ref ho, .ref aT, .ref so, .int m] ∧ HomeAt K CH H ho F ∧ Tms K (F.map Prod.fst) dys H aT xs ds ∧ StoryAt K CY H so D ∧ -9999 ≤ m ∧ m ≤ 9999 ∧ ∀ H', Same H H' → Q (.bl true) H'
theorem ok_aw {f fC : Addr} {fd fdC : FuncData} (B : Bi mg) (D : Df K mg "_law_all_ways" sAw f fd pAw) (gC : mg "comes" = some (.ref fC)) (kC : PySem.W.keepIn K (.ref fC) = true) (GC : FnOk P w K mg base (L2.CX P w) 14 fC fdC pCo (SpCm K CH CY CD CP)) (b4 : Binds K fdC pCo []) :
    FnOk P w K mg base CX0 15 f fd pAw (spAw K CH CY) := by
  refine D.fn.ok scAw (fun vs H Q E h => ?_) (fun cdv A outer s H vs Q E hr h => ?_)
  · obtain ⟨ho, aT, so, xs, ds, dys, m, F, Dd, rfl, _⟩ := h
    rfl
  · obtain ⟨ho, aT, so, xs, ds, dys, m, F, Dd, rfl, home, tms, tale, m0, m1, q⟩ := h
    refine ⟨_, pss_cons (ps_setLc (i := 5) (own := [("_law_term", 4)]) (g := gName 4) (tt := tYes) rfl scAw.nd rfl rfl (sw_true rfl rfl rfl (by decide +kernel)) (pi_list (pv 1)) (blkOk_by (own := [("_law_term", 4)]) (N := nAw) (sc := defScope sAw) (by decide +kernel))
          (fun _ _ _ _ _ => pg_name (i := 4) scAw.nd rfl (Or.inl rfl)) (fun _ _ _ _ _ => pts_nil) (fun _ _ _ _ _ => pe_call GC hr (by rfl) gC kC b4 .nil passNoP (pa_cons (pv 0) (pa_cons (pv 4) (pa_cons (pv 2) (pa_cons (pv 3) pa_nil))))))
      (pss_cons (ps_if (pt_not (pt_val (pe_callB (cr_all rfl) (by rfl) B.all (by decide +kernel) (pa_cons (pe_lc (own := [("_law_one", 6)]) (g := gName 6) (tt := tYes) rfl scAw.nd (pi_list (pv 5)) (blkOk_by (own := [("_law_one", 6)]) (N := nAw) (sc := defScope sAw) (by decide +kernel))
          (fun _ _ _ _ _ => pg_name (i := 6) scAw.nd rfl (Or.inl rfl)) (fun _ _ _ _ _ => pts_nil) (fun _ _ _ _ _ => pe_callB (r := rIsi K) call_isi (by rfl) B.isi boot_isinstance (pa_cons (pv 6) (pa_cons (pe_bltn (v := .ty "bool") (by rfl) B.bool boot_bool rfl) pa_nil)))) pa_nil)))) (pss_one (ps_ret pe_bl)) pss_nil)
      (pss_cons (ps_for PassesOwn.never rfl (RZ.pi_zipA (by rfl) B.zip (pa_cons (pv 1) (pa_cons (pv 5) pa_nil))) (pg_tup rfl (pgs_cons (pg_name (i := 4) scAw.nd rfl (.inl rfl)) (pgs_cons (pg_name (i := 7) scAw.nd rfl (.inl rfl)) pgs_nil)))
        (pss_cons (ps_set (i := 8) scAw.nd rfl (.inl rfl) (pe_lst (pa_cons (pe_tup (pa_cons pe_str (pa_cons (pe_tup (pa_cons pe_str (pa_cons (pv 4) pa_nil))) pa_nil))) (pa_cons (pe_tup (pa_cons pe_str (pa_cons (pv 4) (pa_cons (pv 4) pa_nil)))) (pa_cons (pe_tup (pa_cons pe_str (pa_cons (pv 4) (pa_cons (pv 4) pa_nil)))) pa_nil)))))
        (pss_cons (ps_if (pt_cmpR op_eq (pe_call GC hr (by rfl) gC kC b4 .nil passNoP (pa_cons (pv 0) (pa_cons (pe_tup (pa_cons pe_str (pa_cons (pv 4) pa_nil))) (pa_cons (pv 2) (pa_cons (pv 3) pa_nil))))) (pv 7) (nomark _)) (pss_one (ps_ret pe_bl)) pss_nil)
        (pss_one (ps_if (pt_cmpR (op_neD hr.units) (pe_lc (own := [("_law_other", 9)]) (g := gName 9) (tt := tYes) rfl scAw.nd (pi_list (pv 8)) (blkOk_by (own := [("_law_other", 9)]) (N := nAw) (sc := defScope sAw) (by decide +kernel))
          (fun _ _ _ _ _ => pg_name (i := 9) scAw.nd rfl (Or.inl rfl)) (fun _ _ _ _ _ => pts_nil) (fun _ _ _ _ _ => pe_call GC hr (by rfl) gC kC b4 .nil passNoP (pa_cons (pv 0) (pa_cons (pv 9) (pa_cons (pv 2) (pa_cons (pv 3) pa_nil)))))) (pe_op op_rep (pe_lst (pa_cons (pv 7) pa_nil)) pe_int) (nomark _)) (pss_one (ps_ret pe_bl)) pss_nil)))))
      (pss_cons (ps_for PassesOwn.never rfl (pi_list (pe_lst (pa_cons (pe_tup (pa_cons pe_str (pa_cons (pe_callB (cr_all rfl) (by rfl) B.all (by decide +kernel) (pa_cons (pv 5) pa_nil)) pa_nil))) (pa_cons (pe_tup (pa_cons pe_str (pa_cons (pe_callB (cr_any rfl) (by rfl) B.any (by decide +kernel) (pa_cons (pv 5) pa_nil)) pa_nil))) pa_nil)))) (pg_tup rfl (pgs_cons (pg_name (i := 10) scAw.nd rfl (.inl rfl)) (pgs_cons (pg_name (i := 7) scAw.nd rfl (.inl rfl)) pgs_nil)))
        (pss_cons (ps_par (i := 11) (j := 12) rfl scAw.nd rfl rfl (by decide) rfl rfl (pa_cons (pe_op op_catA (pe_tup (pa_cons (pv 10) pa_nil)) (pe_callTy call_tuple_of (by rfl) B.tuple boot_tuple (pa_cons (pv 1) pa_nil))) (pa_cons (pe_op op_catA (pe_tup (pa_cons (pv 10) pa_nil)) (pe_callTy call_tuple_of (by rfl) B.tuple boot_tuple (pa_cons (pe_revL (pv 1)) pa_nil))) pa_nil)) (by rfl))
        (pss_cons (ps_if (PW.pt (pw_or (pt_cmpR op_ne (pe_call GC hr (by rfl) gC kC b4 .nil passNoP (pa_cons (pv 0) (pa_cons (pv 11) (pa_cons (pv 2) (pa_cons (pv 3) pa_nil))))) (pv 7) (nomark _)) (pw_or1 (pt_cmpR op_ne (pe_call GC hr (by rfl) gC kC b4 .nil passNoP (pa_cons (pv 0) (pa_cons (pv 12) (pa_cons (pv 2) (pa_cons (pv 3) pa_nil))))) (pv 7) (nomark _))))) (pss_one (ps_ret pe_bl)) pss_nil)
        (pss_cons (ps_set (i := 13) scAw.nd rfl (.inl rfl) (pe_op op_catA (pe_tup (pa_cons (pe_ix (r := rIxL K) ix_list (pe_lst (pa_cons pe_str (pa_cons pe_str pa_nil))) (pe_callTy call_int1 (by rfl) B.int boot_int (pa_cons (pe_cmpR op_eq (pv 10) pe_str (nomark _)) pa_nil)) (fun _ _ => rfl)) pa_nil)) (pe_callTy call_tuple_of (by rfl) B.tuple boot_tuple (pa_cons (pe_lc (own := [("_law_term", 4)]) (g := gName 4) (tt := tYes) rfl scAw.nd (pi_list (pv 1)) (blkOk_by (own := [("_law_term", 4)]) (N := nAw) (sc := defScope sAw) (by decide +kernel))
          (fun _ _ _ _ _ => pg_name (i := 4) scAw.nd rfl (Or.inl rfl)) (fun _ _ _ _ _ => pts_nil) (fun _ _ _ _ _ => pe_tup (pa_cons pe_str (pa_cons (pv 4) pa_nil)))) pa_nil))))
        (pss_one (ps_if (pt_cmpR op_eq (pe_call GC hr (by rfl) gC kC b4 .nil passNoP (pa_cons (pv 0) (pa_cons (pv 13) (pa_cons (pv 2) (pa_cons (pv 3) pa_nil))))) (pv 7) (nomark _)) (pss_one (ps_ret pe_bl)) pss_nil))))))
      (pss_one (ps_ret pe_bl))))), ?_⟩
    have vals : Vals2 F Dd m 4 4 ds (ds.map (comeN F Dd m 4)) := tms.vals
    obtain ⟨hT, hd, tn, l2, l3⟩ := id tms
    have xl := hd.len
    have bl0 : (ds.map (comeN F Dd m 4)).length = ds.length := List.length_map _
    revert vals bl0
    generalize ds.map (comeN F Dd m 4) = bs
    intro vals bl0
    have v6 := vals.mono (n' := 6) (c' := 12) (by decide) (by decide)
    refine ⟨_, rfl, aT, rfl, ⟨_, sqL hT⟩, fun L nL => ?_⟩
    refine lc_list (K := K) (a := aT) (xs := xs) (fun j H' => H' L = some (.lst ((bs.take j).map V.bl)) ∧ Same H H') ⟨upd_same, same_new nL⟩ (fun j H' _ h => sqL (h.2 _ _ hT)) ?_ ?_
    · rintro j x H5 hx5 ⟨hL, s5⟩
      obtain ⟨d, hdj, dzx⟩ := hd.get hx5
      obtain ⟨b, hb, vb⟩ := v6.2 j d hdj
      have jl := lt_get hb
      refine ⟨rfl, tyes (iteT ⟨_, rfl, _, rfl, _, rfl, _, rfl, comes_go (home.same s5) (tale.same s5) (dzx.same s5) vb m0 m1 fun H6 s6 => ⟨_, s6 _ _ hL, ?_, ?_, ((Bt.of_same (S := []) (s5.trans s6)).upd0 nL).same⟩⟩)⟩
      · rw [List.length_map, List.length_take]
        exact small1000 (by omega)
      · rw [upd_same, take_more hb, List.map_append]
        rfl
    rintro H5 ⟨hL, s5⟩
    rw [show xs.length = bs.length by omega, List.take_length] at hL
    refine ⟨_, rfl, L, rfl, ⟨_, sqL hL⟩, fun L2 nL2 => ?_⟩
    refine lc_list (K := K) (a := L) (xs := bs.map V.bl) (fun j H' => H' L2 = some (.lst ((List.replicate j true).map V.bl)) ∧ Same H5 H') ⟨upd_same, same_new nL2⟩ (fun j H' _ h => sqL (h.2 _ _ hL)) ?_ ?_
    · rintro j x H6 hx6 ⟨hL2, s6⟩
      have jl := lt_get hx6
      rw [List.length_map] at jl
      obtain ⟨b, hb, rfl⟩ := List.mem_map.mp (List.mem_of_getElem? hx6)
      refine ⟨rfl, tyes (iteT ⟨_, rfl, _, .ty "bool", _, .type "bool", true, rfl, .ty _, (Dz.bl (S := []) (K := K) (H := H6) b).ty, kit_isa (by decide) (.bool b), ?_⟩)⟩
      refine ⟨_, hL2, ?_, ?_, ((Bt.of_same (S := []) s6).upd0 nL2).same⟩
      · rw [List.length_map, List.length_replicate]
        exact small1000 (by omega)
      · rw [upd_same, List.replicate_succ', List.map_append]
        rfl
    rintro H6 ⟨hL2, s6⟩
    rw [List.length_map] at hL2
    refine ⟨L2, _, rfl, sqL hL2, true, ?_, iteF ?_⟩
    · simp
    have s06 := s5.trans s6
    have hT6 := s06 _ _ hT
    have hL6 := s6 _ _ hL
    have home6 := home.same s06
    have tale6 := tale.same s06
    have hd6 := hd.same s06
    clear nL nL2 hL hL2 s5 s6 tms
    refine ⟨_, rfl, _, rfl, aT, L, xs, bs.map V.bl, rfl, .inl ⟨sqL hT6, sqL hL6, for_it (walk_zip (K := K) (a := aT) (b := L) (xs := xs) (ys := bs.map V.bl) (n := xs.length) (by rw [List.length_map]; omega)) (fun i σ H' => (∃ y4 y7 y8 : Option V, σ = [some (.ref ho), some (.ref aT), some (.ref so), some (.int m), y4, some (.ref L), none, y7, y8, none, none, none, none, none]) ∧ Same H6 H') ⟨⟨none, none, none, rfl⟩, Same.refl H6⟩ (fun i σ H' _ h => ⟨sqL (h.2 _ _ hT6), sqL (h.2 _ _ hL6)⟩) ?_ ?_⟩⟩
    · rintro i _ σ H7 _ i1 ⟨⟨y4, y7, y8, rfl⟩, s7⟩ ⟨T, y, y', rfl, nT, rfl, hy, hy'⟩
      have s8 : Same H6 (upd H7 T (.tup [y, y'])) := s7.trans (same_new nT)
      have gT : SqT K (upd H7 T (.tup [y, y'])) T [y, y'] := sqT upd_same
      revert s8 gT
      generalize upd H7 T (.tup [y, y']) = H8
      intro s8 gT
      obtain ⟨d, hdj, dzy⟩ := hd6.get hy
      obtain ⟨b, hb, vb⟩ := vals.2 i d hdj
      obtain rfl : y' = .bl b := by
        have hy' : (bs.map V.bl)[i]? = some y' := hy'
        rw [List.getElem?_map, hb] at hy'
        cases hy'
        rfl
      have dz8 := dzy.same s8
      refine ⟨T, _, rfl, gT, rfl, _, _, rfl, _, _, rfl, rfl, ?_⟩
      refine ⟨_, rfl, by show 2 ≤ sizeLine; decide, fun t1 n1 => ?_⟩
      have z1 : Dz [] K (upd H8 t1 (.tup [.str "not", y])) (.ref t1) (notD d) := .tup (sqT upd_same) (.cons (.str _) (.cons (dz8.same (same_new n1)) .nil))
      have s1 : Same H8 (upd H8 t1 (.tup [.str "not", y])) := same_new n1
      revert z1 s1
      generalize upd H8 t1 (.tup [.str "not", y]) = G1
      intro z1 s1
      refine ⟨by show 2 ≤ sizeLine; decide, fun t2 n2 => ?_⟩
      have z2 : Dz [] K (upd G1 t2 (.tup [.str "not", .ref t1])) (.ref t2) (notD (notD d)) := .tup (sqT upd_same) (.cons (.str _) (.cons (z1.same (same_new n2)) .nil))
      have s2 : Same H8 (upd G1 t2 (.tup [.str "not", .ref t1])) := s1.trans (same_new n2)
      revert z2 s2
      generalize upd G1 t2 (.tup [.str "not", .ref t1]) = G2
      intro z2 s2
      refine ⟨_, rfl, _, rfl, by show 3 ≤ sizeLine; decide, fun t3 n3 => ?_⟩
      have z3 : Dz [] K (upd G2 t3 (.tup [.str "and", y, y])) (.ref t3) (.tuple [.str (rowS true), d, d]) := .tup (sqT upd_same) (.cons (.str _) (.cons (dz8.same (s2.trans (same_new n3))) (.cons (dz8.same (s2.trans (same_new n3))) .nil)))
      have s3 : Same H8 (upd G2 t3 (.tup [.str "and", y, y])) := s2.trans (same_new n3)
      have z23 := z2.same (same_new (o := .tup [.str "and", y, y]) n3)
      revert z3 s3 z23
      generalize upd G2 t3 (.tup [.str "and", y, y]) = G3
      intro z3 s3 z23
      refine ⟨_, rfl, _, rfl, by show 3 ≤ sizeLine; decide, fun t4 n4 => ?_⟩
      have z4 : Dz [] K (upd G3 t4 (.tup [.str "or", y, y])) (.ref t4) (.tuple [.str (rowS false), d, d]) := .tup (sqT upd_same) (.cons (.str _) (.cons (dz8.same (s3.trans (same_new n4))) (.cons (dz8.same (s3.trans (same_new n4))) .nil)))
      have s4 : Same H8 (upd G3 t4 (.tup [.str "or", y, y])) := s3.trans (same_new n4)
      have z24 := z23.same (same_new (o := .tup [.str "or", y, y]) n4)
      have z34 := z3.same (same_new (o := .tup [.str "or", y, y]) n4)
      revert z4 s4 z24 z34
      generalize upd G3 t4 (.tup [.str "or", y, y]) = G4
      intro z4 s4 z24 z34
      refine ⟨by show 3 ≤ sizeLine; decide, fun p5 n5 => ?_⟩
      have h9 : (upd G4 p5 (.lst [.ref t2, .ref t3, .ref t4])) p5 = some (.lst [.ref t2, .ref t3, .ref t4]) := upd_same
      have s9 : Same H8 (upd G4 p5 (.lst [.ref t2, .ref t3, .ref t4])) := s4.trans (same_new n5)
      have dz9 : DzAll [] K (upd G4 p5 (.lst [.ref t2, .ref t3, .ref t4])) [.ref t2, .ref t3, .ref t4] (someD d) := .cons (z24.same (same_new n5)) (.cons (z34.same (same_new n5)) (.cons (z4.same (same_new n5)) .nil))
      revert h9 s9 dz9
      generalize upd G4 p5 (.lst [.ref t2, .ref t3, .ref t4]) = H9
      intro h9 s9 dz9
      clear z1 z2 z3 z4 z23 z24 z34 s1 s2 s3 s4 n1 n2 n3 n4 n5 nT gT
      have s69 := s8.trans s9
      refine ⟨_, rfl, _, rfl, by show 2 ≤ sizeLine; decide, fun t6 n6 => ?_⟩
      have s10 : Same H9 (upd H9 t6 (.tup [.str "not", y])) := same_new n6
      have vn := vb.neg.mono (n' := 6) (c' := 12) (by decide) (by decide)
      refine ⟨_, rfl, _, rfl, comes_go (home6.same (s69.trans s10)) (tale6.same (s69.trans s10)) (.tup (sqT upd_same) (.cons (.str _) (.cons (dz8.same (s9.trans s10)) .nil))) vn m0 m1 fun H11 s11 => ⟨_, rfl, rfl, _, rfl, ?_⟩⟩
      rw [show decide (V.bl (!b) = V.bl b) = false by cases b <;> rfl]
      have s911 := s10.trans s11
      have s611 := s69.trans s911
      have h11 := s911 _ _ h9
      have dz11 := dz9.same s911
      have sv := some_vals vb
      clear s10 s11 n6 vn dz9 h9
      refine iteF ⟨_, rfl, p5, rfl, ⟨_, sqL h11⟩, fun L3 nL3 => ?_⟩
      refine lc_list (K := K) (a := p5) (xs := [.ref t2, .ref t3, .ref t4]) (fun j H' => H' L3 = some (.lst (([b, b, b].take j).map V.bl)) ∧ Same H11 H') ⟨upd_same, same_new nL3⟩ (fun j H' _ h => sqL (h.2 _ _ h11)) ?_ ?_
      · rintro j x H12 hx12 ⟨hL3, s12⟩
        obtain ⟨e, hej, dze⟩ := dz11.get hx12
        obtain ⟨b', hb', vb'⟩ := sv.2 j e hej
        have jl := lt_get hb'
        have e3 : [b, b, b].length = 3 := rfl
        have s612 := s611.trans s12
        refine ⟨rfl, tyes (iteT ⟨_, rfl, _, rfl, _, rfl, _, rfl, comes_go (home6.same s612) (tale6.same s612) (dze.same s12) vb' m0 m1 fun H13 s13 => ⟨_, s13 _ _ hL3, ?_, ?_, ((Bt.of_same (S := []) (s12.trans s13)).upd0 nL3).same⟩⟩)⟩
        · rw [List.length_map, List.length_take]
          exact small1000 (by omega)
        · rw [upd_same, take_more hb', List.map_append]
          rfl
      rintro H12 ⟨hL3, s12⟩
      have hL3' : H12 L3 = some (.lst [.bl b, .bl b, .bl b]) := hL3
      refine ⟨_, rfl, by show 1 ≤ sizeLine; decide, fun p6 n6 => ⟨p6, 3, _, rfl, rfl, upd_same, by decide, by decide, by show 1 * 3 ≤ sizeLine; decide, fun p7 n7 => ?_⟩⟩
      have s14 : Same H12 (upd (upd H12 p6 (.lst [.bl b])) p7 (.lst (List.replicate (3 : Int).toNat [V.bl b]).flatten)) := (same_new n6).trans (same_new n7)
      refine ⟨.list [.bool b, .bool b, .bool b], .list [.bool b, .bool b, .bool b], .lst (sqL (s14 _ _ hL3')) (.cons (.bl _) (.cons (.bl _) (.cons (.bl _) .nil))), .lst (sqL upd_same) (.cons (.bl _) (.cons (.bl _) (.cons (.bl _) .nil))), by cases b <;> decide +kernel, by cases b <;> decide +kernel, _, rfl, ?_⟩
      rw [show (!PyData.eqv (.list [.bool b, .bool b, .bool b]) (.list [.bool b, .bool b, .bool b])) = false by cases b <;> decide +kernel]
      exact iteF ⟨⟨_, _, _, rfl⟩, (s611.trans s12).trans s14⟩
    rintro σ H7 ⟨⟨y4, y7, y8, rfl⟩, s7⟩
    have s07 := s06.trans s7
    have hL7 := s7 _ _ hL6
    refine ⟨_, rfl, L, bs, rfl, sqL hL7, by show 2 ≤ sizeLine; decide, fun u1 n1 => ?_⟩
    have g1 : SqT K (upd H7 u1 (.tup [.str "and", .bl (bs.all id)])) u1 [.str (rowS true), .bl (dueB true bs)] := sqT upd_same
    have s1 : Same H7 (upd H7 u1 (.tup [.str "and", .bl (bs.all id)])) := same_new n1
    revert g1 s1
    generalize upd H7 u1 (.tup [.str "and", .bl (bs.all id)]) = G1
    intro g1 s1
    refine ⟨_, rfl, L, bs, rfl, sqL (s1 _ _ hL7), by show 2 ≤ sizeLine; decide, fun u2 n2 => ?_⟩
    have g2 : SqT K (upd G1 u2 (.tup [.str "or", .bl (bs.any id)])) u2 [.str (rowS false), .bl (dueB false bs)] := sqT upd_same
    have s2 : Same H7 (upd G1 u2 (.tup [.str "or", .bl (bs.any id)])) := s1.trans (same_new n2)
    have g12 := (tk_new (o := .tup [.str "or", .bl (bs.any id)]) n2).sq g1
    revert g2 s2 g12
    generalize upd G1 u2 (.tup [.str "or", .bl (bs.any id)]) = G2
    intro g2 s2 g12
    refine ⟨by show 2 ≤ sizeLine; decide, fun pU nU => ?_⟩
    have hU : (upd G2 pU (.lst [.ref u1, .ref u2])) pU = some (.lst [.ref u1, .ref u2]) := upd_same
    have s3 : Same H7 (upd G2 pU (.lst [.ref u1, .ref u2])) := s2.trans (same_new nU)
    have us : ∀ x ∈ [V.ref u1, V.ref u2], ∃ (u : Addr) (wd : Bool), x = .ref u ∧ SqT K (upd G2 pU (.lst [.ref u1, .ref u2])) u [.str (rowS wd), .bl (dueB wd bs)] := fun x hx => by
      simp only [List.mem_cons, List.not_mem_nil, or_false] at hx
      rcases hx with rfl | rfl
      · exact ⟨u1, true, rfl, (tk_new nU).sq g12⟩
      · exact ⟨u2, false, rfl, (tk_new nU).sq g2⟩
    revert hU s3 us
    generalize upd G2 pU (.lst [.ref u1, .ref u2]) = H8
    intro hU s3 us
    have s08 := s07.trans s3
    have hT8 := s08 _ _ hT
    have home8 := home.same s08
    have tale8 := tale.same s08
    have hd8 := hd.same s08
    clear g1 g2 g12 s1 s2 s3 n1 n2 nU hL7 s7 s07 home6 tale6 hd6 hT6 hL6 s06
    refine ⟨pU, rfl, ⟨_, sqL hU⟩, for_list (K := K) (a := pU) (xs := [.ref u1, .ref u2]) (fun i σ H' => (∃ y4 y7 y8 y10 y11 y12 y13 : Option V, σ = [some (.ref ho), some (.ref aT), some (.ref so), some (.int m), y4, some (.ref L), none, y7, y8, none, y10, y11, y12, y13]) ∧ Same H8 H') ⟨⟨_, _, _, _, _, _, _, rfl⟩, Same.refl _⟩ (fun i σ H' _ h => sqL (h.2 _ _ hU)) ?_ ?_⟩
    rotate_left
    · rintro σ H9 ⟨⟨y4, y7, y8, y10, y11, y12, y13, rfl⟩, s9⟩
      exact q H9 (s08.trans s9)
    rintro i x σ H9 hx ⟨⟨y4, y7, y8, y10, y11, y12, y13, rfl⟩, s9⟩
    obtain ⟨u, wd, rfl, hu⟩ := us x (List.mem_of_getElem? hx)
    refine ⟨u, _, rfl, (tk_same s9).sq hu, rfl, _, _, rfl, _, _, rfl, rfl, ?_⟩
    have hT9 := s9 _ _ hT8
    have hd9 := hd8.same s9
    have xl3 : xs.length ≤ 3 := by omega
    refine ⟨_, rfl, by show 1 ≤ sizeLine; decide, fun a1 n1 => ?_⟩
    have g1 : SqT K (upd H9 a1 (.tup [.str (rowS wd)])) a1 [.str (rowS wd)] := sqT upd_same
    have s1 : Same H9 (upd H9 a1 (.tup [.str (rowS wd)])) := same_new n1
    revert g1 s1
    generalize upd H9 a1 (.tup [.str (rowS wd)]) = G1
    intro g1 s1
    refine ⟨_, rfl, aT, xs, rfl, .inl ⟨sqL (s1 _ _ hT9), fun tt ntt => ?_⟩⟩
    refine cat_tup ((tk_new ntt).sq g1) (sqT upd_same) (by show 1 + xs.length ≤ 100; omega) fun r1 G2 s2 q1 => ?_
    have s12 : Same H9 G2 := (s1.trans (same_new ntt)).trans s2
    refine ⟨_, rfl, by show 1 ≤ sizeLine; decide, fun a2 n2 => ?_⟩
    have g3 : SqT K (upd G2 a2 (.tup [.str (rowS wd)])) a2 [.str (rowS wd)] := sqT upd_same
    have s3 : Same H9 (upd G2 a2 (.tup [.str (rowS wd)])) := s12.trans (same_new n2)
    have q3 := (tk_new (o := .tup [.str (rowS wd)]) n2).sq q1
    revert g3 s3 q3
    generalize upd G2 a2 (.tup [.str (rowS wd)]) = G3
    intro g3 s3 q3
    refine ⟨_, rfl, aT, xs, rfl, sqL (s3 _ _ hT9), fun pr npr => ⟨pr, xs.reverse, rfl, .inl ⟨sqL upd_same, fun t2 nt2 => ?_⟩⟩⟩
    refine cat_tup ((tk_new nt2).sq ((tk_new npr).sq g3)) (sqT upd_same) (by show 1 + xs.reverse.length ≤ 100; rw [List.length_reverse]; omega) fun r2 G4 s4 q4 => ?_
    have s34 : Same G3 G4 := ((same_new npr).trans (same_new nt2)).trans s4
    have q14 := (tk_same s34).sq q3
    have s94 : Same H9 G4 := s3.trans s34
    have s84 := s9.trans s94
    refine ⟨_, _, rfl, ?_⟩
    clear g1 g3 s1 s2 s3 s4 s12 s34 n1 n2 ntt npr nt2 q1 q3
    have vr := (vals.row wd l2 (by omega)).mono (n' := 6) (c' := 12) (by decide) (by omega)
    refine ⟨_, rfl, _, rfl, _, rfl, _, rfl, comes_go (home8.same s84) (tale8.same s84) (.tup q14 (.cons (.str _) (hd9.same s94))) vr m0 m1 fun H10 s10 => ⟨_, rfl, rfl, _, rfl, ?_⟩⟩
    rw [show (!decide (V.bl (if wd = true then bs.all id else bs.any id) = V.bl (dueB wd bs))) = false by rw [decide_eq_true (show V.bl (if wd = true then bs.all id else bs.any id) = V.bl (dueB wd bs) from rfl)]; rfl]
    have vr2 := (vals.reverse.row wd (by rw [List.length_reverse]; exact l2) (by rw [List.length_reverse]; omega)).mono (n' := 6) (c' := 12) (by decide) (by rw [List.length_reverse]; omega)
    have s810 := s84.trans s10
    refine iteF ⟨_, rfl, _, rfl, _, rfl, _, rfl, comes_go (home8.same s810) (tale8.same s810) (.tup ((tk_same s10).sq q4) (.cons (.str _) (dzall_rev ((hd9.same s94).same s10)))) vr2 m0 m1 fun H11 s11 => ⟨_, rfl, rfl, _, rfl, ?_⟩⟩
    have er : (if wd = true then bs.reverse.all id else bs.reverse.any id) = dueB wd bs := rev_val
    rw [er, show (!decide (V.bl (dueB wd bs) = V.bl (dueB wd bs))) = false by simp]
    have s811 := s810.trans s11
    have s911 := (s94.trans s10).trans s11
    refine iteF ?_
    refine ⟨by show 2 ≤ sizeLine; decide, fun pw npw => ⟨_, rfl, rfl, .inr ⟨_, rfl, pw, _, _, _, rfl, rfl, sqL upd_same, not_at, ?_⟩⟩⟩
    have s12 : Same H11 (upd H11 pw (.lst [.str "or", .str "and"])) := same_new npw
    revert s12
    generalize upd H11 pw (.lst [.str "or", .str "and"]) = H12
    intro s12
    refine ⟨by show 1 ≤ sizeLine; decide, fun a3 n3 => ?_⟩
    have g13 : SqT K (upd H12 a3 (.tup [.str (rowS (!wd))])) a3 [.str (rowS (!wd))] := sqT upd_same
    have s13 : Same H11 (upd H12 a3 (.tup [.str (rowS (!wd))])) := s12.trans (same_new n3)
    revert g13 s13
    generalize upd H12 a3 (.tup [.str (rowS (!wd))]) = H13
    intro g13 s13
    have s913 := s911.trans s13
    have hT13 := s913 _ _ hT9
    have hd13 := hd9.same s913
    refine ⟨_, rfl, aT, rfl, ⟨_, sqL hT13⟩, fun L4 nL4 => ?_⟩
    refine lc_list (K := K) (a := aT) (xs := xs) (fun j H' => (∃ ys : List V, H' L4 = some (.lst ys) ∧ ys.length = j ∧ ∀ (i : Nat) (x : V), ys[i]? = some x → ∃ d, ds[i]? = some d ∧ Dz [] K H' x (notD d)) ∧ Same H13 H') ⟨⟨[], upd_same, rfl, fun i x h => by simp at h⟩, same_new nL4⟩ (fun j H' _ h => sqL (h.2 _ _ hT13)) ?_ ?_
    · rintro j x H14 hx14 ⟨⟨ys, hL4, yl, hy⟩, s14⟩
      obtain ⟨d, hdj, dzx⟩ := hd13.get hx14
      have jl := lt_get hdj
      refine ⟨rfl, tyes (iteT ⟨_, rfl, by show 2 ≤ sizeLine; decide, fun t n => ?_⟩)⟩
      have hL5 : (upd H14 t (.tup [.str "not", x])) L4 = some (.lst ys) := same_new n _ _ hL4
      have nt : Dz [] K (upd H14 t (.tup [.str "not", x])) (.ref t) (notD d) := .tup (sqT upd_same) (.cons (.str _) (.cons ((dzx.same s14).same (same_new n)) .nil))
      have cdn : ∀ d ∈ ds, Cd 5 (notD d) := fun d hd => form_cd (form_neg (tn d hd).1)
      refine ⟨ys, hL5, ?_, ⟨ys ++ [.ref t], upd_same, ?_, fun i y hyi => ?_⟩, ((Bt.of_same (S := []) (s14.trans (same_new n))).upd0 nL4).same⟩
      · rw [yl]
        exact small1000 (by omega)
      · rw [List.length_append, yl]
        rfl
      · by_cases hi : i < ys.length
        · rw [List.getElem?_append_left hi] at hyi
          obtain ⟨e, he, dze⟩ := hy i y hyi
          exact ⟨e, he, cd_tk ((tk_new n).trans (tk_lst hL5)) (cdn e (List.mem_of_getElem? he)) dze⟩
        · have hl := lt_get hyi
          rw [List.length_append] at hl
          simp only [List.length_cons, List.length_nil] at hl
          obtain rfl : i = ys.length := by omega
          rw [List.getElem?_append_right (Nat.le_refl _), Nat.sub_self] at hyi
          cases hyi
          exact ⟨d, by rw [yl]; exact hdj, cd_tk (tk_lst hL5) (cdn d (List.mem_of_getElem? hdj)) nt⟩
    rintro H14 ⟨⟨ys, hL4, yl, hy⟩, s14⟩
    have dzn : DzAll [] K H14 ys (ds.map notD) := dzall_of (by rw [List.length_map]; omega) fun i y hyi => by
      obtain ⟨e, he, dze⟩ := hy i y hyi
      exact ⟨_, by rw [List.getElem?_map, he]; rfl, dze⟩
    refine ⟨L4, ys, rfl, .inl ⟨sqL hL4, fun t5 nt5 => ?_⟩⟩
    refine cat_tup ((tk_new nt5).sq ((tk_same s14).sq g13)) (sqT upd_same) (by show 1 + ys.length ≤ 100; omega) fun r3 H15 s15 q15 => ?_
    have s1415 : Same H14 H15 := (same_new nt5).trans s15
    have s815 : Same H8 H15 := ((s811.trans s13).trans s14).trans s1415
    have vn := ((vals.map (n' := 5) (c' := 4) (g := notD) (h := not) (fun d b v => v.neg)).row (!wd) (by rw [List.length_map]; exact l2) (by rw [List.length_map]; omega)).mono (n' := 6) (c' := 12) (by decide) (by rw [List.length_map]; omega)
    refine ⟨_, rfl, _, rfl, _, rfl, _, rfl, comes_go (home8.same s815) (tale8.same s815) (.tup q15 (.cons (.str _) (dzn.same s1415))) vn m0 m1 fun H16 s16 => ⟨_, rfl, rfl, _, rfl, ?_⟩⟩
    rw [show decide (V.bl (if (!wd) = true then (bs.map not).all id else (bs.map not).any id) = V.bl (dueB wd bs)) = false by
      rw [show (if (!wd) = true then (bs.map not).all id else (bs.map not).any id) = !dueB wd bs from nots_val]
      cases dueB wd bs <;> rfl]
    exact iteF ⟨⟨_, _, _, _, _, _, _, rfl⟩, s815.trans s16⟩
end
end WdQ

set_option Elab.async false
set_option linter.all false
set_option maxRecDepth 100000
set_option maxHeartbeats 4000000
set_option exponentiation.threshold 5000
namespace WdQ
open PySem PySem.Spec PyProof.Rows L2 WdM Wd
abbrev sAr : Stmt := topS 65
def pAr : List Str := ["_law_home_here", "_law_estate", "_law_tale", "_law_least"]
def nAr : List Str := ["_law_home_here", "_law_estate", "_law_tale", "_law_least", "_law_one", "_law_mate", "_law_due", "_law_child", "_law_parent", "_law_gone", "_law_found", "_law_term"]
theorem scAr : FnScope nAr pAr (defScope sAr) := ⟨rfl, rfl, rfl, by decide +kernel, rfl, by decide +kernel, by decide +kernel⟩
def livD (z : Str) : PyData := .tuple [.str "lives", .str z]
theorem val_chl {F : List (Str × Option Str)} {D : List (Str × Int)} {m : Int} {z : Str} (hz : nmB z = true) (iz : z ∈ F.map Prod.fst) : Val F D m 1 1 (.tuple [.str "childless", .str z]) (!((kidsOf F z).any fun y => aliveB D y m)) :=
  ⟨form_chl hz, Nat.le_refl _, fun y hy => by rw [List.mem_singleton.mp (show y ∈ [z] from hy)]; exact iz, come_chl⟩
theorem kids_in {F : List (Str × Option Str)} {z y : Str} (h : y ∈ kidsOf F z) : y ∈ F.map Prod.fst := by
  obtain ⟨r, hr, rfl⟩ := List.mem_map.mp h
  exact List.mem_map_of_mem (List.mem_filter.mp hr).1
theorem not_any {D : List (Str × Int)} {m : Int} : ∀ ys : List Str, ((ys.map fun y => !aliveB D y m).all id) = !(ys.any fun y => aliveB D y m)
  | [] => rfl
  | y :: ys => by
    rw [List.map_cons, List.all_cons, List.any_cons, not_any ys]
    cases aliveB D y m <;> simp
theorem gone_vals {F : List (Str × Option Str)} {D : List (Str × Int)} {m : Int} (g : GoodF F) : ∀ {ys : List Str}, (∀ y ∈ ys, nmB y = true ∧ y ∈ F.map Prod.fst) → Vals2 F D m 2 1 (ys.map fun y => notD (livD y)) (ys.map fun y => !aliveB D y m)
  | [], _ => .nil
  | y :: ys, h => .cons (val_liv (h y List.mem_cons_self).1 (h y List.mem_cons_self).2).neg (gone_vals g fun z hz => h z (List.mem_cons_of_mem _ hz))
theorem cut_whole {xs : List V} {k : Nat} (h : xs.length ≤ k) : cutV xs none (some ((k : Nat) : Int)) = xs := by
  unfold cutV
  rw [HT.sIx_none, HT.sIx_nat, Nat.min_eq_right h, List.drop_zero, Nat.sub_zero, List.take_length]
section
variable {P : Program} {w : World} {K : PySem.W.Frag} {mg : Str → Option Value} {base : Heap} {CH CY CD CP : Addr}
/-- what a house is made of -/
def HmAt (K : PySem.W.Frag) (H : Hp) (hh : Addr) (F : List (Str × Option Str)) : Prop := ∃ (tp : Addr) (g p d : V), SqT K H hh [.ref tp, g, p, d] ∧ FolkAt K H (.ref tp) F ∧ GoodF F ∧ F.length ≤ 6
theorem HmAt.tk {H H' : Hp} {hh : Addr} {F : List (Str × Option Str)} (h : HmAt K H hh F) (e : Tk H H') : HmAt K H' hh F := by
  obtain ⟨tp, g, p, d, h1, h2, h3, h4⟩ := h
  exact ⟨tp, g, p, d, e.sq h1, h2.tk e, h3, h4⟩
def spAr (K : PySem.W.Frag) (CH CY : Addr) : Sp := fun vs H Q _ => ∃ (hh ho so : Addr) (m : Int) (F : List (Str × Option Str)) (D : List (Str × Int)), vs = [.ref hh, .ref ho, .ref so, .int m] ∧ HmAt K H hh F ∧ HomeAt K CH H ho F ∧ StoryAt K CY H so D ∧ -9999 ≤ m ∧ m ≤ 9999 ∧ ∀ H', Same H H' → Q (.bl true) H'
theorem ok_ar {f fC : Addr} {fd fdC : FuncData} {d3 : List Value} (B : Bi mg) (D : Df K mg "_law_atoms_right" sAr f fd pAr) (gC : mg "comes" = some (.ref fC)) (kC : PySem.W.keepIn K (.ref fC) = true) (GC : FnOk P w K mg base (L2.CX P w) 14 fC fdC pCo (SpCm K CH CY CD CP)) (b4 : Binds K fdC pCo []) (b3 : Binds K fdC pCo d3) (v3 : Vals [.int 0] d3) :
    FnOk P w K mg base CX0 15 f fd pAr (spAr K CH CY) := by
  refine D.fn.ok scAr (fun vs H Q E h => ?_) (fun cdv A outer s H vs Q E hr h => ?_)
  · obtain ⟨hh, ho, so, m, F, Dd, rfl, _⟩ := h
    rfl
  · obtain ⟨hh, ho, so, m, F, Dd, rfl, hm, home, tale, m0, m1, q⟩ := h
    refine ⟨_, pss_cons (ps_for PassesOwn.never rfl (pi_tup (pe_ix (r := rIxT K) ix_tup (pv 0) pe_int (fun _ _ => rfl))) (pg_tup rfl (pgs_cons (pg_name (i := 4) scAr.nd rfl (.inr rfl)) (pgs_cons (pg_name (i := 5) scAr.nd rfl (.inl rfl)) pgs_nil)))
        (pss_cons (ps_set (i := 6) scAr.nd rfl (.inl rfl) (pe_call GC hr (by rfl) gC kC b4 .nil passNoP (pa_cons (pv 1) (pa_cons (pe_tup (pa_cons pe_str (pa_cons (pv 4) pa_nil))) (pa_cons (pv 2) (pa_cons (pv 3) pa_nil))))))
        (pss_cons (ps_if (PW.pt (pw_or (pt_cmpR op_ne (pe_call GC hr (by rfl) gC kC b4 .nil passNoP (pa_cons (pv 1) (pa_cons (pe_tup (pa_cons pe_str (pa_cons (pv 4) (pa_cons (pv 3) pa_nil)))) (pa_cons (pv 2) (pa_cons pe_int pa_nil))))) (pv 6) (nomark _)) (pw_or1 (pt_cmpR op_ne (pe_call GC hr (by rfl) gC kC b3 v3 passNoP (pa_cons (pv 1) (pa_cons (pe_tup (pa_cons pe_str (pa_cons (pv 4) (pa_cons (pv 3) pa_nil)))) (pa_cons (pv 2) pa_nil)))) (pv 6) (nomark _))))) (pss_one (ps_ret pe_bl)) pss_nil)
        (pss_cons (ps_set (i := 9) scAr.nd rfl (.inl rfl) (pe_slice (r := rSlL K) sl_list (pe_lc (own := [("_law_child", 7), ("_law_parent", 8)]) (g := gTup K 2 (gCons (gName 7) (gCons (gName 8) gNil))) rfl scAr.nd (pi_tup (pe_ix (r := rIxT K) ix_tup (pv 0) pe_int (fun _ _ => rfl))) (blkOk_by (own := [("_law_child", 7), ("_law_parent", 8)]) (N := nAr) (sc := defScope sAr) (by decide +kernel))
            (fun _ _ _ _ _ => pg_tup rfl (pgs_cons (pg_name (i := 7) scAr.nd rfl (Or.inl rfl)) (pgs_cons (pg_name (i := 8) scAr.nd rfl (Or.inl rfl)) pgs_nil))) (fun _ _ _ _ _ => pts_one (pt_cmpR op_eq (pv 8) (pv 4) (nomark _))) (fun _ _ _ _ _ => pe_tup (pa_cons pe_str (pa_cons (pe_tup (pa_cons pe_str (pa_cons (pv 7) pa_nil))) pa_nil)))) po_none (po_some pe_int)))
        (pss_cons (ps_set (i := 10) scAr.nd rfl (.inl rfl) (pe_call GC hr (by rfl) gC kC b4 .nil passNoP (pa_cons (pv 1) (pa_cons (pe_tup (pa_cons pe_str (pa_cons (pv 4) pa_nil))) (pa_cons (pv 2) (pa_cons (pv 3) pa_nil))))))
        (pss_cons (ps_if (pt_cmpR op_ne (pv 10) (pe_callB (cr_all rfl) (by rfl) B.all (by decide +kernel) (pa_cons (pe_lc (own := [("_law_term", 11)]) (g := gName 11) (tt := tYes) rfl scAr.nd (pi_list (pv 9)) (blkOk_by (own := [("_law_term", 11)]) (N := nAr) (sc := defScope sAr) (by decide +kernel))
            (fun _ _ _ _ _ => pg_name (i := 11) scAr.nd rfl (Or.inl rfl)) (fun _ _ _ _ _ => pts_nil) (fun _ _ _ _ _ => pe_call GC hr (by rfl) gC kC b4 .nil passNoP (pa_cons (pv 1) (pa_cons (pv 11) (pa_cons (pv 2) (pa_cons (pv 3) pa_nil)))))) pa_nil)) (nomark _)) (pss_one (ps_ret pe_bl)) pss_nil)
        (pss_one (ps_if (PW.pt (pw_and (pt_cmpR op_gt (pe_callB call_len_seq (by rfl) B.len PySem.boot_len (pa_cons (pv 9) pa_nil)) pe_int (nomark _)) (pw_and1 (pt_cmpR op_ne (pv 10) (pe_call GC hr (by rfl) gC kC b4 .nil passNoP (pa_cons (pv 1) (pa_cons (pe_op op_catA (pe_tup (pa_cons pe_str pa_nil)) (pe_callTy call_tuple_of (by rfl) B.tuple boot_tuple (pa_cons (pv 9) pa_nil))) (pa_cons (pv 2) (pa_cons (pv 3) pa_nil))))) (nomark _))))) (pss_one (ps_ret pe_bl)) pss_nil))))))))
      (pss_one (ps_ret pe_bl)), ?_⟩
    obtain ⟨tp, gg, pp, dd, hh0, fk, gf, f6⟩ := hm
    obtain ⟨_, xs, e, hT, xl, hx⟩ := id fk
    cases e
    refine ⟨_, rfl, hh, _, 0, _, rfl, rfl, hh0, rfl, tp, rfl, ⟨_, hT⟩, for_tup (K := K) (a := tp) (xs := xs) (fun i σ H' => (∃ y4 y5 y6 y9 y10 : Option V, σ = [some (.ref hh), some (.ref ho), some (.ref so), some (.int m), y4, y5, y6, none, none, y9, y10, none]) ∧ Same H H') ⟨⟨none, none, none, none, none, rfl⟩, Same.refl H⟩ (fun i σ H' _ h => (tk_same h.2).sq hT) ?_ ?_⟩
    rotate_left
    · rintro σ H1 ⟨⟨y4, y5, y6, y9, y10, rfl⟩, s1⟩
      exact q H1 s1
    rintro i x σ H1 hx1 ⟨⟨y4, y5, y6, y9, y10, rfl⟩, s1⟩
    obtain ⟨ra, r, rfl, hri, hra⟩ := hx i x hx1
    have rF := List.mem_of_getElem? hri
    have nz : nmB r.1 = true := (gf.nm r rF).name
    have zF : r.1 ∈ F.map Prod.fst := List.mem_map_of_mem rF
    refine ⟨ra, _, rfl, (tk_same s1).sq hra, rfl, _, _, rfl, _, _, rfl, rfl, ?_⟩
    revert nz zF
    generalize r.1 = z
    generalize parV r.2 = pz
    intro nz zF
    refine ⟨_, rfl, _, rfl, by show 2 ≤ sizeLine; decide, fun t1 n1 => ?_⟩
    have s2 : Same H (upd H1 t1 (.tup [.str "lives", .str z])) := s1.trans (same_new n1)
    refine ⟨_, rfl, _, rfl, comes_go (home.same s2) (tale.same s2) (.tup (sqT upd_same) (.cons (.str _) (.cons (.str _) .nil))) ((val_liv (m := m) nz zF).mono (n' := 6) (c' := 12) (by decide) (by decide)) m0 m1 fun H3 s3 => ?_⟩
    have s03 := s2.trans s3
    clear s2 s3 n1
    have vj : ∀ k : Int, Val F Dd k 6 12 (.tuple [.str "lives", .str z, .int m]) (aliveB Dd z m) := fun k => (val_livAt nz zF m0 m1).mono (by decide) (by decide)
    refine ⟨_, rfl, _, rfl, _, rfl, by show 3 ≤ sizeLine; decide, fun t4 n4 => ?_⟩
    have s4 : Same H (upd H3 t4 (.tup [.str "lives", .str z, .int m])) := s03.trans (same_new n4)
    refine ⟨_, rfl, comes_go (home.same s4) (tale.same s4) (.tup (sqT upd_same) (.cons (.str _) (.cons (.str _) (.cons (.int _) .nil)))) (vj 77) (by decide) (by decide) fun H5 s5 => ⟨_, rfl, rfl, _, rfl, ?_⟩⟩
    rw [show (!decide (V.bl (aliveB Dd z m) = V.bl (aliveB Dd z m))) = false by simp]
    have s05 := s4.trans s5
    refine iteF ⟨_, rfl, _, rfl, _, rfl, by show 3 ≤ sizeLine; decide, fun t6 n6 => ?_⟩
    have s6 : Same H (upd H5 t6 (.tup [.str "lives", .str z, .int m])) := s05.trans (same_new n6)
    refine ⟨_, rfl, comes_go (home.same s6) (tale.same s6) (.tup (sqT upd_same) (.cons (.str _) (.cons (.str _) (.cons (.int _) .nil)))) (vj 0) (by decide) (by decide) fun H7 s7 => ⟨_, rfl, rfl, _, rfl, ?_⟩⟩
    rw [show (!decide (V.bl (aliveB Dd z m) = V.bl (aliveB Dd z m))) = false by simp]
    have s07 := s6.trans s7
    clear s4 s5 s6 s7 s05 s03 n4 n6 vj
    refine iteF ?_
    have hh7 := (tk_same s07).sq hh0
    have hT7 := (tk_same s07).sq hT
    refine ⟨_, rfl, hh, _, 0, _, rfl, rfl, hh7, rfl, tp, rfl, ⟨_, hT7⟩, fun L nL => lc_tup (K := K) (a := tp) (xs := xs) (fun j H' => (∃ ys : List V, H' L = some (.lst ys) ∧ ys.length = (kidsOf (F.take j) z).length ∧ ∀ (i : Nat) (x : V), ys[i]? = some x → ∃ y, (kidsOf (F.take j) z)[i]? = some y ∧ Dz [] K H' x (notD (livD y))) ∧ Same H7 H') ⟨⟨[], upd_same, rfl, fun i x h => by simp at h⟩, same_new nL⟩ (fun j H' _ h => (tk_same h.2).sq hT7) ?_ ?_⟩
    · rintro j x H8 hx8 ⟨⟨ys, hL, yl, hy⟩, s8⟩
      obtain ⟨rb, r2, rfl, hr8, hrb⟩ := hx j x hx8
      have jl := lt_get hx8
      have kl := kids_len (F.take j) z
      rw [List.length_take] at kl
      refine ⟨rb, _, rfl, (tk_same (s07.trans s8)).sq hrb, rfl, _, _, rfl, _, _, rfl, rfl, rfl, _, rfl, _, rfl, by cases r2.2 <;> rfl, _, rfl, ?_⟩
      rw [kid_eq]
      have more : kidsOf (F.take (j + 1)) z = kidsOf (F.take j) z ++ (if kidB z r2 = true then [r2.1] else []) := by
        unfold kidsOf
        rw [take_more hr8, List.filter_append, List.filter_cons, List.filter_nil, List.map_append]
        cases kidB z r2 <;> rfl
      cases c : kidB z r2 with
      | false =>
        rw [c] at more
        rw [if_neg (by decide), List.append_nil] at more
        refine iteF ⟨⟨ys, hL, ?_, ?_⟩, s8⟩
        · rw [more]
          exact yl
        · rw [more]
          exact hy
      | true =>
        rw [c] at more
        rw [if_pos rfl] at more
        refine iteT ⟨_, rfl, by show 2 ≤ sizeLine; decide, fun t9 n9 => ⟨by show 2 ≤ sizeLine; decide, fun t10 n10 => ?_⟩⟩
        have s10 : Same H8 (upd (upd H8 t9 (.tup [.str "lives", .str r2.1])) t10 (.tup [.str "not", .ref t9])) := (same_new n9).trans (same_new n10)
        have z10 : Dz [] K (upd (upd H8 t9 (.tup [.str "lives", .str r2.1])) t10 (.tup [.str "not", .ref t9])) (.ref t10) (notD (livD r2.1)) := .tup (sqT upd_same) (.cons (.str _) (.cons (.tup ((tk_new n10).sq (sqT upd_same)) (.cons (.str _) (.cons (.str _) .nil))) .nil))
        revert s10 z10
        generalize upd (upd H8 t9 (.tup [.str "lives", .str r2.1])) t10 (.tup [.str "not", .ref t9]) = H10
        intro s10 z10
        have hL10 := s10 _ _ hL
        have cdn : ∀ y, nmB y = true → Cd 2 (notD (livD y)) := fun y hy => form_cd (form_neg (form_liv hy))
        refine ⟨ys, hL10, ?_, ⟨ys ++ [.ref t10], upd_same, ?_, fun i y hyi => ?_⟩, ((Bt.of_same (S := []) (s8.trans s10)).upd0 nL).same⟩
        · rw [yl]
          exact small1000 (by omega)
        · rw [more, List.length_append, List.length_append, yl]
          rfl
        · rw [more]
          by_cases hi : i < ys.length
          · rw [List.getElem?_append_left hi] at hyi
            obtain ⟨e, he, dze⟩ := hy i y hyi
            refine ⟨e, by rw [List.getElem?_append_left (by omega)]; exact he, cd_tk ((tk_same s10).trans (tk_lst hL10)) (cdn e ?_) dze⟩
            have hm := kids_in (List.mem_of_getElem? he)
            obtain ⟨r3, hr3, rfl⟩ := List.mem_map.mp hm
            exact (gf.nm r3 (List.mem_of_mem_take hr3)).name
          · have hl := lt_get hyi
            rw [List.length_append] at hl
            simp only [List.length_cons, List.length_nil] at hl
            obtain rfl : i = ys.length := by omega
            rw [List.getElem?_append_right (Nat.le_refl _), Nat.sub_self] at hyi
            cases hyi
            exact ⟨r2.1, by rw [List.getElem?_append_right (by omega), yl, Nat.sub_self]; rfl, cd_tk (tk_lst hL10) (cdn _ (gf.nm r2 (List.mem_of_getElem? hr8)).name) z10⟩
    rintro H8 ⟨⟨ys, hL, yl, hy⟩, s8⟩
    rw [xl, List.take_length] at yl hy
    have kl := kids_len F z
    have y6 : ys.length ≤ 6 := by omega
    refine ⟨6, rfl, L, ys, rfl, sqL hL, fun pG nG => ?_⟩
    rw [show cutV ys none (some 6) = ys from cut_whole (k := 6) y6]
    have dzs : DzAll [] K H8 ys ((kidsOf F z).map fun y => notD (livD y)) := dzall_of (by rw [List.length_map]; exact yl) fun i y hyi => by
      obtain ⟨e, he, dze⟩ := hy i y hyi
      exact ⟨_, by rw [List.getElem?_map, he]; rfl, dze⟩
    have hG : (upd H8 pG (.lst ys)) pG = some (.lst ys) := upd_same
    have s9 : Same H8 (upd H8 pG (.lst ys)) := same_new nG
    revert hG s9
    generalize upd H8 pG (.lst ys) = H9
    intro hG s9
    have s09 := (s07.trans s8).trans s9
    have dz9 := dzs.same s9
    clear dzs hy hL s8 s9 nG nL s07 hh7 hT7
    have gv : Vals2 F Dd m 2 1 ((kidsOf F z).map fun y => notD (livD y)) ((kidsOf F z).map fun y => !aliveB Dd y m) := gone_vals gf fun y hy => ⟨kids_nm gf hy, kids_in hy⟩
    have gv6 := gv.mono (n' := 6) (c' := 12) (by decide) (by decide)
    refine ⟨_, rfl, _, rfl, by show 2 ≤ sizeLine; decide, fun t10 n10 => ?_⟩
    have s10 : Same H9 (upd H9 t10 (.tup [.str "childless", .str z])) := same_new n10
    refine ⟨_, rfl, _, rfl, comes_go (home.same (s09.trans s10)) (tale.same (s09.trans s10)) (.tup (sqT upd_same) (.cons (.str _) (.cons (.str _) .nil))) ((val_chl nz zF).mono (n' := 6) (c' := 12) (by decide) (by decide)) m0 m1 fun H11 s11 => ?_⟩
    have s911 := s10.trans s11
    have s011 := s09.trans s911
    have hG11 := s911 _ _ hG
    have dz11 := dz9.same s911
    clear s10 s11 n10 hG dz9 s911 s09
    refine ⟨_, rfl, _, rfl, pG, rfl, ⟨_, sqL hG11⟩, fun L2 nL2 => ?_⟩
    refine lc_list (K := K) (a := pG) (xs := ys) (fun j H' => H' L2 = some (.lst ((((kidsOf F z).map fun y => !aliveB Dd y m).take j).map V.bl)) ∧ Same H11 H') ⟨upd_same, same_new nL2⟩ (fun j H' _ h => sqL (h.2 _ _ hG11)) ?_ ?_
    · rintro j x H12 hx12 ⟨hL2, s12⟩
      obtain ⟨e, hej, dze⟩ := dz11.get hx12
      obtain ⟨b', hb', vb'⟩ := gv6.2 j e hej
      have jl := lt_get hb'
      rw [List.length_map] at jl
      have s012 := s011.trans s12
      refine ⟨rfl, tyes (iteT ⟨_, rfl, _, rfl, _, rfl, _, rfl, comes_go (home.same s012) (tale.same s012) (dze.same s12) vb' m0 m1 fun H13 s13 => ⟨_, s13 _ _ hL2, ?_, ?_, ((Bt.of_same (S := []) (s12.trans s13)).upd0 nL2).same⟩⟩)⟩
      · rw [List.length_map, List.length_take]
        exact small1000 (by omega)
      · rw [upd_same, take_more hb', List.map_append]
        rfl
    rintro H12 ⟨hL2, s12⟩
    rw [show ys.length = ((kidsOf F z).map fun y => !aliveB Dd y m).length by rw [List.length_map]; exact yl, List.take_length] at hL2
    refine ⟨L2, _, rfl, sqL hL2, rfl, _, rfl, ?_⟩
    rw [not_any, show (!decide (V.bl (!((kidsOf F z).any fun y => aliveB Dd y m)) = V.bl (!((kidsOf F z).any fun y => aliveB Dd y m)))) = false by simp]
    have s012 := s011.trans s12
    have hG12 := s12 _ _ hG11
    refine iteF ⟨_, rfl, pG, _, rfl, .inl (sqL hG12), _, 1, rfl, rfl, _, rfl, ?_⟩
    by_cases c1 : (1 : Int) < ((ys.length : Nat) : Int)
    rotate_left
    · rw [decide_eq_false c1]
      exact iteF (iteF ⟨⟨_, _, _, _, _, rfl⟩, s012⟩)
    rw [decide_eq_true c1]
    refine iteT ⟨_, rfl, _, rfl, by show 1 ≤ sizeLine; decide, fun a13 n13 => ?_⟩
    have g13 : SqT K (upd H12 a13 (.tup [.str "and"])) a13 [.str "and"] := sqT upd_same
    have s13 : Same H12 (upd H12 a13 (.tup [.str "and"])) := same_new n13
    revert g13 s13
    generalize upd H12 a13 (.tup [.str "and"]) = H13
    intro g13 s13
    refine ⟨_, rfl, pG, ys, rfl, .inl ⟨sqL (s13 _ _ hG12), fun t14 n14 => ?_⟩⟩
    refine cat_tup ((tk_new n14).sq g13) (sqT upd_same) (by show 1 + ys.length ≤ 100; omega) fun r15 H15 s15 q15 => ?_
    have s1215 := (s13.trans (same_new n14)).trans s15
    have s015 := s012.trans s1215
    have va := (gv.row true (by rw [List.length_map]; omega) (by rw [List.length_map]; omega)).mono (n' := 6) (c' := 12) (by decide) (by rw [List.length_map]; omega)
    refine ⟨_, rfl, _, rfl, comes_go (home.same s015) (tale.same s015) (.tup q15 (.cons (.str _) ((dz11.same s12).same s1215))) va m0 m1 fun H16 s16 => ⟨rfl, _, rfl, ?_⟩⟩
    rw [if_pos rfl, not_any, show (!decide (V.bl (!((kidsOf F z).any fun y => aliveB Dd y m)) = V.bl (!((kidsOf F z).any fun y => aliveB Dd y m)))) = false by simp]
    exact iteF ⟨⟨_, _, _, _, _, rfl⟩, s015.trans s16⟩
end
end WdQ

set_option Elab.async false
set_option linter.all false
set_option maxRecDepth 100000
set_option maxHeartbeats 4000000
set_option exponentiation.threshold 5000
namespace WdQ
open PySem PySem.Spec PyProof.Rows L2 WdM Wd
abbrev sAf : Stmt := topS 66
def pAf : List Str := ["_law_pool_here", "_law_days", "_law_deaths_here"]
def nAf : List Str := ["_law_pool_here", "_law_days", "_law_deaths_here", "_law_found", "_law_one", "_law_day", "_law_after", "_law_under", "_law_over", "_law_first", "_law_last"]
theorem scAf : FnScope nAf pAf (defScope sAf) := ⟨rfl, rfl, rfl, by decide +kernel, rfl, by decide +kernel, by decide +kernel⟩
/-- rows of the same names that outlive the same of some days -/
def Alike (dys : List Int) (rows rows' : List (Str × Int)) : Prop := rows'.map Prod.fst = rows.map Prod.fst ∧ ∀ (i : Nat) (r r' : Str × Int), rows[i]? = some r → rows'[i]? = some r' → ∀ t ∈ dys, (t < r.2 ↔ t < r'.2)
theorem alive_alike {dys : List Int} {t : Int} (ht : t ∈ dys) (z : Str) : ∀ {rows rows' : List (Str × Int)}, Alike dys rows rows' → aliveB rows' z t = aliveB rows z t
  | [], [], _ => rfl
  | [], _ :: _, h => by have := h.1; simp at this
  | _ :: _, [], h => by have := h.1; simp at this
  | r :: rows, r' :: rows', h => by
    have e1 : r'.1 = r.1 := by
      have := h.1
      rw [List.map_cons, List.map_cons] at this
      exact (List.cons.inj this).1
    have ih := alive_alike ht z (rows := rows) (rows' := rows') ⟨by
      have := h.1
      rw [List.map_cons, List.map_cons] at this
      exact (List.cons.inj this).2, fun i => h.2 (i + 1)⟩
    have e2 := h.2 0 r r' rfl rfl t ht
    have step : ∀ (q : Str × Int) (qs : List (Str × Int)), aliveB (q :: qs) z t = if q.1 = z then decide (q.2 > t) else aliveB qs z t := fun q qs => by
      unfold aliveB
      show (match (if q.1 = z then some q.2 else look qs z) with | none => true | some d => decide (d > t)) = _
      by_cases c : q.1 = z
      · rw [if_pos c, if_pos c]
      · rw [if_neg c, if_neg c]
        first
          | done
          | rfl
    rw [step, step, e1]
    by_cases c : r.1 = z
    · rw [if_pos c, if_pos c]
      exact decide_eq_decide.mpr e2.symm
    · rw [if_neg c, if_neg c]
      exact ih
section
variable {P : Program} {w : World} {K : PySem.W.Frag} {mg : Str → Option Value} {base : Heap}
def spAf (K : PySem.W.Frag) : Sp := fun vs H Q _ => ∃ (l aD : Addr) (v : V) (dys : List Int) (rows : List (Str × Int)), vs = [.ref l, .ref aD, v] ∧ PoolAt H l ∧ H aD = some (.lst (dys.map V.int)) ∧ aD ≠ l ∧ dys.length ≤ 100 ∧ DeathsAt K H v rows ∧ GoodD rows ∧
  ∀ (H' : Hp) (p : Addr) (rows' : List (Str × Int)), Bt [l] H H' → PoolAt H' l → DeathsAt K H' (.ref p) rows' → GoodD rows' → Alike dys rows rows' → Q (.ref p) H'
theorem good_same {rows rows' : List (Str × Int)} (g : GoodD rows) (e : rows'.map Prod.fst = rows.map Prod.fst) (dy : ∀ r ∈ rows', -9999 ≤ r.2 ∧ r.2 ≤ 9999) : GoodD rows' := by
  have at_ : ∀ (i : Nat) (r' : Str × Int), rows'[i]? = some r' → ∃ r, rows[i]? = some r ∧ r.1 = r'.1 := fun i r' h => by
    have h2 : (rows.map Prod.fst)[i]? = some r'.1 := by rw [← e, List.getElem?_map, h]; rfl
    rw [List.getElem?_map] at h2
    cases hc : rows[i]? with
    | none => rw [hc] at h2; cases h2
    | some r => rw [hc] at h2; exact ⟨r, rfl, Option.some.inj h2⟩
  refine ⟨by have := congrArg List.length e; rw [List.length_map, List.length_map] at this; have := g.l8; omega, fun r' hr => ?_, dy, fun i r s h1 h2 => ?_⟩
  · obtain ⟨i, hi⟩ := List.mem_iff_getElem?.mp hr
    obtain ⟨r, h, er⟩ := at_ i r' hi
    rw [← er]
    exact g.nm r (List.mem_of_getElem? h)
  · obtain ⟨r0, h10, e1⟩ := at_ i r h1
    obtain ⟨s0, h20, e2⟩ := at_ (i + 1) s h2
    rw [← e1, ← e2]
    exact g.up i r0 s0 h10 h20
theorem ok_af {f fT : Addr} {fd fdT : FuncData} {k : Nat} (B : Bi mg) (D : Df K mg "_law_as_far" sAf f fd pAf) (DT : Df K mg "_law_take" sTake fT fdT ["_law_pool_here", "_law_many"]) (GT : FnOk P w K mg base CX0 (k + 1) fT fdT ["_law_pool_here", "_law_many"] spTake) : FnOk P w K mg base CX0 (k + 2) f fd pAf (spAf K) := by
  refine D.fn.ok scAf (fun vs H Q E h => ?_) (fun cdv A outer s H vs Q E hr h => ?_)
  · obtain ⟨l, aD, v, dys, rows, rfl, _⟩ := h
    rfl
  · obtain ⟨l, aD, v, dys, rows, rfl, pool, hD, nDl, dl, hv, gd, q⟩ := h
    refine ⟨_, pss_cons (ps_set (i := 3) scAf.nd rfl (.inl rfl) (pe_lst pa_nil))
      (pss_cons (ps_for PassesOwn.never rfl (pi_tup (pv 2)) (pg_tup rfl (pgs_cons (pg_name (i := 4) scAf.nd rfl (.inl rfl)) (pgs_cons (pg_name (i := 5) scAf.nd rfl (.inr rfl)) pgs_nil)))
        (pss_cons (ps_setLc (i := 7) (own := [("_law_after", 6)]) (g := gName 6) rfl scAf.nd rfl rfl (sw_true rfl rfl rfl (by decide +kernel)) (pi_list (pv 1)) (blkOk_by (own := [("_law_after", 6)]) (N := nAf) (sc := defScope sAf) (by decide +kernel))
            (fun _ _ _ _ _ => pg_name (i := 6) scAf.nd rfl (Or.inl rfl)) (fun _ _ _ _ _ => pts_one (pt_cmpR op_lt (pv 6) (pv 5) (nomark _))) (fun _ _ _ _ _ => pv 6))
        (pss_cons (ps_setLc (i := 8) (own := [("_law_after", 6)]) (g := gName 6) rfl scAf.nd rfl rfl (sw_true rfl rfl rfl (by decide +kernel)) (pi_list (pv 1)) (blkOk_by (own := [("_law_after", 6)]) (N := nAf) (sc := defScope sAf) (by decide +kernel))
            (fun _ _ _ _ _ => pg_name (i := 6) scAf.nd rfl (Or.inl rfl)) (fun _ _ _ _ _ => pts_one (pt_cmpR op_ge (pv 6) (pv 5) (nomark _))) (fun _ _ _ _ _ => pv 6))
        (pss_cons (ps_par (i := 9) (j := 10) rfl scAf.nd rfl rfl (by decide) rfl rfl (pa_cons (pe_callB (cr_max rfl) (by rfl) B.max (by decide +kernel) (pa_cons (pe_op op_cat (pe_lst (pa_cons (pe_un un_neg pe_int) pa_nil)) (pe_lc (own := [("_law_after", 6)]) (g := gName 6) (tt := tYes) rfl scAf.nd (pi_list (pv 7)) (blkOk_by (own := [("_law_after", 6)]) (N := nAf) (sc := defScope sAf) (by decide +kernel))
            (fun _ _ _ _ _ => pg_name (i := 6) scAf.nd rfl (Or.inl rfl)) (fun _ _ _ _ _ => pts_nil) (fun _ _ _ _ _ => pe_op op_add (pv 6) pe_int))) pa_nil)) (pa_cons (pe_callB (cr_min rfl) (by rfl) B.min (by decide +kernel) (pa_cons (pe_op op_cat (pe_lst (pa_cons pe_int pa_nil)) (pv 8)) pa_nil)) pa_nil)) (by rfl))
        (pss_one (ps_expr (pe_bm PySem.F.plainAttrs_list PySem.F.slot_list_append PySem.F.type_list_append mt_append (pv 3) (pa_cons (pe_tup (pa_cons (pv 4) (pa_cons (pe_op op_add (pv 9) (pe_call GT hr (by rfl) DT.mg DT.fn.kp DT.bd .nil pass0 (pa_cons (pv 0) (pa_cons (pe_op op_add (pe_op op_sub (pv 10) (pv 9)) pe_int) pa_nil)))) pa_nil))) pa_nil))))))))
      (pss_one (ps_ret (pe_callTy call_tuple_of (by rfl) B.tuple boot_tuple (pa_cons (pv 3) pa_nil))))), ?_⟩
    obtain ⟨tV, xs, rfl, hT, xl, hx⟩ := id hv
    have l8 := gd.l8
    refine ⟨by show 0 ≤ sizeLine; decide, fun aF nF => ?_⟩
    have nFl : aF ≠ l := fun e => pool.ne nF e.symm
    have nFD : aD ≠ aF := ne_of_none hD nF
    have s0 : Same H (upd H aF (.lst [])) := same_new nF
    refine ⟨_, rfl, tV, rfl, ⟨_, (tk_same s0).sq hT⟩, for_tup (K := K) (a := tV) (xs := xs) (fun i σ H' => (∃ y4 y5 y7 y8 y9 y10 : Option V, σ = [some (.ref l), some (.ref aD), some (.ref tV), some (.ref aF), y4, y5, none, y7, y8, y9, y10]) ∧ (∃ (ys : List V) (rows' : List (Str × Int)), H' aF = some (.lst ys) ∧ ys.length = rows'.length ∧ rows'.map Prod.fst = (rows.take i).map Prod.fst ∧ (∀ (j : Nat) (x : V), ys[j]? = some x → ∃ (a : Addr) (r : Str × Int), x = .ref a ∧ rows'[j]? = some r ∧ SqT K H' a (rowD r)) ∧ (∀ r ∈ rows', -9999 ≤ r.2 ∧ r.2 ≤ 9999) ∧ ∀ (j : Nat) (r r' : Str × Int), rows[j]? = some r → rows'[j]? = some r' → ∀ t ∈ dys, (t < r.2 ↔ t < r'.2)) ∧ Bt [l] H H' ∧ PoolAt H' l)
      ⟨⟨none, none, none, none, none, none, rfl⟩, ⟨[], [], upd_same, rfl, rfl, (fun j x hx => nomatch hx), (fun r hr => nomatch hr), (fun j r r' _ h => nomatch h)⟩, Bt.of_same s0, pool.same s0⟩ (fun i σ H' _ h => (h.2.2.1.tk pool.lst).sq hT) ?_ ?_⟩
    · rintro i x σ H1 hx1 ⟨⟨y4, y5, y7, y8, y9, y10, rfl⟩, ⟨ys, rows', hF, yl, rz, hy, dy, al⟩, b1, pool1⟩
      obtain ⟨ra, r, rfl, hri, hra⟩ := hx i x hx1
      have il := lt_get hri
      have rl' : rows'.length = i := by
        have := congrArg List.length rz
        rw [List.length_map, List.length_map, List.length_take] at this
        omega
      obtain ⟨d0, d1⟩ := gd.dy r (List.mem_of_getElem? hri)
      refine ⟨ra, _, rfl, (b1.tk pool.lst).sq hra, rfl, _, _, rfl, _, _, rfl, rfl, ?_⟩
      have hD1 := kept b1 hD (by simp [nDl])
      -- those ahead
      refine ⟨_, rfl, aD, rfl, ⟨_, sqL hD1⟩, fun L1 nL1 => lc_list (K := K) (a := aD) (xs := dys.map V.int) (fun j H' => H' L1 = some (.lst (((dys.take j).filter fun t => decide (t < r.2)).map V.int)) ∧ Same H1 H') ⟨upd_same, same_new nL1⟩ (fun j H' _ h => sqL (h.2 _ _ hD1)) ?_ ?_⟩
      · rintro j x H2 hx2 ⟨hL, s2⟩
        obtain ⟨t, ht, rfl⟩ : ∃ t, dys[j]? = some t ∧ x = .int t := by
          rw [List.getElem?_map] at hx2
          cases hc : dys[j]? with
          | none => rw [hc] at hx2; cases hx2
          | some y => rw [hc] at hx2; cases hx2; exact ⟨y, rfl, rfl⟩
        refine ⟨rfl, _, rfl, _, rfl, t, r.2, rfl, rfl, _, rfl, ?_⟩
        cases c : decide (t < r.2) with
        | false =>
          refine iteF ⟨?_, s2⟩
          rw [take_more ht, List.filter_append, List.filter_cons, c]
          simpa using hL
        | true =>
          refine iteT ⟨_, rfl, _, hL, ?_, ?_, ((Bt.of_same (S := []) s2).upd0 nL1).same⟩
          · rw [List.length_map]
            have := List.length_filter_le (fun t => decide (t < r.2)) (dys.take j)
            rw [List.length_take] at this
            exact small1000 (by omega)
          · rw [upd_same, take_more ht, List.filter_append, List.filter_cons, c, if_pos rfl, List.filter_nil, List.map_append]
            rfl
      rintro H2 ⟨hL1, s2⟩
      rw [List.length_map, List.take_length] at hL1
      have hD2 := s2 _ _ hD1
      refine ⟨_, rfl, aD, rfl, ⟨_, sqL hD2⟩, fun L2 nL2 => lc_list (K := K) (a := aD) (xs := dys.map V.int) (fun j H' => H' L2 = some (.lst (((dys.take j).filter fun t => decide (r.2 ≤ t)).map V.int)) ∧ Same H2 H') ⟨upd_same, same_new nL2⟩ (fun j H' _ h => sqL (h.2 _ _ hD2)) ?_ ?_⟩
      · rintro j x H3 hx3 ⟨hL, s3⟩
        obtain ⟨t, ht, rfl⟩ : ∃ t, dys[j]? = some t ∧ x = .int t := by
          rw [List.getElem?_map] at hx3
          cases hc : dys[j]? with
          | none => rw [hc] at hx3; cases hx3
          | some y => rw [hc] at hx3; cases hx3; exact ⟨y, rfl, rfl⟩
        refine ⟨rfl, _, rfl, _, rfl, t, r.2, rfl, rfl, _, rfl, ?_⟩
        cases c : decide (r.2 ≤ t) with
        | false =>
          refine iteF ⟨?_, s3⟩
          rw [take_more ht, List.filter_append, List.filter_cons, c]
          simpa using hL
        | true =>
          refine iteT ⟨_, rfl, _, hL, ?_, ?_, ((Bt.of_same (S := []) s3).upd0 nL2).same⟩
          · rw [List.length_map]
            have := List.length_filter_le (fun t => decide (r.2 ≤ t)) (dys.take j)
            rw [List.length_take] at this
            exact small1000 (by omega)
          · rw [upd_same, take_more ht, List.filter_append, List.filter_cons, c, if_pos rfl, List.filter_nil, List.map_append]
            rfl
      rintro H3 ⟨hL2, s3⟩
      rw [List.length_map, List.take_length] at hL2
      have hL13 := s3 _ _ hL1
      have s13 := s2.trans s3
      have uin : ∀ t, t ∈ (dys.filter fun t => decide (t < r.2)) ↔ t ∈ dys ∧ t < r.2 := fun t => by rw [List.mem_filter]; simp
      have oin : ∀ t, t ∈ (dys.filter fun t => decide (r.2 ≤ t)) ↔ t ∈ dys ∧ r.2 ≤ t := fun t => by rw [List.mem_filter]; simp
      have ul : (dys.filter fun t => decide (t < r.2)).length ≤ 100 := Nat.le_trans (List.length_filter_le _ _) dl
      have ol : (dys.filter fun t => decide (r.2 ≤ t)).length ≤ 100 := Nat.le_trans (List.length_filter_le _ _) dl
      revert hL13 hL2 uin oin ul ol
      generalize (dys.filter fun t => decide (t < r.2)) = us
      generalize (dys.filter fun t => decide (r.2 ≤ t)) = os
      intro hL2 hL13 uin oin ul ol
      clear hL1 hD2 s2 s3
      refine ⟨9999, rfl, by show 1 ≤ sizeLine; decide, fun p4 n4 => ?_⟩
      have h4 : (upd H3 p4 (.lst [.int (-9999)])) p4 = some (.lst [.int (-9999)]) := upd_same
      have s4 : Same H3 (upd H3 p4 (.lst [.int (-9999)])) := same_new n4
      revert h4 s4
      generalize upd H3 p4 (.lst [.int (-9999)]) = H4
      intro h4 s4
      have hL14 := s4 _ _ hL13
      refine ⟨_, rfl, L1, rfl, ⟨_, sqL hL14⟩, fun L5 nL5 => lc_list (K := K) (a := L1) (xs := us.map V.int) (fun j H' => H' L5 = some (.lst (((us.take j).map fun t => t + 1).map V.int)) ∧ Same H4 H') ⟨upd_same, same_new nL5⟩ (fun j H' _ h => sqL (h.2 _ _ hL14)) ?_ ?_⟩
      · rintro j x H5 hx5 ⟨hL, s5⟩
        obtain ⟨t, ht, rfl⟩ : ∃ t, us[j]? = some t ∧ x = .int t := by
          rw [List.getElem?_map] at hx5
          cases hc : us[j]? with
          | none => rw [hc] at hx5; cases hx5
          | some y => rw [hc] at hx5; cases hx5; exact ⟨y, rfl, rfl⟩
        refine ⟨rfl, tyes (iteT ⟨_, rfl, t, 1, rfl, rfl, _, hL, ?_, ?_, ((Bt.of_same (S := []) s5).upd0 nL5).same⟩)⟩
        · rw [List.length_map, List.length_map, List.length_take]
          exact small1000 (by omega)
        · rw [upd_same, take_more ht, List.map_append, List.map_append]
          rfl
      rintro H5 ⟨hL5, s5⟩
      rw [List.length_map, List.take_length] at hL5
      refine ⟨p4, L5, _, _, rfl, rfl, s5 _ _ h4, hL5, ?_, fun p6 n6 => ⟨p6, -9999 :: us.map fun t => t + 1, rfl, sqL upd_same, by simp, fun first fin fmax => ?_⟩⟩
      · rw [List.length_map, List.length_map]
        exact Nat.le_trans (show 1 + us.length ≤ 101 by omega) (by decide)
      have s6 : Same H1 (upd H5 p6 (.lst ([.int (-9999)] ++ (us.map fun t => t + 1).map V.int))) := ((s13.trans s4).trans s5).trans (same_new n6)
      have hL26 : (upd H5 p6 (.lst ([.int (-9999)] ++ (us.map fun t => t + 1).map V.int))) L2 = some (.lst (os.map V.int)) := ((s4.trans s5).trans (same_new n6)) _ _ hL2
      revert s6 hL26
      generalize upd H5 p6 (.lst ([.int (-9999)] ++ (us.map fun t => t + 1).map V.int)) = H6
      intro s6 hL26
      clear hL5 h4 s4 s5 hL14 hL13 hL2 s13
      refine ⟨by show 1 ≤ sizeLine; decide, fun p7 n7 => ?_⟩
      have h7 : (upd H6 p7 (.lst [.int 9999])) p7 = some (.lst [.int 9999]) := upd_same
      have s7 : Same H6 (upd H6 p7 (.lst [.int 9999])) := same_new n7
      revert h7 s7
      generalize upd H6 p7 (.lst [.int 9999]) = H7
      intro h7 s7
      refine ⟨_, rfl, p7, L2, _, _, rfl, rfl, h7, s7 _ _ hL26, ?_, fun p8 n8 => ⟨p8, 9999 :: os, rfl, sqL upd_same, by simp, fun last lin lmin => ⟨_, _, rfl, ?_⟩⟩⟩
      · rw [List.length_map]
        exact Nat.le_trans (show 1 + os.length ≤ 101 by omega) (by decide)
      have s8 : Same H1 (upd H7 p8 (.lst ([.int 9999] ++ os.map V.int))) := (s6.trans s7).trans (same_new n8)
      revert s8
      generalize upd H7 p8 (.lst ([.int 9999] ++ os.map V.int)) = H8
      intro s8
      have f1 : first ≤ r.2 := by
        rcases List.mem_cons.mp fin with e | e
        · omega
        · obtain ⟨t, ht, rfl⟩ := List.mem_map.mp e
          have := ((uin t).mp ht).2
          omega
      have f0 : -9999 ≤ first := fmax (-9999) List.mem_cons_self
      have l1 : r.2 ≤ last := by
        rcases List.mem_cons.mp lin with e | e
        · omega
        · exact ((oin last).mp e).2
      have l0 : last ≤ 9999 := lmin 9999 List.mem_cons_self
      have hF8 := s8 _ _ hF
      have pool8 := pool1.same s8
      refine ⟨_, rfl, .inl ⟨rfl, _, sqL hF8⟩, _, rfl, _, rfl, _, rfl, _, rfl, _, rfl, last, first, rfl, rfl, _, 1, rfl, rfl, l, _, rfl, pool8, by show 0 < last - first + 1; omega, fun H9 e b9 pool9 e0 e1 => ⟨first, e, rfl, rfl, by show 2 ≤ sizeLine; decide, fun tp ntp => ?_⟩⟩
      have e1 : e < last - first + 1 := e1
      have b19 : Bt [l] H1 H9 := (Bt.of_same s8).trans b9
      have hF9 := kept b19 hF (by simp [nFl])
      have tk9 : Tk H1 H9 := b19.tk pool1.lst
      have hF10 : (upd H9 tp (.tup [.str r.1, .int (first + e)])) aF = some (.lst ys) := same_new ntp _ _ hF9
      have tk10 : Tk H1 (upd H9 tp (.tup [.str r.1, .int (first + e)])) := tk9.trans (tk_new ntp)
      have sN : SqT K (upd H9 tp (.tup [.str r.1, .int (first + e)])) tp (rowD (r.1, first + e)) := sqT upd_same
      have b10 : Bt [l] H (upd H9 tp (.tup [.str r.1, .int (first + e)])) := (b1.trans b19).new ntp
      have pool10 : PoolAt (upd H9 tp (.tup [.str r.1, .int (first + e)])) l := pool9.same (same_new ntp)
      revert hF10 tk10 sN b10 pool10
      generalize upd H9 tp (.tup [.str r.1, .int (first + e)]) = H10
      intro hF10 tk10 sN b10 pool10
      refine ⟨aF, ys, .ref tp, rfl, rfl, hF10, by rw [yl, rl']; exact Nat.lt_of_lt_of_le (show i < 9 by omega) (by decide), ⟨_, _, _, _, _, _, rfl⟩, ⟨ys ++ [.ref tp], rows' ++ [(r.1, first + e)], upd_same, ?_, ?_, rows_tk (tk_lst hF10) (rows_snoc (f := rowD) yl (rows_tk tk10 hy) sN), ?_, ?_⟩, b10.upd0 nF, pool10.upd nFl.symm⟩
      · rw [List.length_append, List.length_append, yl]
        rfl
      · rw [List.map_append, rz, take_more hri, List.map_append]
        rfl
      · intro r2 hr2
        rcases List.mem_append.mp hr2 with h | h
        · exact dy r2 h
        · rw [List.mem_singleton.mp h]
          show -9999 ≤ first + e ∧ first + e ≤ 9999
          omega
      · intro j r2 r2' h1 h2 t ht
        by_cases hj : j < rows'.length
        · rw [List.getElem?_append_left hj] at h2
          exact al j r2 r2' h1 h2 t ht
        · have hl := lt_get h2
          rw [List.length_append] at hl
          simp only [List.length_cons, List.length_nil] at hl
          obtain rfl : j = rows'.length := by omega
          rw [List.getElem?_append_right (Nat.le_refl _), Nat.sub_self] at h2
          cases h2
          rw [rl', hri] at h1
          cases h1
          show t < r.2 ↔ t < first + e
          constructor
          · intro h
            have := fmax (t + 1) (List.mem_cons_of_mem _ (List.mem_map.mpr ⟨t, (uin t).mpr ⟨ht, h⟩, rfl⟩))
            omega
          · intro h
            by_cases c : t < r.2
            · exact c
            · have := lmin t (List.mem_cons_of_mem _ ((oin t).mpr ⟨ht, by omega⟩))
              omega
    · rintro σ H1 ⟨⟨y4, y5, y7, y8, y9, y10, rfl⟩, ⟨ys, rows', hF, yl, rz, hy, dy, al⟩, b1, pool1⟩
      rw [xl, List.take_length] at rz
      refine ⟨_, rfl, aF, ys, rfl, .inl ⟨sqL hF, fun tp ntp => q _ tp rows' (b1.new ntp) (pool1.same (same_new ntp)) ⟨tp, ys, rfl, sqT upd_same, yl, rows_tk (tk_new ntp) hy⟩ (good_same gd rz dy) ⟨rz, al⟩⟩⟩
end
end WdQ

set_option Elab.async false
set_option linter.all false
set_option maxRecDepth 100000
set_option maxHeartbeats 4000000
set_option exponentiation.threshold 5000
namespace WdQ
open PySem PySem.Spec PyProof.Rows L2 WdM Wd
abbrev sRi : Stmt := topS 67
def pRi : List Str := ["_law_pool_here", "_law_deaths_here"]
def nRi : List Str := ["_law_pool_here", "_law_deaths_here", "_law_found", "_law_one", "_law_day"]
theorem scRi : FnScope nRi pRi (defScope sRi) := ⟨rfl, rfl, rfl, by decide +kernel, rfl, by decide +kernel, by decide +kernel⟩
theorem goodD_tail {r : Str × Int} {rows : List (Str × Int)} (g : GoodD (r :: rows)) : GoodD rows := ⟨by have := g.l8; rw [List.length_cons] at this; omega, fun x hx => g.nm x (List.mem_cons_of_mem _ hx), fun x hx => g.dy x (List.mem_cons_of_mem _ hx), fun i x y hx hy => g.up (i + 1) x y hx hy⟩
theorem lt_trL {a b c : List Nat} (h : a < b) (k : b < c) : a < c := List.lt_trans h k
theorem goodD_lt : ∀ {rows : List (Str × Int)} {r : Str × Int}, GoodD (r :: rows) → ∀ x ∈ rows, r.1.cps.toList < x.1.cps.toList
  | [], _, _, _, h => (List.not_mem_nil h).elim
  | s :: rows, r, g, x, h => by
    have h1 := g.up 0 r s rfl rfl
    rcases List.mem_cons.mp h with rfl | h
    · exact h1
    · exact lt_trL h1 (goodD_lt (goodD_tail g) x h)
theorem pw_good : ∀ {rows : List (Str × Int)}, GoodD rows → (rows.map Prod.fst).Pairwise fun r s => r.cps.toList < s.cps.toList
  | [], _ => .nil
  | r :: rows, g => .cons (fun x hx => by
      obtain ⟨y, hy, rfl⟩ := List.mem_map.mp hx
      exact goodD_lt g y hy) (pw_good (goodD_tail g))
theorem up_of_pw : ∀ {rows : List (Str × Int)}, ((rows.map Prod.fst).Pairwise fun r s => r.cps.toList < s.cps.toList) → ∀ (i : Nat) (r s : Str × Int), rows[i]? = some r → rows[i + 1]? = some s → r.1.cps.toList < s.1.cps.toList
  | [], _, i, r, s, h, _ => by simp at h
  | x :: rows, p, 0, r, s, h, k => by
    cases h
    exact (List.pairwise_cons.mp p).1 s.1 (List.mem_map_of_mem (List.mem_of_getElem? (i := 0) k))
  | x :: rows, p, i + 1, r, s, h, k => up_of_pw (List.pairwise_cons.mp p).2 i r s h k
theorem look_mem {z : Str} {d : Int} : ∀ {rows : List (Str × Int)}, look rows z = some d → (z, d) ∈ rows
  | [], h => by cases h
  | r :: rows, h => by
    have h : (if r.1 = z then some r.2 else look rows z) = some d := h
    by_cases c : r.1 = z
    · rw [if_pos c] at h
      cases h
      rw [← c]
      exact List.mem_cons_self
    · rw [if_neg c] at h
      exact List.mem_cons_of_mem _ (look_mem h)
theorem look_of {r : Str × Int} : ∀ {rows : List (Str × Int)}, (rows.map Prod.fst).Nodup → r ∈ rows → look rows r.1 = some r.2
  | [], _, h => by cases h
  | q :: rows, nd, h => by
    rw [List.map_cons, List.nodup_cons] at nd
    show (if q.1 = r.1 then some q.2 else look rows r.1) = some r.2
    rcases List.mem_cons.mp h with rfl | h
    · rw [if_pos rfl]
    · rw [if_neg (fun e => nd.1 (by rw [e]; exact List.mem_map_of_mem h))]
      exact look_of nd.2 h
theorem nodup_good {rows : List (Str × Int)} (g : GoodD rows) : (rows.map Prod.fst).Nodup := (pw_good g).imp fun h e => by
  rw [e] at h
  exact List.lt_irrefl _ h
/-- in the second story more live longer -/
def Longer (D D' : List (Str × Int)) : Prop := ∀ z t, aliveB D z t = true → aliveB D' z t = true
theorem longer_of {rows rows' : List (Str × Int)} (g : GoodD rows) (h : ∀ r' ∈ rows', ∃ r ∈ rows, r.1 = r'.1 ∧ r.2 ≤ r'.2) : Longer rows rows' := fun z t a => by
  unfold aliveB at a ⊢
  cases e : look rows' z with
  | none => rfl
  | some d' =>
    obtain ⟨r, hr, e1, e2⟩ := h _ (look_mem e)
    have lk := look_of (nodup_good g) hr
    rw [show r.1 = z from e1] at lk
    rw [lk] at a
    have a : decide (r.2 > t) = true := a
    have a := of_decide_eq_true a
    show decide (d' > t) = true
    exact decide_eq_true (show t < d' by have : r.2 ≤ d' := e2; omega)
section
variable {P : Program} {w : World} {K : PySem.W.Frag} {mg : Str → Option Value} {base : Heap}
def spRi (K : PySem.W.Frag) : Sp := fun vs H Q _ => ∃ (l : Addr) (v : V) (rows : List (Str × Int)), vs = [.ref l, v] ∧ PoolAt H l ∧ DeathsAt K H v rows ∧ GoodD rows ∧
  ∀ (H' : Hp) (p : Addr) (rows' : List (Str × Int)), Bt [l] H H' → PoolAt H' l → DeathsAt K H' (.ref p) rows' → GoodD rows' → Longer rows rows' → Q (.ref p) H'
theorem ok_ri {f fT : Addr} {fd fdT : FuncData} {k : Nat} (B : Bi mg) (D : Df K mg "_law_risen" sRi f fd pRi) (DT : Df K mg "_law_take" sTake fT fdT ["_law_pool_here", "_law_many"]) (GT : FnOk P w K mg base CX0 (k + 1) fT fdT ["_law_pool_here", "_law_many"] spTake) : FnOk P w K mg base CX0 (k + 2) f fd pRi (spRi K) := by
  refine D.fn.ok scRi (fun vs H Q E h => ?_) (fun cdv A outer s H vs Q E hr h => ?_)
  · obtain ⟨l, v, rows, rfl, _⟩ := h
    rfl
  · obtain ⟨l, v, rows, rfl, pool, hv, gd, q⟩ := h
    refine ⟨_, pss_cons (ps_set (i := 2) scRi.nd rfl (.inl rfl) (pe_lst pa_nil))
      (pss_cons (ps_for PassesOwn.never rfl (pi_tup (pv 1)) (pg_tup rfl (pgs_cons (pg_name (i := 3) scRi.nd rfl (.inl rfl)) (pgs_cons (pg_name (i := 4) scRi.nd rfl (.inl rfl)) pgs_nil)))
        (pss_one (ps_if (pt_cmpR op_gt (pe_call GT hr (by rfl) DT.mg DT.fn.kp DT.bd .nil pass0 (pa_cons (pv 0) (pa_cons pe_int pa_nil))) pe_int (nomark _))
          (pss_one (ps_expr (pe_bm PySem.F.plainAttrs_list PySem.F.slot_list_append PySem.F.type_list_append mt_append (pv 2) (pa_cons (pe_tup (pa_cons (pv 3) (pa_cons (pe_op op_add (pv 4) (pe_call GT hr (by rfl) DT.mg DT.fn.kp DT.bd .nil pass0 (pa_cons (pv 0) (pa_cons (pe_op op_add (pe_op op_sub pe_int (pv 4)) pe_int) pa_nil)))) pa_nil))) pa_nil)))) pss_nil)))
      (pss_one (ps_ret (pe_callTy call_tuple_of (by rfl) B.tuple boot_tuple (pa_cons (pv 2) pa_nil))))), ?_⟩
    obtain ⟨tV, xs, rfl, hT, xl, hx⟩ := id hv
    have l8 := gd.l8
    refine ⟨by show 0 ≤ sizeLine; decide, fun aF nF => ?_⟩
    have nFl : aF ≠ l := fun e => pool.ne nF e.symm
    have s0 : Same H (upd H aF (.lst [])) := same_new nF
    refine ⟨_, rfl, tV, rfl, ⟨_, (tk_same s0).sq hT⟩, for_tup (K := K) (a := tV) (xs := xs) (fun i σ H' => (∃ y3 y4 : Option V, σ = [some (.ref l), some (.ref tV), some (.ref aF), y3, y4]) ∧ (∃ (ys : List V) (rows' : List (Str × Int)), H' aF = some (.lst ys) ∧ ys.length = rows'.length ∧ (rows'.map Prod.fst).Sublist ((rows.take i).map Prod.fst) ∧ (∀ (j : Nat) (x : V), ys[j]? = some x → ∃ (a : Addr) (r : Str × Int), x = .ref a ∧ rows'[j]? = some r ∧ SqT K H' a (rowD r)) ∧ (∀ r ∈ rows', -9999 ≤ r.2 ∧ r.2 ≤ 9999) ∧ ∀ r' ∈ rows', ∃ r ∈ rows, r.1 = r'.1 ∧ r.2 ≤ r'.2) ∧ Bt [l] H H' ∧ PoolAt H' l)
      ⟨⟨none, none, rfl⟩, ⟨[], [], upd_same, rfl, List.Sublist.refl _, (fun j x hx => nomatch hx), (fun r hr => nomatch hr), (fun r hr => nomatch hr)⟩, Bt.of_same s0, pool.same s0⟩ (fun i σ H' _ h => (h.2.2.1.tk pool.lst).sq hT) ?_ ?_⟩
    · rintro i x σ H1 hx1 ⟨⟨y3, y4, rfl⟩, ⟨ys, rows', hF, yl, sub, hy, dy, al⟩, b1, pool1⟩
      obtain ⟨ra, r, rfl, hri, hra⟩ := hx i x hx1
      have il := lt_get hri
      have rl' : rows'.length ≤ i := by
        have := sub.length_le
        rw [List.length_map, List.length_map, List.length_take] at this
        omega
      obtain ⟨d0, d1⟩ := gd.dy r (List.mem_of_getElem? hri)
      have more : ((rows.take i).map Prod.fst).Sublist ((rows.take (i + 1)).map Prod.fst) := by
        rw [take_more hri, List.map_append]
        exact List.sublist_append_left _ _
      refine ⟨ra, _, rfl, (b1.tk pool.lst).sq hra, rfl, _, _, rfl, _, _, rfl, rfl, ?_⟩
      refine ⟨_, rfl, l, 3, rfl, pool1, by decide, fun H2 c b2 pool2 c0 c1 => ⟨c, 0, rfl, rfl, _, rfl, ?_⟩⟩
      have b12 := b1.trans b2
      have hF2 := kept b2 hF (by simp [nFl])
      have tk2 : Tk H1 H2 := b2.tk pool1.lst
      by_cases cp : (0 : Int) < c
      rotate_left
      · rw [decide_eq_false cp]
        exact iteF ⟨⟨_, _, rfl⟩, ⟨ys, rows', hF2, yl, sub.trans more, rows_tk tk2 hy, dy, al⟩, b12, pool2⟩
      rw [decide_eq_true cp]
      refine iteT ⟨_, rfl, .inl ⟨rfl, _, sqL hF2⟩, _, rfl, _, rfl, _, rfl, _, rfl, 9999, r.2, rfl, rfl, _, 1, rfl, rfl, l, _, rfl, pool2, by show 0 < 9999 - r.2 + 1; omega, fun H3 e b3 pool3 e0 e1 => ⟨r.2, e, rfl, rfl, by show 2 ≤ sizeLine; decide, fun tp ntp => ?_⟩⟩
      have e1 : e < 9999 - r.2 + 1 := e1
      have hF3 := kept b3 hF2 (by simp [nFl])
      have hF4 : (upd H3 tp (.tup [.str r.1, .int (r.2 + e)])) aF = some (.lst ys) := same_new ntp _ _ hF3
      have tk4 : Tk H1 (upd H3 tp (.tup [.str r.1, .int (r.2 + e)])) := (tk2.trans (b3.tk pool2.lst)).trans (tk_new ntp)
      have sN : SqT K (upd H3 tp (.tup [.str r.1, .int (r.2 + e)])) tp (rowD (r.1, r.2 + e)) := sqT upd_same
      have b4 : Bt [l] H (upd H3 tp (.tup [.str r.1, .int (r.2 + e)])) := (b12.trans b3).new ntp
      have pool4 : PoolAt (upd H3 tp (.tup [.str r.1, .int (r.2 + e)])) l := pool3.same (same_new ntp)
      revert hF4 tk4 sN b4 pool4
      generalize upd H3 tp (.tup [.str r.1, .int (r.2 + e)]) = H4
      intro hF4 tk4 sN b4 pool4
      refine ⟨aF, ys, .ref tp, rfl, rfl, hF4, by rw [yl]; exact Nat.lt_of_lt_of_le (show rows'.length < 9 by omega) (by decide), ⟨_, _, rfl⟩, ⟨ys ++ [.ref tp], rows' ++ [(r.1, r.2 + e)], upd_same, ?_, ?_, rows_tk (tk_lst hF4) (rows_snoc (f := rowD) yl (rows_tk tk4 hy) sN), ?_, ?_⟩, b4.upd0 nF, pool4.upd nFl.symm⟩
      · rw [List.length_append, List.length_append, yl]
        rfl
      · rw [List.map_append, take_more hri, List.map_append]
        exact List.Sublist.append sub (List.Sublist.refl _)
      · intro r2 hr2
        rcases List.mem_append.mp hr2 with h | h
        · exact dy r2 h
        · rw [List.mem_singleton.mp h]
          show -9999 ≤ r.2 + e ∧ r.2 + e ≤ 9999
          omega
      · intro r2 hr2
        rcases List.mem_append.mp hr2 with h | h
        · exact al r2 h
        · rw [List.mem_singleton.mp h]
          exact ⟨r, List.mem_of_getElem? hri, rfl, show r.2 ≤ r.2 + e by omega⟩
    · rintro σ H1 ⟨⟨y3, y4, rfl⟩, ⟨ys, rows', hF, yl, sub, hy, dy, al⟩, b1, pool1⟩
      rw [xl, List.take_length] at sub
      have gd' : GoodD rows' := by
        have l := sub.length_le
        rw [List.length_map, List.length_map] at l
        refine ⟨by omega, fun r hr => ?_, dy, up_of_pw ((pw_good gd).sublist sub)⟩
        obtain ⟨q, hq, e, _⟩ := al r hr
        rw [← e]
        exact gd.nm q hq
      exact ⟨_, rfl, aF, ys, rfl, .inl ⟨sqL hF, fun tp ntp => q _ tp rows' (b1.new ntp) (pool1.same (same_new ntp)) ⟨tp, ys, rfl, sqT upd_same, yl, rows_tk (tk_new ntp) hy⟩ gd' (longer_of gd al)⟩⟩
end
end WdQ

set_option Elab.async false
set_option linter.all false
set_option maxRecDepth 100000
set_option maxHeartbeats 4000000
set_option exponentiation.threshold 5000
namespace WdQ
open PySem PySem.Spec PyProof.Rows L2 WdM Wd
abbrev sPl : Stmt := topS 68
def pPl : List Str := ["_law_pool_here", "_law_folk", "_law_days"]
def nPl : List Str := ["_law_pool_here", "_law_folk", "_law_days", "_law_some", "_law_turn", "_law_one", "_law_inner"]
theorem scPl : FnScope nPl pPl (defScope sPl) := ⟨rfl, rfl, rfl, by decide +kernel, rfl, by decide +kernel, by decide +kernel⟩
/-- comes still where more live longer -/
def MonoN (n : Nat) (d : PyData) : Prop := ∀ (F : List (Str × Option Str)) (D D' : List (Str × Int)) (m : Int), Longer D D' → comeN F D m n d = true → comeN F D' m n d = true
theorem mono_liv {n : Nat} {z : Str} : MonoN (n + 1) (.tuple [.str "lives", .str z]) := fun F D D' m l h => by
  rw [come_liv] at h ⊢
  exact l z m h
theorem mono_livAt {n : Nat} {z : Str} {i : Int} : MonoN (n + 1) (.tuple [.str "lives", .str z, .int i]) := fun F D D' m l h => by
  rw [come_livAt] at h ⊢
  exact l z i h
theorem mono_row {n : Nat} {b : Bool} {ds : List PyData} (a : ∀ d ∈ ds, MonoN n d) : MonoN (n + 1) (.tuple (.str (rowS b) :: ds)) := fun F D D' m l h => by
  cases b
  · rw [show rowS false = "or" from rfl, come_or] at h ⊢
    obtain ⟨d, hd, e⟩ := List.any_eq_true.mp h
    exact List.any_eq_true.mpr ⟨d, hd, a d hd F D D' m l e⟩
  · rw [show rowS true = "and" from rfl, come_and] at h ⊢
    exact List.all_eq_true.mpr fun d hd => a d hd F D D' m l (List.all_eq_true.mp h d hd)
theorem mono_more {n n' : Nat} {d : PyData} (f : formB n d = true) (l : n ≤ n') (h : MonoN n d) : MonoN n' d := fun F D D' m lo e => by
  rw [(form_more (F := F) (D := D) (m := m) f l).2.2] at e
  rw [(form_more (F := F) (D := D') (m := m) f l).2.2]
  exact h F D D' m lo e
/-- a condition of lives with and, or alone -/
def Cp (K : PySem.W.Frag) (zs : List Str) (n c : Nat) (H : Hp) (v : V) : Prop := ∃ d, Dz [] K H v d ∧ formB n d = true ∧ (namesN n d).length ≤ c ∧ (∀ z ∈ namesN n d, z ∈ zs) ∧ MonoN n d
section
variable {K : PySem.W.Frag} {zs : List Str} {H H' : Hp} {n m c c' : Nat} {v x y : V} {a : Addr} {z : Str}
theorem Cp.tk (h : Cp K zs n c H v) (e : Tk H H') : Cp K zs n c H' v := by
  obtain ⟨d, h, f, l, nm⟩ := h
  exact ⟨d, cd_tk e (form_cd f) h, f, l, nm⟩
theorem Cp.mono (h : Cp K zs n c H v) (l : n ≤ m) (lc : c ≤ c') : Cp K zs m c' H v := by
  obtain ⟨d, h, f, k, nm, mo⟩ := h
  obtain ⟨h2, e, _⟩ := form_more (F := []) (D := []) (m := 0) f l
  exact ⟨d, h, h2, by rw [e]; omega, by rw [e]; exact nm, mono_more f l mo⟩
theorem cp_liv (h : SqT K H a [.str "lives", .str z]) (o : nmB z = true) (i : z ∈ zs) : Cp K zs 1 1 H (.ref a) := ⟨_, .tup h (.cons (.str _) (.cons (.str _) .nil)), form_liv o, Nat.le_refl _, (fun y hy => by rw [List.mem_singleton.mp (show y ∈ [z] from hy)]; exact i), mono_liv⟩
theorem cp_livAt {j : Int} (h : SqT K H a [.str "lives", .str z, .int j]) (o : nmB z = true) (j0 : -9999 ≤ j) (j1 : j ≤ 9999) (i : z ∈ zs) : Cp K zs 1 1 H (.ref a) := ⟨_, .tup h (.cons (.str _) (.cons (.str _) (.cons (.int _) .nil))), form_livAt o j0 j1, Nat.le_refl _, (fun y hy => by rw [List.mem_singleton.mp (show y ∈ [z] from hy)]; exact i), mono_livAt⟩
theorem cp_all : ∀ {xs : List V}, (∀ x ∈ xs, Cp K zs n c H x) → ∃ ds, DzAll [] K H xs ds ∧ (∀ d ∈ ds, formB n d = true) ∧ ((ds.map (namesN n)).flatten).length ≤ xs.length * c ∧ (∀ y ∈ (ds.map (namesN n)).flatten, y ∈ zs) ∧ ∀ d ∈ ds, MonoN n d
  | [], _ => ⟨[], .nil, fun _ h => (List.not_mem_nil h).elim, Nat.zero_le _, fun _ h => (List.not_mem_nil h).elim, fun _ h => (List.not_mem_nil h).elim⟩
  | x :: xs, h => by
    obtain ⟨d, h1, f1, l1, n1, m1⟩ := h x List.mem_cons_self
    obtain ⟨ds, h2, f2, l2, n2, m2⟩ := cp_all (xs := xs) fun y hy => h y (List.mem_cons_of_mem _ hy)
    refine ⟨d :: ds, .cons h1 h2, fun e he => (List.mem_cons.mp he).elim (fun z => z ▸ f1) (f2 e), ?_, fun y hy => ?_, fun e he => (List.mem_cons.mp he).elim (fun z => z ▸ m1) (m2 e)⟩
    · rw [List.map_cons, List.flatten_cons, List.length_append, List.length_cons, Nat.add_mul]
      omega
    · rw [List.map_cons, List.flatten_cons] at hy
      exact (List.mem_append.mp hy).elim (n1 y) (n2 y)
theorem cp_row {b : Bool} {xs : List V} (h : SqT K H a (.str (rowS b) :: xs)) (l2 : 2 ≤ xs.length) (l6 : xs.length ≤ 6) (k : ∀ x ∈ xs, Cp K zs n c H x) : Cp K zs (n + 1) (xs.length * c) H (.ref a) := by
  obtain ⟨ds, hd, f, l, nm, mo⟩ := cp_all k
  have e := hd.len
  exact ⟨_, .tup h (.cons (.str _) hd), form_row (by omega) (by omega) f, by rw [names_row]; exact l, by rw [names_row]; exact nm, mono_row mo⟩
end
section
variable {P : Program} {w : World} {K : PySem.W.Frag} {mg : Str → Option Value} {base : Heap}
def spPl (K : PySem.W.Frag) : Sp := fun vs H Q _ => ∃ (l aN aD : Addr) (zs : List Str) (ds : List Int), vs = [.ref l, .ref aN, .ref aD] ∧ PoolAt H l ∧ Drw H l aN aD zs ds ∧ ∀ (H' : Hp) (p : Addr) (xs : List V), Bt [l] H H' → PoolAt H' l → H p = none → H' p = some (.lst xs) → xs.length ≤ 4 → (∀ x ∈ xs, Cp K zs 3 4 H' x) → Q (.ref p) H'
theorem ok_pl {f fT : Addr} {fd fdT : FuncData} {k : Nat} (B : Bi mg) (D : Df K mg "_law_plain" sPl f fd pPl) (DT : Df K mg "_law_take" sTake fT fdT ["_law_pool_here", "_law_many"]) (GT : FnOk P w K mg base CX0 (k + 1) fT fdT ["_law_pool_here", "_law_many"] spTake) : FnOk P w K mg base CX0 (k + 2) f fd pPl (spPl K) := by
  refine D.fn.ok scPl (fun vs H Q E h => ?_) (fun cdv A outer s H vs Q E hr h => ?_)
  · obtain ⟨l, aN, aD, zs, ds, rfl, _⟩ := h
    rfl
  · obtain ⟨l, aN, aD, zs, ds, rfl, pool, dr, q⟩ := h
    refine ⟨_, pss_cons (ps_set (i := 3) scPl.nd rfl (.inl rfl) (pe_lst pa_nil))
      (pss_cons (ps_for PassesOwn.never rfl (pi_range1 (by rfl) B.range (pa_cons pe_int pa_nil)) (pg_name (i := 4) scPl.nd rfl (.inl rfl))
        (pss_cons (ps_set (i := 5) scPl.nd rfl (.inl rfl) (pe_ix (r := rIxL K) ix_list (pv 1) (pe_call GT hr (by rfl) DT.mg DT.fn.kp DT.bd .nil pass0 (pa_cons (pv 0) (pa_cons (pe_callB call_len_seq (by rfl) B.len PySem.boot_len (pa_cons (pv 1) pa_nil)) pa_nil))) (fun _ _ => rfl)))
        (pss_one (ps_expr (pe_bm PySem.F.plainAttrs_list PySem.F.slot_list_append PySem.F.type_list_append mt_append (pv 3) (pa_cons (pe_ix (r := rIxL K) ix_list (pe_lst (pa_cons (pe_tup (pa_cons pe_str (pa_cons (pv 5) pa_nil))) (pa_cons (pe_tup (pa_cons pe_str (pa_cons (pv 5) (pa_cons (pe_ix (r := rIxL K) ix_list (pv 2) (pe_call GT hr (by rfl) DT.mg DT.fn.kp DT.bd .nil pass0 (pa_cons (pv 0) (pa_cons (pe_callB call_len_seq (by rfl) B.len PySem.boot_len (pa_cons (pv 2) pa_nil)) pa_nil))) (fun _ _ => rfl)) pa_nil)))) pa_nil))) (pe_call GT hr (by rfl) DT.mg DT.fn.kp DT.bd .nil pass0 (pa_cons (pv 0) (pa_cons pe_int pa_nil))) (fun _ _ => rfl)) pa_nil))))))
      (pss_cons (ps_set (i := 6) scPl.nd rfl (.inl rfl) (pe_lst (pa_cons (pe_tup (pa_cons pe_str (pa_cons (pe_ix (r := rIxL K) ix_list (pv 3) pe_int (fun _ _ => rfl)) (pa_cons (pe_ix (r := rIxL K) ix_list (pv 3) pe_int (fun _ _ => rfl)) pa_nil)))) (pa_cons (pe_tup (pa_cons pe_str (pa_cons (pe_ix (r := rIxL K) ix_list (pv 3) pe_int (fun _ _ => rfl)) (pa_cons (pe_ix (r := rIxL K) ix_list (pv 3) pe_int (fun _ _ => rfl)) pa_nil)))) pa_nil))))
      (pss_one (ps_ret (pe_lst (pa_cons (pe_ix (r := rIxL K) ix_list (pv 3) pe_int (fun _ _ => rfl)) (pa_cons (pe_op op_catA (pe_tup (pa_cons pe_str pa_nil)) (pe_callTy call_tuple_of (by rfl) B.tuple boot_tuple (pa_cons (pv 3) pa_nil))) (pa_cons (pe_tup (pa_cons pe_str (pa_cons (pe_ix (r := rIxL K) ix_list (pv 3) pe_int (fun _ _ => rfl)) (pa_cons (pe_ix (r := rIxL K) ix_list (pv 6) pe_int (fun _ _ => rfl)) pa_nil)))) (pa_cons (pe_tup (pa_cons pe_str (pa_cons (pe_ix (r := rIxL K) ix_list (pv 3) pe_int (fun _ _ => rfl)) (pa_cons (pe_ix (r := rIxL K) ix_list (pv 6) pe_int (fun _ _ => rfl)) pa_nil)))) pa_nil))))))))), ?_⟩
    obtain ⟨_, _, nNl, nDl, zn, dn, z1, d1⟩ := id dr
    refine ⟨by show 0 ≤ sizeLine; decide, fun aF nF => ?_⟩
    have nFl : aF ≠ l := fun e => pool.ne nF e.symm
    have s0 : Same H (upd H aF (.lst [])) := same_new nF
    refine ⟨4, rfl, by decide, by decide, for_range (lo := 0) (n := 4) (fun i σ H' => (∃ y4 y5 : Option V, σ = [some (.ref l), some (.ref aN), some (.ref aD), some (.ref aF), y4, y5, none]) ∧ (∃ ys : List V, H' aF = some (.lst ys) ∧ ys.length = i ∧ ∀ x ∈ ys, Cp K zs 1 1 H' x) ∧ Bt [l] H H' ∧ PoolAt H' l) ⟨⟨none, none, rfl⟩, ⟨[], upd_same, rfl, fun x hx => nomatch hx⟩, Bt.of_same s0, pool.same s0⟩ ?_ ?_⟩
    · rintro i σ H1 hi ⟨⟨y4, y5, rfl⟩, ⟨ys, hF, yl, cy⟩, b1, pool1⟩
      have dr1 := dr.bt b1
      refine ⟨_, rfl, _, rfl, _, rfl, aN, _, rfl, .inl (sqL dr1.1), l, _, rfl, pool1, by rw [List.length_map]; omega, fun H2 i2 b2 pool2 i20 i21 => ?_⟩
      obtain ⟨_, ex, z, rfl, zin⟩ := at_of (P := fun v => ∃ z : Str, v = .str z ∧ z ∈ zs) (xs := zs.map V.str) (d := i2) (fun x hx => by
        obtain ⟨z, hz, rfl⟩ := List.mem_map.mp hx
        exact ⟨z, rfl, hz⟩) i20 i21
      have dr2 := dr1.bt b2
      have hF2 := kept b2 hF (by simp [nFl])
      refine ⟨aN, _, i2, _, rfl, rfl, sqL dr2.1, ex, ?_⟩
      refine ⟨_, rfl, .inl ⟨rfl, _, sqL hF2⟩, _, rfl, by show 2 ≤ sizeLine; decide, fun t1 n1 => ?_⟩
      have h3 : SqT K (upd H2 t1 (.tup [.str "lives", .str z])) t1 [.str "lives", .str z] := sqT upd_same
      have s3 : Same H2 (upd H2 t1 (.tup [.str "lives", .str z])) := same_new n1
      revert h3 s3
      generalize upd H2 t1 (.tup [.str "lives", .str z]) = H3
      intro h3 s3
      have dr3 := dr2.same s3
      have pool3 := pool2.same s3
      refine ⟨_, rfl, _, rfl, _, rfl, _, rfl, aD, _, rfl, .inl (sqL dr3.2.1), l, _, rfl, pool3, by rw [List.length_map]; omega, fun H4 i4 b4 pool4 i40 i41 => ?_⟩
      obtain ⟨_, ex4, j, rfl, j0, j1⟩ := at_of (P := fun v => ∃ i : Int, v = .int i ∧ -9999 ≤ i ∧ i ≤ 9999) (xs := ds.map V.int) (d := i4) (fun x hx => by
        obtain ⟨z, hz, rfl⟩ := List.mem_map.mp hx
        exact ⟨z, rfl, dn z hz⟩) i40 i41
      have dr4 := dr3.bt b4
      refine ⟨aD, _, i4, _, rfl, rfl, sqL dr4.2.1, ex4, by show 3 ≤ sizeLine; decide, fun t2 n2 => ⟨by show 2 ≤ sizeLine; decide, fun p5 n5 => ?_⟩⟩
      have tk4 := b4.tk pool3.lst
      have c1 : Cp K zs 1 1 (upd (upd H4 t2 (.tup [.str "lives", .str z, .int j])) p5 (.lst [.ref t1, .ref t2])) (.ref t1) := cp_liv ((tk_new n5).sq ((tk_new n2).sq (tk4.sq h3))) (zn z zin) zin
      have c2 : Cp K zs 1 1 (upd (upd H4 t2 (.tup [.str "lives", .str z, .int j])) p5 (.lst [.ref t1, .ref t2])) (.ref t2) := cp_livAt ((tk_new n5).sq (sqT upd_same)) (zn z zin) j0 j1 zin
      have h5 : (upd (upd H4 t2 (.tup [.str "lives", .str z, .int j])) p5 (.lst [.ref t1, .ref t2])) p5 = some (.lst [.ref t1, .ref t2]) := upd_same
      have s5 : Same H4 (upd (upd H4 t2 (.tup [.str "lives", .str z, .int j])) p5 (.lst [.ref t1, .ref t2])) := (same_new n2).trans (same_new n5)
      have np5 : p5 ≠ l := fun e => (pool4.same (same_new n2)).ne n5 e.symm
      revert c1 c2 h5 s5
      generalize upd (upd H4 t2 (.tup [.str "lives", .str z, .int j])) p5 (.lst [.ref t1, .ref t2]) = H5
      intro c1 c2 h5 s5
      have pool5 := pool4.same s5
      refine ⟨_, rfl, l, 2, rfl, pool5, by decide, fun H6 i6 b6 pool6 i60 i61 => ?_⟩
      have tk6 := b6.tk pool5.lst
      obtain ⟨v, ex6, cv⟩ := at_of (P := fun v => Cp K zs 1 1 H6 v) (xs := [.ref t1, .ref t2]) (d := i6) (fun x hx => by
        simp only [List.mem_cons, List.not_mem_nil, or_false] at hx
        rcases hx with rfl | rfl
        · exact c1.tk tk6
        · exact c2.tk tk6) i60 i61
      have b16 : Bt [l] H1 H6 := ((((b2.trans (.of_same s3)).trans b4).trans (.of_same s5)).trans b6)
      have hF6 := kept b16 hF (by simp [nFl])
      refine ⟨p5, _, i6, v, rfl, rfl, sqL (kept b6 h5 (by simp [np5])), ex6, aF, ys, v, rfl, rfl, hF6, by rw [yl]; exact Nat.lt_of_lt_of_le (show i < 4 by omega) (by decide), ⟨_, _, rfl⟩, ⟨ys ++ [v], upd_same, ?_, fun x hx => ?_⟩, (b1.trans b16).upd0 nF, pool6.upd nFl.symm⟩
      · rw [List.length_append, yl]
        rfl
      · rcases List.mem_append.mp hx with h | h
        · exact ((cy x h).tk (b16.tk pool1.lst)).tk (tk_lst hF6)
        · rw [List.mem_singleton.mp h]
          exact cv.tk (tk_lst hF6)
    rintro σ H1 ⟨⟨y4, y5, rfl⟩, ⟨ys, hF, yl, cy⟩, b1, pool1⟩
    obtain ⟨x0, x1, x2, x3, rfl⟩ : ∃ x0 x1 x2 x3, ys = [x0, x1, x2, x3] := by
      match ys, yl with
      | [a, b, c, d], _ => exact ⟨a, b, c, d, rfl⟩
    have k0 := cy x0 (by simp)
    have k1 := cy x1 (by simp)
    have k2 := cy x2 (by simp)
    have k3 := cy x3 (by simp)
    refine ⟨_, rfl, aF, _, 1, _, rfl, rfl, sqL hF, rfl, _, rfl, aF, _, 2, _, rfl, rfl, sqL hF, rfl, by show 3 ≤ sizeLine; decide, fun t1 n1 => ?_⟩
    have c1 : Cp K zs 2 2 (upd H1 t1 (.tup [.str "and", x1, x2])) (.ref t1) := cp_row (b := true) (xs := [x1, x2]) (c := 1) (n := 1) (sqT upd_same) (by show 2 ≤ 2; decide) (by show 2 ≤ 6; decide) (fun x hx => by
      simp only [List.mem_cons, List.not_mem_nil, or_false] at hx
      rcases hx with rfl | rfl
      · exact k1.tk (tk_new n1)
      · exact k2.tk (tk_new n1))
    have s1 : Same H1 (upd H1 t1 (.tup [.str "and", x1, x2])) := same_new n1
    revert c1 s1
    generalize upd H1 t1 (.tup [.str "and", x1, x2]) = G1
    intro c1 s1
    have hF1 := s1 _ _ hF
    refine ⟨_, rfl, aF, _, 1, _, rfl, rfl, sqL hF1, rfl, _, rfl, aF, _, 2, _, rfl, rfl, sqL hF1, rfl, by show 3 ≤ sizeLine; decide, fun t2 n2 => ?_⟩
    have s2 : Same H1 (upd G1 t2 (.tup [.str "or", x1, x2])) := s1.trans (same_new n2)
    have c2 : Cp K zs 2 2 (upd G1 t2 (.tup [.str "or", x1, x2])) (.ref t2) := cp_row (b := false) (xs := [x1, x2]) (c := 1) (n := 1) (sqT upd_same) (by show 2 ≤ 2; decide) (by show 2 ≤ 6; decide) (fun x hx => by
      simp only [List.mem_cons, List.not_mem_nil, or_false] at hx
      rcases hx with rfl | rfl
      · exact k1.tk (tk_same s2)
      · exact k2.tk (tk_same s2))
    have c12 := c1.tk (tk_new (o := .tup [.str "or", x1, x2]) n2)
    revert c2 c12 s2
    generalize upd G1 t2 (.tup [.str "or", x1, x2]) = G2
    intro s2 c2 c12
    refine ⟨by show 2 ≤ sizeLine; decide, fun pI nI => ?_⟩
    have hI : (upd G2 pI (.lst [.ref t1, .ref t2])) pI = some (.lst [.ref t1, .ref t2]) := upd_same
    have s3 : Same H1 (upd G2 pI (.lst [.ref t1, .ref t2])) := s2.trans (same_new nI)
    have c13 := c12.tk (tk_new (o := .lst [.ref t1, .ref t2]) nI)
    have c23 := c2.tk (tk_new (o := .lst [.ref t1, .ref t2]) nI)
    revert hI s3 c13 c23
    generalize upd G2 pI (.lst [.ref t1, .ref t2]) = G3
    intro hI s3 c13 c23
    clear c1 c2 c12 s1 s2 n1 n2 nI hF1
    have hF3 := s3 _ _ hF
    refine ⟨_, rfl, aF, _, 0, _, rfl, rfl, sqL hF3, rfl, by show 1 ≤ sizeLine; decide, fun a4 n4 => ?_⟩
    have g4 : SqT K (upd G3 a4 (.tup [.str "and"])) a4 [.str "and"] := sqT upd_same
    have s4 : Same G3 (upd G3 a4 (.tup [.str "and"])) := same_new n4
    revert g4 s4
    generalize upd G3 a4 (.tup [.str "and"]) = G4
    intro g4 s4
    refine ⟨_, rfl, aF, _, rfl, .inl ⟨sqL (s4 _ _ hF3), fun t5 n5 => ?_⟩⟩
    refine cat_tup ((tk_new n5).sq g4) (sqT upd_same) (by show 1 + 4 ≤ 100; decide) fun r6 G6 s6 q6 => ?_
    have s36 : Same G3 G6 := (s4.trans (same_new n5)).trans s6
    have s16 := s3.trans s36
    have c6 : Cp K zs 2 4 G6 (.ref r6) := cp_row (b := true) (xs := [x0, x1, x2, x3]) (c := 1) (n := 1) q6 (by show 2 ≤ 4; decide) (by show 4 ≤ 6; decide) (fun x hx => (cy x hx).tk (tk_same s16))
    have hF6 := s36 _ _ hF3
    have hI6 := s36 _ _ hI
    refine ⟨_, rfl, aF, _, 0, _, rfl, rfl, sqL hF6, rfl, _, rfl, pI, _, 0, _, rfl, rfl, sqL hI6, rfl, by show 3 ≤ sizeLine; decide, fun t7 n7 => ?_⟩
    have s7 : Same G6 (upd G6 t7 (.tup [.str "or", x0, .ref t1])) := same_new n7
    have c7 : Cp K zs 3 4 (upd G6 t7 (.tup [.str "or", x0, .ref t1])) (.ref t7) := cp_row (b := false) (xs := [x0, .ref t1]) (c := 2) (n := 2) (sqT upd_same) (by show 2 ≤ 2; decide) (by show 2 ≤ 6; decide) (fun x hx => by
      simp only [List.mem_cons, List.not_mem_nil, or_false] at hx
      rcases hx with rfl | rfl
      · exact (k0.tk (tk_same (s16.trans s7))).mono (by decide) (by decide)
      · exact c13.tk (tk_same (s36.trans s7)))
    revert s7 c7
    generalize upd G6 t7 (.tup [.str "or", x0, .ref t1]) = G7
    intro s7 c7
    refine ⟨_, rfl, aF, _, 3, _, rfl, rfl, sqL (s7 _ _ hF6), rfl, _, rfl, pI, _, 1, _, rfl, rfl, sqL (s7 _ _ hI6), rfl, by show 3 ≤ sizeLine; decide, fun t8 n8 => ?_⟩
    have s8 : Same G7 (upd G7 t8 (.tup [.str "and", x3, .ref t2])) := same_new n8
    have s18 := (s16.trans s7).trans s8
    have c8 : Cp K zs 3 4 (upd G7 t8 (.tup [.str "and", x3, .ref t2])) (.ref t8) := cp_row (b := true) (xs := [x3, .ref t2]) (c := 2) (n := 2) (sqT upd_same) (by show 2 ≤ 2; decide) (by show 2 ≤ 6; decide) (fun x hx => by
      simp only [List.mem_cons, List.not_mem_nil, or_false] at hx
      rcases hx with rfl | rfl
      · exact (k3.tk (tk_same s18)).mono (by decide) (by decide)
      · exact c23.tk (tk_same ((s36.trans s7).trans s8)))
    revert s18 c8 s8
    generalize upd G7 t8 (.tup [.str "and", x3, .ref t2]) = G8
    intro s8 s18 c8
    refine ⟨by show 4 ≤ sizeLine; decide, fun p9 n9 => ?_⟩
    have tk9 : Tk G8 (upd G8 p9 (.lst [x0, .ref r6, .ref t7, .ref t8])) := tk_new n9
    have np : H p9 = none := by
      cases e : H p9 with
      | none => rfl
      | some o =>
        have nl : p9 ≠ l := fun e2 => (pool1.same s18).ne n9 e2.symm
        have := s18 _ _ (b1 p9 o (by simp [nl]) e)
        rw [n9] at this
        cases this
    refine q _ p9 _ ((b1.trans (.of_same s18)).new n9) ((pool1.same s18).same (same_new n9)) np upd_same (by show 4 ≤ 4; decide) (fun x hx => ?_)
    simp only [List.mem_cons, List.not_mem_nil, or_false] at hx
    rcases hx with rfl | rfl | rfl | rfl
    · exact ((k0.tk (tk_same s18)).tk tk9).mono (by decide) (by decide)
    · exact ((c6.tk (tk_same (s7.trans s8))).tk tk9).mono (by decide) (by decide)
    · exact (c7.tk (tk_same s8)).tk tk9
    · exact c8.tk tk9
end
end WdQ

set_option Elab.async false
set_option linter.all false
set_option maxRecDepth 100000
set_option maxHeartbeats 4000000
set_option exponentiation.threshold 5000
namespace WdQ
open PySem PySem.Spec PyProof.Rows L2 WdM Wd
abbrev sNd : Stmt := topS 70
def pNd : List Str := ["_law_term", "_law_names"]
def nNd : List Str := ["_law_term", "_law_names", "_law_part"]
theorem scNd : FnScope nNd pNd (defScope sNd) := ⟨rfl, rfl, rfl, by decide +kernel, rfl, by decide +kernel, by decide +kernel⟩
def leafV : List V := [.str "lives", .str "childless"]
theorem in_leafV (w : Str) : inV (.str w) leafV = (eqW w "lives" || eqW w "childless") := by
  show (("lives" : Str) == w || (("childless" : Str) == w || false)) = _
  rw [eqV, eqV, Bool.or_false]
/-! ### a condition with other names -/
def renT (ρ : Str → Str) : List PyData → List PyData
  | .str z :: ts => .str (ρ z) :: ts
  | ts => ts
def renN (ρ : Str → Str) : Nat → PyData → PyData
  | 0, d => d
  | r + 1, .tuple (.str w :: ts) => .tuple (.str w :: if (eqW w "lives" || eqW w "childless") = true then renT ρ ts else ts.map (renN ρ r))
  | _ + 1, d => d
section
variable {ρ : Str → Str} {q : Nat} {z : Str}
theorem ren_liv : renN ρ (q + 1) (.tuple [.str "lives", .str z]) = .tuple [.str "lives", .str (ρ z)] := by
  show PyData.tuple (.str "lives" :: if (eqW "lives" "lives" || eqW "lives" "childless") = true then renT ρ [.str z] else _) = _
  rw [if_pos (by decide)]
  rfl
theorem ren_livAt {i : Int} : renN ρ (q + 1) (.tuple [.str "lives", .str z, .int i]) = .tuple [.str "lives", .str (ρ z), .int i] := by
  show PyData.tuple (.str "lives" :: if (eqW "lives" "lives" || eqW "lives" "childless") = true then renT ρ [.str z, .int i] else _) = _
  rw [if_pos (by decide)]
  rfl
theorem ren_chl : renN ρ (q + 1) (.tuple [.str "childless", .str z]) = .tuple [.str "childless", .str (ρ z)] := by
  show PyData.tuple (.str "childless" :: if (eqW "childless" "lives" || eqW "childless" "childless") = true then renT ρ [.str z] else _) = _
  rw [if_pos (by decide)]
  rfl
theorem ren_neg {c : PyData} : renN ρ (q + 1) (.tuple [.str "not", c]) = .tuple [.str "not", renN ρ q c] := by
  show PyData.tuple (.str "not" :: if (eqW "not" "lives" || eqW "not" "childless") = true then _ else [c].map (renN ρ q)) = _
  rw [if_neg (by decide)]
  rfl
theorem ren_row {b : Bool} {cs : List PyData} : renN ρ (q + 1) (.tuple (.str (rowS b) :: cs)) = .tuple (.str (rowS b) :: cs.map (renN ρ q)) := by
  show PyData.tuple (.str (rowS b) :: if (eqW (rowS b) "lives" || eqW (rowS b) "childless") = true then _ else cs.map (renN ρ q)) = _
  rw [if_neg (by cases b <;> decide)]
end
/-- the house and the story with other names -/
structure Ren (ρ : Str → Str) (F F' : List (Str × Option Str)) (D D' : List (Str × Int)) : Prop where
  nm : ∀ z ∈ F.map Prod.fst, nmB (ρ z) = true
  inF : ∀ z ∈ F.map Prod.fst, ρ z ∈ F'.map Prod.fst
  kids : ∀ z ∈ F.map Prod.fst, kidsOf F' (ρ z) = (kidsOf F z).map ρ
  al : ∀ z ∈ F.map Prod.fst, ∀ t, aliveB D' (ρ z) t = aliveB D z t
theorem map_flat {α β γ : Type} (g : β → γ) (f : α → List β) (cs : List α) : (cs.map fun c => (f c).map g).flatten = ((cs.map f).flatten).map g := by
  induction cs with
  | nil => rfl
  | cons c cs ih => rw [List.map_cons, List.flatten_cons, ih, List.map_cons, List.flatten_cons, List.map_append]
theorem ren_ok {ρ : Str → Str} {F F' : List (Str × Option Str)} {D D' : List (Str × Int)} {m : Int} (R : Ren ρ F F' D D') : ∀ {r : Nat} {d : PyData}, formB r d = true → (∀ z ∈ namesN r d, z ∈ F.map Prod.fst) → formB r (renN ρ r d) = true ∧ namesN r (renN ρ r d) = (namesN r d).map ρ ∧ comeN F' D' m r (renN ρ r d) = comeN F D m r d := by
  intro r
  induction r with
  | zero => intro d h; cases h
  | succ r ih =>
    intro d h nin
    obtain ⟨q, e, v⟩ := form_view h
    obtain rfl : r = q := by omega
    cases v with
    | liv z hz =>
      have iz := nin z (List.mem_singleton.mpr rfl)
      rw [ren_liv]
      exact ⟨form_liv (R.nm z iz), rfl, by rw [come_liv, come_liv, R.al z iz]⟩
    | livAt z i hz i0 i1 =>
      have iz := nin z (List.mem_singleton.mpr rfl)
      rw [ren_livAt]
      exact ⟨form_livAt (R.nm z iz) i0 i1, rfl, by rw [come_livAt, come_livAt, R.al z iz]⟩
    | chl z hz =>
      have iz := nin z (List.mem_singleton.mpr rfl)
      rw [ren_chl]
      refine ⟨form_chl (R.nm z iz), rfl, ?_⟩
      rw [come_chl, come_chl, R.kids z iz, List.any_map]
      congr 1
      exact any_eqF fun y hy => R.al y (kids_in hy) m
    | neg c hc =>
      rw [names_neg] at nin
      obtain ⟨f, n, k⟩ := ih hc nin
      rw [ren_neg]
      exact ⟨form_neg f, by rw [names_neg, names_neg, n], by rw [come_neg, come_neg, k]⟩
    | row b c1 c2 cs l a =>
      rw [names_row] at nin
      have sub : ∀ c ∈ c1 :: c2 :: cs, _ := fun c hc => ih (a c hc) fun z hz => nin z (List.mem_flatten.mpr ⟨_, List.mem_map.mpr ⟨c, hc, rfl⟩, hz⟩)
      rw [ren_row]
      refine ⟨form_row (by rw [List.length_map]; simp) (by rw [List.length_map]; exact l) (fun c hc => ?_), ?_, ?_⟩
      · obtain ⟨c0, h0, rfl⟩ := List.mem_map.mp hc
        exact (sub c0 h0).1
      · rw [names_row, names_row, List.map_map, ← map_flat]
        congr 1
        exact List.map_congr_left fun c hc => (sub c hc).2.1
      · cases b
        · rw [show rowS false = "or" from rfl, come_or, come_or, List.any_map]
          exact any_eqF fun c hc => (sub c hc).2.2
        · rw [show rowS true = "and" from rfl, come_and, come_and, List.all_map]
          exact all_eqF fun c hc => (sub c hc).2.2
theorem ren_val {ρ : Str → Str} {F F' : List (Str × Option Str)} {D D' : List (Str × Int)} {m : Int} {r c : Nat} {d : PyData} {b : Bool} (R : Ren ρ F F' D D') (v : Val F D m r c d b) : Val F' D' m r c (renN ρ r d) b := by
  obtain ⟨f, n, k⟩ := ren_ok (m := m) R v.f v.i
  refine ⟨f, by rw [n, List.length_map]; exact v.l, ?_, by rw [k]; exact v.v⟩
  rw [n]
  intro z hz
  obtain ⟨y, hy, rfl⟩ := List.mem_map.mp hz
  exact R.inF y (v.i y hy)
theorem ren_form {ρ : Str → Str} : ∀ {r : Nat} {d : PyData}, formB r d = true → (∀ z ∈ namesN r d, nmB (ρ z) = true) → formB r (renN ρ r d) = true := by
  intro r
  induction r with
  | zero => intro d h; cases h
  | succ r ih =>
    intro d h nin
    obtain ⟨q, e, v⟩ := form_view h
    obtain rfl : r = q := by omega
    cases v with
    | liv z hz => rw [ren_liv]; exact form_liv (nin z (List.mem_singleton.mpr rfl))
    | livAt z i hz i0 i1 => rw [ren_livAt]; exact form_livAt (nin z (List.mem_singleton.mpr rfl)) i0 i1
    | chl z hz => rw [ren_chl]; exact form_chl (nin z (List.mem_singleton.mpr rfl))
    | neg c hc =>
      rw [names_neg] at nin
      rw [ren_neg]
      exact form_neg (ih hc nin)
    | row b c1 c2 cs l a =>
      rw [names_row] at nin
      rw [ren_row]
      refine form_row (by rw [List.length_map]; simp) (by rw [List.length_map]; exact l) (fun c hc => ?_)
      obtain ⟨c0, h0, rfl⟩ := List.mem_map.mp hc
      exact ih (a c0 h0) fun z hz => nin z (List.mem_flatten.mpr ⟨_, List.mem_map.mpr ⟨c0, h0, rfl⟩, hz⟩)
/-- the names, in a dict -/
def NmAt (H : Hp) (aM : Addr) (ρ : Str → Str) (zs : List Str) : Prop := ∃ kvs, H aM = some (.dK kvs) ∧ ∀ z ∈ zs, valV kvs (.inr z) = some (.str (ρ z)) ∧ nmB (ρ z) = true
theorem NmAt.same {H H' : Hp} {aM : Addr} {ρ : Str → Str} {zs : List Str} (h : NmAt H aM ρ zs) (e : Same H H') : NmAt H' aM ρ zs := by
  obtain ⟨kvs, h, v⟩ := h
  exact ⟨kvs, e _ _ h, v⟩
section
variable {P : Program} {w : World} {K : PySem.W.Frag} {mg : Str → Option Value} {base : Heap}
theorem cutTN {σ : L2.St} {H : Hp} {a : Addr} {xs : List V} {lo : Option Int} {Q : VK} (ha : SqT K H a xs) (q : ∀ p H', Same H H' → SqT K H' p (cutV xs lo none) → Q (.ref p) H') : tNoPart σ H fun u H3 => rSlA K (.ref a) lo u H3 Q := cut_tup ha q
def spNd (K : PySem.W.Frag) (r : Nat) : Sp := fun vs H Q _ => ∃ (aM : Addr) (v : V) (d : PyData) (ρ : Str → Str) (zs : List Str), vs = [v, .ref aM] ∧ Dz [] K H v d ∧ formB r d = true ∧ (∀ z ∈ namesN r d, z ∈ zs) ∧ NmAt H aM ρ zs ∧ ∀ H' v', Same H H' → Dz [] K H' v' (renN ρ r d) → Q v' H'
def spNdR (K : PySem.W.Frag) : Nat → Sp
  | 0 => fun _ _ _ _ => False
  | r + 1 => spNd K r
theorem ways_nd {n : Nat} {d : PyData} (fv : Fv n d) : (∃ wd z ts, d = .tuple (.str wd :: .str z :: ts) ∧ (eqW wd "lives" || eqW wd "childless") = true ∧ ts.length ≤ 1 ∧ z ∈ namesN (n + 1) d ∧ ∀ ρ, renN ρ (n + 1) d = .tuple (.str wd :: .str (ρ z) :: ts)) ∨
    ∃ wd t ts, d = .tuple (.str wd :: t :: ts) ∧ (eqW wd "lives" || eqW wd "childless") = false ∧ (t :: ts).length ≤ 6 ∧ (∀ c ∈ t :: ts, formB n c = true) ∧ namesN (n + 1) d = ((t :: ts).map (namesN n)).flatten ∧ ∀ ρ, renN ρ (n + 1) d = .tuple (.str wd :: (t :: ts).map (renN ρ n)) := by
  cases fv with
  | liv z hz => exact .inl ⟨_, _, _, rfl, by decide, by simp, List.mem_singleton.mpr rfl, fun _ => ren_liv⟩
  | livAt z i hz i0 i1 => exact .inl ⟨_, _, _, rfl, by decide, by simp, List.mem_singleton.mpr rfl, fun _ => ren_livAt⟩
  | chl z hz => exact .inl ⟨_, _, _, rfl, by decide, by simp, List.mem_singleton.mpr rfl, fun _ => ren_chl⟩
  | neg c hc => exact .inr ⟨_, _, _, rfl, by decide, by simp, fun e he => by rw [List.mem_singleton.mp he]; exact hc, by rw [names_neg]; simp, fun _ => ren_neg⟩
  | row b c1 c2 cs l a => exact .inr ⟨_, _, _, rfl, by cases b <;> decide, l, a, names_row, fun _ => ren_row⟩
theorem nd_step {f : Addr} {fd : FuncData} {k r : Nat} (B : Bi mg) (D : Df K mg "_law_named" sNd f fd pNd) (GB : FnOk P w K mg base CX0 (k + r) f fd pNd (spNdR K r)) : FnOk P w K mg base CX0 (k + r + 1) f fd pNd (spNd K r) := by
  refine D.fn.ok scNd (fun vs H Q E h => ?_) (fun cdv A outer s H vs Q E hr h => ?_)
  · obtain ⟨aM, v, d, ρ, zs, rfl, _⟩ := h
    rfl
  · obtain ⟨aM, v, d, ρ, zs, rfl, dz, fm, nin, nma, q⟩ := h
    have hu1 : _ + 1 < cLine := Nat.lt_of_le_of_lt (Nat.add_le_add_left (by decide : 1 ≤ 64) _) hr.units
    refine ⟨_, pss_cons (ps_if (pt_cmpR op_in_seq (pe_ix (r := rIxT K) ix_tup (pv 0) pe_int (fun _ _ => rfl)) (PE.wk (t' := tWsN leafV) (pe_lst (pa_cons pe_str (pa_cons pe_str pa_nil))) (by intro σ H Q q; exact ⟨by show leafV.length ≤ sizeLine; decide, fun p n => q p _ (same_new n) n upd_same⟩)) (by rfl))
        (pss_one (ps_ret (pe_op op_catA (pe_tup (pa_cons (pe_ix (r := rIxT K) ix_tup (pv 0) pe_int (fun _ _ => rfl)) (pa_cons (pe_dget hu1 (pv 1) (pe_ix (r := rIxT K) ix_tup (pv 0) pe_int (fun _ _ => rfl)) (fun _ _ => rfl)) pa_nil))) (pe_slice sl_tupA (pv 0) (po_some pe_int) po_none)))) pss_nil)
      (pss_one (ps_ret (pe_op op_catA (pe_slice sl_tupA (pv 0) po_none (po_some pe_int)) (pe_callTy call_tuple_of (by rfl) B.tuple boot_tuple (pa_cons (pe_lc (own := [("_law_part", 2)]) (g := gName 2) (tt := tYes) rfl scNd.nd (pi_tup (pe_slice sl_tupA (pv 0) (po_some pe_int) po_none)) (blkOk_by (own := [("_law_part", 2)]) (N := nNd) (sc := defScope sNd) (by decide +kernel))
          (fun _ _ _ _ _ => pg_name (i := 2) scNd.nd rfl (Or.inl rfl)) (fun _ _ _ _ _ => pts_nil) (fun _ _ _ _ _ => pe_call GB hr (by rfl) D.mg D.fn.kp D.bd .nil pass0 (pa_cons (pv 2) (pa_cons (pv 1) pa_nil)))) pa_nil))))), ?_⟩
    obtain ⟨n, rfl, fv⟩ := form_view fm
    rcases ways_nd fv with ⟨wd, z, ts, rfl, hw, tl, zin, re⟩ | ⟨wd, t, ts, rfl, hw, l6, all, en, re⟩
    · obtain ⟨a, xs, rfl, hs, hd⟩ := dz_tup dz
      obtain ⟨x1, x2, ys, d1, d2, es, rfl, e, h1, h2, hts⟩ := dz_cons2 hd (by simp)
      cases e
      obtain rfl := dz_str h1
      obtain rfl := dz_str h2
      refine ⟨_, rfl, a, _, 0, _, rfl, rfl, hs, atI_nat (j := 0) rfl, fun pW H1 s1 nW hW => ⟨pW, _, rfl, .inl (sqL hW), rfl, rfl, _, rfl, ?_⟩⟩
      rw [in_leafV, hw]
      have hs1 := (tk_same s1).sq hs
      obtain ⟨kvs, hM, vl⟩ := nma.same s1
      refine iteT ⟨_, rfl, a, _, 0, _, rfl, rfl, hs1, atI_nat (j := 0) rfl, _, rfl, _, rfl, a, _, 1, _, rfl, rfl, hs1, atI_nat (j := 1) rfl, aM, .str (ρ z), rfl, .inl ⟨kvs, .inr z, .inl hM, rfl, (vl z (nin z zin)).1.symm⟩, by show 2 ≤ sizeLine; decide, fun t2 n2 => ⟨_, rfl, 2, rfl, ?_⟩⟩
      have s02 : Same H (upd H1 t2 (.tup [.str wd, .str (ρ z)])) := s1.trans (same_new n2)
      have sq2 : SqT K (upd H1 t2 (.tup [.str wd, .str (ρ z)])) t2 [.str wd, .str (ρ z)] := sqT upd_same
      revert s02 sq2
      generalize upd H1 t2 (.tup [.str wd, .str (ρ z)]) = H2
      intro s02 sq2
      refine (show tNoPart _ H2 _ from cutTN ((tk_same s02).sq hs) fun p3 H3 s3 sq3 => ?_)
      have e3 : cutV (V.str wd :: V.str z :: ys) (some 2) none = ys := (cut_back (k := 2) (by simp)).trans rfl
      rw [e3] at sq3
      have yl := hts.len
      refine cat_tup ((tk_same s3).sq sq2) sq3 (by show 2 + _ ≤ _; omega) fun p4 H4 s4 sq4 => ?_
      have s04 := (s02.trans s3).trans s4
      refine q H4 _ s04 ?_
      rw [re]
      exact .tup sq4 (.cons (.str _) (.cons (.str _) (hts.same s04)))
    · obtain ⟨a, xs, rfl, hs, hd⟩ := dz_tup dz
      obtain ⟨x1, x2, ys, d1, d2, es, rfl, e, h1, h2, hts⟩ := dz_cons2 hd (by simp)
      cases e
      obtain rfl := dz_str h1
      refine ⟨_, rfl, a, _, 0, _, rfl, rfl, hs, atI_nat (j := 0) rfl, fun pW H1 s1 nW hW => ⟨pW, _, rfl, .inl (sqL hW), rfl, rfl, _, rfl, ?_⟩⟩
      rw [in_leafV, hw]
      have hs1 := (tk_same s1).sq hs
      refine iteF ⟨_, rfl, 1, rfl, cut_tup hs1 fun p2 H2 s2 sq2 => ?_⟩
      have e2 : cutV (V.str wd :: x2 :: ys) none (some 1) = [V.str wd] := (cut_front (k := 1) (by simp)).trans rfl
      rw [e2] at sq2
      have s02 := s1.trans s2
      refine ⟨_, rfl, 1, rfl, ?_⟩
      refine (show tNoPart _ H2 _ from cutTN ((tk_same s02).sq hs) fun p3 H3 s3 sq3 => ?_)
      have e3 : cutV (V.str wd :: x2 :: ys) (some 1) none = x2 :: ys := (cut_back (k := 1) (by simp)).trans rfl
      rw [e3] at sq3
      have s03 := s02.trans s3
      have nm3 := nma.same s03
      have ht3 : DzAll [] K H3 (x2 :: ys) (t :: ts) := (DzAll.cons h2 hts).same s03
      have sq23 := (tk_same s3).sq sq2
      have lx := ht3.len
      clear hd h1 h2 hts dz fm fv hs hs1 nma
      revert sq3 ht3 lx all l6 en re nin q
      generalize x2 :: ys = us
      generalize t :: ts = cs
      intro nin q l6 all en re sq3 ht3 lx
      refine ⟨p3, rfl, ⟨_, sq3⟩, fun L nL => lc_tup (K := K) (a := p3) (xs := us) (fun j H' => (∃ vs : List V, H' L = some (.lst vs) ∧ vs.length = j ∧ ∀ (i : Nat) (x : V), vs[i]? = some x → ∃ c, cs[i]? = some c ∧ Dz [] K H' x (renN ρ n c)) ∧ Same H3 H') ⟨⟨[], upd_same, rfl, fun i x h => by simp at h⟩, same_new nL⟩ (fun j H' _ h => (tk_same h.2).sq sq3) ?_ ?_⟩
      · rintro j x H4 hx4 ⟨⟨vs, hL, vl, hv⟩, s4⟩
        obtain ⟨c, hc, dzx⟩ := ht3.get hx4
        have cm := List.mem_of_getElem? hc
        have jl := lt_get hc
        have cin : ∀ c ∈ cs, ∀ z ∈ namesN n c, z ∈ zs := fun c hc z hz => nin z (by rw [en]; exact List.mem_flatten.mpr ⟨_, List.mem_map.mpr ⟨c, hc, rfl⟩, hz⟩)
        refine ⟨rfl, tyes (iteT ⟨_, rfl, _, rfl, aM, x, c, ρ, zs, rfl, dzx.same s4, all c cm, cin c cm, nm3.same s4, fun H5 v5 s5 dz5 => ?_⟩)⟩
        have hL5 := s5 _ _ hL
        have cdn : ∀ c ∈ cs, Cd n (renN ρ n c) := fun c hc => form_cd (ren_form (all c hc) fun z hz => by
          obtain ⟨_, _, vl⟩ := nm3
          exact (vl z (cin c hc z hz)).2)
        refine ⟨vs, hL5, ?_, ⟨vs ++ [v5], upd_same, ?_, fun i y hyi => ?_⟩, ((Bt.of_same (S := []) (s4.trans s5)).upd0 nL).same⟩
        · rw [vl]
          exact small1000 (by omega)
        · rw [List.length_append, vl]
          rfl
        · by_cases hi : i < vs.length
          · rw [List.getElem?_append_left hi] at hyi
            obtain ⟨e, he, dze⟩ := hv i y hyi
            exact ⟨e, he, cd_tk ((tk_same s5).trans (tk_lst hL5)) (cdn e (List.mem_of_getElem? he)) dze⟩
          · have hl := lt_get hyi
            rw [List.length_append] at hl
            simp only [List.length_cons, List.length_nil] at hl
            obtain rfl : i = vs.length := by omega
            rw [List.getElem?_append_right (Nat.le_refl _), Nat.sub_self] at hyi
            cases hyi
            exact ⟨c, by rw [vl]; exact hc, cd_tk (tk_lst hL5) (cdn c cm) dz5⟩
      · rintro H4 ⟨⟨vs, hL, vl, hv⟩, s4⟩
        have dzs : DzAll [] K H4 vs (cs.map (renN ρ n)) := dzall_of (by rw [List.length_map]; omega) fun i y hyi => by
          obtain ⟨e, he, dze⟩ := hv i y hyi
          exact ⟨_, by rw [List.getElem?_map, he]; rfl, dze⟩
        refine ⟨L, vs, rfl, .inl ⟨sqL hL, fun t5 n5 => ?_⟩⟩
        refine cat_tup ((tk_new n5).sq ((tk_same s4).sq sq23)) (sqT upd_same) (by show 1 + vs.length ≤ 100; omega) fun p6 H6 s6 sq6 => ?_
        have s46 := (same_new n5).trans s6
        refine q H6 _ ((s03.trans s4).trans s46) ?_
        rw [re]
        exact .tup sq6 (.cons (.str _) (dzs.same s46))
theorem ok_nd {f : Addr} {fd : FuncData} {k : Nat} (B : Bi mg) (D : Df K mg "_law_named" sNd f fd pNd) : ∀ r, FnOk P w K mg base CX0 (k + r + 1) f fd pNd (spNd K r)
  | 0 => nd_step (r := 0) B D ⟨fun _ _ _ _ h => h.elim, fun _ _ _ _ _ _ _ _ _ _ _ _ _ h => h.elim⟩
  | r + 1 => nd_step (r := r + 1) B D (ok_nd B D r)
end
end WdQ

set_option Elab.async false
set_option linter.all false
set_option maxRecDepth 100000
set_option maxHeartbeats 4000000
/-! ### sorted, of rows of a name and a number, by their names (unlike ones, or alike rows) -/
namespace Wd.Sp
open PySem PySem.Spec PySem.W PyProof.Rows SrtO
section
variable {prog : Program} {w : World} {A : Around} {E : Value → Shared → Prop} {s : Shared}
theorem collect_tup {l : Addr} {vs : List Value} {Q : List Value → Shared → Prop} (hl : s.heap.IsTuple l vs.toArray)
    (h : Q vs { s with heap := (s.heap.push (seqObj "list" #[] 0)).update s.heap.objs.size (Obj.mapSeq (· ++ vs.toArray)) }) (hsz : vs.length ≤ sizeLine) :
    wpAny (model prog w) A (collect (.ref l)) Q E s := by
  obtain ⟨o, ho, hc, n, hd⟩ := id hl
  unfold collect
  refine wpAny_bind (wpAny_runValue (codeAny_builtin entry_proto_collect' ?_))
  show wpAny _ _ (do again (.builtin "list.__iadd__" ⟨[← newList [], .ref l], []⟩)) _ _ s
  refine wpAny_bind (wpAny_newList (wpAny_pure ⟨Code.quiet_builtin _ (by decide +kernel), codeAny_builtin entry_list_iadd' ?_⟩))
  show wpAny _ _ (Builtin.List.listExtendWith (.ref s.heap.objs.size) (.ref l) (.ref s.heap.objs.size)) _ _ { s with heap := s.heap.push (seqObj "list" #[] 0) }
  unfold Builtin.List.listExtendWith
  have ho' : (s.heap.push (seqObj "list" #[] 0)).get? l = some o := Heap.get?_push_of_some _ ho
  refine wpAny_bind (wpAny_typeOf (T := "tuple") ⟨o, ho', hc⟩ ?_)
  have ht : (Value.type "tuple" == Value.type "tuple") = true := by rfl
  rw [if_pos (by rw [ht]; simp)]
  refine wpAny_bind (listItems_at ho' hd ?_)
  refine wpAny_bind (listItems_at (xs := #[]) (n := 0) (Heap.get?_push_size _ rfl) rfl ?_)
  rw [if_neg (by simp)]
  refine wpAny_bind (listUpdate_at (xs := #[]) (n := 0) (Heap.get?_push_size _ rfl) rfl ?_ (Nat.zero_le _) (by show (#[] ++ vs.toArray).size ≤ sizeLine + 1; simp only [Array.size_append, List.size_toArray, List.length_nil]; omega))
  refine wpAny_pure ?_
  show wpAny (model prog w) A (do
      let o ← load s.heap.objs.size
      match o.data with
      | .seq xs _ => pure xs.toList
      | _ => unsupported "internal:collect") Q E { s with heap := (s.heap.push (seqObj "list" #[] 0)).update s.heap.objs.size (Obj.mapSeq (· ++ vs.toArray)) }
  refine wpAny_bind (wpAny_load (get?_update_seq (Heap.get?_push_size _ rfl) _) ?_)
  show wpAny _ _ (pure ((#[] : Array Value) ++ vs.toArray).toList) Q E _
  rw [show ((#[] : Array Value) ++ vs.toArray).toList = vs by simp]
  exact wpAny_pure h
theorem sorted_col {l : Addr} {vs : List Value} {ltv : Value → Value → Bool} {Q : Value → Shared → Prop} (O : Swo ltv) (hz : vs.length ≤ sizeLine)
    (hcol : ∀ {A : Around} {E : Value → Shared → Prop} {Q : List Value → Shared → Prop}, Q vs { s with heap := (s.heap.push (seqObj "list" #[] 0)).update s.heap.objs.size (Obj.mapSeq (· ++ vs.toArray)) } → wpAny (model prog w) A (collect (.ref l)) Q E s)
    (hS : 2 ≤ vs.length → ∀ (h₁ : Heap) (a : Addr), h₁.get? a = some (seqObj "list" vs.toArray 0) → (∀ b o, s.heap.get? b = some o → b ≠ a ∧ h₁.get? b = some o) → SortableO prog w A.in1.in1 { s with heap := h₁ } a vs ltv)
    (h : ∀ out : List Value, Srtd ltv out → Stb ltv out vs → Q (.ref (s.heap.objs.size + 1)) { s with heap := sortedAll s.heap vs out.toArray }) :
    wpAny (model prog w) A (call (.builtin "sorted") [.ref l]) Q E s := by
  refine Calls.call_function_entry kind_sorted plain_sorted entry_sorted (args_sorted1 _) ?_
  unfold Builtin.«sorted»
  refine wpAny_bind (m := checkCount "sorted" 1 1 _) (wpAny_pure ?_)
  refine wpAny_bind (hcol ?_)
  refine wpAny_bind (wpAny_newList ?_ hz)
  have hsz : ((s.heap.push (seqObj "list" #[] 0)).update s.heap.objs.size (Obj.mapSeq (· ++ vs.toArray))).objs.size = s.heap.objs.size + 1 := by
    rw [Heap.size_update, size_push']
  have hoL : (((s.heap.push (seqObj "list" #[] 0)).update s.heap.objs.size (Obj.mapSeq (· ++ vs.toArray))).push (seqObj "list" vs.toArray 0)).get? (s.heap.objs.size + 1) = some (seqObj "list" vs.toArray 0) := by
    rw [← hsz]; exact Heap.get?_push_size _ rfl
  have keep : ∀ b o, s.heap.get? b = some o → b ≠ s.heap.objs.size + 1 ∧ (((s.heap.push (seqObj "list" #[] 0)).update s.heap.objs.size (Obj.mapSeq (· ++ vs.toArray))).push (seqObj "list" vs.toArray 0)).get? b = some o := fun b o q => by
    have hlt : b < s.heap.objs.size := Heap.lt_size q
    refine ⟨Nat.ne_of_lt (Nat.lt_succ_of_lt hlt), Heap.get?_push_of_some _ ?_⟩
    rw [Heap.get?_update_ne _ _ _ _ (Nat.ne_of_lt hlt)]
    exact Heap.get?_push_of_some _ q
  show wpAny _ _ _ _ _ { s with heap := ((s.heap.push (seqObj "list" #[] 0)).update s.heap.objs.size (Obj.mapSeq (· ++ vs.toArray))).push (seqObj "list" vs.toArray 0) }
  rw [hsz]
  refine wpAny_bind (wpAny_holding (wpAny_call_entry slot_list_sort ⟨_, hoL, rfl⟩ entry_list_sort (list_sort_ord O hoL hz (fun h2 => hS h2 _ _ hoL keep) fun out hs hb => ⟨_, rfl, ?_⟩) (args_list_sort _)))
  exact wpAny_pure ⟨_, rfl, h out hs hb⟩
/-- v is a row of a name and a number -/
def IsNP (h : Heap) (v : Value) (x : Str) (y : Int) : Prop := ∃ a o t u n, v = .ref a ∧ h.get? a = some o ∧ o.cls = .type "tuple" ∧ o.data = .seq #[.str x t, .int y u] n
theorem IsNP.keeps {h h' : Heap} {v : Value} {x : Str} {y : Int} (p : IsNP h v x y) (k : ∀ b o, h.get? b = some o → o.cls = .type "tuple" → h'.get? b = some o) : IsNP h' v x y := by
  obtain ⟨a, o, t, u, n, e, ho, hc, hd⟩ := p
  exact ⟨a, o, t, u, n, e, k _ _ ho hc, hc, hd⟩
def ltN {α : Type} (k : α → Str × Int) (v u : α) : Bool := decide ((k v).1.cps.toList < (k u).1.cps.toList)
theorem swo_n {α : Type} (k : α → Str × Int) : Swo (ltN k) := by
  refine ⟨fun x y h => ?_, fun x y z h1 h2 => ?_⟩
  · exact decide_eq_false (List.lt_asymm (of_decide_eq_true h))
  · have a : ¬ (k y).1.cps.toList < (k x).1.cps.toList := of_decide_eq_false h1
    have b : ¬ (k z).1.cps.toList < (k y).1.cps.toList := of_decide_eq_false h2
    exact decide_eq_false (fun c => (List.le_trans (List.not_lt.mp a) (List.not_lt.mp b) : (k x).1.cps.toList ≤ (k z).1.cps.toList) c)
theorem n_cmp {vs : List Value} {k : Value → Str × Int} (hp : ∀ v ∈ vs, IsNP s.heap v (k v).1 (k v).2) (he : ∀ v ∈ vs, ∀ u ∈ vs, (k v).1 = (k u).1 → (k v).2 = (k u).2) : Cmp prog w A s (tuples' true) (fun p => p.1 ∈ vs) (lt2 (ltN k)) := by
  intro p q hm hm'
  have h1 := hp _ hm
  have h2 := hp _ hm'
  have h3 := he _ hm _ hm'
  show wpAny (model prog w) A (keyLt' (tuples' true) p.1 q.1) (fun r s' => s' = s ∧ r = ltN k p.1 q.1) (fun _ _ => False) s
  unfold ltN
  generalize (k p.1).1 = x at h1 h3 ⊢
  generalize (k p.1).2 = y at h1 h3
  generalize (k q.1).1 = x' at h2 h3 ⊢
  generalize (k q.1).2 = y' at h2 h3
  obtain ⟨a, o, t, u, n, e, ho, hc, hd⟩ := h1
  obtain ⟨a', o', t', u', n', e', ho', hc', hd'⟩ := h2
  rw [e, e']
  refine PySem.W.kat_lt ho hd ho' hd' ?_
  show PySem.W.KatLex prog w A true (decide (2 < 2)) _ [(.str x t, .str x' t'), (.int y u, .int y' u')] 0 s
  refine PySem.W.kat_cons (SeqAt.EqAt.str_str x t x' t' prog w _ _ ?_)
  refine PySem.W.kat_go (fun e1 => ?_) (fun e1 => ?_)
  · have ex : x = x' := by simpa using e1
    have ey := h3 ex
    subst ex
    subst ey
    refine PySem.W.kat_yes (PySem.W.kat_cons (SeqAt.EqAt.int_int y u y u' prog w _ _ ?_))
    refine PySem.W.kat_go (fun e2 => ?_) (fun e2 => ?_)
    · exact PySem.W.kat_yes (PySem.W.kat_nil ⟨rfl, (decide_eq_false (List.lt_irrefl _)).symm⟩)
    · simp at e2
  · exact PySem.W.kat_no (oneLt_str ⟨rfl, rfl⟩)
theorem firsts_n {h : Heap} : ∀ {vs : List Value}, (∀ v ∈ vs, ∃ x y, IsNP h v x y) → ∃ fs : List Value, PySem.W.KatTups h vs fs ∧ fs.length = vs.length ∧ ∀ f ∈ fs, ∃ x t, f = Value.str x t
  | [], _ => ⟨[], PySem.W.KatTups.nil, rfl, fun _ hm => by simp at hm⟩
  | v :: vs, hp => by
    obtain ⟨fs, h1, h2, h3⟩ := firsts_n (vs := vs) fun v' hm => hp v' (List.mem_cons_of_mem _ hm)
    obtain ⟨x, y, a, o, t, u, n, e, ho, hc, hd⟩ := hp v (List.mem_cons_self ..)
    subst e
    refine ⟨.str x t :: fs, PySem.W.KatTups.cons ho hc hd rfl h1, by rw [List.length_cons, List.length_cons, h2], fun f hm => ?_⟩
    rcases List.mem_cons.mp hm with rfl | hm
    · exact ⟨x, t, rfl⟩
    · exact h3 f hm
theorem n_sortable {a : Addr} {vs : List Value} {k : Value → Str × Int} (h0 : 0 < vs.length) (hp : ∀ v ∈ vs, IsNP s.heap v (k v).1 (k v).2) (he : ∀ v ∈ vs, ∀ u ∈ vs, (k v).1 = (k u).1 → (k v).2 = (k u).2) (ha : ∀ o, s.heap.get? a = some o → o.cls ≠ .type "tuple") : SortableO prog w A s a vs (ltN k) := by
  intro h' keep
  have hp' : ∀ v ∈ vs, IsNP h' v (k v).1 (k v).2 := fun v hm => (hp v hm).keeps fun b o e c => keep b o (fun z => by subst z; exact ha o e c) e
  obtain ⟨fs, h1, h2, h3⟩ := firsts_n fun v hm => ⟨_, _, hp' v hm⟩
  refine ⟨tuples' true, fun Q E hq => ?_, n_cmp hp' he⟩
  refine PySem.W.kat_kind (T := .type "str") h1 (by omega) (fun f hm => ?_) (by rfl) ?_
  · obtain ⟨x, t, rfl⟩ := h3 f hm
    exact PySem.W.Looks.now
  · have e : (Value.type "str" != Value.type "tuple") = true := by first | decide +kernel | rfl | decide
    rw [e]
    exact hq
theorem sorted_n {l : Addr} {vs : List Value} {k : Value → Str × Int} {Q : Value → Shared → Prop} (hl : s.heap.IsList l vs.toArray ∨ s.heap.IsTuple l vs.toArray) (hz : vs.length ≤ sizeLine) (hp : ∀ v ∈ vs, IsNP s.heap v (k v).1 (k v).2) (he : ∀ v ∈ vs, ∀ u ∈ vs, (k v).1 = (k u).1 → (k v).2 = (k u).2)
    (h : ∀ (h' : Heap) (d : Addr) (out : List Value), Srtd (ltN k) out → Stb (ltN k) out vs → (∀ b o, s.heap.get? b = some o → h'.get? b = some o) → s.heap.objs.size ≤ d → (∃ n, h'.get? d = some (seqObj "list" out.toArray n)) → Q (.ref d) { s with heap := h' }) :
    wpAny (model prog w) A (call (.builtin "sorted") [.ref l]) Q E s := by
  refine sorted_col (swo_n k) hz (fun hq => ?_) (fun h2 h₁ a ha kk => ?_) fun out hs hb => ?_
  · rcases hl with hl | hl
    · exact collect_list hl hq hz
    · exact collect_tup hl hq hz
  · refine n_sortable (s := { s with heap := h₁ }) (by omega) (fun v hm => (hp v hm).keeps fun b o e _ => (kk b o e).2) he fun o e => ?_
    have e' : some o = some (seqObj "list" vs.toArray 0) := e.symm.trans ha
    cases e'
    intro c
    exact absurd (Value.type.inj c) (by decide)
  · exact h _ _ out hs hb (fun b o e => sortedAll_old e) (Nat.le_succ _) (sortedAll_at s.heap vs out.toArray)
end
end Wd.Sp
namespace Wd
open PySem PySem.Spec PyProof.Rows L2
def rSortedN (K : PySem.W.Frag) : List V → Hp → VK → Prop := fun vs H Q => ∃ (a : Addr) (xs : List V) (k : V → Str × Int), vs = [V.ref a] ∧ (SqL K H a xs ∨ SqT K H a xs) ∧ (∀ x ∈ xs, ∃ t, x = V.ref t ∧ SqT K H t [.str (k x).1, .int (k x).2]) ∧ (∀ x ∈ xs, ∀ y ∈ xs, (k x).1 = (k y).1 → (k x).2 = (k y).2) ∧
  ∀ ys p, ys.Perm xs → ys.Pairwise (fun x y => ¬ (k y).1.cps.toList < (k x).1.cps.toList) → H p = none → Q (.ref p) (upd H p (.lst ys))
section
variable {X : Cx}
theorem cr_sortedN : CallR X (.builtin "sorted") (rSortedN X.K) := by
  intro pins s σ H vs us Q I r h
  obtain ⟨a, xs, k, rfl, hs, hx, he, q⟩ := h
  obtain ⟨its, rv, hl, hz⟩ : ∃ its : List Value, Vals xs its ∧ (s.heap.IsList a its.toArray ∨ s.heap.IsTuple a its.toArray) ∧ xs.length ≤ sizeLine := by
    rcases hs with hs | hs
    · obtain ⟨its, rv, hl, hz⟩ := I.list hs
      exact ⟨its, rv, .inl hl.isList, hz⟩
    · obtain ⟨its, rv, hl, hz⟩ := I.tuple hs
      exact ⟨its, rv, .inr hl, hz⟩
  obtain ⟨u, rfl, ru⟩ := vals1 r
  obtain rfl : u = Value.ref a := ru
  obtain ⟨e1, e2⟩ := refs_back rv fun x m => by
    obtain ⟨t, e, _⟩ := hx x m
    exact ⟨t, e⟩
  have inx : ∀ v ∈ its, backV v ∈ xs := fun v hv => by rw [e1]; exact List.mem_map.mpr ⟨_, hv, rfl⟩
  refine Sp.sorted_n (k := fun u => k (backV u)) hl (by rw [← rv.length]; exact hz) (fun v hv => ?_) (fun v hv u hu e => he _ (inx v hv) _ (inx u hu) e) fun h' d out h1 h2 kp hd hn => ?_
  · obtain ⟨t, rfl⟩ := e2 v hv
    obtain ⟨t', e, ht⟩ := hx _ (inx _ hv)
    cases e
    obtain ⟨its2, r2, ⟨o, ho, hc, n, hd⟩, _⟩ := I.tuple ht
    obtain ⟨u1, u2, rfl, ri, rj⟩ := vals2 r2
    obtain ⟨t1, rfl⟩ := ri
    obtain ⟨t2, rfl⟩ := rj
    exact ⟨t, o, t1, t2, n, rfl, ho, hc, hd⟩
  · have h3 : ∀ u ∈ out, ∃ a, u = Value.ref a := fun u hu => e2 u (h2.perm.mem_iff.mp hu)
    obtain ⟨n, hn⟩ := hn
    have hb : SrtO.Stb (Sp.ltN k) (out.map backV) xs := by
      rw [e1]
      exact SrtO.Stb.map (Sp.swo_n k) backV h2
    have hs2 : SrtO.Srtd (Sp.ltN k) (out.map backV) := SrtO.srtd_map h1
    refine ⟨.ref d, upd H d (.lst (out.map backV)), I.laid (t' := s.toks) kp hd ⟨?_, out, n, vals_back h3, hn⟩, rfl, q _ d hb.perm (List.Pairwise.imp (fun h => of_decide_eq_false h) hs2) (I.hok.fresh hd)⟩
    rw [hb.len]
    exact hz
/-- the same, by the rows -/
def rSortedM (K : PySem.W.Frag) : List V → Hp → VK → Prop := fun vs H Q => ∃ (a : Addr) (xs : List V) (rows : List (Str × Int)), vs = [V.ref a] ∧ (SqL K H a xs ∨ SqT K H a xs) ∧ xs.length = rows.length ∧ (∀ (i : Nat) (x : V), xs[i]? = some x → ∃ (t : Addr) (r : Str × Int), x = V.ref t ∧ rows[i]? = some r ∧ SqT K H t [.str r.1, .int r.2]) ∧ (rows.map Prod.fst).Nodup ∧
  ∀ (ys : List V) (rows' : List (Str × Int)) (p : Addr), ys.length = rows'.length → rows'.Perm rows → (rows'.Pairwise fun x y => ¬ y.1.cps.toList < x.1.cps.toList) → (∀ (i : Nat) (x : V), ys[i]? = some x → ∃ (t : Addr) (r : Str × Int), x = V.ref t ∧ rows'[i]? = some r ∧ SqT K H t [.str r.1, .int r.2]) → H p = none → Q (.ref p) (upd H p (.lst ys))
open Classical in
theorem cr_sortedM : CallR X (.builtin "sorted") (rSortedM X.K) := by
  intro pins s σ H vs us Q I r h
  obtain ⟨a, xs, rows, rfl, hs, hl, hx, nd, q⟩ := h
  obtain ⟨k, hk⟩ : ∃ k : V → Str × Int, ∀ x ∈ xs, ∃ t, x = V.ref t ∧ SqT X.K H t [.str (k x).1, .int (k x).2] := by
    refine ⟨fun x => if h : ∃ r : Str × Int, ∃ t, x = V.ref t ∧ SqT X.K H t [.str r.1, .int r.2] then h.choose else ("", 0), fun x m => ?_⟩
    obtain ⟨i, hi⟩ := List.mem_iff_getElem?.mp m
    obtain ⟨t, r, e, _, sq⟩ := hx i x hi
    have h : ∃ r : Str × Int, ∃ t, x = V.ref t ∧ SqT X.K H t [.str r.1, .int r.2] := ⟨r, t, e, sq⟩
    simp only [dif_pos h]
    exact h.choose_spec
  have at_ : ∀ (i : Nat) (x : V), xs[i]? = some x → rows[i]? = some (k x) := fun i x hi => by
    obtain ⟨t, r, e, hr, sq⟩ := hx i x hi
    obtain ⟨t', e', sq'⟩ := hk x (List.mem_of_getElem? hi)
    rw [e] at e'
    cases e'
    have ee := I.tuple_inj sq sq'
    rw [hr]
    have e1 : r.1 = (k x).1 := by
      have := List.cons.inj ee
      exact V.str.inj this.1
    have e2 : r.2 = (k x).2 := by
      have := List.cons.inj (List.cons.inj ee).2
      exact V.int.inj this.1
    rw [show r = k x from Prod.ext e1 e2]
  have em : rows = xs.map k := by
    refine List.ext_getElem? fun i => ?_
    rw [List.getElem?_map]
    cases hc : xs[i]? with
    | none =>
      have := List.getElem?_eq_none_iff.mp hc
      exact List.getElem?_eq_none_iff.mpr (by omega)
    | some x => exact at_ i x hc
  refine cr_sortedN pins s σ H _ us Q I r ⟨a, xs, k, rfl, hs, hk, fun x hx' y hy e => ?_, fun ys p pm srt np => ?_⟩
  · obtain ⟨i, hi⟩ := List.mem_iff_getElem?.mp hx'
    obtain ⟨j, hj⟩ := List.mem_iff_getElem?.mp hy
    have h1 := at_ i x hi
    have h2 := at_ j y hj
    have g1 : (rows.map Prod.fst)[i]? = some (k x).1 := by rw [List.getElem?_map, h1]; rfl
    have g2 : (rows.map Prod.fst)[j]? = some (k x).1 := by rw [List.getElem?_map, h2, e]; rfl
    have ij := (List.getElem?_inj (List.getElem?_eq_some_iff.mp g1).1 nd).mp (g1.trans g2.symm)
    rw [ij, h2] at h1
    rw [Option.some.inj h1]
  · refine q ys (ys.map k) p (by rw [List.length_map]) (by rw [em]; exact pm.map k) (List.pairwise_map.mpr srt) (fun i x hi => ?_) np
    obtain ⟨t, e, sq⟩ := hk x (pm.mem_iff.mp (List.mem_of_getElem? hi))
    exact ⟨t, k x, e, by rw [List.getElem?_map, hi]; rfl, sq⟩
end
end Wd

set_option Elab.async false
set_option linter.all false
set_option maxRecDepth 100000
set_option maxHeartbeats 4000000
set_option exponentiation.threshold 5000
namespace WdQ
open PySem PySem.Spec PyProof.Rows L2 WdM Wd
/-! ### rows in another order, with other names -/
theorem str_same {x y : Str} (h : x.cps.toList = y.cps.toList) : x = y := by
  cases x
  cases y
  exact congrArg Str.mk (Array.ext' h)
theorem look_eq {rows rows' : List (Str × Int)} {z z' : Str} (n1 : (rows.map Prod.fst).Nodup) (n2 : (rows'.map Prod.fst).Nodup) (h : ∀ d, (z, d) ∈ rows ↔ (z', d) ∈ rows') : look rows' z' = look rows z := by
  cases e : look rows z with
  | some d => exact look_of (r := (z', d)) n2 ((h d).mp (look_mem e))
  | none =>
    cases e2 : look rows' z' with
    | none => rfl
    | some d =>
      have := look_of (r := (z, d)) n1 ((h d).mpr (look_mem e2))
      rw [e] at this
      cases this
theorem alive_of_look {rows rows' : List (Str × Int)} {z z' : Str} (h : look rows' z' = look rows z) (t : Int) : aliveB rows' z' t = aliveB rows z t := by
  unfold aliveB
  rw [h]
theorem good_sorted {rows rows' : List (Str × Int)} (p : rows'.Perm rows) (s : rows'.Pairwise fun x y => ¬ y.1.cps.toList < x.1.cps.toList) (nd : (rows.map Prod.fst).Nodup) (l8 : rows.length ≤ 8) (nm : ∀ r ∈ rows, nmB r.1 = true ∧ r.1.length ≤ 1000) (dy : ∀ r ∈ rows, -9999 ≤ r.2 ∧ r.2 ≤ 9999) : GoodD rows' := by
  have nd' : (rows'.map Prod.fst).Nodup := (p.map Prod.fst).nodup_iff.mpr nd
  refine ⟨by rw [p.length_eq]; exact l8, fun r hr => nm r (p.mem_iff.mp hr), fun r hr => dy r (p.mem_iff.mp hr), up_of_pw ?_⟩
  have both : rows'.Pairwise fun x y => x.1.cps.toList < y.1.cps.toList := by
    have ne : rows'.Pairwise fun x y => x.1 ≠ y.1 := List.pairwise_map.mp nd'
    refine (s.and ne).imp fun {x y} h => ?_
    by_cases c : x.1.cps.toList < y.1.cps.toList
    · exact c
    · exact absurd (str_same (List.le_antisymm (List.not_lt.mp h.1) (List.not_lt.mp c))) h.2
  exact List.pairwise_map.mpr both
/-! ### the other names -/
def rzS (i : Nat) : Str := "n" ++ (⟨#[97 + i]⟩ : Str) ++ "q"
theorem rz_nm : ∀ i, i < 8 → Nm (rzS i) := by
  have all : ∀ i : Fin 8, ((rzS i.val).cps.toList.all letB = true ∧ 1 ≤ (rzS i.val).length ∧ (rzS i.val).length ≤ 6) ∧ inV (.str (rzS i.val)) noNames = false := by decide +kernel
  exact fun i hi => by
    obtain ⟨⟨h1, h2⟩, h3⟩ := all ⟨i, hi⟩
    exact ⟨⟨fun c hc => List.all_eq_true.mp h1 c hc, h2⟩, h3⟩
theorem rz_inj {i j : Nat} (hi : i < 8) (hj : j < 8) (h : rzS i = rzS j) : i = j := by
  have all : ∀ i j : Fin 8, rzS i.val = rzS j.val → i = j := by decide +kernel
  exact congrArg Fin.val (all ⟨i, hi⟩ ⟨j, hj⟩ h)
def rhoS (zs : List Str) (z : Str) : Str := rzS (zs.idxOf z)
theorem rho_at {zs : List Str} (nd : zs.Nodup) {i : Nat} {z : Str} (h : zs[i]? = some z) : rhoS zs z = rzS i := by
  unfold rhoS
  obtain ⟨hi, e⟩ := List.getElem?_eq_some_iff.mp h
  rw [← e, nd.idxOf_getElem]
theorem rho_lt {zs : List Str} (l : zs.length ≤ 8) {z : Str} (h : z ∈ zs) : zs.idxOf z < 8 := Nat.lt_of_lt_of_le (List.idxOf_lt_length_of_mem h) l
theorem rho_inj {zs : List Str} (l : zs.length ≤ 8) {y z : Str} (hy : y ∈ zs) (hz : z ∈ zs) (h : rhoS zs y = rhoS zs z) : y = z := by
  have e := rz_inj (rho_lt l hy) (rho_lt l hz) h
  have h1 := List.getElem_idxOf (List.idxOf_lt_length_of_mem hy)
  have h2 := List.getElem_idxOf (List.idxOf_lt_length_of_mem hz)
  rw [← h1, ← h2]
  congr 1
theorem rho_nm {zs : List Str} (l : zs.length ≤ 8) {z : Str} (h : z ∈ zs) : Nm (rhoS zs z) := rz_nm _ (rho_lt l h)
def renF (ρ : Str → Str) (r : Str × Option Str) : Str × Option Str := (ρ r.1, r.2.map ρ)
def renD (ρ : Str → Str) (r : Str × Int) : Str × Int := (ρ r.1, r.2)
theorem par_in {F : List (Str × Option Str)} (g : GoodF F) {r : Str × Option Str} {y : Str} (hr : r ∈ F) (e : r.2 = some y) : y ∈ F.map Prod.fst := by
  obtain ⟨i, hi⟩ := List.mem_iff_getElem?.mp hr
  obtain ⟨q, hq, rfl⟩ := List.mem_map.mp (g.pr i r y hi e)
  exact List.mem_map_of_mem (List.mem_of_mem_take hq)
theorem nodup_map_on {α β : Type} {f : α → β} : ∀ {l : List α}, (∀ x ∈ l, ∀ y ∈ l, f x = f y → x = y) → l.Nodup → (l.map f).Nodup
  | [], _, _ => List.nodup_nil
  | a :: l, h, nd => by
    obtain ⟨h1, h2⟩ := List.nodup_cons.mp nd
    rw [List.map_cons, List.nodup_cons]
    refine ⟨fun m => ?_, nodup_map_on (fun x hx y hy => h x (List.mem_cons_of_mem _ hx) y (List.mem_cons_of_mem _ hy)) h2⟩
    obtain ⟨y, hy, e⟩ := List.mem_map.mp m
    rw [h y (List.mem_cons_of_mem _ hy) a List.mem_cons_self e] at hy
    exact h1 hy
theorem ren_good {F : List (Str × Option Str)} (g : GoodF F) : GoodF (F.map (renF (rhoS (F.map Prod.fst)))) := by
  have l8 := g.l8
  have e : (F.map (renF (rhoS (F.map Prod.fst)))).map Prod.fst = (F.map Prod.fst).map (rhoS (F.map Prod.fst)) := by
    rw [List.map_map, List.map_map]
    rfl
  refine ⟨by rw [List.length_map]; exact g.l1, by rw [List.length_map]; exact l8, ?_, fun r hr => ?_, fun i r y hr ey => ?_⟩
  · rw [e]
    exact nodup_map_on (fun x hx y hy h => rho_inj (by rw [List.length_map]; exact l8) hx hy h) g.nd
  · obtain ⟨q, hq, rfl⟩ := List.mem_map.mp hr
    exact rho_nm (by rw [List.length_map]; exact l8) (List.mem_map_of_mem hq)
  · rw [List.getElem?_map] at hr
    cases hc : F[i]? with
    | none => rw [hc] at hr; cases hr
    | some q =>
      rw [hc] at hr
      cases hr
      have ey : q.2.map (rhoS (F.map Prod.fst)) = some y := ey
      cases hq : q.2 with
      | none => rw [hq] at ey; cases ey
      | some y0 =>
        rw [hq] at ey
        cases ey
        have m := g.pr i q y0 hc hq
        rw [← List.map_take, List.map_map]
        obtain ⟨r0, hr0, rfl⟩ := List.mem_map.mp m
        exact List.mem_map.mpr ⟨r0, hr0, rfl⟩
theorem ren_of {F : List (Str × Option Str)} {D D' : List (Str × Int)} (g : GoodF F) (gd : GoodD D) (inF : ∀ r ∈ D, r.1 ∈ F.map Prod.fst) (p : D'.Perm (D.map (renD (rhoS (F.map Prod.fst))))) : Ren (rhoS (F.map Prod.fst)) F (F.map (renF (rhoS (F.map Prod.fst)))) D D' := by
  have l8 : (F.map Prod.fst).length ≤ 8 := by rw [List.length_map]; exact g.l8
  refine ⟨fun z hz => (rho_nm l8 hz).name, fun z hz => ?_, fun z hz => ?_, fun z hz t => alive_of_look ?_ t⟩
  · obtain ⟨r, hr, rfl⟩ := List.mem_map.mp hz
    exact List.mem_map.mpr ⟨_, List.mem_map_of_mem hr, rfl⟩
  · unfold kidsOf
    rw [List.filter_map, List.map_map, List.map_map]
    have e : F.filter (kidB (rhoS (F.map Prod.fst) z) ∘ renF (rhoS (F.map Prod.fst))) = F.filter (kidB z) := by
      refine List.filter_congr fun r hr => ?_
      show decide (r.2.map (rhoS (F.map Prod.fst)) = some (rhoS (F.map Prod.fst) z)) = decide (r.2 = some z)
      cases h : r.2 with
      | none => rfl
      | some y =>
        refine decide_eq_decide.mpr ⟨fun e => ?_, fun e => by cases e; rfl⟩
        have e : rhoS (F.map Prod.fst) y = rhoS (F.map Prod.fst) z := Option.some.inj e
        rw [rho_inj l8 (par_in g hr h) hz e]
    rw [e]
    rfl
  · have nd := nodup_good gd
    have nd2 : ((D.map (renD (rhoS (F.map Prod.fst)))).map Prod.fst).Nodup := by
      rw [List.map_map, show (Prod.fst ∘ renD (rhoS (F.map Prod.fst))) = (rhoS (F.map Prod.fst) ∘ Prod.fst) from rfl, ← List.map_map]
      refine nodup_map_on (fun x hx y hy h => ?_) nd
      obtain ⟨r, hr, rfl⟩ := List.mem_map.mp hx
      obtain ⟨q, hq, rfl⟩ := List.mem_map.mp hy
      exact rho_inj l8 (inF r hr) (inF q hq) h
    refine look_eq nd ((p.map Prod.fst).nodup_iff.mpr nd2) fun d => ⟨fun h => p.mem_iff.mpr (List.mem_map.mpr ⟨_, h, rfl⟩), fun h => ?_⟩
    obtain ⟨r, hr, e⟩ := List.mem_map.mp (p.mem_iff.mp h)
    have e1 : rhoS (F.map Prod.fst) r.1 = rhoS (F.map Prod.fst) z := congrArg Prod.fst e
    have e2 : r.2 = d := congrArg Prod.snd e
    rw [← rho_inj l8 (inF r hr) hz e1, ← e2]
    exact hr
theorem crowd_al {D D' : List (Str × Int)} {x : Str × Int} (gd : GoodD D) (p : D'.Perm (D ++ [x])) (nx : x.1 ∉ D.map Prod.fst) {z : Str} (hz : z ≠ x.1) (t : Int) : aliveB D' z t = aliveB D z t := by
  refine alive_of_look ?_ t
  have nd := nodup_good gd
  have nd2 : ((D ++ [x]).map Prod.fst).Nodup := by
    rw [List.map_append]
    refine List.nodup_append.mpr ⟨nd, by simp, fun a ha b hb e => ?_⟩
    rw [List.mem_singleton.mp (show b ∈ [x.1] from hb)] at e
    exact nx (e ▸ ha)
  refine look_eq nd ((p.map Prod.fst).nodup_iff.mpr nd2) fun d => ⟨fun h => p.mem_iff.mpr (List.mem_append_left _ h), fun h => ?_⟩
  rcases List.mem_append.mp (p.mem_iff.mp h) with h | h
  · exact h
  · exact absurd (congrArg Prod.fst (List.mem_singleton.mp h)) hz
/-! ### a dict of unlike keys -/
theorem put_new {kvs : List (Key × V)} {k : Key} {v : V} (h : ∀ kv ∈ kvs, kv.1 ≠ k) : putK kvs k v = kvs ++ [(k, v)] := by
  unfold putK
  rw [if_neg]
  intro e
  obtain ⟨kv, hm, e⟩ := List.any_eq_true.mp e
  exact h kv hm (of_decide_eq_true e)
theorem merge_new : ∀ {more kvs : List (Key × V)}, ((kvs ++ more).map Prod.fst).Nodup → mergeK kvs more = kvs ++ more
  | [], kvs, _ => (List.append_nil kvs).symm
  | kv :: more, kvs, nd => by
    show mergeK (putK kvs kv.1 kv.2) more = _
    rw [put_new fun q hq e => ?_]
    · have ih := merge_new (more := more) (kvs := kvs ++ [(kv.1, kv.2)]) (by rw [List.append_assoc]; exact nd)
      rw [ih, List.append_assoc]
      rfl
    · rw [List.map_append, List.map_cons] at nd
      have := (List.nodup_append.mp nd).2.2 q.1 (List.mem_map_of_mem hq) kv.1 List.mem_cons_self
      exact this e
theorem valV_of : ∀ {kvs : List (Key × V)} {k : Key} {v : V}, (kvs.map Prod.fst).Nodup → (k, v) ∈ kvs → valV kvs k = some v
  | [], _, _, _, h => by cases h
  | q :: kvs, k, v, nd, h => by
    rw [List.map_cons, List.nodup_cons] at nd
    unfold valV
    rw [List.find?_cons]
    rcases List.mem_cons.mp h with rfl | h
    · rw [show decide ((k, v).1 = k) = true from decide_eq_true rfl]
      rfl
    · rw [decide_eq_false (fun e : q.1 = k => nd.1 (by rw [e]; exact List.mem_map.mpr ⟨_, h, rfl⟩))]
      exact valV_of nd.2 h
end WdQ

set_option Elab.async false
set_option linter.all false
set_option maxRecDepth 100000
set_option maxHeartbeats 8000000
set_option exponentiation.threshold 5000
namespace WdQ
open PySem PySem.Spec PyProof.Rows L2 WdM Wd
theorem comes_none {K : PySem.W.Frag} {CH CY CD CP : Addr} {H : Hp} {Q : VK} {E : XK} {ho so : Addr} {m : Int} {F : List (Str × Option Str)} {D : List (Str × Int)} (home : HomeAt K CH H ho F) (tale : StoryAt K CY H so D) (m0 : -9999 ≤ m) (m1 : m ≤ 9999) (q : ∀ H', Same H H' → Q (.bl true) H') : SpCm K CH CY CD CP [.ref ho, .non, .ref so, .int m] H Q E :=
  have dy : dayB (.int m) = true := decide_eq_true ⟨m0, m1⟩
  ⟨⟨[], ho, so, .non, .int m, .none, .int m, F, D, rfl, home, tale, .non, ⟨0, trivial⟩, rfl, .int m, fun h => absurd (dy.symm.trans h) (by decide), (fun m' z _ _ h => by cases h), fun m' e _ _ H' s => by cases e; exact q H' s⟩⟩
abbrev sR5 : Stmt := topS 69
def pR5 : List Str := ["_law_pool_here", "_law_more"]
def nR5 : List Str := ["_law_pool_here", "_law_more", "_law_dawns", "_law_home_here", "_law_least", "_law_one", "_law_mate", "_law_folk", "_law_estate", "_law_deaths_here", "_law_tale", "_law_bare", "_law_turn", "_law_terms", "_law_term", "_law_alike", "_law_risen_here", "_law_k", "_law_names", "_law_other", "_law_day", "_law_others", "_law_crowd", "_law_due", "_law_some"]
theorem scR5 : FnScope nR5 pR5 (defScope sR5) := ⟨rfl, rfl, rfl, by decide +kernel, rfl, by decide +kernel, by decide +kernel⟩
theorem Bt.two {l0 l : Addr} {H H' : Hp} (b : Bt [l] H H') : Bt [l0, l] H H' := fun c x hc e => b c x (fun m => hc (List.mem_cons_of_mem _ m)) e
theorem Bt.one {l0 l : Addr} {H H' : Hp} (b : Bt [l0] H H') : Bt [l0, l] H H' := fun c x hc e => b c x (fun m => hc (by rw [List.mem_singleton.mp m]; exact List.mem_cons_self)) e
/-- a list of days -/
def Dw (l l0 : Addr) (H : Hp) (v : V) : Prop := ∃ (a : Addr) (dys : List Int), v = .ref a ∧ H a = some (.lst (dys.map V.int)) ∧ a ≠ l ∧ a ≠ l0 ∧ 1 ≤ dys.length ∧ dys.length ≤ 3 ∧ ∀ i ∈ dys, -9999 ≤ i ∧ i ≤ 9999
theorem Dw.bt {l l0 : Addr} {H H' : Hp} {v : V} (h : Dw l l0 H v) (b : Bt [l] H H') : Dw l l0 H' v := by
  obtain ⟨a, dys, e, h, n, n0, r⟩ := h
  exact ⟨a, dys, e, kept b h (by simp [n]), n, n0, r⟩
theorem Dw.same {l l0 : Addr} {H H' : Hp} {v : V} (h : Dw l l0 H v) (b : Same H H') : Dw l l0 H' v := by
  obtain ⟨a, dys, e, h, r⟩ := h
  exact ⟨a, dys, e, b _ _ h, r⟩
theorem at_back {xs : List V} (h : 1 ≤ xs.length) : ∃ v, atI xs (-1) = some v ∧ v ∈ xs := by
  have hn : xs.length - 1 < xs.length := by omega
  refine ⟨xs[xs.length - 1], ?_, List.getElem_mem hn⟩
  unfold atI ixN
  rw [if_neg (by decide), if_pos (by omega)]
  show xs[((-1 : Int) + (xs.length : Int)).toNat]? = _
  rw [show ((-1 : Int) + (xs.length : Int)).toNat = xs.length - 1 by omega]
  exact List.getElem?_eq_getElem hn
theorem cut_take {xs : List V} {k : Nat} : cutV xs none (some ((k : Nat) : Int)) = xs.take k := by
  by_cases h : k ≤ xs.length
  · exact cut_front h
  · rw [cut_whole (by omega), List.take_of_length_le (by omega)]
theorem ck_ref {K : PySem.W.Frag} {zs : List Str} {dys : List Int} {n c : Nat} {H : Hp} {v : V} (h : Ck K zs dys n c H v) : ∃ a, v = .ref a := by
  obtain ⟨d, dz, f, _⟩ := h
  cases n with
  | zero => cases f
  | succ n =>
  obtain ⟨_, _, _, _, _, rfl, _⟩ := form_shape f
  obtain ⟨a, _, e, _⟩ := dz_tup dz
  exact ⟨a, e⟩
theorem ck_list {K : PySem.W.Frag} {zs : List Str} {dys : List Int} {H : Hp} : ∀ {xs : List V}, (∀ x ∈ xs, Ck K zs dys 4 4 H x) → ∃ ds, DzAll [] K H xs ds ∧ ∀ d ∈ ds, formB 4 d = true ∧ (namesN 4 d).length ≤ 4 ∧ (∀ z ∈ namesN 4 d, z ∈ zs) ∧ ∀ i ∈ daysN 4 d, i ∈ dys
  | [], _ => ⟨[], .nil, fun _ h => (List.not_mem_nil h).elim⟩
  | x :: xs, h => by
    obtain ⟨d, h1, r⟩ := h x List.mem_cons_self
    obtain ⟨ds, h2, r2⟩ := ck_list (xs := xs) fun y hy => h y (List.mem_cons_of_mem _ hy)
    exact ⟨d :: ds, .cons h1 h2, fun e he => (List.mem_cons.mp he).elim (fun z => z ▸ r) (r2 e)⟩
theorem Tms.bt {K : PySem.W.Frag} {zs : List Str} {dys : List Int} {H H' : Hp} {l a : Addr} {xs : List V} {ds : List PyData} (h : Tms K zs dys H a xs ds) (p : PoolAt H l) (b : Bt [l] H H') (n : a ≠ l) : Tms K zs dys H' a xs ds := by
  obtain ⟨h1, h2, h3, h4⟩ := h
  refine ⟨kept b h1 (by simp [n]), dzall_of h2.len (fun i x hx => ?_), h3, h4⟩
  obtain ⟨d, hd, dz⟩ := h2.get hx
  exact ⟨d, hd, cd_tk (b.tk p.lst) (form_cd (h3 d (List.mem_of_getElem? hd)).1) dz⟩
/-- what the law has drawn -/
structure Ev (K : PySem.W.Frag) (CH : Addr) (H : Hp) (l hh ho aN aD : Addr) (F : List (Str × Option Str)) (dys : List Int) : Prop where
  pool : PoolAt H l
  hm : HmAt K H hh F
  home : HomeAt K CH H ho F
  dr : Drw H l aN aD (F.map Prod.fst) dys
theorem Ev.bt {K : PySem.W.Frag} {CH : Addr} {H H' : Hp} {l hh ho aN aD : Addr} {F : List (Str × Option Str)} {dys : List Int} (h : Ev K CH H l hh ho aN aD F dys) (b : Bt [l] H H') (p : PoolAt H' l) : Ev K CH H' l hh ho aN aD F dys :=
  ⟨p, h.hm.tk (b.tk h.pool.lst), h.home.bt h.pool b, h.dr.bt b⟩
theorem Ev.same {K : PySem.W.Frag} {CH : Addr} {H H' : Hp} {l hh ho aN aD : Addr} {F : List (Str × Option Str)} {dys : List Int} (h : Ev K CH H l hh ho aN aD F dys) (b : Same H H') : Ev K CH H' l hh ho aN aD F dys :=
  ⟨h.pool.same b, h.hm.tk (tk_same b), h.home.same b, h.dr.same b⟩
section
variable {P : Program} {w : World} {K : PySem.W.Frag} {mg : Str → Option Value} {base : Heap} {CH CY CD CP : Addr}
theorem paired_of {α β : Type} {R : α → β → Prop} : ∀ {l₁ : List α} {l₂ : List β}, l₁.length = l₂.length → (∀ (i : Nat) (a : α) (b : β), l₁[i]? = some a → l₂[i]? = some b → R a b) → Paired R l₁ l₂
  | [], [], _, _ => .nil
  | [], _ :: _, l, _ => by simp at l
  | _ :: _, [], l, _ => by simp at l
  | a :: l₁, b :: l₂, l, h => .cons (h 0 a b rfl rfl) (paired_of (by simpa using l) fun i => h (i + 1))
theorem nodup_le : ∀ {L B : List Str}, L.Nodup → (∀ z ∈ L, z ∈ B) → L.length ≤ B.length
  | [], _, _, _ => Nat.zero_le _
  | z :: L, B, nd, h => by
    obtain ⟨zn, nd⟩ := List.nodup_cons.mp nd
    have zB := h z List.mem_cons_self
    have ih := nodup_le (L := L) (B := B.erase z) nd fun y hy => (List.mem_erase_of_ne (fun e : y = z => zn (by rw [← e]; exact hy))).mpr (h y (List.mem_cons_of_mem _ hy))
    rw [List.length_erase_of_mem zB] at ih
    have := List.length_pos_of_mem zB
    rw [List.length_cons]
    omega
/-- None, or the other name -/
def tMt : TE := fun σ H Q => ∃ (aM : Addr) (o : Option Str) (ρ : Str → Str) (zs : List Str), σ[18]? = some (some (.ref aM)) ∧ σ[6]? = some (some (parV o)) ∧ NmAt H aM ρ zs ∧ (∀ y, o = some y → y ∈ zs) ∧ Q (parV (o.map ρ)) H
theorem rows_more {K : PySem.W.Frag} {α : Type} {f : α → List V} {H H' : Hp} {xs : List V} {rows : List α} {b : Addr} {r0 : α} (e : Tk H H') (h : ∀ (i : Nat) (x : V), xs[i]? = some x → ∃ (a : Addr) (r : α), x = .ref a ∧ rows[i]? = some r ∧ SqT K H a (f r)) (hb : SqT K H' b (f r0)) (h0 : rows[xs.length]? = some r0) :
    ∀ (i : Nat) (x : V), (xs ++ [V.ref b])[i]? = some x → ∃ (a : Addr) (r : α), x = .ref a ∧ rows[i]? = some r ∧ SqT K H' a (f r) := by
  intro i x hx
  by_cases hi : i < xs.length
  · rw [List.getElem?_append_left hi] at hx
    obtain ⟨a, r, e1, e2, e3⟩ := h i x hx
    exact ⟨a, r, e1, e2, e.sq e3⟩
  · have hl := lt_get hx
    rw [List.length_append] at hl
    simp only [List.length_cons, List.length_nil] at hl
    obtain rfl : i = xs.length := by omega
    rw [List.getElem?_append_right (Nat.le_refl _), Nat.sub_self] at hx
    cases hx
    exact ⟨b, r0, rfl, h0, hb⟩
def walterS : Str := "walterq"
theorem walter_nm : nmB walterS = true := by decide +kernel
theorem walter_no {z : Str} (h : Nm z) : z ≠ walterS := fun e => by
  have l := h.1.2.2
  rw [e] at l
  exact absurd l (by decide)
/-- what stands behind both looks -/
def tT5 (K : PySem.W.Frag) (CH CY : Addr) : TS := fun D σ H => ∃ (l hh oH L aD pd oY oB aT : Addr) (ts : List V) (ds : List PyData) (dys : List Int) (m : Int) (F : List (Str × Option Str)) (Dd : List (Str × Int)) (y0 : Option V),
  σ = [y0, some (.ref l), some (.ref aD), some (.ref hh), some (.int m), none, none, some (.ref L), some (.ref oH), some (.ref pd), some (.ref oY), some (.ref oB), none, some (.ref aT), none, none, none, none, none, none, none, none, none, none, none] ∧
  Ev K CH H l hh oH L aD F dys ∧ GoodF F ∧ F.length ≤ 6 ∧ Tms K (F.map Prod.fst) dys H aT ts ds ∧ aT ≠ l ∧ StoryAt K CY H oY Dd ∧ HomeAt K CH H oB F ∧ DeathsAt K H (.ref pd) Dd ∧ GoodD Dd ∧ (∀ r ∈ Dd, r.1 ∈ F.map Prod.fst) ∧ -9999 ≤ m ∧ m ≤ 9999 ∧ m ∈ dys ∧ (∀ i ∈ dys, -9999 ≤ i ∧ i ≤ 9999) ∧ dys.length ≤ 3 ∧ ∀ H', Bt [l] H H' → D.rt (.bl true) H'
def spR5 (K : PySem.W.Frag) : Sp := fun vs H Q _ => ∃ (l0 l : Addr), vs = [.ref l0, .ref l] ∧ PoolAt H l0 ∧ PoolAt H l ∧ l0 ≠ l ∧ ∀ H', Bt [l0, l] H H' → Q (.bl true) H'
theorem ok_r5 {f fT fHo fDe fCo fH fY fAw fAr fAf fRi fPl fNd fC : Addr} {fd fdT fdHo fdDe fdCo fdH fdY fdAw fdAr fdAf fdRi fdPl fdNd fdC : FuncData} {dH dY d3 : List Value} (B : Bi mg) (nS : mg "sorted" = none) (nDi : mg "dict" = none) (D : Df K mg "_law_right" sR5 f fd pR5)
    (DT : Df K mg "_law_take" sTake fT fdT ["_law_pool_here", "_law_many"]) (GT : FnOk P w K mg base CX0 14 fT fdT ["_law_pool_here", "_law_many"] spTake) (DHo : Df K mg "_law_home" sHome fHo fdHo ["_law_pool_here", "_law_most"]) (GHo : FnOk P w K mg base CX0 14 fHo fdHo ["_law_pool_here", "_law_most"] (spHome K))
    (DDe : Df K mg "_law_deaths" sDeaths fDe fdDe ["_law_pool_here", "_law_folk", "_law_dawns"]) (GDe : FnOk P w K mg base CX0 14 fDe fdDe ["_law_pool_here", "_law_folk", "_law_dawns"] (spDeaths K)) (DCo : Df K mg "_law_cond" sLc fCo fdCo pAt) (GCo : FnOk P w K mg base CX0 14 fCo fdCo pAt (spLc K))
    (MH : Mk K CH fH) (gH : mg "House" = some (.ref CH)) (GH : FnOk P w K mg base (L2.CX P w) 14 fH fdH ["self", "people", "goods", "purse", "debts"] (spHIa K CH)) (GHg : FnOk P w K mg base (L2.CX P w) 14 fH fdH ["self", "people", "goods", "purse", "debts"] (spHIg K CH)) (bH : Binds K fdH ["self", "people", "goods", "purse", "debts"] dH) (vH : Vals [.non, .int 0, .int 0] dH) (bH5 : Binds K fdH ["self", "people", "goods", "purse", "debts"] [])
    (MY : Mk K CY fY) (gY : mg "Story" = some (.ref CY)) (GY : FnOk P w K mg base (L2.CX P w) 14 fY fdY ["self", "deaths"] (spSIa K CY)) (bY : Binds K fdY ["self", "deaths"] dY) (vY : Vals [] dY)
    (DAw : Df K mg "_law_all_ways" sAw fAw fdAw pAw) (GAw : FnOk P w K mg base CX0 15 fAw fdAw pAw (spAw K CH CY)) (DAr : Df K mg "_law_atoms_right" sAr fAr fdAr pAr) (GAr : FnOk P w K mg base CX0 15 fAr fdAr pAr (spAr K CH CY)) (DAf : Df K mg "_law_as_far" sAf fAf fdAf pAf) (GAf : FnOk P w K mg base CX0 14 fAf fdAf pAf (spAf K)) (DRi : Df K mg "_law_risen" sRi fRi fdRi pRi) (GRi : FnOk P w K mg base CX0 14 fRi fdRi pRi (spRi K))
    (DPl : Df K mg "_law_plain" sPl fPl fdPl pPl) (GPl : FnOk P w K mg base CX0 14 fPl fdPl pPl (spPl K)) (DNd : Df K mg "_law_named" sNd fNd fdNd pNd) (GNd : FnOk P w K mg base CX0 14 fNd fdNd pNd (spNd K 4))
    (gC : mg "comes" = some (.ref fC)) (kC : PySem.W.keepIn K (.ref fC) = true) (GC : FnOk P w K mg base (L2.CX P w) 14 fC fdC pCo (SpCm K CH CY CD CP)) (b4 : Binds K fdC pCo []) (b3 : Binds K fdC pCo d3) (v3 : Vals [.int 0] d3) (k3 : KBn K fdC pCo 3 ["wait"] (fun us ws => us ++ ws) (fun vs zs => vs ++ zs)) :
    FnOk P w K mg base CX0 16 f fd pR5 (spR5 K) := by
  refine D.fn.ok scR5 (fun vs H Q E h => ?_) (fun cdv A outer s H vs Q E hr h => ?_)
  · obtain ⟨l0, l, rfl, _⟩ := h
    rfl
  · obtain ⟨l0, l, rfl, pool0, pool, nll, q⟩ := h
    have r14 : Room 14 _ := hr.mono (by omega)
    have hu1 : _ + 1 < cLine := Nat.lt_of_le_of_lt (Nat.add_le_add_left (by decide : 1 ≤ 64) _) hr.units
    refine ⟨_, pss_cons (ps_set (i := 2) scR5.nd rfl (.inr rfl) (pe_ix (r := rIxL K) ix_list (pe_lst (pa_cons (pe_lst (pa_cons pe_int pa_nil)) (pa_cons (pe_lst (pa_cons pe_int (pa_cons pe_int pa_nil))) (pa_cons (pe_lst (pa_cons pe_int (pa_cons pe_int (pa_cons pe_int pa_nil)))) (pa_cons (pe_lst (pa_cons (pe_op op_sub (pe_call GT r14 (by rfl) DT.mg DT.fn.kp DT.bd .nil pass0 (pa_cons (pv 1) (pa_cons pe_int pa_nil))) pe_int) pa_nil)) pa_nil))))) (pe_call GT r14 (by rfl) DT.mg DT.fn.kp DT.bd .nil pass0 (pa_cons (pv 1) (pa_cons pe_int pa_nil))) (fun _ _ => rfl)))
      (pss_cons (ps_par (i := 3) (j := 4) rfl scR5.nd rfl rfl (by decide) rfl rfl (pa_cons (pe_call GHo r14 (by rfl) DHo.mg DHo.fn.kp DHo.bd .nil pass0 (pa_cons (pv 0) (pa_cons pe_int pa_nil))) (pa_cons (pe_ix (r := rIxL K) ix_list (pv 2) (pe_call GT r14 (by rfl) DT.mg DT.fn.kp DT.bd .nil pass0 (pa_cons (pv 1) (pa_cons (pe_callB call_len_seq (by rfl) B.len PySem.boot_len (pa_cons (pv 2) pa_nil)) pa_nil))) (fun _ _ => rfl)) pa_nil)) (by rfl))
      (pss_cons (ps_asg (pe_tup (pa_cons (pe_lc (own := [("_law_one", 5), ("_law_mate", 6)]) (g := gTup K 2 (gCons (gName 5) (gCons (gName 6) gNil))) (tt := tYes) rfl scR5.nd (pi_tup (pe_ix (r := rIxT K) ix_tup (pv 3) pe_int (fun _ _ => rfl))) (blkOk_by (own := [("_law_one", 5), ("_law_mate", 6)]) (N := nR5) (sc := defScope sR5) (by decide +kernel))
            (fun _ _ _ _ _ => pg_tup rfl (pgs_cons (pg_name (i := 5) scR5.nd rfl (Or.inl rfl)) (pgs_cons (pg_name (i := 6) scR5.nd rfl (Or.inl rfl)) pgs_nil))) (fun _ _ _ _ _ => pts_nil) (fun _ _ _ _ _ => pv 5))
          (pa_cons (pe_makeS MH GHg hr (by rfl) gH bH5 .nil (fun _ => passNo) (pa_cons (pe_ix (r := rIxT K) ix_tup (pv 3) pe_int (fun _ _ => rfl)) (pa_cons (pe_ix (r := rIxT K) ix_tup (pv 3) pe_int (fun _ _ => rfl)) (pa_cons (pe_ix (r := rIxT K) ix_tup (pv 3) pe_int (fun _ _ => rfl)) (pa_cons (pe_ix (r := rIxT K) ix_tup (pv 3) pe_int (fun _ _ => rfl)) pa_nil))))) pa_nil)))
          (pg_tup rfl (pgs_cons (pg_name (i := 7) scR5.nd rfl (.inr rfl)) (pgs_cons (pg_name (i := 8) scR5.nd rfl (.inl rfl)) pgs_nil))))
      (pss_cons (ps_set (i := 9) scR5.nd rfl (.inl rfl) (pe_call GDe r14 (by rfl) DDe.mg DDe.fn.kp DDe.bd .nil pass0 (pa_cons (pv 1) (pa_cons (pv 7) (pa_cons (pv 2) pa_nil)))))
      (pss_cons (ps_par (i := 10) (j := 11) rfl scR5.nd rfl rfl (by decide) rfl rfl (pa_cons (pe_makeS MY GY hr (by rfl) gY bY vY (fun _ => passNo) (pa_cons (pv 9) pa_nil)) (pa_cons (pe_makeS MH GH hr (by rfl) gH bH vH (fun _ => passNo) (pa_cons (pe_ix (r := rIxT K) ix_tup (pv 3) pe_int (fun _ _ => rfl)) pa_nil)) pa_nil)) (by rfl))
      (pss_cons (ps_setLc (i := 13) (own := [("_law_turn", 12)]) (g := gName 12) (tt := tYes) rfl scR5.nd rfl rfl (sw_true rfl rfl rfl (by decide +kernel)) (pi_range1 (by rfl) B.range (pa_cons pe_int pa_nil)) (blkOk_by (own := [("_law_turn", 12)]) (N := nR5) (sc := defScope sR5) (by decide +kernel))
          (fun _ _ _ _ _ => pg_name (i := 12) scR5.nd rfl (Or.inl rfl)) (fun _ _ _ _ _ => pts_nil) (fun _ _ _ _ _ => pe_call GCo r14 (by rfl) DCo.mg DCo.fn.kp DCo.bd .nil pass0 (pa_cons (pv 1) (pa_cons (pv 7) (pa_cons (pv 2) pa_nil)))))
      (pss_cons (ps_set (i := 13) scR5.nd rfl (.inl rfl) (pe_slice (r := rSlL K) sl_list (pe_op op_cat (pe_lc (own := [("_law_term", 14)]) (g := gName 14) rfl scR5.nd (pi_list (pv 13)) (blkOk_by (own := [("_law_term", 14)]) (N := nR5) (sc := defScope sR5) (by decide +kernel))
            (fun _ _ _ _ _ => pg_name (i := 14) scR5.nd rfl (Or.inl rfl)) (fun _ _ _ _ _ => pts_one (pt_cmpR op_notN (pv 14) pe_non (nomark _))) (fun _ _ _ _ _ => pv 14))
          (pe_lst (pa_cons (pe_tup (pa_cons pe_str (pa_cons (pe_ix (r := rIxL K) ix_list (pv 7) pe_int (fun _ _ => rfl)) pa_nil))) (pa_cons (pe_tup (pa_cons pe_str (pa_cons (pe_ix (r := rIxL K) ix_list (pv 7) (pe_un un_neg pe_int) (fun _ _ => rfl)) pa_nil))) pa_nil)))) po_none (po_some pe_int)))
      (pss_cons (ps_if (PW.pt (pw_or (pt_not (pt_val (pe_call GAw hr (by rfl) DAw.mg DAw.fn.kp DAw.bd .nil pass0 (pa_cons (pv 8) (pa_cons (pv 13) (pa_cons (pv 10) (pa_cons (pv 4) pa_nil))))))) (pw_or1 (pt_not (pt_val (pe_call GAr hr (by rfl) DAr.mg DAr.fn.kp DAr.bd .nil pass0 (pa_cons (pv 3) (pa_cons (pv 8) (pa_cons (pv 10) (pa_cons (pv 4) pa_nil)))))))))) (pss_one (ps_ret pe_bl)) pss_nil)
      (PSs.wk (t' := tT5 K CH CY) (pss_cons (ps_par (i := 15) (j := 16) rfl scR5.nd rfl rfl (by decide) rfl rfl (pa_cons (pe_makeS MY GY hr (by rfl) gY bY vY (fun _ => passNo) (pa_cons (pe_call GAf r14 (by rfl) DAf.mg DAf.fn.kp DAf.bd .nil pass0 (pa_cons (pv 1) (pa_cons (pe_op op_cat (pv 2) (pe_lst (pa_cons (pv 4) pa_nil))) (pa_cons (pv 9) pa_nil)))) pa_nil)) (pa_cons (pe_makeS MY GY hr (by rfl) gY bY vY (fun _ => passNo) (pa_cons (pe_call GRi r14 (by rfl) DRi.mg DRi.fn.kp DRi.bd .nil pass0 (pa_cons (pv 1) (pa_cons (pv 9) pa_nil))) pa_nil)) pa_nil)) (by rfl))
      (pss_cons (ps_set (i := 18) scR5.nd rfl (.inr rfl) (pe_callTy (call_dictP rfl) (by rfl) nDi boot_dict (pa_cons (pe_lc (own := [("_law_k", 17), ("_law_one", 5)]) (g := gTup K 2 (gCons (gName 17) (gCons (gName 5) gNil))) (tt := tYes) rfl scR5.nd (pi_E .li (by rfl) B.enum (pa_cons (pv 7) pa_nil)) (blkOk_by (own := [("_law_k", 17), ("_law_one", 5)]) (N := nR5) (sc := defScope sR5) (by decide +kernel))
            (fun _ _ _ _ _ => pg_tup rfl (pgs_cons (pg_name (i := 17) scR5.nd rfl (Or.inl rfl)) (pgs_cons (pg_name (i := 5) scR5.nd rfl (Or.inl rfl)) pgs_nil))) (fun _ _ _ _ _ => pts_nil) (fun _ _ _ _ _ => pe_tup (pa_cons (pv 5) (pa_cons (pe_op op_add_str (pe_op op_add_str pe_str (pe_ix (r := rIxS) ix_str pe_str (pv 17) (fun _ _ => rfl))) pe_str) pa_nil)))) pa_nil)))
      (pss_cons (ps_set (i := 19) scR5.nd rfl (.inl rfl) (pe_makeS MH GH hr (by rfl) gH bH vH (fun _ => passNo) (pa_cons (pe_callTy call_tuple_of (by rfl) B.tuple boot_tuple (pa_cons (pe_lc (own := [("_law_one", 5), ("_law_mate", 6)]) (g := gTup K 2 (gCons (gName 5) (gCons (gName 6) gNil))) (tt := tYes) rfl scR5.nd (pi_tup (pe_ix (r := rIxT K) ix_tup (pv 3) pe_int (fun _ _ => rfl))) (blkOk_by (own := [("_law_one", 5), ("_law_mate", 6)]) (N := nR5) (sc := defScope sR5) (by decide +kernel))
            (fun _ _ _ _ _ => pg_tup rfl (pgs_cons (pg_name (i := 5) scR5.nd rfl (Or.inl rfl)) (pgs_cons (pg_name (i := 6) scR5.nd rfl (Or.inl rfl)) pgs_nil))) (fun _ _ _ _ _ => pts_nil) (fun _ _ _ _ _ => pe_tup (pa_cons (pe_dget hu1 (pv 18) (pv 5) (fun _ _ => rfl)) (pa_cons (PE.wk (t' := tMt) (pe_ifExp (pt_cmpR op_isN (pv 6) pe_non (nomark _)) pe_non (pe_dget hu1 (pv 18) (pv 6) (fun _ _ => rfl))) (by
              rintro σ H Q ⟨aM, o, ρ, zs, h18, h6, nma, oin, q⟩
              cases o with
              | none => exact ⟨_, h6, rfl, _, rfl, iteT q⟩
              | some y =>
                obtain ⟨kvs, hM, vl⟩ := nma
                exact ⟨_, h6, rfl, _, rfl, iteF ⟨_, h18, _, h6, aM, .str (ρ y), rfl, .inl ⟨kvs, .inr y, .inl hM, rfl, (vl y (oin y rfl)).1.symm⟩, q⟩⟩)) pa_nil)))) pa_nil)) pa_nil)))
      (pss_cons (ps_set (i := 21) scR5.nd rfl (.inl rfl) (pe_makeS MY GY hr (by rfl) gY bY vY (fun _ => passNo) (pa_cons (pe_callTy call_tuple_of (by rfl) B.tuple boot_tuple (pa_cons (pe_callB cr_sortedM (by rfl) nS (by decide +kernel) (pa_cons (pe_lc (own := [("_law_one", 5), ("_law_day", 20)]) (g := gTup K 2 (gCons (gName 5) (gCons (gName 20) gNil))) (tt := tYes) rfl scR5.nd (pi_tup (pv 9)) (blkOk_by (own := [("_law_one", 5), ("_law_day", 20)]) (N := nR5) (sc := defScope sR5) (by decide +kernel))
            (fun _ _ _ _ _ => pg_tup rfl (pgs_cons (pg_name (i := 5) scR5.nd rfl (Or.inl rfl)) (pgs_cons (pg_name (i := 20) scR5.nd rfl (Or.inl rfl)) pgs_nil))) (fun _ _ _ _ _ => pts_nil) (fun _ _ _ _ _ => pe_tup (pa_cons (pe_dget hu1 (pv 18) (pv 5) (fun _ _ => rfl)) (pa_cons (pv 20) pa_nil)))) pa_nil)) pa_nil)) pa_nil)))
      (pss_cons (ps_set (i := 22) scR5.nd rfl (.inl rfl) (pe_makeS MY GY hr (by rfl) gY bY vY (fun _ => passNo) (pa_cons (pe_callTy call_tuple_of (by rfl) B.tuple boot_tuple (pa_cons (pe_callB cr_sortedM (by rfl) nS (by decide +kernel) (pa_cons (pe_op op_catA (pv 9) (pe_tup (pa_cons (pe_tup (pa_cons pe_str (pa_cons (pe_un un_neg pe_int) pa_nil))) pa_nil))) pa_nil)) pa_nil)) pa_nil)))
      (pss_cons (ps_for PassesOwn.never rfl (pi_list (pv 13)) (pg_name (i := 14) scR5.nd rfl (.inl rfl))
        (pss_cons (ps_set (i := 23) scR5.nd rfl (.inl rfl) (pe_call GC r14 (by rfl) gC kC b4 .nil passNoP (pa_cons (pv 8) (pa_cons (pv 14) (pa_cons (pv 10) (pa_cons (pv 4) pa_nil))))))
        (pss_cons (ps_set (i := 24) scR5.nd rfl (.inl rfl) (pe_lst (pa_cons (pe_call GC r14 (by rfl) gC kC b4 .nil passNoP (pa_cons (pv 8) (pa_cons (pv 14) (pa_cons (pv 15) (pa_cons (pv 4) pa_nil))))) (pa_cons (pe_call GC r14 (by rfl) gC kC b4 .nil passNoP (pa_cons (pv 11) (pa_cons (pv 14) (pa_cons (pv 10) (pa_cons (pv 4) pa_nil))))) pa_nil))))
        (pss_cons (ps_set (i := 24) scR5.nd rfl (.inl rfl) (pe_op op_cat (pv 24) (pe_lst (pa_cons (pe_callN GC r14 (by rfl) gC kC k3 passNoP (pa_cons (pv 8) (pa_cons (pv 14) (pa_cons (pv 22) pa_nil))) (pk_cons (pv 4) pk_nil)) (pa_cons (pe_call GC r14 (by rfl) gC kC b4 .nil passNoP (pa_cons (pv 19) (pa_cons (pe_call GNd r14 (by rfl) DNd.mg DNd.fn.kp DNd.bd .nil pass0 (pa_cons (pv 14) (pa_cons (pv 18) pa_nil))) (pa_cons (pv 21) (pa_cons (pv 4) pa_nil))))) pa_nil)))))
        (pss_one (ps_if (pt_cmpR (op_neD hr.units) (pv 24) (pe_op op_rep (pe_lst (pa_cons (pv 23) pa_nil)) pe_int) (nomark _)) (pss_one (ps_ret pe_bl)) pss_nil))))))
      (pss_cons (ps_for PassesOwn.never rfl (pi_list (pe_call GPl r14 (by rfl) DPl.mg DPl.fn.kp DPl.bd .nil pass0 (pa_cons (pv 1) (pa_cons (pv 7) (pa_cons (pv 2) pa_nil))))) (pg_name (i := 14) scR5.nd rfl (.inl rfl))
        (pss_one (ps_if (PW.pt (pw_and (pt_val (pe_call GC r14 (by rfl) gC kC b4 .nil passNoP (pa_cons (pv 8) (pa_cons (pv 14) (pa_cons (pv 10) (pa_cons (pv 4) pa_nil)))))) (pw_and1 (pt_not (pt_val (pe_call GC r14 (by rfl) gC kC b4 .nil passNoP (pa_cons (pv 8) (pa_cons (pv 14) (pa_cons (pv 16) (pa_cons (pv 4) pa_nil)))))))))) (pss_one (ps_ret pe_bl)) pss_nil)))
      (pss_one (ps_ret (pe_and (pe_cmpR op_isBl (pe_call GC r14 (by rfl) gC kC b4 .nil passNoP (pa_cons (pv 8) (pa_cons pe_non (pa_cons (pv 10) (pa_cons (pv 4) pa_nil))))) pe_bl (nomark _)) (pe_one (pe_cmpR op_isBl (pe_call GC r14 (by rfl) gC kC b3 v3 passNoP (pa_cons (pv 8) (pa_cons pe_non (pa_cons (pv 10) pa_nil)))) pe_bl (nomark _))))))))))))) (by
        rintro D σ H ⟨l, hh, oH, L, aD, pd, oY, oB, aT, ts, ds, dys, m, F, Dd, y0, rfl, ev, gf, f6, tms, nTl, tale, bare, dh, gd, din, m0, m1, mdy, dyb, dl3, q⟩
        -- the story with the same days outlived, the one with more
        obtain ⟨hN, hD, nNl, nDl, zn, _, z1, dl1⟩ := id ev.dr
        refine ⟨_, rfl, _, rfl, _, rfl, by show 1 ≤ sizeLine; decide, fun p1 n1 => ?_⟩
        have h1 : (upd H p1 (.lst [.int m])) p1 = some (.lst [.int m]) := upd_same
        have s1 : Same H (upd H p1 (.lst [.int m])) := same_new n1
        revert h1 s1
        generalize upd H p1 (.lst [.int m]) = G1
        intro h1 s1
        refine ⟨aD, p1, _, _, rfl, rfl, s1 _ _ hD, h1, by rw [List.length_map]; show dys.length + 1 ≤ sizeLine; exact Nat.le_trans (show _ ≤ 4 by omega) (by decide), fun p2 n2 => ?_⟩
        have h2 : (upd G1 p2 (.lst (dys.map V.int ++ [.int m]))) p2 = some (.lst ((dys ++ [m]).map V.int)) := by
          rw [List.map_append]
          exact upd_same
        have s2 : Same H (upd G1 p2 (.lst (dys.map V.int ++ [.int m]))) := s1.trans (same_new n2)
        have n2l : p2 ≠ l := fun e => (ev.pool.same s1).ne n2 e.symm
        revert h2 s2
        generalize upd G1 p2 (.lst (dys.map V.int ++ [.int m])) = G2
        intro h2 s2
        refine ⟨_, rfl, l, p2, .ref pd, dys ++ [m], Dd, rfl, ev.pool.same s2, h2, n2l, by rw [List.length_append]; show dys.length + 1 ≤ 100; omega, dh.tk (tk_same s2), gd, fun H3 pa Da b3 p3 dha gda alike => ?_⟩
        have b03 : Bt [l] H H3 := (Bt.of_same s2).trans b3
        refine fun oA dxA nA ndA neA => ⟨oA, dxA, .ref pa, Da, rfl, upd_same, .inr (dha.tk ((tk_new ndA).trans (tk_new (by rw [upd_ne neA.symm]; exact nA)))), gda, fun H4 bA4 taleA => ?_⟩
        have s4 : Same H3 H4 := same_made nA ndA bA4
        have b04 := b03.trans (Bt.of_same s4)
        have p4 := p3.same s4
        refine ⟨rfl, _, rfl, _, rfl, l, .ref pd, Dd, rfl, p4, dh.tk (b04.tk ev.pool.lst), gd, fun H5 pr Dr b5 p5 dhr gdr lon => ?_⟩
        refine fun oR dxR nR ndR neR => ⟨oR, dxR, .ref pr, Dr, rfl, upd_same, .inr (dhr.tk ((tk_new ndR).trans (tk_new (by rw [upd_ne neR.symm]; exact nR)))), gdr, fun H6 bR6 taleR => ⟨rfl, _, _, rfl, ?_⟩⟩
        have s6 : Same H5 H6 := same_made nR ndR bR6
        have b46 : Bt [l] H4 H6 := b5.trans (Bt.of_same s6)
        have b06 := b04.trans b46
        have ev6 := ev.bt b06 (p5.same s6)
        have tms6 := tms.bt ev.pool b06 nTl
        have tale6 := tale.bt ev.pool b06
        have bare6 := bare.bt ev.pool b06
        have dh6 := dh.tk (b06.tk ev.pool.lst)
        have taleA6 := taleA.bt p4 b46
        have q6 : ∀ H', Bt [l] H6 H' → D.rt (.bl true) H' := fun H' b => q H' (b06.trans b)
        clear h1 h2 s1 s2 n1 n2 n2l dha dhr b03 b04 b3 b5 b46 p3 p4 p5 s4 s6 bA4 bR6 nA ndA neA nR ndR neR taleA ev tms tale bare dh q b06 hN hD
        obtain ⟨hN6, hD6, _, _, _, _, _, _⟩ := id ev6.dr
        have fl6 : (F.map Prod.fst).length ≤ 6 := by rw [List.length_map]; exact f6
        have fl8 : (F.map Prod.fst).length ≤ 8 := by omega
        have fnd := gf.nd
        -- the other names
        refine ⟨_, rfl, L, _, rfl, sqL hN6, fun L3 nL3 => lc_it (walkE (K := K) (k := .li) (a := L) (xs := (F.map Prod.fst).map V.str)) (fun j H' => (∃ ps : List Addr, H' L3 = some (.lst (ps.map V.ref)) ∧ ps.length = j ∧ ∀ (i : Nat) (p : Addr), ps[i]? = some p → ∃ z, (F.map Prod.fst)[i]? = some z ∧ SqT K H' p [.str z, .str (rzS i)]) ∧ Same H6 H') ⟨⟨[], upd_same, rfl, fun i p h => by simp at h⟩, same_new nL3⟩ (fun j H' _ h => sqL (h.2 _ _ hN6)) ?_ ?_⟩
        · rintro j x H7 H8 hj ⟨⟨ps, hL3, pl, hp⟩, s7⟩ ⟨T, _, y, rfl, nT, rfl, ei, hy⟩
          cases ei
          have hy : ((F.map Prod.fst).map V.str)[j]? = some y := hy
          obtain ⟨z, hz, rfl⟩ : ∃ z, (F.map Prod.fst)[j]? = some z ∧ y = .str z := by
            rw [List.getElem?_map] at hy
            cases hc : (F.map Prod.fst)[j]? with
            | none => rw [hc] at hy; cases hy
            | some y => rw [hc] at hy; cases hy; exact ⟨y, rfl, rfl⟩
          have jl := lt_get hz
          have g8 : SqT K (upd H7 T (.tup [.int (j : Nat), .str z])) T [.int (j : Nat), .str z] := sqT upd_same
          have s8 : Same H7 (upd H7 T (.tup [.int (j : Nat), .str z])) := same_new nT
          revert g8 s8
          generalize upd H7 T (.tup [.int (j : Nat), .str z]) = H8
          intro g8 s8
          have hc : atI ("abcdefgh" : Str).cps.toList ((j : Nat) : Int) = some (97 + j) := by
            have all : ∀ i : Fin 8, atI ("abcdefgh" : Str).cps.toList ((i.val : Nat) : Int) = some (97 + i.val) := by decide +kernel
            exact all ⟨j, by omega⟩
          refine ⟨T, _, rfl, g8, rfl, _, _, rfl, _, _, rfl, rfl, rfl, tyes (iteT ⟨_, rfl, _, rfl, "abcdefgh", _, 97 + j, rfl, rfl, by show 8 ≤ sizeLine; decide, hc, "n", ⟨#[97 + j]⟩, rfl, rfl, by show 1 + 1 ≤ sizeLine; decide, "n" ++ ⟨#[97 + j]⟩, "q", rfl, rfl, by show 2 + 1 ≤ sizeLine; decide, by show 2 ≤ sizeLine; decide, fun tp ntp => ?_⟩)⟩
          have hL9 : (upd H8 tp (.tup [.str z, .str (rzS j)])) L3 = some (.lst (ps.map V.ref)) := same_new ntp _ _ (s8 _ _ hL3)
          refine ⟨ps.map V.ref, hL9, ?_, ⟨ps ++ [tp], ?_, ?_, fun i p hpi => ?_⟩, ((Bt.of_same (S := []) ((s7.trans s8).trans (same_new ntp))).upd0 nL3).same⟩
          · rw [List.length_map, pl]
            exact small1000 (by omega)
          · rw [upd_same, List.map_append]
            rfl
          · rw [List.length_append, pl]
            rfl
          · have tk9 : Tk H7 (upd (upd H8 tp (.tup [.str z, .str (rzS j)])) L3 (.lst (ps.map V.ref ++ [.ref tp]))) := ((tk_same s8).trans (tk_new ntp)).trans (tk_lst hL9)
            by_cases hi : i < ps.length
            · rw [List.getElem?_append_left hi] at hpi
              obtain ⟨z', hz', sq⟩ := hp i p hpi
              exact ⟨z', hz', tk9.sq sq⟩
            · have hl := lt_get hpi
              rw [List.length_append] at hl
              simp only [List.length_cons, List.length_nil] at hl
              obtain rfl : i = ps.length := by omega
              rw [List.getElem?_append_right (Nat.le_refl _), Nat.sub_self] at hpi
              cases hpi
              rw [pl]
              exact ⟨z, hz, (tk_lst hL9).sq (sqT upd_same)⟩
        rintro H7 ⟨⟨ps, hL3, pl, hp⟩, s7⟩
        rw [List.length_map] at pl
        refine ⟨L3, ps, (F.map Prod.fst).map (fun z => ((Sum.inr z : Key), V.str (rhoS (F.map Prod.fst) z))), rfl, sqL hL3, paired_of (by rw [List.length_map]; exact pl) (fun i p kv hpi hkv => ?_), fun aM nM => ?_⟩
        · obtain ⟨z, hz, sq⟩ := hp i p hpi
          rw [List.getElem?_map, hz] at hkv
          cases hkv
          show SqT K H7 p [.str z, .str (rhoS (F.map Prod.fst) z)]
          rw [rho_at fnd hz]
          exact sq
        have knd : (([] ++ (F.map Prod.fst).map (fun z => ((Sum.inr z : Key), V.str (rhoS (F.map Prod.fst) z)))).map Prod.fst).Nodup := by
          rw [List.nil_append, List.map_map]
          exact nodup_map_on (fun x _ y _ e => Sum.inr.inj e) fnd
        rw [merge_new knd]
        have nma8 : NmAt (upd H7 aM (.dK ([] ++ (F.map Prod.fst).map (fun z => ((Sum.inr z : Key), V.str (rhoS (F.map Prod.fst) z)))))) aM (rhoS (F.map Prod.fst)) (F.map Prod.fst) := ⟨_, upd_same, fun z hz => ⟨valV_of knd (List.mem_map.mpr ⟨z, hz, rfl⟩), (rho_nm fl8 hz).name⟩⟩
        have s8 : Same H6 (upd H7 aM (.dK ([] ++ (F.map Prod.fst).map (fun z => ((Sum.inr z : Key), V.str (rhoS (F.map Prod.fst) z)))))) := s7.trans (same_new nM)
        revert nma8 s8
        generalize upd H7 aM (.dK ([] ++ (F.map Prod.fst).map (fun z => ((Sum.inr z : Key), V.str (rhoS (F.map Prod.fst) z))))) = H8
        intro nma8 s8
        have ev8 := ev6.same s8
        clear hL3 hp pl s7 nM knd nL3 hN6 hD6
        -- the house of the other names
        obtain ⟨tp, gg8, pp8, dd8, hhq8, fk8, _, _⟩ := id ev8.hm
        obtain ⟨_, xs, e, hT8, xl, hx8⟩ := id fk8
        cases e
        refine ⟨_, rfl, hh, _, 0, _, rfl, rfl, hhq8, rfl, tp, rfl, ⟨_, hT8⟩, fun L4 nL4 => lc_tup (K := K) (a := tp) (xs := xs) (fun j H' => (∃ ys : List V, H' L4 = some (.lst ys) ∧ ys.length = j ∧ ∀ (i : Nat) (x : V), ys[i]? = some x → ∃ (a : Addr) (r : Str × Option Str), x = .ref a ∧ (F.map (renF (rhoS (F.map Prod.fst))))[i]? = some r ∧ SqT K H' a (rowF r)) ∧ Same H8 H') ⟨⟨[], upd_same, rfl, fun i x h => by simp at h⟩, same_new nL4⟩ (fun j H' _ h => (tk_same h.2).sq hT8) ?_ ?_⟩
        · rintro j x H9 hx9 ⟨⟨ys, hL4, yl, hy⟩, s9⟩
          obtain ⟨ra, r, rfl, hr9, hra⟩ := hx8 j x hx9
          have jl := lt_get hr9
          have rF := List.mem_of_getElem? hr9
          obtain ⟨kvs, hM9, vl9⟩ := nma8.same s9
          refine ⟨ra, _, rfl, (tk_same s9).sq hra, rfl, _, _, rfl, _, _, rfl, rfl, rfl, tyes (iteT ⟨_, rfl, _, rfl, aM, .str (rhoS (F.map Prod.fst) r.1), rfl, .inl ⟨kvs, .inr r.1, .inl hM9, rfl, (vl9 r.1 (List.mem_map_of_mem rF)).1.symm⟩, aM, r.2, rhoS (F.map Prod.fst), F.map Prod.fst, rfl, rfl, nma8.same s9, fun y ey => par_in gf rF ey, by show 2 ≤ sizeLine; decide, fun tq ntq => ?_⟩)⟩
          have hL5 : (upd H9 tq (.tup [.str (rhoS (F.map Prod.fst) r.1), parV (r.2.map (rhoS (F.map Prod.fst)))])) L4 = some (.lst ys) := same_new ntq _ _ hL4
          refine ⟨ys, hL5, by rw [yl]; exact small1000 (by omega), ⟨ys ++ [.ref tq], upd_same, by rw [List.length_append, yl]; rfl, rows_more (f := rowF) (r0 := renF (rhoS (F.map Prod.fst)) r) ((tk_new ntq).trans (tk_lst hL5)) hy ((tk_lst hL5).sq (sqT upd_same)) (by rw [yl, List.getElem?_map, hr9]; rfl)⟩, ((Bt.of_same (S := []) (s9.trans (same_new ntq))).upd0 nL4).same⟩
        rintro H9 ⟨⟨ys, hL4, yl, hy⟩, s9⟩
        refine ⟨L4, ys, rfl, .inl ⟨sqL hL4, fun tq ntq => fun oO dxO nO ndO neO => ⟨oO, dxO, .ref tq, F.map (renF (rhoS (F.map Prod.fst))), rfl, upd_same, ⟨tq, ys, rfl, ?_, by rw [List.length_map]; omega, ?_⟩, ren_good gf, fun H10 bO homeO => ⟨rfl, ?_⟩⟩⟩⟩
        · exact (tk_new (by rw [upd_ne neO.symm]; exact nO)).sq ((tk_new ndO).sq (sqT upd_same))
        · exact rows_tk (f := rowF) (tk_new (by rw [upd_ne neO.symm]; exact nO)) (rows_tk (f := rowF) (tk_new ndO) (rows_tk (f := rowF) (tk_new ntq) hy))
        have s10 : Same H8 H10 := (s9.trans (same_new ntq)).trans (same_made nO ndO bO)
        have ev10 := ev8.same s10
        have nma10 := nma8.same s10
        have s610 := s8.trans s10
        have dh10 := dh6.tk (tk_same s610)
        clear hL4 hy yl s9 ntq nO ndO neO bO nL4 hhq8 fk8 hT8 hx8 xl ev8 nma8 s10 s8
        -- the story of the other names
        obtain ⟨_, xD, e, hT10, xlD, hxD⟩ := id dh10
        cases e
        have d8 := gd.l8
        have ndD := nodup_good gd
        have ndR : ((Dd.map (renD (rhoS (F.map Prod.fst)))).map Prod.fst).Nodup := by
          rw [List.map_map, show (Prod.fst ∘ renD (rhoS (F.map Prod.fst))) = (rhoS (F.map Prod.fst) ∘ Prod.fst) from rfl, ← List.map_map]
          refine nodup_map_on (fun x hx y hy h => ?_) ndD
          obtain ⟨r, hr, rfl⟩ := List.mem_map.mp hx
          obtain ⟨q, hq, rfl⟩ := List.mem_map.mp hy
          exact rho_inj fl8 (din r hr) (din q hq) h
        refine ⟨_, rfl, pd, rfl, ⟨_, hT10⟩, fun L5 nL5 => lc_tup (K := K) (a := pd) (xs := xD) (fun j H' => (∃ ys : List V, H' L5 = some (.lst ys) ∧ ys.length = j ∧ ∀ (i : Nat) (x : V), ys[i]? = some x → ∃ (a : Addr) (r : Str × Int), x = .ref a ∧ (Dd.map (renD (rhoS (F.map Prod.fst))))[i]? = some r ∧ SqT K H' a (rowD r)) ∧ Same H10 H') ⟨⟨[], upd_same, rfl, fun i x h => by simp at h⟩, same_new nL5⟩ (fun j H' _ h => (tk_same h.2).sq hT10) ?_ ?_⟩
        · rintro j x H11 hx11 ⟨⟨ys, hL5, yl, hy⟩, s11⟩
          obtain ⟨ra, r, rfl, hr11, hra⟩ := hxD j x hx11
          have jl := lt_get hr11
          obtain ⟨kvs, hM11, vl11⟩ := nma10.same s11
          refine ⟨ra, _, rfl, (tk_same s11).sq hra, rfl, _, _, rfl, _, _, rfl, rfl, rfl, tyes (iteT ⟨_, rfl, _, rfl, aM, .str (rhoS (F.map Prod.fst) r.1), rfl, .inl ⟨kvs, .inr r.1, .inl hM11, rfl, (vl11 r.1 (din r (List.mem_of_getElem? hr11))).1.symm⟩, _, rfl, by show 2 ≤ sizeLine; decide, fun tq ntq => ?_⟩)⟩
          have hL6 : (upd H11 tq (.tup [.str (rhoS (F.map Prod.fst) r.1), .int r.2])) L5 = some (.lst ys) := same_new ntq _ _ hL5
          refine ⟨ys, hL6, by rw [yl]; exact small1000 (by omega), ⟨ys ++ [.ref tq], upd_same, by rw [List.length_append, yl]; rfl, rows_more (f := rowD) (r0 := renD (rhoS (F.map Prod.fst)) r) ((tk_new ntq).trans (tk_lst hL6)) hy ((tk_lst hL6).sq (sqT upd_same)) (by rw [yl, List.getElem?_map, hr11]; rfl)⟩, ((Bt.of_same (S := []) (s11.trans (same_new ntq))).upd0 nL5).same⟩
        rintro H11 ⟨⟨ys, hL5, yl, hy⟩, s11⟩
        refine ⟨L5, ys, Dd.map (renD (rhoS (F.map Prod.fst))), rfl, .inl (sqL hL5), by rw [List.length_map]; omega, hy, ndR, fun zs' Do p12 hzl pm srt hz n12 => ?_⟩
        have gdo : GoodD Do := good_sorted pm srt ndR (by rw [List.length_map]; exact d8) (fun r hr => by
          obtain ⟨q, hq, rfl⟩ := List.mem_map.mp hr
          have := rho_nm fl8 (din q hq)
          exact ⟨this.name, by have := this.1.2.2; show (rhoS (F.map Prod.fst) q.1).length ≤ 1000; omega⟩) (fun r hr => by
          obtain ⟨q, hq, rfl⟩ := List.mem_map.mp hr
          exact gd.dy q hq)
        refine ⟨p12, zs', rfl, .inl ⟨sqL upd_same, fun tq ntq => fun oS dxS nS' ndS neS => ⟨oS, dxS, .ref tq, Do, rfl, upd_same, .inr ⟨tq, zs', rfl, ?_, hzl, ?_⟩, gdo, fun H13 bS taleS => ⟨rfl, ?_⟩⟩⟩⟩
        · exact (tk_new (by rw [upd_ne neS.symm]; exact nS')).sq ((tk_new ndS).sq (sqT upd_same))
        · exact rows_tk (f := rowD) (tk_new (by rw [upd_ne neS.symm]; exact nS')) (rows_tk (f := rowD) (tk_new ndS) (rows_tk (f := rowD) (tk_new ntq) (rows_tk (f := rowD) (tk_new n12) hz)))
        have s13 : Same H10 H13 := ((s11.trans (same_new n12)).trans (same_new ntq)).trans (same_made nS' ndS bS)
        have s613 := s610.trans s13
        have homeO13 := homeO.same s13
        have nma13 := nma10.same s13
        have dh13 := dh10.tk (tk_same s13)
        have hT13 := (tk_same s13).sq hT10
        have ren := ren_of gf gd din pm
        clear hL5 hy yl s11 hz hzl srt n12 ntq nS' ndS neS bS nL5 ev10 s610 dh10 hT10 hxD homeO nma10 s13
        -- the story with a stranger
        obtain ⟨_, xE, e, hTE, xlE, hxE⟩ := dh13
        cases e
        refine ⟨_, rfl, 5, rfl, by show 2 ≤ sizeLine; decide, fun t1 n1 => ?_⟩
        have g14 : SqT K (upd H13 t1 (.tup [.str "walterq", .int (-5)])) t1 (rowD (walterS, -5)) := sqT upd_same
        have s14 : Same H13 (upd H13 t1 (.tup [.str "walterq", .int (-5)])) := same_new n1
        revert g14 s14
        generalize upd H13 t1 (.tup [.str "walterq", .int (-5)]) = H14
        intro g14 s14
        have nms : ∀ z ∈ F.map Prod.fst, Nm z := fun z hz => by
          obtain ⟨r, hr, rfl⟩ := List.mem_map.mp hz
          exact gf.nm r hr
        have nw : walterS ∉ Dd.map Prod.fst := fun h => by
          obtain ⟨r, hr, e⟩ := List.mem_map.mp h
          exact walter_no (nms _ (din r hr)) e
        have d6 : Dd.length ≤ 6 := by
          have := nodup_le ndD (B := F.map Prod.fst) fun z hz => by
            obtain ⟨r, hr, rfl⟩ := List.mem_map.mp hz
            exact din r hr
          rw [List.length_map] at this
          omega
        have ndW : ((Dd ++ [(walterS, (-5 : Int))]).map Prod.fst).Nodup := by
          rw [List.map_append]
          refine List.nodup_append.mpr ⟨ndD, by simp, fun a ha b hb e => ?_⟩
          rw [List.mem_singleton.mp (show b ∈ [walterS] from hb)] at e
          exact nw (e ▸ ha)
        refine ⟨by show 1 ≤ sizeLine; decide, fun t2 n2 => ?_⟩
        refine cat_tup ((tk_new n2).sq ((tk_same s14).sq hTE)) (sqT upd_same) (by show xE.length + 1 ≤ 100; omega) fun pc H15 s15 qc => ?_
        have s1415 : Same H14 H15 := (same_new n2).trans s15
        have hx15 := rows_snoc (f := rowD) (r0 := (walterS, (-5 : Int))) xlE (rows_tk (f := rowD) (tk_same (s14.trans s1415)) hxE) ((tk_same s1415).sq g14)
        refine ⟨pc, xE ++ [.ref t1], Dd ++ [(walterS, -5)], rfl, .inr qc, by rw [List.length_append, List.length_append, xlE]; rfl, hx15, ndW, fun zs' Dc p16 hzl pmc srt hz n16 => ?_⟩
        have gdc : GoodD Dc := good_sorted pmc srt ndW (by rw [List.length_append]; show Dd.length + 1 ≤ 8; omega) (fun r hr => by
          rcases List.mem_append.mp hr with h | h
          · exact gd.nm r h
          · rw [List.mem_singleton.mp h]
            exact ⟨walter_nm, by decide⟩) (fun r hr => by
          rcases List.mem_append.mp hr with h | h
          · exact gd.dy r h
          · rw [List.mem_singleton.mp h]
            exact ⟨by decide, by decide⟩)
        refine ⟨p16, zs', rfl, .inl ⟨sqL upd_same, fun tq ntq => fun oC dxC nC ndC neC => ⟨oC, dxC, .ref tq, Dc, rfl, upd_same, .inr ⟨tq, zs', rfl, ?_, hzl, ?_⟩, gdc, fun H17 bC taleC => ⟨rfl, ?_⟩⟩⟩⟩
        · exact (tk_new (by rw [upd_ne neC.symm]; exact nC)).sq ((tk_new ndC).sq (sqT upd_same))
        · exact rows_tk (f := rowD) (tk_new (by rw [upd_ne neC.symm]; exact nC)) (rows_tk (f := rowD) (tk_new ndC) (rows_tk (f := rowD) (tk_new ntq) (rows_tk (f := rowD) (tk_new n16) hz)))
        have s17 : Same H13 H17 := (((s14.trans s1415).trans (same_new n16)).trans (same_new ntq)).trans (same_made nC ndC bC)
        have s617 := s613.trans s17
        have ev17 := ev6.same s617
        have tms17 := tms6.same s617
        have tale17 := tale6.same s617
        have bare17 := bare6.same s617
        have taleA17 := taleA6.same s617
        have taleR17 := taleR.same s617
        have homeO17 := homeO13.same s17
        have taleS17 := taleS.same s17
        have nma17 := nma13.same s17
        have alC : ∀ z ∈ F.map Prod.fst, ∀ t, aliveB Dc z t = aliveB Dd z t := fun z hz t => crowd_al gd pmc nw (walter_no (nms z hz)) t
        have alA : ∀ z ∈ F.map Prod.fst, ∀ t, t ∈ dys ++ [m] → aliveB Da z t = aliveB Dd z t := fun z _ t ht => alive_alike ht z alike
        have q17 : ∀ H', Bt [l] H17 H' → D.rt (.bl true) H' := fun H' b => q6 H' ((Bt.of_same s617).trans b)
        clear hx15 hz hzl srt n16 ntq nC ndC neC bC s14 s15 s1415 qc n1 n2 g14 hTE hxE s17 ev6 tms6 tale6 bare6 taleA6 taleR homeO13 taleS nma13 s617 s613 q6 hT13
        obtain ⟨hTT, dzT, tprop, tl2, tl3⟩ := id tms17
        refine ⟨_, rfl, aT, rfl, ⟨_, sqL hTT⟩, for_list (K := K) (a := aT) (xs := ts) (fun i σ H' => (∃ y14 y23 y24 : Option V, σ = [y0, some (.ref l), some (.ref aD), some (.ref hh), some (.int m), none, none, some (.ref L), some (.ref oH), some (.ref pd), some (.ref oY), some (.ref oB), none, some (.ref aT), y14, some (.ref oA), some (.ref oR), none, some (.ref aM), some (.ref oO), none, some (.ref oS), some (.ref oC), y23, y24]) ∧ Same H17 H') ⟨⟨none, none, none, rfl⟩, Same.refl _⟩ (fun i σ H' _ h => sqL (h.2 _ _ hTT)) ?_ ?_⟩
        · rintro i x σ H18 hx18 ⟨⟨y14, y23, y24, rfl⟩, s18⟩
          obtain ⟨d, hd, dzx⟩ := dzT.get hx18
          obtain ⟨f4, l4, i4, dy4⟩ := tprop d (List.mem_of_getElem? hd)
          obtain ⟨b, hb⟩ : ∃ b, comeN F Dd m 4 d = b := ⟨_, rfl⟩
          have v4 : Val F Dd m 4 4 d b := ⟨f4, l4, i4, hb⟩
          have v6 := v4.mono (n' := 6) (c' := 12) (by decide) (by decide)
          have vA : Val F Da m 6 12 d b := Val.mono (n := 4) (c := 4) ⟨f4, l4, i4, by
            rw [come_eq f4 i4 fun z hz t ht => alA z hz t (ht.elim (fun e => by rw [e]; simp) fun h => List.mem_append_left _ (dy4 t h))]
            exact hb⟩ (by decide) (by decide)
          have vC : Val F Dc m 6 12 d b := Val.mono (n := 4) (c := 4) ⟨f4, l4, i4, by
            rw [come_eq f4 i4 fun z hz t _ => alC z hz t]
            exact hb⟩ (by decide) (by decide)
          have vO := (ren_val ren v4).mono (n' := 6) (c' := 12) (by decide) (by decide)
          refine ⟨_, rfl, _, rfl, _, rfl, _, rfl, comes_go (ev17.home.same s18) (tale17.same s18) (dzx.same s18) v6 m0 m1 fun H19 s19 => ?_⟩
          have t19 := s18.trans s19
          refine ⟨_, rfl, _, rfl, _, rfl, _, rfl, comes_go (ev17.home.same t19) (taleA17.same t19) (dzx.same t19) vA m0 m1 fun H20 s20 => ?_⟩
          have t20 := t19.trans s20
          refine ⟨_, rfl, _, rfl, _, rfl, _, rfl, comes_go (bare17.same t20) (tale17.same t20) (dzx.same t20) v6 m0 m1 fun H21 s21 => ⟨by show 2 ≤ sizeLine; decide, fun p22 n22 => ?_⟩⟩
          have h22 : (upd H21 p22 (.lst [.bl b, .bl b])) p22 = some (.lst [.bl b, .bl b]) := upd_same
          have t22 : Same H17 (upd H21 p22 (.lst [.bl b, .bl b])) := (t20.trans s21).trans (same_new n22)
          revert h22 t22
          generalize upd H21 p22 (.lst [.bl b, .bl b]) = H22
          intro h22 t22
          refine ⟨_, rfl, _, rfl, _, rfl, _, rfl, _, rfl, rfl, rfl, comes_go (ev17.home.same t22) (taleC.same (Same.refl _) |>.same t22) (dzx.same t22) vC m0 m1 fun H23 s23 => ?_⟩
          have t23 := t22.trans s23
          refine ⟨_, rfl, _, rfl, _, rfl, aM, x, d, rhoS (F.map Prod.fst), F.map Prod.fst, rfl, dzx.same t23, f4, i4, nma17.same t23, fun H24 v24 s24 dz24 => ?_⟩
          have t24 := t23.trans s24
          refine ⟨_, rfl, _, rfl, comes_go (homeO17.same t24) (taleS17.same t24) dz24 vO m0 m1 fun H25 s25 => ⟨by show 2 ≤ sizeLine; decide, fun p26 n26 => ?_⟩⟩
          have s2226 : Same H22 (upd H25 p26 (.lst [.bl b, .bl b])) := ((s23.trans s24).trans s25).trans (same_new n26)
          refine ⟨p22, p26, _, _, rfl, rfl, s2226 _ _ h22, upd_same, by show 2 + 2 ≤ sizeLine; decide, fun p27 n27 => ?_⟩
          have h27 : (upd (upd H25 p26 (.lst [.bl b, .bl b])) p27 (.lst ([.bl b, .bl b] ++ [.bl b, .bl b]))) p27 = some (.lst [.bl b, .bl b, .bl b, .bl b]) := upd_same
          have t27 : Same H17 (upd (upd H25 p26 (.lst [.bl b, .bl b])) p27 (.lst ([.bl b, .bl b] ++ [.bl b, .bl b]))) := (t22.trans s2226).trans (same_new n27)
          revert h27 t27
          generalize upd (upd H25 p26 (.lst [.bl b, .bl b])) p27 (.lst ([.bl b, .bl b] ++ [.bl b, .bl b])) = H27
          intro h27 t27
          refine ⟨_, rfl, _, rfl, by show 1 ≤ sizeLine; decide, fun p28 n28 => ⟨p28, 4, _, rfl, rfl, upd_same, by decide, by decide, by show 1 * 4 ≤ sizeLine; decide, fun p29 n29 => ?_⟩⟩
          have s29 : Same H27 (upd (upd H27 p28 (.lst [.bl b])) p29 (.lst (List.replicate (4 : Int).toNat [V.bl b]).flatten)) := (same_new n28).trans (same_new n29)
          refine ⟨.list [.bool b, .bool b, .bool b, .bool b], .list [.bool b, .bool b, .bool b, .bool b], .lst (sqL (s29 _ _ h27)) (.cons (.bl _) (.cons (.bl _) (.cons (.bl _) (.cons (.bl _) .nil)))), .lst (sqL upd_same) (.cons (.bl _) (.cons (.bl _) (.cons (.bl _) (.cons (.bl _) .nil)))), by cases b <;> decide +kernel, by cases b <;> decide +kernel, _, rfl, ?_⟩
          rw [show (!PyData.eqv (.list [.bool b, .bool b, .bool b, .bool b]) (.list [.bool b, .bool b, .bool b, .bool b])) = false by cases b <;> decide +kernel]
          exact iteF ⟨⟨_, _, _, rfl⟩, t27.trans s29⟩
        rintro σ H18 ⟨⟨y14, y23, y24, rfl⟩, s18⟩
        have ev18 := ev17.same s18
        -- what comes still where more live longer
        refine ⟨_, rfl, _, rfl, _, rfl, l, L, aD, _, dys, rfl, ev18.pool, ev18.dr, fun H19 pP us b19 p19 nP hP ul cp => ?_⟩
        have ev19 := ev18.bt b19 p19
        have tale19 := (tale17.same s18).bt ev18.pool b19
        have taleR19 := (taleR17.same s18).bt ev18.pool b19
        have q19 : ∀ H', Same H19 H' → D.rt (.bl true) H' := fun H' s => q17 H' (((Bt.of_same s18).trans b19).trans (.of_same s))
        refine ⟨pP, rfl, ⟨_, sqL hP⟩, for_list (K := K) (a := pP) (xs := us) (fun i σ H' => (∃ y14 : Option V, σ = [y0, some (.ref l), some (.ref aD), some (.ref hh), some (.int m), none, none, some (.ref L), some (.ref oH), some (.ref pd), some (.ref oY), some (.ref oB), none, some (.ref aT), y14, some (.ref oA), some (.ref oR), none, some (.ref aM), some (.ref oO), none, some (.ref oS), some (.ref oC), y23, y24]) ∧ Same H19 H') ⟨⟨_, rfl⟩, Same.refl _⟩ (fun i σ H' _ h => sqL (h.2 _ _ hP)) ?_ ?_⟩
        · rintro i x σ H20 hx20 ⟨⟨y14', rfl⟩, s20⟩
          obtain ⟨d, dzx, f3, l3, i3, mo⟩ := cp x (List.mem_of_getElem? hx20)
          obtain ⟨b, hb⟩ : ∃ b, comeN F Dd m 3 d = b := ⟨_, rfl⟩
          obtain ⟨c, hc⟩ : ∃ c, comeN F Dr m 3 d = c := ⟨_, rfl⟩
          have vD : Val F Dd m 6 12 d b := Val.mono (n := 3) (c := 4) ⟨f3, l3, i3, hb⟩ (by decide) (by decide)
          have vR : Val F Dr m 6 12 d c := Val.mono (n := 3) (c := 4) ⟨f3, l3, i3, hc⟩ (by decide) (by decide)
          refine ⟨_, rfl, _, rfl, _, rfl, _, rfl, comes_go (ev19.home.same s20) (tale19.same s20) (dzx.same s20) vD m0 m1 fun H21 s21 => ⟨b, rfl, ?_⟩⟩
          have t21 := s20.trans s21
          cases b with
          | false => exact iteF (iteF ⟨⟨_, rfl⟩, t21⟩)
          | true =>
            have hc1 : c = true := by
              rw [← hc]
              exact mo F Dd Dr m lon hb
            subst hc1
            exact iteT ⟨_, rfl, _, rfl, _, rfl, _, rfl, comes_go (ev19.home.same t21) (taleR19.same t21) (dzx.same t21) vR m0 m1 fun H22 s22 => ⟨true, rfl, iteF ⟨⟨_, rfl⟩, t21.trans s22⟩⟩⟩
        rintro σ H20 ⟨⟨y14', rfl⟩, s20⟩
        refine ⟨_, rfl, _, rfl, _, rfl, comes_none (ev19.home.same s20) (tale19.same s20) m0 m1 fun H21 s21 => ⟨true, true, rfl, rfl, true, rfl, iteT ?_⟩⟩
        have t21 := s20.trans s21
        exact ⟨_, rfl, _, rfl, comes_none (m := 0) (ev19.home.same t21) (tale19.same t21) (by decide) (by decide) fun H22 s22 => ⟨true, true, rfl, rfl, q19 H22 (t21.trans s22)⟩⟩))))))))), ?_⟩
    refine ⟨by show 1 ≤ sizeLine; decide, fun a1 n1 => ?_⟩
    have w1 : Dw l l0 (upd H a1 (.lst [.int 0])) (.ref a1) := ⟨a1, [0], rfl, upd_same, fun e => pool.ne n1 e.symm, fun e => pool0.ne n1 e.symm, by decide, by decide, by decide⟩
    have s1 : Same H (upd H a1 (.lst [.int 0])) := same_new n1
    revert w1 s1
    generalize upd H a1 (.lst [.int 0]) = G1
    intro w1 s1
    refine ⟨by show 2 ≤ sizeLine; decide, fun a2 n2 => ?_⟩
    have w2 : Dw l l0 (upd G1 a2 (.lst [.int 0, .int 30])) (.ref a2) := ⟨a2, [0, 30], rfl, upd_same, fun e => (pool.same s1).ne n2 e.symm, fun e => (pool0.same s1).ne n2 e.symm, by decide, by decide, by decide⟩
    have s2 : Same H (upd G1 a2 (.lst [.int 0, .int 30])) := s1.trans (same_new n2)
    have w12 := w1.same (same_new (o := .lst [.int 0, .int 30]) n2)
    revert w2 s2 w12
    generalize upd G1 a2 (.lst [.int 0, .int 30]) = G2
    intro w2 s2 w12
    refine ⟨by show 3 ≤ sizeLine; decide, fun a3 n3 => ?_⟩
    have w3 : Dw l l0 (upd G2 a3 (.lst [.int 0, .int 30, .int 400])) (.ref a3) := ⟨a3, [0, 30, 400], rfl, upd_same, fun e => (pool.same s2).ne n3 e.symm, fun e => (pool0.same s2).ne n3 e.symm, by decide, by decide, by decide⟩
    have s3 : Same H (upd G2 a3 (.lst [.int 0, .int 30, .int 400])) := s2.trans (same_new n3)
    have w13 := w12.same (same_new (o := .lst [.int 0, .int 30, .int 400]) n3)
    have w23 := w2.same (same_new (o := .lst [.int 0, .int 30, .int 400]) n3)
    revert w3 s3 w13 w23
    generalize upd G2 a3 (.lst [.int 0, .int 30, .int 400]) = G3
    intro w3 s3 w13 w23
    refine ⟨_, rfl, l, 900, rfl, pool.same s3, by decide, fun G4 t4 b4 p4 t40 t41 => ⟨t4, 300, rfl, rfl, by show 1 ≤ sizeLine; decide, fun a4 n4 => ?_⟩⟩
    have nl0 : l0 ∉ [l] := by simp [nll]
    have p04 : PoolAt G4 l0 := (pool0.same s3).bt b4 nll
    have w4 : Dw l l0 (upd G4 a4 (.lst [.int (t4 - 300)])) (.ref a4) := ⟨a4, [t4 - 300], rfl, upd_same, fun e => p4.ne n4 e.symm, fun e => p04.ne n4 e.symm, by simp, by simp, fun i hi => by rw [List.mem_singleton.mp hi]; omega⟩
    have s5 : Same G4 (upd G4 a4 (.lst [.int (t4 - 300)])) := same_new n4
    revert w4 s5
    generalize upd G4 a4 (.lst [.int (t4 - 300)]) = G5
    intro w4 s5
    refine ⟨by show 4 ≤ sizeLine; decide, fun a6 n6 => ?_⟩
    have s6 : Same G5 (upd G5 a6 (.lst [.ref a1, .ref a2, .ref a3, .ref a4])) := same_new n6
    have h6 : (upd G5 a6 (.lst [.ref a1, .ref a2, .ref a3, .ref a4])) a6 = some (.lst [.ref a1, .ref a2, .ref a3, .ref a4]) := upd_same
    have n6l : a6 ≠ l := fun e => (p4.same s5).ne n6 e.symm
    revert s6 h6
    generalize upd G5 a6 (.lst [.ref a1, .ref a2, .ref a3, .ref a4]) = G6
    intro s6 h6
    have s46 := s5.trans s6
    have p6 := p4.same s46
    have all6 : ∀ x ∈ [V.ref a1, V.ref a2, V.ref a3, V.ref a4], Dw l l0 G6 x := fun x hx => by
      simp only [List.mem_cons, List.not_mem_nil, or_false] at hx
      rcases hx with rfl | rfl | rfl | rfl
      · exact (w13.bt b4).same s46
      · exact (w23.bt b4).same s46
      · exact (w3.bt b4).same s46
      · exact w4.same s6
    refine ⟨_, rfl, l, 4, rfl, p6, by decide, fun G7 e7 b7 p7 e70 e71 => ?_⟩
    obtain ⟨_, ex7, dw⟩ := at_of (P := fun v => Dw l l0 G7 v) (xs := [V.ref a1, V.ref a2, V.ref a3, V.ref a4]) (d := e7) (fun x hx => (all6 x hx).bt b7) e70 e71
    obtain ⟨aD, dys, rfl, hD7, nDl, nD0, dl1, dl3, dyb⟩ := dw
    refine ⟨a6, _, e7, _, rfl, rfl, sqL (kept b7 h6 (by simp [n6l])), ex7, ?_⟩
    have b07 : Bt [l0, l] H G7 := Bt.two (((Bt.of_same s3).trans b4).trans ((Bt.of_same s46).trans b7))
    have p07 : PoolAt G7 l0 := (p04.same s46).bt b7 nll
    clear w1 w12 w13 w2 w23 w3 w4 s1 s2 s3 s5 s6 s46 h6 all6 b4 b7 n1 n2 n3 n4 n6 n6l p4 p6 p04 ex7 e70 e71 t40 t41
    -- the house and the day
    refine ⟨_, rfl, l0, rfl, p07, fun G8 hh tp tg pu de F goods b8 p08 hhq fk gf f6 gds gg pu0 pu1 de0 de1 => ?_⟩
    have hD8 := kept b8 hD7 (by simp [nD0])
    have p8 : PoolAt G8 l := p7.bt b8 nll.symm
    refine ⟨_, rfl, _, rfl, _, rfl, aD, _, rfl, .inl (sqL hD8), l, _, rfl, p8, by rw [List.length_map]; omega, fun G9 e9 b9 p9 e90 e91 => ?_⟩
    obtain ⟨_, ex9, m, rfl, mdy⟩ := at_of (P := fun v => ∃ i : Int, v = .int i ∧ i ∈ dys) (xs := dys.map V.int) (d := e9) (fun x hx => by
      obtain ⟨z, hz, rfl⟩ := List.mem_map.mp hx
      exact ⟨z, rfl, hz⟩) e90 e91
    obtain ⟨m0, m1⟩ := dyb m mdy
    have hD9 := kept b9 hD8 (by simp [nDl])
    refine ⟨aD, _, e9, _, rfl, rfl, sqL hD9, ex9, _, _, rfl, ?_⟩
    have b09 : Bt [l0, l] H G9 := (b07.trans (Bt.one b8)).trans (Bt.two b9)
    have tk9 : Tk G8 G9 := b9.tk p8.lst
    have hhq9 := tk9.sq hhq
    have fk9 := fk.tk tk9
    have gds9 := gds.tk tk9
    clear b8 b9 hhq fk gds tk9 hD7 hD8 p7 p07 p08 p8 b07 ex9 e90 e91
    obtain ⟨_, xs, e, hT, xl, hx⟩ := id fk9
    cases e
    -- the people
    refine ⟨_, rfl, hh, _, 0, _, rfl, rfl, hhq9, rfl, tp, rfl, ⟨_, hT⟩, fun L nL => lc_tup (K := K) (a := tp) (xs := xs) (fun j H' => H' L = some (.lst (((F.take j).map Prod.fst).map V.str)) ∧ Same G9 H') ⟨upd_same, same_new nL⟩ (fun j H' _ h => (tk_same h.2).sq hT) ?_ ?_⟩
    · rintro j x H5 hx5 ⟨hL, s5⟩
      obtain ⟨ra, r, rfl, hr5, hra⟩ := hx j x hx5
      have jl := lt_get hx5
      refine ⟨ra, _, rfl, (tk_same s5).sq hra, rfl, _, _, rfl, _, _, rfl, rfl, rfl, tyes (iteT ⟨_, rfl, _, hL, ?_, ?_, ((Bt.of_same (S := []) s5).upd0 nL).same⟩)⟩
      · rw [List.length_map, List.length_map, List.length_take]
        exact small1000 (by omega)
      · rw [upd_same, take_more hr5, List.map_append, List.map_append]
        rfl
    rintro G10 ⟨hL, s10⟩
    rw [xl, List.take_length] at hL
    have nLl : L ≠ l := fun e => p9.ne nL e.symm
    have hhq10 := (tk_same s10).sq hhq9
    refine ⟨_, rfl, hh, _, 0, _, rfl, rfl, hhq10, rfl, _, rfl, hh, _, 1, _, rfl, rfl, hhq10, rfl, _, rfl, hh, _, 2, _, rfl, rfl, hhq10, rfl, _, rfl, hh, _, 3, _, rfl, rfl, hhq10, rfl, fun oH dxH nH ndH neH => ?_⟩
    have tkm : Tk G10 (upd (upd G10 dxH (.own oH)) oH (.ins CH dxH [])) := (tk_new ndH).trans (tk_new (by rw [upd_ne neH.symm]; exact nH))
    refine ⟨oH, dxH, _, _, pu, de, F, goods, rfl, upd_same, (fk9.tk (tk_same s10)).tk tkm, gf, (gds9.tk (tk_same s10)).tk tkm, gg, pu0, pu1, de0, de1, fun G11 b11 home11 => ?_⟩
    have s11 : Same G10 G11 := same_made nH ndH b11
    refine ⟨rfl, by show 2 ≤ sizeLine; decide, fun tq ntq => ⟨tq, _, rfl, sqT upd_same, rfl, _, _, rfl, _, _, rfl, rfl, ?_⟩⟩
    have s12 : Same G9 (upd G11 tq (.tup [.ref L, .ref oH])) := (s10.trans s11).trans (same_new ntq)
    have ev : Ev K CH (upd G11 tq (.tup [.ref L, .ref oH])) l hh oH L aD F dys := ⟨p9.same s12, ⟨tp, _, _, _, (tk_same s12).sq hhq9, fk9.tk (tk_same s12), gf, f6⟩, home11.same (same_new ntq), (s11.trans (same_new ntq)) _ _ hL, s12 _ _ hD9, nLl, nDl, (fun z hz => by
      obtain ⟨r, hr, rfl⟩ := List.mem_map.mp hz
      exact (gf.nm r hr).name), dyb, (by rw [List.length_map]; exact gf.l1), dl1⟩
    have b012 : Bt [l0, l] H (upd G11 tq (.tup [.ref L, .ref oH])) := b09.trans (Bt.of_same s12)
    revert ev b012
    generalize upd G11 tq (.tup [.ref L, .ref oH]) = H1
    intro ev b1
    clear b09 p9 hhq9 fk9 gds9 hT hx xl hD9 hL s10 nL hhq10 tkm nH ndH neH b11 home11 s11 ntq s12 gg
    have nms : ∀ z ∈ F.map Prod.fst, Nm z := fun z hz => by
      obtain ⟨r, hr, rfl⟩ := List.mem_map.mp hz
      exact gf.nm r hr
    have fl6 : (F.map Prod.fst).length ≤ 6 := by rw [List.length_map]; exact f6
    -- the deaths
    refine ⟨_, rfl, _, rfl, _, rfl, l, L, aD, _, dys, rfl, ev.pool, ev.dr.1, ev.dr.2.1, nDl, gf.nd, nms, by omega, dl1, by omega, fun H2 pd Dd b2 p2 dh2 gd din => ?_⟩
    have ev2 := ev.bt b2 p2
    have b02 := b1.trans (Bt.two b2)
    clear ev b1 b2 p2
    obtain ⟨tp2, g2, pu2, de2, hhq2, fk2, _, _⟩ := ev2.hm
    -- the story, the bare house
    refine ⟨_, rfl, fun oY dxY nY ndY neY => ⟨oY, dxY, .ref pd, Dd, rfl, upd_same, .inr (dh2.tk ((tk_new ndY).trans (tk_new (by rw [upd_ne neY.symm]; exact nY)))), gd, fun H3 bY3 tale3 => ?_⟩⟩
    have s3 : Same H2 H3 := same_made nY ndY bY3
    refine ⟨rfl, _, rfl, hh, _, 0, _, rfl, rfl, (tk_same s3).sq hhq2, rfl, fun oB dxB nB ndB neB => ⟨oB, dxB, .ref tp2, F, rfl, upd_same, (fk2.tk (tk_same s3)).tk ((tk_new ndB).trans (tk_new (by rw [upd_ne neB.symm]; exact nB))), gf, fun H4 bB4 bare4 => ⟨rfl, _, _, rfl, ?_⟩⟩⟩
    have s4 : Same H3 H4 := same_made nB ndB bB4
    have s24 := s3.trans s4
    have ev4 := ev2.same s24
    have tale4 := tale3.same s4
    have dh4 := dh2.tk (tk_same s24)
    have b04 := b02.trans (Bt.of_same s24)
    clear ev2 dh2 tale3 bY3 bB4 nY ndY neY nB ndB neB s3 s4 s24 b02 hhq2 fk2
    -- the conditions
    refine ⟨5, rfl, by decide, by decide, fun L1 nL1 => ?_⟩
    have nl1 : L1 ≠ l := fun e => ev4.pool.ne nL1 e.symm
    refine lc_it (walk_range (lo := 0) (n := 5)) (fun j H' => (∃ ys, H' L1 = some (.lst ys) ∧ ys.length = j ∧ ∀ y ∈ ys, y = .non ∨ Ck K (F.map Prod.fst) dys 4 4 H' y) ∧ Bt [l] H4 H' ∧ PoolAt H' l) ⟨⟨[], upd_same, rfl, fun y hy => nomatch hy⟩, (Bt.refl H4).new nL1, ev4.pool.upd nl1.symm⟩ (fun _ _ _ _ => trivial) ?_ ?_
    · rintro j x H5 H6 hj ⟨⟨ys, hL1, yl, cy⟩, b5, p5⟩ ⟨rfl, rfl⟩
      refine ⟨rfl, tyes (iteT ⟨_, rfl, _, rfl, _, rfl, l, L, aD, _, dys, rfl, p5, ev4.dr.bt b5, fun H7 v b7 p7 cv => ?_⟩)⟩
      have hL7 := kept b7 hL1 (by simp [nl1])
      refine ⟨_, hL7, ?_, ⟨ys ++ [v], upd_same, ?_, fun y hy => ?_⟩, (b5.trans b7).upd0 nL1, p7.upd nl1.symm⟩
      · rw [yl]
        exact small1000 (by omega)
      · rw [List.length_append, yl]
        rfl
      · rcases List.mem_append.mp hy with h | h
        · exact (cy y h).imp id fun k => (k.tk (b7.tk p5.lst)).tk (tk_lst hL7)
        · rw [List.mem_singleton.mp h]
          exact cv.imp id fun k => k.tk (tk_lst hL7)
    rintro H5 ⟨⟨ys, hL1, yl, cy⟩, b5, p5⟩
    have ev5 := ev4.bt b5 p5
    have tale5 := tale4.bt ev4.pool b5
    have bare5 := bare4.bt ev4.pool b5
    have dh5 := dh4.tk (b5.tk ev4.pool.lst)
    have b05 := b04.trans (Bt.two b5)
    clear ev4 tale4 bare4 dh4 b04 nL1
    refine ⟨_, rfl, L1, rfl, ⟨_, sqL hL1⟩, fun L2 nL2 => lc_list (K := K) (a := L1) (xs := ys) (fun j H' => (∃ us, H' L2 = some (.lst us) ∧ us.length ≤ j ∧ ∀ y ∈ us, Ck K (F.map Prod.fst) dys 4 4 H' y) ∧ Same H5 H') ⟨⟨[], upd_same, Nat.le_refl _, fun y hy => nomatch hy⟩, same_new nL2⟩ (fun j H' _ h => sqL (h.2 _ _ hL1)) ?_ ?_⟩
    · rintro j x H6 hx6 ⟨⟨us, hL2, ul, cu⟩, s6⟩
      have jl := lt_get hx6
      rcases cy x (List.mem_of_getElem? hx6) with rfl | kx
      · exact ⟨rfl, _, rfl, rfl, _, rfl, iteF ⟨⟨us, hL2, by omega, cu⟩, s6⟩⟩
      · obtain ⟨ax, rfl⟩ := ck_ref kx
        refine ⟨rfl, _, rfl, rfl, _, rfl, iteT ⟨_, rfl, _, hL2, ?_, ⟨us ++ [.ref ax], upd_same, ?_, fun y hy => ?_⟩, ((Bt.of_same (S := []) s6).upd0 nL2).same⟩⟩
        · exact small1000 (by omega)
        · rw [List.length_append]
          show us.length + 1 ≤ j + 1
          omega
        · rcases List.mem_append.mp hy with h | h
          · exact (cu y h).tk (tk_lst hL2)
          · rw [List.mem_singleton.mp h]
            exact (kx.tk (tk_same s6)).tk (tk_lst hL2)
    rintro H6 ⟨⟨us, hL2, ul, cu⟩, s6⟩
    have ev6 := ev5.same s6
    obtain ⟨hN6, _, _, _, zn, _, z1, _⟩ := id ev6.dr
    obtain ⟨z0, zr, ez⟩ : ∃ z0 zr, F.map Prod.fst = z0 :: zr := by
      match e : F.map Prod.fst, z1 with
      | z0 :: zr, _ => exact ⟨z0, zr, rfl⟩
    have z0in : z0 ∈ F.map Prod.fst := by rw [ez]; exact List.mem_cons_self
    obtain ⟨_, exb, zbm⟩ := at_back (xs := (F.map Prod.fst).map V.str) (by rw [List.length_map]; exact z1)
    obtain ⟨zb, zbin, rfl⟩ := List.mem_map.mp zbm
    refine ⟨_, rfl, L, _, 0, .str z0, rfl, rfl, sqL hN6, atI_nat (j := 0) (h := by rw [ez]; rfl), by show 2 ≤ sizeLine; decide, fun t1 n1 => ?_⟩
    have c1 : Ck K (F.map Prod.fst) dys 1 1 (upd H6 t1 (.tup [.str "lives", .str z0])) (.ref t1) := ck_liv (sqT upd_same) (zn z0 z0in) z0in
    have s7 : Same H6 (upd H6 t1 (.tup [.str "lives", .str z0])) := same_new n1
    revert c1 s7
    generalize upd H6 t1 (.tup [.str "lives", .str z0]) = H7
    intro c1 s7
    refine ⟨_, rfl, 1, rfl, L, _, -1, .str zb, rfl, rfl, sqL (s7 _ _ hN6), exb, by show 2 ≤ sizeLine; decide, fun t2 n2 => ⟨by show 2 ≤ sizeLine; decide, fun p3 n3 => ?_⟩⟩
    have c28 : Ck K (F.map Prod.fst) dys 1 1 (upd (upd H7 t2 (.tup [.str "childless", .str zb])) p3 (.lst [.ref t1, .ref t2])) (.ref t2) := ck_chl ((tk_new n3).sq (sqT upd_same)) (zn zb zbin) zbin
    have s8 : Same H7 (upd (upd H7 t2 (.tup [.str "childless", .str zb])) p3 (.lst [.ref t1, .ref t2])) := (same_new n2).trans (same_new n3)
    have h8 : (upd (upd H7 t2 (.tup [.str "childless", .str zb])) p3 (.lst [.ref t1, .ref t2])) p3 = some (.lst [.ref t1, .ref t2]) := upd_same
    revert c28 s8 h8
    generalize upd (upd H7 t2 (.tup [.str "childless", .str zb])) p3 (.lst [.ref t1, .ref t2]) = H8
    intro c28 s8 h8
    have c18 := c1.tk (tk_same s8)
    have s68 := s7.trans s8
    refine ⟨L2, p3, _, _, rfl, rfl, s68 _ _ hL2, h8, by show us.length + 2 ≤ sizeLine; exact Nat.le_trans (show _ ≤ 7 by omega) (by decide), fun p4 n4 => ?_⟩
    refine ⟨3, rfl, p4, _, rfl, sqL upd_same, fun aT nT => ?_⟩
    rw [show cutV (us ++ [V.ref t1, V.ref t2]) none (some 3) = (us ++ [V.ref t1, V.ref t2]).take 3 from cut_take (k := 3)]
    have s9 : Same H6 (upd (upd H8 p4 (.lst (us ++ [.ref t1, .ref t2]))) aT (.lst ((us ++ [V.ref t1, V.ref t2]).take 3))) := (s68.trans (same_new n4)).trans (same_new nT)
    have hT9 : (upd (upd H8 p4 (.lst (us ++ [.ref t1, .ref t2]))) aT (.lst ((us ++ [V.ref t1, V.ref t2]).take 3))) aT = some (.lst ((us ++ [V.ref t1, V.ref t2]).take 3)) := upd_same
    have tk89 : Tk H8 (upd (upd H8 p4 (.lst (us ++ [.ref t1, .ref t2]))) aT (.lst ((us ++ [V.ref t1, V.ref t2]).take 3))) := (tk_new n4).trans (tk_new nT)
    have nTl : aT ≠ l := fun e => ((ev6.same s68).pool.same (same_new n4)).ne nT e.symm
    revert s9 hT9 tk89
    generalize upd (upd H8 p4 (.lst (us ++ [.ref t1, .ref t2]))) aT (.lst ((us ++ [V.ref t1, V.ref t2]).take 3)) = H9
    intro s9 hT9 tk89
    have call9 : ∀ y ∈ (us ++ [V.ref t1, V.ref t2]).take 3, Ck K (F.map Prod.fst) dys 4 4 H9 y := fun y hy => by
      rcases List.mem_append.mp (List.mem_of_mem_take hy) with h | h
      · exact (cu y h).tk (tk_same s9)
      · simp only [List.mem_cons, List.not_mem_nil, or_false] at h
        rcases h with rfl | rfl
        · exact (c18.tk tk89).mono (by decide) (by decide)
        · exact (c28.tk tk89).mono (by decide) (by decide)
    have tl9 : 2 ≤ ((us ++ [V.ref t1, V.ref t2]).take 3).length ∧ ((us ++ [V.ref t1, V.ref t2]).take 3).length ≤ 3 := by
      rw [List.length_take, List.length_append]
      show 2 ≤ min 3 (us.length + 2) ∧ min 3 (us.length + 2) ≤ 3
      omega
    revert hT9 call9 tl9
    generalize (us ++ [V.ref t1, V.ref t2]).take 3 = ts
    intro hT9 call9 tl9
    obtain ⟨ds, dzs, dprop⟩ := ck_list call9
    have dl := dzs.len
    have tms9 : Tms K (F.map Prod.fst) dys H9 aT ts ds := ⟨hT9, dzs, dprop, by omega, by omega⟩
    have ev9 := ev6.same s9
    have s59 := s6.trans s9
    have tale9 := tale5.same s59
    have bare9 := bare5.same s59
    have dh9 := dh5.tk (tk_same s59)
    have b09 := b05.trans (Bt.of_same s59)
    clear ev5 ev6 tale5 bare5 dh5 b05 s6 s7 s8 s68 s9 tk89 c1 c18 c28 call9 hT9 dzs hL1 hL2 cu cy h8 hN6 n1 n2 n3 n4 nT nL2 ul b5 p5
    -- both looks
    refine ⟨_, rfl, _, rfl, _, rfl, _, rfl, oH, aT, oY, ts, ds, dys, m, F, Dd, rfl, ev9.home, tms9, tale9, m0, m1, fun H10 s10 => ⟨true, rfl, iteF ?_⟩⟩
    refine ⟨_, rfl, _, rfl, _, rfl, _, rfl, hh, oH, oY, m, F, Dd, rfl, (ev9.same s10).hm, (ev9.same s10).home, tale9.same s10, m0, m1, fun H11 s11 => ⟨true, rfl, iteF ?_⟩⟩
    have s911 := s10.trans s11
    have ev11 := ev9.same s911
    have tms11 := tms9.same s911
    have tale11 := tale9.same s911
    have bare11 := bare9.same s911
    have dh11 := dh9.tk (tk_same s911)
    have b011 := b09.trans (Bt.of_same s911)
    exact ⟨l, hh, oH, L, aD, pd, oY, oB, aT, ts, ds, dys, m, F, Dd, _, rfl, ev11, gf, f6, tms11, nTl, tale11, bare11, dh11, gd, din, m0, m1, mdy, dyb, dl3, fun H' b => q H' (b011.trans (Bt.two b))⟩
end
end WdQ

set_option Elab.async false
set_option linter.all false
set_option maxRecDepth 100000
set_option maxHeartbeats 4000000
set_option exponentiation.threshold 5000
namespace WdQ
open PySem PySem.Spec PyProof.Rows L2 WdM Wd
abbrev sLaw : Stmt := topS 71
abbrev nL : List Str := ["_law_script", "_law_k"]
theorem scLaw : FnScope nL ["_law_script"] (defScope sLaw) := ⟨rfl, rfl, rfl, by decide +kernel, rfl, by decide +kernel, by decide +kernel⟩
theorem rg2 {j : Int} (h1 : 1 ≤ j) (h2 : j ≤ 10) : RgC 0 j 2 (Builtin.Range.rangeSize 0 j 2).toNat ∧ (Builtin.Range.rangeSize 0 j 2).toNat ≤ 5 := by
  have all : ∀ m : Fin 11, Builtin.Range.small 0 ((m.val : Nat) : Int) 2 = true ∧ 0 ≤ Builtin.Range.rangeSize 0 ((m.val : Nat) : Int) 2 ∧ (Builtin.Range.rangeSize 0 ((m.val : Nat) : Int) 2).toNat ≤ 5 := by decide +kernel
  obtain ⟨m, rfl⟩ := Int.eq_ofNat_of_zero_le (show 0 ≤ j by omega)
  have := all ⟨m, by omega⟩
  exact ⟨⟨by decide, by decide, this.1, (Int.toNat_of_nonneg this.2.1).symm⟩, this.2.2⟩
section
variable {P : Program} {w : World} {K : PySem.W.Frag} {mg : Str → Option Value} {base : Heap}
def spLaw (K : PySem.W.Frag) : Sp := fun vs H Q _ => ∃ (a : Addr) (ns : List Int), vs = [.ref a] ∧ SqL K H a (ns.map V.int) ∧ ns.length ≤ 63 ∧ ∀ H', Q (.bl true) H'
theorem ok_law {f fO fR : Addr} {fd fdO fdR : FuncData} (B : Bi mg) (D : Df K mg "law" sLaw f fd ["_law_script"]) (DO : Df K mg "_law_pool" sPool fO fdO ["_law_script", "_law_k"]) (DR : Df K mg "_law_right" sR5 fR fdR pR5)
    (GO : FnOk P w K mg base CX0 16 fO fdO ["_law_script", "_law_k"] (spPool K)) (GR : FnOk P w K mg base CX0 16 fR fdR pR5 (spR5 K)) : FnOk P w K mg base CX0 17 f fd ["_law_script"] (spLaw K) := by
  refine D.fn.ok scLaw (fun vs H Q E h => ?_) (fun cdv A outer s H vs Q E hr h => ?_)
  · obtain ⟨a, ns, rfl, _⟩ := h
    rfl
  · obtain ⟨a, ns, rfl, hs, hlen, q⟩ := h
    refine ⟨_, pss_cons (ps_for PassesOwn.never rfl (pi_range3 (by rfl) B.range (pa_cons pe_int (pa_cons (pe_callB (call_max2 rfl) (by rfl) B.max (by decide +kernel) (pa_cons pe_int (pa_cons (pe_callB (call_min2 rfl) (by rfl) B.min (by decide +kernel) (pa_cons (pe_callB call_len_seq (by rfl) B.len PySem.boot_len (pa_cons (pv 0) pa_nil)) (pa_cons pe_int pa_nil))) pa_nil))) (pa_cons pe_int pa_nil)))) (pg_name (i := 1) scLaw.nd rfl (.inl rfl))
        (pss_one (ps_if (pt_not (pt_val (pe_call GR hr (by rfl) DR.mg DR.fn.kp DR.bd .nil pass0 (pa_cons (pe_call GO hr (by rfl) DO.mg DO.fn.kp DO.bd .nil pass0 (pa_cons (pv 0) (pa_cons (pv 1) pa_nil))) (pa_cons (pe_call GO hr (by rfl) DO.mg DO.fn.kp DO.bd .nil pass0 (pa_cons (pv 0) (pa_cons (pe_op op_add (pv 1) pe_int) pa_nil))) pa_nil))))) (pss_one (ps_ret pe_bl)) pss_nil)))
      (pss_one (ps_ret pe_bl)), ?_⟩
    refine ⟨_, rfl, a, _, rfl, .inl hs, _, _, rfl, 1, _, rfl, 0, _, 2, _, rfl, (rg2 ?_ ?_).1, for_rangeC (lo := 0) (c := 2) (n := _) (fun i σ H' => (∃ y1 : Option V, σ = [some (.ref a), y1]) ∧ Same H H') ⟨⟨none, rfl⟩, Same.refl H⟩ ?_ ?_⟩
    · split <;> (try split) <;> omega
    · rw [List.length_map]
      split <;> (try split) <;> omega
    rotate_left
    · rintro σ H1 ⟨⟨y1, rfl⟩, s1⟩
      exact q H1
    · rintro i σ H1 hi ⟨⟨y1, rfl⟩, s1⟩
      have i5 : i < 5 := by
        refine Nat.lt_of_lt_of_le hi (rg2 ?_ ?_).2
        · split <;> (try split) <;> omega
        · rw [List.length_map]
          split <;> (try split) <;> omega
      refine ⟨_, rfl, _, rfl, a, ns, _, rfl, s1.seq hs, by omega, by omega, fun H2 l0 s2 n0 pool0 => ?_⟩
      refine ⟨_, rfl, _, rfl, _, 1, rfl, rfl, a, ns, _, rfl, (s1.trans s2).seq hs, by omega, by omega, fun H3 l s3 nl pool => ?_⟩
      have ne : l0 ≠ l := pool0.ne nl
      refine ⟨l0, l, rfl, pool0.same s3, pool, ne, fun H4 b4 => ⟨true, rfl, iteF ⟨⟨_, rfl⟩, s1.trans fun c x e => ?_⟩⟩⟩
      have e2 := s2 c x e
      exact b4 c x (by simp [ne_of_none e n0, ne_of_none e2 nl]) (s3 c x e2)
end
end WdQ

set_option Elab.async false
set_option linter.all false
set_option maxRecDepth 100000
set_option maxHeartbeats 4000000
namespace WdQ
open PySem PySem.Spec PyProof.Rows L2 WdM Wd
theorem factsN {P : Program} {w : World} {K : PySem.W.Frag} {h : Heap} {mg : Str → Option Value} {f : Addr} (X : K.In h) (G : h.Ns mainGlobals mg) (hfa : mg "law" = some (.ref f)) (c : SaysW asksN defsN K) :
    ∃ fd : FuncData, (∀ (s : Shared) (v : Value), BindsTo s fd ⟨[v], []⟩ [("_law_script", v)]) ∧ ∀ base : Heap, K.In base → base.Ns mainGlobals mg → FnOk P w K mg base CX0 17 f fd ["_law_script"] (spLaw K) := by
  have a1 : PySem.W.nsIn K mainGlobals "is_name" = some (some (.ref (He.ga K "is_name"))) := of_decide_eq_true (c.ask 0 rfl)
  obtain ⟨fd1, FF1⟩ := c.def_ 0 rfl
  have F1 : L2.Fun K "is_name" "is_name" sName (He.ga K "is_name") fd1 := fun_of FF1
  have D1 : Df K mg "is_name" sName (He.ga K "is_name") fd1 ["thing"] := ⟨F1, PySem.W.mg_of X G a1, F1.binds (ps := ["thing"]) fun _ _ _ _ _ _ us hl => match us, hl with | [_], _ => rfl⟩
  have a2 : PySem.W.nsIn K mainGlobals "is_word" = some (some (.ref (He.ga K "is_word"))) := of_decide_eq_true (c.ask 1 rfl)
  obtain ⟨fd2, FF2⟩ := c.def_ 1 rfl
  have F2 : L2.Fun K "is_word" "is_word" sWord (He.ga K "is_word") fd2 := fun_of FF2
  have D2 : Df K mg "is_word" sWord (He.ga K "is_word") fd2 ["thing", "words"] := ⟨F2, PySem.W.mg_of X G a2, F2.binds (ps := ["thing", "words"]) fun _ _ _ _ _ _ us hl => match us, hl with | [_, _], _ => rfl⟩
  have a3 : PySem.W.nsIn K mainGlobals "is_whole" = some (some (.ref (He.ga K "is_whole"))) := of_decide_eq_true (c.ask 2 rfl)
  obtain ⟨fd3, FF3⟩ := c.def_ 2 rfl
  have F3 : L2.Fun K "is_whole" "is_whole" sWhole (He.ga K "is_whole") fd3 := fun_of FF3
  have D3 : Df K mg "is_whole" sWhole (He.ga K "is_whole") fd3 ["thing"] := ⟨F3, PySem.W.mg_of X G a3, F3.binds (ps := ["thing"]) fun _ _ _ _ _ _ us hl => match us, hl with | [_], _ => rfl⟩
  have a4 : PySem.W.nsIn K mainGlobals "is_sum" = some (some (.ref (He.ga K "is_sum"))) := of_decide_eq_true (c.ask 3 rfl)
  obtain ⟨fd4, FF4⟩ := c.def_ 3 rfl
  have F4 : L2.Fun K "is_sum" "is_sum" sSum (He.ga K "is_sum") fd4 := fun_of FF4
  have D4 : Df K mg "is_sum" sSum (He.ga K "is_sum") fd4 ["thing"] := ⟨F4, PySem.W.mg_of X G a4, F4.binds (ps := ["thing"]) fun _ _ _ _ _ _ us hl => match us, hl with | [_], _ => rfl⟩
  have a5 : PySem.W.nsIn K mainGlobals "is_day" = some (some (.ref (He.ga K "is_day"))) := of_decide_eq_true (c.ask 4 rfl)
  obtain ⟨fd5, FF5⟩ := c.def_ 4 rfl
  have F5 : L2.Fun K "is_day" "is_day" sDay (He.ga K "is_day") fd5 := fun_of FF5
  have D5 : Df K mg "is_day" sDay (He.ga K "is_day") fd5 ["thing"] := ⟨F5, PySem.W.mg_of X G a5, F5.binds (ps := ["thing"]) fun _ _ _ _ _ _ us hl => match us, hl with | [_], _ => rfl⟩
  have a6 : PySem.W.nsIn K mainGlobals "is_person" = some (some (.ref (He.ga K "is_person"))) := of_decide_eq_true (c.ask 5 rfl)
  obtain ⟨fd6, FF6⟩ := c.def_ 5 rfl
  have F6 : L2.Fun K "is_person" "is_person" sPerson (He.ga K "is_person") fd6 := fun_of FF6
  have D6 : Df K mg "is_person" sPerson (He.ga K "is_person") fd6 ["thing", "ahead"] := ⟨F6, PySem.W.mg_of X G a6, F6.binds (ps := ["thing", "ahead"]) fun _ _ _ _ _ _ us hl => match us, hl with | [_, _], _ => rfl⟩
  have a7 : PySem.W.nsIn K mainGlobals "check_people" = some (some (.ref (He.ga K "check_people"))) := of_decide_eq_true (c.ask 6 rfl)
  obtain ⟨fd7, FF7⟩ := c.def_ 6 rfl
  have F7 : L2.Fun K "check_people" "check_people" sChkP (He.ga K "check_people") fd7 := fun_of FF7
  have D7 : Df K mg "check_people" sChkP (He.ga K "check_people") fd7 ["people"] := ⟨F7, PySem.W.mg_of X G a7, F7.binds (ps := ["people"]) fun _ _ _ _ _ _ us hl => match us, hl with | [_], _ => rfl⟩
  have a8 : PySem.W.nsIn K mainGlobals "is_good" = some (some (.ref (He.ga K "is_good"))) := of_decide_eq_true (c.ask 7 rfl)
  obtain ⟨fd8, FF8⟩ := c.def_ 7 rfl
  have F8 : L2.Fun K "is_good" "is_good" sGood (He.ga K "is_good") fd8 := fun_of FF8
  have D8 : Df K mg "is_good" sGood (He.ga K "is_good") fd8 ["thing", "ahead"] := ⟨F8, PySem.W.mg_of X G a8, F8.binds (ps := ["thing", "ahead"]) fun _ _ _ _ _ _ us hl => match us, hl with | [_, _], _ => rfl⟩
  have a9 : PySem.W.nsIn K mainGlobals "check_goods" = some (some (.ref (He.ga K "check_goods"))) := of_decide_eq_true (c.ask 8 rfl)
  obtain ⟨fd9, FF9⟩ := c.def_ 8 rfl
  have F9 : L2.Fun K "check_goods" "check_goods" sChkG (He.ga K "check_goods") fd9 := fun_of FF9
  have D9 : Df K mg "check_goods" sChkG (He.ga K "check_goods") fd9 ["goods"] := ⟨F9, PySem.W.mg_of X G a9, F9.binds (ps := ["goods"]) fun _ _ _ _ _ _ us hl => match us, hl with | [_], _ => rfl⟩
  have a10 : PySem.W.nsIn K mainGlobals "is_death" = some (some (.ref (He.ga K "is_death"))) := of_decide_eq_true (c.ask 9 rfl)
  obtain ⟨fd10, FF10⟩ := c.def_ 9 rfl
  have F10 : L2.Fun K "is_death" "is_death" sDeath (He.ga K "is_death") fd10 := fun_of FF10
  have D10 : Df K mg "is_death" sDeath (He.ga K "is_death") fd10 ["thing", "ahead"] := ⟨F10, PySem.W.mg_of X G a10, F10.binds (ps := ["thing", "ahead"]) fun _ _ _ _ _ _ us hl => match us, hl with | [_, _], _ => rfl⟩
  have a11 : PySem.W.nsIn K mainGlobals "check_deaths" = some (some (.ref (He.ga K "check_deaths"))) := of_decide_eq_true (c.ask 10 rfl)
  obtain ⟨fd11, FF11⟩ := c.def_ 10 rfl
  have F11 : L2.Fun K "check_deaths" "check_deaths" sChkD (He.ga K "check_deaths") fd11 := fun_of FF11
  have D11 : Df K mg "check_deaths" sChkD (He.ga K "check_deaths") fd11 ["deaths"] := ⟨F11, PySem.W.mg_of X G a11, F11.binds (ps := ["deaths"]) fun _ _ _ _ _ _ us hl => match us, hl with | [_], _ => rfl⟩
  have a12 : PySem.W.nsIn K mainGlobals "is_lives" = some (some (.ref (He.ga K "is_lives"))) := of_decide_eq_true (c.ask 11 rfl)
  obtain ⟨fd12, FF12⟩ := c.def_ 11 rfl
  have F12 : L2.Fun K "is_lives" "is_lives" sLives (He.ga K "is_lives") fd12 := fun_of FF12
  have D12 : Df K mg "is_lives" sLives (He.ga K "is_lives") fd12 ["thing"] := ⟨F12, PySem.W.mg_of X G a12, F12.binds (ps := ["thing"]) fun _ _ _ _ _ _ us hl => match us, hl with | [_], _ => rfl⟩
  have a13 : PySem.W.nsIn K mainGlobals "is_formed" = some (some (.ref (He.ga K "is_formed"))) := of_decide_eq_true (c.ask 12 rfl)
  obtain ⟨fd13, FF13⟩ := c.def_ 12 rfl
  have F13 : L2.Fun K "is_formed" "is_formed" sForm (He.ga K "is_formed") fd13 := fun_of FF13
  have D13 : Df K mg "is_formed" sForm (He.ga K "is_formed") fd13 ["thing", "room"] := ⟨F13, PySem.W.mg_of X G a13, F13.binds (ps := ["thing", "room"]) fun _ _ _ _ _ _ us hl => match us, hl with | [_, _], _ => rfl⟩
  have a14 : PySem.W.nsIn K mainGlobals "leaves" = some (some (.ref (He.ga K "leaves"))) := of_decide_eq_true (c.ask 13 rfl)
  obtain ⟨fd14, FF14⟩ := c.def_ 13 rfl
  have F14 : L2.Fun K "leaves" "leaves" sLeav (He.ga K "leaves") fd14 := fun_of FF14
  have D14 : Df K mg "leaves" sLeav (He.ga K "leaves") fd14 ["cond"] := ⟨F14, PySem.W.mg_of X G a14, F14.binds (ps := ["cond"]) fun _ _ _ _ _ _ us hl => match us, hl with | [_], _ => rfl⟩
  have a15 : PySem.W.nsIn K mainGlobals "is_cond" = some (some (.ref (He.ga K "is_cond"))) := of_decide_eq_true (c.ask 14 rfl)
  obtain ⟨fd15, FF15⟩ := c.def_ 14 rfl
  have F15 : L2.Fun K "is_cond" "is_cond" sCond (He.ga K "is_cond") fd15 := fun_of FF15
  have D15 : Df K mg "is_cond" sCond (He.ga K "is_cond") fd15 ["thing"] := ⟨F15, PySem.W.mg_of X G a15, F15.binds (ps := ["thing"]) fun _ _ _ _ _ _ us hl => match us, hl with | [_], _ => rfl⟩
  have a16 : PySem.W.nsIn K mainGlobals "is_cond_or_none" = some (some (.ref (He.ga K "is_cond_or_none"))) := of_decide_eq_true (c.ask 15 rfl)
  obtain ⟨fd16, FF16⟩ := c.def_ 15 rfl
  have F16 : L2.Fun K "is_cond_or_none" "is_cond_or_none" sCondN (He.ga K "is_cond_or_none") fd16 := fun_of FF16
  have D16 : Df K mg "is_cond_or_none" sCondN (He.ga K "is_cond_or_none") fd16 ["thing"] := ⟨F16, PySem.W.mg_of X G a16, F16.binds (ps := ["thing"]) fun _ _ _ _ _ _ us hl => match us, hl with | [_], _ => rfl⟩
  have a17 : PySem.W.nsIn K mainGlobals "row_named" = some (some (.ref (He.ga K "row_named"))) := of_decide_eq_true (c.ask 16 rfl)
  obtain ⟨fd17, FF17⟩ := c.def_ 16 rfl
  have F17 : L2.Fun K "row_named" "row_named" sRow (He.ga K "row_named") fd17 := fun_of FF17
  have D17 : Df K mg "row_named" sRow (He.ga K "row_named") fd17 ["rows", "name"] := ⟨F17, PySem.W.mg_of X G a17, F17.binds (ps := ["rows", "name"]) fun _ _ _ _ _ _ us hl => match us, hl with | [_, _], _ => rfl⟩
  have a18 : PySem.W.nsIn K mainGlobals "cond_names" = some (some (.ref (He.ga K "cond_names"))) := of_decide_eq_true (c.ask 17 rfl)
  obtain ⟨fd18, FF18⟩ := c.def_ 17 rfl
  have F18 : L2.Fun K "cond_names" "cond_names" sCN (He.ga K "cond_names") fd18 := fun_of FF18
  have D18 : Df K mg "cond_names" sCN (He.ga K "cond_names") fd18 ["cond"] := ⟨F18, PySem.W.mg_of X G a18, F18.binds (ps := ["cond"]) fun _ _ _ _ _ _ us hl => match us, hl with | [_], _ => rfl⟩
  have a19 : PySem.W.nsIn K mainGlobals "check_persons" = some (some (.ref (He.ga K "check_persons"))) := of_decide_eq_true (c.ask 18 rfl)
  obtain ⟨fd19, FF19⟩ := c.def_ 18 rfl
  have F19 : L2.Fun K "check_persons" "check_persons" sCkP (He.ga K "check_persons") fd19 := fun_of FF19
  have D19 : Df K mg "check_persons" sCkP (He.ga K "check_persons") fd19 ["house", "names"] := ⟨F19, PySem.W.mg_of X G a19, F19.binds (ps := ["house", "names"]) fun _ _ _ _ _ _ us hl => match us, hl with | [_, _], _ => rfl⟩
  have a20 : PySem.W.nsIn K mainGlobals "has_come" = some (some (.ref (He.ga K "has_come"))) := of_decide_eq_true (c.ask 19 rfl)
  obtain ⟨fd20, FF20⟩ := c.def_ 19 rfl
  have F20 : L2.Fun K "has_come" "has_come" sHC (He.ga K "has_come") fd20 := fun_of FF20
  have D20 : Df K mg "has_come" sHC (He.ga K "has_come") fd20 ["house", "cond", "story", "wait"] := ⟨F20, PySem.W.mg_of X G a20, F20.binds (ps := ["house", "cond", "story", "wait"]) fun _ _ _ _ _ _ us hl => match us, hl with | [_, _, _, _], _ => rfl⟩
  have a21 : PySem.W.nsIn K mainGlobals "_law_pool" = some (some (.ref (He.ga K "_law_pool"))) := of_decide_eq_true (c.ask 20 rfl)
  obtain ⟨fd21, FF21⟩ := c.def_ 20 rfl
  have F21 : L2.Fun K "_law_pool" "_law_pool" sPool (He.ga K "_law_pool") fd21 := fun_of FF21
  have D21 : Df K mg "_law_pool" sPool (He.ga K "_law_pool") fd21 ["_law_script", "_law_k"] := ⟨F21, PySem.W.mg_of X G a21, F21.binds (ps := ["_law_script", "_law_k"]) fun _ _ _ _ _ _ us hl => match us, hl with | [_, _], _ => rfl⟩
  have a22 : PySem.W.nsIn K mainGlobals "_law_take" = some (some (.ref (He.ga K "_law_take"))) := of_decide_eq_true (c.ask 21 rfl)
  obtain ⟨fd22, FF22⟩ := c.def_ 21 rfl
  have F22 : L2.Fun K "_law_take" "_law_take" sTake (He.ga K "_law_take") fd22 := fun_of FF22
  have D22 : Df K mg "_law_take" sTake (He.ga K "_law_take") fd22 ["_law_pool_here", "_law_many"] := ⟨F22, PySem.W.mg_of X G a22, F22.binds (ps := ["_law_pool_here", "_law_many"]) fun _ _ _ _ _ _ us hl => match us, hl with | [_, _], _ => rfl⟩
  have a23 : PySem.W.nsIn K mainGlobals "_law_words" = some (some (.ref (He.ga K "_law_words"))) := of_decide_eq_true (c.ask 22 rfl)
  obtain ⟨fd23, FF23⟩ := c.def_ 22 rfl
  have F23 : L2.Fun K "_law_words" "_law_words" sWords (He.ga K "_law_words") fd23 := fun_of FF23
  have D23 : Df K mg "_law_words" sWords (He.ga K "_law_words") fd23 ["_law_pool_here", "_law_many"] := ⟨F23, PySem.W.mg_of X G a23, F23.binds (ps := ["_law_pool_here", "_law_many"]) fun _ _ _ _ _ _ us hl => match us, hl with | [_, _], _ => rfl⟩
  have a24 : PySem.W.nsIn K mainGlobals "_law_home" = some (some (.ref (He.ga K "_law_home"))) := of_decide_eq_true (c.ask 23 rfl)
  obtain ⟨fd24, FF24⟩ := c.def_ 23 rfl
  have F24 : L2.Fun K "_law_home" "_law_home" sHome (He.ga K "_law_home") fd24 := fun_of FF24
  have D24 : Df K mg "_law_home" sHome (He.ga K "_law_home") fd24 ["_law_pool_here", "_law_most"] := ⟨F24, PySem.W.mg_of X G a24, F24.binds (ps := ["_law_pool_here", "_law_most"]) fun _ _ _ _ _ _ us hl => match us, hl with | [_, _], _ => rfl⟩
  have a25 : PySem.W.nsIn K mainGlobals "_law_atom" = some (some (.ref (He.ga K "_law_atom"))) := of_decide_eq_true (c.ask 24 rfl)
  obtain ⟨fd25, FF25⟩ := c.def_ 24 rfl
  have F25 : L2.Fun K "_law_atom" "_law_atom" sAtom (He.ga K "_law_atom") fd25 := fun_of FF25
  have D25 : Df K mg "_law_atom" sAtom (He.ga K "_law_atom") fd25 ["_law_pool_here", "_law_folk", "_law_dawns"] := ⟨F25, PySem.W.mg_of X G a25, F25.binds (ps := ["_law_pool_here", "_law_folk", "_law_dawns"]) fun _ _ _ _ _ _ us hl => match us, hl with | [_, _, _], _ => rfl⟩
  have a26 : PySem.W.nsIn K mainGlobals "_law_cond" = some (some (.ref (He.ga K "_law_cond"))) := of_decide_eq_true (c.ask 25 rfl)
  obtain ⟨fd26, FF26⟩ := c.def_ 25 rfl
  have F26 : L2.Fun K "_law_cond" "_law_cond" sLc (He.ga K "_law_cond") fd26 := fun_of FF26
  have D26 : Df K mg "_law_cond" sLc (He.ga K "_law_cond") fd26 ["_law_pool_here", "_law_folk", "_law_dawns"] := ⟨F26, PySem.W.mg_of X G a26, F26.binds (ps := ["_law_pool_here", "_law_folk", "_law_dawns"]) fun _ _ _ _ _ _ us hl => match us, hl with | [_, _, _], _ => rfl⟩
  have a27 : PySem.W.nsIn K mainGlobals "_law_deaths" = some (some (.ref (He.ga K "_law_deaths"))) := of_decide_eq_true (c.ask 26 rfl)
  obtain ⟨fd27, FF27⟩ := c.def_ 26 rfl
  have F27 : L2.Fun K "_law_deaths" "_law_deaths" sDeaths (He.ga K "_law_deaths") fd27 := fun_of FF27
  have D27 : Df K mg "_law_deaths" sDeaths (He.ga K "_law_deaths") fd27 ["_law_pool_here", "_law_folk", "_law_dawns"] := ⟨F27, PySem.W.mg_of X G a27, F27.binds (ps := ["_law_pool_here", "_law_folk", "_law_dawns"]) fun _ _ _ _ _ _ us hl => match us, hl with | [_, _, _], _ => rfl⟩
  have a28 : PySem.W.nsIn K mainGlobals "_law_all_ways" = some (some (.ref (He.ga K "_law_all_ways"))) := of_decide_eq_true (c.ask 27 rfl)
  obtain ⟨fd28, FF28⟩ := c.def_ 27 rfl
  have F28 : L2.Fun K "_law_all_ways" "_law_all_ways" sAw (He.ga K "_law_all_ways") fd28 := fun_of FF28
  have D28 : Df K mg "_law_all_ways" sAw (He.ga K "_law_all_ways") fd28 ["_law_estate", "_law_terms", "_law_tale", "_law_least"] := ⟨F28, PySem.W.mg_of X G a28, F28.binds (ps := ["_law_estate", "_law_terms", "_law_tale", "_law_least"]) fun _ _ _ _ _ _ us hl => match us, hl with | [_, _, _, _], _ => rfl⟩
  have a29 : PySem.W.nsIn K mainGlobals "_law_atoms_right" = some (some (.ref (He.ga K "_law_atoms_right"))) := of_decide_eq_true (c.ask 28 rfl)
  obtain ⟨fd29, FF29⟩ := c.def_ 28 rfl
  have F29 : L2.Fun K "_law_atoms_right" "_law_atoms_right" sAr (He.ga K "_law_atoms_right") fd29 := fun_of FF29
  have D29 : Df K mg "_law_atoms_right" sAr (He.ga K "_law_atoms_right") fd29 ["_law_home_here", "_law_estate", "_law_tale", "_law_least"] := ⟨F29, PySem.W.mg_of X G a29, F29.binds (ps := ["_law_home_here", "_law_estate", "_law_tale", "_law_least"]) fun _ _ _ _ _ _ us hl => match us, hl with | [_, _, _, _], _ => rfl⟩
  have a30 : PySem.W.nsIn K mainGlobals "_law_as_far" = some (some (.ref (He.ga K "_law_as_far"))) := of_decide_eq_true (c.ask 29 rfl)
  obtain ⟨fd30, FF30⟩ := c.def_ 29 rfl
  have F30 : L2.Fun K "_law_as_far" "_law_as_far" sAf (He.ga K "_law_as_far") fd30 := fun_of FF30
  have D30 : Df K mg "_law_as_far" sAf (He.ga K "_law_as_far") fd30 ["_law_pool_here", "_law_days", "_law_deaths_here"] := ⟨F30, PySem.W.mg_of X G a30, F30.binds (ps := ["_law_pool_here", "_law_days", "_law_deaths_here"]) fun _ _ _ _ _ _ us hl => match us, hl with | [_, _, _], _ => rfl⟩
  have a31 : PySem.W.nsIn K mainGlobals "_law_risen" = some (some (.ref (He.ga K "_law_risen"))) := of_decide_eq_true (c.ask 30 rfl)
  obtain ⟨fd31, FF31⟩ := c.def_ 30 rfl
  have F31 : L2.Fun K "_law_risen" "_law_risen" sRi (He.ga K "_law_risen") fd31 := fun_of FF31
  have D31 : Df K mg "_law_risen" sRi (He.ga K "_law_risen") fd31 ["_law_pool_here", "_law_deaths_here"] := ⟨F31, PySem.W.mg_of X G a31, F31.binds (ps := ["_law_pool_here", "_law_deaths_here"]) fun _ _ _ _ _ _ us hl => match us, hl with | [_, _], _ => rfl⟩
  have a32 : PySem.W.nsIn K mainGlobals "_law_plain" = some (some (.ref (He.ga K "_law_plain"))) := of_decide_eq_true (c.ask 31 rfl)
  obtain ⟨fd32, FF32⟩ := c.def_ 31 rfl
  have F32 : L2.Fun K "_law_plain" "_law_plain" sPl (He.ga K "_law_plain") fd32 := fun_of FF32
  have D32 : Df K mg "_law_plain" sPl (He.ga K "_law_plain") fd32 ["_law_pool_here", "_law_folk", "_law_days"] := ⟨F32, PySem.W.mg_of X G a32, F32.binds (ps := ["_law_pool_here", "_law_folk", "_law_days"]) fun _ _ _ _ _ _ us hl => match us, hl with | [_, _, _], _ => rfl⟩
  have a33 : PySem.W.nsIn K mainGlobals "_law_named" = some (some (.ref (He.ga K "_law_named"))) := of_decide_eq_true (c.ask 32 rfl)
  obtain ⟨fd33, FF33⟩ := c.def_ 32 rfl
  have F33 : L2.Fun K "_law_named" "_law_named" sNd (He.ga K "_law_named") fd33 := fun_of FF33
  have D33 : Df K mg "_law_named" sNd (He.ga K "_law_named") fd33 ["_law_term", "_law_names"] := ⟨F33, PySem.W.mg_of X G a33, F33.binds (ps := ["_law_term", "_law_names"]) fun _ _ _ _ _ _ us hl => match us, hl with | [_, _], _ => rfl⟩
  have a34 : PySem.W.nsIn K mainGlobals "_law_right" = some (some (.ref (He.ga K "_law_right"))) := of_decide_eq_true (c.ask 33 rfl)
  obtain ⟨fd34, FF34⟩ := c.def_ 33 rfl
  have F34 : L2.Fun K "_law_right" "_law_right" sR5 (He.ga K "_law_right") fd34 := fun_of FF34
  have D34 : Df K mg "_law_right" sR5 (He.ga K "_law_right") fd34 ["_law_pool_here", "_law_more"] := ⟨F34, PySem.W.mg_of X G a34, F34.binds (ps := ["_law_pool_here", "_law_more"]) fun _ _ _ _ _ _ us hl => match us, hl with | [_, _], _ => rfl⟩
  have a35 : PySem.W.nsIn K mainGlobals "law" = some (some (.ref (He.ga K "law"))) := of_decide_eq_true (c.ask 34 rfl)
  obtain ⟨fd35, FF35⟩ := c.def_ 34 rfl
  have F35 : L2.Fun K "law" "law" sLaw (He.ga K "law") fd35 := fun_of FF35
  have D35 : Df K mg "law" sLaw (He.ga K "law") fd35 ["_law_script"] := ⟨F35, PySem.W.mg_of X G a35, F35.binds (ps := ["_law_script"]) fun _ _ _ _ _ _ us hl => match us, hl with | [_], _ => rfl⟩
  have z_isinstance : PySem.W.nsIn K mainGlobals "isinstance" = some none := of_decide_eq_true (c.ask 35 rfl)
  have z_int : PySem.W.nsIn K mainGlobals "int" = some none := of_decide_eq_true (c.ask 36 rfl)
  have z_bool : PySem.W.nsIn K mainGlobals "bool" = some none := of_decide_eq_true (c.ask 37 rfl)
  have z_str : PySem.W.nsIn K mainGlobals "str" = some none := of_decide_eq_true (c.ask 38 rfl)
  have z_tuple : PySem.W.nsIn K mainGlobals "tuple" = some none := of_decide_eq_true (c.ask 39 rfl)
  have z_list : PySem.W.nsIn K mainGlobals "list" = some none := of_decide_eq_true (c.ask 40 rfl)
  have z_len : PySem.W.nsIn K mainGlobals "len" = some none := of_decide_eq_true (c.ask 41 rfl)
  have z_abs : PySem.W.nsIn K mainGlobals "abs" = some none := of_decide_eq_true (c.ask 42 rfl)
  have z_all : PySem.W.nsIn K mainGlobals "all" = some none := of_decide_eq_true (c.ask 43 rfl)
  have z_any : PySem.W.nsIn K mainGlobals "any" = some none := of_decide_eq_true (c.ask 44 rfl)
  have z_sum : PySem.W.nsIn K mainGlobals "sum" = some none := of_decide_eq_true (c.ask 45 rfl)
  have z_enumerate : PySem.W.nsIn K mainGlobals "enumerate" = some none := of_decide_eq_true (c.ask 46 rfl)
  have z_divmod : PySem.W.nsIn K mainGlobals "divmod" = some none := of_decide_eq_true (c.ask 47 rfl)
  have z_range : PySem.W.nsIn K mainGlobals "range" = some none := of_decide_eq_true (c.ask 48 rfl)
  have z_max : PySem.W.nsIn K mainGlobals "max" = some none := of_decide_eq_true (c.ask 49 rfl)
  have z_min : PySem.W.nsIn K mainGlobals "min" = some none := of_decide_eq_true (c.ask 50 rfl)
  have z_zip : PySem.W.nsIn K mainGlobals "zip" = some none := of_decide_eq_true (c.ask 51 rfl)
  have z_repr : PySem.W.nsIn K mainGlobals "repr" = some none := of_decide_eq_true (c.ask 52 rfl)
  have z_sorted : PySem.W.nsIn K mainGlobals "sorted" = some none := of_decide_eq_true (c.ask 53 rfl)
  have z_dict : PySem.W.nsIn K mainGlobals "dict" = some none := of_decide_eq_true (c.ask 54 rfl)
  have B : Bi mg := ⟨PySem.W.mg_none_of X G z_isinstance, PySem.W.mg_none_of X G z_int, PySem.W.mg_none_of X G z_bool, PySem.W.mg_none_of X G z_str, PySem.W.mg_none_of X G z_tuple, PySem.W.mg_none_of X G z_list, PySem.W.mg_none_of X G z_len, PySem.W.mg_none_of X G z_abs, PySem.W.mg_none_of X G z_all, PySem.W.mg_none_of X G z_any, PySem.W.mg_none_of X G z_sum, PySem.W.mg_none_of X G z_enumerate, PySem.W.mg_none_of X G z_divmod, PySem.W.mg_none_of X G z_range, PySem.W.mg_none_of X G z_max, PySem.W.mg_none_of X G z_min, PySem.W.mg_none_of X G z_zip, PySem.W.mg_none_of X G z_repr⟩
  have e6 : PySem.W.specialIn K (.builtin "object.__class__") "__get__" = some (some (.builtin "getset_descriptor.__get__")) := of_decide_eq_true (c.ask 55 rfl)
  have e7 : PySem.W.takesIn K (.builtin "object.__class__") = some true := of_decide_eq_true (c.ask 56 rfl)
  have g7 : PySem.W.nsIn K mainGlobals "NoDay" = some (some (.ref (He.ga K "NoDay"))) := of_decide_eq_true (c.ask 57 rfl)
  have g16 : PySem.W.nsIn K mainGlobals "NoPerson" = some (some (.ref (He.ga K "NoPerson"))) := of_decide_eq_true (c.ask 58 rfl)
  have g21 : PySem.W.nsIn K mainGlobals "WordError" = some (some (.ref (He.ga K "WordError"))) := of_decide_eq_true (c.ask 59 rfl)
  have g22 : PySem.W.nsIn K mainGlobals "LostError" = some (some (.ref (He.ga K "LostError"))) := of_decide_eq_true (c.ask 60 rfl)
  have e7_1 : PySem.W.findIn K (.ref (He.ga K "NoDay")) "__getattribute__" = some (some (.builtin "BaseException.__getattribute__")) := of_decide_eq_true (c.ask 61 rfl)
  have e7_2 : PySem.W.findIn K (.ref (He.ga K "NoDay")) "__getattr__" = some none := of_decide_eq_true (c.ask 62 rfl)
  have e7_4 : PySem.W.hasDictIn K (He.ga K "NoDay") = true := of_decide_eq_true (c.ask 63 rfl)
  have e7_5 : PySem.W.findIn K (.ref (He.ga K "NoDay")) "__class__" = some (some (.builtin "object.__class__")) := of_decide_eq_true (c.ask 64 rfl)
  have e7_8 : PySem.W.mroIn K (He.ga K "NoDay") (.type "object") = some true := of_decide_eq_true (c.ask 65 rfl)
  have e7_b : PySem.W.subIn K (.ref (He.ga K "NoDay")) (.type "BaseException") = some true := of_decide_eq_true (c.ask 66 rfl)
  have e7_t : PySem.W.typeIn K (.ref (He.ga K "NoDay")) = some (.type "type") := of_decide_eq_true (c.ask 67 rfl)
  have e7_k : PySem.W.keepIn K (.ref (He.ga K "NoDay")) = true := of_decide_eq_true (c.ask 68 rfl)
  have e7_i : PySem.W.findIn K (.ref (He.ga K "NoDay")) "__init__" = some (some (.ref (He.ma K (He.ga K "NoDay") "__init__"))) := of_decide_eq_true (c.ask 69 rfl)
  have e7_ty : PySem.W.typeIn K (.ref (He.ma K (He.ga K "NoDay") "__init__")) = some (.type "function") := of_decide_eq_true (c.ask 70 rfl)
  have e7_sa : PySem.W.findIn K (.ref (He.ga K "NoDay")) "__setattr__" = some (some (.builtin "object.__setattr__")) := of_decide_eq_true (c.ask 71 rfl)
  have e7_no : PySem.W.findIn K (.ref (He.ga K "NoDay")) "thing" = some none := of_decide_eq_true (c.ask 72 rfl)
  have e7_m : PySem.W.exmOne K (.ref (He.ga K "NoDay")) (.ref (He.ga K "WordError")) = some true := of_decide_eq_true (c.ask 73 rfl)
  obtain ⟨fdE7, FE7⟩ := c.def_ 35 rfl
  have FI7 : L2.Fun K "__init__" "NoDay.__init__" sEDay (He.ma K (He.ga K "NoDay") "__init__") fdE7 := fun_of FE7
  have bI7 : Binds K fdE7 ["self", "thing"] [] := FI7.binds (ps := ["self", "thing"]) fun _ _ _ _ _ _ us hl => match us, hl with | [_, _], _ => rfl
  have T7 : ErC K mg "NoDay" "thing" (He.ga K "NoDay") (He.ma K (He.ga K "NoDay") "__init__") (He.ga K "WordError") := ⟨⟨oexB_ok (c.ask 74 (f := fun K => oexB K (He.ga K "NoDay")) rfl), e7_sa, e7_b, e7_t, e7_k⟩, e7_no, e7_i, e7_ty, PySem.W.mg_of X G g7, e7_m, ⟨e7_1, e7_2, e7_b, e7_4, e7_5, e6, e7, e7_8⟩, ⟨e7_1, e7_2, e7_b, e7_4⟩⟩
  have e16_1 : PySem.W.findIn K (.ref (He.ga K "NoPerson")) "__getattribute__" = some (some (.builtin "BaseException.__getattribute__")) := of_decide_eq_true (c.ask 75 rfl)
  have e16_2 : PySem.W.findIn K (.ref (He.ga K "NoPerson")) "__getattr__" = some none := of_decide_eq_true (c.ask 76 rfl)
  have e16_4 : PySem.W.hasDictIn K (He.ga K "NoPerson") = true := of_decide_eq_true (c.ask 77 rfl)
  have e16_5 : PySem.W.findIn K (.ref (He.ga K "NoPerson")) "__class__" = some (some (.builtin "object.__class__")) := of_decide_eq_true (c.ask 78 rfl)
  have e16_8 : PySem.W.mroIn K (He.ga K "NoPerson") (.type "object") = some true := of_decide_eq_true (c.ask 79 rfl)
  have e16_b : PySem.W.subIn K (.ref (He.ga K "NoPerson")) (.type "BaseException") = some true := of_decide_eq_true (c.ask 80 rfl)
  have e16_t : PySem.W.typeIn K (.ref (He.ga K "NoPerson")) = some (.type "type") := of_decide_eq_true (c.ask 81 rfl)
  have e16_k : PySem.W.keepIn K (.ref (He.ga K "NoPerson")) = true := of_decide_eq_true (c.ask 82 rfl)
  have e16_i : PySem.W.findIn K (.ref (He.ga K "NoPerson")) "__init__" = some (some (.ref (He.ma K (He.ga K "NoPerson") "__init__"))) := of_decide_eq_true (c.ask 83 rfl)
  have e16_ty : PySem.W.typeIn K (.ref (He.ma K (He.ga K "NoPerson") "__init__")) = some (.type "function") := of_decide_eq_true (c.ask 84 rfl)
  have e16_sa : PySem.W.findIn K (.ref (He.ga K "NoPerson")) "__setattr__" = some (some (.builtin "object.__setattr__")) := of_decide_eq_true (c.ask 85 rfl)
  have e16_no : PySem.W.findIn K (.ref (He.ga K "NoPerson")) "name" = some none := of_decide_eq_true (c.ask 86 rfl)
  have e16_m : PySem.W.exmOne K (.ref (He.ga K "NoPerson")) (.ref (He.ga K "LostError")) = some true := of_decide_eq_true (c.ask 87 rfl)
  obtain ⟨fdE16, FE16⟩ := c.def_ 36 rfl
  have FI16 : L2.Fun K "__init__" "NoPerson.__init__" sEPer (He.ma K (He.ga K "NoPerson") "__init__") fdE16 := fun_of FE16
  have bI16 : Binds K fdE16 ["self", "name"] [] := FI16.binds (ps := ["self", "name"]) fun _ _ _ _ _ _ us hl => match us, hl with | [_, _], _ => rfl
  have T16 : ErL K mg "NoPerson" "name" (He.ga K "NoPerson") (He.ma K (He.ga K "NoPerson") "__init__") (He.ga K "LostError") := ⟨⟨oexTB_ok (c.ask 88 (f := fun K => oexTB "LookupError.__new__" [.type "LookupError", .type "Exception", .type "BaseException", .type "object"] K (He.ga K "NoPerson")) rfl), e16_sa, e16_b, e16_t, e16_k⟩, e16_no, e16_i, e16_ty, PySem.W.mg_of X G g16, e16_m, ⟨e16_1, e16_2, e16_b, e16_4, e16_5, e6, e7, e16_8⟩, ⟨e16_1, e16_2, e16_b, e16_4⟩⟩
  have gW : PySem.W.nsIn K mainGlobals "WORDS" = some (some (.ref (He.ga K "WORDS"))) := of_decide_eq_true (c.ask 89 rfl)
  have TN : NmF K mg (He.ga K "WORDS") := ⟨He.str_ok X G (c.ask 90 (f := fun K => (He.Fa.str "LETTERS" "abcdefghijklmnopqrstuvwxyz").ok K) rfl), He.int_ok X G (c.ask 91 (f := fun K => (He.Fa.int "LONGEST" 8).ok K) rfl), PySem.W.mg_of X G gW, fun H => He.tupB_ok (c.ask 92 (f := fun K => He.tupB K "WORDS" [.str "all", .str "and", .str "children", .str "childless", .str "crown", .str "else", .str "if", .str "lives", .str "not", .str "of", .str "or", .str "stock", .str "to"]) rfl) H⟩
  have gC : PySem.W.nsIn K mainGlobals "COND_WORDS" = some (some (.ref (He.ga K "COND_WORDS"))) := of_decide_eq_true (c.ask 93 rfl)
  obtain ⟨t_MOST_DEEP, g_MOST_DEEP⟩ := He.int_ok X G (c.ask 95 (f := fun K => (He.Fa.int "MOST_DEEP" 6).ok K) rfl)
  obtain ⟨t_FEWEST_TERMS, g_FEWEST_TERMS⟩ := He.int_ok X G (c.ask 96 (f := fun K => (He.Fa.int "FEWEST_TERMS" 2).ok K) rfl)
  obtain ⟨t_MOST_TERMS, g_MOST_TERMS⟩ := He.int_ok X G (c.ask 97 (f := fun K => (He.Fa.int "MOST_TERMS" 6).ok K) rfl)
  obtain ⟨t_MOST_NAMES, g_MOST_NAMES⟩ := He.int_ok X G (c.ask 98 (f := fun K => (He.Fa.int "MOST_NAMES" 12).ok K) rfl)
  obtain ⟨t_LAST_DAY, g_LAST_DAY⟩ := He.int_ok X G (c.ask 99 (f := fun K => (He.Fa.int "LAST_DAY" 9999).ok K) rfl)
  obtain ⟨t_MOST_SUM, g_MOST_SUM⟩ := He.int_ok X G (c.ask 100 (f := fun K => (He.Fa.int "MOST_SUM" 1000000000).ok K) rfl)
  obtain ⟨t_MOST_PEOPLE, g_MOST_PEOPLE⟩ := He.int_ok X G (c.ask 101 (f := fun K => (He.Fa.int "MOST_PEOPLE" 8).ok K) rfl)
  obtain ⟨t_MOST_GOODS, g_MOST_GOODS⟩ := He.int_ok X G (c.ask 102 (f := fun K => (He.Fa.int "MOST_GOODS" 8).ok K) rfl)
  obtain ⟨t_MOST_DEATHS, g_MOST_DEATHS⟩ := He.int_ok X G (c.ask 103 (f := fun K => (He.Fa.int "MOST_DEATHS" 8).ok K) rfl)
  have TCo : CoF K mg (He.ga K "COND_WORDS") := ⟨PySem.W.mg_of X G gC, fun H => He.tupB_ok (c.ask 94 (f := fun K => He.tupB K "COND_WORDS" [.str "lives", .str "childless", .str "not", .str "and", .str "or"]) rfl) H, ⟨_, g_MOST_DEEP⟩, ⟨_, g_FEWEST_TERMS⟩, ⟨_, g_MOST_TERMS⟩, ⟨_, g_MOST_NAMES⟩⟩
  have gH : PySem.W.nsIn K mainGlobals "House" = some (some (.ref (He.ga K "House"))) := of_decide_eq_true (c.ask 104 rfl)
  obtain ⟨fdIH, FD0H⟩ := c.def_ 37 rfl
  have FDH : FunD K "__init__" "House.__init__" (defArgs sHI) (defBody sHI) (defScope sHI) [.non, .int 0, .int 0] [] (He.ma K (He.ga K "House") "__init__") fdIH := FD0H
  have MH : Mk K (He.ga K "House") (He.ma K (He.ga K "House") "__init__") := He.mkr_ok (c.ask 105 (f := fun K => (He.Fa.mkr "House").ok K) rfl)
  obtain ⟨dsH, vH, bH⟩ := FDH.binds1 (ps := ["self", "people", "goods", "purse", "debts"]) 2 0 (by simp) rfl fun _ _ _ _ _ _ _ us its hu hi => match us, hu, its, hi with | [_, _], _, [_, _, _], _ => ⟨_, rfl, rfl⟩
  obtain ⟨dsH5, vH5, bH5⟩ := FDH.binds1 (ps := ["self", "people", "goods", "purse", "debts"]) 5 3 (by simp) rfl fun _ _ _ _ _ _ _ us its hu hi => match us, hu, its, hi with | [_, _, _, _, _], _, [_, _, _], _ => ⟨_, rfl, rfl⟩
  have gY : PySem.W.nsIn K mainGlobals "Story" = some (some (.ref (He.ga K "Story"))) := of_decide_eq_true (c.ask 106 rfl)
  obtain ⟨fdIY, FD0Y⟩ := c.def_ 38 rfl
  have FDY : FunD K "__init__" "Story.__init__" (defArgs sSI) (defBody sSI) (defScope sSI) [.non] [] (He.ma K (He.ga K "Story") "__init__") fdIY := FD0Y
  have MY : Mk K (He.ga K "Story") (He.ma K (He.ga K "Story") "__init__") := He.mkr_ok (c.ask 107 (f := fun K => (He.Fa.mkr "Story").ok K) rfl)
  obtain ⟨dsY, vY, bY⟩ := FDY.binds1 (ps := ["self", "deaths"]) 2 1 (by simp) rfl fun _ _ _ _ _ _ _ us its hu hi => match us, hu, its, hi with | [_, _], _, [_], _ => ⟨_, rfl, rfl⟩
  have TH : HsF K (He.ga K "House") := ⟨He.cls_ok (c.ask 108 (f := fun K => (He.Fa.cls "House").ok K) rfl), He.noat_ok (c.ask 109 (f := fun K => (He.Fa.noat "House" "folk").ok K) rfl), He.noat_ok (c.ask 110 (f := fun K => (He.Fa.noat "House" "things").ok K) rfl), He.noat_ok (c.ask 111 (f := fun K => (He.Fa.noat "House" "purse").ok K) rfl), He.noat_ok (c.ask 112 (f := fun K => (He.Fa.noat "House" "debts").ok K) rfl)⟩
  have TY : SyF K (He.ga K "Story") := ⟨He.cls_ok (c.ask 113 (f := fun K => (He.Fa.cls "Story").ok K) rfl), He.noat_ok (c.ask 114 (f := fun K => (He.Fa.noat "Story" "deaths").ok K) rfl)⟩
  have gDM : PySem.W.nsIn K mainGlobals "comes" = some (some (.ref (He.ga K "comes"))) := of_decide_eq_true (c.ask 115 rfl)
  obtain ⟨fdDM, FD0M⟩ := c.def_ 39 rfl
  have FDM : FunD K "comes" "comes" (defArgs sComes) (defBody sComes) (defScope sComes) [.int 0] [] (He.ga K "comes") fdDM := FD0M
  obtain ⟨dsM, vM, bM⟩ := FDM.binds1 (ps := ["house", "cond", "story", "wait"]) 4 1 (by simp) rfl fun _ _ _ _ _ _ _ us its hu hi => match us, hu, its, hi with | [_, _, _, _], _, [_], _ => ⟨_, rfl, rfl⟩
  obtain ⟨dsM3, vM3, bM3⟩ := FDM.binds1 (ps := ["house", "cond", "story", "wait"]) 3 0 (by simp) rfl fun _ _ _ _ _ _ _ us its hu hi => match us, hu, its, hi with | [_, _, _], _, [_], _ => ⟨_, rfl, rfl⟩
  obtain ⟨fdMp, FM0p⟩ := c.def_ 40 rfl
  have MTp : Meth K (He.ga K "House") "people" (He.ma K (He.ga K "House") "people") := He.meth_ok (c.ask 116 (f := fun K => (He.Fa.meth "House" "people").ok K) rfl)
  have FMp : L2.Fun K "people" "House.people" sPeo (He.ma K (He.ga K "House") "people") fdMp := fun_of FM0p
  have bMp : Binds K fdMp ["self"] [] := FMp.binds (ps := ["self"]) fun _ _ _ _ _ _ us hl => match us, hl with | [_], _ => rfl
  obtain ⟨fdMq, FM0q⟩ := c.def_ 41 rfl
  have MTq : Meth K (He.ga K "House") "person" (He.ma K (He.ga K "House") "person") := He.meth_ok (c.ask 117 (f := fun K => (He.Fa.meth "House" "person").ok K) rfl)
  have FMq : L2.Fun K "person" "House.person" sPers (He.ma K (He.ga K "House") "person") fdMq := fun_of FM0q
  have bMq : Binds K fdMq ["self", "name"] [] := FMq.binds (ps := ["self", "name"]) fun _ _ _ _ _ _ us hl => match us, hl with | [_, _], _ => rfl
  obtain ⟨fdMc, FM0c⟩ := c.def_ 42 rfl
  have MTc : Meth K (He.ga K "House") "children" (He.ma K (He.ga K "House") "children") := He.meth_ok (c.ask 118 (f := fun K => (He.Fa.meth "House" "children").ok K) rfl)
  have FMc : L2.Fun K "children" "House.children" sChi (He.ma K (He.ga K "House") "children") fdMc := fun_of FM0c
  have bMc : Binds K fdMc ["self", "name"] [] := FMc.binds (ps := ["self", "name"]) fun _ _ _ _ _ _ us hl => match us, hl with | [_, _], _ => rfl
  obtain ⟨fdMd, FM0d⟩ := c.def_ 43 rfl
  have MTd : Meth K (He.ga K "Story") "died" (He.ma K (He.ga K "Story") "died") := He.meth_ok (c.ask 119 (f := fun K => (He.Fa.meth "Story" "died").ok K) rfl)
  have FMd : L2.Fun K "died" "Story.died" sDied (He.ma K (He.ga K "Story") "died") fdMd := fun_of FM0d
  have bMd : Binds K fdMd ["self", "name"] [] := FMd.binds (ps := ["self", "name"]) fun _ _ _ _ _ _ us hl => match us, hl with | [_, _], _ => rfl
  obtain ⟨fdMl, FM0l⟩ := c.def_ 44 rfl
  have MTl : Meth K (He.ga K "Story") "lives" (He.ma K (He.ga K "Story") "lives") := He.meth_ok (c.ask 120 (f := fun K => (He.Fa.meth "Story" "lives").ok K) rfl)
  have FDl : FunD K "lives" "Story.lives" (defArgs sLiv) (defBody sLiv) (defScope sLiv) [.int 0] [] (He.ma K (He.ga K "Story") "lives") fdMl := FM0l
  obtain ⟨dsl, vl, bl0⟩ := FDl.binds1 (ps := ["self", "name", "more"]) 3 1 (by simp) rfl fun _ _ _ _ _ _ _ us its hu hi => match us, hu, its, hi with | [_, _, _], _, [_], _ => ⟨_, rfl, rfl⟩
  have bLl : Binds K fdMl ["self", "name", "more"] [] := by
    have v : Vals [] dsl := vl
    cases v
    exact bl0
  have bM4 : Binds K fdDM pCo [] := by
    have v : Vals [] dsM := vM
    cases v
    exact bM
  have bH50 : Binds K fdIH ["self", "people", "goods", "purse", "debts"] [] := by
    have v : Vals [] dsH5 := vH5
    cases v
    exact bH5
  have k3 : KBn K fdDM pCo 3 ["wait"] (fun us ws => us ++ ws) (fun vs zs => vs ++ zs) := kbn_of FDM 3 ["wait"] (fun us ws => us ++ ws) (fun vs zs => vs ++ zs) (by simp) (fun _ _ _ _ _ _ _ us its ws hu hi hw => match us, hu, its, hi, ws, hw with | [_, _, _], _, [_], _, [_], _ => ⟨_, rfl, rfl⟩) (fun r1 r2 => r1.append r2)
  have e := hfa.symm.trans (PySem.W.mg_of X G a35)
  cases e
  refine ⟨fd35, fun s v => FunD.bindsA (ps := ["_law_script"]) FF35 (fun _ _ _ _ _ _ us hl => match us, hl with | [_], _ => rfl) s [v] rfl, fun base _ _ => ?_⟩
  have GN : ∀ k, FnOk P w K mg base CX0 (k + 1) _ _ ["thing"] (spName K) := fun k => ok_name (k := k) B TN D1
  have GW : ∀ k, FnOk P w K mg base CX0 (k + 1) _ _ ["thing", "words"] (spWord K) := fun k => ok_word (k := k) B D2
  have GD : ∀ k, FnOk P w K mg base CX0 (k + 2) _ _ ["thing"] (spDay K) := fun k => ok_day (k := k) B (g_LAST_DAY) D5 D3
  have GLv : FnOk P w K mg base CX0 3 _ _ ["thing"] (spLives K) := ok_lives (k := 0) B D12 D1 D5 (GN 1) (GD 0)
  have GF : FnOk P w K mg base CX0 10 _ _ ["thing", "room"] (spForm K 6) := ok_form (k := 0) B TCo D13 D1 D12 D2 (GN 1) GLv (GW 0) 6
  have GCo : FnOk P w K mg base CX0 11 _ _ ["thing"] (spB K condB) := ok_cond (k := 0) B TCo D15 D13 D14 GF
  have GCN : FnOk P w K mg base CX0 12 _ _ ["thing"] (spB K condNB) := ok_condN (k := 0) D16 D15 GCo
  have GPo1 : FnOk P w K mg base CX0 1 _ _ ["self"] (spPeo K (He.ga K "House")) := ok_peo (k := 0) B TH FMp
  have GCk : FnOk P w K mg base (L2.CX P w) 3 _ _ ["house", "names"] (spCkP K (He.ga K "House") (He.ga K "NoPerson")) := ok_ckP (k := 0) TH T16 FI16 bI16 D19 MTp bMp GPo1
  have GNm : FnOk P w K mg base CX0 8 _ _ ["cond"] (spCN K) := ok_CN (k := 0) B D18 D14
  have GRw : FnOk P w K mg base CX0 2 _ _ ["rows", "name"] (spRow K) := ok_row (k := 0) D17 D2 (GW 0)
  have GPr : FnOk P w K mg base CX0 3 _ _ ["self", "name"] (spPers K (He.ga K "House")) := ok_pers (k := 0) TH FMq D17 GRw
  have GKi : FnOk P w K mg base CX0 4 _ _ ["self", "name"] (spKids K (He.ga K "House")) := ok_kids (k := 0) B TH FMc MTq bMq GPr
  have GDi : FnOk P w K mg base CX0 2 _ _ ["self", "name"] (spDied K (He.ga K "Story")) := ok_died (k := 0) TY FMd (GN 0) D1
  have GLi : FnOk P w K mg base CX0 3 _ _ ["self", "name", "more"] (spLiv K (He.ga K "Story")) := ok_liv (k := 0) TY FDl MTd bMd GDi (GD 0) D5
  have GHc : FnOk P w K mg base CX0 11 _ _ ["house", "cond", "story", "wait"] (spHC K (He.ga K "House") (He.ga K "Story") 6) := ok_hc (k := 0) B TH TY D20 MTc bMc GKi MTl bLl GLi 6
  have GCm0 : FnOk P w K mg base (L2.CX P w) 13 _ _ ["house", "cond", "story", "wait"] (spComes K (He.ga K "House") (He.ga K "Story") (He.ga K "NoDay") (He.ga K "NoPerson")) := ok_comes T7 FI7 bI7 FDM GCN D16 (GD 0) D5 GNm D18 GCk D19 GHc D20
  have GCm : FnOk P w K mg base (L2.CX P w) 14 _ _ pCo (SpCm K (He.ga K "House") (He.ga K "Story") (He.ga K "NoDay") (He.ga K "NoPerson")) := (GCm0.mono (by decide)).imp fun _ _ _ _ h => h.it
  have gCm := PySem.W.mg_of X G gDM
  have GT : ∀ k, FnOk P w K mg base CX0 (k + 1) _ _ ["_law_pool_here", "_law_many"] spTake := fun k => ok_take (k := k) B D22
  have GO : FnOk P w K mg base CX0 16 _ _ ["_law_script", "_law_k"] (spPool K) := ok_pool (k := 15) B D21
  have GWo : FnOk P w K mg base CX0 13 _ _ ["_law_pool_here", "_law_many"] spWords := ok_words (k := 11) B D23 D22 (GT 11)
  have GHo : FnOk P w K mg base CX0 14 _ _ ["_law_pool_here", "_law_most"] (spHome K) := ok_home (k := 11) B D24 D22 D23 (GT 11) GWo
  have GAt : FnOk P w K mg base CX0 13 _ _ pAt (spAt K) := ok_at (k := 11) B D25 D22 (GT 11)
  have GLc : FnOk P w K mg base CX0 14 _ _ pAt (spLc K) := ok_lc (k := 11) B D26 D22 D25 (GT 11) GAt
  have GDe : FnOk P w K mg base CX0 14 _ _ ["_law_pool_here", "_law_folk", "_law_dawns"] (spDeaths K) := ok_deaths (k := 12) B (PySem.W.mg_none_of X G z_sorted) D27 D22 (GT 12)
  have GAw : FnOk P w K mg base CX0 15 _ _ pAw (spAw K (He.ga K "House") (He.ga K "Story")) := ok_aw B D28 gCm FDM.kp GCm bM4
  have GAr : FnOk P w K mg base CX0 15 _ _ pAr (spAr K (He.ga K "House") (He.ga K "Story")) := ok_ar B D29 gCm FDM.kp GCm bM4 bM3 vM3
  have GAf : FnOk P w K mg base CX0 14 _ _ pAf (spAf K) := ok_af (k := 12) B D30 D22 (GT 12)
  have GRi : FnOk P w K mg base CX0 14 _ _ pRi (spRi K) := ok_ri (k := 12) B D31 D22 (GT 12)
  have GPl : FnOk P w K mg base CX0 14 _ _ pPl (spPl K) := ok_pl (k := 12) B D32 D22 (GT 12)
  have GNd : FnOk P w K mg base CX0 14 _ _ pNd (spNd K 4) := ok_nd (k := 9) B D33 4
  have GPe : FnOk P w K mg base CX0 12 _ _ ["thing", "ahead"] (spPerson K) := ok_person (k := 10) B (GN 10) (GW 10) D6 D1 D2
  have GCP : FnOk P w K mg base (L2.CX P w) 13 _ _ ["people"] (spChkP K) := ok_chkP (k := 10) B (g_MOST_PEOPLE) GPe D7 D6
  have GCG : FnOk P w K mg base (L2.CX P w) 11 _ _ ["goods"] (spChk0 K) := ok_chkG0 (k := 10) B (g_MOST_GOODS) D9
  have GZ : FnOk P w K mg base CX0 12 _ _ ["thing"] spZero := ok_zero (k := 10) B (g_MOST_SUM) D4 D3
  have GH : FnOk P w K mg base (L2.CX P w) 14 _ _ ["self", "people", "goods", "purse", "debts"] (spHIa K (He.ga K "House")) := ok_HIa (k := 10) B TH FDH GCP D7 GCG D9 GZ D4
  have GSg : FnOk P w K mg base CX0 11 _ _ ["thing"] spSumG := ok_sumG (k := 9) B (g_MOST_SUM) D4 D3
  have GGd : FnOk P w K mg base CX0 12 _ _ ["thing", "ahead"] (spGood K) := ok_good (k := 9) B (GN 10) GSg D8 D1 D4
  have GCg : FnOk P w K mg base (L2.CX P w) 13 _ _ ["goods"] (spChkG K) := ok_chkG (k := 9) B (g_MOST_GOODS) GGd D9 D8
  have GHg : FnOk P w K mg base (L2.CX P w) 14 _ _ ["self", "people", "goods", "purse", "debts"] (spHIg K (He.ga K "House")) := ok_HIg (k := 9) B TH FDH GCP D7 GCg D9 GSg D4
  have GDh : FnOk P w K mg base CX0 12 _ _ ["thing", "ahead"] (spDeath K) := ok_death (k := 9) B (GN 10) (GD 9) D10 D1 D5
  have GCD : FnOk P w K mg base (L2.CX P w) 13 _ _ ["deaths"] (spChkD K) := ok_chkD (k := 9) B (g_MOST_DEATHS) GDh D11 D10
  have GY : FnOk P w K mg base (L2.CX P w) 14 _ _ ["self", "deaths"] (spSIa K (He.ga K "Story")) := ok_SIa (k := 9) TY FDY GCD D11
  have GR5 : FnOk P w K mg base CX0 16 _ _ pR5 (spR5 K) := ok_r5 B (PySem.W.mg_none_of X G z_sorted) (PySem.W.mg_none_of X G z_dict) D34 D22 (GT 13) D24 GHo D27 GDe D26 GLc MH (PySem.W.mg_of X G gH) GH GHg bH vH bH50 MY (PySem.W.mg_of X G gY) GY bY vY D28 GAw D29 GAr D30 GAf D31 GRi D32 GPl D33 GNd gCm FDM.kp GCm bM4 bM3 vM3 k3
  exact ok_law B D35 D21 D34 GO GR5
end WdQ

set_option Elab.async false
set_option linter.all false
set_option maxRecDepth 100000
set_option maxHeartbeats 0
namespace WdQ
open PySem PySem.Spec PyProof.Rows L2 Wd
end WdQ
open PySem PySem.W PySem.Calls PyProof.Rows
set_option maxRecDepth 100000 in
set_option maxHeartbeats 0 in
theorem PySem.Challenge.cw_willdealt_k15_whole_conditions_hang_toge_holds : PySem.Challenge.rw_willdealt_k15_whole_conditions_hang_toge.Holds := by
  w_on; o_law
  refine HandSHeadRun.head_any (r := OpenLaw.row PySem.Challenge.rw_willdealt_k15_whole_conditions_hang_toge) (q := view (OpenLaw.row PySem.Challenge.rw_willdealt_k15_whole_conditions_hang_toge).prog [71]) (H := WdQ.hkN) (ob := WdQ.obN) (M := 12000) (loose := WdQ.looseN) (d := HandSHeadRun.topDef (OpenLaw.row PySem.Challenge.rw_willdealt_k15_whole_conditions_hang_toge).prog 71) (kwd := []) WdQ.obN_eq
    (by kernel_rfl) (fun s => by kernel_rfl) WdQ.runN (by kernel_rfl) (by kernel_rfl) (by kernel_rfl) (by rfl) (by first | assumption | decide +kernel) (by decide +kernel) ⟨rfl, rfl, rfl, rfl, rfl, by decide +kernel⟩ ?hw ?hc
  case hw => w_witness2
  case hc =>
    refine L2.walk_ofE (l := PySem.Challenge.rw_willdealt_k15_whole_conditions_hang_toge) (n := 63) (k := 17) (x := "_law_script") (CX := L2.CX0) rfl (by decide) (by kernel_rfl) ⟨rfl, by decide, by decide⟩ ?F (fun _ _ _ _ z => z)
    intro w mg fa h Y G hmg0
    obtain ⟨K, KX, c⟩ := Y
    have hmg : mg ("law" : PySem.Str) = some (.ref fa) := by
      have e : (HandSHeadRun.topDef (OpenLaw.row PySem.Challenge.rw_willdealt_k15_whole_conditions_hang_toge).prog 71).name = ("law" : PySem.Str) := by kernel_rfl
      rw [← e]
      exact hmg0
    obtain ⟨fd, hb, hF⟩ := WdQ.factsN (P := (PySem.Challenge.rw_willdealt_k15_whole_conditions_hang_toge).prog) (w := w) KX G hmg c
    exact ⟨K, fd, WdQ.spLaw K, KX, hb, fun H a ns hl _ hS => ⟨a, ns, rfl, hS, hl, fun _ => rfl⟩, hF⟩


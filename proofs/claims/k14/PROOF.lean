import PyProof.Rows.All
import Wide.All
import OpenK.AllK
import Wide.FinOn
import KE.KStateDown
import HandS.Base
import HandS.Call
import HandS.Ends
import HandS.More
import HandS.Words
import HandS.WordsExc
import HandS.Defaults
import HandS.ExcInit
import HandS.ExcField
import HandS.Head0
import HandS.Head1
import HandS.Head2
import HandS.HeadEnd
import HandS.HeadHook1
import HandS.HeadHook2
import KE.GoesMore
import KE.GoesEnum
import KE.KTupSum
import KE.KRevSl
import HandS.ForMost
import HandS.Walk
import HandS.IsInst
import HandS.Wide
import HandS.WideBits
import HandS.TupAny
import HandS.Exc
import HandS.ExcOwn
import HandS.ExcIs
import HandS.CallSlots
import HandS.TupMul
import KE.KExcIs
import PyProof.FactsAll.list_3
import PyProof.Draws
import KE.KExcInit
import HandS.OwnEq
import HandS.FStr
import KE.KCallOwn
import KE.KFmtOwn
import PyProof.InstNe
import HandS.Zip
import PySem.Challenge.RW_willdealt_k14_when_conditions_come
set_option Elab.async false
set_option linter.all false
set_option maxRecDepth 100000
set_option maxHeartbeats 4000000
namespace Wd
open PySem PySem.Spec PyProof.Rows L2 He
/-! ### a head by facts: a row of questions about the written part, and the defs -/
abbrev Ask := PySem.W.Frag → Bool
def obsW (as : List Ask) (fn : List DefD) (K : PySem.W.Frag) : AlD := ((as.all fun f => f K) && fn.all fun d => d.ok K, fn.map fun d => fnW K d.at_)
def SaysW (as : List Ask) (fn : List DefD) (K : PySem.W.Frag) : Prop := obsW as fn K = valD fn
def obsWG (n : Nat) (as : List Ask) (fn : List DefD) (g : Addr → Option Obj) : AlD := obsW as fn (frG g (asD g n))
def hookW (n : Nat) (as : List Ask) (fn : List DefD) : PySem.W.Hook where
  α := AlD
  obs := fun s => obsWG n as fn s.heap.get?
  val := fun _ => valD fn
  says := fun _ h => ∃ K : PySem.W.Frag, K.In h ∧ SaysW as fn K
  of := fun _ _ e => ⟨_, frG_in, e⟩
  keeps := fun _ _ _ ⟨K, hK, c⟩ k => ⟨K, PySem.W.Frag.In.keeps hK k, c⟩
theorem obsWG_eq {n : Nat} {as : List Ask} {fn : List DefD} {g : Addr → Option Obj} {s : Shared} (h : ∀ a, g a = s.heap.get? a) : obsWG n as fn g = (hookW n as fn).obs s := by
  have e : g = s.heap.get? := funext h
  rw [e] <;> rfl
section
variable {as : List Ask} {fn : List DefD} {K : PySem.W.Frag}
theorem SaysW.ask (c : SaysW as fn K) (i : Nat) {f : Ask} (h : as[i]? = some f := by rfl) : f K = true := by
  have c1 := (ba (show ((as.all fun f => f K) && fn.all fun d => d.ok K) = true from congrArg (fun z : AlD => z.1) c)).1
  exact List.all_eq_true.mp c1 f (List.mem_of_getElem? h)
theorem SaysW.def_ (c : SaysW as fn K) (i : Nat) {d : DefD} (h : fn[i]? = some d := by rfl) : ∃ fd, FunD K d.name d.qual d.params d.body d.scope (d.dvs K) (d.kws K) (fAd K d.at_) fd := by
  have c2 := (ba (show ((as.all fun f => f K) && fn.all fun d => d.ok K) = true from congrArg (fun z : AlD => z.1) c)).2
  have e : fn.map (fun d => fnW K d.at_) = fn.map DefD.val := congrArg (fun z : AlD => z.2) c
  have e2 : (fn.map fun d => fnW K d.at_)[i]? = (fn.map DefD.val)[i]? := by rw [e]
  rw [List.getElem?_map, List.getElem?_map, h] at e2
  exact DefD.funD (Option.some.inj e2) (List.all_eq_true.mp c2 d (List.mem_of_getElem? h))
end
theorem obsW_app {as1 as2 : List Ask} {fn1 fn2 : List DefD} {K : PySem.W.Frag} (h1 : obsW as1 fn1 K = valD fn1) (h2 : obsW as2 fn2 K = valD fn2) : obsW (as1 ++ as2) (fn1 ++ fn2) K = valD (fn1 ++ fn2) := by
  have a1 : ((as1.all fun f => f K) && fn1.all fun d => d.ok K) = true := congrArg (fun z : AlD => z.1) h1
  have a2 : ((as2.all fun f => f K) && fn2.all fun d => d.ok K) = true := congrArg (fun z : AlD => z.1) h2
  have b1 : fn1.map (fun d => fnW K d.at_) = fn1.map DefD.val := congrArg (fun z : AlD => z.2) h1
  have b2 : fn2.map (fun d => fnW K d.at_) = fn2.map DefD.val := congrArg (fun z : AlD => z.2) h2
  obtain ⟨p1, p2⟩ := ba a1
  obtain ⟨q1, q2⟩ := ba a2
  unfold obsW valD
  rw [List.all_append, List.all_append, List.map_append, List.map_append, p1, p2, q1, q2, b1, b2]
  rfl
/-- two runs with a part of the questions each are one with both -/
theorem run_app {r : PySem.W.OpenRow} {q : Program} {n M : Nat} {as1 as2 : List Ask} {fn1 fn2 : List DefD} {loose : List Str} {w : World}
    (h1 : HandSHeadRun.RunEq r q (hookW n as1 fn1) (fun s => obsWG n as1 fn1 (HandSHeadRun.getT s)) M loose w) (h2 : HandSHeadRun.RunEq r q (hookW n as2 fn2) (fun s => obsWG n as2 fn2 (HandSHeadRun.getT s)) M loose w) :
    HandSHeadRun.RunEq r q (hookW n (as1 ++ as2) (fn1 ++ fn2)) (fun s => obsWG n (as1 ++ as2) (fn1 ++ fn2) (HandSHeadRun.getT s)) M loose w := by
  intro os
  have e1 := h1 os
  have e2 := h2 os
  revert e1 e2
  generalize HandSHeadRun.endF _ _ _ _ _ = z
  intro e1 e2
  cases z with
  | none => cases e1
  | some s =>
    have e1 := Option.some.inj e1
    have e2 := Option.some.inj e2
    have l : _ = true := congrArg (fun z => z.1) e1
    have m := congrArg (fun z => z.2.1) e1
    have o1 : obsWG n as1 fn1 (HandSHeadRun.getT s) = valD fn1 := congrArg (fun z => z.2.2) e1
    have o2 : obsWG n as2 fn2 (HandSHeadRun.getT s) = valD fn2 := congrArg (fun z => z.2.2) e2
    have o : obsWG n (as1 ++ as2) (fn1 ++ fn2) (HandSHeadRun.getT s) = valD (fn1 ++ fn2) := obsW_app o1 o2
    exact congrArg some (Prod.ext l (Prod.ext m o))
/-! ### the run asked in parts, each a run of its own (less is held at a time) -/
def LkEq (r : PySem.W.OpenRow) (M : Nat) (w : World) : Prop := ∀ os : OsState, (HandSHeadRun.endF (HandSHeadRun.stepQ (HandSHeadRun.denQ HandSHeadRun.tabQ) r.prog w) M r.prog w os).map (fun s => HandSHeadRun.looksF r.prog (PySem.W.boot_heap w.params) s.abs) = some true
def SnEq (r : PySem.W.OpenRow) (q : Program) (M : Nat) (loose : List Str) (w : World) : Prop := ∀ os : OsState, (HandSHeadRun.endF (HandSHeadRun.stepQ (HandSHeadRun.denQ HandSHeadRun.tabQ) r.prog w) M r.prog w os).map (fun s => HandSHeadRun.seenQ q loose (importedModules r.prog.main.body) (fun s => PySem.W.xlAt q [] s && PySem.W.recOk r.toRowW.records s) s.abs) = some (PySem.W.openGood q loose)
def ObEq (r : PySem.W.OpenRow) (n M : Nat) (as : List Ask) (fn : List DefD) (w : World) : Prop := ∀ os : OsState, (HandSHeadRun.endF (HandSHeadRun.stepQ (HandSHeadRun.denQ HandSHeadRun.tabQ) r.prog w) M r.prog w os).map (fun s => obsWG n as fn (HandSHeadRun.getT s)) = some (valD fn)
theorem ob_app {r : PySem.W.OpenRow} {n M : Nat} {as1 as2 : List Ask} {fn1 fn2 : List DefD} {w : World} (h1 : ObEq r n M as1 fn1 w) (h2 : ObEq r n M as2 fn2 w) : ObEq r n M (as1 ++ as2) (fn1 ++ fn2) w := by
  intro os
  have e1 := h1 os
  have e2 := h2 os
  revert e1 e2
  generalize HandSHeadRun.endF _ _ _ _ _ = z
  intro e1 e2
  cases z with
  | none => cases e1
  | some s => exact congrArg some (obsW_app (Option.some.inj e1) (Option.some.inj e2))
theorem run_of3 {r : PySem.W.OpenRow} {q : Program} {n M : Nat} {as : List Ask} {fn : List DefD} {loose : List Str} {w : World} (a : LkEq r M w) (b : SnEq r q M loose w) (c : ObEq r n M as fn w) :
    HandSHeadRun.RunEq r q (hookW n as fn) (fun s => obsWG n as fn (HandSHeadRun.getT s)) M loose w := by
  intro os
  have e1 := a os
  have e2 := b os
  have e3 := c os
  revert e1 e2 e3
  generalize HandSHeadRun.endF _ _ _ _ _ = z
  intro e1 e2 e3
  cases z with
  | none => cases e1
  | some s => exact congrArg some (Prod.ext (Option.some.inj e1) (Prod.ext (Option.some.inj e2) (Option.some.inj e3)))
/-- a def without defaults -/
theorem fun_of {K : PySem.W.Frag} {x q : Str} {st : Stmt} {f : Addr} {fd : FuncData} (F : FunD K x q (defArgs st) (defBody st) (defScope st) [] [] f fd) : L2.Fun K x q st f fd := by
  obtain ⟨⟨oc, od, dV, kV, doc, pm, an, cdv, ct, osl, rfl, lk, hcd, hd, _⟩, kp⟩ := F
  rcases hd with ⟨_, rfl⟩ | ⟨e, _⟩
  · exact ⟨⟨oc, od, kV, doc, pm, an, cdv, ct, osl, rfl, lk, hcd⟩, kp⟩
  · exact absurd rfl e
/-- an own error with an __init__ of its own, over ValueError -/
def oexB (K : PySem.W.Frag) (C : Addr) : Bool := match K.lookup C with
  | some ⟨.type "type", _, .cls cd, sl⟩ => (match cd.mro, sl.toList with
    | .ref C' :: bm, [_, _, _, _, some (.builtin n), _] => C' == C && n == "ValueError.__new__" && !cd.hasDel && cd.hasDict && PySem.HandSPX.refsVE bm
    | _, _ => false)
  | _ => false
theorem oexB_ok {K : PySem.W.Frag} {C : Addr} (q : oexB K C = true) : ∃ nm q N bs bm sn sub ab col dd k0 k1 k2 k3 k5, K.lookup C = some (excClassObj nm q C N bs bm true sn sub ab col dd k0 k1 k2 k3 k5 "ValueError.__new__") ∧ PySem.HandSPX.refsVE bm = true := by
  unfold oexB at q
  split at q
  · rename_i dd cd sl ho
    split at q
    · rename_i C' bm k0 k1 k2 k3 n k5 hm hs
      simp only [Bool.and_eq_true, beq_iff_eq, Bool.not_eq_true'] at q
      obtain ⟨⟨⟨⟨rfl, rfl⟩, hdel⟩, hd⟩, hr⟩ := q
      obtain ⟨nm, bs, mro, N, qn, hasd, sn, sub, ab, col, hdl⟩ := cd
      simp only at hm hdel hd
      subst hm
      subst hdel
      subst hd
      have e : sl = #[k0, k1, k2, k3, some (.builtin "ValueError.__new__"), k5] := by
        have := congrArg List.toArray hs
        simpa using this
      subst e
      exact ⟨nm, qn, N, bs, bm, sn, sub, ab, col, dd, k0, k1, k2, k3, k5, ho, hr⟩
    · cases q
  · cases q
end Wd

set_option Elab.async false
set_option linter.all false
set_option maxRecDepth 100000
set_option maxHeartbeats 4000000
namespace Wd
open PySem PySem.Spec PyProof.Rows L2 He
/-- own classes, then the family's order tl -/
def refsB (tl : List Value) : List Value → Bool
  | .ref _ :: r => refsB tl r
  | l => l == tl
/-- an own error with an __init__ of its own, of any family -/
def oexTB (newId : String) (tl : List Value) (K : PySem.W.Frag) (C : Addr) : Bool := match K.lookup C with
  | some ⟨.type "type", _, .cls cd, sl⟩ => (match cd.mro, sl.toList with
    | .ref C' :: bm, [_, _, _, _, some (.builtin n), _] => C' == C && n == newId && !cd.hasDel && cd.hasDict && refsB tl bm
    | _, _ => false)
  | _ => false
section
variable {K : PySem.W.Frag} {x qual : Str} {params : Arguments} {body : List Stmt} {scope : Scope} {dvs : List V} {kws : List (Str × V)} {f : Addr} {fd : FuncData} {ps : List Str}
/-- a call with keywords, of a def with defaults -/
theorem kbn_of (F : FunD K x qual params body scope dvs kws f fd) (n : Nat) (ks : List Str) (g : List Value → List Value → List Value) (gV : List V → List V → List V) (hd : dvs ≠ [])
    (h : ∀ (T : Addr) (kV doc pm : Value) (an : Option Addr) (cdv ct : Value) (us its ws : List Value), us.length = n → its.length = dvs.length → ws.length = ks.length →
      ∃ k, bindArgs (PySem.W.fnOf x qual params body scope (.ref T) kV doc pm an cdv ct) ⟨us, ks.zip ws⟩ = seqItems? (.ref T) >>= k ∧ k (some its.toArray) = pure (ps.zip (g us ws)))
    (rel : ∀ {vs : List V} {us : List Value} {zs : List V} {ws : List Value}, Vals vs us → Vals zs ws → Vals (gV vs zs) (g us ws)) : KBn K fd ps n ks g gV := by
  obtain ⟨oc, od, dV, kV, doc, pm, an, cdv, ct, osl, rfl, lk, hcd, hD, hK⟩ := F.ex
  rcases hD with ⟨e, _⟩ | ⟨_, T, o, its, m, rfl, lT, oT, rT⟩
  · exact absurd e hd
  · refine ⟨fun s us ws X l1 l2 => ?_, rel⟩
    obtain ⟨k, e1, e2⟩ := h T kV doc pm an cdv ct us its ws l1 rT.length.symm l2
    refine BindsTo.of_looks fun M => ?_
    rw [e1]
    exact looks_items X lT oT (.of_pure e2)
theorem vals_rev {vs : List V} {us : List Value} (r : Vals vs us) : Vals vs.reverse us.reverse := by
  induction r with
  | nil => exact .nil
  | cons h _ ih =>
    rw [List.reverse_cons, List.reverse_cons]
    exact ih.append (.cons h .nil)
end
end Wd

set_option Elab.async false
set_option linter.all false
set_option maxRecDepth 100000
set_option maxHeartbeats 0
namespace WdQ
open PySem PySem.Spec PyProof.Rows L2 Wd
def topR (i : Nat) : Stmt := PySem.Challenge.pw_willdealt_k14_when_conditions_come.main.body.getD i (.Pass ⟨0, 0, 0, 0⟩)
def loose0 : List Str := ["__name__", "WordError", "LostError", "RoomError", "NoName", "NoSum", "NoShares", "NoPeople", "NoGoods", "NoText", "NoStory", "NoDay", "NoCond", "NoWhom", "NoClause", "NoReading", "NoWord", "LabelStands", "DayStands", "NoRow", "NoPerson", "NoThing", "NoLabel", "NoUndo", "TooMany", "MOST_SUM", "is_whole", "is_sum", "LAST_DAY", "is_day"]
def loose1 : List Str := ["LETTERS", "LONGEST", "WORDS", "is_word", "is_name", "MOST_PEOPLE", "MOST_GOODS", "is_person", "is_good", "check_people", "check_goods", "row_named", "person_line", "House", "check_persons", "MOST_DEEP", "FEWEST_TERMS", "MOST_TERMS", "MOST_NAMES", "COND_WORDS", "is_lives", "is_formed", "leaves", "cond_names", "is_cond", "is_cond_or_none", "has_come", "comes", "MOST_DEATHS", "is_death"]
def loose2 : List Str := ["check_deaths", "story_text", "Story", "_law_pool", "_law_take", "_law_words", "_law_people", "_law_deaths", "_law_cond", "_law_said_of", "_law_sort", "_law_twins", "_law_outlives", "_law_comes", "_law_days_of", "_law_deep", "_law_drawn", "_law_told", "_law_right", "_law_with", "_law_refused", "_law_refusals_right"]
def looseN : List Str := loose0 ++ loose1 ++ loose2
def asks0 : List Ask := [
  fun K => decide (PySem.W.nsIn K mainGlobals "is_name" = some (some (.ref (He.ga K "is_name")))),
  fun K => decide (PySem.W.nsIn K mainGlobals "is_word" = some (some (.ref (He.ga K "is_word")))),
  fun K => decide (PySem.W.nsIn K mainGlobals "is_whole" = some (some (.ref (He.ga K "is_whole")))),
  fun K => decide (PySem.W.nsIn K mainGlobals "is_sum" = some (some (.ref (He.ga K "is_sum")))),
  fun K => decide (PySem.W.nsIn K mainGlobals "is_day" = some (some (.ref (He.ga K "is_day")))),
  fun K => decide (PySem.W.nsIn K mainGlobals "is_person" = some (some (.ref (He.ga K "is_person")))),
  fun K => decide (PySem.W.nsIn K mainGlobals "check_people" = some (some (.ref (He.ga K "check_people")))),
  fun K => decide (PySem.W.nsIn K mainGlobals "check_goods" = some (some (.ref (He.ga K "check_goods")))),
  fun K => decide (PySem.W.nsIn K mainGlobals "is_death" = some (some (.ref (He.ga K "is_death")))),
  fun K => decide (PySem.W.nsIn K mainGlobals "check_deaths" = some (some (.ref (He.ga K "check_deaths")))),
  fun K => decide (PySem.W.nsIn K mainGlobals "is_lives" = some (some (.ref (He.ga K "is_lives")))),
  fun K => decide (PySem.W.nsIn K mainGlobals "is_formed" = some (some (.ref (He.ga K "is_formed")))),
  fun K => decide (PySem.W.nsIn K mainGlobals "leaves" = some (some (.ref (He.ga K "leaves")))),
  fun K => decide (PySem.W.nsIn K mainGlobals "is_cond" = some (some (.ref (He.ga K "is_cond")))),
  fun K => decide (PySem.W.nsIn K mainGlobals "is_cond_or_none" = some (some (.ref (He.ga K "is_cond_or_none")))),
  fun K => decide (PySem.W.nsIn K mainGlobals "row_named" = some (some (.ref (He.ga K "row_named")))),
  fun K => decide (PySem.W.nsIn K mainGlobals "cond_names" = some (some (.ref (He.ga K "cond_names")))),
  fun K => decide (PySem.W.nsIn K mainGlobals "check_persons" = some (some (.ref (He.ga K "check_persons")))),
  fun K => decide (PySem.W.nsIn K mainGlobals "has_come" = some (some (.ref (He.ga K "has_come")))),
  fun K => decide (PySem.W.nsIn K mainGlobals "_law_pool" = some (some (.ref (He.ga K "_law_pool")))),
  fun K => decide (PySem.W.nsIn K mainGlobals "_law_take" = some (some (.ref (He.ga K "_law_take")))),
  fun K => decide (PySem.W.nsIn K mainGlobals "_law_words" = some (some (.ref (He.ga K "_law_words")))),
  fun K => decide (PySem.W.nsIn K mainGlobals "_law_people" = some (some (.ref (He.ga K "_law_people")))),
  fun K => decide (PySem.W.nsIn K mainGlobals "_law_deaths" = some (some (.ref (He.ga K "_law_deaths")))),
  fun K => decide (PySem.W.nsIn K mainGlobals "_law_cond" = some (some (.ref (He.ga K "_law_cond")))),
  fun K => decide (PySem.W.nsIn K mainGlobals "_law_said_of" = some (some (.ref (He.ga K "_law_said_of")))),
  fun K => decide (PySem.W.nsIn K mainGlobals "_law_sort" = some (some (.ref (He.ga K "_law_sort")))),
  fun K => decide (PySem.W.nsIn K mainGlobals "_law_twins" = some (some (.ref (He.ga K "_law_twins")))),
  fun K => decide (PySem.W.nsIn K mainGlobals "_law_outlives" = some (some (.ref (He.ga K "_law_outlives")))),
  fun K => decide (PySem.W.nsIn K mainGlobals "_law_comes" = some (some (.ref (He.ga K "_law_comes")))),
  fun K => decide (PySem.W.nsIn K mainGlobals "_law_days_of" = some (some (.ref (He.ga K "_law_days_of")))),
  fun K => decide (PySem.W.nsIn K mainGlobals "_law_deep" = some (some (.ref (He.ga K "_law_deep")))),
  fun K => decide (PySem.W.nsIn K mainGlobals "_law_drawn" = some (some (.ref (He.ga K "_law_drawn")))),
  fun K => decide (PySem.W.nsIn K mainGlobals "_law_told" = some (some (.ref (He.ga K "_law_told")))),
  fun K => decide (PySem.W.nsIn K mainGlobals "_law_right" = some (some (.ref (He.ga K "_law_right")))),
  fun K => decide (PySem.W.nsIn K mainGlobals "_law_with" = some (some (.ref (He.ga K "_law_with")))),
  fun K => decide (PySem.W.nsIn K mainGlobals "_law_refused" = some (some (.ref (He.ga K "_law_refused")))),
  fun K => decide (PySem.W.nsIn K mainGlobals "_law_refusals_right" = some (some (.ref (He.ga K "_law_refusals_right")))),
  fun K => decide (PySem.W.nsIn K mainGlobals "law" = some (some (.ref (He.ga K "law")))),
  fun K => decide (PySem.W.nsIn K mainGlobals "isinstance" = some none),
  fun K => decide (PySem.W.nsIn K mainGlobals "int" = some none),
  fun K => decide (PySem.W.nsIn K mainGlobals "bool" = some none),
  fun K => decide (PySem.W.nsIn K mainGlobals "str" = some none),
  fun K => decide (PySem.W.nsIn K mainGlobals "tuple" = some none),
  fun K => decide (PySem.W.nsIn K mainGlobals "list" = some none),
  fun K => decide (PySem.W.nsIn K mainGlobals "len" = some none),
  fun K => decide (PySem.W.nsIn K mainGlobals "abs" = some none),
  fun K => decide (PySem.W.nsIn K mainGlobals "all" = some none),
  fun K => decide (PySem.W.nsIn K mainGlobals "any" = some none),
  fun K => decide (PySem.W.nsIn K mainGlobals "sum" = some none),
  fun K => decide (PySem.W.nsIn K mainGlobals "enumerate" = some none)]
def asks1 : List Ask := [
  fun K => decide (PySem.W.nsIn K mainGlobals "divmod" = some none),
  fun K => decide (PySem.W.nsIn K mainGlobals "range" = some none),
  fun K => decide (PySem.W.nsIn K mainGlobals "max" = some none),
  fun K => decide (PySem.W.nsIn K mainGlobals "min" = some none),
  fun K => decide (PySem.W.nsIn K mainGlobals "zip" = some none),
  fun K => decide (PySem.W.nsIn K mainGlobals "repr" = some none),
  fun K => decide (PySem.W.nsIn K mainGlobals "ValueError" = some none),
  fun K => decide (PySem.W.nsIn K mainGlobals "LookupError" = some none),
  fun K => decide (PySem.W.nsIn K mainGlobals "ArithmeticError" = some none),
  fun K => decide (PySem.W.nsIn K mainGlobals "sorted" = some none),
  fun K => decide (PySem.W.specialIn K (.builtin "object.__class__") "__get__" = some (some (.builtin "getset_descriptor.__get__"))),
  fun K => decide (PySem.W.takesIn K (.builtin "object.__class__") = some true),
  fun K => decide (PySem.W.nsIn K mainGlobals "NoName" = some (some (.ref (He.ga K "NoName")))),
  fun K => decide (PySem.W.nsIn K mainGlobals "NoSum" = some (some (.ref (He.ga K "NoSum")))),
  fun K => decide (PySem.W.nsIn K mainGlobals "NoShares" = some (some (.ref (He.ga K "NoShares")))),
  fun K => decide (PySem.W.nsIn K mainGlobals "NoPeople" = some (some (.ref (He.ga K "NoPeople")))),
  fun K => decide (PySem.W.nsIn K mainGlobals "NoGoods" = some (some (.ref (He.ga K "NoGoods")))),
  fun K => decide (PySem.W.nsIn K mainGlobals "NoText" = some (some (.ref (He.ga K "NoText")))),
  fun K => decide (PySem.W.nsIn K mainGlobals "NoStory" = some (some (.ref (He.ga K "NoStory")))),
  fun K => decide (PySem.W.nsIn K mainGlobals "NoDay" = some (some (.ref (He.ga K "NoDay")))),
  fun K => decide (PySem.W.nsIn K mainGlobals "NoCond" = some (some (.ref (He.ga K "NoCond")))),
  fun K => decide (PySem.W.nsIn K mainGlobals "NoWhom" = some (some (.ref (He.ga K "NoWhom")))),
  fun K => decide (PySem.W.nsIn K mainGlobals "NoClause" = some (some (.ref (He.ga K "NoClause")))),
  fun K => decide (PySem.W.nsIn K mainGlobals "NoReading" = some (some (.ref (He.ga K "NoReading")))),
  fun K => decide (PySem.W.nsIn K mainGlobals "NoWord" = some (some (.ref (He.ga K "NoWord")))),
  fun K => decide (PySem.W.nsIn K mainGlobals "LabelStands" = some (some (.ref (He.ga K "LabelStands")))),
  fun K => decide (PySem.W.nsIn K mainGlobals "DayStands" = some (some (.ref (He.ga K "DayStands")))),
  fun K => decide (PySem.W.nsIn K mainGlobals "NoRow" = some (some (.ref (He.ga K "NoRow")))),
  fun K => decide (PySem.W.nsIn K mainGlobals "NoPerson" = some (some (.ref (He.ga K "NoPerson")))),
  fun K => decide (PySem.W.nsIn K mainGlobals "NoThing" = some (some (.ref (He.ga K "NoThing")))),
  fun K => decide (PySem.W.nsIn K mainGlobals "NoLabel" = some (some (.ref (He.ga K "NoLabel")))),
  fun K => decide (PySem.W.nsIn K mainGlobals "NoUndo" = some (some (.ref (He.ga K "NoUndo")))),
  fun K => decide (PySem.W.nsIn K mainGlobals "TooMany" = some (some (.ref (He.ga K "TooMany")))),
  fun K => decide (PySem.W.nsIn K mainGlobals "WordError" = some (some (.ref (He.ga K "WordError")))),
  fun K => decide (PySem.W.nsIn K mainGlobals "LostError" = some (some (.ref (He.ga K "LostError")))),
  fun K => decide (PySem.W.nsIn K mainGlobals "RoomError" = some (some (.ref (He.ga K "RoomError")))),
  fun K => decide (PySem.W.findIn K (.ref (He.ga K "NoDay")) "__getattribute__" = some (some (.builtin "BaseException.__getattribute__"))),
  fun K => decide (PySem.W.findIn K (.ref (He.ga K "NoDay")) "__getattr__" = some none),
  fun K => decide (PySem.W.hasDictIn K (He.ga K "NoDay") = true),
  fun K => decide (PySem.W.findIn K (.ref (He.ga K "NoDay")) "__class__" = some (some (.builtin "object.__class__"))),
  fun K => decide (PySem.W.mroIn K (He.ga K "NoDay") (.type "object") = some true),
  fun K => decide (PySem.W.subIn K (.ref (He.ga K "NoDay")) (.type "BaseException") = some true),
  fun K => decide (PySem.W.typeIn K (.ref (He.ga K "NoDay")) = some (.type "type")),
  fun K => decide (PySem.W.keepIn K (.ref (He.ga K "NoDay")) = true),
  fun K => decide (PySem.W.findIn K (.ref (He.ga K "NoDay")) "__init__" = some (some (.ref (He.ma K (He.ga K "NoDay") "__init__")))),
  fun K => decide (PySem.W.typeIn K (.ref (He.ma K (He.ga K "NoDay") "__init__")) = some (.type "function")),
  fun K => decide (PySem.W.findIn K (.ref (He.ga K "NoDay")) "__setattr__" = some (some (.builtin "object.__setattr__"))),
  fun K => decide (PySem.W.findIn K (.ref (He.ga K "NoDay")) "thing" = some none),
  fun K => decide (PySem.W.exmOne K (.ref (He.ga K "NoDay")) (.ref (He.ga K "WordError")) = some true),
  fun K => oexB K (He.ga K "NoDay"),
  fun K => decide (PySem.W.kitOne K (.ref (He.ga K "NoDay")) (.ref (He.ga K "NoName")) = some false)]
def asks2 : List Ask := [
  fun K => decide (PySem.W.kitOne K (.ref (He.ga K "NoDay")) (.ref (He.ga K "NoSum")) = some false),
  fun K => decide (PySem.W.kitOne K (.ref (He.ga K "NoDay")) (.ref (He.ga K "NoShares")) = some false),
  fun K => decide (PySem.W.kitOne K (.ref (He.ga K "NoDay")) (.ref (He.ga K "NoPeople")) = some false),
  fun K => decide (PySem.W.kitOne K (.ref (He.ga K "NoDay")) (.ref (He.ga K "NoGoods")) = some false),
  fun K => decide (PySem.W.kitOne K (.ref (He.ga K "NoDay")) (.ref (He.ga K "NoText")) = some false),
  fun K => decide (PySem.W.kitOne K (.ref (He.ga K "NoDay")) (.ref (He.ga K "NoStory")) = some false),
  fun K => decide (PySem.W.kitOne K (.ref (He.ga K "NoDay")) (.ref (He.ga K "NoDay")) = some true),
  fun K => decide (PySem.W.kitOne K (.ref (He.ga K "NoDay")) (.ref (He.ga K "NoCond")) = some false),
  fun K => decide (PySem.W.kitOne K (.ref (He.ga K "NoDay")) (.ref (He.ga K "NoWhom")) = some false),
  fun K => decide (PySem.W.kitOne K (.ref (He.ga K "NoDay")) (.ref (He.ga K "NoClause")) = some false),
  fun K => decide (PySem.W.kitOne K (.ref (He.ga K "NoDay")) (.ref (He.ga K "NoReading")) = some false),
  fun K => decide (PySem.W.kitOne K (.ref (He.ga K "NoDay")) (.ref (He.ga K "NoWord")) = some false),
  fun K => decide (PySem.W.kitOne K (.ref (He.ga K "NoDay")) (.ref (He.ga K "LabelStands")) = some false),
  fun K => decide (PySem.W.kitOne K (.ref (He.ga K "NoDay")) (.ref (He.ga K "DayStands")) = some false),
  fun K => decide (PySem.W.kitOne K (.ref (He.ga K "NoDay")) (.ref (He.ga K "NoRow")) = some false),
  fun K => decide (PySem.W.kitOne K (.ref (He.ga K "NoDay")) (.ref (He.ga K "NoPerson")) = some false),
  fun K => decide (PySem.W.kitOne K (.ref (He.ga K "NoDay")) (.ref (He.ga K "NoThing")) = some false),
  fun K => decide (PySem.W.kitOne K (.ref (He.ga K "NoDay")) (.ref (He.ga K "NoLabel")) = some false),
  fun K => decide (PySem.W.kitOne K (.ref (He.ga K "NoDay")) (.ref (He.ga K "NoUndo")) = some false),
  fun K => decide (PySem.W.kitOne K (.ref (He.ga K "NoDay")) (.ref (He.ga K "TooMany")) = some false),
  fun K => decide (PySem.W.kitOne K (.ref (He.ga K "NoDay")) (.ref (He.ga K "WordError")) = some true),
  fun K => decide (PySem.W.kitOne K (.ref (He.ga K "NoDay")) (.ref (He.ga K "LostError")) = some false),
  fun K => decide (PySem.W.kitOne K (.ref (He.ga K "NoDay")) (.ref (He.ga K "RoomError")) = some false),
  fun K => decide (PySem.W.kitOne K (.ref (He.ga K "NoDay")) (.type "ValueError") = some true),
  fun K => decide (PySem.W.kitOne K (.ref (He.ga K "NoDay")) (.type "LookupError") = some false),
  fun K => decide (PySem.W.kitOne K (.ref (He.ga K "NoDay")) (.type "ArithmeticError") = some false),
  fun K => decide (PySem.W.findIn K (.ref (He.ga K "NoPerson")) "__getattribute__" = some (some (.builtin "BaseException.__getattribute__"))),
  fun K => decide (PySem.W.findIn K (.ref (He.ga K "NoPerson")) "__getattr__" = some none),
  fun K => decide (PySem.W.hasDictIn K (He.ga K "NoPerson") = true),
  fun K => decide (PySem.W.findIn K (.ref (He.ga K "NoPerson")) "__class__" = some (some (.builtin "object.__class__"))),
  fun K => decide (PySem.W.mroIn K (He.ga K "NoPerson") (.type "object") = some true),
  fun K => decide (PySem.W.subIn K (.ref (He.ga K "NoPerson")) (.type "BaseException") = some true),
  fun K => decide (PySem.W.typeIn K (.ref (He.ga K "NoPerson")) = some (.type "type")),
  fun K => decide (PySem.W.keepIn K (.ref (He.ga K "NoPerson")) = true),
  fun K => decide (PySem.W.findIn K (.ref (He.ga K "NoPerson")) "__init__" = some (some (.ref (He.ma K (He.ga K "NoPerson") "__init__")))),
  fun K => decide (PySem.W.typeIn K (.ref (He.ma K (He.ga K "NoPerson") "__init__")) = some (.type "function")),
  fun K => decide (PySem.W.findIn K (.ref (He.ga K "NoPerson")) "__setattr__" = some (some (.builtin "object.__setattr__"))),
  fun K => decide (PySem.W.findIn K (.ref (He.ga K "NoPerson")) "name" = some none),
  fun K => decide (PySem.W.exmOne K (.ref (He.ga K "NoPerson")) (.ref (He.ga K "LostError")) = some true),
  fun K => oexTB "LookupError.__new__" [.type "LookupError", .type "Exception", .type "BaseException", .type "object"] K (He.ga K "NoPerson"),
  fun K => decide (PySem.W.kitOne K (.ref (He.ga K "NoPerson")) (.ref (He.ga K "NoName")) = some false),
  fun K => decide (PySem.W.kitOne K (.ref (He.ga K "NoPerson")) (.ref (He.ga K "NoSum")) = some false),
  fun K => decide (PySem.W.kitOne K (.ref (He.ga K "NoPerson")) (.ref (He.ga K "NoShares")) = some false),
  fun K => decide (PySem.W.kitOne K (.ref (He.ga K "NoPerson")) (.ref (He.ga K "NoPeople")) = some false),
  fun K => decide (PySem.W.kitOne K (.ref (He.ga K "NoPerson")) (.ref (He.ga K "NoGoods")) = some false),
  fun K => decide (PySem.W.kitOne K (.ref (He.ga K "NoPerson")) (.ref (He.ga K "NoText")) = some false),
  fun K => decide (PySem.W.kitOne K (.ref (He.ga K "NoPerson")) (.ref (He.ga K "NoStory")) = some false),
  fun K => decide (PySem.W.kitOne K (.ref (He.ga K "NoPerson")) (.ref (He.ga K "NoDay")) = some false),
  fun K => decide (PySem.W.kitOne K (.ref (He.ga K "NoPerson")) (.ref (He.ga K "NoCond")) = some false),
  fun K => decide (PySem.W.kitOne K (.ref (He.ga K "NoPerson")) (.ref (He.ga K "NoWhom")) = some false),
  fun K => decide (PySem.W.kitOne K (.ref (He.ga K "NoPerson")) (.ref (He.ga K "NoClause")) = some false)]
def asks3 : List Ask := [
  fun K => decide (PySem.W.kitOne K (.ref (He.ga K "NoPerson")) (.ref (He.ga K "NoReading")) = some false),
  fun K => decide (PySem.W.kitOne K (.ref (He.ga K "NoPerson")) (.ref (He.ga K "NoWord")) = some false),
  fun K => decide (PySem.W.kitOne K (.ref (He.ga K "NoPerson")) (.ref (He.ga K "LabelStands")) = some false),
  fun K => decide (PySem.W.kitOne K (.ref (He.ga K "NoPerson")) (.ref (He.ga K "DayStands")) = some false),
  fun K => decide (PySem.W.kitOne K (.ref (He.ga K "NoPerson")) (.ref (He.ga K "NoRow")) = some false),
  fun K => decide (PySem.W.kitOne K (.ref (He.ga K "NoPerson")) (.ref (He.ga K "NoPerson")) = some true),
  fun K => decide (PySem.W.kitOne K (.ref (He.ga K "NoPerson")) (.ref (He.ga K "NoThing")) = some false),
  fun K => decide (PySem.W.kitOne K (.ref (He.ga K "NoPerson")) (.ref (He.ga K "NoLabel")) = some false),
  fun K => decide (PySem.W.kitOne K (.ref (He.ga K "NoPerson")) (.ref (He.ga K "NoUndo")) = some false),
  fun K => decide (PySem.W.kitOne K (.ref (He.ga K "NoPerson")) (.ref (He.ga K "TooMany")) = some false),
  fun K => decide (PySem.W.kitOne K (.ref (He.ga K "NoPerson")) (.ref (He.ga K "WordError")) = some false),
  fun K => decide (PySem.W.kitOne K (.ref (He.ga K "NoPerson")) (.ref (He.ga K "LostError")) = some true),
  fun K => decide (PySem.W.kitOne K (.ref (He.ga K "NoPerson")) (.ref (He.ga K "RoomError")) = some false),
  fun K => decide (PySem.W.kitOne K (.ref (He.ga K "NoPerson")) (.type "ValueError") = some false),
  fun K => decide (PySem.W.kitOne K (.ref (He.ga K "NoPerson")) (.type "LookupError") = some true),
  fun K => decide (PySem.W.kitOne K (.ref (He.ga K "NoPerson")) (.type "ArithmeticError") = some false),
  fun K => decide (PySem.W.exmOne K (.ref (He.ga K "NoPerson")) (.ref (He.ga K "WordError")) = some false),
  fun K => decide (PySem.W.nsIn K mainGlobals "WORDS" = some (some (.ref (He.ga K "WORDS")))),
  fun K => (He.Fa.str "LETTERS" "abcdefghijklmnopqrstuvwxyz").ok K,
  fun K => (He.Fa.int "LONGEST" 8).ok K,
  fun K => He.tupB K "WORDS" [.str "all", .str "and", .str "children", .str "childless", .str "crown", .str "else", .str "if", .str "lives", .str "not", .str "of", .str "or", .str "stock", .str "to"],
  fun K => decide (PySem.W.nsIn K mainGlobals "COND_WORDS" = some (some (.ref (He.ga K "COND_WORDS")))),
  fun K => He.tupB K "COND_WORDS" [.str "lives", .str "childless", .str "not", .str "and", .str "or"],
  fun K => (He.Fa.int "MOST_DEEP" 6).ok K,
  fun K => (He.Fa.int "FEWEST_TERMS" 2).ok K,
  fun K => (He.Fa.int "MOST_TERMS" 6).ok K,
  fun K => (He.Fa.int "MOST_NAMES" 12).ok K,
  fun K => (He.Fa.int "LAST_DAY" 9999).ok K,
  fun K => (He.Fa.int "MOST_SUM" 1000000000).ok K,
  fun K => (He.Fa.int "MOST_PEOPLE" 8).ok K,
  fun K => (He.Fa.int "MOST_GOODS" 8).ok K,
  fun K => (He.Fa.int "MOST_DEATHS" 8).ok K,
  fun K => decide (PySem.W.nsIn K mainGlobals "House" = some (some (.ref (He.ga K "House")))),
  fun K => (He.Fa.mkr "House").ok K,
  fun K => decide (PySem.W.nsIn K mainGlobals "Story" = some (some (.ref (He.ga K "Story")))),
  fun K => (He.Fa.mkr "Story").ok K,
  fun K => (He.Fa.cls "House").ok K,
  fun K => (He.Fa.noat "House" "folk").ok K,
  fun K => (He.Fa.noat "House" "things").ok K,
  fun K => (He.Fa.noat "House" "purse").ok K,
  fun K => (He.Fa.noat "House" "debts").ok K,
  fun K => (He.Fa.cls "Story").ok K,
  fun K => (He.Fa.noat "Story" "deaths").ok K,
  fun K => decide (PySem.W.nsIn K mainGlobals "comes" = some (some (.ref (He.ga K "comes")))),
  fun K => (He.Fa.meth "House" "people").ok K,
  fun K => (He.Fa.meth "House" "person").ok K,
  fun K => (He.Fa.meth "House" "children").ok K,
  fun K => (He.Fa.meth "Story" "died").ok K,
  fun K => (He.Fa.meth "Story" "lives").ok K]
def asksN : List Ask := asks0 ++ asks1 ++ asks2 ++ asks3
def defs0 : List He.DefD := [
  ⟨("is_name", none), "is_name", "is_name", defArgs (topR 37), defBody (topR 37), defScope (topR 37), [], []⟩,
  ⟨("is_word", none), "is_word", "is_word", defArgs (topR 36), defBody (topR 36), defScope (topR 36), [], []⟩,
  ⟨("is_whole", none), "is_whole", "is_whole", defArgs (topR 27), defBody (topR 27), defScope (topR 27), [], []⟩,
  ⟨("is_sum", none), "is_sum", "is_sum", defArgs (topR 28), defBody (topR 28), defScope (topR 28), [], []⟩,
  ⟨("is_day", none), "is_day", "is_day", defArgs (topR 31), defBody (topR 31), defScope (topR 31), [], []⟩,
  ⟨("is_person", none), "is_person", "is_person", defArgs (topR 41), defBody (topR 41), defScope (topR 41), [], []⟩,
  ⟨("check_people", none), "check_people", "check_people", defArgs (topR 43), defBody (topR 43), defScope (topR 43), [], []⟩,
  ⟨("check_goods", none), "check_goods", "check_goods", defArgs (topR 44), defBody (topR 44), defScope (topR 44), [], []⟩,
  ⟨("is_death", none), "is_death", "is_death", defArgs (topR 65), defBody (topR 65), defScope (topR 65), [], []⟩,
  ⟨("check_deaths", none), "check_deaths", "check_deaths", defArgs (topR 66), defBody (topR 66), defScope (topR 66), [], []⟩,
  ⟨("is_lives", none), "is_lives", "is_lives", defArgs (topR 55), defBody (topR 55), defScope (topR 55), [], []⟩,
  ⟨("is_formed", none), "is_formed", "is_formed", defArgs (topR 56), defBody (topR 56), defScope (topR 56), [], []⟩,
  ⟨("leaves", none), "leaves", "leaves", defArgs (topR 57), defBody (topR 57), defScope (topR 57), [], []⟩]
def defs1 : List He.DefD := [
  ⟨("is_cond", none), "is_cond", "is_cond", defArgs (topR 59), defBody (topR 59), defScope (topR 59), [], []⟩,
  ⟨("is_cond_or_none", none), "is_cond_or_none", "is_cond_or_none", defArgs (topR 60), defBody (topR 60), defScope (topR 60), [], []⟩,
  ⟨("row_named", none), "row_named", "row_named", defArgs (topR 45), defBody (topR 45), defScope (topR 45), [], []⟩,
  ⟨("cond_names", none), "cond_names", "cond_names", defArgs (topR 58), defBody (topR 58), defScope (topR 58), [], []⟩,
  ⟨("check_persons", none), "check_persons", "check_persons", defArgs (topR 48), defBody (topR 48), defScope (topR 48), [], []⟩,
  ⟨("has_come", none), "has_come", "has_come", defArgs (topR 61), defBody (topR 61), defScope (topR 61), [], []⟩,
  ⟨("_law_pool", none), "_law_pool", "_law_pool", defArgs (topR 70), defBody (topR 70), defScope (topR 70), [], []⟩,
  ⟨("_law_take", none), "_law_take", "_law_take", defArgs (topR 71), defBody (topR 71), defScope (topR 71), [], []⟩,
  ⟨("_law_words", none), "_law_words", "_law_words", defArgs (topR 72), defBody (topR 72), defScope (topR 72), [], []⟩,
  ⟨("_law_people", none), "_law_people", "_law_people", defArgs (topR 73), defBody (topR 73), defScope (topR 73), [], []⟩,
  ⟨("_law_deaths", none), "_law_deaths", "_law_deaths", defArgs (topR 74), defBody (topR 74), defScope (topR 74), [], []⟩,
  ⟨("_law_cond", none), "_law_cond", "_law_cond", defArgs (topR 75), defBody (topR 75), defScope (topR 75), [], []⟩,
  ⟨("_law_said_of", none), "_law_said_of", "_law_said_of", defArgs (topR 76), defBody (topR 76), defScope (topR 76), [], []⟩]
def defs2 : List He.DefD := [
  ⟨("_law_sort", none), "_law_sort", "_law_sort", defArgs (topR 77), defBody (topR 77), defScope (topR 77), [], []⟩,
  ⟨("_law_twins", none), "_law_twins", "_law_twins", defArgs (topR 78), defBody (topR 78), defScope (topR 78), [], []⟩,
  ⟨("_law_outlives", none), "_law_outlives", "_law_outlives", defArgs (topR 79), defBody (topR 79), defScope (topR 79), [], []⟩,
  ⟨("_law_comes", none), "_law_comes", "_law_comes", defArgs (topR 80), defBody (topR 80), defScope (topR 80), [], []⟩,
  ⟨("_law_days_of", none), "_law_days_of", "_law_days_of", defArgs (topR 81), defBody (topR 81), defScope (topR 81), [], []⟩,
  ⟨("_law_deep", none), "_law_deep", "_law_deep", defArgs (topR 82), defBody (topR 82), defScope (topR 82), [], []⟩,
  ⟨("_law_drawn", none), "_law_drawn", "_law_drawn", defArgs (topR 83), defBody (topR 83), defScope (topR 83), [], []⟩,
  ⟨("_law_told", none), "_law_told", "_law_told", defArgs (topR 84), defBody (topR 84), defScope (topR 84), [], []⟩,
  ⟨("_law_right", none), "_law_right", "_law_right", defArgs (topR 85), defBody (topR 85), defScope (topR 85), [], []⟩,
  ⟨("_law_with", none), "_law_with", "_law_with", defArgs (topR 86), defBody (topR 86), defScope (topR 86), [], []⟩,
  ⟨("_law_refused", none), "_law_refused", "_law_refused", defArgs (topR 87), defBody (topR 87), defScope (topR 87), [], []⟩,
  ⟨("_law_refusals_right", none), "_law_refusals_right", "_law_refusals_right", defArgs (topR 88), defBody (topR 88), defScope (topR 88), [], []⟩,
  ⟨("law", none), "law", "law", defArgs (topR 89), defBody (topR 89), defScope (topR 89), [], []⟩]
def defs3 : List He.DefD := [
  ⟨("NoDay", some "__init__"), "__init__", "NoDay.__init__", defArgs (inClass (topR 11) 0), defBody (inClass (topR 11) 0), defScope (inClass (topR 11) 0), [], []⟩,
  ⟨("NoPerson", some "__init__"), "__init__", "NoPerson.__init__", defArgs (inClass (topR 20) 0), defBody (inClass (topR 20) 0), defScope (inClass (topR 20) 0), [], []⟩,
  ⟨("House", some "__init__"), "__init__", "House.__init__", defArgs (inClass (topR 47) 0), defBody (inClass (topR 47) 0), defScope (inClass (topR 47) 0), [.non, .int 0, .int 0], []⟩,
  ⟨("Story", some "__init__"), "__init__", "Story.__init__", defArgs (inClass (topR 68) 0), defBody (inClass (topR 68) 0), defScope (inClass (topR 68) 0), [.non], []⟩,
  ⟨("comes", none), "comes", "comes", defArgs (topR 62), defBody (topR 62), defScope (topR 62), [.int 0], []⟩,
  ⟨("House", some "people"), "people", "House.people", defArgs (inClass (topR 47) 1), defBody (inClass (topR 47) 1), defScope (inClass (topR 47) 1), [], []⟩,
  ⟨("House", some "person"), "person", "House.person", defArgs (inClass (topR 47) 7), defBody (inClass (topR 47) 7), defScope (inClass (topR 47) 7), [], []⟩,
  ⟨("House", some "children"), "children", "House.children", defArgs (inClass (topR 47) 2), defBody (inClass (topR 47) 2), defScope (inClass (topR 47) 2), [], []⟩,
  ⟨("Story", some "died"), "died", "Story.died", defArgs (inClass (topR 68) 1), defBody (inClass (topR 68) 1), defScope (inClass (topR 68) 1), [], []⟩,
  ⟨("Story", some "lives"), "lives", "Story.lives", defArgs (inClass (topR 68) 2), defBody (inClass (topR 68) 2), defScope (inClass (topR 68) 2), [.int 0], []⟩]
def defsN : List He.DefD := defs0 ++ defs1 ++ defs2 ++ defs3
abbrev hkN : PySem.W.Hook := hookW 4 asksN defsN
def obN (s : PySem.W.SharedT) : He.AlD := obsWG 4 asksN defsN (HandSHeadRun.getT s)
theorem obN_eq (s : PySem.W.SharedT) : obN s = hkN.obs s.abs := obsWG_eq (HandSHeadRun.getT_eq s)
theorem runA (w : World) : LkEq (PySem.W.OpenLaw.row PySem.Challenge.rw_willdealt_k14_when_conditions_come) 12000 w := by
  intro os
  kernel_rfl
theorem runB (w : World) : SnEq (PySem.W.OpenLaw.row PySem.Challenge.rw_willdealt_k14_when_conditions_come) (PySem.W.view (PySem.W.OpenLaw.row PySem.Challenge.rw_willdealt_k14_when_conditions_come).prog [89]) 12000 looseN w := by
  intro os
  kernel_rfl
theorem runP0 (w : World) : ObEq (PySem.W.OpenLaw.row PySem.Challenge.rw_willdealt_k14_when_conditions_come) 4 12000 asks0 defs0 w := by
  intro os
  kernel_rfl
theorem runP1 (w : World) : ObEq (PySem.W.OpenLaw.row PySem.Challenge.rw_willdealt_k14_when_conditions_come) 4 12000 asks1 defs1 w := by
  intro os
  kernel_rfl
theorem runP2 (w : World) : ObEq (PySem.W.OpenLaw.row PySem.Challenge.rw_willdealt_k14_when_conditions_come) 4 12000 asks2 defs2 w := by
  intro os
  kernel_rfl
theorem runP3 (w : World) : ObEq (PySem.W.OpenLaw.row PySem.Challenge.rw_willdealt_k14_when_conditions_come) 4 12000 asks3 defs3 w := by
  intro os
  kernel_rfl
theorem runN (w : World) : HandSHeadRun.RunEq (PySem.W.OpenLaw.row PySem.Challenge.rw_willdealt_k14_when_conditions_come) (PySem.W.view (PySem.W.OpenLaw.row PySem.Challenge.rw_willdealt_k14_when_conditions_come).prog [89]) hkN obN 12000 looseN w := run_of3 (runA w) (runB w) (ob_app (ob_app (ob_app (runP0 w) (runP1 w)) (runP2 w)) (runP3 w))
end WdQ

set_option Elab.async false
set_option linter.all false
set_option maxRecDepth 100000
set_option maxHeartbeats 4000000
namespace Wd
open PySem PySem.Spec PyProof.Rows L2
/-! ### zip of a list or tuple with a list or tuple: one rule for the four mixes. A feed is what zip draws from. -/
inductive Feed where
  | li
  | tu
namespace Feed
def sq : Feed → PySem.W.Frag → Hp → Addr → List V → Prop
  | .li => SqL
  | .tu => SqT
def stands : Feed → Heap → Addr → Array Value → Prop
  | .li => Heap.IsList
  | .tu => Heap.IsTuple
def at_ : Feed → Heap → Addr → Addr → Nat → Prop
  | .li => Heap.IsListIter
  | .tu => Heap.IsTupleIter
def head : Feed → Addr → Obj
  | .li, a => { cls := .type "list_iterator", data := .fields #[.ref a, .int 0 0] }
  | .tu, a => { cls := .type "tuple_iterator", data := .fields #[.ref a, .int 0 0] }
variable (k : Feed)
theorem begins (a : Addr) (its : Array Value) : Begins (.ref a) (k.head a) fun h => k.stands h a its := by
  cases k
  · exact begins_list a its
  · exact begins_tuple a its
theorem draws {prog : Program} {w : World} {A : Around} (hA : A.handled = none) {it a : Addr} (ne : a ≠ it) (its : Array Value) : Draws prog w A it [it, a] its.size (fun i v => its[i]? = some v) (fun i h => k.at_ h it a i ∧ k.stands h a its) := by
  cases k
  · exact Draws.list hA it a ne its
  · exact Draws.tuple hA it a ne its
theorem first {h : Heap} {it a : Addr} (e : h.get? it = some (k.head a)) : k.at_ h it a 0 := by
  cases k <;> exact ⟨_, e, rfl, rfl⟩
theorem lives {h : Heap} {it a : Addr} {i : Nat} (e : k.at_ h it a i) : ∃ o, h.get? it = some o ∧ ∀ v, o.data ≠ .cell v := by
  cases k
  all_goals
    obtain ⟨o, e1, _, e2⟩ := e
    exact ⟨o, e1, fun v z => by rw [e2] at z; cases z⟩
theorem moved {h h' : Heap} {it a : Addr} {i : Nat} (e : k.at_ h it a i) (m : ∀ o, h.get? it = some o → h'.get? it = some o) : k.at_ h' it a i := by
  cases k
  · exact Heap.IsListIter.at e m
  · exact Heap.IsTupleIter.at e m
theorem known {X : Cx} {pins : List (Addr × Obj)} {σ : L2.St} {H : Hp} {s : Shared} {a : Addr} {xs : List V} (I : Inv X pins σ H s) (e : k.sq X.K H a xs) : ∃ its : List Value, Vals xs its ∧ k.stands s.heap a its.toArray ∧ a < s.heap.objs.size := by
  cases k
  · obtain ⟨its, v, p, _⟩ := I.list e
    exact ⟨its, v, p.isList, p.lt⟩
  · obtain ⟨its, v, p, _⟩ := I.tuple e
    obtain ⟨o, e1, _⟩ := id p
    exact ⟨its, v, p, Heap.lt_size e1⟩
theorem one {X : Cx} {pins : List (Addr × Obj)} {σ : L2.St} {H : Hp} {s : Shared} {a : Addr} {xs ys : List V} (I : Inv X pins σ H s) (e : k.sq X.K H a xs) (e' : k.sq X.K H a ys) : xs = ys := by
  cases k
  · exact I.list_inj e e'
  · exact I.tuple_inj e e'
end Feed
/-- the walk over zip of two feeds of one length -/
def ItZ (K : PySem.W.Frag) (k m : Feed) (a b : Addr) : It where
  go i H := ∃ xs ys x y, k.sq K H a xs ∧ m.sq K H b ys ∧ xs[i]? = some x ∧ ys[i]? = some y
  yld i H v H' := ∃ T x y, v = .ref T ∧ H T = none ∧ H' = upd H T (.tup [x, y]) ∧ (∀ xs, k.sq K H a xs → xs[i]? = some x) ∧ ∀ ys, m.sq K H b ys → ys[i]? = some y
  stop i H := ∃ xs ys, k.sq K H a xs ∧ m.sq K H b ys ∧ xs.length = i ∧ ys.length = i
theorem walkZ {K : PySem.W.Frag} {k m : Feed} {a b : Addr} {xs ys : List V} (hl : xs.length = ys.length) : Walk (ItZ K k m a b) xs.length (fun H => k.sq K H a xs ∧ m.sq K H b ys) (YPair (fun i => xs[i]?) fun i => ys[i]?) where
  goes := fun i H hi g => ⟨xs, ys, xs[i], ys[i]'(hl ▸ hi), g.1, g.2, List.getElem?_eq_getElem hi, List.getElem?_eq_getElem (hl ▸ hi)⟩
  stops := fun H g => ⟨xs, ys, g.1, g.2, rfl, hl.symm⟩
  yields := fun i H v H' _ g ⟨T, x, y, e1, e2, e3, e4, e5⟩ => ⟨T, x, y, e1, e2, e3, e4 xs g.1, e5 ys g.2⟩
/-- what holds of each of five cells holds of any of them -/
theorem of_five {z p q i j c : Addr} {R : Addr → Prop} (hc : c ∈ [z, p, q, i, j]) (hz : R z) (hp : R p) (hq : R q) (hi : R i) (hj : R j) : R c := by
  simp only [List.mem_cons, List.not_mem_nil, or_false] at hc
  rcases hc with e | e | e | e | e <;> (rw [e]; assumption)
theorem turnZ {P : Program} {w : World} {K : PySem.W.Frag} {elts : List Expr} {kk : Nat} {tpos : Pos} {k m : Feed} {a b z p q i1 i2 : Addr} (S : ZipSep2 z p q i1 i2 [i1, a] [i2, b]) (na : a ≠ i1) (nb : b ≠ i2) :
    Turn P w K (.Tuple elts kk tpos) (ItZ K k m a b) [z, p, q, i1, i2] z fun i h => IsZip h z p q .none ∧ IsTupOf2 h p (.ref i1) (.ref i2) ∧ (∃ x y, IsTupOf2 h q x y) ∧ k.at_ h i1 a i ∧ m.at_ h i2 b i where
  mem := List.mem_cons_self
  obj := by
    rintro i h ⟨gz, gp, ⟨x, y, gq⟩, g1, g2⟩ c hc
    exact of_five (R := fun c => ∃ o, h.get? c = some o ∧ ∀ v, o.data ≠ .cell v) hc ⟨_, gz, fun _ e => nomatch e⟩ ⟨_, gp, fun _ e => nomatch e⟩ ⟨_, gq, fun _ e => nomatch e⟩ (k.lives g1) (m.lives g2)
  keep := by
    rintro i h h' ⟨gz, gp, ⟨x, y, gq⟩, g1, g2⟩ same
    exact ⟨same _ (by simp) _ gz, same _ (by simp) _ gp, ⟨x, y, same _ (by simp) _ gq⟩, k.moved g1 (same _ (by simp)), m.moved g2 (same _ (by simp))⟩
  item := by
    rintro X rfl rfl rfl calm i pins s σ H E I free ⟨gz, gp, ⟨x0, y0, gq⟩, g1, g2⟩ ⟨xs, ys, x, y, hxs, hys, hx, hy⟩
    obtain ⟨us, rel1, st1, _⟩ := k.known I hxs
    obtain ⟨vs, rel2, st2, _⟩ := m.known I hys
    obtain ⟨u, hu, ru⟩ := rel1.get hx
    obtain ⟨v, hv, rv⟩ := rel2.get hy
    have hA : X.A.in1.handled = none := I.ok.hd calm
    have zlt := Heap.lt_size gz
    have n1 : i < us.toArray.size := by
      rw [List.size_toArray]
      exact (List.getElem?_eq_some_iff.mp hu).1
    have n2 : i < vs.toArray.size := by
      rw [List.size_toArray]
      exact (List.getElem?_eq_some_iff.mp hv).1
    refine wpAny_pyNext_zipD2_item S (k.draws hA na _) (m.draws hA nb _) gz gp gq ⟨g1, st1⟩ ⟨g2, st2⟩ n1 n2 ?_
    rintro u' v' h1 t1 eu ev gz1 gq1 ⟨d1, _⟩ ⟨d2, _⟩ gT _ same
    obtain rfl : u = u' := Option.some.inj (hu.symm.trans (by simpa using eu))
    obtain rfl : v = v' := Option.some.inj (hv.symm.trans (by simpa using ev))
    refine ⟨_, rfl, wpAny_letOwnedTupleGo_zip (s := { s with heap := h1, toks := t1 }) gz1 fun h2 gz2 sb => ?_⟩
    have all : ∀ c o, c ∉ [z, p, q, i1, i2] → s.heap.get? c = some o → h2.get? c = some o := fun c o hc e => by
      simp only [List.mem_cons, List.not_mem_nil, or_false, not_or] at hc
      rw [sb.2 c hc.1]
      exact same c o hc.1 hc.2.2.1 hc.2.2.2.1 hc.2.2.2.2 e
    have pair : h2.get? s.heap.objs.size = some { cls := .type "tuple", data := .seq #[u, v] } := (sb.2 _ (Nat.ne_of_gt zlt)).trans gT
    have made : ObjOk X.prog X.w (upd H s.heap.objs.size (.tup [x, y])) h2 s.heap.objs.size (.tup [x, y]) := ⟨by show 2 ≤ sizeLine; decide, [u, v], .cons ru (.cons rv .nil), _, pair, rfl, _, rfl⟩
    refine ⟨.ref s.heap.objs.size, _, I.turnedNew (t' := t1) all free (Nat.le_refl _) made, rfl, ?_, ?_, ?_⟩
    · exact ⟨_, x, y, rfl, I.hok.fresh (Nat.le_refl _), rfl, fun l e => k.one I e hxs ▸ hx, fun l e => m.one I e hys ▸ hy⟩
    · exact ⟨gz2, (sb.2 _ S.TIz).trans (same _ _ S.TIz S.TITO S.TIi1 S.TIi2 gp), ⟨u, v, (sb.2 _ S.TOz).trans gq1⟩, k.moved d1 fun o e => (sb.2 _ S.zi1.symm).trans e, m.moved d2 fun o e => (sb.2 _ S.zi2.symm).trans e⟩
    · intro c hc
      have old : c < s.heap.objs.size := by
        obtain ⟨o1, e1, _⟩ := k.lives g1
        obtain ⟨o2, e2, _⟩ := m.lives g2
        exact of_five (R := fun c => c < s.heap.objs.size) hc zlt (Heap.lt_size gp) (Heap.lt_size gq) (Heap.lt_size e1) (Heap.lt_size e2)
      rw [upd_ne (Nat.ne_of_lt old)]
      exact (free c hc).1
  done := by
    rintro X rfl rfl rfl calm i pins s σ H E I free ⟨gz, gp, ⟨x0, y0, gq⟩, g1, g2⟩ ⟨xs, ys, hxs, hys, n1, n2⟩
    obtain ⟨us, rel1, st1, _⟩ := k.known I hxs
    obtain ⟨vs, rel2, st2, _⟩ := m.known I hys
    have hA : X.A.in1.handled = none := I.ok.hd calm
    have z1 : us.toArray.size = i := by rw [List.size_toArray, ← rel1.length, n1]
    have z2 : vs.toArray.size = i := by rw [List.size_toArray, ← rel2.length, n2]
    refine wpAny_pyNext_zipD2_end S (k.draws hA na _) (m.draws hA nb _) gz gp gq ⟨g1, st1⟩ ⟨g2, st2⟩ (by omega) (by omega) (by omega) fun h1 t1 same => ⟨rfl, I.turnedL (t' := t1) (fun c o hc e => ?_) free⟩
    simp only [List.mem_cons, List.not_mem_nil, or_false, not_or] at hc
    exact same c o hc.1 hc.2.2.1 hc.2.2.2.1 hc.2.2.2.2 e
  self := fun _ _ _ _ _ g e => wpAny_pyIter_zip g.1 e
def iZ (K : PySem.W.Frag) (k m : Feed) (ta : TA) : TI := fun σ H R => ta σ H fun vs H1 => ∃ a b xs ys, vs = [.ref a, .ref b] ∧ k.sq K H1 a xs ∧ m.sq K H1 b ys ∧ R (ItZ K k m a b) H1
theorem pi_Z {X : Cx} {e e2 : Expr} {ta : TA} {pz pos tpos : Pos} {elts : List Expr} {kk : Nat} (k m : Feed) (hg : Gl X "zip") (hm : X.mg "zip" = none) (ha : PA X [e, e2] ta)
    (star : starEach [e, e2] X.env = (false, eval e X.env) :: starEach [e2] X.env := by rfl) (plain : (backTo pos (starEach [e2] X.env)).any (·.1) = false := by rfl) :
    PI X (.Tuple elts kk tpos) (.Call (.Name "zip" pz) [e, e2] [] pos) (iZ X.K k m ta) where
  run := by
    intro pins s σ H R I h
    refine Call_ (ld_blt I hg hm PyProof.Rows.boot_zip (PyProof.Rows.callWith_type1 (thn (ha.run pos pins s σ H _ I h) ?_) star plain))
    rintro us s1 ⟨vs, H1, I1, rel, a, b, xs, ys, rfl, hxs, hys, r⟩
    obtain ⟨ua, ub, rfl, ra, rb⟩ := vals2 rel
    cases ra
    cases rb
    obtain ⟨its1, _, st1, la⟩ := k.known I1 hxs
    obtain ⟨its2, _, st2, lb⟩ := m.known I1 hys
    have S : ZipSep2 (s1.heap.objs.size + 4) (s1.heap.objs.size + 2) (s1.heap.objs.size + 3) s1.heap.objs.size (s1.heap.objs.size + 1) [s1.heap.objs.size, a] [s1.heap.objs.size + 1, b] :=
      zip_sep2 (fun c hc => by rw [List.mem_singleton.mp hc]; exact la) (fun c hc => by rw [List.mem_singleton.mp hc]; exact lb)
    have far : ∀ c, s1.heap.objs.size ≤ c → FpOk X pins H1 c := fun c hc => I1.fpOk hc (I1.hok.fresh hc)
    refine zip_begins2 (k.begins a _) (m.begins b _) st1 st2 fun h1 gz gp gq f1 f2 _ same => wpAny_pyIter_zip gz ?_
    refine ⟨_, _, _, _, H1, rfl, I1.kept (t' := s1.toks) same, turnZ S (Nat.ne_of_lt la) (Nat.ne_of_lt (Nat.lt_succ_of_lt lb)), ⟨gz, gp, ⟨_, _, gq⟩, k.first f1, m.first f2⟩, fun c hc => ?_, r⟩
    exact of_five hc (far _ (Nat.le_add_right _ _)) (far _ (Nat.le_add_right _ _)) (far _ (Nat.le_add_right _ _)) (far _ (Nat.le_refl _)) (far _ (Nat.le_add_right _ _))
/-! ### sum of a tuple of ints -/
def rSumT (K : PySem.W.Frag) : List V → Hp → VK → Prop := fun vs H Q => ∃ (t : Addr) (ns : List Int), vs = [V.ref t] ∧ SqT K H t (ns.map V.int) ∧ Q (.int ns.sum) H
theorem cr_sumT {X : Cx} (calm : X.calm = true) : CallR X (.builtin "sum") (rSumT X.K) := by
  rintro pins s σ H vs us Q I rel ⟨t, ns, rfl, hs, want⟩
  obtain ⟨its, vals, tup, _⟩ := I.tuple hs
  rw [Vals.ref1 rel]
  have aI : IntsAre its ns := vals.ints
  obtain ⟨zs, ez⟩ := aI.allInts.items
  have sum_is : preSum (numAt zs) zs.size = ns.sum := by
    rw [preSum_eq, List.take_of_length_le (by simp), ← nums_intItems, ← ez]
    exact congrArg List.sum aI.numsOf
  have tup2 : s.heap.IsTuple t (intItems zs) := ez ▸ tup
  refine PySem.W.ktm_sumG (I.ok.hd calm) tup2 fun h1 k1 t1 same => ?_
  rw [sum_is]
  exact ⟨.int _, H, I.kept same, ⟨_, rfl⟩, want⟩
/-! ### xs[i] read by values, for xs[i] += e -/
def rGetL (K : PySem.W.Frag) : V → V → Hp → VK → Prop := fun x y H Q => ∃ p xs i v, x = .ref p ∧ y = .int i ∧ 0 ≤ i ∧ SqL K H p xs ∧ atI xs i = some v ∧ Q v H
theorem get_list {X : Cx} : PGet X (rGetL X.K) := by
  rintro pins s σ H _ _ ov iv Q I ro ri ⟨p, xs, i, v, rfl, rfl, i0, hxs, hat, want⟩
  cases ro
  obtain ⟨t, rfl⟩ := ri
  obtain ⟨its, vals, plain, small⟩ := I.list hxs
  obtain ⟨j, sj, gj, _, _, hi⟩ := atI_get hat
  obtain ⟨u, gu, ru⟩ := vals.get gj
  have ej : i.toNat = j := Option.some.inj ((seqIndex_of i0 hi).symm.trans sj)
  have line := line63
  exact wpAny_getItem_list plain.isList i0 (by omega) (by rw [ej]; simpa using gu) ⟨v, H, I, ru, want⟩
/-! ### f(k = v, ..), keywords alone -/
def tCallN0 (m : Nat) (sp : Sp) (gV : List V → List V → List V) (E : XK) (tk : TA) : TE := fun σ H Q => tk σ H fun zs H2 => zs.length = m ∧ sp (gV [] zs) H2 Q E
theorem pe_callN0 {X : Cx} {CX : CXT} {k : Nat} {f : Addr} {fd : FuncData} {ps ks : List Str} {sp : Sp} {E : XK} {x : Str} {p pos : Pos} {kws : List Keyword} {tk : TA} {g : List Value → List Value → List Value} {gV : List V → List V → List V}
    (F : FnOk X.prog X.w X.K X.mg X.base CX k f fd ps sp) (room : Room k X.A) (glob : Gl X x) (is : X.mg x = some (.ref f)) (kp : PySem.W.keepIn X.K (.ref f) = true) (bind : KBn X.K fd ps 0 ks g gV) (pass : Passes CX X E) (args : PK X kws tk)
    (named : (backToKw pos (keywordEach kws X.env)).all (·.1.isSome) = true := by rfl) (names : (backToKw pos (keywordEach kws X.env)).filterMap (·.1) = ks := by rfl)
    (nodebug : (x == ("__debug__" : Str)) = false := by decide) (plain : ((backTo pos (starEach [] X.env)).any (·.1) || (backToKw pos (keywordEach kws X.env)).any (·.1.isNone)) = false := by rfl) :
    PE X (.Call (.Name x p) [] kws pos) (tCallN0 ks.length sp gV E tk) where
  run := by
    intro pins s σ H Q I h
    refine wpAny_Call_Name_kw (ld_glob I glob is (PySem.W.callWith_KW0 (h₀ := X.base) I.ok.mod.kin kp named (thn (args.run pos pins s σ H _ I h) ?_) plain) nodebug)
    rintro ws s2 ⟨zs, H2, I2, rel, len, want⟩
    rw [names]
    exact ⟨I2.kIn, run_fnN F room bind pass I2 .nil rel rfl len want⟩
/-! ### t[::-1] of a tuple -/
section
variable {prog : Program} {w : World} {A : Around} {E : Value → Shared → Prop} {s : Shared}
theorem back_parts {sl : Addr} {v0 v1 v2 : Value} {n : Nat} {R : Int × Int × Nat → Shared → Prop} (cut : s.heap.IsSliceOf sl v0 v1 v2) (p0 : IsPart v0 none) (p1 : IsPart v1 none) (p2 : IsPart v2 (some (-1))) (want : R ((n : Int) - 1, -1, n) s) :
    wpAny (model prog w) A (Builtin.Slice.sliceApplied (.ref sl) (pure (n : Int))) R E s := by
  obtain ⟨o, eo, _, eds⟩ := cut
  have num : Builtin.Slice.slicePlaces ((n : Int) - 1) (-1) (-1) = n := by
    show (if (-1 : Int) > 0 then _ else if (n : Int) - 1 > -1 then ((n : Int) - 1 - -1 - 1) / (- -1) + 1 else 0).toNat = n
    rw [if_neg (by decide)]
    by_cases some : (n : Int) - 1 > -1
    · rw [if_pos some, show (- -1 : Int) = 1 by decide, Int.ediv_one]
      omega
    · rw [if_neg some]
      omega
  show wpAny _ _ (Builtin.Slice.sliceFields (.ref sl) >>= _) _ _ _
  refine wpAny_bind (wpAny_bind (wpAny_field eo eds (x := v0) rfl (wpAny_bind (wpAny_field eo eds (x := v1) rfl (wpAny_bind (wpAny_field eo eds (x := v2) rfl (wpAny_pure (wpAny_bind (HT.slicePart_ p2 ?_)))))))))
  show wpAny _ _ (if ((-1 : Int) == 0) = true then _ else _) _ _ _
  rw [if_neg (by decide)]
  refine wpAny_bind (HT.slicePart_ p0 (wpAny_bind (HT.slicePart_ p1 (wpAny_bind (wpAny_pure (wpAny_pure ?_))))))
  show R ((n : Int) - 1, -1, Builtin.Slice.slicePlaces ((n : Int) - 1) (-1) (-1)) s
  rw [num]
  exact want
theorem back_items (xs : Array Value) : ((List.range xs.size).filterMap fun (m : Nat) => xs[(((xs.size : Nat) : Int) - 1 + (m : Int) * (-1)).toNat]?).toArray = xs.toList.reverse.toArray := by
  have e : (fun (m : Nat) => xs[(((xs.size : Nat) : Int) - 1 + (m : Int) * (-1)).toNat]?) = (xs[·]?) ∘ fun m => xs.size - 1 - m := funext fun m => by
    show xs[(((xs.size : Nat) : Int) - 1 + (m : Int) * (-1)).toNat]? = xs[xs.size - 1 - m]?
    congr 1
    omega
  rw [e, ← List.filterMap_map, PySem.W.krv_range, List.filterMap_reverse, PySem.W.krv_all xs]
theorem tuple_back {t sl : Addr} {its : Array Value} {v0 v1 v2 : Value} {R : Value → Shared → Prop} (tup : IsTup s.heap t its) (cut : s.heap.IsSliceOf sl v0 v1 v2) (p0 : IsPart v0 none) (p1 : IsPart v1 none) (p2 : IsPart v2 (some (-1))) (small : its.size ≤ sizeLine)
    (want : R (.ref s.heap.objs.size) { s with heap := s.heap.push { cls := .type "tuple", data := .seq its.toList.reverse.toArray } }) : wpAny (model prog w) A (getItem (.ref t) (.ref sl)) R E s := by
  obtain ⟨o, eo, ecs, _⟩ := id cut
  have isSl : s.TypeIs (.ref sl) "slice" := ⟨o, eo, ecs⟩
  have fits : sizeOk (.seq its.toList.reverse.toArray) := by
    show its.toList.reverse.toArray.size ≤ sizeLine
    simpa using small
  unfold getItem
  (try with_reducible refine wpAny_holding ?_); (first | refine wpAny_bind (wpAny_pure ?_) | skip)
  refine wpAny_bind (wpAny_sequenceKey tup.typeIs (by decide) (wpAny_bind (wpAny_callSpecial?_slot (name := Str.ofString "__getitem__") tup.typeIs PyProof.Rows.slot_tuple_getitem (wpAny_call_entry PyProof.Rows.slot_tuple_getitem tup.typeIs entry_tuple_getitem ?_ (args_tuple_getitem _ _)))))
  refine wpAny_bind (m := Builtin.Tuple.tupleItemsOf (.ref t)) (tupleItemsOf_ tup (wpAny_bind (wpAny_typeOf isSl ?_)))
  rw [if_pos (by decide)]
  refine wpAny_bind (back_parts cut p0 p1 p2 ?_)
  show wpAny _ _ (if ((((its.size : Int) - 1) == 0 && (-1 : Int) == 1 && its.size == its.size) = true) then _ else _) _ _ _
  rw [if_neg (by simp), back_items]
  first
    | exact wpAny_bind (m := Builtin.Tuple.tupleExact _) (wpAny_newObj_type (wpAny_pure ⟨_, rfl, wpAny_pure want⟩) fits)
    | exact wpAny_bind (m := Builtin.Tuple.tupleExact _) (wpAny_newObj_type (wpAny_bind (wpAny_pure (wpAny_pure ⟨_, rfl, wpAny_pure want⟩))) fits)
end
def tRevT (K : PySem.W.Frag) (te : TE) : TE := fun σ H Q => te σ H fun x H1 => ∃ t xs, x = .ref t ∧ SqT K H1 t xs ∧ ∀ p, H1 p = none → Q (.ref p) (upd H1 p (.tup xs.reverse))
theorem pe_revT {X : Cx} {e : Expr} {te : TE} {k : Nat} {q1 q2 q3 pos : Pos} (he : PE X e te) : PE X (.Subscript e (.Slice none none (some (.UnaryOp .USub (.Constant (.int 1) k q1) q2)) q3) pos) (tRevT X.K te) where
  run := by
    intro pins s σ H Q I h
    have minus : PO X (some (.UnaryOp .USub (.Constant (.int 1) k q1) q2)) (tPart (tUn (rU fun i => .int (-i)) (tC (.int 1)))) := po_some (pe_un un_neg pe_int)
    refine Subscript_ (thn (he.run pins s σ H _ I h) ?_)
    rintro _ s1 ⟨_, H1, I1, rel, t, xs, rfl, hxs, want⟩
    cases rel
    refine wpAny_Slice (thn (po_none.run pins s1 σ H1 (fun o G => o = none ∧ G = H1) I1 ⟨rfl, rfl⟩) ?_)
    rintro v0 s2 ⟨_, _, I2, p0, rfl, rfl⟩
    refine thn (po_none.run pins s2 σ _ (fun o G => o = none ∧ G = _) I2 ⟨rfl, rfl⟩) ?_
    rintro v1 s3 ⟨_, _, I3, p1, rfl, rfl⟩
    refine thn (minus.run pins s3 σ _ (fun o G => o = some (-1) ∧ G = _) I3 ⟨1, rfl, -1, rfl, rfl, rfl⟩) ?_
    rintro v2 s4 ⟨_, _, I4, p2, rfl, rfl⟩
    have I5 := I4.kept (h' := s4.heap.push { cls := .type "slice", data := .fields #[v0, v1, v2] }) (t' := s4.toks) fun c o g => Heap.get?_push_of_some _ g
    obtain ⟨its, vals, tup, small⟩ := I5.tuple hxs
    refine tail_any (ops := [.ref t, .ref s4.heap.objs.size]) tup.typeIs PyProof.Rows.slot_tuple_getitem.lookup (tuple_back tup (Heap.IsSliceOf.new _ v0 v1 v2) p0 p1 p2 (by rw [List.size_toArray, ← vals.length]; exact small) ?_) (by with_unfolding_all rfl)
    exact ⟨.ref _, _, I5.laid (t' := s4.toks) (o := .tup xs.reverse) (fun c o g => Heap.get?_push_of_some _ g) (Nat.le_refl _) ⟨by rw [List.length_reverse]; exact small, _, vals.reverse, IsTup.new _ _⟩, rfl, want _ (I5.hok.fresh (Nat.le_refl _))⟩
end Wd

set_option linter.all false
namespace WdM
/-! ### pennies by weights -/
def deal (a T : Int) : Int → List Int → List Int
  | _, [] => []
  | k, w :: ws => if 0 < k ∧ a * w % T ≠ 0 then (a * w / T + 1) :: deal a T (k - 1) ws else a * w / T :: deal a T k ws
def bases (a T : Int) (ws : List Int) : List Int := ws.map fun w => a * w / T
def cnt (a T : Int) : List Int → Int
  | [] => 0
  | w :: ws => (if a * w % T ≠ 0 then 1 else 0) + cnt a T ws
def dealt (a : Int) (ws : List Int) : List Int := deal a ws.sum (a - (bases a ws.sum ws).sum) ws

theorem deal_len (a T : Int) : ∀ (k : Int) (ws : List Int), (deal a T k ws).length = ws.length
  | _, [] => rfl
  | k, w :: ws => by
    unfold deal
    split
    · rw [List.length_cons, deal_len a T (k - 1) ws, List.length_cons]
    · rw [List.length_cons, deal_len a T k ws, List.length_cons]
theorem dealt_len (a : Int) (ws : List Int) : (dealt a ws).length = ws.length := deal_len _ _ _ _
theorem cnt_cons (a T w : Int) (ws : List Int) : cnt a T (w :: ws) = (if a * w % T ≠ 0 then 1 else 0) + cnt a T ws := rfl
theorem cnt_nonneg (a T : Int) : ∀ ws, 0 ≤ cnt a T ws
  | [] => Int.le_refl 0
  | w :: ws => by
    have := cnt_nonneg a T ws
    unfold cnt
    split <;> omega
theorem deal_sum (a T : Int) : ∀ (k : Int) (ws : List Int), 0 ≤ k → (deal a T k ws).sum = (bases a T ws).sum + min k (cnt a T ws)
  | k, [], hk => by
    show (0 : Int) = 0 + min k 0
    omega
  | k, w :: ws, hk => by
    have hb : (bases a T (w :: ws)).sum = a * w / T + (bases a T ws).sum := by unfold bases; rw [List.map_cons, List.sum_cons]
    have hc := cnt_nonneg a T ws
    unfold deal
    split
    · rename_i h
      have ih := deal_sum a T (k - 1) ws (by omega)
      rw [List.sum_cons, ih, hb]
      rw [cnt_cons, if_pos h.2]
      generalize a * w / T = q
      omega
    · rename_i h
      have ih := deal_sum a T k ws hk
      rw [List.sum_cons, ih, hb]
      rw [cnt_cons]
      generalize a * w / T = q
      by_cases hz : a * w % T ≠ 0
      · have : ¬ 0 < k := fun z => h ⟨z, hz⟩
        rw [if_pos hz]
        omega
      · rw [if_neg hz]
        omega
def rems (a T : Int) (ws : List Int) : List Int := ws.map fun w => a * w % T
theorem bases_rems (a T : Int) : ∀ ws : List Int, T * (bases a T ws).sum + (rems a T ws).sum = a * ws.sum
  | [] => by
    show T * 0 + 0 = a * 0
    simp
  | w :: ws => by
    have ih := bases_rems a T ws
    have e : T * (a * w / T) + a * w % T = a * w := Int.mul_ediv_add_emod (a * w) T
    unfold bases rems at *
    rw [List.map_cons, List.map_cons, List.sum_cons, List.sum_cons, List.sum_cons, Int.mul_add, Int.mul_add]
    omega
theorem rems_bound (a T : Int) (hT : 0 < T) : ∀ ws : List Int, 0 ≤ (rems a T ws).sum ∧ (rems a T ws).sum ≤ (T - 1) * cnt a T ws
  | [] => by
    constructor
    · exact Int.le_refl 0
    · show (0 : Int) ≤ (T - 1) * 0
      simp
  | w :: ws => by
    have ih := rems_bound a T hT ws
    have h0 := Int.emod_nonneg (a * w) (show T ≠ 0 by omega)
    have h1 := Int.emod_lt_of_pos (a * w) hT
    unfold rems at *
    rw [List.map_cons, List.sum_cons]
    rw [cnt_cons]
    generalize hr : a * w % T = r at *
    by_cases hz : r ≠ 0
    · rw [if_pos hz, Int.mul_add, Int.mul_one]
      omega
    · rw [if_neg hz]
      have : r = 0 := by omega
      subst this
      rw [Int.zero_add, Int.zero_add]
      omega
theorem lack_bounds (a : Int) (ws : List Int) (hT : 0 < ws.sum) : 0 ≤ a - (bases a ws.sum ws).sum ∧ a - (bases a ws.sum ws).sum ≤ cnt a ws.sum ws := by
  have h1 := bases_rems a ws.sum ws
  have ⟨h2, h3⟩ := rems_bound a ws.sum hT ws
  have hc := cnt_nonneg a ws.sum ws
  generalize ws.sum = T at *
  generalize (bases a T ws).sum = B at *
  generalize (rems a T ws).sum = R at *
  generalize cnt a T ws = c at *
  have e : T * (a - B) = R := by
    rw [Int.mul_sub]
    have : a * T = T * a := Int.mul_comm _ _
    omega
  constructor
  · rcases Int.lt_or_le (a - B) 0 with h | h
    · have : T * (a - B) < 0 := Int.mul_neg_of_pos_of_neg hT h
      omega
    · exact h
  · rcases Int.lt_or_le c (a - B) with h | h
    · have h4 : T * (c + 1) ≤ T * (a - B) := Int.mul_le_mul_of_nonneg_left (by omega) (by omega)
      have h5 : (T - 1) * c = T * c - c := by rw [Int.sub_mul, Int.one_mul]
      rw [Int.mul_add, Int.mul_one] at h4
      omega
    · exact h
theorem dealt_sum (a : Int) (ws : List Int) (hT : 0 < ws.sum) : (dealt a ws).sum = a := by
  have ⟨h1, h2⟩ := lack_bounds a ws hT
  unfold dealt
  rw [deal_sum _ _ _ _ h1]
  omega
/-- each is its exact part, rounded down or up -/
theorem deal_get (a T : Int) : ∀ (k : Int) (ws : List Int) (i : Nat) (v : Int), (deal a T k ws)[i]? = some v → ∃ w, ws[i]? = some w ∧ (v = a * w / T ∨ v = a * w / T + 1)
  | _, [], i, v, h => by unfold deal at h; simp at h
  | k, w :: ws, i, v, h => by
    unfold deal at h
    split at h
    · cases i with
      | zero => exact ⟨w, rfl, .inr (by simpa using h.symm)⟩
      | succ i => exact deal_get a T _ ws i v (by simpa using h)
    · cases i with
      | zero => exact ⟨w, rfl, .inl (by simpa using h.symm)⟩
      | succ i => exact deal_get a T _ ws i v (by simpa using h)
/-! ### the same by other numbers of the same shares -/
theorem sum_scale (p : Int) : ∀ ws : List Int, (ws.map (p * ·)).sum = p * ws.sum
  | [] => by simp
  | w :: ws => by rw [List.map_cons, List.sum_cons, List.sum_cons, sum_scale p ws, Int.mul_add]
theorem part_scale {a T w p : Int} (hp : 0 < p) : a * (p * w) / (p * T) = a * w / T := by
  rw [show a * (p * w) = p * (a * w) by rw [← Int.mul_assoc, Int.mul_comm a p, Int.mul_assoc]]
  exact Int.mul_ediv_mul_of_pos _ _ hp
theorem rem_scale {a T w p : Int} (hp : 0 < p) : (a * (p * w) % (p * T) ≠ 0) ↔ (a * w % T ≠ 0) := by
  rw [show a * (p * w) = p * (a * w) by rw [← Int.mul_assoc, Int.mul_comm a p, Int.mul_assoc], Int.mul_emod_mul_of_pos _ _ hp]
  constructor
  · intro h z
    exact h (by rw [z, Int.mul_zero])
  · intro h z
    rcases Int.mul_eq_zero.mp z with q | q
    · omega
    · exact h q
theorem deal_scale {a T p : Int} (hp : 0 < p) : ∀ (k : Int) (ws : List Int), deal a (p * T) k (ws.map (p * ·)) = deal a T k ws
  | _, [] => rfl
  | k, w :: ws => by
    rw [List.map_cons]
    unfold deal
    rw [part_scale hp]
    by_cases h : 0 < k ∧ a * w % T ≠ 0
    · rw [if_pos h, if_pos ⟨h.1, (rem_scale hp).mpr h.2⟩, deal_scale hp (k - 1) ws]
    · rw [if_neg h, if_neg (fun z => h ⟨z.1, (rem_scale hp).mp z.2⟩), deal_scale hp k ws]
theorem bases_scale {a T p : Int} (hp : 0 < p) (ws : List Int) : bases a (p * T) (ws.map (p * ·)) = bases a T ws := by
  unfold bases
  rw [List.map_map]
  apply List.map_congr_left
  intro w _
  exact part_scale hp
theorem dealt_scale {a p : Int} (hp : 0 < p) (ws : List Int) : dealt a (ws.map (p * ·)) = dealt a ws := by
  unfold dealt
  rw [sum_scale, bases_scale hp, deal_scale hp]
theorem dealt_like {a p q : Int} (hp : 0 < p) (hq : 0 < q) {ws ws' : List Int} (h : ws.map (p * ·) = ws'.map (q * ·)) : dealt a ws = dealt a ws' := by
  rw [← dealt_scale hp ws, h, dealt_scale hq]
/-! ### weights of fractions -/
def lcmF : Int → List (Int × Int) → Int
  | b, [] => b
  | b, f :: fs => lcmF (b / (Int.gcd b f.2 : Int) * f.2) fs
def wts (L : Int) (fs : List (Int × Int)) : List Int := fs.map fun f => f.1 * (L / f.2)
def wtsOf (fs : List (Int × Int)) : List Int := wts (lcmF 1 fs) fs
structure Lcm (b L : Int) (fs : List (Int × Int)) : Prop where
  pos : 0 < L
  dvd : b ∣ L
  all : ∀ f ∈ fs, f.2 ∣ L
theorem step_lcm {b d : Int} (hb : 0 < b) (hd : 0 < d) : 0 < b / (Int.gcd b d : Int) * d ∧ b ∣ b / (Int.gcd b d : Int) * d ∧ d ∣ b / (Int.gcd b d : Int) * d := by
  have g0 : (0 : Int) < (Int.gcd b d : Int) := by
    have : Int.gcd b d ≠ 0 := fun z => by
      have := (Int.gcd_eq_zero_iff.mp z).1
      omega
    omega
  obtain ⟨x, hx⟩ := Int.gcd_dvd_left b d
  obtain ⟨y, hy⟩ := Int.gcd_dvd_right b d
  generalize hg : (Int.gcd b d : Int) = g at *
  have e : b / g = x := by rw [hx]; exact Int.mul_ediv_cancel_left x (by omega)
  have xp : 0 < x := by
    rcases Int.lt_or_le 0 x with h | h
    · exact h
    · have : g * x ≤ 0 := Int.mul_nonpos_of_nonneg_of_nonpos (by omega) h
      omega
  rw [e]
  refine ⟨Int.mul_pos xp hd, ⟨y, ?_⟩, ⟨x, Int.mul_comm _ _⟩⟩
  rw [hy, hx, ← Int.mul_assoc, Int.mul_comm x g]
theorem lcm_is : ∀ (fs : List (Int × Int)) (b : Int), 0 < b → (∀ f ∈ fs, 0 < f.2) → Lcm b (lcmF b fs) fs
  | [], b, hb, _ => ⟨hb, Int.dvd_refl b, fun f h => by cases h⟩
  | f :: fs, b, hb, h => by
    have hd := h f List.mem_cons_self
    have ⟨s1, s2, s3⟩ := step_lcm hb hd
    have ih := lcm_is fs _ s1 (fun g hg => h g (List.mem_cons_of_mem _ hg))
    refine ⟨ih.pos, Int.dvd_trans s2 ih.dvd, fun g hg => ?_⟩
    rcases List.mem_cons.mp hg with rfl | hg
    · exact Int.dvd_trans s3 ih.dvd
    · exact ih.all g hg
theorem wt_eq {L t d : Int} (h : d ∣ L) : t * (L / d) * d = t * L := by
  rw [Int.mul_assoc, Int.ediv_mul_cancel h]
/-- two rows of fractions that stand as B to A -/
theorem wts_like {A B L L' : Int} (hA : 0 < A) (hB : 0 < B) : ∀ (fs fs' : List (Int × Int)), fs.length = fs'.length → (∀ f ∈ fs, 0 < f.2 ∧ f.2 ∣ L) → (∀ f ∈ fs', 0 < f.2 ∧ f.2 ∣ L') →
    (∀ (i : Nat) (f f' : Int × Int), fs[i]? = some f → fs'[i]? = some f' → f'.1 * f.2 * B = f.1 * A * f'.2) → (wts L fs).map (A * L' * ·) = (wts L' fs').map (B * L * ·)
  | [], [], _, _, _, _ => rfl
  | f :: fs, f' :: fs', hl, h1, h2, h3 => by
    have ih := wts_like (L := L) (L' := L') hA hB fs fs' (by simpa using hl) (fun g hg => h1 g (List.mem_cons_of_mem _ hg)) (fun g hg => h2 g (List.mem_cons_of_mem _ hg)) (fun i g g' a b => h3 (i + 1) g g' (by simpa using a) (by simpa using b))
    have e := h3 0 f f' rfl rfl
    have ⟨p1, d1⟩ := h1 f List.mem_cons_self
    have ⟨p2, d2⟩ := h2 f' List.mem_cons_self
    unfold wts at *
    rw [List.map_cons, List.map_cons, List.map_cons, List.map_cons, ih]
    congr 1
    have w1 := wt_eq (t := f.1) d1
    have w2 := wt_eq (t := f'.1) d2
    generalize f.1 * (L / f.2) = w at *
    generalize f'.1 * (L' / f'.2) = w' at *
    have ne : f.2 * f'.2 ≠ 0 := Int.ne_of_gt (Int.mul_pos p1 p2)
    apply Int.eq_of_mul_eq_mul_right ne
    have l1 : A * L' * w * (f.2 * f'.2) = (w * f.2) * (A * L' * f'.2) := by
      ac_rfl
    have l2 : B * L * w' * (f.2 * f'.2) = (w' * f'.2) * (B * L * f.2) := by
      ac_rfl
    rw [l1, l2, w1, w2]
    have l3 : f.1 * L * (A * L' * f'.2) = (f.1 * A * f'.2) * (L * L') := by ac_rfl
    have l4 : f'.1 * L' * (B * L * f.2) = (f'.1 * f.2 * B) * (L * L') := by ac_rfl
    rw [l3, l4, e]
theorem dealt_frac {a A B : Int} (hA : 0 < A) (hB : 0 < B) {fs fs' : List (Int × Int)} (hl : fs.length = fs'.length) (h1 : ∀ f ∈ fs, 0 < f.2) (h2 : ∀ f ∈ fs', 0 < f.2)
    (h3 : ∀ (i : Nat) (f f' : Int × Int), fs[i]? = some f → fs'[i]? = some f' → f'.1 * f.2 * B = f.1 * A * f'.2) : dealt a (wtsOf fs) = dealt a (wtsOf fs') := by
  have c1 := lcm_is fs 1 (by decide) h1
  have c2 := lcm_is fs' 1 (by decide) h2
  exact dealt_like (Int.mul_pos hA c2.pos) (Int.mul_pos hB c1.pos) (wts_like hA hB fs fs' hl (fun f hf => ⟨h1 f hf, c1.all f hf⟩) (fun f hf => ⟨h2 f hf, c2.all f hf⟩) h3)
theorem wtsOf_sum_pos {fs : List (Int × Int)} (h1 : ∀ f ∈ fs, 0 ≤ f.1 ∧ 0 < f.2) (h2 : ∃ f ∈ fs, 0 < f.1) : 0 < (wtsOf fs).sum ∧ ∀ w ∈ wtsOf fs, 0 ≤ w := by
  have c := lcm_is fs 1 (by decide) (fun f hf => (h1 f hf).2)
  unfold wtsOf
  generalize lcmF 1 fs = L at *
  have q : ∀ f ∈ fs, 0 < L / f.2 := fun f hf => Int.ediv_pos_of_pos_of_dvd c.pos (Int.le_of_lt (h1 f hf).2) (c.all f hf)
  clear c
  have nn : ∀ w ∈ wts L fs, 0 ≤ w := fun w hw => by
    unfold wts at hw
    obtain ⟨f, hf, rfl⟩ := List.mem_map.mp hw
    exact Int.mul_nonneg (h1 f hf).1 (Int.le_of_lt (q f hf))
  refine ⟨?_, nn⟩
  induction fs with
  | nil => obtain ⟨f, hf, _⟩ := h2; cases hf
  | cons g fs ih =>
    unfold wts
    rw [List.map_cons, List.sum_cons]
    have g0 : 0 ≤ g.1 * (L / g.2) := nn _ (by unfold wts; rw [List.map_cons]; exact List.mem_cons_self)
    have rest : ∀ (xs : List Int), (∀ w ∈ xs, 0 ≤ w) → 0 ≤ xs.sum := fun xs => by
      induction xs with
      | nil => intro _; exact Int.le_refl 0
      | cons x xs ihx =>
        intro hx
        rw [List.sum_cons]
        have a := hx x List.mem_cons_self
        have b := ihx (fun w hw => hx w (List.mem_cons_of_mem _ hw))
        omega
    have r0 : 0 ≤ (fs.map fun f => f.1 * (L / f.2)).sum := rest _ (fun w hw => nn w (by unfold wts; rw [List.map_cons]; exact List.mem_cons_of_mem _ hw))
    obtain ⟨f, hf, hp⟩ := h2
    rcases List.mem_cons.mp hf with rfl | hf
    · have := Int.mul_pos hp (q f List.mem_cons_self)
      omega
    · have ih2 := ih (fun f hf => h1 f (List.mem_cons_of_mem _ hf)) ⟨f, hf, hp⟩ (fun f hf => q f (List.mem_cons_of_mem _ hf)) (fun w hw => nn w (by unfold wts at *; rw [List.map_cons]; exact List.mem_cons_of_mem _ hw))
      unfold wts at ih2
      omega
theorem wtsOf_len (fs : List (Int × Int)) : (wtsOf fs).length = fs.length := by unfold wtsOf wts; rw [List.length_map]
/-! ### whole shares -/
theorem lcm_whole : ∀ fs : List (Int × Int), (∀ f ∈ fs, f.2 = 1) → lcmF 1 fs = 1
  | [], _ => rfl
  | f :: fs, h => by
    unfold lcmF
    rw [h f List.mem_cons_self]
    show lcmF (1 / (Int.gcd 1 1 : Int) * 1) fs = 1
    rw [show (1 : Int) / (Int.gcd 1 1 : Int) * 1 = 1 by decide]
    exact lcm_whole fs (fun g hg => h g (List.mem_cons_of_mem _ hg))
theorem wtsOf_whole (ts : List Int) : wtsOf (ts.map fun t => (t, 1)) = ts := by
  unfold wtsOf
  rw [lcm_whole _ (fun f hf => by obtain ⟨t, _, rfl⟩ := List.mem_map.mp hf; rfl)]
  unfold wts
  rw [List.map_map]
  have e : ((fun f : Int × Int => f.1 * (1 / f.2)) ∘ fun t : Int => (t, (1 : Int))) = id := by
    funext t
    show t * (1 / 1) = t
    rw [show (1 : Int) / 1 = 1 by decide, Int.mul_one]
  rw [e, List.map_id]
theorem deal_self {T : Int} (hT : 0 < T) : ∀ (k : Int) (ws : List Int), deal T T k ws = ws
  | _, [] => rfl
  | k, w :: ws => by
    unfold deal
    have e : T * w % T = 0 := Int.mul_emod_right T w
    rw [if_neg (fun z => z.2 e), Int.mul_ediv_cancel_left w (by omega), deal_self hT k ws]
theorem dealt_self {ws : List Int} (hT : 0 < ws.sum) : dealt ws.sum ws = ws := deal_self hT _ _
theorem deal_more {a T t : Int} (hT : 0 < T) : ∀ (k : Int) (ws : List Int), deal (a + t * T) T k ws = List.zipWith (fun p w => p + t * w) (deal a T k ws) ws
  | _, [] => rfl
  | k, w :: ws => by
    have e : (a + t * T) * w = a * w + T * (t * w) := by
      rw [Int.add_mul]
      congr 1
      ac_rfl
    have e1 : (a + t * T) * w / T = a * w / T + t * w := by
      rw [e, Int.add_mul_ediv_left _ _ (by omega)]
    have e2 : (a + t * T) * w % T = a * w % T := by
      rw [e, Int.add_mul_emod_self_left]
    unfold deal
    rw [e1, e2]
    by_cases h : 0 < k ∧ a * w % T ≠ 0
    · rw [if_pos h, if_pos h, deal_more hT (k - 1) ws, List.zipWith_cons_cons]
      congr 1
      omega
    · rw [if_neg h, if_neg h, deal_more hT k ws, List.zipWith_cons_cons]
theorem bases_more {a T t : Int} (hT : 0 < T) : ∀ ws : List Int, (bases (a + t * T) T ws).sum = (bases a T ws).sum + t * ws.sum
  | [] => by
    show (0 : Int) = 0 + t * 0
    simp
  | w :: ws => by
    have ih := bases_more (a := a) (t := t) hT ws
    have e : (a + t * T) * w = a * w + T * (t * w) := by
      rw [Int.add_mul]
      congr 1
      ac_rfl
    have e1 : (a + t * T) * w / T = a * w / T + t * w := by
      rw [e, Int.add_mul_ediv_left _ _ (by omega)]
    unfold bases at *
    rw [List.map_cons, List.map_cons, List.sum_cons, List.sum_cons, List.sum_cons, ih, e1, Int.mul_add]
    omega
theorem dealt_more {a t : Int} {ws : List Int} (hT : 0 < ws.sum) : dealt (a + t * ws.sum) ws = List.zipWith (fun p w => p + t * w) (dealt a ws) ws := by
  unfold dealt
  rw [bases_more hT, deal_more hT]
  congr 2
  omega
/-! ### noughts between -/
def trues : Nat → List Bool → List Nat
  | _, [] => []
  | n, true :: r => n :: trues (n + 1) r
  | n, false :: r => trues (n + 1) r
theorem trues_append : ∀ (a b : List Bool) (n : Nat), trues n (a ++ b) = trues n a ++ trues (n + a.length) b
  | [], b, n => by simp [trues]
  | true :: a, b, n => by
    have := trues_append a b (n + 1)
    simp only [List.cons_append, trues, this, List.length_cons]
    rw [show n + 1 + a.length = n + (a.length + 1) by omega]
  | false :: a, b, n => by
    have := trues_append a b (n + 1)
    simp only [List.cons_append, trues, this, List.length_cons]
    rw [show n + 1 + a.length = n + (a.length + 1) by omega]
theorem trues_false : ∀ (z n : Nat), trues n (List.replicate z false) = []
  | 0, n => rfl
  | z + 1, n => by rw [List.replicate_succ]; exact trues_false z (n + 1)
theorem trues_mem : ∀ (m : List Bool) (n q : Nat), q ∈ trues n m ↔ n ≤ q ∧ m[q - n]? = some true
  | [], n, q => by simp [trues]
  | true :: m, n, q => by
    have ih := trues_mem m (n + 1) q
    simp only [trues, List.mem_cons, ih]
    constructor
    · rintro (rfl | ⟨h1, h2⟩)
      · simp
      · refine ⟨by omega, ?_⟩
        rw [show q - n = (q - (n + 1)) + 1 by omega]
        simpa using h2
    · rintro ⟨h1, h2⟩
      by_cases e : q = n
      · exact .inl e
      · right
        refine ⟨by omega, ?_⟩
        rw [show q - n = (q - (n + 1)) + 1 by omega] at h2
        simpa using h2
  | false :: m, n, q => by
    have ih := trues_mem m (n + 1) q
    simp only [trues, ih]
    constructor
    · rintro ⟨h1, h2⟩
      refine ⟨by omega, ?_⟩
      rw [show q - n = (q - (n + 1)) + 1 by omega]
      simpa using h2
    · rintro ⟨h1, h2⟩
      by_cases e : q = n
      · subst e
        simp at h2
      · refine ⟨by omega, ?_⟩
        rw [show q - n = (q - (n + 1)) + 1 by omega] at h2
        simpa using h2
theorem trues_lt {m : List Bool} {q : Nat} (h : q ∈ trues 0 m) : q < m.length := by
  have := ((trues_mem m 0 q).mp h).2
  rw [Nat.sub_zero] at this
  exact (List.getElem?_eq_some_iff.mp this).1
/-- what stands at the marked places -/
theorem trues_pick : ∀ (m : List (Bool × Int)) (pre : List Int), (trues pre.length (m.map (·.1))).map (fun p => (pre ++ m.map (·.2)).getD p 0) = (m.filter (·.1)).map (·.2)
  | [], pre => rfl
  | (true, v) :: m, pre => by
    have ih := trues_pick m (pre ++ [v])
    simp only [List.length_append, List.length_cons, List.length_nil, List.append_assoc, List.cons_append, List.nil_append] at ih
    simp only [List.map_cons, trues, List.filter_cons, if_true]
    rw [show pre.length + 1 = pre.length + (0 + 1) by omega, ih]
    congr 1
    simp [List.getD]
  | (false, v) :: m, pre => by
    have ih := trues_pick m (pre ++ [v])
    simp only [List.length_append, List.length_cons, List.length_nil, List.append_assoc, List.cons_append, List.nil_append] at ih
    simp only [List.map_cons, trues, List.filter_cons]
    rw [show pre.length + 1 = pre.length + (0 + 1) by omega, ih]
    simp
def Naught (m : List (Bool × Int)) : Prop := ∀ x ∈ m, x.1 = false → x.2 = 0
theorem sum_naught : ∀ m : List (Bool × Int), Naught m → (m.map (·.2)).sum = ((m.filter (·.1)).map (·.2)).sum
  | [], _ => rfl
  | (true, v) :: m, h => by
    have ih := sum_naught m (fun x hx => h x (List.mem_cons_of_mem _ hx))
    simp only [List.map_cons, List.sum_cons, List.filter_cons, if_true, ih]
  | (false, v) :: m, h => by
    have ih := sum_naught m (fun x hx => h x (List.mem_cons_of_mem _ hx))
    have e : v = 0 := h _ List.mem_cons_self rfl
    subst e
    simp only [List.map_cons, List.sum_cons, List.filter_cons, ih]
    simp
/-- the pennies with their marks -/
def marked (a T : Int) : Int → List (Bool × Int) → List (Bool × Int)
  | _, [] => []
  | k, (b, w) :: m => if 0 < k ∧ a * w % T ≠ 0 then (b, a * w / T + 1) :: marked a T (k - 1) m else (b, a * w / T) :: marked a T k m
theorem marked_snd (a T : Int) : ∀ (k : Int) (m : List (Bool × Int)), (marked a T k m).map (·.2) = deal a T k (m.map (·.2))
  | _, [] => rfl
  | k, (b, w) :: m => by
    unfold marked
    rw [List.map_cons]
    unfold deal
    split
    · rw [List.map_cons, marked_snd a T (k - 1) m]
    · rw [List.map_cons, marked_snd a T k m]
theorem marked_fst (a T : Int) : ∀ (k : Int) (m : List (Bool × Int)), (marked a T k m).map (·.1) = m.map (·.1)
  | _, [] => rfl
  | k, (b, w) :: m => by
    unfold marked
    rw [List.map_cons]
    split
    · rw [List.map_cons, marked_fst a T (k - 1) m]
    · rw [List.map_cons, marked_fst a T k m]
theorem marked_pick (a T : Int) : ∀ (k : Int) (m : List (Bool × Int)), Naught m → ((marked a T k m).filter (·.1)).map (·.2) = deal a T k ((m.filter (·.1)).map (·.2))
  | _, [], _ => rfl
  | k, (true, w) :: m, h => by
    have ih := fun k => marked_pick a T k m (fun x hx => h x (List.mem_cons_of_mem _ hx))
    unfold marked
    simp only [List.filter_cons, if_true, List.map_cons]
    unfold deal
    split
    · simp only [List.filter_cons, if_true, List.map_cons, ih]
    · simp only [List.filter_cons, if_true, List.map_cons, ih]
  | k, (false, w) :: m, h => by
    have ih := fun k => marked_pick a T k m (fun x hx => h x (List.mem_cons_of_mem _ hx))
    have e : w = 0 := h _ List.mem_cons_self rfl
    subst e
    unfold marked
    have e0 : a * 0 % T = 0 := by rw [Int.mul_zero, Int.zero_emod]
    rw [if_neg (fun z => z.2 e0)]
    simp [List.filter_cons, ih]
theorem marked_naught (a T : Int) : ∀ (k : Int) (m : List (Bool × Int)), Naught m → Naught (marked a T k m)
  | _, [], _ => fun x hx => by cases hx
  | k, (b, w) :: m, h => by
    have ih := fun k => marked_naught a T k m (fun x hx => h x (List.mem_cons_of_mem _ hx))
    have h0 := h _ List.mem_cons_self
    unfold marked
    split
    · rename_i hc
      intro x hx hf
      rcases List.mem_cons.mp hx with rfl | hx
      · have e : w = 0 := h0 hf
        subst e
        exact absurd (by rw [Int.mul_zero, Int.zero_emod]) hc.2
      · exact ih _ x hx hf
    · intro x hx hf
      rcases List.mem_cons.mp hx with rfl | hx
      · have e : w = 0 := h0 hf
        subst e
        show a * 0 / T = 0
        rw [Int.mul_zero, Int.zero_ediv]
      · exact ih _ x hx hf
theorem bases_naught (a T : Int) (m : List (Bool × Int)) (h : Naught m) : (bases a T (m.map (·.2))).sum = (bases a T ((m.filter (·.1)).map (·.2))).sum := by
  have e := sum_naught (m.map fun x => (x.1, a * x.2 / T)) (fun x hx hf => by
    obtain ⟨y, hy, rfl⟩ := List.mem_map.mp hx
    have : y.2 = 0 := h y hy hf
    show a * y.2 / T = 0
    rw [this, Int.mul_zero, Int.zero_ediv])
  unfold bases
  simp only [List.map_map, List.filter_map] at *
  exact e
/-- the pennies of a row with noughts between -/
theorem dealt_naught (a : Int) (m : List (Bool × Int)) (h : Naught m) : ∃ m' : List (Bool × Int), m'.map (·.2) = dealt a (m.map (·.2)) ∧ m'.map (·.1) = m.map (·.1) ∧ Naught m' ∧ (m'.filter (·.1)).map (·.2) = dealt a ((m.filter (·.1)).map (·.2)) := by
  refine ⟨marked a (m.map (·.2)).sum (a - (bases a (m.map (·.2)).sum (m.map (·.2))).sum) m, marked_snd .., marked_fst .., marked_naught _ _ _ _ h, ?_⟩
  rw [marked_pick _ _ _ _ h, bases_naught _ _ _ h, sum_naught m h]
  rfl
end WdM

set_option Elab.async false
set_option linter.all false
set_option maxRecDepth 100000
set_option maxHeartbeats 4000000
namespace Wd
open PySem PySem.Spec PyProof.Rows L2 WdM
/-! ### heaps: all but some addresses stand -/
def Bt (S : List Addr) (H H' : Hp) : Prop := ∀ b o, b ∉ S → H b = some o → H' b = some o
theorem Bt.refl {S : List Addr} (H : Hp) : Bt S H H := fun _ _ _ h => h
theorem Bt.trans {S : List Addr} {H H1 H2 : Hp} (a : Bt S H H1) (b : Bt S H1 H2) : Bt S H H2 := fun c o n h => b c o n (a c o n h)
theorem Bt.of_same {S : List Addr} {H H' : Hp} (e : Same H H') : Bt S H H' := fun b o _ h => e b o h
theorem Bt.same {H H' : Hp} (e : Bt [] H H') : Same H H' := fun b o h => e b o (by simp) h
theorem Bt.wide {S T : List Addr} {H H' : Hp} (h : ∀ a ∈ S, a ∈ T) (e : Bt S H H') : Bt T H H' := fun b o n q => e b o (fun z => n (h b z)) q
theorem Bt.new {S : List Addr} {H H1 : Hp} {p : Addr} {o : HO} (e : Bt S H H1) (h : H1 p = none) : Bt S H (upd H1 p o) := fun b x n q => by
  have q1 := e b x n q
  rw [upd_ne (ne_of_none q1 h)]
  exact q1
theorem Bt.upd0 {S : List Addr} {H H1 : Hp} {p : Addr} {o : HO} (e : Bt S H H1) (h : H p = none) : Bt S H (upd H1 p o) := fun b x n q => by
  rw [upd_ne (ne_of_none q h)]
  exact e b x n q
theorem Bt.upd1 {S : List Addr} {H H1 : Hp} {p : Addr} {o : HO} (e : Bt S H H1) (h : p ∈ S) : Bt S H (upd H1 p o) := fun b x n q => by
  rw [upd_ne (fun z => n (by rw [z]; exact h))]
  exact e b x n q
theorem Bt.none {S : List Addr} {H H' : Hp} (e : Bt S H H') {p : Addr} (hS : p ∉ S) (h : H' p = none) : H p = none := by
  cases q : H p with
  | none => rfl
  | some o => rw [e p o hS q] at h; cases h
/-! ### tuples stand where lists change -/
def Tk (H H' : Hp) : Prop := ∀ a xs, Rd H a (.tup xs) → Rd H' a (.tup xs)
theorem Tk.refl (H : Hp) : Tk H H := fun _ _ h => h
theorem Tk.trans {H H1 H2 : Hp} (a : Tk H H1) (b : Tk H1 H2) : Tk H H2 := fun c xs h => b c xs (a c xs h)
theorem Tk.sq {K : PySem.W.Frag} {H H' : Hp} {a : Addr} {xs : List V} (t : Tk H H') (h : SqT K H a xs) : SqT K H' a xs := by
  rcases h with h | h
  · exact .inl (t _ _ h)
  · exact .inr h
theorem Bt.tk {S : List Addr} {H H' : Hp} (e : Bt S H H') (h : ∀ l ∈ S, ∃ zs, H l = some (.lst zs)) : Tk H H' := fun a xs r => by
  rcases r with r | ⟨o, r⟩
  · refine .inl (e a _ (fun z => ?_) r)
    obtain ⟨zs, q⟩ := h a z
    rw [q] at r; cases r
  · refine .inr ⟨o, e a _ (fun z => ?_) r⟩
    obtain ⟨zs, q⟩ := h a z
    rw [q] at r; cases r
theorem tk_same {H H' : Hp} (e : Same H H') : Tk H H' := (Bt.of_same (S := []) e).tk (fun l h => by cases h)
theorem tk_new {H : Hp} {p : Addr} {o : HO} (h : H p = none) : Tk H (upd H p o) := tk_same ((Bt.refl (S := []) H).new h).same
theorem tk_lst {H : Hp} {p : Addr} {zs : List V} {o : HO} (h : H p = some (.lst zs)) : Tk H (upd H p o) := ((Bt.refl (S := [p]) H).upd1 (by simp)).tk (fun l hl => by
  rw [List.mem_singleton.mp hl]; exact ⟨zs, h⟩)
theorem sqT {K : PySem.W.Frag} {H : Hp} {a : Addr} {xs : List V} (h : H a = some (.tup xs)) : SqT K H a xs := .inl (.inl h)
theorem sqL {K : PySem.W.Frag} {H : Hp} {a : Addr} {xs : List V} (h : H a = some (.lst xs)) : SqL K H a xs := .inl (.inl h)
theorem same_new {H : Hp} {p : Addr} {o : HO} (h : H p = none) : Same H (upd H p o) := ((Bt.refl (S := []) H).new h).same
/-! ### fractions in the heap -/
def Fr (K : PySem.W.Frag) (H : Hp) (v : V) (f : Int × Int) : Prop := ∃ a, v = .ref a ∧ SqT K H a [.int f.1, .int f.2]
def FrAll (K : PySem.W.Frag) (H : Hp) (xs : List V) (fs : List (Int × Int)) : Prop := xs.length = fs.length ∧ ∀ (i : Nat) (x : V) (f : Int × Int), xs[i]? = some x → fs[i]? = some f → Fr K H x f
def Sh (K : PySem.W.Frag) (H : Hp) (v : V) (fs : List (Int × Int)) : Prop := ∃ a xs, v = .ref a ∧ SqT K H a xs ∧ FrAll K H xs fs
theorem Fr.tk {K : PySem.W.Frag} {H H' : Hp} {v : V} {f : Int × Int} (t : Tk H H') (h : Fr K H v f) : Fr K H' v f := by
  obtain ⟨a, e, s⟩ := h
  exact ⟨a, e, t.sq s⟩
theorem FrAll.tk {K : PySem.W.Frag} {H H' : Hp} {xs : List V} {fs : List (Int × Int)} (t : Tk H H') (h : FrAll K H xs fs) : FrAll K H' xs fs := ⟨h.1, fun i x f a b => (h.2 i x f a b).tk t⟩
theorem Sh.tk {K : PySem.W.Frag} {H H' : Hp} {v : V} {fs : List (Int × Int)} (t : Tk H H') (h : Sh K H v fs) : Sh K H' v fs := by
  obtain ⟨a, xs, e, s, q⟩ := h
  exact ⟨a, xs, e, t.sq s, q.tk t⟩
theorem FrAll.nil {K : PySem.W.Frag} {H : Hp} : FrAll K H [] [] := ⟨rfl, fun i x f a _ => by simp at a⟩
theorem FrAll.append {K : PySem.W.Frag} {H : Hp} {xs ys : List V} {fs gs : List (Int × Int)} (h : FrAll K H xs fs) (h' : FrAll K H ys gs) : FrAll K H (xs ++ ys) (fs ++ gs) := by
  refine ⟨by rw [List.length_append, List.length_append, h.1, h'.1], fun i x f a b => ?_⟩
  by_cases hi : i < xs.length
  · rw [List.getElem?_append_left hi] at a
    rw [List.getElem?_append_left (by rw [← h.1]; exact hi)] at b
    exact h.2 i x f a b
  · rw [List.getElem?_append_right (by omega)] at a
    rw [List.getElem?_append_right (by rw [← h.1]; omega)] at b
    exact h'.2 (i - xs.length) x f a (by rw [h.1]; exact b)
theorem FrAll.one {K : PySem.W.Frag} {H : Hp} {x : V} {f : Int × Int} (h : Fr K H x f) : FrAll K H [x] [f] := ⟨rfl, fun i y g a b => by
  cases i with
  | zero => cases a; cases b; exact h
  | succ i => simp at a⟩
theorem FrAll.snoc {K : PySem.W.Frag} {H : Hp} {xs : List V} {fs : List (Int × Int)} {x : V} {f : Int × Int} (h : FrAll K H xs fs) (h' : Fr K H x f) : FrAll K H (xs ++ [x]) (fs ++ [f]) := h.append (.one h')
theorem FrAll.reverse {K : PySem.W.Frag} {H : Hp} {xs : List V} {fs : List (Int × Int)} (h : FrAll K H xs fs) : FrAll K H xs.reverse fs.reverse := by
  refine ⟨by rw [List.length_reverse, List.length_reverse, h.1], fun i x f a b => ?_⟩
  have hi : i < xs.length := by
    have := (List.getElem?_eq_some_iff.mp a).1
    rwa [List.length_reverse] at this
  rw [List.getElem?_reverse hi] at a
  rw [List.getElem?_reverse (by rw [← h.1]; exact hi), ← h.1] at b
  exact h.2 _ x f a b
theorem FrAll.drop {K : PySem.W.Frag} {H : Hp} {xs : List V} {fs : List (Int × Int)} (n : Nat) (h : FrAll K H xs fs) : FrAll K H (xs.drop n) (fs.drop n) := by
  refine ⟨by rw [List.length_drop, List.length_drop, h.1], fun i x f a b => ?_⟩
  rw [List.getElem?_drop] at a b
  exact h.2 _ x f a b
theorem FrAll.get {K : PySem.W.Frag} {H : Hp} {xs : List V} {fs : List (Int × Int)} {i : Nat} {x : V} (h : FrAll K H xs fs) (e : xs[i]? = some x) : ∃ f p, fs[i]? = some f ∧ x = .ref p ∧ SqT K H p [.int f.1, .int f.2] := by
  have hi : i < fs.length := by
    rw [← h.1]
    exact (List.getElem?_eq_some_iff.mp e).1
  obtain ⟨p, rfl, s⟩ := h.2 i x _ e (List.getElem?_eq_getElem hi)
  exact ⟨_, p, List.getElem?_eq_getElem hi, rfl, s⟩
/-! ### ints of lists by place -/
theorem ints_get {ns : List Int} {i : Nat} {x : V} (h : (ns.map V.int)[i]? = some x) : ∃ n, ns[i]? = some n ∧ x = .int n := by
  rw [List.getElem?_map] at h
  cases e : ns[i]? with
  | none => rw [e] at h; cases h
  | some n => rw [e] at h; exact ⟨n, rfl, (Option.some.inj h).symm⟩
theorem take_more {α : Type} {l : List α} {i : Nat} {x : α} (h : l[i]? = some x) : l.take (i + 1) = l.take i ++ [x] := by
  rw [List.take_add_one, h]
  rfl
theorem lt_get {α : Type} {l : List α} {i : Nat} {x : α} (h : l[i]? = some x) : i < l.length := (List.getElem?_eq_some_iff.mp h).1
theorem small_line {n m : Nat} (h : n ≤ m) (hm : m ≤ 1000 := by decide) : n ≤ sizeLine := Nat.le_of_lt (small1000 (Nat.le_trans h hm))
/-! ### Euclid -/
theorem gcd_step {a b : Int} (ha : 0 ≤ a) (hb : 0 ≤ b) : Int.gcd b (a % b) = Int.gcd a b := by
  obtain ⟨m, rfl⟩ := Int.eq_ofNat_of_zero_le ha
  obtain ⟨n, rfl⟩ := Int.eq_ofNat_of_zero_le hb
  show Nat.gcd n (((m : Int) % (n : Int))).natAbs = Nat.gcd m n
  rw [← Int.natCast_emod, Int.natAbs_natCast, Nat.gcd_comm n, ← Nat.gcd_rec, Nat.gcd_comm]
theorem gcd_end {a : Int} (ha : 0 ≤ a) : (Int.gcd a 0 : Int) = a := by
  rw [Int.gcd_zero_right]
  omega
theorem canLay_ints : ∀ ns : List Int, PyData.canLayAll0 (ns.map .int) = true
  | [] => by simp [PyData.canLayAll0]
  | n :: ns => by
    rw [List.map_cons]
    unfold PyData.canLayAll0
    rw [canLay_ints ns]
    simp [PyData.canLay0]
theorem depth_ints : ∀ ns : List Int, PyData.depthAll (ns.map .int) = 0
  | [] => by simp [PyData.depthAll]
  | n :: ns => by
    rw [List.map_cons]
    unfold PyData.depthAll
    rw [depth_ints ns]
    simp [PyData.depth]
theorem eqv_ints : ∀ ns : List Int, PyData.eqvAll (ns.map .int) (ns.map .int) = true
  | [] => by simp [PyData.eqvAll]
  | n :: ns => by
    rw [List.map_cons]
    unfold PyData.eqvAll
    rw [eqv_ints ns]
    simp [PyData.eqv]
theorem shT (ns : List Int) : SeqAt.shaped (.tuple (ns.map .int)) = true := by
  unfold SeqAt.shaped PyData.canLay0 PyData.depth
  rw [canLay_ints, depth_ints]
  rfl
theorem shL (ns : List Int) : SeqAt.shaped (.list (ns.map .int)) = true := by
  unfold SeqAt.shaped PyData.canLay0 PyData.depth
  rw [canLay_ints, depth_ints]
  rfl
theorem eqvT (ns : List Int) : PyData.eqv (.tuple (ns.map .int)) (.tuple (ns.map .int)) = true := by
  unfold PyData.eqv
  exact eqv_ints ns
theorem eqvL (ns : List Int) : PyData.eqv (.list (ns.map .int)) (.list (ns.map .int)) = true := by
  unfold PyData.eqv
  exact eqv_ints ns
theorem dInts {K : PySem.W.Frag} {H : Hp} : ∀ ns : List Int, DpAll K H (ns.map V.int) (ns.map PyData.int)
  | [] => .nil
  | n :: ns => .cons (.int n) (dInts ns)
theorem dT {K : PySem.W.Frag} {H : Hp} {a : Addr} {ns : List Int} (h : SqT K H a (ns.map V.int)) : Dp K H (.ref a) (.tuple (ns.map .int)) := .tup h (dInts ns)
theorem dL {K : PySem.W.Frag} {H : Hp} {a : Addr} {ns : List Int} (h : SqL K H a (ns.map V.int)) : Dp K H (.ref a) (.list (ns.map .int)) := .lst h (dInts ns)
theorem tyT {K : PySem.W.Frag} {H : Hp} {a : Addr} {xs : List V} (h : SqT K H a xs) : TyX K H (.ref a) (.type "tuple") := by
  rcases h with (h | ⟨o, h⟩) | ⟨o, its, n, e, c, _⟩
  · exact .base (.tup h)
  · exact .fTuple h
  · exact .kTuple e c
/-! ### sizes -/
theorem lcm_snoc : ∀ (fs : List (Int × Int)) (b : Int) (f : Int × Int), lcmF b (fs ++ [f]) = lcmF b fs / (Int.gcd (lcmF b fs) f.2 : Int) * f.2
  | [], b, f => rfl
  | g :: fs, b, f => lcm_snoc fs _ f
theorem gcd_pos {a b : Int} (h : 0 < b) : (0 : Int) < (Int.gcd a b : Int) := by
  have : Int.gcd a b ≠ 0 := fun z => by
    have := (Int.gcd_eq_zero_iff.mp z).2
    omega
  omega
theorem gcd_le {a b : Int} (h : 0 < b) : (Int.gcd a b : Int) ≤ b := Int.le_of_dvd h (Int.gcd_dvd_right a b)
theorem lcm_bound : ∀ (fs : List (Int × Int)) (b : Int) (m : Nat), 0 < b → b.natAbs < 2 ^ m → (∀ f ∈ fs, 0 < f.2 ∧ f.2.natAbs < 2 ^ 64) → (lcmF b fs).natAbs < 2 ^ (m + 64 * fs.length)
  | [], b, m, _, h, _ => h
  | f :: fs, b, m, hb, h, hf => by
    have ⟨f1, f2⟩ := hf f List.mem_cons_self
    have g0 := gcd_pos (a := b) f1
    have s := step_lcm hb f1
    have q : (b / (Int.gcd b f.2 : Int) * f.2).natAbs < 2 ^ (m + 64) := wide_lt (wide_le (Int.ediv_nonneg (Int.le_of_lt hb) (Int.le_of_lt g0)) (Int.ediv_le_self _ (Int.le_of_lt hb)) h) f2
    have ih := lcm_bound fs _ _ s.1 q (fun g hg => hf g (List.mem_cons_of_mem _ hg))
    rw [List.length_cons, show m + 64 * (fs.length + 1) = m + 64 + 64 * fs.length by omega]
    exact ih
theorem pow_le {a b : Nat} (h : a ≤ b) : 2 ^ a ≤ 2 ^ b := Nat.pow_le_pow_right (by decide) h
/-- shares that can be parted by -/
structure Good (fs : List (Int × Int)) : Prop where
  len0 : 1 ≤ fs.length
  len1 : fs.length ≤ 64
  each : ∀ f ∈ fs, 0 ≤ f.1 ∧ 0 < f.2 ∧ f.1.natAbs < 2 ^ 64 ∧ f.2.natAbs < 2 ^ 64 ∧ Int.gcd f.1 f.2 = 1
  some : ∃ f ∈ fs, 0 < f.1
theorem Good.pos {fs : List (Int × Int)} (g : Good fs) : ∀ f ∈ fs, 0 < f.2 := fun f hf => (g.each f hf).2.1
theorem Good.lcm {fs : List (Int × Int)} (g : Good fs) : Lcm 1 (lcmF 1 fs) fs := lcm_is fs 1 (by decide) g.pos
theorem Good.sum {fs : List (Int × Int)} (g : Good fs) : 0 < (wtsOf fs).sum ∧ ∀ w ∈ wtsOf fs, 0 ≤ w := wtsOf_sum_pos (fun f hf => ⟨(g.each f hf).1, (g.each f hf).2.1⟩) g.some
theorem Good.lcmB {fs : List (Int × Int)} (g : Good fs) : (lcmF 1 fs).natAbs < 2 ^ 4097 :=
  Nat.lt_of_lt_of_le (lcm_bound fs 1 1 (by decide) (by decide) (fun f hf => ⟨(g.each f hf).2.1, (g.each f hf).2.2.2.1⟩)) (pow_le (by have := g.len1; omega))
theorem Good.quo {fs : List (Int × Int)} (g : Good fs) : ∀ f ∈ fs, 0 ≤ lcmF 1 fs / f.2 ∧ (lcmF 1 fs / f.2).natAbs < 2 ^ 4097 := fun f hf => by
  have h0 : 0 ≤ lcmF 1 fs / f.2 := Int.ediv_nonneg (Int.le_of_lt g.lcm.pos) (Int.le_of_lt (g.pos f hf))
  exact ⟨h0, wide_le h0 (Int.ediv_le_self _ (Int.le_of_lt g.lcm.pos)) g.lcmB⟩
theorem Good.wB {fs : List (Int × Int)} (g : Good fs) : ∀ w ∈ wtsOf fs, w.natAbs < 2 ^ 4161 := fun w hw => by
  unfold wtsOf wts at hw
  obtain ⟨f, hf, rfl⟩ := List.mem_map.mp hw
  exact wide_lt (a := 64) (b := 4097) (g.each f hf).2.2.1 (g.quo f hf).2
theorem sum_abs {B : Nat} : ∀ ws : List Int, (∀ w ∈ ws, w.natAbs < B) → ws.sum.natAbs ≤ ws.length * B
  | [], _ => by simp
  | w :: ws, h => by
    have ih := sum_abs ws (fun x hx => h x (List.mem_cons_of_mem _ hx))
    have h0 := h w List.mem_cons_self
    rw [List.sum_cons, List.length_cons, Nat.add_mul, Nat.one_mul]
    have := Int.natAbs_add_le w ws.sum
    omega
theorem Good.sumB {fs : List (Int × Int)} (g : Good fs) : (wtsOf fs).sum.natAbs < 2 ^ 4168 := by
  have h := sum_abs (wtsOf fs) g.wB
  rw [wtsOf_len] at h
  have h1 := g.len1
  have h2 : fs.length * 2 ^ 4161 ≤ 64 * 2 ^ 4161 := Nat.mul_le_mul_right _ h1
  have h3 : 64 * 2 ^ 4161 < 2 ^ 4168 := by
    rw [show (4168 : Nat) = 7 + 4161 by rfl, Nat.pow_add]
    exact Nat.mul_lt_mul_of_pos_right (by decide) (Nat.pow_pos (by decide))
  exact Nat.lt_of_le_of_lt h (Nat.lt_of_le_of_lt h2 h3)
/-! ### a def of the text -/
structure Df (K : PySem.W.Frag) (mg : Str → Option Value) (name : Str) (st : Stmt) (f : Addr) (fd : FuncData) (ps : List Str) : Prop where
  fn : Fun K name name st f fd
  mg : mg name = some (.ref f)
  bd : Binds K fd ps []
end Wd

set_option Elab.async false
set_option linter.all false
set_option maxRecDepth 100000
set_option maxHeartbeats 4000000
namespace Wd
open PySem PySem.Spec PyProof.Rows L2 WdM
/-! ### an exception that was caught and is kept: tracked from then on -/
def ExT (a : Addr) (cls : Value) (d : Option Addr) : HO := .ext fun h => ∃ oe vs, h.get? a = some oe ∧ Zc cls d oe ∧ oe.data = .fields vs
theorem exT_ok {P : Program} {w : World} {H : Hp} {h : Heap} {a : Addr} {cls : Value} {d : Option Addr} {oe : Obj} {vs : Array Value} (g : h.get? a = some oe) (z : Zc cls d oe) (f : oe.data = .fields vs) : ObjOk P w H h a (ExT a cls d) :=
  ⟨⟨oe, vs, g, z, f⟩, ⟨oe, g⟩, fun _ _ ⟨oe, vs, e, r⟩ k => ⟨oe, vs, k _ e, r⟩⟩
theorem exT_at {P : Program} {w : World} {H : Hp} {h : Heap} {a : Addr} {cls : Value} {d : Option Addr} (ok : HOk P w H h) (e : H a = some (ExT a cls d)) : ∃ oe vs, h.get? a = some oe ∧ Zc cls d oe ∧ oe.data = .fields vs := by
  have x : ObjOk P w H h a (.ext fun h => ∃ oe vs, h.get? a = some oe ∧ Zc cls d oe ∧ oe.data = .fields vs) := ok a _ e
  exact x.1
section
variable {X : Cx} {pins : List (Addr × Obj)} {σ : L2.St} {H : Hp} {s : Shared}
theorem track {a : Addr} {oe : Obj} {vs : Array Value} {cls : Value} {d : Option Addr} (I : Inv X ((a, oe) :: pins) σ H s) (hx : X.ex = []) (n0 : X.s_0.heap.get? a = none) (np : ∀ p ∈ X.pn ++ pins, p.1 ≠ a) (z : Zc cls d oe) (f : oe.data = .fields vs) :
    Inv X pins σ (upd H a (ExT a cls d)) s := by
  obtain ⟨ga, na, nl, nf, nc⟩ := I.pin (a, oe) (List.mem_append_right _ List.mem_cons_self)
  have far : ∀ {b : Addr} {u : HO}, H b = some u → b ≠ a := fun {b u} e z => by rw [z, na] at e; cases e
  refine { ok := I.ok, os := I.os, bare := I.bare, loc := I.loc, cell := I.cell, len := I.len, base := ?_, free := ?_, freeC := ?_, pin := ?_, hok := ?_ }
  · exact { keep := I.base.keep, slot := I.base.slot, there := I.base.there,
            free := fun b o e n k => by
              rw [upd_ne (fun z => by rw [z, n0] at e; cases e)]
              exact I.base.free b o e n k
            tups := fun b xs e => by
              have q := I.base.tups b xs e
              rw [upd_ne (far q)]
              exact q
            frzs := fun b o u e => by
              have q := I.base.frzs b o u e
              rw [upd_ne (far q)]
              exact q
            tbls := fun b ps e => by
              obtain ⟨m, q⟩ := I.base.tbls b ps e
              exact ⟨m, by rw [upd_ne (far q)]; exact q⟩ }
  · rw [upd_ne (Ne.symm nl)]
    exact I.free
  · intro x c e
    rw [upd_ne (fun z => by
      obtain ⟨v, o, go, eo⟩ := I.cell x c e
      rw [z, ga] at go
      cases go
      exact nc _ eo)]
    exact I.freeC x c e
  · intro p hp
    obtain ⟨e1, e2, e3⟩ := I.pin p (by
      rcases List.mem_append.mp hp with h | h
      · exact List.mem_append_left _ h
      · exact List.mem_append_right _ (List.mem_cons_of_mem _ h))
    exact ⟨e1, by rw [upd_ne (np p hp)]; exact e2, e3⟩
  · intro b u e
    by_cases hb : b = a
    · subst hb
      rw [upd_same] at e
      cases e
      exact exT_ok ga z f
    · rw [upd_ne hb] at e
      exact (I.hok b u e).stay (fun _ _ _ q => q) (fun c q => by rw [upd_ne (far q)]; exact q) fun c xs q => by rw [upd_ne (far q)]; exact q
end
/-- what «except x as n» wishes, where what was caught is looked at behind the suite: all that is raised is of x, and the suite runs to its end -/
def wGot (K : PySem.W.Frag) (c : Value) (i : Nat) (ts : Addr → Value → Option Addr → TS) (D : Ends) : WX := fun cls d σ H =>
  PySem.W.exmOne K cls c = some true ∧ ∀ a, H a = none → ts a cls d { nx := fun σ' H' => D.nx (σ'.set i none) (upd H' a (ExT a cls d)), rt := fun _ _ => False, bk := fun _ _ => False, ct := fun _ _ => False } (σ.set i (some (.ref a))) H
section
variable {X : Cx} {x n : Str} {c : Value} {i : Nat} {body suite : List Stmt} {b0 : Stmt} {np pos pos' : Pos} {tb : WX → TS} {ts : Addr → Value → Option Addr → TS}
theorem ps_try_got (top : X.stack = X.env :: X.outer) (fr : X.env.frame = some X.env.locals) (hex : X.ex = []) (nd : X.N.Nodup) (hi : X.N[i]? = some n) (loc : X.env.kindOf n = some .local) (hc : Names X x c)
    (runs : ∀ (W : WX) (pn : List (Addr × Obj)) (xe : Value → Shared → Prop), Takes (X.tr pn xe) W → PassesOwn (model X.prog X.w) X.A X.env xe → PSs (X.tr pn xe) body (tb W))
    (hsu : ∀ (a : Addr) (oe : Obj) (cls : Value) (d : Option Addr) (pn : List (Addr × Obj)), Zc cls d oe → (∃ vs, oe.data = .fields vs) → PSs (X.suite a ((a, oe) :: pn)) (b0 :: suite) (ts a cls d)) :
    PS X (.Try body [.ExceptHandler (some (.Name x np)) (some n) (b0 :: suite) pos'] [] [] pos) (fun D σ H => tb (wGot X.K c i ts D) D σ H) where
  run := by
    intro pins s σ H D I h
    have ok := I.ok
    have frames : X.A.frames = some (X.env :: X.outer) := by rw [ok.frames, top]
    refine wpAny_Try_except (wpAny_mono ((runs (wGot X.K c i ts D) (X.pn ++ pins) (fun e s₁ => wpAny (model X.prog X.w) X.A (noteFrame e X.env) (fun _ s₂ => wpAny (model X.prog X.w) X.A (setFlight e none) (fun _ s₃ =>
      wpAny (model X.prog X.w) X.A (handleBy e X.env [.ExceptHandler (some (.Name x np)) (some n) (b0 :: suite) pos']) (SP X pins D) X.xe s₃) X.xe s₂) X.xe s₁) ?_ PassesOwn.looking).run [] s σ H D (I.toTry _) h) ?_ (fun e s1 he => he))
    · rintro _ s' ⟨a, B, sI, pins', σ', H', cls, d, rfl, J0, nb, up, sky, na, os, ag, is, go⟩
      have J : Inv X pins σ' H' sI := J0.ofTry ok
      show wpAny (model X.prog X.w) X.A (noteFrame (Value.ref a) X.env) _ _ _
      refine Sky.land Zc.steady frames fr (top ▸ sky) fun h3 fl3 up3 => ?_
      have J3 : Inv X pins σ' H' { s' with heap := h3 } := Inv.landed J nb fl3.1 (up.trans up3) os ag
      obtain ⟨oe3, vs3, g3, z3, d3⟩ := fl3.there
      have gone : B.get? a = none := fl3.2.1
      have out : a ∉ frs (X.env :: X.outer) := fun m => by
        obtain ⟨_, o, e, no⟩ := fl3.2.2.1.mem m
        rw [g3] at e
        cases e
        exact no _ d3
      have nL : a ≠ X.env.locals := fun z => out (List.mem_filterMap.mpr ⟨X.env, List.mem_cons_self, by rw [fr, z]⟩)
      have nF : a ∉ X.fs := fun m => by
        obtain ⟨e, he, q⟩ := List.mem_filterMap.mp m
        exact out (List.mem_filterMap.mpr ⟨e, List.mem_cons_of_mem _ he, q⟩)
      have fresh : ∀ b o, sI.heap.get? b = some o → b ∉ frs X.stack → b ≠ a := fun b o e m z => by
        have q := nb b o e m
        rw [z, gone] at q
        cases q
      have n0 : X.s_0.heap.get? a = Option.none := by
        cases e : Heap.get? X.s_0.heap a with
        | none => rfl
        | some o =>
          obtain ⟨o', e'⟩ := J.base.there a o e (by rw [hex]; exact fun z => nomatch z)
          exact absurd rfl (fresh a o' e' (by rw [top]; exact out))
      have npin : ∀ p ∈ X.pn ++ pins, p.1 ≠ a := fun p hp => by
        obtain ⟨e1, _, e3, e4, _⟩ := J.pin p hp
        refine fresh p.1 p.2 e1 (fun m => ?_)
        rw [top] at m
        obtain ⟨e, he, q⟩ := List.mem_filterMap.mp m
        rcases List.mem_cons.mp he with rfl | he
        · rw [fr] at q
          exact e3 (Option.some.inj q).symm
        · exact e4 (List.mem_filterMap.mpr ⟨e, he, q⟩)
      have S3 := J3.suite g3 d3 na nL nF
      refine wpAny_handleBy_cons (codeAny_handlers_test ?_) (fun z => by cases z)
      have isCls : PySem.W.Looks (model X.prog X.w) h3 (typeOf (.ref a)) cls := fun A Q E s k q => wpAny_typeOf_ref (k _ _ g3) (by rw [z3.1]; exact q)
      have matches_ := PySem.W.exm_one (M := model X.prog X.w) J3.kIn isCls is
      have named : ∀ {Q : Value → Shared → Prop} {E : Value → Shared → Prop}, Q c { s' with heap := h3 } → wpAny (model X.prog X.w) (X.A.mark (some (.ref a))) (eval (.Name x np) X.env) Q E { s' with heap := h3 } := fun {Q E} q => by
        rcases hc with ⟨gl, nb2, own | ⟨no, blt, nn⟩⟩
        · exact ld_glob (X := X.suite a ((a, oe3) :: (X.pn ++ pins))) S3 gl own q nb2
        · exact ld_blt (X := X.suite a ((a, oe3) :: (X.pn ++ pins))) S3 gl no blt q nn nb2
      refine named (matches_.here (codeAny_handlers_suite_as (HandSPX.lands_againZ fl3 fun h4 fl4 up4 => ?_)))
      have J4 : Inv X pins σ' H' { s' with heap := h4 } := Inv.landed J nb fl4.1 ((up.trans up3).trans up4) os ag
      obtain ⟨oe4, vs4, g4, z4, d4⟩ := fl4.there
      refine store_ok (X := X.suite a ((a, oe4) :: (X.pn ++ pins))) (v := .ref a) (J4.suite g4 d4 na nL nF) nd hi (.inl loc) rfl (fun s5 S5 => ?_) (.inr loc)
      refine wpAny_mono ((hsu a oe4 cls d (X.pn ++ pins) z4 ⟨_, d4⟩).run [] s5 _ H' _ S5 (go a na)) (fun f s6 ends => ?_) (fun _ _ z => False.elim z)
      cases f with
      | next =>
        obtain ⟨σ6, H6, S6, q6⟩ := ends
        have K6 : Inv X ((a, oe4) :: pins) σ6 H6 s6 := { ok := ok, os := S6.os, bare := S6.bare, base := S6.base, loc := S6.loc, cell := S6.cell, free := S6.free, freeC := S6.freeC, hok := S6.hok, len := S6.len, pin := fun p hp => S6.pin p (by
          rw [List.append_nil]
          rcases List.mem_append.mp hp with h | h
          · exact List.mem_cons_of_mem _ (List.mem_append_left _ h)
          · rcases List.mem_cons.mp h with rfl | h
            · exact List.mem_cons_self
            · exact List.mem_cons_of_mem _ (List.mem_append_right _ h)) }
        exact gone_ok K6 nd hi loc fun s7 K7 => ⟨_, _, track K7 hex n0 npin z4 d4, q6⟩
      | brk => exact ends.elim fun _ e => e.elim fun _ e => e.2.elim
      | cont => exact ends.elim fun _ e => e.elim fun _ e => e.2.elim
      | ret u => exact ends.elim fun _ e => e.elim fun _ e => e.elim fun _ e => e.2.2.elim
    · intro f s1 ends
      cases f with
      | next => exact ends.elim fun σ' e => e.elim fun H' e => wpAny_execs_nil ⟨σ', H', e.1.ofTry ok, e.2⟩
      | brk => exact ends.elim fun σ' e => e.elim fun H' e => ⟨σ', H', e.1.ofTry ok, e.2⟩
      | cont => exact ends.elim fun σ' e => e.elim fun H' e => ⟨σ', H', e.1.ofTry ok, e.2⟩
      | ret u => exact ends.elim fun v e => e.elim fun σ' e => e.elim fun H' e => ⟨v, σ', H', e.1.ofTry ok, e.2⟩
end
/-! ### what is asked of a kept error -/
/-- isinstance(e, c) -/
def rIsT (K : PySem.W.Frag) : List V → Hp → VK → Prop := fun xs H Q => ∃ (a D : Addr) (d : Option Addr) (c : V) (cv : Value) (b : Bool), xs = [.ref a, c] ∧ H a = some (ExT a (.ref D) d) ∧ (∀ dx, d = some dx → ∃ fs, H dx = some (.xd fs)) ∧ ExcC K D ∧ ClsV c cv ∧ PySem.W.kitOne K (.ref D) cv = some b ∧ Q (.bl b) H
theorem instT {P : Program} {w : World} {H : Hp} {h : Heap} {a D : Addr} {d : Option Addr} (ok : HOk P w H h) (e : H a = some (ExT a (.ref D) d)) (xd : ∀ dx, d = some dx → ∃ fs, H dx = some (.xd fs)) : ∃ oe od, PySem.W.InstAt h a oe D od := by
  obtain ⟨oe, vs, g, ⟨z1, z2⟩, f⟩ := exT_at ok e
  cases d with
  | none => exact ⟨oe, none, g, z1, by unfold PySem.W.notCls; rw [f], by rw [z2]; trivial⟩
  | some dx =>
    obtain ⟨fs, ed⟩ := xd dx rfl
    have at_ : ObjOk P w H h dx (.xd fs) := ok dx _ ed
    obtain ⟨m, ns, _⟩ := at_
    obtain ⟨od, ho, _⟩ := lookIn_ns ns
    exact ⟨oe, some od, g, z1, by unfold PySem.W.notCls; rw [f], by rw [z2]; exact ho⟩
theorem call_isT {X : Cx} : CallR X (.builtin "isinstance") (rIsT X.K) := by
  rintro pins s σ H _ us Q I rel ⟨a, D, d, c, cv, b, rfl, e, xd, C, cls, ans, want⟩
  obtain ⟨u1, u2, rfl, r1, r2⟩ := vals2 rel
  cases r1
  obtain rfl := cls.eq r2
  obtain ⟨oe, od, J⟩ := instT I.hok e xd
  have some_ : (PySem.W.clsIn X.K D).isSome = true := by
    obtain ⟨cd, hc, _⟩ := PySem.W.any_some C.hd
    rw [hc]
    rfl
  exact PySem.W.kia_one (PySem.W.kitx_exc some_ C.hg C.hk C.hs C.ha C.hn C.ht C.hm) I.kIn J ans (fun z => nomatch z) fun tk => ⟨.bl b, H, I.tok tk, rfl, want⟩
/-- e.n -/
def tXt (K : PySem.W.Frag) (n : Str) (te : TE) : TE := fun σ H Q => te σ H fun x H1 => ∃ (a C dd : Addr) (fs : List (Str × V)) (v : V), x = .ref a ∧ H1 a = some (ExT a (.ref C) (some dd)) ∧ XfC K C ∧ PySem.W.findIn K (.ref C) n = some none ∧ H1 dd = some (.xd fs) ∧ fs.lookup n = some v ∧ Q v H1
theorem pe_xt {X : Cx} {e : Expr} {te : TE} {pos : Pos} {n : Str} (he : PE X e te) (plain : attributeBase e n X.env (eval e X.env) = eval e X.env := by rfl) : PE X (.Attribute e n pos) (tXt X.K n te) where
  run := by
    intro pins s σ H Q I h
    refine attr_of plain (thn (he.run pins s σ H _ I h) ?_)
    rintro _ s1 ⟨_, H1, I1, rel, a, C, dd, fs, v, rfl, e1, T, no, e2, has, want⟩
    cases rel
    obtain ⟨oe, vs, g, ⟨z1, z2⟩, f⟩ := exT_at I1.hok e1
    have at_ : ObjOk X.prog X.w H1 s1.heap dd (.xd fs) := I1.hok dd _ e2
    obtain ⟨m, ns, rels⟩ := at_
    obtain ⟨od, ho, hl⟩ := lookIn_ns ns
    obtain ⟨u, hu, ru⟩ := RelO.some_of (v := v) (o := m n) (has ▸ rels n)
    have J : PySem.W.InstAt s1.heap a oe C (some od) := ⟨g, z1, by unfold PySem.W.notCls; rw [f], by rw [z2]; exact ho⟩
    exact HandSPX.exc_get I1.kIn J T.ga T.gg T.exC (PySem.W.findObj_own T.hdC no rfl (by rw [hl, hu])) (handed_of ru) ⟨v, H1, I1.tok _, ru, want⟩
/-- X(), an own error without an __init__ of its own -/
theorem pmk_own0 {X : Cx} {C : Addr} {bmB : List Value} {B newId initId : String} {x : Str} {p pos : Pos} (F : ExcBaseFacts B newId initId bmB) (q : PySem.W.excIn X.K C bmB newId = true) (is : X.mg x = some (.ref C)) (kp : PySem.W.keepIn X.K (.ref C) = true) (r : Raises X (.ref C)) (glob : Gl X x)
    (nodebug : (x == ("__debug__" : Str)) = false := by decide) : PMk X (.Call (.Name x p) [] [] pos) (fun _ H Q => Q (.ref C) none H) := by
  intro pins s σ H Q I want
  refine wpAny_Call_Name_kw (ld_glob I glob is ?_ nodebug)
  refine PySem.W.callWith_KW0 (kws := []) (h₀ := X.base) I.ok.mod.kin kp rfl (wpAny_pure ⟨I.kIn, ?_⟩) rfl
  obtain ⟨bm, N, nm, qn, bs, hdct, sn, sub, ab, col, dd, k0, k1, k2, k3, k5, mN, hC, hN, hni, T⟩ := exc_obj I.kIn q
  exact wpAny_call_exc_subT F T hC hN hni (fun h' e made => mk_of I made r want (I.hok.gone made.new)) (Nat.zero_le _)
/-! ### how often a flat value stands in a list -/
def rCnt (K : PySem.W.Frag) : V → List V → Hp → VK → Prop := fun x xs H Q => ∃ p ys y, x = .ref p ∧ xs = [y] ∧ SqL K H p ys ∧ flatV y = true ∧ ys.all flatV = true ∧ Q (.int (ys.countP (fun z => eqV z y) : Nat)) H
theorem count_eqU {y : V} : ∀ {ys : List V} {us : List Value}, Vals ys us → ys.all flatV = true → us.countP (eqU y) = ys.countP fun z => eqV z y
  | _, _, .nil, _ => rfl
  | z :: ys, u :: us, .cons r t, f => by
    simp only [List.all_cons, Bool.and_eq_true] at f
    simp only [List.countP_cons, eqU_of r f.1, count_eqU t f.2]
theorem mt_cnt {X : Cx} : MtR X "list.count" (rCnt X.K) := by
  rintro pins s σ H _ _ v us Q I rx rxs ⟨p, ys, y, rfl, rfl, hs, fy, fys, want⟩
  cases rx
  obtain ⟨u, rfl, ru⟩ := rxs.one
  obtain ⟨its, vals, ⟨⟨cls, dd, data, sl⟩, n, ho, hc, hdn, hd⟩, small⟩ := I.list hs
  dsimp only at hc hd
  subst hc hd
  refine call_meets PySem.F.slot_list_count ⟨_, ho, rfl⟩ PySem.F.entry_list_count (PySem.F.args_list_count_2 _ _) (SeqAt.list_countAt p its.toArray n dd sl u (eqU y)) ⟨ho, fun z hz => mem_eqAt ru fy vals fys z (by simpa using hz), ?_⟩
  refine ⟨.int (ys.countP (fun z => eqV z y) : Nat), H, I.tok _, ⟨s.toks, ?_⟩, want⟩
  rw [← count_eqU vals fys]
/-! ### repr of data -/
inductive Seen (K : PySem.W.Frag) (H : Hp) : V → PyData → Prop
  | dp {x : V} {d : PyData} (h : Dp K H x d) (nd : d.hasDict = false) : Seen K H x d
  | nod {a : Addr} (h : H a = some (.dK [])) : Seen K H (.ref a) (.dict [])
def rRepr (K : PySem.W.Frag) : List V → Hp → VK → Prop := fun xs H Q => ∃ x d, xs = [x] ∧ Seen K H x d ∧ PyData.showable d = true ∧ d.depth ≤ 8 ∧ d.shown.length ≤ sizeLine ∧ Q (.str d.shown) H
theorem reads_nod {P : Program} {w : World} {H : Hp} {h : Heap} {a : Addr} (ok : HOk P w H h) (e : H a = some (.dK [])) : Reads h (.ref a) (.dict []) [a] ∧ sysModules ∉ [a] := by
  have at_ : ObjOk P w H h a (.dK []) := ok a _ e
  obtain ⟨_, ns, vs, kv, o, es, ep, g, ex, d, _, el, _⟩ := at_
  cases kv
  have z : es.toList = [] := List.eq_nil_of_length_eq_zero el.length
  have r0 : ReadsAll h (es.toList.map (·.key)) (([] : List (PyData × PyData)).map (·.1)) [] := by rw [z]; exact .nil
  have r1 : ReadsAll h (es.toList.map (·.val)) (([] : List (PyData × PyData)).map (·.2)) [] := by rw [z]; exact .nil
  exact ⟨.dict g ex.1 d r0 r1, fun m => by rw [List.mem_singleton.mp m] at ns; simp at ns⟩
theorem call_reprD {X : Cx} (gs : X.A.guards = some []) (hu : X.A.units + 64 < cLine) : CallR X (.builtin "repr") (rRepr X.K) := by
  rintro pins s σ H _ us Q I rel ⟨x, d, rfl, seen, sh, dep, len, want⟩
  cases rel with
  | cons ru rn =>
    cases rn
    rename_i u
    have boxed : ∀ (a : Addr) (as : List Addr), Reads s.heap (.ref a) d as → (d.hasDict = true → sysModules ∉ as) → wpAny (model X.prog X.w) X.A (call (.builtin "repr") [.ref a]) (EP X pins σ Q) X.xe s := fun a as r sm =>
      repr_of_reads' r sh sm gs (by omega) (fun _ _ e => e) (fun h' _ tk same => ⟨.str d.shown, H, I.kept (t' := tk) same, ⟨_, rfl⟩, want⟩) len
    cases seen with
    | nod h =>
      cases ru
      obtain ⟨r, n⟩ := reads_nod I.hok h
      exact boxed _ _ r fun _ => n
    | dp h nd =>
      obtain ⟨as, r⟩ := Dp.reads I d _ u h ru
      have no : d.hasDict = true → sysModules ∉ as := fun z => by rw [nd] at z; cases z
      have fin : ∀ {z : Str} {t k : Tok}, z = d.shown → EP X pins σ Q (.str z t) { s with toks := k } := fun {z t k} e => ⟨.str z, H, I.tok k, ⟨_, rfl⟩, e ▸ want⟩
      cases h with
      | non => cases ru; exact PySem.P.repr_of_none (fin (by simp [PyData.shown]))
      | bl b => cases ru; exact PySem.P.repr_of_bool (fin (by simp [PyData.shown]))
      | int i =>
        obtain ⟨t, rfl⟩ := ru
        exact PySem.P.repr_of_int (by simpa [PyData.showable] using sh) (fin (by simp [PyData.shown]))
      | str z =>
        obtain ⟨t, rfl⟩ := ru
        exact PySem.P.repr_of_str (fin (by simp [PyData.shown])) (by simpa [PyData.shown] using len)
      | lst _ _ => cases ru; exact boxed _ _ r no
      | tup _ _ => cases ru; exact boxed _ _ r no
end Wd

set_option Elab.async false
set_option linter.all false
set_option maxRecDepth 100000
set_option maxHeartbeats 4000000
namespace Wd
open PySem PySem.Spec PyProof.Rows L2 WdM
/-! ### defs whose promise wants that no repr is under way around the call -/
structure FnG (P : Program) (w : World) (K : PySem.W.Frag) (mg : Str → Option Value) (base : Heap) (k : Nat) (f : Addr) (fd : FuncData) (ps : List Str) (sp : Sp) : Prop where
  len : ∀ vs H Q E, sp vs H Q E → vs.length = ps.length
  run : ∀ (A : Around) (outer : List Env) (s : Shared) (H : Hp) (args : Args) (us : List Value) (vs : List V) (Q : VK) (E : XK), A.guards = some [] → Room k A → Env0 P w K mg base A outer s H → BindsTo s fd args (ps.zip us) → Vals vs us → sp vs H Q E →
    codeAny (model P w) A (.call (.ref f) args) (CR CX0 outer P w H s Q E) s
section
variable {P : Program} {w : World} {K : PySem.W.Frag} {mg : Str → Option Value} {base : Heap}
theorem okG {x qual : Str} {st : Stmt} {f : Addr} {fd : FuncData} {N ps : List Str} {k : Nat} {sp : Sp} (F : Fun K x qual st f fd) (S : FnScope N ps (defScope st)) (len : ∀ vs H Q E, sp vs H Q E → vs.length = ps.length)
    (body : ∀ (cdv : Value) (A : Around) (outer : List Env) (s : Shared) (H : Hp) (vs : List V) (Q : VK) (E : XK), A.guards = some [] → Room k (A.deeper (envOfC qual (defScope st) s.heap.objs.size f cdv)) → sp vs H Q E →
      ∃ t, PSs (cxOf CX0 P w K mg base N qual (defScope st) f cdv A outer s H E).nox (defBody st) t ∧ t { nx := fun _ H' => Q .non H', rt := Q } (start N vs) H) : FnG P w K mg base (k + 1) f fd ps sp where
  len := len
  run := by
    intro A outer s H args us vs Q E gs room e0 binds rel want
    obtain ⟨oc, od, kV, doc, pm, an, cdv, ct, osl, rfl, at_, code⟩ := F.ex
    have kin : K.In s.heap := e0.mod.kin.keeps fun b o e => (e0.bs b o e).1
    have kinds : ∀ y ∈ ps.zip us, (defScope st).names.lookup y.1 = some .local ∨ ((defScope st).names.lookup y.1 = some .cell ∧ ((cellsFrom (s.heap.objs.size + 1) (defScope st).names []).lookup y.1).isSome = true) := by
      rintro ⟨n, v⟩ hy
      exact (S.par n (List.of_mem_zip hy).1).imp id fun q => ⟨q, PySem.W.cellsFrom_some _ _ _ (.inl q)⟩
    refine codeAny_call_function room.depth (kin _ _ at_) rfl S.co S.gen rfl (PySem.W.codeRec_of kin code) (binds _ _ _ _ (wpAny_newFunctionEnv_cells S.kind kinds ?_))
    rintro env rfl s1 inside
    refine ⟨(e0.mod.nolimit.keeps fun b o e => (e0.bs b o e).1).keeps inside.toInCall.keep, codeAny_func ?_⟩
    obtain ⟨t, ht, good⟩ := body cdv A outer s H vs Q E gs (room.deeper _) want
    refine wpAny_mono (ht.nox.run [] s1 (start N vs) H _ (inv_start S room.hd e0 (len _ _ _ _ want) rel inside) good) (fun fl s' ends => ?_) fun _ _ z => z
    cases fl with
    | ret u => exact ends.elim fun v e => e.elim fun σ' e => e.elim fun H' ⟨J, rv, q⟩ => ⟨v, H', J.os, J.bare, J.base, J.hok, rv, q⟩
    | next => exact ends.elim fun σ' e => e.elim fun H' ⟨J, q⟩ => ⟨.non, H', J.os, J.bare, J.base, J.hok, rfl, q⟩
    | brk => exact ends.elim fun _ e => e.elim fun _ e => e.2.elim
    | cont => exact ends.elim fun _ e => e.elim fun _ e => e.2.elim
end
section
variable {X : Cx} {k : Nat} {f : Addr} {fd : FuncData} {ps : List Str} {sp : Sp} {x : Str} {p pos : Pos} {e : Expr} {es : List Expr} {t : TA}
theorem pe_callG (F : FnG X.prog X.w X.K X.mg X.base k f fd ps sp) (gs : X.A.guards = some []) (room : Room k X.A) (glob : Gl X x) (is : X.mg x = some (.ref f)) (kp : PySem.W.keepIn X.K (.ref f) = true) (bd : Binds X.K fd ps []) (args : PA X (e :: es) t)
    (nodebug : (x == ("__debug__" : Str)) = false := by decide) (star : starEach (e :: es) X.env = (false, eval e X.env) :: starEach es X.env := by rfl) (plain : (backTo pos (starEach es X.env)).any (·.1) = false := by rfl) :
    PE X (.Call (.Name x p) (e :: es) [] pos) (tCall sp [] E0 t) where
  run := by
    intro pins s σ H Q I h
    refine wpAny_Call_Name_kw (ld_glob I glob is (PySem.W.callWith_K (h₀ := X.base) I.ok.mod.kin kp (thn (args.run pos pins s σ H _ I h) ?_) star plain) nodebug)
    rintro us s1 ⟨vs, H1, I1, rel, want⟩
    have rel2 : Vals (vs ++ []) (us ++ []) := rel.append .nil
    refine ⟨I1.kIn, wpAny_call (codeAny_mono (F.run X.A X.stack s1 H1 ⟨us, []⟩ (us ++ []) (vs ++ []) Q E0 gs room I1.env0 (bd s1 us I1.kIn (by rw [← rel2.length]; exact F.len _ _ _ _ want)) rel2 want) fun r s' res => ?_)⟩
    cases r with
    | error er => exact False.elim res
    | ok fl =>
      cases fl with
      | ret u => exact I1.after res
      | next => exact False.elim res
      | brk => exact False.elim res
      | cont => exact False.elim res
end
/-! ### the law's own call -/
theorem law_callG {P : Program} {w : World} {K : PySem.W.Frag} {mg mb : Str → Option Value} {k : Nat} {fa a : Addr} {fd : FuncData} {x : Str} {sp : Sp} {s1 : Shared} {vs : List Value} {ns : List Int}
    (kin : K.In s1.heap) (globs : s1.heap.Ns mainGlobals mg) (blts : s1.heap.Ns builtinsNs mb) (boot : ∀ x : Str, x ≠ "__name__" → mb x = bootBuiltins x) (lim : s1.heap.NoLimit) (nogens : s1.gens = #[])
    (at_ : s1.heap.get? a = some { cls := .type "list", data := .seq vs.toArray }) (its : IntsAre vs ns) (small : ns.length ≤ sizeLine) (room : Room k callerA)
    (F : ∀ base : Heap, K.In base → base.Ns mainGlobals mg → FnG P w K mg base k fa fd [x] sp) (binds : ∀ (s : Shared) (u : Value), BindsTo s fd ⟨[u], []⟩ [(x, u)])
    (good : ∀ H : Hp, SqL K H a (ns.map V.int) → sp [.ref a] H (fun v _ => v = .bl true) fun _ _ _ => False) :
    codeAny (model P w) callerA (.call (.ref fa) ⟨[.ref a], []⟩) (fun r s' => r = .ok (.ret (.bool true)) ∧ OldK s1.heap s'.heap ∧ s'.os = s1.os ∧ AllBare s'.gens) s1 := by
  have go : ∀ H : Hp, (∀ b, H b = none ∨ (b = a ∧ K.lookup a = none ∧ ∃ o u, H b = some (.frz o u))) → SqL K H a (ns.map V.int) → HOk P w H s1.heap →
      codeAny (model P w) callerA (.call (.ref fa) ⟨[.ref a], []⟩) (fun r s' => r = .ok (.ret (.bool true)) ∧ OldK s1.heap s'.heap ∧ s'.os = s1.os ∧ AllBare s'.gens) s1 := by
    intro H only hS hok
    have free : ∀ b o, K.lookup b = some o → H b = none := fun b o e => by
      rcases only b with z | ⟨rfl, z, _⟩
      · exact z
      · rw [z] at e; cases e
    have dicts : ∀ {b : Addr} {m : Str → Option Value}, s1.heap.Ns b m → (hidT s1.heap H).Ns b m := by
      rintro b m ⟨o, es, ep, g, d, r⟩
      refine ⟨o, es, ep, hidT_get g ?_, d, r⟩
      rcases only b with z | ⟨rfl, _, _⟩
      · exact z
      · rw [at_] at g
        cases g
        exact absurd (show Data.seq vs.toArray _ = Data.dict es ep from d) (fun z => by cases z)
    have kb : K.In (hidT s1.heap H) := fun b o e => hidT_get (kin b o e) (free b o e)
    obtain ⟨mc, l1, l2⟩ := lim
    have md : Mod K mg (hidT s1.heap H) := ⟨kb, dicts globs, ⟨mb, dicts blts, boot⟩, mc, dicts l1, l2⟩
    have e0 : Env0 P w K mg (hidT s1.heap H) callerA [] s1 H := ⟨rfl, md, fun b o e => of_hidT e, Nat.le_of_eq (hidT_size _ _), trivial, fun b hb => (by cases hb), hok, .of_eq nogens⟩
    refine codeAny_mono ((F _ kb (dicts globs)).run callerA [] s1 H ⟨[.ref a], []⟩ [.ref a] [.ref a] _ _ rfl room e0 (binds s1 (.ref a)) (.cons rfl .nil) (good H hS)) fun r s' res => ?_
    cases r with
    | error er => exact False.elim res
    | ok fl =>
      cases fl with
      | next => exact False.elim res
      | brk => exact False.elim res
      | cont => exact False.elim res
      | ret u =>
        obtain ⟨v, H', os, bare, un, hok', rv, rfl⟩ := res
        obtain rfl : u = Value.bool true := rv
        refine ⟨rfl, .of_keep fun b o e => ?_, os, bare⟩
        rcases only b with z | ⟨rfl, _, ob, u, z⟩
        · exact un.keep b o e z (fun m => by cases m) (fun m => by cases m)
        · have was := (hok _ _ z).1
          rw [e] at was
          cases was
          exact (hok' _ _ (un.frzs _ _ _ z)).1
  cases own : K.lookup a with
  | some o =>
    have e := kin a o own
    rw [at_] at e
    cases e
    exact go (fun _ => none) (fun _ => .inl rfl) (.inr ⟨_, vs.toArray, _, own, rfl, rfl, rfl, by rw [List.size_toArray, its.length]; exact small, by simpa using vals_ints its⟩) fun b u z => by cases z
  | none =>
    refine go (fun b => if b = a then some (.frz { cls := .type "list", data := .seq vs.toArray } (.lst (ns.map V.int))) else none) (fun b => ?_) (.inl (.inr ⟨_, if_pos rfl⟩)) (fun b u z => ?_)
    · by_cases hb : b = a
      · exact .inr ⟨hb, own, _, _, if_pos hb⟩
      · exact .inl (if_neg hb)
    · by_cases hb : b = a
      · subst hb
        cases (if_pos rfl).symm.trans z
        exact ⟨at_, by rw [List.length_map]; exact small, vs, _, vals_ints its, at_⟩
      · cases (if_neg hb).symm.trans z
theorem walk_G {l : PySem.W.OpenLaw} {n k : Nat} {q : Program} {loose : List Str} {XP : (Str → Option Value) → Heap → Prop} {YP : World → Heap → Prop} {d : DefRec} {K : Params → PySem.W.Frag} {sp : World → Sp} {x : Str}
    (most : l.most = some n) (small : n ≤ sizeLine) (plain : d.params.defaults = []) (room : Room k callerA) (hY : ∀ (w : World) (h : Heap), YP w h → (K w.params).In h)
    (F : ∀ (w : World) (mg : Str → Option Value) (fa : Addr) (h : Heap), (K w.params).In h → h.Ns mainGlobals mg → mg d.name = some (.ref fa) → ∃ fd : FuncData, (∀ (s : Shared) (u : Value), BindsTo s fd ⟨[u], []⟩ [(x, u)]) ∧ ∀ base : Heap, (K w.params).In base → base.Ns mainGlobals mg → FnG l.prog w (K w.params) mg base k fa fd [x] (sp w))
    (good : ∀ (w : World) (H : Hp) (a : Addr) (ns : List Int), ns.length ≤ n → SqL (K w.params) H a (ns.map V.int) → sp w [.ref a] H (fun v _ => v = .bl true) fun _ _ _ => False) :
    PySem.W.WalkO q loose XP YP l.row.toRowW d [] (fun f vs => PySem.call f vs) := by
  refine Att.attach_call most plain fun w s0 s1 mg mb fa o pm cd doc a vs ns G Y _ _ _ is at_ its len gens => ?_
  obtain ⟨fd, binds, promise⟩ := F w mg fa _ (hY w _ Y) G.T.g is
  exact law_callG (hY w _ Y) G.T.g G.T.b G.T.builtins G.T.nolimit gens at_ its (Nat.le_trans len small) room promise binds fun H hS => good w H a ns len hS
end Wd

set_option Elab.async false
set_option linter.all false
set_option maxRecDepth 100000
set_option maxHeartbeats 4000000
namespace Wd
open PySem PySem.Spec PyProof.Rows L2 WdM
/-! ### C(e, ..) where __init__ may raise, what is raised wished for at the caller's slots -/
section
variable {X : Cx} {CX : CXT} {k : Nat} {f C : Addr} {fd : FuncData} {ps : List Str} {sp : Sp} {dvs : List V} {ds : List Value} {E : L2.St → XK} {x : Str} {p pos : Pos} {e : Expr} {es : List Expr} {t : TA}
def tMakeS (C : Addr) (sp : Sp) (dvs : List V) (E : L2.St → XK) (t : TA) : TE := fun σ H Q => t σ H fun vs G => ∀ o d, G o = none → G d = none → d ≠ o → sp (.ref o :: (vs ++ dvs)) (upd (upd G d (.own o)) o (.ins C d [])) (fun v G' => v = .non ∧ Q (.ref o) G') (E σ)
theorem run_makeS {pins : List (Addr × Obj)} {σ : L2.St} {H : Hp} {s : Shared} {Q : VK} {us : List Value} {vs : List V} (M : Mk X.K C f) (F : FnOk X.prog X.w X.K X.mg X.base CX k f fd ps sp) (room : Room (k + 1) X.A) (bd : Binds X.K fd ps ds) (rd : Vals dvs ds) (out : PassesAt CX X σ (E σ)) (I : Inv X pins σ H s) (rel : Vals vs us)
    (want : ∀ o d, H o = none → H d = none → d ≠ o → sp (.ref o :: (vs ++ dvs)) (upd (upd H d (.own o)) o (.ins C d [])) (fun v G' => v = .non ∧ Q (.ref o) G') (E σ)) :
    wpAny (model X.prog X.w) X.A (call (.ref C) us) (EP X pins σ Q) X.xe s := by
  have good := want (s.heap.objs.size + 1) s.heap.objs.size (I.hok.fresh (Nat.le_succ _)) (I.hok.fresh (Nat.le_refl _)) (Nat.ne_of_lt (Nat.lt_succ_self _))
  have J := Inv.made (C := C) I
  have full : Vals (V.ref (s.heap.objs.size + 1) :: (vs ++ dvs)) (Value.ref (s.heap.objs.size + 1) :: (us ++ ds)) := .cons rfl (rel.append rd)
  have many : (Value.ref (s.heap.objs.size + 1) :: us ++ ds).length = ps.length := full.length.symm.trans (F.len _ _ _ _ good)
  refine wpAny_call (make_map (f := f) I.kIn M.makes M.init (beq_iff_eq.mp M.fn) (codeAny_mono (F.run _ X.stack _ _ ⟨Value.ref (s.heap.objs.size + 1) :: us, []⟩ (Value.ref (s.heap.objs.size + 1) :: (us ++ ds)) _ _ (E σ) (room.make C us []) (J.env0.make C us []) (bd _ (Value.ref (s.heap.objs.size + 1) :: us) J.kIn many) full good) fun r s' res => ?_))
  cases r with
  | error er => exact out pins _ _ er s' J res
  | ok fl =>
    cases fl with
    | next => exact False.elim res
    | brk => exact False.elim res
    | cont => exact False.elim res
    | ret u =>
      obtain ⟨v, G, J3, rv, ev, q⟩ := J.after res
      subst ev
      exact ⟨rv, .ref (s.heap.objs.size + 1), G, J3, rfl, q⟩
theorem pe_makeS (M : Mk X.K C f) (F : FnOk X.prog X.w X.K X.mg X.base CX k f fd ps sp) (room : Room (k + 1) X.A) (glob : Gl X x) (is : X.mg x = some (.ref C)) (bd : Binds X.K fd ps ds) (rd : Vals dvs ds) (out : ∀ σ, PassesAt CX X σ (E σ)) (args : PA X (e :: es) t)
    (nodebug : (x == ("__debug__" : Str)) = false := by decide) (star : starEach (e :: es) X.env = (false, eval e X.env) :: starEach es X.env := by rfl) (plain : (backTo pos (starEach es X.env)).any (·.1) = false := by rfl) :
    PE X (.Call (.Name x p) (e :: es) [] pos) (tMakeS C sp dvs E t) where
  run := by
    intro pins s σ H Q I h
    refine wpAny_Call_Name_kw (ld_glob I glob is (PySem.W.callWith_K (h₀ := X.base) I.ok.mod.kin M.kp (thn (args.run pos pins s σ H _ I h) ?_) star plain) nodebug)
    rintro us s1 ⟨vs, H1, I1, rel, want⟩
    exact ⟨I1.kIn, run_makeS M F room bd rd (out σ) I1 rel want⟩
end
/-! ### what is never reached -/
theorem pe_no {X : Cx} {e : Expr} : PE X e (fun _ _ _ => False) := ⟨fun _ _ _ _ _ _ h => h.elim⟩
theorem pt_no {X : Cx} {e : Expr} : PT X e (fun _ _ _ => False) := ⟨fun _ _ _ _ _ _ h => h.elim⟩
theorem ps_no {X : Cx} {st : Stmt} : PS X st (fun _ _ _ => False) := ⟨fun _ _ _ _ _ _ h => h.elim⟩
theorem pss_no {X : Cx} {st : List Stmt} : PSs X st (fun _ _ _ => False) := ⟨fun _ _ _ _ _ _ h => h.elim⟩
/-! ### enumerate of a list or tuple -/
theorem enum_new {v : Value} {o : Obj} {G : Heap → Prop} (B : Begins v o G) :
    Meets (Builtin.«enumerate.__new__» ⟨[.type "enumerate", v], []⟩) (fun _ R s => G s.heap ∧ R (.ok (.ret (.ref (s.heap.push o).objs.size))) { s with heap := (s.heap.push o).push { cls := .type "enumerate", data := .fields #[.none, .bool false, .ref s.heap.objs.size, rawInt 0, .none, .none] } }) :=
  .of_wp fun prog w A R s h => by
    obtain ⟨hp, gs, ds, tk, os⟩ := s
    obtain ⟨g0, fin⟩ := h
    have sub := sub_enumerate
    have iter : ∀ {A' : Around} {E : Value → Shared → Prop} {Q : Value → Shared → Prop}, Q (.ref hp.objs.size) ⟨hp.push o, gs, ds, tk, os⟩ → wpAny (model prog w) A' (pyIter v) Q E ⟨hp, gs, ds, tk, os⟩ := fun q => B.iter prog w _ _ _ _ g0 q
    wp_walk using iter
    refine wpAny_stack_any fun st => wpAny_pure ?_
    split
    · rename_i c _ _ _ _ _
      cases c == Value.type "enumerate" <;> (wp_walk using iter) <;> exact ⟨_, rfl, fin⟩
    · wp_walk using iter
      exact ⟨_, rfl, fin⟩
theorem enum_made {prog : Program} {w : World} {A : Around} {E : Value → Shared → Prop} {s : Shared} {v : Value} {o : Obj} {G : Heap → Prop} {Q : Value → Shared → Prop} (B : Begins v o G) (g0 : G s.heap)
    (want : ∀ h1, IsEnum h1 (s.heap.objs.size + 1) s.heap.objs.size 0 .none → h1.get? s.heap.objs.size = some o → (∀ b o, s.heap.get? b = some o → h1.get? b = some o) → Q (.ref (s.heap.objs.size + 1)) { s with heap := h1 }) :
    wpAny (model prog w) A (call (.type "enumerate") [v]) Q E s := by
  refine callType_new F.called_enumerate (by decide) (F.typeCall_enumerate_1 _) (F.newCall_enumerate_1 _) (fun obj => F.args_object_init_2 obj _) F.entry_enumerate_new (enum_new B) ⟨g0, ?_⟩
  have size1 : (s.heap.push o).objs.size = s.heap.objs.size + 1 := Heap.size_push ..
  have made := Heap.get?_push_size (s.heap.push o) (o := { cls := .type "enumerate", data := .fields #[.none, .bool false, .ref s.heap.objs.size, rawInt 0, .none, .none] }) rfl
  show _ ∧ _
  rw [size1] at made ⊢
  exact ⟨⟨_, made, rfl⟩, want _ made (Heap.get?_push_of_some _ (Heap.get?_push_size _ B.free)) fun b o g => Heap.get?_push_of_some _ (Heap.get?_push_of_some _ g)⟩
def ItE (K : PySem.W.Frag) (k : Feed) (a : Addr) : It where
  go i H := ∃ xs x, k.sq K H a xs ∧ xs[i]? = some x
  yld i H v H' := ∃ T x, v = .ref T ∧ H T = none ∧ H' = upd H T (.tup [.int (i : Nat), x]) ∧ ∀ xs, k.sq K H a xs → xs[i]? = some x
  stop i H := ∃ xs, k.sq K H a xs ∧ xs.length = i
theorem walkE {K : PySem.W.Frag} {k : Feed} {a : Addr} {xs : List V} : Walk (ItE K k a) xs.length (fun H => k.sq K H a xs) (YPair (fun i => some (.int (i : Nat))) fun i => xs[i]?) where
  goes := fun i H hi g => ⟨xs, xs[i], g, List.getElem?_eq_getElem hi⟩
  stops := fun H g => ⟨xs, g, rfl⟩
  yields := fun i H v H' _ g ⟨T, x, e1, e2, e3, e4⟩ => ⟨T, .int (i : Nat), x, e1, e2, e3, rfl, e4 xs g⟩
theorem turnE {P : Program} {w : World} {K : PySem.W.Frag} {elts : List Expr} {kk : Nat} {tpos : Pos} {k : Feed} {a e it : Addr} (na : a ≠ it) (ea : e ≠ a) (ei : e ≠ it) :
    Turn P w K (.Tuple elts kk tpos) (ItE K k a) [e, it] e fun i h => (∃ old, IsEnum h e it ((i : Nat) : Int) old) ∧ k.at_ h it a i where
  mem := List.mem_cons_self
  obj := by
    rintro i h ⟨⟨old, ge⟩, gi⟩ c hc
    rcases List.mem_cons.mp hc with rfl | hc
    · exact ⟨_, ge, fun _ z => nomatch z⟩
    · rw [List.mem_singleton.mp hc]
      exact k.lives gi
  keep := by
    rintro i h h' ⟨⟨old, ge⟩, gi⟩ same
    exact ⟨⟨old, same _ (by simp) _ ge⟩, k.moved gi (same _ (by simp))⟩
  item := by
    rintro X rfl rfl rfl calm i pins s σ H E I free ⟨⟨old, ge⟩, gi⟩ ⟨xs, x, hxs, hx⟩
    obtain ⟨us, rel, st, _⟩ := k.known I hxs
    obtain ⟨u, hu, ru⟩ := rel.get hx
    have hA : X.A.in1.handled = none := I.ok.hd calm
    have el := Heap.lt_size ge
    have n1 : i < us.toArray.size := by
      rw [List.size_toArray]
      exact (List.getElem?_eq_some_iff.mp hu).1
    refine wpAny_pyNext_enum_itemD (k.draws hA na _) ge ⟨gi, st⟩ n1 ei (by simp [ei, ea]) ?_
    rintro u' h1 t1 eu out ⟨d1, _⟩ gT _ same
    obtain rfl : u = u' := Option.some.inj (hu.symm.trans (by simpa using eu))
    refine ⟨_, rfl, wpAny_letOwnedTupleGo_enum (s := { s with heap := h1, toks := t1 + 1 }) out fun h2 ge2 sb => ?_⟩
    have all : ∀ c o, c ∉ [e, it] → s.heap.get? c = some o → h2.get? c = some o := fun c o hc g => by
      simp only [List.mem_cons, List.not_mem_nil, or_false, not_or] at hc
      exact (sb.2 c hc.1).trans (same c o hc.1 hc.2 g)
    have pair : h2.get? s.heap.objs.size = some { cls := .type "tuple", data := .seq #[.int i t1, u] } := (sb.2 _ (Nat.ne_of_gt el)).trans gT
    have made : ObjOk X.prog X.w (upd H s.heap.objs.size (.tup [.int (i : Nat), x])) h2 s.heap.objs.size (.tup [.int (i : Nat), x]) := ⟨by show 2 ≤ sizeLine; decide, [.int i t1, u], .cons ⟨_, rfl⟩ (.cons ru .nil), _, pair, rfl, _, rfl⟩
    refine ⟨.ref s.heap.objs.size, _, I.turnedNew (t' := t1 + 1) all free (Nat.le_refl _) made, rfl, ?_, ?_, ?_⟩
    · exact ⟨_, x, rfl, I.hok.fresh (Nat.le_refl _), rfl, fun l g => k.one I g hxs ▸ hx⟩
    · refine ⟨⟨u, ?_⟩, k.moved d1 fun o g => (sb.2 _ ei.symm).trans g⟩
      rw [show ((i + 1 : Nat) : Int) = (i : Int) + 1 by omega]
      exact ge2
    · intro c hc
      have old : c < s.heap.objs.size := by
        rcases List.mem_cons.mp hc with rfl | hc
        · exact el
        · rw [List.mem_singleton.mp hc]
          obtain ⟨o1, e1, _⟩ := k.lives gi
          exact Heap.lt_size e1
      rw [upd_ne (Nat.ne_of_lt old)]
      exact (free c hc).1
  done := by
    rintro X rfl rfl rfl calm i pins s σ H E I free ⟨⟨old, ge⟩, gi⟩ ⟨xs, hxs, n⟩
    obtain ⟨us, rel, st, _⟩ := k.known I hxs
    have hA : X.A.in1.handled = none := I.ok.hd calm
    have z : us.toArray.size = i := by rw [List.size_toArray, ← rel.length, n]
    refine wpAny_pyNext_enum_endD (k.draws hA na us.toArray) ge ⟨z ▸ gi, st⟩ fun h1 same => ⟨rfl, I.turnedL (t' := s.toks) (fun c o hc g => ?_) free⟩
    simp only [List.mem_cons, List.not_mem_nil, or_false, not_or] at hc
    exact same c o hc.2 g
  self := fun _ _ _ _ _ g q => g.1.elim fun _ ge => wpAny_pyIter_enum ge q
def iE (K : PySem.W.Frag) (k : Feed) (ta : TA) : TI := fun σ H R => ta σ H fun vs H1 => ∃ a xs, vs = [.ref a] ∧ k.sq K H1 a xs ∧ R (ItE K k a) H1
theorem pi_E {X : Cx} {e : Expr} {ta : TA} {p pos tpos : Pos} {elts : List Expr} {kk : Nat} (k : Feed) (hg : Gl X "enumerate") (hm : X.mg "enumerate" = none) (ha : PA X [e] ta) (star : starEach [e] X.env = [(false, eval e X.env)] := by rfl) :
    PI X (.Tuple elts kk tpos) (.Call (.Name "enumerate" p) [e] [] pos) (iE X.K k ta) where
  run := by
    intro pins s σ H R I h
    refine Call_ (ld_blt I hg hm boot_enumerate (PyProof.Rows.callWith_type1 (thn (ha.run pos pins s σ H _ I h) ?_) star rfl))
    rintro us s1 ⟨vs, H1, I1, rel, a, xs, rfl, hxs, r⟩
    rw [Vals.ref1 rel]
    obtain ⟨its, _, st, la⟩ := k.known I1 hxs
    refine enum_made (k.begins a its.toArray) st fun h1 ge gi same => wpAny_pyIter_enum ge ?_
    have I2 : Inv X pins σ H1 { s1 with heap := h1 } := I1.kept (t' := s1.toks) same
    have na : a ≠ s1.heap.objs.size := Nat.ne_of_lt la
    have ea : s1.heap.objs.size + 1 ≠ a := fun z => absurd la (by rw [← z]; exact Nat.not_lt.mpr (Nat.le_succ _))
    refine ⟨s1.heap.objs.size + 1, [s1.heap.objs.size + 1, s1.heap.objs.size], _, _, H1, rfl, I2, turnE na ea (Nat.succ_ne_self _), ⟨⟨.none, ge⟩, k.first gi⟩, fun b hb => ?_, r⟩
    have le : s1.heap.objs.size ≤ b := by
      rcases List.mem_cons.mp hb with rfl | hb
      · exact Nat.le_succ _
      · exact Nat.le_of_eq (List.mem_singleton.mp hb).symm
    exact I1.fpOk le (I1.hok.fresh le)
end Wd

set_option Elab.async false
set_option linter.all false
set_option maxRecDepth 100000
set_option maxHeartbeats 4000000
namespace Wd
open PySem PySem.Spec PyProof.Rows L2 WdM
/-! ### readings may be weakened -/
theorem PE.wk {X : Cx} {e : Expr} {t t' : TE} (h : PE X e t) (w : ∀ σ H Q, t' σ H Q → t σ H Q) : PE X e t' := ⟨fun pins s σ H Q I hw => h.run pins s σ H Q I (w _ _ _ hw)⟩
theorem PA.wk {X : Cx} {es : List Expr} {t t' : TA} (h : PA X es t) (w : ∀ σ H Q, t' σ H Q → t σ H Q) : PA X es t' := ⟨fun pos pins s σ H Q I hw => h.run pos pins s σ H Q I (w _ _ _ hw)⟩
theorem PT.wk {X : Cx} {e : Expr} {t t' : TT} (h : PT X e t) (w : ∀ σ H Q, t' σ H Q → t σ H Q) : PT X e t' := ⟨fun pins s σ H Q I hw => h.run pins s σ H Q I (w _ _ _ hw)⟩
theorem PS.wk {X : Cx} {st : Stmt} {t t' : TS} (h : PS X st t) (w : ∀ D σ H, t' D σ H → t D σ H) : PS X st t' := ⟨fun pins s σ H D I hw => h.run pins s σ H D I (w _ _ _ hw)⟩
theorem PSs.wk {X : Cx} {st : List Stmt} {t t' : TS} (h : PSs X st t) (w : ∀ D σ H, t' D σ H → t D σ H) : PSs X st t' := ⟨fun pins s σ H D I hw => h.run pins s σ H D I (w _ _ _ hw)⟩
theorem tyes {σ : L2.St} {H : Hp} {f : Bool → Hp → Prop} (h : f true H) : tYes σ H f := h
theorem bt_same1 {l : Addr} {H H' : Hp} (e : Bt [l] H H') (h : H l = none) : Same H H' := fun b o q => e b o (by simp [ne_of_none q h]) q
/-- the built-ins' names, which the top leaves alone -/
structure Bi (mg : Str → Option Value) : Prop where
  isi : mg "isinstance" = none
  int : mg "int" = none
  bool : mg "bool" = none
  str : mg "str" = none
  tuple : mg "tuple" = none
  list : mg "list" = none
  len : mg "len" = none
  abs : mg "abs" = none
  all : mg "all" = none
  any : mg "any" = none
  sum : mg "sum" = none
  enum : mg "enumerate" = none
  divmod : mg "divmod" = none
  range : mg "range" = none
  max : mg "max" = none
  min : mg "min" = none
  zip : mg "zip" = none
  repr : mg "repr" = none
section
variable {K : PySem.W.Frag}
/-! ### things of any kind -/
inductive Th (K : PySem.W.Frag) (H : Hp) : V → PyData → Prop
  | dp {x : V} {d : PyData} (h : Dp K H x d) : Th K H x d
  | nod {a : Addr} (h : H a = some (.dK [])) : Th K H (.ref a) (.dict [])
mutual
theorem dp_same {H H' : Hp} (e : Same H H') : ∀ {v : V} {d : PyData}, Dp K H v d → Dp K H' v d
  | _, _, .non => .non
  | _, _, .bl b => .bl b
  | _, _, .int i => .int i
  | _, _, .str x => .str x
  | _, _, .lst h a => .lst (e.seq h) (dpAll_same e a)
  | _, _, .tup h a => .tup ((tk_same e).sq h) (dpAll_same e a)
theorem dpAll_same {H H' : Hp} (e : Same H H') : ∀ {vs : List V} {ds : List PyData}, DpAll K H vs ds → DpAll K H' vs ds
  | _, _, .nil => .nil
  | _, _, .cons h t => .cons (dp_same e h) (dpAll_same e t)
end
theorem Th.same {H H' : Hp} {v : V} {d : PyData} (e : Same H H') (h : Th K H v d) : Th K H' v d := by
  cases h with
  | dp h => exact .dp (dp_same e h)
  | nod h => exact .nod (e _ _ h)
def tyN : PyData → String
  | .none => "NoneType"
  | .bool _ => "bool"
  | .int _ => "int"
  | .str _ => "str"
  | .list _ => "list"
  | .tuple _ => "tuple"
  | .dict _ => "dict"
theorem Th.ty {H : Hp} {v : V} {d : PyData} (h : Th K H v d) : TyX K H v (.type (tyN d)) := by
  cases h with
  | nod h => exact .base (.dK h)
  | dp h =>
    cases h with
    | non => exact .base .non
    | bl b => exact .base (.bl b)
    | int i => exact .base (.int i)
    | str x => exact .base (.str x)
    | lst h _ =>
      rcases h with (h | ⟨o, h⟩) | ⟨o, its, n, e, c, _⟩
      · exact .base (.lst h)
      · exact .base (.frz h)
      · exact .kList e c
    | tup h _ => exact tyT h
/-- whether a thing is an instance of a built-in class -/
def isaB (T : String) : PyData → Bool
  | .none => T == "NoneType"
  | .bool _ => T == "bool" || T == "int"
  | .int _ => T == "int"
  | .str _ => T == "str"
  | .list _ => T == "list"
  | .tuple _ => T == "tuple"
  | .dict _ => T == "dict"
theorem kit_all : ∀ T ∈ ["int", "bool", "str", "tuple", "list"], kitB "NoneType" T = some (T == "NoneType") ∧ kitB "bool" T = some (T == "bool" || T == "int") ∧ kitB "int" T = some (T == "int") ∧ kitB "str" T = some (T == "str") ∧ kitB "list" T = some (T == "list") ∧ kitB "tuple" T = some (T == "tuple") ∧ kitB "dict" T = some (T == "dict") := by
  decide +kernel
theorem kit_isa {T : String} (h : T ∈ ["int", "bool", "str", "tuple", "list"]) (d : PyData) : PySem.W.kitOne K (.type (tyN d)) (.type T) = some (isaB T d) := by
  obtain ⟨a0, a1, a2, a3, a4, a5, a6⟩ := kit_all T h
  cases d
  · exact kit_ty a0
  · exact kit_ty a1
  · exact kit_ty a2
  · exact kit_ty a3
  · exact kit_ty a4
  · exact kit_ty a5
  · exact kit_ty a6
def strB : PyData → Bool
  | .str _ => true
  | _ => false
def tupB : PyData → Bool
  | .tuple _ => true
  | _ => false
def wholeB : PyData → Bool
  | .int _ => true
  | _ => false
theorem kit_str (d : PyData) : PySem.W.kitOne K (.type (tyN d)) (.type "str") = some (strB d) := by
  rw [kit_isa (by decide) d]
  cases d <;> rfl
theorem kit_tup (d : PyData) : PySem.W.kitOne K (.type (tyN d)) (.type "tuple") = some (tupB d) := by
  rw [kit_isa (by decide) d]
  cases d <;> rfl
theorem kit_whole (d : PyData) : ∃ b1 b2, PySem.W.kitOne K (.type (tyN d)) (.type "int") = some b1 ∧ PySem.W.kitOne K (.type (tyN d)) (.type "bool") = some b2 ∧ (b1 && !b2) = wholeB d := by
  refine ⟨_, _, kit_isa (by decide) d, kit_isa (by decide) d, ?_⟩
  cases d <;> rfl
theorem str_of {d : PyData} (h : strB d = true) : ∃ z, d = .str z := by
  cases d with
  | str z => exact ⟨z, rfl⟩
  | _ => cases h
theorem tup_of {d : PyData} (h : tupB d = true) : ∃ ds, d = .tuple ds := by
  cases d with
  | tuple ds => exact ⟨ds, rfl⟩
  | _ => cases h
theorem whole_of {d : PyData} (h : wholeB d = true) : ∃ i, d = .int i := by
  cases d with
  | int i => exact ⟨i, rfl⟩
  | _ => cases h
theorem th_str {H : Hp} {v : V} {z : Str} (h : Th K H v (.str z)) : v = .str z := by
  cases h with
  | dp h => cases h; rfl
theorem th_tup {H : Hp} {v : V} {ds : List PyData} (h : Th K H v (.tuple ds)) : ∃ a xs, v = .ref a ∧ SqT K H a xs ∧ DpAll K H xs ds := by
  cases h with
  | dp h => cases h with | tup hs hd => exact ⟨_, _, rfl, hs, hd⟩
theorem dpAll_len {H : Hp} : ∀ {xs : List V} {ds : List PyData}, DpAll K H xs ds → xs.length = ds.length
  | _, _, .nil => rfl
  | _, _, .cons _ t => congrArg (· + 1) (dpAll_len t)
end
/-! ### names -/
def lettersS : Str := "abcdefghijklmnopqrstuvwxyz"
def noNames : List V := [.str "all", .str "and", .str "children", .str "childless", .str "crown", .str "else", .str "if", .str "lives", .str "not", .str "of", .str "or", .str "stock", .str "to"]
def letB (c : Nat) : Bool := decide (c ∈ lettersS.cps.toList)
def nmB (z : Str) : Bool := decide (1 ≤ z.length ∧ z.length ≤ 8) && !inV (.str z) noNames && z.cps.toList.all letB
def nameB : PyData → Bool
  | .str z => nmB z
  | _ => false
theorem name_no {d : PyData} (h : strB d = false) : nameB d = false := by
  cases d <;> first | rfl | cases h
/-- texts that are not too long -/
def Short (d : PyData) : Prop := ∀ z, d = .str z → z.length ≤ 1000
theorem ixN_nat {n i : Nat} (h : i < n) : ixN n (i : Int) = some i := by
  unfold ixN
  rw [if_pos (by omega), if_pos (by omega)]
  rfl
theorem small_len {n : Nat} (h : n ≤ 1000) : n ≤ sizeLine := Nat.le_trans h (by decide)
end Wd

set_option Elab.async false
set_option linter.all false
set_option maxRecDepth 100000
set_option maxHeartbeats 4000000
/-! ### own errors of any family, with an __init__ that stores one field -/
namespace Wd
open PySem PySem.W PySem.Calls PyProof.Rows PySem.HandSPX
open Builtin Builtin.ObjectAttr
/-- own classes, then the family's order tl -/
def refsT (tl : List Value) : List Value → Bool
  | .ref _ :: r => refsT tl r
  | l => l == tl
/-- what is known of a family -/
structure Fam (B newId initId : String) (tl : List Value) : Prop where
  base : ExcBaseFacts B newId initId tl
  pass : ∀ self, refuseLoop self "__setattr__" tl = pure ()
  ne : tl.isEmpty = false
  ob : tl.contains (.type "object") = true
theorem fam_lookup : Fam "LookupError" "LookupError.__new__" "LookupError.__init__" [.type "LookupError", .type "Exception", .type "BaseException", .type "object"] :=
  ⟨F.excBase_LookupError, fun self => F.store_LookupError.passes self, rfl, by decide +kernel⟩
theorem fam_arith : Fam "ArithmeticError" "ArithmeticError.__new__" "ArithmeticError.__init__" [.type "ArithmeticError", .type "Exception", .type "BaseException", .type "object"] :=
  ⟨F.excBase_ArithmeticError, fun self => F.store_ArithmeticError.passes self, rfl, by decide +kernel⟩
section
variable {B newId initId : String} {tl : List Value}
theorem refsT_cases : ∀ l : List Value, refsT tl l = true → (∃ c r, l = .ref c :: r ∧ refsT tl r = true) ∨ l = tl := by
  intro l e
  cases l with
  | nil => exact .inr (beq_iff_eq.mp e)
  | cons a r => cases a <;> first | exact .inl ⟨_, _, rfl, e⟩ | exact .inr (beq_iff_eq.mp e)
theorem refsT_pass (f : Fam B newId initId tl) (self : Value) : ∀ l : List Value, refsT tl l = true → refuseLoop self "__setattr__" l = pure () := by
  intro l
  induction l with
  | nil =>
    intro e
    rcases refsT_cases [] e with ⟨_, _, h, _⟩ | h
    · cases h
    · rw [h]; exact f.pass self
  | cons a r ih =>
    intro e
    rcases refsT_cases (a :: r) e with ⟨c, r', q, h⟩ | q
    · cases q
      rw [refuseLoop_ref]
      exact ih h
    · rw [q]; exact f.pass self
theorem refsT_has (X : String) : ∀ l : List Value, refsT tl l = true → l.contains (.type X) = tl.contains (.type X) := by
  intro l
  induction l with
  | nil =>
    intro e
    rcases refsT_cases [] e with ⟨_, _, h, _⟩ | h
    · cases h
    · rw [h]
  | cons a r ih =>
    intro e
    rcases refsT_cases (a :: r) e with ⟨c, r', q, h⟩ | q
    · cases q
      rw [List.contains_cons, ih h]
      rfl
    · rw [q]
theorem refsT_ne (f : Fam B newId initId tl) {l : List Value} (e : refsT tl l = true) : l.isEmpty = false := by
  cases l with
  | nil =>
    rcases refsT_cases [] e with ⟨_, _, h, _⟩ | h
    · cases h
    · rw [h]; exact f.ne
  | cons _ _ => rfl
end
section
variable {B newId initId : String} {tl : List Value} {prog : Program} {w : World} {A : Around} {E : Value → Shared → Prop} {R : Result → Shared → Prop} {hp : Heap} {g : Array GenState} {d : Drawn} {t : Nat} {os : OsState}
/-- the first field of an error that is being made -/
theorem osa_T (f : Fam B newId initId tl) {K : W.Frag} {name : Str} {tk : Tok} {v : Value} {x C : Addr} {fv : Array Value} {cd : ClassData}
    (X : K.In hp) (hx : hp.get? x = some { cls := .ref C, data := .fields fv }) (hcd : W.clsIn K C = some cd) (hm : refsT tl cd.mro = true) (hh : cd.hasDict = true) (ha : W.findIn K (.ref C) name = some none)
    (hq : ∀ h' tk' dx, (∀ b o, b ≠ x → hp.get? b = some o → h'.get? b = some o) → hp.objs.size ≤ dx → dx ≠ x → h'.get? x = some { cls := .ref C, dict := some dx, data := .fields fv } →
      h'.Ns1 dx (fun y => if y = name then some v else none) → R (.ok (.ret .none)) ⟨h', g, d, tk', os⟩) :
    codeAny (model prog w) A (.call (.builtin "object.__setattr__") ⟨[.ref x, .str name tk, v], []⟩) R ⟨hp, g, d, t, os⟩ := by
  have I : W.InstAt hp x { cls := .ref C, data := .fields fv } C none := ⟨hx, rfl, rfl, trivial⟩
  have SF := F.store_object
  have hob : cd.mro.contains (.type "object") = true := (refsT_has "object" _ hm).trans f.ob
  have hxs : x ≠ hp.objs.size := Nat.ne_of_lt (Heap.lt_size hx)
  have sub : W.Looks (model prog w) hp (isInstance (.ref x) (.type "object")) true := I.type.andThen (W.looks_mroIn X (by unfold W.mroIn; rw [hcd, Option.bind_some, if_neg (by rw [refsT_ne f hm]; decide), hob]))
  refine codeAny_call_builtin SF.slot.plain SF.entry (@W.check_slot (model prog w) _ _ ⟨hp, g, d, t, os⟩ "object.__setattr__" "object" "__setattr__" (.ref x) [.str name tk, v] [] _ SF.kind SF.split sub (SF.args (.ref x) (.str name tk) v) ?_)
  have hmr : W.Looks (model prog w) hp (mroOf (.ref C)) cd.mro := (W.looks_clsIn X hcd).andThen .now
  have L3 : W.Looks (model prog w) hp (storeTaker? none) none := .now
  have hcls : W.Looks (model prog w) hp (classData C) cd := W.looks_clsIn X hcd
  rw [W.osa_eq, refuse_eq]
  refine wpAny_bind (wpAny_bind (I.type.at (wpAny_bind (hmr.at ?_))))
  rw [refsT_pass f _ _ hm]
  refine wpAny_pure (wpAny_bind (I.type.at (wpAny_bind ((W.looks_findIn X ha).at (wpAny_bind (L3.at ?_))))))
  show wpAny _ _ (storeInOwnDict (.ref x) (.ref C) (.str name tk) name v false) _ _ _
  obtain ⟨nm, bs, mro, ns, qn, hd, sn, sb, ab, col, del⟩ := cd
  dsimp only at hh
  subst hh
  unfold storeInOwnDict ownDictForStores
  repeat (first | with_reducible refine store_in_new ?_ ?_ | with_reducible refine wpAny_loadPart_at hx ?_ | with_reducible refine hcls.at ?_ | wp_step)
  · exact ⟨_, #[], _, (Heap.get?_update_ne _ _ _ _ hxs.symm).trans (Heap.get?_push_at rfl rfl), rfl, fun e he => absurd he (by simp), fun _ => rfl⟩
  · intro h' tk' hn' hs
    have hx₁ : (hp.push { cls := .type "dict", data := .dict #[] }).get? x = some { cls := .ref C, data := .fields fv } := Heap.get?_push_of_some _ hx
    refine hq h' tk' hp.objs.size (fun b o hb ho => ?_) (Nat.le_refl _) hxs.symm ?_ hn'
    · exact (hs.2 b (Nat.ne_of_lt (Heap.lt_size ho))).trans ((Heap.get?_update_ne _ _ _ _ hb).trans (Heap.get?_push_of_some _ ho))
    · exact (hs.2 x hxs).trans (Heap.get?_update_self _ hx₁ rfl)
end
end Wd
namespace Wd
open PySem PySem.Spec PyProof.Rows L2 WdM
/-- what the top says of the class -/
structure OexT (newId : String) (tl : List Value) (K : PySem.W.Frag) (C : Addr) : Prop where
  cls : ∃ nm q N bs bm sn sub ab col dd k0 k1 k2 k3 k5, K.lookup C = some (excClassObj nm q C N bs bm true sn sub ab col dd k0 k1 k2 k3 k5 newId) ∧ refsT tl bm = true
  sa : PySem.W.findIn K (.ref C) "__setattr__" = some (some (.builtin "object.__setattr__"))
  exC : PySem.W.subIn K (.ref C) (.type "BaseException") = some true
  tyC : PySem.W.typeIn K (.ref C) = some (.type "type")
  kC : PySem.W.keepIn K (.ref C) = true
section
variable {B newId initId : String} {tl : List Value} {X : Cx} {pins : List (Addr × Obj)} {σ : L2.St} {H : Hp} {s : Shared} {a C : Addr} {fl : Str} {y : V} {u : Value} {Q : Unit → Shared → Prop} {E : Value → Shared → Prop} {A : Around}
theorem ost_T (f : Fam B newId initId tl) (T : OexT newId tl X.K C) (I : Inv X pins σ H s) (e : H a = some (exo a C none)) (hno : PySem.W.findIn X.K (.ref C) fl = some none) (ry : RelV y u)
    (h : ∀ dx s', H dx = none → dx ≠ a → Inv X pins σ (upd (upd H dx (exd dx [(fl, y)])) a (exo a C (some dx))) s' → Q () s') : wpAny (model X.prog X.w) A (setAttr (.ref a) fl u) Q E s := by
  obtain ⟨nm, q, N, bs, bm, sn, sub, ab, col, dd, k0, k1, k2, k3, k5, hC, hbm⟩ := T.cls
  have hcl : PySem.W.clsIn X.K C = some { name := nm, bases := bs, mro := .ref C :: bm, ns := N, qualname := q, hasDict := true, slotNames := sn, subclasses := sub, abstract := ab, collection := col, hasDel := false } := by unfold PySem.W.clsIn; rw [hC] <;> rfl
  obtain ⟨t1, ho⟩ := exo_at I.hok e
  obtain ⟨hp, g, d, t, os⟩ := s
  refine PySem.W.set_plain I.kIn (ox := { cls := .ref C, dict := none, data := .fields #[.ref t1, .none, .none, .none, .bool false, .none] }) (od := none) ⟨ho, rfl, rfl, trivial⟩ T.sa ?_
  refine osa_T f I.kIn ho hcl (show refsT tl (.ref C :: bm) = true from hbm) rfl hno (fun h' tk' dx k dn dne hx hn => ?_)
  have hnd : H dx = none := I.hok.fresh dn
  have nd : ∀ {b : Addr} {o : Obj}, hp.get? b = some o → b ≠ dx := fun {b o} q => Nat.ne_of_lt (Nat.lt_of_lt_of_le (Heap.lt_size q) dn)
  have na : ∀ {b : Addr}, H b = none → b ≠ a := fun {b} n z => by
    rw [z, e] at n
    cases n
  have Un1 : Un X.fs [] H (upd (upd H dx (exd dx [(fl, y)])) a (exo a C (some dx))) hp h' := {
    keep := fun b o q n _ _ => k b o (na n) q
    slot := fun b o q n _ _ => ⟨o.slots, k b o (na n) q⟩
    free := fun b o q n _ => by rw [upd_ne (na n), upd_ne (nd q)]; exact n
    there := fun b o q _ => by
      by_cases hb : b = a
      · exact ⟨_, by rw [hb]; exact hx⟩
      · exact ⟨o, k b o hb q⟩
    tups := fun b xs q => by rw [upd_ne (at_ne e q exo_tup), upd_ne (ne_of_none q hnd)]; exact q
    frzs := fun b o v q => by rw [upd_ne (at_ne e q exo_frz), upd_ne (ne_of_none q hnd)]; exact q
    tbls := fun b ps q => ⟨#[], by rw [upd_ne (at_ne e q exo_tbl), upd_ne (ne_of_none q hnd), q]; simp⟩ }
  refine h dx _ hnd dne (I.un (t' := tk') Un1 fun b o q => ?_)
  by_cases hb : b = a
  · subst hb
    rw [upd_same] at q
    cases q
    exact exo_ok hx
  · rw [upd_ne hb] at q
    by_cases hd : b = dx
    · subst hd
      rw [upd_same] at q
      cases q
      exact exd_ok hn (relO_put (fs := []) ry fun g => True.intro)
    · rw [upd_ne hd] at q
      exact (I.hok b o q).stay (fun c v hc z => k c v (by
          rcases hc with hc | hc
          · rw [hc]
            exact hb
          · exact at_ne e hc exo_own) z)
        (fun c hc => by rw [upd_ne (at_ne e hc exo_own), upd_ne (ne_of_none hc hnd)]; exact hc) (fun c xs hc => by rw [upd_ne (at_ne e hc exo_tup), upd_ne (ne_of_none hc hnd)]; exact hc)
end
/-- self.f = e, the first one -/
def tOsT (newId : String) (tl : List Value) (K : PySem.W.Frag) (f : Str) (to te : TE) : TS := fun D σ H => te σ H fun y H1 => to σ H1 fun x H2 => ∃ a C : Addr, x = .ref a ∧ OexT newId tl K C ∧ PySem.W.findIn K (.ref C) f = some none ∧
  H2 a = some (exo a C none) ∧ ∀ dx, H2 dx = none → dx ≠ a → D.nx σ (upd (upd H2 dx (exd dx [(f, y)])) a (exo a C (some dx)))
section
variable {B newId initId : String} {tl : List Value} {X : Cx} {o e : Expr} {es : List Expr} {to te : TE} {ta : TA} {f : Str} {p p' pos : Pos}
theorem ps_osT (fm : Fam B newId initId tl) (ho : PE X o to) (he : PE X e te) (hs : swapsWith e (some (.Attribute o f p')) pos.line X.env = pure false := by rfl) : PS X (.Assign [.Attribute o f p'] e pos) (tOsT newId tl X.K f to te) := by
  refine ⟨fun pins s σ H D I h => ?_⟩
  refine plainObj_wpAny_Assign_Attribute (thn (he.run pins s σ H _ I h) fun v s1 ⟨y, H1, I1, r1, q1⟩ => thn (ho.run pins s1 σ H1 _ I1 q1) fun u s2 ⟨x, H2, I2, r2, a, C, ex, T, hno, ea, q⟩ => ?_) hs
  subst ex
  obtain rfl : u = Value.ref a := r2
  exact ost_T fm T I2 ea hno r1 fun dx s' n ne J => ⟨σ, _, J, q dx n ne⟩
theorem pmk_T (fm : Fam B newId initId tl) {CX : CXT} {x : Str} {C fI : Addr} {k : Nat} {fd : FuncData} {ps : List Str} {sp : Sp} {ds : List Value} {dvs : List V} (T : OexT newId tl X.K C) (iC : PySem.W.findIn X.K (.ref C) "__init__" = some (some (.ref fI))) (tI : PySem.W.typeIn X.K (.ref fI) = some (.type "function"))
    (F1 : FnOk X.prog X.w X.K X.mg X.base CX k fI fd ps sp) (hr : Room (k + 1) X.A) (hb : Binds X.K fd ps ds) (hd : Vals dvs ds) (hx : Passes CX X (fun _ _ _ => False)) (hg : Gl X x) (hm : X.mg x = some (.ref C)) (ha : PA X (e :: es) ta)
    (hdb : (x == ("__debug__" : Str)) = false := by decide) (he : starEach (e :: es) X.env = (false, eval e X.env) :: starEach es X.env := by rfl) (hpl : (backTo pos (starEach es X.env)).any (·.1) = false := by rfl) :
    PMk X (.Call (.Name x p) (e :: es) [] pos) (tMkO C sp dvs ta) := by
  intro pins s σ H Q I h
  obtain ⟨nm, q, N, bs, bm, sn, sub, ab, col, dd, k0, k1, k2, k3, k5, hC, hbm⟩ := T.cls
  refine wpAny_Call_Name_kw (ld_glob I hg hm ?_ hdb)
  refine PySem.W.callWith_K (h₀ := X.base) I.ok.mod.kin T.kC (thn (ha.run pos pins s σ H _ I h) fun us s1 ⟨vs, H1, I1, r1, hz, q1⟩ => ⟨I1.kIn, ?_⟩) he hpl
  show wpAny _ _ (call (.ref C) us) _ _ _
  obtain ⟨hp, g, dr, tk, os⟩ := s1
  have hsz : hp.objs.size ≤ hp.objs.size + 1 := Nat.le_succ _
  have hn : H1 (hp.objs.size + 1) = none := I1.hok.fresh hsz
  have hq := q1 (hp.objs.size + 1) hn
  have kk : ∀ b o, hp.get? b = some o → ((hp.push (PySem.W.kdv_tup us)).push (PySem.HandSPX.excO C hp.objs.size)).get? b = some o := fun b o e => Heap.get?_push_of_some _ (Heap.get?_push_of_some _ e)
  have hget : ((hp.push (PySem.W.kdv_tup us)).push (PySem.HandSPX.excO C hp.objs.size)).get? (hp.objs.size + 1) = some (PySem.HandSPX.excO C hp.objs.size) := by heap_get
  have I2 : Inv X pins σ (upd H1 (hp.objs.size + 1) (exo (hp.objs.size + 1) C none)) ⟨(hp.push (PySem.W.kdv_tup us)).push (PySem.HandSPX.excO C hp.objs.size), g, dr, tk, os⟩ :=
    I1.laid (t' := tk) (a := hp.objs.size + 1) (o := exo (hp.objs.size + 1) C none) (h' := (hp.push (PySem.W.kdv_tup us)).push (PySem.HandSPX.excO C hp.objs.size)) kk hsz (exo_ok hget)
  have r2 : Vals (V.ref (hp.objs.size + 1) :: (vs ++ dvs)) (Value.ref (hp.objs.size + 1) :: (us ++ ds)) := .cons rfl (r1.append hd)
  have hl : (Value.ref (hp.objs.size + 1) :: us ++ ds).length = ps.length := by
    have e := r2.length
    rw [F1.len _ _ _ _ hq] at e
    exact e.symm
  have hus : us.length ≤ sizeLine := by
    rw [← Paired.length r1, sizeLine_eq]
    omega
  refine wpAny_call (PySem.HandSPX.call_own fm.base (fun Y => refsT_has Y bm hbm) (I1.kIn _ _ hC) (PySem.W.looks_findIn I1.kIn iC) (fun self => PySem.W.bind_fn I1.kIn self tI) hus
    (codeAny_mono (F1.run _ X.stack _ _ ⟨Value.ref (hp.objs.size + 1) :: us, []⟩ (Value.ref (hp.objs.size + 1) :: (us ++ ds)) _ _ (fun _ _ _ => False) (hr.make C us []) (I2.env0.make C us []) (hb _ (Value.ref (hp.objs.size + 1) :: us) I2.kIn hl) r2 hq) fun r s' hq' => ?_))
  cases r with
  | error er => exact hx pins σ _ _ er s' I2 hq'
  | ok fl =>
    cases fl with
    | ret u =>
      obtain ⟨v, H2, os2, bare2, un2, hok2, rv, ev, d, fs, ea, ed, hd1, q2⟩ := hq'
      subst ev
      obtain ⟨h2, g2, d2, t2, os'⟩ := s'
      exact ⟨rv, mk_end (raises_own T.exC T.tyC) I1 hsz kk un2 hok2 os2 bare2 ea ed hd1 q2⟩
    | next => exact False.elim hq'
    | brk => exact False.elim hq'
    | cont => exact False.elim hq'
end
end Wd

set_option Elab.async false
set_option linter.all false
set_option maxRecDepth 100000
set_option maxHeartbeats 4000000
namespace Wd
open PySem PySem.Spec PyProof.Rows L2 He
theorem refsB_eq {tl : List Value} : ∀ l : List Value, refsB tl l = true → refsT tl l = true
  | [], h => h
  | .ref _ :: r, h => refsB_eq r h
  | a :: r, h => by
    cases a <;> first | exact refsB_eq r h | exact h
theorem oexTB_ok {newId : String} {tl : List Value} {K : PySem.W.Frag} {C : Addr} (q : oexTB newId tl K C = true) : ∃ nm q N bs bm sn sub ab col dd k0 k1 k2 k3 k5, K.lookup C = some (excClassObj nm q C N bs bm true sn sub ab col dd k0 k1 k2 k3 k5 newId) ∧ refsT tl bm = true := by
  unfold oexTB at q
  split at q
  · rename_i dd cd sl ho
    split at q
    · rename_i C' bm k0 k1 k2 k3 n k5 hm hs
      simp only [Bool.and_eq_true, beq_iff_eq, Bool.not_eq_true'] at q
      obtain ⟨⟨⟨⟨rfl, rfl⟩, hdel⟩, hd⟩, hr⟩ := q
      obtain ⟨nm, bs, mro, N, qn, hasd, sn, sub, ab, col, hdl⟩ := cd
      simp only at hm hdel hd
      subst hm
      subst hdel
      subst hd
      have e : sl = #[k0, k1, k2, k3, some (.builtin n), k5] := by
        have := congrArg List.toArray hs
        simpa using this
      subst e
      exact ⟨nm, qn, N, bs, bm, sn, sub, ab, col, dd, k0, k1, k2, k3, k5, ho, refsB_eq _ hr⟩
    · cases q
  · cases q
end Wd

set_option Elab.async false
set_option linter.all false
set_option maxRecDepth 100000
set_option maxHeartbeats 4000000
namespace Wd
open PySem PySem.Spec PyProof.Rows L2 WdM
/-! ### displays of values that are all of one sort -/
section
variable {X : Cx} {R : L2.St → Hp → Prop} {Bd : Hp → V → Prop} {e : Expr} {es : List Expr} {n : Nat}
/-- where R holds, a value that is Bd -/
def tB (R : L2.St → Hp → Prop) (Bd : Hp → V → Prop) : TE := fun σ H Q => R σ H ∧ ∀ v H', Same H H' → Bd H' v → Q v H'
def taB (R : L2.St → Hp → Prop) (Bd : Hp → V → Prop) (n : Nat) : TA := fun σ H Q => R σ H ∧ ∀ xs H', Same H H' → xs.length = n → (∀ x ∈ xs, Bd H' x) → Q xs H'
def tlB (R : L2.St → Hp → Prop) (Bd : Hp → V → Prop) (n : Nat) : TE := fun σ H Q => R σ H ∧ ∀ p xs H', Same H H' → H' p = none → xs.length = n → (∀ x ∈ xs, Bd H' x) → Q (.ref p) (upd H' p (.lst xs))
/-- kept where the heap grows -/
structure Kp (R : L2.St → Hp → Prop) (Bd : Hp → V → Prop) : Prop where
  r : ∀ σ H H', Same H H' → R σ H → R σ H'
  b : ∀ H H' v, Same H H' → Bd H v → Bd H' v
theorem paB_nil : PA X [] (taB R Bd 0) := PA.wk pa_nil fun σ H Q ⟨_, q⟩ => q [] H (Same.refl H) rfl (fun x hx => nomatch hx)
theorem paB_cons (k : Kp R Bd) (h : PE X e (tB R Bd)) (t : PA X es (taB R Bd n)) (hs : starEach (e :: es) X.env = (false, eval e X.env) :: starEach es X.env := by rfl) : PA X (e :: es) (taB R Bd (n + 1)) :=
  PA.wk (pa_cons h t hs) fun σ H Q ⟨r, q⟩ => ⟨r, fun v H1 s1 b1 => ⟨k.r _ _ _ s1 r, fun xs H2 s2 l2 b2 => q (v :: xs) H2 (s1.trans s2) (by rw [List.length_cons, l2]) (fun x hx => by
    rcases List.mem_cons.mp hx with rfl | hx
    · exact k.b _ _ _ s2 b1
    · exact b2 x hx)⟩⟩
theorem peB_lst {pos : Pos} (t : PA X es (taB R Bd n)) (hn : n ≤ sizeLine) : PE X (.List es pos) (tlB R Bd n) :=
  PE.wk (pe_lst t) fun σ H Q ⟨r, q⟩ => ⟨r, fun xs H1 s1 l1 b1 => ⟨by rw [l1]; exact hn, fun p np => q p xs _ s1 np l1 b1⟩⟩
end
def RT : L2.St → Hp → Prop := fun _ _ => True
section
variable {K : PySem.W.Frag} {X : Cx}
/-- a thing whose texts aren't too long -/
def ThS (K : PySem.W.Frag) (H : Hp) (v : V) : Prop := ∃ d, Th K H v d ∧ Short d
theorem kpS : Kp RT (ThS K) := ⟨fun _ _ _ _ _ => trivial, fun _ _ _ e ⟨d, th, n⟩ => ⟨d, th.same e, n⟩⟩
theorem short_of {d : PyData} (h : strB d = false) : Short d := fun z e => by rw [e] at h; cases h
/-- texts of at most b signs -/
def StrL (b : Nat) (v : V) : Prop := ∃ z : Str, v = .str z ∧ z.length ≤ b
theorem StrL.th {b : Nat} {v : V} {H : Hp} (h : StrL b v) (hb : b ≤ 1000) : ThS K H v := by
  obtain ⟨z, rfl, l⟩ := h
  exact ⟨.str z, .dp (.str z), fun y e => by cases e; omega⟩
theorem at_of {P : V → Prop} {xs : List V} {d : Int} (h : ∀ x ∈ xs, P x) (d0 : 0 ≤ d) (d1 : d < xs.length) : ∃ v, atI xs d = some v ∧ P v := by
  obtain ⟨n, rfl⟩ := Int.eq_ofNat_of_zero_le d0
  have hn : n < xs.length := by omega
  exact ⟨xs[n], atI_nat (List.getElem?_eq_getElem hn), h _ (List.getElem_mem hn)⟩
end
end Wd

set_option Elab.async false
set_option linter.all false
set_option maxRecDepth 100000
set_option maxHeartbeats 4000000
namespace Wd
open PySem PySem.Spec PyProof.Rows L2 WdM
/-- what is never reached, by a name -/
def tsNo : TS := fun _ _ _ => False
theorem pss_noS {X : Cx} {st : List Stmt} : PSs X st tsNo := ⟨fun _ _ _ _ _ _ h => h.elim⟩
/-! ### data with empty dicts in it; its lists and dicts aren't at the places S -/
mutual
inductive Dz (S : List Addr) (K : PySem.W.Frag) (H : Hp) : V → PyData → Prop
  | non : Dz S K H .non .none
  | bl (b : Bool) : Dz S K H (.bl b) (.bool b)
  | int (i : Int) : Dz S K H (.int i) (.int i)
  | str (x : Str) : Dz S K H (.str x) (.str x)
  | lst {a : Addr} {xs : List V} {ds : List PyData} (n : a ∉ S) (h : SqL K H a xs) (t : DzAll S K H xs ds) : Dz S K H (.ref a) (.list ds)
  | tup {a : Addr} {xs : List V} {ds : List PyData} (h : SqT K H a xs) (t : DzAll S K H xs ds) : Dz S K H (.ref a) (.tuple ds)
  | nod {a : Addr} (n : a ∉ S) (h : H a = some (.dK [])) : Dz S K H (.ref a) (.dict [])
inductive DzAll (S : List Addr) (K : PySem.W.Frag) (H : Hp) : List V → List PyData → Prop
  | nil : DzAll S K H [] []
  | cons {v : V} {vs : List V} {d : PyData} {ds : List PyData} (h : Dz S K H v d) (t : DzAll S K H vs ds) : DzAll S K H (v :: vs) (d :: ds)
end
section
variable {S : List Addr} {K : PySem.W.Frag}
structure Stay (S : List Addr) (K : PySem.W.Frag) (H H' : Hp) : Prop where
  l : ∀ a xs, a ∉ S → SqL K H a xs → SqL K H' a xs
  t : ∀ a xs, SqT K H a xs → SqT K H' a xs
  d : ∀ a, a ∉ S → H a = some (.dK []) → H' a = some (.dK [])
mutual
theorem dz_stay {H H' : Hp} (e : Stay S K H H') : ∀ {v : V} {d : PyData}, Dz S K H v d → Dz S K H' v d
  | _, _, .non => .non
  | _, _, .bl b => .bl b
  | _, _, .int i => .int i
  | _, _, .str x => .str x
  | _, _, .lst n h a => .lst n (e.l _ _ n h) (dzAll_stay e a)
  | _, _, .tup h a => .tup (e.t _ _ h) (dzAll_stay e a)
  | _, _, .nod n h => .nod n (e.d _ n h)
theorem dzAll_stay {H H' : Hp} (e : Stay S K H H') : ∀ {vs : List V} {ds : List PyData}, DzAll S K H vs ds → DzAll S K H' vs ds
  | _, _, .nil => .nil
  | _, _, .cons h t => .cons (dz_stay e h) (dzAll_stay e t)
end
theorem stay_same {H H' : Hp} (e : Same H H') : Stay S K H H' := ⟨fun a xs _ h => e.seq h, fun a xs h => (tk_same e).sq h, fun a _ h => e _ _ h⟩
theorem stay_bt {H H' : Hp} (e : Bt S H H') (hl : ∀ a ∈ S, ∃ zs, H a = some (.lst zs)) : Stay S K H H' := ⟨fun a xs n h => by
  rcases h with (h | ⟨o, h⟩) | h
  · exact .inl (.inl (e _ _ n h))
  · exact .inl (.inr ⟨o, e _ _ n h⟩)
  · exact .inr h, fun a xs h => (e.tk hl).sq h, fun a n h => e _ _ n h⟩
theorem Dz.same {H H' : Hp} {v : V} {d : PyData} (h : Dz S K H v d) (e : Same H H') : Dz S K H' v d := dz_stay (stay_same e) h
theorem DzAll.same {H H' : Hp} {v : List V} {d : List PyData} (h : DzAll S K H v d) (e : Same H H') : DzAll S K H' v d := dzAll_stay (stay_same e) h
mutual
theorem Dz.less {H : Hp} : ∀ {v : V} {d : PyData}, Dz S K H v d → Dz [] K H v d
  | _, _, .non => .non
  | _, _, .bl b => .bl b
  | _, _, .int i => .int i
  | _, _, .str x => .str x
  | _, _, .lst n h a => .lst (by simp) h a.less
  | _, _, .tup h a => .tup h a.less
  | _, _, .nod n h => .nod (by simp) h
theorem DzAll.less {H : Hp} : ∀ {vs : List V} {ds : List PyData}, DzAll S K H vs ds → DzAll [] K H vs ds
  | _, _, .nil => .nil
  | _, _, .cons h t => .cons h.less t.less
end
theorem Dz.ty {H : Hp} {v : V} {d : PyData} (h : Dz S K H v d) : TyX K H v (.type (tyN d)) := by
  cases h with
  | non => exact .base .non
  | bl b => exact .base (.bl b)
  | int i => exact .base (.int i)
  | str x => exact .base (.str x)
  | lst _ h _ =>
    rcases h with (h | ⟨o, h⟩) | ⟨o, its, n, e, c, _⟩
    · exact .base (.lst h)
    · exact .base (.frz h)
    · exact .kList e c
  | tup h _ => exact tyT h
  | nod _ h => exact .base (.dK h)
theorem dz_str {H : Hp} {v : V} {z : Str} (h : Dz S K H v (.str z)) : v = .str z := by cases h; rfl
theorem dz_tup {H : Hp} {v : V} {ds : List PyData} (h : Dz S K H v (.tuple ds)) : ∃ a xs, v = .ref a ∧ SqT K H a xs ∧ DzAll S K H xs ds := by
  cases h with
  | tup h t => exact ⟨_, _, rfl, h, t⟩
theorem DzAll.len {H : Hp} : ∀ {xs : List V} {ds : List PyData}, DzAll S K H xs ds → xs.length = ds.length
  | _, _, .nil => rfl
  | _, _, .cons _ t => congrArg (· + 1) t.len
theorem DzAll.get {H : Hp} : ∀ {xs : List V} {ds : List PyData} {i : Nat} {x : V}, DzAll S K H xs ds → xs[i]? = some x → ∃ d, ds[i]? = some d ∧ Dz S K H x d
  | _, _, 0, _, .cons h t, e => by cases e; exact ⟨_, rfl, h⟩
  | _, _, i + 1, _, .cons h t, e => t.get (i := i) e
  | _, _, 0, _, .nil, e => by cases e
  | _, _, i + 1, _, .nil, e => by cases e
theorem DzAll.app {H : Hp} : ∀ {xs ys : List V} {ds es : List PyData}, DzAll S K H xs ds → DzAll S K H ys es → DzAll S K H (xs ++ ys) (ds ++ es)
  | _, _, _, _, .nil, q => q
  | _, _, _, _, .cons h t, q => .cons h (t.app q)
theorem DzAll.take {H : Hp} : ∀ {xs : List V} {ds : List PyData} (n : Nat), DzAll S K H xs ds → DzAll S K H (xs.take n) (ds.take n)
  | _, _, 0, _ => by simp only [List.take_zero]; exact .nil
  | _, _, n + 1, .nil => .nil
  | _, _, n + 1, .cons h t => .cons h (t.take n)
theorem DzAll.drop {H : Hp} : ∀ {xs : List V} {ds : List PyData} (n : Nat), DzAll S K H xs ds → DzAll S K H (xs.drop n) (ds.drop n)
  | _, _, 0, h => h
  | _, _, n + 1, .nil => .nil
  | _, _, n + 1, .cons h t => t.drop n
theorem DzAll.rev {H : Hp} : ∀ {xs : List V} {ds : List PyData}, DzAll S K H xs ds → DzAll S K H xs.reverse ds.reverse
  | _, _, .nil => .nil
  | _, _, .cons h t => by simp only [List.reverse_cons]; exact t.rev.app (.cons h .nil)
theorem DzAll.two {H : Hp} {xs : List V} {ds : List PyData} (h : DzAll S K H xs ds) (l : xs.length = 2) : ∃ x1 x2 d1 d2, xs = [x1, x2] ∧ ds = [d1, d2] ∧ Dz S K H x1 d1 ∧ Dz S K H x2 d2 := by
  cases h with
  | nil => cases l
  | cons h1 t =>
    cases t with
    | nil => cases l
    | cons h2 t =>
      cases t with
      | nil => exact ⟨_, _, _, _, rfl, rfl, h1, h2⟩
      | cons _ _ => simp only [List.length_cons] at l; omega
end
/-- what is asked of a thing at the door -/
structure Is (K : PySem.W.Frag) (H : Hp) (v : V) (d : PyData) : Prop where
  ty0 : ∀ H', Same H H' → TyX K H' v (.type (tyN d))
  str : ∀ z, d = .str z → v = .str z
theorem Is.ty {K : PySem.W.Frag} {H : Hp} {v : V} {d : PyData} (h : Is K H v d) : TyX K H v (.type (tyN d)) := h.ty0 H (Same.refl H)
theorem Dz.is {S : List Addr} {K : PySem.W.Frag} {H : Hp} {v : V} {d : PyData} (h : Dz S K H v d) : Is K H v d := ⟨fun _ e => (h.same e).ty, fun z e => by subst e; exact dz_str h⟩
theorem Th.is {K : PySem.W.Frag} {H : Hp} {v : V} {d : PyData} (h : Th K H v d) : Is K H v d := ⟨fun _ e => (h.same e).ty, fun z e => by subst e; exact th_str h⟩
/-! ### data that is small: depth n, b: lists, no dicts; else dicts, no lists -/
def okS (x : Str) : Prop := ∀ c ∈ x.cps.toList, c < 1114112
def Fine (b : Bool) : Nat → PyData → Prop
  | _, .none => True
  | _, .bool _ => True
  | _, .int i => -1 ≤ i ∧ i ≤ 1
  | _, .str x => okS x ∧ x.length ≤ 30
  | 0, .list _ => False
  | 0, .tuple _ => False
  | 0, .dict _ => False
  | n + 1, .list ds => b = true ∧ ds.length ≤ 8 ∧ ∀ d ∈ ds, Fine b n d
  | n + 1, .tuple ds => ds.length ≤ 8 ∧ ∀ d ∈ ds, Fine b n d
  | _ + 1, .dict [] => b = false
  | _ + 1, .dict (_ :: _) => False
theorem Fine.up {b : Bool} : ∀ {n : Nat} {d : PyData}, Fine b n d → Fine b (n + 1) d
  | n, .none, _ => trivial
  | n, .bool _, _ => trivial
  | n, .int _, h => by cases n <;> exact h
  | n, .str _, h => by cases n <;> exact h
  | n + 1, .list ds, h => ⟨h.1, h.2.1, fun d hd => (h.2.2 d hd).up⟩
  | n + 1, .tuple ds, h => ⟨h.1, fun d hd => (h.2 d hd).up⟩
  | n + 1, .dict [], h => h
  | n + 1, .dict (_ :: _), h => h.elim
theorem Fine.mono {b : Bool} {n : Nat} {d : PyData} (h : Fine b n d) : ∀ {m : Nat}, n ≤ m → Fine b m d := by
  intro m hm
  induction hm with
  | refl => exact h
  | step _ ih => exact ih.up
theorem Fine.short {b : Bool} {n : Nat} {d : PyData} (h : Fine b n d) : Short d := fun z e => by
  subst e
  have h : okS z ∧ z.length ≤ 30 := by cases n <;> exact h
  omega
theorem Fine.mem {b : Bool} {n : Nat} {ds : List PyData} {d : PyData} (h : Fine b n (.tuple ds)) (m : d ∈ ds) : ∃ n, Fine b n d := by
  cases n with
  | zero => exact h.elim
  | succ n => exact ⟨n, h.2 d m⟩
/-- small, in either way -/
def Fin (d : PyData) : Prop := ∃ b n, Fine b n d
theorem Fin.short {d : PyData} (h : Fin d) : Short d := h.elim fun _ h => h.elim fun _ h => h.short
theorem Fin.mem {ds : List PyData} {d : PyData} (h : Fin (.tuple ds)) (m : d ∈ ds) : Fin d := by
  obtain ⟨b, n, h⟩ := h
  exact ⟨b, h.mem m⟩
theorem Fin.len {ds : List PyData} (h : Fin (.tuple ds)) : ds.length ≤ 8 := by
  obtain ⟨b, n, h⟩ := h
  cases n with
  | zero => exact h.elim
  | succ n => exact h.1
def LL : Nat → Nat
  | 0 => 302
  | n + 1 => 8 * (LL n + 2) + 3
theorem LL_up (n : Nat) : LL n ≤ LL (n + 1) := by
  show LL n ≤ 8 * (LL n + 2) + 3
  omega
theorem piled_le {B : Nat} : ∀ {ts : List Str}, (∀ t ∈ ts, t.length ≤ B) → piled ts ≤ ts.length * (B + 2)
  | [], _ => by simp [piled]
  | t :: ts, h => by
    rw [piled_cons, List.length_cons, Nat.succ_mul]
    have h1 := h t List.mem_cons_self
    have h2 := piled_le (ts := ts) fun x hx => h x (List.mem_cons_of_mem _ hx)
    omega
theorem from_le : ∀ (ts : List Str) (k : Nat) (acc : Str), (textFrom k acc ts).length ≤ acc.length + piled ts
  | [], k, acc => by simp [textFrom, piled]
  | t :: ts, k, acc => by
    have ih := from_le ts (k + 1) (acc ++ (if k > 0 then ", " else "" : String) ++ t)
    rw [piled_cons]
    have e : (acc ++ (if k > 0 then ", " else "" : String) ++ t).length ≤ acc.length + (2 + t.length) := by
      rw [strLen_append, strLen_append]
      have : (((if k > 0 then ", " else "" : String) : Str)).length ≤ 2 := by
        split <;> decide
      omega
    show (textFrom (k + 1) _ ts).length ≤ _
    omega
theorem list_le {B : Nat} {ts : List Str} (h : ∀ t ∈ ts, t.length ≤ B) (l : ts.length ≤ 8) : (listText ts).length ≤ 8 * (B + 2) + 3 := by
  unfold listText
  rw [strLen_append]
  have a := from_le ts 0 "["
  have b := piled_le h
  have c : ts.length * (B + 2) ≤ 8 * (B + 2) := Nat.mul_le_mul_right _ l
  have d : ("[" : Str).length = 1 := by decide
  have e : ("]" : Str).length = 1 := by decide
  omega
theorem tuple_le {B : Nat} {ts : List Str} (h : ∀ t ∈ ts, t.length ≤ B) (l : ts.length ≤ 8) : (tupleText ts).length ≤ 8 * (B + 2) + 3 := by
  unfold tupleText
  rw [strLen_append, strLen_append]
  have b := piled_le h
  have c : ts.length * (B + 2) ≤ 8 * (B + 2) := Nat.mul_le_mul_right _ l
  have d : ("(" : Str).length = 1 := by decide
  have e : (((if ts.length == 1 then ",)" else ")" : String) : Str)).length ≤ 2 := by split <;> decide
  by_cases z : ts = []
  · subst z
    have : (Str.join ", " []).length = 0 := by decide
    omega
  · have := join_length_add ts z
    omega
theorem shownAll_eq : ∀ ds : List PyData, PyData.shownAll ds = ds.map PyData.shown
  | [] => by simp [PyData.shownAll]
  | d :: ds => by simp only [PyData.shownAll, List.map_cons, shownAll_eq ds]
theorem showableAll_eq : ∀ {ds : List PyData}, (∀ d ∈ ds, PyData.showable d = true) → PyData.showableAll ds = true
  | [], _ => by simp [PyData.showableAll]
  | d :: ds, h => by
    simp only [PyData.showableAll, h d List.mem_cons_self, Bool.true_and]
    exact showableAll_eq fun x hx => h x (List.mem_cons_of_mem _ hx)
theorem depthAll_le {n : Nat} : ∀ {ds : List PyData}, (∀ d ∈ ds, PyData.depth d ≤ n) → PyData.depthAll ds ≤ n
  | [], _ => by simp [PyData.depthAll]
  | d :: ds, h => by
    simp only [PyData.depthAll]
    exact Nat.max_le.mpr ⟨h d List.mem_cons_self, depthAll_le fun x hx => h x (List.mem_cons_of_mem _ hx)⟩
theorem hasDictAll_no : ∀ {ds : List PyData}, (∀ d ∈ ds, PyData.hasDict d = false) → PyData.hasDictAll ds = false
  | [], _ => by simp [PyData.hasDictAll]
  | d :: ds, h => by
    simp only [PyData.hasDictAll, h d List.mem_cons_self, Bool.false_or]
    exact hasDictAll_no fun x hx => h x (List.mem_cons_of_mem _ hx)
theorem Fine.shown {b : Bool} : ∀ {n : Nat} {d : PyData}, Fine b n d → (PyData.shown d).length ≤ LL n ∧ PyData.showable d = true ∧ PyData.depth d ≤ n ∧ (b = true → PyData.hasDict d = false) := by
  have l0 : ∀ n, 302 ≤ LL n := fun n => by
    induction n with
    | zero => exact Nat.le_refl _
    | succ n ih => exact Nat.le_trans ih (LL_up n)
  intro n
  induction n with
  | zero =>
    intro d h
    cases d with
    | none => exact ⟨by simp only [PyData.shown]; decide, by simp [PyData.showable], by simp [PyData.depth], fun _ => by simp [PyData.hasDict]⟩
    | bool c => exact ⟨by simp only [PyData.shown]; cases c <;> decide, by simp [PyData.showable], by simp [PyData.depth], fun _ => by simp [PyData.hasDict]⟩
    | int i =>
      have h : -1 ≤ i ∧ i ≤ 1 := h
      have : i = -1 ∨ i = 0 ∨ i = 1 := by omega
      rcases this with rfl | rfl | rfl <;> exact ⟨by simp only [PyData.shown]; decide, by simp only [PyData.showable]; decide, by simp [PyData.depth], fun _ => by simp [PyData.hasDict]⟩
    | str x =>
      have h : okS x ∧ x.length ≤ 30 := h
      refine ⟨?_, by simp [PyData.showable], by simp [PyData.depth], fun _ => by simp [PyData.hasDict]⟩
      simp only [PyData.shown]
      have := StrLaws.reprText_len x (fun c hc => Nat.lt_of_lt_of_le (h.1 c hc) (by decide))
      show _ ≤ 302
      omega
    | list ds => exact h.elim
    | tuple ds => exact h.elim
    | dict ds => exact h.elim
  | succ n ih =>
    intro d h
    cases d with
    | none => exact ⟨Nat.le_trans (by simp only [PyData.shown]; decide) (l0 _), by simp [PyData.showable], by simp [PyData.depth], fun _ => by simp [PyData.hasDict]⟩
    | bool c => exact ⟨Nat.le_trans (by simp only [PyData.shown]; cases c <;> decide) (l0 _), by simp [PyData.showable], by simp [PyData.depth], fun _ => by simp [PyData.hasDict]⟩
    | int i =>
      have h : -1 ≤ i ∧ i ≤ 1 := h
      have : i = -1 ∨ i = 0 ∨ i = 1 := by omega
      rcases this with rfl | rfl | rfl <;> exact ⟨Nat.le_trans (by simp only [PyData.shown]; decide) (l0 _), by simp only [PyData.showable]; decide, by simp [PyData.depth], fun _ => by simp [PyData.hasDict]⟩
    | str x =>
      have h : okS x ∧ x.length ≤ 30 := h
      refine ⟨?_, by simp [PyData.showable], by simp [PyData.depth], fun _ => by simp [PyData.hasDict]⟩
      simp only [PyData.shown]
      have := StrLaws.reprText_len x (fun c hc => Nat.lt_of_lt_of_le (h.1 c hc) (by decide))
      have := l0 (n + 1)
      omega
    | list ds =>
      have h : b = true ∧ ds.length ≤ 8 ∧ ∀ d ∈ ds, Fine b n d := h
      refine ⟨?_, ?_, ?_, fun hb => ?_⟩
      · simp only [PyData.shown, shownAll_eq]
        exact list_le (fun t ht => by obtain ⟨d, hd, rfl⟩ := List.mem_map.mp ht; exact (ih (h.2.2 d hd)).1) (by rw [List.length_map]; exact h.2.1)
      · simp only [PyData.showable]
        exact showableAll_eq fun d hd => (ih (h.2.2 d hd)).2.1
      · simp only [PyData.depth]
        have := depthAll_le fun d hd => (ih (h.2.2 d hd)).2.2.1
        omega
      · simp only [PyData.hasDict]
        exact hasDictAll_no fun d hd => (ih (h.2.2 d hd)).2.2.2 hb
    | tuple ds =>
      have h : ds.length ≤ 8 ∧ ∀ d ∈ ds, Fine b n d := h
      refine ⟨?_, ?_, ?_, fun hb => ?_⟩
      · simp only [PyData.shown, shownAll_eq]
        exact tuple_le (fun t ht => by obtain ⟨d, hd, rfl⟩ := List.mem_map.mp ht; exact (ih (h.2 d hd)).1) (by rw [List.length_map]; exact h.1)
      · simp only [PyData.showable]
        exact showableAll_eq fun d hd => (ih (h.2 d hd)).2.1
      · simp only [PyData.depth]
        have := depthAll_le fun d hd => (ih (h.2 d hd)).2.2.1
        omega
      · simp only [PyData.hasDict]
        exact hasDictAll_no fun d hd => (ih (h.2 d hd)).2.2.2 hb
    | dict kvs =>
      cases kvs with
      | nil =>
        have h : b = false := h
        refine ⟨Nat.le_trans ?_ (l0 _), by simp [PyData.showable, PyData.showableKv], by simp [PyData.depth, PyData.depthKv], fun hb => by rw [h] at hb; cases hb⟩
        simp only [PyData.shown, PyData.shownKv]
        decide
      | cons kv r => exact h.elim
theorem LL5 : LL 5 ≤ sizeLine := by decide
/-! ### such data in the machine's heap -/
section
variable {S : List Addr} {X : Cx} {pins : List (Addr × Obj)} {σ : L2.St} {H : Hp} {s : Shared}
mutual
theorem Dz.reads (I : Inv X pins σ H s) : ∀ (d : PyData) (v : V) (u : Value), Dz S X.K H v d → RelV v u → ∃ as, Reads s.heap u d as ∧ ∀ n, Fine false n d → sysModules ∉ as
  | .none, _, _, h, r => by
    cases h; cases r
    exact ⟨_, .none, fun _ _ => by simp⟩
  | .bool b, _, _, h, r => by
    cases h; cases r
    exact ⟨_, .bool b, fun _ _ => by simp⟩
  | .int i, _, _, h, r => by
    cases h
    obtain ⟨t, rfl⟩ := r
    exact ⟨_, .int i t, fun _ _ => by simp⟩
  | .str x, _, _, h, r => by
    cases h
    obtain ⟨t, rfl⟩ := r
    exact ⟨_, .str x t, fun _ _ => by simp⟩
  | .list ds, _, _, h, r => by
    cases h with
    | lst _ hs ha =>
      cases r
      obtain ⟨its, rv, ⟨o, n, ho, hc, _, hd⟩, _⟩ := I.list hs
      obtain ⟨as, hr, _⟩ := Dz.readsAll I ds _ its ha rv
      refine ⟨_, .list ho hc hd hr, fun n f => ?_⟩
      cases n with
      | zero => exact f.elim
      | succ n => exact nomatch f.1
  | .tuple ds, _, _, h, r => by
    cases h with
    | tup hs ha =>
      cases r
      obtain ⟨its, rv, ⟨o, ho, hc, n, hd⟩, _⟩ := I.tuple hs
      obtain ⟨as, hr, no⟩ := Dz.readsAll I ds _ its ha rv
      refine ⟨_, .tuple ho hc hd hr, fun n f => ?_⟩
      cases n with
      | zero => exact f.elim
      | succ n => exact no n f.2
  | .dict kvs, _, _, h, r => by
    cases h with
    | nod _ h =>
      cases r
      obtain ⟨q, n⟩ := reads_nod I.hok h
      exact ⟨_, q, fun _ _ => n⟩
theorem Dz.readsAll (I : Inv X pins σ H s) : ∀ (ds : List PyData) (vs : List V) (us : List Value), DzAll S X.K H vs ds → Vals vs us → ∃ as, ReadsAll s.heap us ds as ∧ ∀ n, (∀ d ∈ ds, Fine false n d) → sysModules ∉ as
  | [], _, _, h, r => by
    cases h; cases r
    exact ⟨_, .nil, fun _ _ => by simp⟩
  | d :: ds, _, _, h, r => by
    cases h with
    | cons h1 h2 =>
      cases r with
      | cons r1 r2 =>
        obtain ⟨as, q1, n1⟩ := Dz.reads I d _ _ h1 r1
        obtain ⟨bs, q2, n2⟩ := Dz.readsAll I ds _ _ h2 r2
        exact ⟨_, .cons q1 q2, fun n f m => (List.mem_append.mp m).elim (n1 n (f d List.mem_cons_self)) (n2 n fun x hx => f x (List.mem_cons_of_mem _ hx))⟩
end
end
def rReprZ (K : PySem.W.Frag) : List V → Hp → VK → Prop := fun xs H Q => ∃ x d b, xs = [x] ∧ Dz [] K H x d ∧ Fine b 5 d ∧ Q (.str d.shown) H
theorem call_reprZ {X : Cx} (gs : X.A.guards = some []) (hu : X.A.units + 64 < cLine) : CallR X (.builtin "repr") (rReprZ X.K) := by
  rintro pins s σ H _ us Q I rel ⟨x, d, b, rfl, dz, fine, want⟩
  obtain ⟨len, sh, dep, nd⟩ := fine.shown
  have len : d.shown.length ≤ sizeLine := Nat.le_trans len LL5
  cases rel with
  | cons ru rn =>
    cases rn
    rename_i u
    obtain ⟨as, r, sm⟩ := Dz.reads I d _ u dz ru
    have sm : d.hasDict = true → sysModules ∉ as := fun h => by
      cases b with
      | true => rw [nd rfl] at h; cases h
      | false => exact sm 5 fine
    have boxed : ∀ a : Addr, Reads s.heap (.ref a) d as → wpAny (model X.prog X.w) X.A (call (.builtin "repr") [.ref a]) (EP X pins σ Q) X.xe s := fun a r =>
      repr_of_reads' r sh sm gs (by omega) (fun _ _ e => e) (fun h' _ tk same => ⟨.str d.shown, H, I.kept (t' := tk) same, ⟨_, rfl⟩, want⟩) len
    have fin : ∀ {z : Str} {t k : Tok}, z = d.shown → EP X pins σ Q (.str z t) { s with toks := k } := fun {z t k} e => ⟨.str z, H, I.tok k, ⟨_, rfl⟩, e ▸ want⟩
    cases dz with
    | non => cases ru; exact PySem.P.repr_of_none (fin (by simp [PyData.shown]))
    | bl b => cases ru; exact PySem.P.repr_of_bool (fin (by simp [PyData.shown]))
    | int i =>
      obtain ⟨t, rfl⟩ := ru
      exact PySem.P.repr_of_int (by simpa [PyData.showable] using sh) (fin (by simp [PyData.shown]))
    | str z =>
      obtain ⟨t, rfl⟩ := ru
      exact PySem.P.repr_of_str (fin (by simp [PyData.shown])) (by simpa [PyData.shown] using len)
    | lst _ _ _ => cases ru; exact boxed _ r
    | tup _ _ => cases ru; exact boxed _ r
    | nod _ _ => cases ru; exact boxed _ r
end Wd

set_option Elab.async false
set_option linter.all false
set_option maxRecDepth 100000
set_option maxHeartbeats 4000000
namespace Wd
open PySem PySem.Spec PyProof.Rows L2 WdM
/-! ### clean data: tuples of small letters -/
def okL (x : Str) : Prop := ∀ c ∈ x.cps.toList, letB c = true
def Cl : Nat → PyData → Prop
  | _, .none => False
  | _, .bool _ => False
  | _, .int _ => False
  | _, .str x => okL x ∧ x.length ≤ 9
  | _, .list _ => False
  | 0, .tuple _ => False
  | n + 1, .tuple ds => ds.length ≤ 7 ∧ ∀ d ∈ ds, Cl n d
  | _, .dict _ => False
theorem let_lt : ∀ c ∈ lettersS.cps.toList, c < 128 := by decide +kernel
theorem okL.ok {x : Str} (h : okL x) : okS x := fun c hc => Nat.lt_trans (let_lt c (of_decide_eq_true (h c hc))) (by decide)
theorem Cl.str {n : Nat} {x : Str} (h : Cl n (.str x)) : okL x ∧ x.length ≤ 9 := by cases n <;> exact h
theorem Cl.of_str {n : Nat} {x : Str} (h : okL x ∧ x.length ≤ 9) : Cl n (.str x) := by cases n <;> exact h
theorem Cl.fine {b : Bool} : ∀ {n : Nat} {d : PyData}, Cl n d → Fine b n d
  | n, .none, h => by cases n <;> exact h.elim
  | n, .bool _, h => by cases n <;> exact h.elim
  | n, .int _, h => by cases n <;> exact h.elim
  | n, .str x, h => by
    have := h.str
    have : okS x ∧ x.length ≤ 30 := ⟨this.1.ok, by omega⟩
    cases n <;> exact this
  | n, .list _, h => by cases n <;> exact h.elim
  | n, .dict _, h => by cases n <;> exact h.elim
  | 0, .tuple _, h => h.elim
  | n + 1, .tuple ds, h => ⟨by have := h.1; omega, fun d hd => (h.2 d hd).fine⟩
/-- a clean value -/
def Cz (K : PySem.W.Frag) (n : Nat) (H : Hp) (v : V) : Prop := ∃ d, Dz [] K H v d ∧ Cl n d
section
variable {K : PySem.W.Frag} {S S' : List Addr}
theorem cl_tk {H H' : Hp} (e : Tk H H') : ∀ {n : Nat} {v : V} {d : PyData}, Cl n d → Dz S K H v d → Dz S' K H' v d := by
  intro n
  induction n with
  | zero =>
    intro v d c h
    cases h with
    | str x => exact .str x
    | _ => exact c.elim
  | succ n ih =>
    intro v d c h
    have all : ∀ {xs : List V} {ds : List PyData}, (∀ d ∈ ds, Cl n d) → DzAll S K H xs ds → DzAll S' K H' xs ds := by
      intro xs
      induction xs with
      | nil =>
        intro ds _ h
        cases h
        exact .nil
      | cons x xs ih2 =>
        intro ds hc h
        cases h with
        | cons h t => exact .cons (ih (hc _ List.mem_cons_self) h) (ih2 (fun d hd => hc d (List.mem_cons_of_mem _ hd)) t)
    cases h with
    | str x => exact .str x
    | tup h t => exact .tup (e.sq h) (all c.2 t)
    | _ => exact c.elim
theorem Cz.tk {H H' : Hp} {n : Nat} {v : V} (h : Cz K n H v) (e : Tk H H') : Cz K n H' v := by
  obtain ⟨d, h, c⟩ := h
  exact ⟨d, cl_tk e c h, c⟩
/-- a value of small data: lists where b, else dicts -/
def Bz (K : PySem.W.Frag) (S : List Addr) (b : Bool) (n : Nat) (H : Hp) (v : V) : Prop := ∃ d, Dz S K H v d ∧ Fine b n d
theorem Cz.bz {H : Hp} {n : Nat} {v : V} {b : Bool} (h : Cz K n H v) : Bz K S b n H v := by
  obtain ⟨d, h, c⟩ := h
  exact ⟨d, cl_tk (Tk.refl H) c h, c.fine⟩
theorem Bz.same {H H' : Hp} {n : Nat} {v : V} {b : Bool} (h : Bz K S b n H v) (e : Same H H') : Bz K S b n H' v := by
  obtain ⟨d, h, c⟩ := h
  exact ⟨d, h.same e, c⟩
theorem Bz.mono {H : Hp} {n m : Nat} {v : V} {b : Bool} (h : Bz K S b n H v) (l : n ≤ m) : Bz K S b m H v := by
  obtain ⟨d, h, c⟩ := h
  exact ⟨d, h, c.mono l⟩
theorem Bz.bt {H H' : Hp} {n : Nat} {v : V} {b : Bool} (h : Bz K S b n H v) (e : Bt S H H') (hl : ∀ a ∈ S, ∃ zs, H a = some (.lst zs)) : Bz K S b n H' v := by
  obtain ⟨d, h, c⟩ := h
  exact ⟨d, dz_stay (stay_bt e hl) h, c⟩
theorem Bz.less {H : Hp} {n : Nat} {v : V} {b : Bool} (h : Bz K S b n H v) : Bz K [] b n H v := by
  obtain ⟨d, h, c⟩ := h
  exact ⟨d, h.less, c⟩
theorem bz_all {H : Hp} {n : Nat} {b : Bool} : ∀ {xs : List V}, (∀ x ∈ xs, Bz K S b n H x) → ∃ ds, DzAll S K H xs ds ∧ ∀ d ∈ ds, Fine b n d
  | [], _ => ⟨[], .nil, fun _ h => nomatch h⟩
  | x :: xs, h => by
    obtain ⟨d, h1, f1⟩ := h x List.mem_cons_self
    obtain ⟨ds, h2, f2⟩ := bz_all (xs := xs) fun y hy => h y (List.mem_cons_of_mem _ hy)
    exact ⟨d :: ds, .cons h1 h2, fun e he => (List.mem_cons.mp he).elim (fun z => z ▸ f1) (f2 e)⟩
theorem bz_tup {H : Hp} {n : Nat} {b : Bool} {a : Addr} {xs : List V} (h : SqT K H a xs) (l : xs.length ≤ 8) (e : ∀ x ∈ xs, Bz K S b n H x) : Bz K S b (n + 1) H (.ref a) := by
  obtain ⟨ds, h1, f1⟩ := bz_all e
  exact ⟨.tuple ds, .tup h h1, by rw [← h1.len]; exact l, f1⟩
theorem bz_lst {H : Hp} {n : Nat} {a : Addr} {xs : List V} (na : a ∉ S) (h : SqL K H a xs) (l : xs.length ≤ 8) (e : ∀ x ∈ xs, Bz K S true n H x) : Bz K S true (n + 1) H (.ref a) := by
  obtain ⟨ds, h1, f1⟩ := bz_all e
  exact ⟨.list ds, .lst na h h1, rfl, by rw [← h1.len]; exact l, f1⟩
theorem cz_all {H : Hp} {n : Nat} : ∀ {xs : List V}, (∀ x ∈ xs, Cz K n H x) → ∃ ds, DzAll [] K H xs ds ∧ ∀ d ∈ ds, Cl n d
  | [], _ => ⟨[], .nil, fun _ h => nomatch h⟩
  | x :: xs, h => by
    obtain ⟨d, h1, f1⟩ := h x List.mem_cons_self
    obtain ⟨ds, h2, f2⟩ := cz_all (xs := xs) fun y hy => h y (List.mem_cons_of_mem _ hy)
    exact ⟨d :: ds, .cons h1 h2, fun e he => (List.mem_cons.mp he).elim (fun z => z ▸ f1) (f2 e)⟩
theorem cz_tup {H : Hp} {n : Nat} {a : Addr} {xs : List V} (h : SqT K H a xs) (l : xs.length ≤ 7) (e : ∀ x ∈ xs, Cz K n H x) : Cz K (n + 1) H (.ref a) := by
  obtain ⟨ds, h1, f1⟩ := cz_all e
  exact ⟨.tuple ds, .tup h h1, by rw [← h1.len]; exact l, f1⟩
theorem cz_str {H : Hp} {n : Nat} {z : Str} (h : okL z ∧ z.length ≤ 9) : Cz K n H (.str z) := ⟨.str z, .str z, Cl.of_str h⟩
/-- a clean value is a text or a tuple of clean ones -/
theorem cz_cases {H : Hp} {n : Nat} {v : V} (h : Cz K n H v) : (∃ z, v = .str z ∧ okL z ∧ z.length ≤ 9) ∨ ∃ (m : Nat) (a : Addr) (xs : List V), n = m + 1 ∧ v = .ref a ∧ SqT K H a xs ∧ xs.length ≤ 7 ∧ ∀ x ∈ xs, Cz K m H x := by
  obtain ⟨d, h, c⟩ := h
  cases h with
  | str x => exact .inl ⟨x, rfl, c.str⟩
  | tup h t =>
    cases n with
    | zero => exact c.elim
    | succ m =>
      refine .inr ⟨m, _, _, rfl, rfl, h, by rw [t.len]; exact c.1, fun x hx => ?_⟩
      obtain ⟨i, hi⟩ := List.mem_iff_getElem?.mp hx
      obtain ⟨e, he, q⟩ := t.get hi
      exact ⟨e, q, c.2 e (List.mem_of_getElem? he)⟩
  | non => cases n <;> exact c.elim
  | bl => cases n <;> exact c.elim
  | int => cases n <;> exact c.elim
  | lst => cases n <;> exact c.elim
  | nod => cases n <;> exact c.elim
theorem cl_dp {H : Hp} : ∀ {n : Nat} {v : V} {d : PyData}, Cl n d → Dz S K H v d → Dp K H v d := by
  intro n
  induction n with
  | zero =>
    intro v d c h
    cases h with
    | str x => exact .str x
    | _ => exact c.elim
  | succ n ih =>
    intro v d c h
    have all : ∀ {xs : List V} {ds : List PyData}, (∀ d ∈ ds, Cl n d) → DzAll S K H xs ds → DpAll K H xs ds := by
      intro xs
      induction xs with
      | nil =>
        intro ds _ h
        cases h
        exact .nil
      | cons x xs ih2 =>
        intro ds hc h
        cases h with
        | cons h t => exact .cons (ih (hc _ List.mem_cons_self) h) (ih2 (fun d hd => hc d (List.mem_cons_of_mem _ hd)) t)
    cases h with
    | str x => exact .str x
    | tup h t => exact .tup h (all c.2 t)
    | _ => exact c.elim
end
theorem strOk_of {x : Str} (h : okS x) : PyData.strOk x = true := by
  unfold PyData.strOk
  rw [Array.all_eq_true']
  intro c hc
  exact decide_eq_true (h c (Array.mem_toList_iff.mpr hc))
theorem canLayAll_of : ∀ {ds : List PyData}, (∀ d ∈ ds, PyData.canLay0 d = true) → PyData.canLayAll0 ds = true
  | [], _ => by simp [PyData.canLayAll0]
  | d :: ds, h => by
    simp only [PyData.canLayAll0, h d List.mem_cons_self, Bool.true_and]
    exact canLayAll_of fun x hx => h x (List.mem_cons_of_mem _ hx)
theorem cl_lay : ∀ {n : Nat} {d : PyData}, Cl n d → PyData.canLay0 d = true := by
  intro n
  induction n with
  | zero =>
    intro d c
    cases d with
    | str x => simp only [PyData.canLay0]; exact strOk_of c.1.ok
    | _ => exact c.elim
  | succ n ih =>
    intro d c
    cases d with
    | str x => simp only [PyData.canLay0]; exact strOk_of c.1.ok
    | tuple ds => simp only [PyData.canLay0]; exact canLayAll_of fun d hd => ih (c.2 d hd)
    | _ => exact c.elim
theorem cl_shaped {n : Nat} {d : PyData} (c : Cl n d) (hn : n ≤ 64) : SeqAt.shaped d = true := by
  unfold SeqAt.shaped
  rw [cl_lay c, decide_eq_true (Nat.le_trans (c.fine (b := true)).shown.2.2.1 hn)]
  rfl
/-! ### great letters -/
theorem up_lt : ∀ c ∈ lettersS.cps.toList, ∀ e ∈ Unicode.upperOf c, e < 1114112 := by decide +kernel
theorem up_ok {x : Str} (h : okL x) : okS (Txt.upper x) := by
  intro e he
  have he : e ∈ (Txt.upper x).cps := Array.mem_toList_iff.mp he
  unfold Txt.upper placed at he
  obtain ⟨ys, hy, hm⟩ := Array.mem_flatten.mp he
  obtain ⟨i, hi, rfl⟩ := Array.mem_mapIdx.mp hy
  exact up_lt _ (of_decide_eq_true (h _ (Array.mem_toList_iff.mpr (Array.getElem_mem hi)))) e (by simpa using hm)
/-! ### cuts of a list -/
theorem cut_front {xs : List V} {k : Nat} (h : k ≤ xs.length) : cutV xs none (some (k : Int)) = xs.take k := by
  unfold cutV
  rw [HT.sIx_none, HT.sIx_nat, Nat.min_eq_left h]
  simp
theorem cut_back {xs : List V} {k : Nat} (h : k ≤ xs.length) : cutV xs (some (k : Int)) none = xs.drop k := by
  unfold cutV
  rw [HT.sIx_none, HT.sIx_nat, Nat.min_eq_left h]
  rw [List.take_of_length_le (by rw [List.length_drop]; omega)]
theorem cut_mem {xs : List V} {lo hi : Option Int} {x : V} (h : x ∈ cutV xs lo hi) : x ∈ xs := by
  unfold cutV at h
  exact List.mem_of_mem_drop (List.mem_of_mem_take h)
end Wd

set_option Elab.async false
set_option linter.all false
set_option maxRecDepth 100000
set_option maxHeartbeats 4000000
namespace Wd
open PySem PySem.Spec PyProof.Rows L2 WdM
/-! ### data whose texts and tuples aren't too long -/
def Sm : Nat → PyData → Prop
  | _, .none => True
  | _, .bool _ => True
  | _, .int _ => True
  | _, .str x => x.length ≤ 100
  | 0, .list _ => False
  | 0, .tuple _ => False
  | 0, .dict _ => False
  | n + 1, .list ds => ∀ d ∈ ds, Sm n d
  | n + 1, .tuple ds => ds.length ≤ 100 ∧ ∀ d ∈ ds, Sm n d
  | _ + 1, .dict _ => True
def Sml (d : PyData) : Prop := ∃ n, Sm n d
theorem Sml.short {d : PyData} (h : Sml d) : Short d := fun z e => by
  subst e
  obtain ⟨n, h⟩ := h
  have h : z.length ≤ 100 := by cases n <;> exact h
  omega
theorem Sml.mem {ds : List PyData} {d : PyData} (h : Sml (.tuple ds)) (m : d ∈ ds) : Sml d := by
  obtain ⟨n, h⟩ := h
  cases n with
  | zero => exact h.elim
  | succ n => exact ⟨n, h.2 d m⟩
theorem Sml.len {ds : List PyData} (h : Sml (.tuple ds)) : ds.length ≤ 100 := by
  obtain ⟨n, h⟩ := h
  cases n with
  | zero => exact h.elim
  | succ n => exact h.1
theorem sm_up {n : Nat} : ∀ {d : PyData}, Sm n d → Sm (n + 1) d := by
  induction n with
  | zero =>
    intro d h
    cases d with
    | none => trivial
    | bool _ => trivial
    | int _ => trivial
    | str _ => exact h
    | _ => exact h.elim
  | succ n ih =>
    intro d h
    cases d with
    | none => trivial
    | bool _ => trivial
    | int _ => trivial
    | str _ => exact h
    | list ds => exact fun d hd => ih (h d hd)
    | tuple ds => exact ⟨h.1, fun d hd => ih (h.2 d hd)⟩
    | dict _ => trivial
theorem sm_mono {n m : Nat} {d : PyData} (h : Sm n d) (l : n ≤ m) : Sm m d := by
  induction l with
  | refl => exact h
  | step _ ih => exact sm_up ih
theorem dz_int {S : List Addr} {K : PySem.W.Frag} {H : Hp} {v : V} {i : Int} (h : Dz S K H v (.int i)) : v = .int i := by cases h; rfl
/-! ### t == (), whatever t holds -/
def rEqNil (K : PySem.W.Frag) : R2 := fun x y H Q => ∃ a b xs, x = .ref a ∧ y = .ref b ∧ SqT K H a xs ∧ SqT K H b [] ∧ Q (.bl (decide (xs = []))) H
theorem op_eqNil {X : Cx} (hu : X.A.units + 64 < cLine) : OpR X (compareOp .Eq) (rEqNil X.K) := by
  rintro pins s σ H _ _ v u Q I rx ry ⟨a, b, xs, rfl, rfl, ha, hb, q⟩
  cases rx
  cases ry
  obtain ⟨i1, r1, p1, _⟩ := I.tuple ha
  obtain ⟨i2, r2, p2, _⟩ := I.tuple hb
  cases r2
  refine SeqAt.eq_tupleAt (e := fun _ => true) p1 p2 (by omega) (fun j _ h2 => absurd h2 (by simp)) ⟨.bl (decide (xs = [])), H, I, ?_, q⟩
  show Value.bool _ = Value.bool _
  have e := r1.length
  congr 1
  cases xs with
  | nil =>
    cases r1
    simp
  | cons x xs =>
    cases r1
    simp
/-! ### t[1:] -/
theorem cut_tup1 {K : PySem.W.Frag} {σ : L2.St} {H : Hp} {a : Addr} {xs : List V} {Q : VK} (ha : SqT K H a xs) (l : 1 ≤ xs.length) (q : ∀ p H', Same H H' → SqT K H' p (xs.drop 1) → Q (.ref p) H') : tNoPart σ H fun u H3 => rSlA K (.ref a) (some 1) u H3 Q := by
  have e : cutV xs (some 1) none = xs.drop 1 := cut_back (k := 1) l
  refine ⟨a, xs, rfl, ha, fun ⟨e1, _⟩ => ?_, fun _ p np => q p _ (same_new np) (by rw [← e]; exact sqT upd_same)⟩
  have e2 : HT.sIx xs.length 0 (some ((1 : Nat) : Int)) = 0 := e1
  rw [HT.sIx_nat] at e2
  omega
/-! ### two sources in one comprehension -/
section
variable {J J1 : It} {n : Nat} {G : Hp → Prop} {Y : Nat → Hp → V → Hp → Prop}
theorem lc_outer (w : Walk J n G Y) {g : TG} {tt : TT} {B : (Hp → Prop) → L2.St → Hp → Prop} {vs : List Nat} {σ : L2.St} {H1 : Hp} {D : Addr} {Qd : Hp → Prop} (Pv : Nat → Hp → Prop) (h0 : Pv 0 (upd H1 D (.lst []))) (hG : ∀ i H, i ≤ n → Pv i H → G H)
    (hs : ∀ i x H H', i < n → Pv i H → Y i H x H' → g x (wipe σ vs) H' fun σ2 H2 => wipe σ2 vs = wipe σ vs ∧ tt σ2 H2 fun b H3 => if b = true then B (Pv (i + 1)) σ2 H3 else Pv (i + 1) H3) (hd : ∀ H, Pv n H → Qd H) :
    ∃ W : Nat → Nat → Hp → Prop, (∃ m, W 0 m (upd H1 D (.lst []))) ∧ ∀ i m H, W i m H → (J.stop i H ∧ Qd H) ∨ (J.go i H ∧ ∃ Nx : Hp → Prop, (∀ H', Nx H' → ∃ m', m' < m ∧ W (i + 1) m' H') ∧ ∀ x H', J.yld i H x H' → g x (wipe σ vs) H' fun σ2 H2 => wipe σ2 vs = wipe σ vs ∧ tt σ2 H2 fun b H3 => if b = true then B Nx σ2 H3 else Nx H3) := by
  refine ⟨fun i m H => m = n - i ∧ i ≤ n ∧ Pv i H, ⟨n, rfl, Nat.zero_le _, h0⟩, ?_⟩
  rintro i _ H ⟨rfl, hi, p⟩
  have g0 := hG i H hi p
  by_cases hlt : i < n
  · exact .inr ⟨w.goes i H hlt g0, Pv (i + 1), fun H' p' => ⟨n - (i + 1), by omega, rfl, hlt, p'⟩, fun x H' y => hs i x H H' hlt p (w.yields i H x H' hlt g0 y)⟩
  · obtain rfl : i = n := by omega
    exact .inl ⟨w.stops H g0, hd H p⟩
theorem lc_inner (w : Walk J n G Y) {g : TG} {tt : TT} {te : TE} {vs : List Nat} {σ : L2.St} {H1 : Hp} {D : Addr} {Nx : Hp → Prop} (Pv : Nat → Hp → Prop) (h0 : Pv 0 H1) (hG : ∀ i H, i ≤ n → Pv i H → G H)
    (hs : ∀ i x H H', i < n → Pv i H → Y i H x H' → g x (wipe σ vs) H' fun σ3 H5 => wipe σ3 vs = wipe σ vs ∧ tt σ3 H5 fun b H6 => if b = true then te σ3 H6 fun y H7 => ∃ acc, H7 D = some (.lst acc) ∧ acc.length < sizeLine ∧ Pv (i + 1) (upd H7 D (.lst (acc ++ [y]))) else Pv (i + 1) H6) (hd : ∀ H, Pv n H → Nx H) :
    ∃ W1 : Nat → Nat → Hp → Prop, (∃ m, W1 0 m H1) ∧ ∀ j k H, W1 j k H → (J.stop j H ∧ Nx H) ∨ (J.go j H ∧ ∃ Nx1 : Hp → Prop, (∀ H', Nx1 H' → ∃ k', k' < k ∧ W1 (j + 1) k' H') ∧ ∀ x H', J.yld j H x H' → g x (wipe σ vs) H' fun σ3 H5 => wipe σ3 vs = wipe σ vs ∧ tt σ3 H5 fun b H6 => if b = true then te σ3 H6 fun y H7 => ∃ acc, H7 D = some (.lst acc) ∧ acc.length < sizeLine ∧ Nx1 (upd H7 D (.lst (acc ++ [y]))) else Nx1 H6) := by
  refine ⟨fun i m H => m = n - i ∧ i ≤ n ∧ Pv i H, ⟨n, rfl, Nat.zero_le _, h0⟩, ?_⟩
  rintro i _ H ⟨rfl, hi, p⟩
  have g0 := hG i H hi p
  by_cases hlt : i < n
  · exact .inr ⟨w.goes i H hlt g0, Pv (i + 1), fun H' p' => ⟨n - (i + 1), by omega, rfl, hlt, p'⟩, fun x H' y => hs i x H H' hlt p (w.yields i H x H' hlt g0 y)⟩
  · obtain rfl : i = n := by omega
    exact .inl ⟨w.stops H g0, hd H p⟩
end
end Wd

set_option Elab.async false
set_option linter.all false
set_option maxRecDepth 100000
set_option maxHeartbeats 4000000
set_option exponentiation.threshold 5000
namespace WdQ
open PySem PySem.Spec PyProof.Rows L2 WdM Wd
def topS (i : Nat) : Stmt := PySem.Challenge.pw_willdealt_k14_when_conditions_come.main.body.getD i (.Pass ⟨0, 0, 0, 0⟩)
abbrev sName : Stmt := topS 37
theorem scName : FnScope ["thing", "sign"] ["thing"] (defScope sName) := ⟨rfl, rfl, rfl, by decide +kernel, rfl, by decide +kernel, by decide +kernel⟩
/-- what the top holds for names -/
structure NmF (K : PySem.W.Frag) (mg : Str → Option Value) (aW : Addr) : Prop where
  gL : ∃ t, mg "LETTERS" = some (.str lettersS t)
  gN : ∃ t, mg "LONGEST" = some (.int 8 t)
  gW : mg "WORDS" = some (.ref aW)
  tW : ∀ H, SqT K H aW noNames
section
variable {P : Program} {w : World} {K : PySem.W.Frag} {mg : Str → Option Value} {base : Heap}
def spName (K : PySem.W.Frag) : Sp := fun vs H Q _ => ∃ (v : V) (d : PyData), vs = [v] ∧ Is K H v d ∧ Short d ∧ ∀ H', Same H H' → Q (.bl (nameB d)) H'
theorem ok_name {f : Addr} {fd : FuncData} {k : Nat} {aW : Addr} (B : Bi mg) (T : NmF K mg aW) (D : Df K mg "is_name" sName f fd ["thing"]) : FnOk P w K mg base CX0 (k + 1) f fd ["thing"] (spName K) := by
  refine D.fn.ok scName (fun vs H Q E h => ?_) (fun cdv A outer s H vs Q E hr h => ?_)
  · obtain ⟨v, d, rfl, _⟩ := h
    rfl
  · obtain ⟨v, d, rfl, th, sk, q⟩ := h
    obtain ⟨tL, gL⟩ := T.gL
    obtain ⟨tN, gN⟩ := T.gN
    refine ⟨_, pss_cons (ps_if (PW.pt (pw_or (pt_not (pt_val (pe_callB call_isi (by rfl) B.isi boot_isinstance (pa_cons (pv 0) (pa_cons (pe_bltn (v := .ty "str") (by rfl) B.str boot_str rfl) pa_nil)))))
          (pw_or1 (pt_not (pt_chain op_le op_le pe_int (pe_callB call_len_str (by rfl) B.len PySem.boot_len (pa_cons (pv 0) pa_nil)) (pe_glob (v := .int 8) (by rfl) gN ⟨_, rfl⟩)))))) (pss_one (ps_ret pe_bl)) pss_nil)
      (pss_one (ps_ret (pe_and (pe_cmpR op_notIn_seq (pv 0) (pe_glob (v := .ref aW) (by rfl) T.gW rfl) (by rfl)) (pe_one (pe_callB (cr_all rfl) (by rfl) B.all (by decide +kernel) (pa_cons
          (pe_lc (own := [("sign", 1)]) (g := gName 1) (tt := tYes) rfl scName.nd (pi_str (pv 0)) (blkOk_by (own := [("sign", 1)]) (N := ["thing", "sign"]) (sc := defScope sName) (by decide +kernel))
            (fun _ _ _ _ _ => pg_name (i := 1) scName.nd rfl (Or.inl rfl)) (fun _ _ _ _ _ => pts_nil)
            (fun _ _ _ _ _ => pe_cmpR op_in_sign (pv 1) (pe_glob (v := .str lettersS) (by rfl) gL ⟨_, rfl⟩) (by rfl))) pa_nil)))))), ?_⟩
    refine ⟨_, rfl, _, .ty "str", _, .type "str", _, rfl, .ty _, th.ty, kit_str d, _, rfl, ?_⟩
    by_cases hs : strB d = true
    · rw [hs]
      obtain ⟨z, rfl⟩ := str_of hs
      obtain rfl := th.str z rfl
      have zl := sk z rfl
      have no : ¬ (1 ≤ z.length ∧ z.length ≤ 8) → nameB (.str z) = false := fun e => by
        show (decide _ && _ && _) = false
        rw [decide_eq_false e]
        rfl
      refine iteF ⟨_, rfl, z, rfl, small_len zl, 1, _, rfl, rfl, _, rfl, ?_⟩
      by_cases l0 : 1 ≤ z.length
      · rw [decide_eq_true (show (1 : Int) ≤ (z.length : Int) by omega)]
        refine iteT ⟨_, 8, rfl, rfl, _, rfl, ?_⟩
        by_cases l1 : z.length ≤ 8
        · rw [decide_eq_true (show (z.length : Int) ≤ 8 by omega)]
          refine iteF ⟨_, rfl, aW, noNames, rfl, .inr (T.tW H), rfl, rfl, _, rfl, ?_⟩
          have yes : nameB (.str z) = (!inV (.str z) noNames && z.cps.toList.all letB) := by
            show (decide _ && _ && _) = _
            rw [decide_eq_true ⟨l0, l1⟩]
            rfl
          rw [yes] at q
          by_cases hi : inV (.str z) noNames = true
          · rw [hi] at q ⊢
            exact iteF (q H (Same.refl H))
          · have hi' : inV (.str z) noNames = false := by simpa using hi
            rw [hi'] at q ⊢
            refine iteT ⟨_, rfl, z, rfl, fun L nL => lc_it walk_str (fun i H' => H' L = some (.lst (((z.cps.toList.take i).map letB).map V.bl)) ∧ Same H H') ⟨upd_same, same_new nL⟩ (fun _ _ _ _ => trivial) ?_ ?_⟩
            · rintro i x H1 H' hx ⟨hL, sm⟩ ⟨rfl, c, hc, rfl⟩
              refine ⟨rfl, tyes (iteT ⟨_, rfl, c, lettersS, rfl, rfl, ?_⟩)⟩
              have hc' : z.cps.toList[i]? = some c := by simpa using hc
              refine ⟨_, hL, ?_, ?_, ?_⟩
              · rw [List.length_map, List.length_map, List.length_take]
                exact small1000 (by have := lt_get hc'; have : z.cps.toList.length = z.length := by simp [Str.length]
                                    omega)
              · rw [upd_same, take_more hc', List.map_append, List.map_append]
                rfl
              · exact ((Bt.of_same (S := []) sm).upd0 nL).same
            · rintro H' ⟨hL, sm⟩
              have e : z.cps.toList.take z.cps.size = z.cps.toList := List.take_of_length_le (by simp)
              rw [e] at hL
              refine ⟨L, _, rfl, sqL hL, ?_⟩
              have e2 : (z.cps.toList.map letB).all id = z.cps.toList.all letB := by rw [List.all_map]; rfl
              rw [e2]
              exact q H' sm
        · rw [decide_eq_false (show ¬ (z.length : Int) ≤ 8 by omega)]
          rw [no (fun e => l1 e.2)] at q
          exact iteT (q H (Same.refl H))
      · rw [decide_eq_false (show ¬ (1 : Int) ≤ (z.length : Int) by omega)]
        rw [no (fun e => l0 e.1)] at q
        exact iteF ⟨_, rfl, iteT (q H (Same.refl H))⟩
    · have hs' : strB d = false := by simpa using hs
      rw [hs']
      rw [name_no hs'] at q
      exact iteT (iteT (q H (Same.refl H)))
end
end WdQ

set_option Elab.async false
set_option linter.all false
set_option maxRecDepth 100000
set_option maxHeartbeats 4000000
set_option exponentiation.threshold 5000
namespace WdQ
open PySem PySem.Spec PyProof.Rows L2 WdM Wd
abbrev sWhole : Stmt := topS 27
abbrev sDay : Stmt := topS 31
theorem scWhole : FnScope ["thing"] ["thing"] (defScope sWhole) := ⟨rfl, rfl, rfl, by decide +kernel, rfl, by decide +kernel, by decide +kernel⟩
theorem scDay : FnScope ["thing"] ["thing"] (defScope sDay) := ⟨rfl, rfl, rfl, by decide +kernel, rfl, by decide +kernel, by decide +kernel⟩
def dayB : PyData → Bool
  | .int i => decide (-9999 ≤ i ∧ i ≤ 9999)
  | _ => false
theorem day_no {d : PyData} (h : wholeB d = false) : dayB d = false := by cases d <;> first | rfl | cases h
section
variable {P : Program} {w : World} {K : PySem.W.Frag} {mg : Str → Option Value} {base : Heap}
def spWhole (K : PySem.W.Frag) : Sp := fun vs H Q _ => ∃ (x : V) (d : PyData), vs = [x] ∧ Is K H x d ∧ Q (.bl (wholeB d)) H
theorem ok_whole {f : Addr} {fd : FuncData} {k : Nat} (B : Bi mg) (D : Df K mg "is_whole" sWhole f fd ["thing"]) : FnOk P w K mg base CX0 (k + 1) f fd ["thing"] (spWhole K) := by
  refine D.fn.ok scWhole (fun vs H Q E h => ?_) (fun cdv A outer s H vs Q E hr h => ?_)
  · obtain ⟨x, d, rfl, _⟩ := h
    rfl
  · obtain ⟨x, d, rfl, th, q⟩ := h
    obtain ⟨b1, b2, k1, k2, e⟩ := kit_whole (K := K) d
    rw [← e] at q
    refine ⟨_, pss_one (ps_ret (pe_and (pe_callB call_isi (by rfl) B.isi boot_isinstance (pa_cons (pv 0) (pa_cons (pe_bltn (v := .ty "int") (by rfl) B.int boot_int rfl) pa_nil)))
      (pe_one (pe_not (pe_callB call_isi (by rfl) B.isi boot_isinstance (pa_cons (pv 0) (pa_cons (pe_bltn (v := .ty "bool") (by rfl) B.bool boot_bool rfl) pa_nil))))))), ?_⟩
    refine ⟨x, rfl, x, .ty "int", _, _, b1, rfl, .ty _, th.ty, k1, b1, rfl, ?_⟩
    cases b1 with
    | false => exact iteF q
    | true => exact iteT ⟨x, rfl, x, .ty "bool", _, _, b2, rfl, .ty _, th.ty, k2, b2, rfl, q⟩
def spDay (K : PySem.W.Frag) : Sp := fun vs H Q _ => ∃ (S : List Addr) (v : V) (d : PyData), vs = [v] ∧ Dz S K H v d ∧ Q (.bl (dayB d)) H
theorem ok_day {f fW : Addr} {fd fdW : FuncData} {k : Nat} {tS : Tok} (B : Bi mg) (gS : mg "LAST_DAY" = some (.int 9999 tS)) (D : Df K mg "is_day" sDay f fd ["thing"]) (DW : Df K mg "is_whole" sWhole fW fdW ["thing"]) : FnOk P w K mg base CX0 (k + 2) f fd ["thing"] (spDay K) := by
  have GW : FnOk P w K mg base CX0 (k + 1) fW fdW ["thing"] (spWhole K) := ok_whole B DW
  refine D.fn.ok scDay (fun vs H Q E h => ?_) (fun cdv A outer s H vs Q E hr h => ?_)
  · obtain ⟨S, v, d, rfl, _⟩ := h
    rfl
  · obtain ⟨S, v, d, rfl, dz, q⟩ := h
    refine ⟨_, pss_one (ps_ret (pe_and (pe_call GW hr (by rfl) DW.mg DW.fn.kp DW.bd .nil pass0 (pa_cons (pv 0) pa_nil)) (pe_one (pe_chain op_le op_le (pe_un un_neg (pe_glob (v := .int 9999) (by rfl) gS ⟨_, rfl⟩)) (pv 0) (pe_glob (v := .int 9999) (by rfl) gS ⟨_, rfl⟩))))), ?_⟩
    refine ⟨_, rfl, v, d, rfl, dz.is, _, rfl, ?_⟩
    by_cases hw : wholeB d = true
    · rw [hw]
      obtain ⟨i, rfl⟩ := whole_of hw
      obtain rfl := dz_int dz
      have q : Q (.bl (decide (-9999 ≤ i ∧ i ≤ 9999))) H := q
      refine iteT ⟨9999, rfl, _, rfl, -9999, i, rfl, rfl, _, rfl, ?_⟩
      by_cases l0 : -9999 ≤ i
      · rw [decide_eq_true l0]
        refine iteT ⟨i, 9999, rfl, rfl, ?_⟩
        rw [show decide (-9999 ≤ i ∧ i ≤ 9999) = decide (i ≤ 9999) by simp [l0]] at q
        exact q
      · rw [decide_eq_false l0]
        rw [show decide (-9999 ≤ i ∧ i ≤ 9999) = false by simp [l0]] at q
        exact iteF q
    · have hw' : wholeB d = false := by simpa using hw
      rw [hw']
      rw [day_no hw'] at q
      exact iteF q
end
end WdQ

set_option Elab.async false
set_option linter.all false
set_option maxRecDepth 100000
set_option maxHeartbeats 4000000
set_option exponentiation.threshold 5000
namespace WdQ
open PySem PySem.Spec PyProof.Rows L2 WdM Wd
abbrev sWord : Stmt := topS 36
theorem scWord : FnScope ["thing", "words"] ["thing", "words"] (defScope sWord) := ⟨rfl, rfl, rfl, by decide +kernel, rfl, by decide +kernel, by decide +kernel⟩
def wordB (ws : List V) : PyData → Bool
  | .str z => inV (.str z) ws
  | _ => false
theorem word_no {ws : List V} {d : PyData} (h : strB d = false) : wordB ws d = false := by cases d <;> first | rfl | cases h
section
variable {P : Program} {w : World} {K : PySem.W.Frag} {mg : Str → Option Value} {base : Heap}
def spWord (K : PySem.W.Frag) : Sp := fun vs H Q _ => ∃ (v : V) (d : PyData) (a : Addr) (ws : List V), vs = [v, .ref a] ∧ Is K H v d ∧ (SqL K H a ws ∨ SqT K H a ws) ∧ ws.all flatV = true ∧ Q (.bl (wordB ws d)) H
theorem ok_word {f : Addr} {fd : FuncData} {k : Nat} (B : Bi mg) (D : Df K mg "is_word" sWord f fd ["thing", "words"]) : FnOk P w K mg base CX0 (k + 1) f fd ["thing", "words"] (spWord K) := by
  refine D.fn.ok scWord (fun vs H Q E h => ?_) (fun cdv A outer s H vs Q E hr h => ?_)
  · obtain ⟨v, d, a, ws, rfl, _⟩ := h
    rfl
  · obtain ⟨v, d, a, ws, rfl, th, hw, fl, q⟩ := h
    refine ⟨_, pss_one (ps_ret (pe_and (pe_callB call_isi (by rfl) B.isi boot_isinstance (pa_cons (pv 0) (pa_cons (pe_bltn (v := .ty "str") (by rfl) B.str boot_str rfl) pa_nil))) (pe_one (pe_cmpR op_in_seq (pv 0) (pv 1) (by rfl))))), ?_⟩
    refine ⟨_, rfl, _, .ty "str", _, .type "str", _, rfl, .ty _, th.ty, kit_str d, _, rfl, ?_⟩
    by_cases hs : strB d = true
    · rw [hs]
      obtain ⟨z, rfl⟩ := str_of hs
      obtain rfl := th.str z rfl
      exact iteT ⟨_, rfl, _, rfl, a, ws, rfl, hw, rfl, fl, q⟩
    · have hs' : strB d = false := by simpa using hs
      rw [hs']
      rw [word_no hs'] at q
      exact iteF q
end
end WdQ


set_option Elab.async false
set_option linter.all false
set_option maxRecDepth 100000
set_option maxHeartbeats 4000000
set_option exponentiation.threshold 5000
namespace WdQ
open PySem PySem.Spec PyProof.Rows L2 WdM Wd
abbrev sLives : Stmt := topS 55
abbrev sForm : Stmt := topS 56
abbrev sLeav : Stmt := topS 57
abbrev sCond : Stmt := topS 59
abbrev sCondN : Stmt := topS 60
theorem scLives : FnScope ["thing"] ["thing"] (defScope sLives) := ⟨rfl, rfl, rfl, by decide +kernel, rfl, by decide +kernel, by decide +kernel⟩
theorem scForm : FnScope ["thing", "room", "word", "terms", "term"] ["thing", "room"] (defScope sForm) := ⟨rfl, rfl, rfl, by decide +kernel, rfl, by decide +kernel, by decide +kernel⟩
theorem scLeav : FnScope ["cond", "term", "leaf"] ["cond"] (defScope sLeav) := ⟨rfl, rfl, rfl, by decide +kernel, rfl, by decide +kernel, by decide +kernel⟩
theorem scCond : FnScope ["thing"] ["thing"] (defScope sCond) := ⟨rfl, rfl, rfl, by decide +kernel, rfl, by decide +kernel, by decide +kernel⟩
theorem scCondN : FnScope ["thing"] ["thing"] (defScope sCondN) := ⟨rfl, rfl, rfl, by decide +kernel, rfl, by decide +kernel, by decide +kernel⟩
def condW : List V := [.str "lives", .str "childless", .str "not", .str "and", .str "or"]
def eqW (w x : Str) : Bool := decide (V.str w = V.str x)
def livesB : List PyData → Bool
  | [_, n, d] => nameB n && dayB d
  | [_, n] => nameB n
  | _ => false
/-- formed as a condition, of so many within one another; the first one is the word -/
def formL (f : PyData → Bool) (w : Str) (t : PyData) (ts : List PyData) : Bool :=
  if inV (.str w) condW = true then
    if eqW w "lives" = true then livesB (.str w :: t :: ts) else if eqW w "childless" = true then ts.isEmpty && nameB t else if eqW w "not" = true then ts.isEmpty && f t else decide (2 ≤ (t :: ts).length ∧ (t :: ts).length ≤ 6) && (t :: ts).all f
  else false
def formB : Nat → PyData → Bool
  | 0, _ => false
  | r + 1, .tuple (.str w :: t :: ts) => formL (formB r) w t ts
  | _ + 1, _ => false
def leafL (f : PyData → Nat) (w : Str) (ts : List PyData) : Nat := if (eqW w "lives" || eqW w "childless") = true then 1 else (ts.map f).sum
def leafN : Nat → PyData → Nat
  | 0, _ => 0
  | r + 1, .tuple (.str w :: ts) => leafL (leafN r) w ts
  | _ + 1, _ => 0
def condB (d : PyData) : Bool := formB 6 d && decide (leafN 6 d ≤ 12)
theorem form_no {r : Nat} {d : PyData} (h : tupB d = false) : formB r d = false := by
  cases r with
  | zero => rfl
  | succ r => cases d <;> first | rfl | cases h
theorem form_short {r : Nat} {ds : List PyData} (h : ds.length < 2) : formB r (.tuple ds) = false := by
  cases r with
  | zero => rfl
  | succ r =>
    match ds with
    | [] => rfl
    | [d] => cases d <;> rfl
    | _ :: _ :: _ => simp at h; omega
theorem form_word {r : Nat} {d t : PyData} {ts : List PyData} (h : strB d = false) : formB r (.tuple (d :: t :: ts)) = false := by
  cases r with
  | zero => rfl
  | succ r => cases d <;> first | rfl | cases h
/-- what the top holds for conditions -/
structure CoF (K : PySem.W.Frag) (mg : Str → Option Value) (aC : Addr) : Prop where
  gW : mg "COND_WORDS" = some (.ref aC)
  tW : ∀ H, SqT K H aC condW
  gD : ∃ t, mg "MOST_DEEP" = some (.int 6 t)
  g2 : ∃ t, mg "FEWEST_TERMS" = some (.int 2 t)
  g6 : ∃ t, mg "MOST_TERMS" = some (.int 6 t)
  gN : ∃ t, mg "MOST_NAMES" = some (.int 12 t)
section
variable {P : Program} {w : World} {K : PySem.W.Frag} {mg : Str → Option Value} {base : Heap}
theorem dz_cons2 {S : List Addr} {H : Hp} {xs : List V} {ds : List PyData} (h : DzAll S K H xs ds) (l : 2 ≤ ds.length) : ∃ x1 x2 ys d1 d2 es, xs = x1 :: x2 :: ys ∧ ds = d1 :: d2 :: es ∧ Dz S K H x1 d1 ∧ Dz S K H x2 d2 ∧ DzAll S K H ys es := by
  cases h with
  | nil => simp at l
  | cons h1 t =>
    cases t with
    | nil => simp at l
    | cons h2 t => exact ⟨_, _, _, _, _, _, rfl, rfl, h1, h2, t⟩
def spLives (K : PySem.W.Frag) : Sp := fun vs H Q _ => ∃ (S : List Addr) (v : V) (ds : List PyData), vs = [v] ∧ Dz S K H v (.tuple ds) ∧ Sml (.tuple ds) ∧ 2 ≤ ds.length ∧ ∀ H', Same H H' → Q (.bl (livesB ds)) H'
theorem ok_lives {f fN fD : Addr} {fd fdN fdD : FuncData} {k : Nat} (B : Bi mg) (D : Df K mg "is_lives" sLives f fd ["thing"]) (DN : Df K mg "is_name" sName fN fdN ["thing"]) (DD : Df K mg "is_day" sDay fD fdD ["thing"])
    (GN : FnOk P w K mg base CX0 (k + 2) fN fdN ["thing"] (spName K)) (GD : FnOk P w K mg base CX0 (k + 2) fD fdD ["thing"] (spDay K)) : FnOk P w K mg base CX0 (k + 3) f fd ["thing"] (spLives K) := by
  refine D.fn.ok scLives (fun vs H Q E h => ?_) (fun cdv A outer s H vs Q E hr h => ?_)
  · obtain ⟨S, v, ds, rfl, _⟩ := h
    rfl
  · obtain ⟨S, v, ds, rfl, dz, sm, l2, q⟩ := h
    refine ⟨_, pss_cons (ps_if (pt_cmpR op_eq (pe_callB call_len_seq (by rfl) B.len PySem.boot_len (pa_cons (pv 0) pa_nil)) pe_int (nomark _))
          (pss_one (ps_ret (pe_and (pe_call GN hr (by rfl) DN.mg DN.fn.kp DN.bd .nil pass0 (pa_cons (pe_ix (r := rIxT K) ix_tup (pv 0) pe_int (fun _ _ => rfl)) pa_nil)) (pe_one (pe_call GD hr (by rfl) DD.mg DD.fn.kp DD.bd .nil pass0 (pa_cons (pe_ix (r := rIxT K) ix_tup (pv 0) pe_int (fun _ _ => rfl)) pa_nil)))))) pss_nil)
      (pss_one (ps_ret (pe_and (pe_cmpR op_eq (pe_callB call_len_seq (by rfl) B.len PySem.boot_len (pa_cons (pv 0) pa_nil)) pe_int (nomark _)) (pe_one (pe_call GN hr (by rfl) DN.mg DN.fn.kp DN.bd .nil pass0 (pa_cons (pe_ix (r := rIxT K) ix_tup (pv 0) pe_int (fun _ _ => rfl)) pa_nil)))))), ?_⟩
    obtain ⟨a, xs, rfl, hs, hd⟩ := dz_tup dz
    have hl := hd.len
    obtain ⟨x1, x2, ys, d1, d2, es, rfl, rfl, h1, h2, ht⟩ := dz_cons2 hd l2
    refine ⟨_, rfl, a, _, rfl, .inr hs, rfl, _, rfl, ?_⟩
    have sh2 := (sm.mem (show d2 ∈ d1 :: d2 :: es by simp)).short
    cases ht with
    | nil =>
      refine iteF ⟨_, rfl, a, _, rfl, .inr hs, rfl, true, rfl, iteT ?_⟩
      exact ⟨_, rfl, a, _, 1, x2, rfl, rfl, hs, atI_nat (j := 1) rfl, x2, d2, rfl, h2.is, sh2, fun H1 s1 => q H1 s1⟩
    | cons h3 ht =>
      cases ht with
      | nil =>
        rename_i x3 d3
        refine iteT ⟨_, rfl, a, _, 1, x2, rfl, rfl, hs, atI_nat (j := 1) rfl, x2, d2, rfl, h2.is, sh2, fun H1 s1 => ⟨_, rfl, ?_⟩⟩
        have q : ∀ H', Same H H' → Q (.bl (nameB d2 && dayB d3)) H' := q
        by_cases nm : nameB d2 = true
        · rw [nm] at q ⊢
          have hs1 := (tk_same s1).sq hs
          exact iteT ⟨_, rfl, a, _, 2, x3, rfl, rfl, hs1, atI_nat (j := 2) rfl, S, x3, d3, rfl, h3.same s1, q H1 s1⟩
        · have nm' : nameB d2 = false := by simpa using nm
          rw [nm'] at q ⊢
          exact iteF (q H1 s1)
      | cons h4 ht =>
        rename_i x3 d3 x4 zs d4 fs
        have e3 : decide (V.int ((x1 :: x2 :: x3 :: x4 :: zs).length : Nat) = V.int 3) = false := by
          have : ((x1 :: x2 :: x3 :: x4 :: zs).length : Int) ≠ 3 := by simp only [List.length_cons]; omega
          simpa using this
        have e2 : decide (V.int ((x1 :: x2 :: x3 :: x4 :: zs).length : Nat) = V.int 2) = false := by
          have : ((x1 :: x2 :: x3 :: x4 :: zs).length : Int) ≠ 2 := by simp only [List.length_cons]; omega
          simpa using this
        rw [e3]
        refine iteF ⟨_, rfl, a, _, rfl, .inr hs, rfl, false, congrArg V.bl e2, iteF ?_⟩
        exact q H (Same.refl H)
/-! ### formed as conditions are -/
def spForm (K : PySem.W.Frag) (r : Nat) : Sp := fun vs H Q _ => ∃ (S : List Addr) (v : V) (d : PyData), vs = [v, .int (r : Nat)] ∧ Dz S K H v d ∧ Sml d ∧ ∀ H', Same H H' → Q (.bl (formB r d)) H'
def spFormR (K : PySem.W.Frag) : Nat → Sp
  | 0 => fun _ _ _ _ => False
  | r + 1 => spForm K r
theorem form_step {f fN fL fW aC : Addr} {fd fdN fdL fdW : FuncData} {k r : Nat} (B : Bi mg) (T : CoF K mg aC) (D : Df K mg "is_formed" sForm f fd ["thing", "room"]) (DN : Df K mg "is_name" sName fN fdN ["thing"]) (DL : Df K mg "is_lives" sLives fL fdL ["thing"]) (DW : Df K mg "is_word" sWord fW fdW ["thing", "words"])
    (GN : FnOk P w K mg base CX0 (k + 2) fN fdN ["thing"] (spName K)) (GL : FnOk P w K mg base CX0 (k + 3) fL fdL ["thing"] (spLives K)) (GW : FnOk P w K mg base CX0 (k + 1) fW fdW ["thing", "words"] (spWord K))
    (GB : FnOk P w K mg base CX0 (k + 3 + r) f fd ["thing", "room"] (spFormR K r)) : FnOk P w K mg base CX0 (k + 4 + r) f fd ["thing", "room"] (spForm K r) := by
  obtain ⟨t2, g2⟩ := T.g2
  obtain ⟨t6, g6⟩ := T.g6
  have e : k + 4 + r = (k + 3 + r) + 1 := by omega
  rw [e]
  refine D.fn.ok scForm (fun vs H Q E h => ?_) (fun cdv A outer s H vs Q E hr h => ?_)
  · obtain ⟨S, v, d, rfl, _⟩ := h
    rfl
  · obtain ⟨S, v, d, rfl, dz, sm, q⟩ := h
    have r1 : Room (k + 1) _ := hr.mono (by omega)
    have r2 : Room (k + 2) _ := hr.mono (by omega)
    have r3 : Room (k + 3) _ := hr.mono (by omega)
    refine ⟨_, pss_cons (ps_if (PW.pt (pw_or (pt_cmpR op_eq (pv 1) pe_int (nomark _)) (pw_or (pt_not (pt_val (pe_callB call_isi (by rfl) B.isi boot_isinstance (pa_cons (pv 0) (pa_cons (pe_bltn (v := .ty "tuple") (by rfl) B.tuple boot_tuple rfl) pa_nil)))))
          (pw_or1 (pt_cmpR op_lt (pe_callB call_len_seq (by rfl) B.len PySem.boot_len (pa_cons (pv 0) pa_nil)) pe_int (nomark _)))))) (pss_one (ps_ret pe_bl)) pss_nil)
      (pss_cons (ps_set (i := 2) scForm.nd rfl (.inl rfl) (pe_ix (r := rIxT K) ix_tup (pv 0) pe_int (fun _ _ => rfl)))
      (pss_cons (ps_if (pt_not (pt_val (pe_call GW r1 (by rfl) DW.mg DW.fn.kp DW.bd .nil pass0 (pa_cons (pv 2) (pa_cons (pe_glob (v := .ref aC) (by rfl) T.gW rfl) pa_nil))))) (pss_one (ps_ret pe_bl)) pss_nil)
      (pss_cons (ps_if (pt_cmpR op_eq (pv 2) pe_str (nomark _)) (pss_one (ps_ret (pe_call GL r3 (by rfl) DL.mg DL.fn.kp DL.bd .nil pass0 (pa_cons (pv 0) pa_nil)))) pss_nil)
      (pss_cons (ps_if (pt_cmpR op_eq (pv 2) pe_str (nomark _)) (pss_one (ps_ret (pe_and (pe_cmpR op_eq (pe_callB call_len_seq (by rfl) B.len PySem.boot_len (pa_cons (pv 0) pa_nil)) pe_int (nomark _)) (pe_one (pe_call GN r2 (by rfl) DN.mg DN.fn.kp DN.bd .nil pass0 (pa_cons (pe_ix (r := rIxT K) ix_tup (pv 0) pe_int (fun _ _ => rfl)) pa_nil)))))) pss_nil)
      (pss_cons (ps_if (pt_cmpR op_eq (pv 2) pe_str (nomark _)) (pss_one (ps_ret (pe_and (pe_cmpR op_eq (pe_callB call_len_seq (by rfl) B.len PySem.boot_len (pa_cons (pv 0) pa_nil)) pe_int (nomark _)) (pe_one (pe_call GB hr (by rfl) D.mg D.fn.kp D.bd .nil pass0 (pa_cons (pe_ix (r := rIxT K) ix_tup (pv 0) pe_int (fun _ _ => rfl)) (pa_cons (pe_op op_sub (pv 1) pe_int) pa_nil))))))) pss_nil)
      (pss_cons (ps_set (i := 3) scForm.nd rfl (.inl rfl) (pe_slice sl_tupA (pv 0) (po_some pe_int) po_none))
      (pss_cons (ps_if (pt_not (pt_chain op_le op_le (pe_glob (v := .int 2) (by rfl) g2 ⟨_, rfl⟩) (pe_callB call_len_seq (by rfl) B.len PySem.boot_len (pa_cons (pv 3) pa_nil)) (pe_glob (v := .int 6) (by rfl) g6 ⟨_, rfl⟩))) (pss_one (ps_ret pe_bl)) pss_nil)
      (pss_one (ps_ret (pe_callB (cr_all rfl) (by rfl) B.all (by decide +kernel) (pa_cons
          (pe_lc (own := [("term", 4)]) (g := gName 4) (tt := tYes) rfl scForm.nd (pi_tup (pv 3)) (blkOk_by (own := [("term", 4)]) (N := ["thing", "room", "word", "terms", "term"]) (sc := defScope sForm) (by decide +kernel))
            (fun _ _ _ _ _ => pg_name (i := 4) scForm.nd rfl (Or.inl rfl)) (fun _ _ _ _ _ => pts_nil)
            (fun _ _ _ _ _ => pe_call GB hr (by rfl) D.mg D.fn.kp D.bd .nil pass0 (pa_cons (pv 4) (pa_cons (pe_op op_sub (pv 1) pe_int) pa_nil)))) pa_nil))))))))))), ?_⟩
    refine ⟨_, rfl, rfl, _, rfl, ?_⟩
    cases r with
    | zero => exact iteT (iteT (q H (Same.refl H)))
    | succ r =>
      rw [show decide (V.int ((r + 1 : Nat) : Int) = V.int 0) = false by simp; omega]
      refine iteF ⟨_, rfl, _, .ty "tuple", _, .type "tuple", _, rfl, .ty _, dz.ty, kit_tup d, _, rfl, ?_⟩
      by_cases ht : tupB d = true
      rotate_left
      · have ht' : tupB d = false := by simpa using ht
        rw [ht']
        rw [form_no ht'] at q
        exact iteT (iteT (q H (Same.refl H)))
      rw [ht]
      obtain ⟨ds, rfl⟩ := tup_of ht
      obtain ⟨a, xs, rfl, hs, hd⟩ := dz_tup dz
      have hl := hd.len
      refine iteF ⟨_, rfl, a, _, rfl, .inr hs, _, 2, rfl, rfl, _, rfl, ?_⟩
      by_cases l2 : ds.length < 2
      · rw [decide_eq_true (show (xs.length : Int) < 2 by omega)]
        rw [form_short l2] at q
        exact iteT (q H (Same.refl H))
      rw [decide_eq_false (show ¬ (xs.length : Int) < 2 by omega)]
      obtain ⟨x1, x2, ys, d1, d2, es, rfl, rfl, h1, h2, hts⟩ := dz_cons2 hd (by omega)
      refine iteF ⟨_, rfl, a, _, 0, x1, rfl, rfl, hs, atI_nat (j := 0) rfl, ?_⟩
      refine ⟨_, rfl, x1, d1, aC, condW, rfl, h1.is, .inr (T.tW H), rfl, _, rfl, ?_⟩
      by_cases s1 : strB d1 = true
      rotate_left
      · have s1' : strB d1 = false := by simpa using s1
        rw [word_no s1']
        rw [form_word s1'] at q
        exact iteT (q H (Same.refl H))
      obtain ⟨wd, rfl⟩ := str_of s1
      obtain rfl := dz_str h1
      have q : ∀ H', Same H H' → Q (.bl (formL (formB r) wd d2 es)) H' := q
      unfold formL at q
      show if (!inV (.str wd) condW) = true then _ else _
      by_cases iw : inV (.str wd) condW = true
      rotate_left
      · have iw' : inV (.str wd) condW = false := by simpa using iw
        rw [iw'] at q ⊢
        exact iteT (q H (Same.refl H))
      rw [iw] at q ⊢
      rw [if_pos rfl] at q
      refine iteF ⟨_, rfl, rfl, _, rfl, ?_⟩
      show if eqW wd "lives" = true then _ else _
      by_cases c1 : eqW wd "lives" = true
      · rw [c1] at q ⊢
        rw [if_pos rfl] at q
        exact iteT ⟨_, rfl, S, _, _, rfl, dz, sm, by simp, fun H1 s1 => q H1 s1⟩
      have c1' : eqW wd "lives" = false := by simpa using c1
      rw [c1'] at q ⊢
      rw [if_neg (by decide)] at q
      refine iteF ⟨_, rfl, rfl, _, rfl, ?_⟩
      show if eqW wd "childless" = true then _ else _
      have lenE : ∀ b, b = es.isEmpty → decide (V.int ((V.str wd :: x2 :: ys).length : Nat) = V.int 2) = b := fun b hb => by
        subst hb
        have : ys.length = es.length := by
          have := hl
          simp only [List.length_cons] at this
          omega
        cases es with
        | nil =>
          cases ys with
          | nil => rfl
          | cons _ _ => simp at this
        | cons e es =>
          cases ys with
          | nil => simp at this
          | cons y ys =>
            have : ((V.str wd :: x2 :: y :: ys).length : Int) ≠ 2 := by simp only [List.length_cons]; omega
            simpa using this
      by_cases c2 : eqW wd "childless" = true
      · rw [c2] at q ⊢
        rw [if_pos rfl] at q
        refine iteT ⟨_, rfl, a, _, rfl, .inr hs, rfl, _, rfl, ?_⟩
        rw [lenE _ rfl]
        by_cases em : es.isEmpty = true
        · rw [em] at q ⊢
          exact iteT ⟨_, rfl, a, _, 1, x2, rfl, rfl, hs, atI_nat (j := 1) rfl, x2, d2, rfl, h2.is, (sm.mem (by simp)).short, fun H1 s1 => q H1 s1⟩
        · have em' : es.isEmpty = false := by simpa using em
          rw [em'] at q ⊢
          exact iteF (q H (Same.refl H))
      have c2' : eqW wd "childless" = false := by simpa using c2
      rw [c2'] at q ⊢
      rw [if_neg (by decide)] at q
      refine iteF ⟨_, rfl, rfl, _, rfl, ?_⟩
      show if eqW wd "not" = true then _ else _
      by_cases c3 : eqW wd "not" = true
      · rw [c3] at q ⊢
        rw [if_pos rfl] at q
        refine iteT ⟨_, rfl, a, _, rfl, .inr hs, rfl, _, rfl, ?_⟩
        rw [lenE _ rfl]
        by_cases em : es.isEmpty = true
        · rw [em] at q ⊢
          refine iteT ⟨_, rfl, a, _, 1, x2, rfl, rfl, hs, atI_nat (j := 1) rfl, _, rfl, _, 1, rfl, rfl, S, x2, d2, ?_, h2, sm.mem (by simp), fun H1 s1 => q H1 s1⟩
          show [x2, V.int (((r + 1 : Nat) : Int) - 1)] = _
          rw [show (((r + 1 : Nat) : Int) - 1) = (r : Int) by omega]
        · have em' : es.isEmpty = false := by simpa using em
          rw [em'] at q ⊢
          exact iteF (q H (Same.refl H))
      have c3' : eqW wd "not" = false := by simpa using c3
      rw [c3'] at q ⊢
      rw [if_neg (by decide)] at q
      refine iteF ⟨_, rfl, 1, rfl, ?_⟩
      refine (show tNoPart _ H _ from cut_tup1 hs (by show 1 ≤ _; simp) (fun p H1 s1 sq => ?_))
      have sq : SqT K H1 p (x2 :: ys) := sq
      have ht1 : DzAll S K H1 (x2 :: ys) (d2 :: es) := (DzAll.cons h2 hts).same s1
      have hl2 := ht1.len
      refine ⟨_, rfl, p, _, rfl, .inr sq, 2, _, rfl, rfl, _, rfl, ?_⟩
      by_cases m2 : 2 ≤ (d2 :: es).length
      rotate_left
      · rw [decide_eq_false (show ¬ (2 : Int) ≤ ((x2 :: ys).length : Int) by omega)]
        rw [decide_eq_false (show ¬ (2 ≤ (d2 :: es).length ∧ (d2 :: es).length ≤ 6) from fun z => m2 z.1)] at q
        exact iteF ⟨_, rfl, iteT (q H1 s1)⟩
      rw [decide_eq_true (show (2 : Int) ≤ ((x2 :: ys).length : Int) by omega)]
      refine iteT ⟨_, 6, rfl, rfl, _, rfl, ?_⟩
      by_cases m6 : (d2 :: es).length ≤ 6
      rotate_left
      · rw [decide_eq_false (show ¬ ((x2 :: ys).length : Int) ≤ 6 by omega)]
        rw [decide_eq_false (show ¬ (2 ≤ (d2 :: es).length ∧ (d2 :: es).length ≤ 6) from fun z => m6 z.2)] at q
        exact iteT (q H1 s1)
      rw [decide_eq_true (show ((x2 :: ys).length : Int) ≤ 6 by omega)]
      rw [decide_eq_true (show 2 ≤ (d2 :: es).length ∧ (d2 :: es).length ≤ 6 from ⟨m2, m6⟩), Bool.true_and] at q
      have smt : ∀ e ∈ d2 :: es, Sml e := fun e he => sm.mem (List.mem_cons_of_mem _ he)
      revert sq ht1 hl2 q smt m6
      generalize x2 :: ys = zs
      generalize d2 :: es = fs
      intro q sq ht1 hl2 m6 smt
      refine iteF ⟨_, rfl, p, rfl, ⟨zs, sq⟩, fun L nL => lc_tup (K := K) (a := p) (xs := zs) (fun i H' => H' L = some (.lst (((fs.take i).map (formB r)).map V.bl)) ∧ Same H1 H') ⟨upd_same, same_new nL⟩ (fun i H' _ h => tk_same h.2 |>.sq sq) ?_ ?_⟩
      · rintro i x H2 hx ⟨hL, s2⟩
        obtain ⟨e, he, dx⟩ := ht1.get hx
        have il := lt_get hx
        refine ⟨rfl, tyes (iteT ⟨_, rfl, _, rfl, _, 1, rfl, rfl, S, x, e, ?_, dx.same s2, smt e (List.mem_of_getElem? he), fun H3 s3 => ?_⟩)⟩
        · show [x, V.int (((r + 1 : Nat) : Int) - 1)] = _
          rw [show (((r + 1 : Nat) : Int) - 1) = (r : Int) by omega]
        refine ⟨_, s3 _ _ hL, ?_, ?_, ?_⟩
        · rw [List.length_map, List.length_map, List.length_take]
          exact small1000 (by omega)
        · rw [upd_same, take_more he, List.map_append, List.map_append]
          rfl
        · exact ((Bt.of_same (S := []) (s2.trans s3)).upd0 nL).same
      · rintro H2 ⟨hL, s2⟩
        rw [hl2, List.take_length] at hL
        refine ⟨L, _, rfl, sqL hL, ?_⟩
        rw [show (fs.map (formB r)).all id = fs.all (formB r) by rw [List.all_map]; rfl]
        exact q H2 (s1.trans s2)
theorem ok_form {f fN fL fW aC : Addr} {fd fdN fdL fdW : FuncData} {k : Nat} (B : Bi mg) (T : CoF K mg aC) (D : Df K mg "is_formed" sForm f fd ["thing", "room"]) (DN : Df K mg "is_name" sName fN fdN ["thing"]) (DL : Df K mg "is_lives" sLives fL fdL ["thing"]) (DW : Df K mg "is_word" sWord fW fdW ["thing", "words"])
    (GN : FnOk P w K mg base CX0 (k + 2) fN fdN ["thing"] (spName K)) (GL : FnOk P w K mg base CX0 (k + 3) fL fdL ["thing"] (spLives K)) (GW : FnOk P w K mg base CX0 (k + 1) fW fdW ["thing", "words"] (spWord K)) : ∀ r, FnOk P w K mg base CX0 (k + 4 + r) f fd ["thing", "room"] (spForm K r)
  | 0 => form_step B T D DN DL DW GN GL GW ⟨fun _ _ _ _ h => h.elim, fun _ _ _ _ _ _ _ _ _ _ _ _ _ h => h.elim⟩
  | r + 1 => form_step (r := r + 1) B T D DN DL DW GN GL GW (by
    have := ok_form B T D DN DL DW GN GL GW r
    have e : k + 3 + (r + 1) = k + 4 + r := by omega
    rw [e]
    exact this)
end
end WdQ

set_option Elab.async false
set_option linter.all false
set_option maxRecDepth 100000
set_option maxHeartbeats 4000000
namespace Wd
open PySem PySem.Spec PyProof.Rows L2 WdM
/-- what the top has written of an own error with one field: the class x at C, its __init__ at fI; CW its family -/
structure ErC (K : PySem.W.Frag) (mg : Str → Option Value) (x fld : Str) (C fI CW : Addr) : Prop where
  o : OexC K C
  no : PySem.W.findIn K (.ref C) fld = some none
  i : PySem.W.findIn K (.ref C) "__init__" = some (some (.ref fI))
  t : PySem.W.typeIn K (.ref fI) = some (.type "function")
  g : mg x = some (.ref C)
  m : PySem.W.exmOne K (.ref C) (.ref CW) = some true
  c : ExcC K C
  f : XfC K C
def spInitE (C : Addr) (fld : Str) : Sp := fun vs H Q _ => ∃ (a : Addr) (y : V), vs = [.ref a, y] ∧ H a = some (exo a C none) ∧ ∀ dx, H dx = none → dx ≠ a → Q .non (upd (upd H dx (exd dx [(fld, y)])) a (exo a C (some dx)))
theorem heap_made {H : Hp} {a dx : Addr} {o1 o2 o3 o4 : HO} (ha : H a = none) (ne : dx ≠ a) : upd (del (upd (upd (upd H a o1) dx o2) a o3) a) dx o4 = upd H dx o4 := by
  funext b
  by_cases h1 : b = dx
  · rw [h1, upd_same, upd_same]
  · rw [upd_ne h1, upd_ne h1]
    by_cases h2 : b = a
    · rw [h2, del_same, ha]
    · rw [del_ne h2, upd_ne h2, upd_ne h1, upd_ne h2]
theorem raise_var {C : Addr} {fld : Str} {i : Nat} {x : V} {H : Hp} {σ : L2.St} {R : XK} (h0 : σ[i]? = some (some x)) (hq : ∀ dd, H dd = none → R (.ref C) (some dd) (upd H dd (.xd [(fld, x)]))) : tMkO C (spInitE C fld) [] (tCons (tVar i) tNil) σ H R :=
  ⟨x, h0, by show 1 ≤ 1000; decide, fun e ne => ⟨e, x, rfl, upd_same, fun dx h1 h2 => ⟨rfl, dx, [(fld, x)], upd_same, by rw [upd_ne h2, upd_same], by rw [upd_ne h2] at h1; exact h1, by
    rw [heap_made ne h2]
    exact hq dx (by rw [upd_ne h2] at h1; exact h1)⟩⟩⟩
/-- an own error without a field: the class x at C, CW its family -/
structure ErN (K : PySem.W.Frag) (mg : Str → Option Value) (x : Str) (C CW : Addr) : Prop where
  x_ : PySem.W.excIn K C [.type "ValueError", .type "Exception", .type "BaseException", .type "object"] "ValueError.__new__" = true
  g : mg x = some (.ref C)
  k : PySem.W.keepIn K (.ref C) = true
  b : PySem.W.subIn K (.ref C) (.type "BaseException") = some true
  t : PySem.W.typeIn K (.ref C) = some (.type "type")
  m : PySem.W.exmOne K (.ref C) (.ref CW) = some true
  c : ExcC K C
  i : PySem.W.kitOne K (.ref C) (.ref C) = some true
end Wd

set_option Elab.async false
set_option linter.all false
set_option maxRecDepth 100000
set_option maxHeartbeats 4000000
set_option exponentiation.threshold 5000
namespace WdQ
open PySem PySem.Spec PyProof.Rows L2 WdM Wd
abbrev sComes : Stmt := topS 62
abbrev sEDay : Stmt := inClass (topS 11) 0
theorem scComes : FnScope ["house", "cond", "story", "wait"] ["house", "cond", "story", "wait"] (defScope sComes) := ⟨rfl, rfl, rfl, by decide +kernel, rfl, by decide +kernel, by decide +kernel⟩
theorem scEDay : FnScope ["self", "thing"] ["self", "thing"] (defScope sEDay) := ⟨rfl, rfl, rfl, by decide +kernel, rfl, by decide +kernel, by decide +kernel⟩
theorem sum_le {f : PyData → Nat} {b : Nat} : ∀ {ds : List PyData}, (∀ d ∈ ds, f d ≤ b) → (ds.map f).sum ≤ ds.length * b
  | [], _ => by simp
  | d :: ds, h => by
    rw [List.map_cons, List.sum_cons, List.length_cons, Nat.succ_mul]
    have h1 := h d List.mem_cons_self
    have h2 := sum_le (ds := ds) fun x hx => h x (List.mem_cons_of_mem _ hx)
    omega
/-- the ways in which something is formed -/
theorem form_ways {f : PyData → Bool} {w : Str} {t : PyData} {ts : List PyData} (h : formL f w t ts = true) :
    ((eqW w "lives" || eqW w "childless") = true) ∨ ((eqW w "lives" || eqW w "childless") = false ∧ (t :: ts).length ≤ 6 ∧ ∀ d ∈ t :: ts, f d = true) := by
  unfold formL at h
  by_cases c1 : eqW w "lives" = true
  · exact .inl (by rw [c1]; rfl)
  by_cases c2 : eqW w "childless" = true
  · exact .inl (by rw [c2]; exact Bool.or_true _)
  have c1' : eqW w "lives" = false := by simpa using c1
  have c2' : eqW w "childless" = false := by simpa using c2
  refine .inr ⟨by rw [c1', c2']; rfl, ?_⟩
  by_cases iw : inV (.str w) condW = true
  · rw [if_pos iw, if_neg c1, if_neg c2] at h
    by_cases c3 : eqW w "not" = true
    · rw [if_pos c3] at h
      obtain ⟨e1, e2⟩ := Bool.and_eq_true_iff.mp h
      have e1 : ts = [] := by simpa using e1
      subst e1
      exact ⟨by simp, fun d hd => by rw [List.mem_singleton.mp hd]; exact e2⟩
    · rw [if_neg c3] at h
      obtain ⟨e1, e2⟩ := Bool.and_eq_true_iff.mp h
      exact ⟨(of_decide_eq_true e1).2, fun d hd => List.all_eq_true.mp e2 d hd⟩
  · rw [if_neg iw] at h
    cases h
theorem form_shape {r : Nat} {d : PyData} (h : formB r d = true) : ∃ q w t ts, r = q + 1 ∧ d = .tuple (.str w :: t :: ts) ∧ formL (formB q) w t ts = true := by
  cases r with
  | zero => cases h
  | succ q =>
    cases d with
    | tuple ds =>
      match ds with
      | [] => cases h
      | [e] => cases e <;> cases h
      | e :: t :: ts =>
        cases e with
        | str w => exact ⟨q, w, t, ts, rfl, rfl, h⟩
        | _ => cases h
    | _ => cases h
theorem leaf_le : ∀ {r : Nat} {d : PyData}, formB r d = true → leafN r d ≤ 6 ^ r := by
  intro r
  induction r with
  | zero => intro d h; cases h
  | succ r ih =>
    intro d h
    obtain ⟨q, w, t, ts, e, rfl, hf⟩ := form_shape h
    obtain rfl : r = q := by omega
    show leafL (leafN r) w (t :: ts) ≤ _
    unfold leafL
    have p : 0 < 6 ^ r := Nat.pow_pos (by decide)
    rw [Nat.pow_succ]
    rcases form_ways hf with hw | ⟨hw, l6, all⟩
    · rw [if_pos hw]
      omega
    · rw [if_neg (by rw [hw]; decide)]
      have := sum_le (f := leafN r) (b := 6 ^ r) (ds := t :: ts) fun d hd => ih (all d hd)
      have := Nat.mul_le_mul_right (6 ^ r) l6
      omega
section
variable {P : Program} {w : World} {K : PySem.W.Frag} {mg : Str → Option Value} {base : Heap} {CC CD fE CW : Addr}
def spLeav (K : PySem.W.Frag) (r : Nat) : Sp := fun vs H Q _ => ∃ (S : List Addr) (v : V) (d : PyData), vs = [v] ∧ Dz S K H v d ∧ formB r d = true ∧ ∀ H' p xs, Same H H' → H p = none → H' p = some (.lst xs) → xs.length = leafN r d → Q (.ref p) H'
def spLeavR (K : PySem.W.Frag) : Nat → Sp
  | 0 => fun _ _ _ _ => False
  | r + 1 => spLeav K r
theorem leav_step {f : Addr} {fd : FuncData} {k r : Nat} (r6 : r ≤ 6) (B : Bi mg) (D : Df K mg "leaves" sLeav f fd ["cond"]) (GB : FnOk P w K mg base CX0 (k + r) f fd ["cond"] (spLeavR K r)) : FnOk P w K mg base CX0 (k + r + 1) f fd ["cond"] (spLeav K r) := by
  refine D.fn.ok scLeav (fun vs H Q E h => ?_) (fun cdv A outer s H vs Q E hr h => ?_)
  · obtain ⟨S, v, d, rfl, _⟩ := h
    rfl
  · obtain ⟨S, v, d, rfl, dz, fm, q⟩ := h
    refine ⟨_, pss_cons (ps_if (pt_cmpR op_isN (pv 0) pe_non (nomark _)) (pss_one ps_no) pss_nil)
      (pss_cons (ps_if (PW.pt (pw_or (pt_cmpR op_eq (pe_ix (r := rIxT K) ix_tup (pv 0) pe_int (fun _ _ => rfl)) pe_str (nomark _)) (pw_or1 (pt_cmpR op_eq (pe_ix (r := rIxT K) ix_tup (pv 0) pe_int (fun _ _ => rfl)) pe_str (nomark _))))) (pss_one (ps_ret (pe_lst (pa_cons (pv 0) pa_nil)))) pss_nil)
      (pss_one (ps_ret (pe_lc2 (own := [("term", 1), ("leaf", 2)]) (vs1 := [2]) (g := gName 1) (g1 := gName 2) (tt := tYes) (tt1 := tYes) (wi1 := iList K (tCall (spLeavR K r) [] E0 (tCons (tVar 1) tNil))) rfl scLeav.nd (pi_tup (pe_slice sl_tupA (pv 0) (po_some pe_int) po_none))
          (blkOk_by (own := [("term", 1), ("leaf", 2)]) (N := ["cond", "term", "leaf"]) (sc := defScope sLeav) (by decide +kernel)) (by decide)
          (fun _ _ _ _ _ => pg_name (i := 1) scLeav.nd rfl (Or.inl rfl)) (fun _ _ _ _ _ => pts_nil)
          (fun _ _ _ _ _ => pi_list (pe_call GB hr (by rfl) D.mg D.fn.kp D.bd .nil pass0 (pa_cons (pv 1) pa_nil)))
          (fun _ _ _ _ _ => pg_name (i := 2) scLeav.nd rfl (Or.inl rfl)) (fun _ _ _ _ _ => pts_nil)
          (fun _ _ _ _ _ => pv 2))))), ?_⟩
    obtain ⟨n, wd, t, ts, rfl, rfl, hf⟩ := form_shape fm
    obtain ⟨a, xs, rfl, hs, hd⟩ := dz_tup dz
    obtain ⟨x1, x2, ys, d1, d2, es, rfl, e, h1, h2, hts⟩ := dz_cons2 hd (by simp)
    cases e
    obtain rfl := dz_str h1
    have q : ∀ H' p zs, Same H H' → H p = none → H' p = some (.lst zs) → zs.length = leafL (leafN n) wd (t :: ts) → Q (.ref p) H' := q
    unfold leafL at q
    refine ⟨_, rfl, rfl, false, rfl, iteF ?_⟩
    refine ⟨_, rfl, a, _, 0, _, rfl, rfl, hs, atI_nat (j := 0) rfl, rfl, _, rfl, ?_⟩
    show if eqW wd "lives" = true then _ else _
    have one : (eqW wd "lives" || eqW wd "childless") = true → ∀ p, H p = none → Q (.ref p) (upd H p (.lst [.ref a])) := fun hw p np => by
      refine q _ p _ (same_new np) np upd_same ?_
      rw [if_pos hw]
      rfl
    by_cases c1 : eqW wd "lives" = true
    · rw [c1]
      exact iteT (iteT ⟨_, rfl, by show 1 ≤ sizeLine; decide, fun p np => one (by rw [c1]; rfl) p np⟩)
    have c1' : eqW wd "lives" = false := by simpa using c1
    rw [c1']
    refine iteF ⟨_, rfl, a, _, 0, _, rfl, rfl, hs, atI_nat (j := 0) rfl, rfl, _, rfl, ?_⟩
    show if eqW wd "childless" = true then _ else _
    by_cases c2 : eqW wd "childless" = true
    · rw [c2]
      exact iteT ⟨_, rfl, by show 1 ≤ sizeLine; decide, fun p np => one (by rw [c2]; exact Bool.or_true _) p np⟩
    have c2' : eqW wd "childless" = false := by simpa using c2
    rw [c2']
    rcases form_ways hf with hw | ⟨hw, l6, all⟩
    · rw [c1', c2'] at hw
      cases hw
    rw [if_neg (by rw [hw]; decide)] at q
    refine iteF ⟨_, rfl, 1, rfl, ?_⟩
    refine (show tNoPart _ H _ from cut_tup1 hs (by show 1 ≤ _; simp) (fun p H1 s1 sq => ?_))
    have sq : SqT K H1 p (x2 :: ys) := sq
    have ht1 : DzAll S K H1 (x2 :: ys) (t :: ts) := (DzAll.cons h2 hts).same s1
    have hl := ht1.len
    have lf : ∀ e ∈ t :: ts, leafN n e ≤ 6 ^ 5 := fun e he => Nat.le_trans (leaf_le (all e he)) (Nat.pow_le_pow_right (by decide) (by omega))
    revert sq ht1 hl q all l6 lf
    generalize x2 :: ys = zs
    generalize t :: ts = fs
    intro q l6 all sq ht1 hl lf
    refine ⟨p, rfl, ⟨zs, sq⟩, fun L nL => ?_⟩
    have part : ∀ i, i ≤ zs.length → ((fs.take i).map (leafN n)).sum ≤ 46656 := fun i hi => by
      have := sum_le (f := leafN n) (b := 6 ^ 5) (ds := fs.take i) fun d hd => lf d (List.mem_of_mem_take hd)
      have : (fs.take i).length ≤ 6 := by rw [List.length_take]; omega
      have := Nat.mul_le_mul_right (6 ^ 5) this
      omega
    refine lc_outer (walk_tup (K := K) (a := p) (xs := zs)) (fun i H' => ∃ acc, H' L = some (.lst acc) ∧ acc.length = ((fs.take i).map (leafN n)).sum ∧ Same H1 H') ⟨[], upd_same, rfl, same_new nL⟩ (fun i H' _ ⟨_, _, _, s⟩ => (tk_same s).sq sq) ?_ ?_
    · rintro i x H2 _ hi ⟨acc, hL, al, s2⟩ ⟨rfl, hx⟩
      obtain ⟨e, he, dx⟩ := ht1.get hx
      have fe := all e (List.mem_of_getElem? he)
      refine ⟨rfl, tyes (iteT ⟨_, rfl, S, x, e, rfl, dx.same s2, fe, fun H3 p3 ws s3 n3 h3 wl => ⟨p3, rfl, ⟨_, sqL h3⟩, ?_⟩⟩)⟩
      have n3L : p3 ≠ L := (ne_of_none hL n3).symm
      refine lc_inner (walk_list (K := K) (a := p3) (xs := ws)) (fun j H' => ∃ acc', H' L = some (.lst acc') ∧ acc'.length = acc.length + j ∧ H' p3 = some (.lst ws) ∧ Same H1 H') ⟨acc, s3 _ _ hL, rfl, h3, s2.trans s3⟩ (fun j H' _ ⟨_, _, _, h, _⟩ => sqL h) ?_ ?_
      · rintro j y H4 _ hj ⟨acc', hL4, al4, h34, s4⟩ ⟨rfl, hy⟩
        have t1 := part (i + 1) (by omega)
        rw [take_more he, List.map_append, List.sum_append] at t1
        simp only [List.map_cons, List.map_nil, List.sum_cons, List.sum_nil] at t1
        refine ⟨rfl, tyes (iteT ⟨_, rfl, acc', hL4, Nat.lt_of_lt_of_le (show acc'.length < 50000 by omega) (by decide), acc' ++ [y], upd_same, by rw [List.length_append, al4]; show _ + 1 = _; omega, by rw [upd_ne n3L]; exact h34, ((Bt.of_same (S := []) s4).upd0 nL).same⟩)⟩
      · rintro H4 ⟨acc', hL4, al4, h34, s4⟩
        refine ⟨acc', hL4, ?_, s4⟩
        rw [al4, al, wl, take_more he, List.map_append, List.sum_append]
        simp
    · rintro H2 ⟨acc, hL, al, s2⟩
      rw [hl, List.take_length] at al
      exact q H2 L acc (s1.trans s2) (s1.free nL) hL al
theorem ok_leav {f : Addr} {fd : FuncData} {k : Nat} (B : Bi mg) (D : Df K mg "leaves" sLeav f fd ["cond"]) : ∀ r, r ≤ 6 → FnOk P w K mg base CX0 (k + r + 1) f fd ["cond"] (spLeav K r)
  | 0, h => leav_step h B D ⟨fun _ _ _ _ h => h.elim, fun _ _ _ _ _ _ _ _ _ _ _ _ _ h => h.elim⟩
  | r + 1, h => leav_step (r := r + 1) h B D (ok_leav B D r (by omega))
def spB (K : PySem.W.Frag) (f : PyData → Bool) : Sp := fun vs H Q _ => ∃ (S : List Addr) (v : V) (d : PyData), vs = [v] ∧ Dz S K H v d ∧ Sml d ∧ ∀ H', Same H H' → Q (.bl (f d)) H'
theorem ok_cond {f fF fL aC : Addr} {fd fdF fdL : FuncData} {k : Nat} (B : Bi mg) (T : CoF K mg aC) (D : Df K mg "is_cond" sCond f fd ["thing"]) (DF : Df K mg "is_formed" sForm fF fdF ["thing", "room"]) (DL : Df K mg "leaves" sLeav fL fdL ["cond"])
    (GF : FnOk P w K mg base CX0 (k + 10) fF fdF ["thing", "room"] (spForm K 6)) : FnOk P w K mg base CX0 (k + 11) f fd ["thing"] (spB K condB) := by
  have GL : FnOk P w K mg base CX0 (k + 10) fL fdL ["cond"] (spLeav K 6) := ok_leav (k := k + 3) B DL 6 (by decide)
  obtain ⟨tD, gD⟩ := T.gD
  obtain ⟨tN, gN⟩ := T.gN
  refine D.fn.ok scCond (fun vs H Q E h => ?_) (fun cdv A outer s H vs Q E hr h => ?_)
  · obtain ⟨S, v, d, rfl, _⟩ := h
    rfl
  · obtain ⟨S, v, d, rfl, dz, sm, q⟩ := h
    refine ⟨_, pss_one (ps_ret (pe_and (pe_call GF hr (by rfl) DF.mg DF.fn.kp DF.bd .nil pass0 (pa_cons (pv 0) (pa_cons (pe_glob (v := .int 6) (by rfl) gD ⟨_, rfl⟩) pa_nil)))
      (pe_one (pe_cmpR op_le (pe_callB call_len_seq (by rfl) B.len PySem.boot_len (pa_cons (pe_call GL hr (by rfl) DL.mg DL.fn.kp DL.bd .nil pass0 (pa_cons (pv 0) pa_nil)) pa_nil)) (pe_glob (v := .int 12) (by rfl) gN ⟨_, rfl⟩) (nomark _))))), ?_⟩
    refine ⟨_, rfl, S, v, d, rfl, dz, sm, fun H1 s1 => ⟨_, rfl, ?_⟩⟩
    have q : ∀ H', Same H H' → Q (.bl (formB 6 d && decide (leafN 6 d ≤ 12))) H' := q
    by_cases fm : formB 6 d = true
    · rw [fm] at q ⊢
      refine iteT ⟨_, rfl, S, v, d, rfl, dz.same s1, fm, fun H2 p xs s2 _ hp xl => ⟨p, _, rfl, .inl (sqL hp), _, 12, rfl, rfl, ?_⟩⟩
      have := q H2 (s1.trans s2)
      show Q (.bl (decide ((xs.length : Int) ≤ 12))) H2
      rw [show decide ((xs.length : Int) ≤ 12) = (true && decide (leafN 6 d ≤ 12)) by rw [Bool.true_and, xl]; congr 1; exact propext ⟨fun h => by omega, fun h => by omega⟩]
      exact this
    · have fm' : formB 6 d = false := by simpa using fm
      rw [fm'] at q ⊢
      exact iteF (q H1 s1)
def condNB (d : PyData) : Bool := match d with | .none => true | d => condB d
theorem ok_condN {f fC : Addr} {fd fdC : FuncData} {k : Nat} (D : Df K mg "is_cond_or_none" sCondN f fd ["thing"]) (DC : Df K mg "is_cond" sCond fC fdC ["thing"]) (GC : FnOk P w K mg base CX0 (k + 11) fC fdC ["thing"] (spB K condB)) : FnOk P w K mg base CX0 (k + 12) f fd ["thing"] (spB K condNB) := by
  refine D.fn.ok scCondN (fun vs H Q E h => ?_) (fun cdv A outer s H vs Q E hr h => ?_)
  · obtain ⟨S, v, d, rfl, _⟩ := h
    rfl
  · obtain ⟨S, v, d, rfl, dz, sm, q⟩ := h
    refine ⟨_, pss_one (ps_ret (pe_or (pe_cmpR op_isN (pv 0) pe_non (nomark _)) (pe_one (pe_call GC hr (by rfl) DC.mg DC.fn.kp DC.bd .nil pass0 (pa_cons (pv 0) pa_nil))))), ?_⟩
    refine ⟨_, rfl, rfl, _, rfl, ?_⟩
    cases dz with
    | non => exact iteT (q H (Same.refl H))
    | bl b => exact iteF ⟨_, rfl, S, _, _, rfl, .bl b, sm, q⟩
    | int b => exact iteF ⟨_, rfl, S, _, _, rfl, .int b, sm, q⟩
    | str b => exact iteF ⟨_, rfl, S, _, _, rfl, .str b, sm, q⟩
    | lst n h t => exact iteF ⟨_, rfl, S, _, _, rfl, .lst n h t, sm, q⟩
    | tup h t => exact iteF ⟨_, rfl, S, _, _, rfl, .tup h t, sm, q⟩
    | nod n h => exact iteF ⟨_, rfl, S, _, _, rfl, .nod n h, sm, q⟩
/-! ### refused -/
theorem ok_eDay {fd : FuncData} {k : Nat} (T : ErC K mg "NoDay" "thing" CD fE CW) (F : Fun K "__init__" "NoDay.__init__" sEDay fE fd) : FnOk P w K mg base CX0 (k + 1) fE fd ["self", "thing"] (spInitE CD "thing") := by
  refine F.ok scEDay (fun vs H Q E h => ?_) (fun cdv A outer s H vs Q E hr h => ?_)
  · obtain ⟨a, y, rfl, _⟩ := h
    rfl
  · obtain ⟨a, y, rfl, ha, q⟩ := h
    exact ⟨_, pss_one (ps_ost (pv 0) (pv 1)), y, rfl, .ref a, rfl, a, CD, rfl, T.o, T.no, .inl ⟨ha, fun dx h1 h2 => q dx h1 h2⟩⟩
def spComes0 (K : PySem.W.Frag) (CC CD : Addr) : Sp := fun vs H _ E => ∃ (S : List Addr) (h v st x : V) (d e : PyData), vs = [h, v, st, x] ∧ Dz S K H v d ∧ Sml d ∧ Dz S K H x e ∧
  ((condNB d = false ∧ ∀ H', Same H H' → E (.ref CC) none H') ∨ (condNB d = true ∧ dayB e = false ∧ ∀ H' dd, Same H H' → H' dd = none → E (.ref CD) (some dd) (upd H' dd (.xd [("thing", x)]))))
theorem ok_comes0 {f fC fD : Addr} {fd fdC fdD fdI : FuncData} (TC : ErN K mg "NoCond" CC CW) (TD : ErC K mg "NoDay" "thing" CD fE CW) (FI : Fun K "__init__" "NoDay.__init__" sEDay fE fdI) (bI : Binds K fdI ["self", "thing"] []) (F : FunD K "comes" "comes" (defArgs sComes) (defBody sComes) (defScope sComes) [.int 0] [] f fd)
    (GC : FnOk P w K mg base CX0 12 fC fdC ["thing"] (spB K condNB)) (DC : Df K mg "is_cond_or_none" sCondN fC fdC ["thing"]) (GD : FnOk P w K mg base CX0 2 fD fdD ["thing"] (spDay K)) (DD : Df K mg "is_day" sDay fD fdD ["thing"]) :
    FnOk P w K mg base (L2.CX P w) 13 f fd ["house", "cond", "story", "wait"] (spComes0 K CC CD) := by
  have GI : FnOk P w K mg base CX0 1 fE fdI ["self", "thing"] (spInitE CD "thing") := ok_eDay (k := 0) TD FI
  refine F.ok scComes (fun vs H Q E h => ?_) (fun cdv A outer s H vs Q E hr h => ?_)
  · obtain ⟨S, h, v, st, x, d, e, rfl, _⟩ := h
    rfl
  · obtain ⟨S, h, v, st, x, d, e, rfl, dz, sm, dx, hc⟩ := h
    have r2 : Room 2 _ := hr.mono (by omega)
    refine ⟨_, pss_cons (ps_if (pt_not (pt_val (pe_call GC hr (by rfl) DC.mg DC.fn.kp DC.bd .nil pass0 (pa_cons (pv 1) pa_nil))))
          (pss_one (ps_raise rfl (takes_of rfl rfl rfl rfl) (pmk_own0 PySem.F.excBase_ValueError TC.x_ TC.g TC.k (raises_own TC.b TC.t) (by rfl)))) pss_nil)
      (pss_cons (ps_if (pt_not (pt_val (pe_call GD r2 (by rfl) DD.mg DD.fn.kp DD.bd .nil pass0 (pa_cons (pv 3) pa_nil))))
          (pss_one (ps_raise rfl (takes_of rfl rfl rfl rfl) (pmk_oex TD.o TD.i TD.t GI r2 bI .nil pass0 (by rfl) TD.g (pa_cons (pv 3) pa_nil)))) pss_nil) pss_no), ?_⟩
    refine ⟨_, rfl, S, v, d, rfl, dz, sm, fun H1 s1 => ⟨_, rfl, ?_⟩⟩
    rcases hc with ⟨bad, q⟩ | ⟨good, bad, q⟩
    · rw [bad]
      exact iteT (q H1 s1)
    · rw [good]
      refine iteF ⟨_, rfl, S, x, e, rfl, dx.same s1, _, rfl, ?_⟩
      rw [bad]
      exact iteT (raise_var rfl fun dd h => q H1 dd s1 h)
end
end WdQ

set_option Elab.async false
set_option linter.all false
set_option maxRecDepth 100000
set_option maxHeartbeats 4000000
namespace Wd
open PySem PySem.Spec PyProof.Rows L2 WdM
/-! ### unlike names -/
/-- a text of letters, not too long -/
def wdB (n : Nat) (z : Str) : Prop := okL z ∧ 1 ≤ z.length ∧ z.length ≤ n
/-- a drawn name -/
def Nm (z : Str) : Prop := wdB 6 z ∧ inV (.str z) noNames = false
theorem Nm.name {z : Str} (h : Nm z) : nmB z = true := by
  unfold nmB
  rw [h.2, decide_eq_true (show 1 ≤ z.length ∧ z.length ≤ 8 from ⟨h.1.2.1, by have := h.1.2.2; omega⟩)]
  rw [show z.cps.toList.all letB = true from List.all_eq_true.mpr h.1.1]
  rfl
theorem app_cps (x y : Str) : (x ++ y).cps.toList = x.cps.toList ++ y.cps.toList := by
  show (x.cps ++ y.cps).toList = _
  exact Array.toList_append
theorem str_ext {x y : Str} (h : x.cps.toList = y.cps.toList) : x = y := by
  cases x; cases y
  have := Array.toList_inj.mp h
  simp only at this
  rw [this]
theorem app_len (x y : Str) : (x ++ y).length = x.length + y.length := by
  show (x.cps ++ y.cps).size = _
  rw [Array.size_append]
  rfl
theorem okL_app {x y : Str} (hx : okL x) (hy : okL y) : okL (x ++ y) := fun c hc => by
  rw [app_cps] at hc
  rcases List.mem_append.mp hc with h | h
  · exact hx c h
  · exact hy c h
theorem cut_sub {z : Str} {lo hi : Option Int} {c : Nat} (h : c ∈ (cutS z lo hi).cps.toList) : c ∈ z.cps.toList := by
  unfold cutS at h
  exact List.mem_of_mem_drop (List.mem_of_mem_take h)
/-- word[:4] + letter + "x" -/
def cand (z : Str) (c : Nat) : Str := cutS z none (some 4) ++ ⟨#[c]⟩ ++ "x"
theorem cand_cps (z : Str) (c : Nat) : (cand z c).cps.toList = (cutS z none (some 4)).cps.toList ++ [c, 120] := by
  unfold cand
  rw [app_cps, app_cps, List.append_assoc]
  rfl
theorem cand_inj {z : Str} {c d : Nat} (h : cand z c = cand z d) : c = d := by
  have := congrArg (fun s : Str => s.cps.toList) h
  simp only [cand_cps] at this
  have := List.append_cancel_left this
  exact (List.cons.inj this).1
theorem eqV_str {a b : Str} (h : eqV (.str a) (.str b) = true) : a = b := by
  have h : (a == b) = true := h
  exact eq_of_beq h
theorem inV_str {z : Str} {ws : List Str} : inV (.str z) (ws.map V.str) = true ↔ z ∈ ws := by
  unfold inV
  rw [List.any_map, List.any_eq_true]
  constructor
  · rintro ⟨x, hx, e⟩
    rw [← eqV_str e]
    exact hx
  · intro h
    exact ⟨z, h, by show (z == z) = true; exact beq_self_eq_true z⟩
def noS : List Str := ["all", "and", "children", "childless", "crown", "else", "if", "lives", "not", "of", "or", "stock", "to"]
theorem noNames_eq : noNames = noS.map V.str := rfl
theorem no_last : ∀ z ∈ noS, z.cps.toList.getLast? ≠ some 120 := by decide +kernel
theorem cand_no {z : Str} {c : Nat} : inV (.str (cand z c)) noNames = false := by
  rw [Bool.eq_false_iff, noNames_eq]
  intro h
  have := no_last _ (inV_str.mp h)
  rw [cand_cps] at this
  exact this (by simp)
theorem cand_wd {z : Str} {c : Nat} (h : okL z) (hc : letB c = true) : wdB 6 (cand z c) := by
  refine ⟨?_, ?_, ?_⟩
  · intro x hx
    rw [cand_cps] at hx
    rcases List.mem_append.mp hx with h1 | h1
    · exact h x (cut_sub h1)
    · simp only [List.mem_cons, List.not_mem_nil, or_false] at h1
      rcases h1 with rfl | rfl
      · exact hc
      · decide
  · unfold cand
    rw [app_len]
    show 1 ≤ _ + 1
    omega
  · unfold cand
    rw [app_len, app_len]
    have : (cutS z none (some 4)).length ≤ 4 := by
      show (((z.cps.toList.drop (HT.sIx z.length 0 none)).take (HT.sIx z.length z.length (some 4) - HT.sIx z.length 0 none)).toArray).size ≤ 4
      rw [List.size_toArray, List.length_take, List.length_drop]
      have : HT.sIx z.length z.length (some 4) ≤ 4 := by
        unfold HT.sIx
        simp
        omega
      omega
    show _ + 1 + 1 ≤ 6
    omega
theorem pick {f : Nat → Str} (inj : ∀ c d, f c = f d → c = d) : ∀ (cs : List Nat) (found : List Str), cs.Nodup → (∀ c ∈ cs, f c ∈ found) → cs.length ≤ found.length
  | [], _, _, _ => Nat.zero_le _
  | c :: cs, found, nd, h => by
    have h0 := h c List.mem_cons_self
    have nd' := List.nodup_cons.mp nd
    have := pick inj cs (found.erase (f c)) nd'.2 (fun d hd => by
      refine (List.mem_erase_of_ne (fun e => ?_)).mpr (h d (List.mem_cons_of_mem _ hd))
      exact nd'.1 (inj _ _ e ▸ hd))
    rw [List.length_erase_of_mem h0] at this
    have := List.length_pos_of_mem h0
    rw [List.length_cons]
    omega
theorem letters_nodup : lettersS.cps.toList.Nodup := by decide +kernel
/-- the candidates of a word, and those that may be taken -/
def cands (z : Str) : List Str := z :: lettersS.cps.toList.map (cand z)
def freeB (found : List Str) (z : Str) : Bool := !inV (.str z) (found.map V.str) && !inV (.str z) noNames
theorem some_free {z : Str} {found : List Str} (h : found.length < 26) : ∃ y ys, (cands z).filter (freeB found) = y :: ys := by
  cases e : (cands z).filter (freeB found) with
  | cons y ys => exact ⟨y, ys, rfl⟩
  | nil =>
    exfalso
    have all : ∀ c ∈ lettersS.cps.toList, cand z c ∈ found := fun c hc => by
      have := List.filter_eq_nil_iff.mp e (cand z c) (List.mem_cons_of_mem _ (List.mem_map_of_mem hc))
      unfold freeB at this
      rw [cand_no] at this
      apply inV_str.mp
      cases h2 : inV (.str (cand z c)) (found.map V.str) with
      | true => rfl
      | false => rw [h2] at this; exact absurd rfl this
    have := pick (f := cand z) (fun _ _ => cand_inj) _ _ letters_nodup all
    have : lettersS.cps.toList.length = 26 := by decide +kernel
    omega
theorem free_nm {z y : Str} {found : List Str} (hz : wdB 6 z) (h : y ∈ (cands z).filter (freeB found)) : Nm y ∧ y ∉ found := by
  obtain ⟨h1, h2⟩ := List.mem_filter.mp h
  obtain ⟨a, b⟩ := Bool.and_eq_true_iff.mp h2
  have b : inV (.str y) noNames = false := by simpa using b
  have a : inV (.str y) (found.map V.str) = false := by simpa using a
  refine ⟨⟨?_, b⟩, fun m => by rw [inV_str.mpr m] at a; cases a⟩
  rcases List.mem_cons.mp h1 with rfl | h1
  · exact hz
  · obtain ⟨c, hc, rfl⟩ := List.mem_map.mp h1
    exact cand_wd hz.1 (decide_eq_true hc)
/-! ### texts in their order -/
def LtS (a b : Str) : Prop := a.cps.toList < b.cps.toList
theorem LtS.trans {a b c : Str} (h : LtS a b) (h2 : LtS b c) : LtS a c := List.lt_trans h h2
theorem lt_of_not {a b : Str} (h : ltCps b.cps.toList a.cps.toList = false) (n : a ≠ b) : LtS a b := by
  rw [ltCps_eq] at h
  have h := of_decide_eq_false h
  have h1 := List.not_lt.mp h
  apply Classical.byContradiction
  intro h2
  exact n (str_ext (List.le_antisymm h1 (List.not_lt.mp h2)))
theorem rising_pw : ∀ (p : Str) (l : List Str), risingS p l = true → (p :: l).Nodup → (p :: l).Pairwise LtS
  | p, [], _, _ => List.pairwise_singleton _ _
  | p, x :: r, h, nd => by
    obtain ⟨h1, h2⟩ := Bool.and_eq_true_iff.mp (show (!ltCps x.cps.toList p.cps.toList && risingS x r) = true from h)
    have h1 : ltCps x.cps.toList p.cps.toList = false := by simpa using h1
    have nd' := List.nodup_cons.mp nd
    have ih := rising_pw x r h2 nd'.2
    have px : LtS p x := lt_of_not h1 (fun e => nd'.1 (e ▸ List.mem_cons_self))
    refine List.pairwise_cons.mpr ⟨fun y hy => ?_, ih⟩
    rcases List.mem_cons.mp hy with rfl | hy
    · exact px
    · exact px.trans ((List.pairwise_cons.mp ih).1 y hy)
theorem sorted_pw {l : List Str} (h : sortedS l = true) (nd : l.Nodup) : l.Pairwise LtS := by
  cases l with
  | nil => exact List.Pairwise.nil
  | cons x r => exact rising_pw x r h nd
theorem pw_next : ∀ {l : List Str} {i : Nat} {a b : Str}, l.Pairwise LtS → l[i]? = some a → l[i + 1]? = some b → LtS a b
  | [], i, a, b, _, h, _ => by cases h
  | x :: l, 0, a, b, p, h, h2 => by
    cases h
    exact (List.pairwise_cons.mp p).1 b (List.mem_of_getElem? (show l[0]? = some b from h2))
  | x :: l, i + 1, a, b, p, h, h2 => pw_next (List.pairwise_cons.mp p).2 (show l[i]? = some a from h) (show l[i + 1]? = some b from h2)
end Wd

set_option Elab.async false
set_option linter.all false
set_option maxRecDepth 100000
set_option maxHeartbeats 4000000
set_option exponentiation.threshold 5000
namespace WdQ
open PySem PySem.Spec PyProof.Rows L2 WdM Wd
abbrev sDeath : Stmt := topS 65
abbrev sChkD : Stmt := topS 66
abbrev sStory : Stmt := topS 68
abbrev sSI : Stmt := inClass sStory 0
theorem scDeath : FnScope ["thing", "ahead", "name", "day"] ["thing", "ahead"] (defScope sDeath) := ⟨rfl, rfl, rfl, by decide +kernel, rfl, by decide +kernel, by decide +kernel⟩
theorem scChkD : FnScope ["deaths", "ahead", "number", "death"] ["deaths"] (defScope sChkD) := ⟨rfl, rfl, rfl, by decide +kernel, rfl, by decide +kernel, by decide +kernel⟩
theorem scSI : FnScope ["self", "deaths", "rows"] ["self", "deaths"] (defScope sSI) := ⟨rfl, rfl, rfl, by decide +kernel, rfl, by decide +kernel, by decide +kernel⟩
structure GoodD (rows : List (Str × Int)) : Prop where
  l8 : rows.length ≤ 8
  nm : ∀ r ∈ rows, nmB r.1 = true ∧ r.1.length ≤ 1000
  dy : ∀ r ∈ rows, -9999 ≤ r.2 ∧ r.2 ≤ 9999
  up : ∀ (i : Nat) (r s : Str × Int), rows[i]? = some r → rows[i + 1]? = some s → r.1.cps.toList < s.1.cps.toList
def DeathsAt (K : PySem.W.Frag) (H : Hp) (v : V) (rows : List (Str × Int)) : Prop := ∃ (t : Addr) (xs : List V), v = .ref t ∧ SqT K H t xs ∧ xs.length = rows.length ∧ ∀ (i : Nat) (x : V), xs[i]? = some x → ∃ (a : Addr) (r : Str × Int), x = .ref a ∧ rows[i]? = some r ∧ SqT K H a [.str r.1, .int r.2]
section
variable {P : Program} {w : World} {K : PySem.W.Frag} {mg : Str → Option Value} {base : Heap} {CH CY : Addr}
theorem DeathsAt.tk {H H' : Hp} {v : V} {rows : List (Str × Int)} (h : DeathsAt K H v rows) (e : Tk H H') : DeathsAt K H' v rows := by
  obtain ⟨t, xs, rfl, hs, l, hx⟩ := h
  exact ⟨t, xs, rfl, e.sq hs, l, fun i x hi => by obtain ⟨a, r, e1, e2, e3⟩ := hx i x hi; exact ⟨a, r, e1, e2, e.sq e3⟩⟩
/-! ### one of the deaths -/
def ahV : Option Str → V
  | none => .non
  | some y => .str y
def spDeath (K : PySem.W.Frag) : Sp := fun vs H Q _ => ∃ (t : Addr) (z : Str) (d : Int) (o : Option Str), vs = [.ref t, ahV o] ∧ SqT K H t [.str z, .int d] ∧ nmB z = true ∧ z.length ≤ 1000 ∧ -9999 ≤ d ∧ d ≤ 9999 ∧ (∀ y, o = some y → y.cps.toList < z.cps.toList) ∧ ∀ H', Same H H' → Q (.bl true) H'
theorem ok_death {f fN fY : Addr} {fd fdN fdY : FuncData} {k : Nat} (B : Bi mg) (GN : FnOk P w K mg base CX0 (k + 2) fN fdN ["thing"] (spName K)) (GY : FnOk P w K mg base CX0 (k + 2) fY fdY ["thing"] (spDay K)) (D : Df K mg "is_death" sDeath f fd ["thing", "ahead"]) (DN : Df K mg "is_name" sName fN fdN ["thing"]) (DY : Df K mg "is_day" sDay fY fdY ["thing"]) :
    FnOk P w K mg base CX0 (k + 3) f fd ["thing", "ahead"] (spDeath K) := by
  refine D.fn.ok scDeath (fun vs H Q E h => ?_) (fun cdv A outer s H vs Q E hr h => ?_)
  · obtain ⟨t, z, d, o, rfl, _⟩ := h
    rfl
  · obtain ⟨t, z, d, o, rfl, hs, nm, zl, d0, d1, po, q⟩ := h
    refine ⟨_, pss_cons (ps_if (PW.pt (pw_or (pt_not (pt_val (pe_callB call_isi (by rfl) B.isi boot_isinstance (pa_cons (pv 0) (pa_cons (pe_bltn (v := .ty "tuple") (by rfl) B.tuple boot_tuple rfl) pa_nil)))))
          (pw_or1 (pt_cmpR op_ne (pe_callB call_len_seq (by rfl) B.len PySem.boot_len (pa_cons (pv 0) pa_nil)) pe_int (nomark _))))) (pss_one (ps_ret pe_bl)) pss_nil)
      (pss_cons (ps_asg (pv 0) (pg_tup rfl (pgs_cons (pg_name (i := 2) scDeath.nd rfl (.inl rfl)) (pgs_cons (pg_name (i := 3) scDeath.nd rfl (.inl rfl)) pgs_nil))))
      (pss_cons (ps_if (PW.pt (pw_or (pt_not (pt_val (pe_call GN hr (by rfl) DN.mg DN.fn.kp DN.bd .nil pass0 (pa_cons (pv 2) pa_nil)))) (pw_or1 (pt_not (pt_val (pe_call GY hr (by rfl) DY.mg DY.fn.kp DY.bd .nil pass0 (pa_cons (pv 3) pa_nil))))))) (pss_one (ps_ret pe_bl)) pss_nil)
      (pss_one (ps_ret (pe_or (pe_cmpR op_isN (pv 1) pe_non (nomark _)) (pe_one (pe_cmpR op_gt_str (pv 2) (pv 1) (nomark _)))))))), ?_⟩
    refine ⟨_, rfl, _, .ty "tuple", _, .type "tuple", true, rfl, .ty _, tyT hs, kit_ty (by decide +kernel), true, rfl, iteF ⟨_, rfl, t, _, rfl, .inr hs, rfl, _, rfl, iteF ?_⟩⟩
    refine ⟨_, rfl, t, _, rfl, hs, rfl, _, _, rfl, _, _, rfl, rfl, ?_⟩
    refine ⟨_, rfl, .str z, .str z, rfl, (Th.dp (.str z)).is, (fun y e => by cases e; exact zl), fun H1 sm => ?_⟩
    rw [show nameB (.str z) = true from nm]
    refine ⟨true, rfl, iteF ⟨_, rfl, [], .int d, .int d, rfl, .int d, ?_⟩⟩
    rw [show dayB (.int d) = true from decide_eq_true ⟨d0, d1⟩]
    refine ⟨true, rfl, iteF ⟨_, rfl, rfl, _, rfl, ?_⟩⟩
    cases o with
    | none => exact iteT (q H1 sm)
    | some y =>
      refine iteF ⟨_, rfl, _, rfl, z, y, rfl, rfl, ?_⟩
      rw [decide_eq_true (po y rfl)]
      exact q H1 sm
def spChkD (K : PySem.W.Frag) : Sp := fun vs H Q _ => ∃ (v : V) (rows : List (Str × Int)), vs = [v] ∧ DeathsAt K H v rows ∧ GoodD rows ∧ ∀ H', Same H H' → Q .non H'
def lastN (rows : List (Str × Int)) : Nat → Option Str
  | 0 => none
  | i + 1 => rows[i]?.map Prod.fst
theorem ok_chkD {f fD : Addr} {fd fdD : FuncData} {tM : Tok} {k : Nat} (B : Bi mg) (gM : mg "MOST_DEATHS" = some (.int 8 tM))
    (GD : FnOk P w K mg base CX0 (k + 3) fD fdD ["thing", "ahead"] (spDeath K)) (D : Df K mg "check_deaths" sChkD f fd ["deaths"]) (DD : Df K mg "is_death" sDeath fD fdD ["thing", "ahead"]) : FnOk P w K mg base (L2.CX P w) (k + 4) f fd ["deaths"] (spChkD K) := by
  refine D.fn.okX scChkD (fun vs H Q E h => ?_) (fun cdv A outer s H vs Q E hr h => ?_)
  · obtain ⟨v, rows, rfl, _⟩ := h
    rfl
  · obtain ⟨v, rows, rfl, ⟨t, xs, rfl, ht, xl, hx⟩, gf, q⟩ := h
    refine ⟨_, pss_cons (ps_if (PW.pt (pw_or (pt_not (pt_val (pe_callB call_isi (by rfl) B.isi boot_isinstance (pa_cons (pv 0) (pa_cons (pe_bltn (v := .ty "tuple") (by rfl) B.tuple boot_tuple rfl) pa_nil)))))
          (pw_or1 (pt_cmpR op_gt (pe_callB call_len_seq (by rfl) B.len PySem.boot_len (pa_cons (pv 0) pa_nil)) (pe_glob (v := .int 8) (by rfl) gM ⟨_, rfl⟩) (nomark _))))) (pss_one ps_no) pss_nil)
      (pss_cons (ps_set (i := 1) scChkD.nd rfl (.inl rfl) pe_non)
      (pss_one (ps_for (passes_of rfl) rfl (pi_E .tu (by rfl) B.enum (pa_cons (pv 0) pa_nil)) (pg_tup rfl (pgs_cons (pg_name (i := 2) scChkD.nd rfl (.inl rfl)) (pgs_cons (pg_name (i := 3) scChkD.nd rfl (.inl rfl)) pgs_nil)))
        (pss_cons (ps_if (pt_not (pt_val (pe_call GD hr (by rfl) DD.mg DD.fn.kp DD.bd .nil pass0 (pa_cons (pv 3) (pa_cons (pv 1) pa_nil))))) (pss_one ps_no) pss_nil)
        (pss_one (ps_set (i := 1) scChkD.nd rfl (.inl rfl) (pe_ix (r := rIxT K) ix_tup (pv 3) pe_int (fun _ _ => rfl)))))))), ?_⟩
    have l8 := gf.l8
    refine ⟨_, rfl, _, .ty "tuple", _, .type "tuple", true, rfl, .ty _, tyT ht, kit_ty (by decide +kernel), true, rfl, iteF ⟨_, rfl, t, _, rfl, .inr ht, _, 8, rfl, rfl, _, rfl, ?_⟩⟩
    rw [decide_eq_false (show ¬ (8 : Int) < ((xs.length : Nat) : Int) by omega)]
    refine iteF ?_
    refine ⟨_, rfl, t, _, rfl, ht, for_it (walkE (K := K) (k := .tu) (a := t) (xs := xs)) (fun i σ H' => ∃ y2 y3, σ = [some (.ref t), some (ahV (lastN rows i)), y2, y3] ∧ Same H H') ⟨none, none, rfl, Same.refl H⟩ (fun i σ H' _ ⟨_, _, _, s⟩ => (tk_same s).sq ht) ?_ ?_⟩
    · rintro i _ σ H4 _ i1 ⟨y2, y3, rfl, s4⟩ ⟨T1, _, y, rfl, nT, rfl, ei, hy⟩
      cases ei
      obtain ⟨a, r, rfl, hr, ha⟩ := hx i y hy
      have s5 : Same H4 (upd H4 T1 (.tup [.int (i : Nat), .ref a])) := same_new nT
      have g5 : (upd H4 T1 (.tup [.int (i : Nat), .ref a])) T1 = some (.tup [.int (i : Nat), .ref a]) := upd_same
      revert s5 g5
      generalize upd H4 T1 (.tup [.int (i : Nat), .ref a]) = H5
      intro s5 g5
      refine ⟨T1, _, rfl, sqT g5, rfl, _, _, rfl, _, _, rfl, rfl, ?_⟩
      have h25 := (tk_same (s4.trans s5)).sq ha
      have m := List.mem_of_getElem? hr
      have nm := gf.nm r m
      have dy := gf.dy r m
      refine ⟨_, rfl, _, rfl, a, r.1, r.2, lastN rows i, rfl, h25, nm.1, nm.2, dy.1, dy.2, ?_, fun H6 s6 => ⟨true, rfl, iteF ?_⟩⟩
      · intro z e
        cases i with
        | zero => cases e
        | succ j =>
          have e : rows[j]?.map Prod.fst = some z := e
          cases hj : rows[j]? with
          | none => rw [hj] at e; cases e
          | some r0 =>
            rw [hj] at e
            cases e
            exact gf.up j r0 r hj hr
      refine ⟨_, rfl, a, _, 0, .str r.1, rfl, rfl, (tk_same s6).sq h25, atI_nat (j := 0) rfl, ?_⟩
      refine ⟨some (.int (i : Nat)), some (.ref a), ?_, s4.trans (s5.trans s6)⟩
      show [some (.ref t), some (V.str r.1), some (.int (i : Nat)), some (.ref a)] = [some (.ref t), some (ahV (rows[i]?.map Prod.fst)), some (.int (i : Nat)), some (.ref a)]
      rw [hr]
      rfl
    · rintro σ H4 ⟨y2, y3, rfl, s4⟩
      exact q H4 s4
structure SyF (K : PySem.W.Frag) (C : Addr) : Prop where
  cl : Cls K C
  n1 : NoAttr K C "deaths"
def spSI (K : PySem.W.Frag) (CY : Addr) : Sp := fun vs H Q _ => ∃ (o dx : Addr) (v : V) (rows : List (Str × Int)), vs = [.ref o, v] ∧ H o = some (.ins CY dx []) ∧ DeathsAt K H v rows ∧ GoodD rows ∧ ∀ H', Bt [o] H H' → H' o = some (.ins CY dx [("deaths", v)]) → Q .non H'
theorem ok_SI {f fC : Addr} {fd fdC : FuncData} {k : Nat} (T : SyF K CY) (F : FunD K "__init__" "Story.__init__" (defArgs sSI) (defBody sSI) (defScope sSI) [.non] [] f fd) (GC : FnOk P w K mg base (L2.CX P w) (k + 4) fC fdC ["deaths"] (spChkD K)) (DC : Df K mg "check_deaths" sChkD fC fdC ["deaths"]) :
    FnOk P w K mg base (L2.CX P w) (k + 5) f fd ["self", "deaths"] (spSI K CY) := by
  refine F.ok scSI (fun vs H Q E h => ?_) (fun cdv A outer s H vs Q E hr h => ?_)
  · obtain ⟨o, dx, v, rows, rfl, _⟩ := h
    rfl
  · obtain ⟨o, dx, v, rows, rfl, ho, hv, gd, q⟩ := h
    refine ⟨_, pss_cons (ps_set (i := 2) scSI.nd rfl (.inl rfl) (pe_ifExp (pt_cmpR op_isN (pv 1) pe_non (nomark _)) pe_no (pv 1)))
      (pss_cons (ps_expr (pe_callS GC hr (by rfl) DC.mg DC.fn.kp DC.bd (fun σ => passAt (takes_of rfl rfl rfl rfl) σ) (pa_cons (pv 2) pa_nil)))
      (pss_one (ps_fld (pv 0) (pv 2) rfl))), ?_⟩
    obtain ⟨t, xs, rfl, hs, xl, hx⟩ := hv
    refine ⟨_, rfl, rfl, _, rfl, iteF ⟨_, rfl, _, rfl, .ref t, rows, rfl, ⟨t, xs, rfl, hs, xl, hx⟩, gd, fun H1 s1 => ?_⟩⟩
    refine ⟨_, rfl, _, rfl, o, CY, dx, _, rfl, s1 _ _ ho, T.cl, T.n1, by show 0 < 1000; decide, ?_⟩
    exact q _ ((Bt.of_same s1).upd1 (by simp)) upd_same
end
end WdQ

set_option Elab.async false
set_option linter.all false
set_option maxRecDepth 100000
set_option maxHeartbeats 4000000
set_option exponentiation.threshold 5000
namespace WdQ
open PySem PySem.Spec PyProof.Rows L2 WdM Wd
abbrev sSum : Stmt := topS 28
abbrev sPerson : Stmt := topS 41
abbrev sChkP : Stmt := topS 43
abbrev sChkG : Stmt := topS 44
abbrev sHouse : Stmt := topS 47
abbrev sHI : Stmt := inClass sHouse 0
theorem scSum : FnScope ["thing"] ["thing"] (defScope sSum) := ⟨rfl, rfl, rfl, by decide +kernel, rfl, by decide +kernel, by decide +kernel⟩
theorem scPerson : FnScope ["thing", "ahead", "name", "parent"] ["thing", "ahead"] (defScope sPerson) := ⟨rfl, rfl, rfl, by decide +kernel, rfl, by decide +kernel, by decide +kernel⟩
theorem scChkP : FnScope ["people", "ahead", "number", "person"] ["people"] (defScope sChkP) := ⟨rfl, rfl, rfl, by decide +kernel, rfl, by decide +kernel, by decide +kernel⟩
theorem scChkG : FnScope ["goods", "ahead", "number", "good"] ["goods"] (defScope sChkG) := ⟨rfl, rfl, rfl, by decide +kernel, rfl, by decide +kernel, by decide +kernel⟩
theorem scHI : FnScope ["self", "people", "goods", "purse", "debts", "things", "amount"] ["self", "people", "goods", "purse", "debts"] (defScope sHI) := ⟨rfl, rfl, rfl, by decide +kernel, rfl, by decide +kernel, by decide +kernel⟩
def parV : Option Str → V
  | none => .non
  | some y => .str y
/-- rows that a house is made of -/
structure GoodF (rows : List (Str × Option Str)) : Prop where
  l1 : 1 ≤ rows.length
  l8 : rows.length ≤ 8
  nd : (rows.map Prod.fst).Nodup
  nm : ∀ r ∈ rows, Nm r.1
  pr : ∀ (i : Nat) (r : Str × Option Str) (y : Str), rows[i]? = some r → r.2 = some y → y ∈ (rows.take i).map Prod.fst
def FolkAt (K : PySem.W.Frag) (H : Hp) (v : V) (rows : List (Str × Option Str)) : Prop := ∃ (t : Addr) (xs : List V), v = .ref t ∧ SqT K H t xs ∧ xs.length = rows.length ∧ ∀ (i : Nat) (x : V), xs[i]? = some x → ∃ (a : Addr) (r : Str × Option Str), x = .ref a ∧ rows[i]? = some r ∧ SqT K H a [.str r.1, parV r.2]
section
variable {P : Program} {w : World} {K : PySem.W.Frag} {mg : Str → Option Value} {base : Heap} {CH CY : Addr}
theorem FolkAt.tk {H H' : Hp} {v : V} {rows : List (Str × Option Str)} (h : FolkAt K H v rows) (e : Tk H H') : FolkAt K H' v rows := by
  obtain ⟨t, xs, rfl, hs, l, hx⟩ := h
  exact ⟨t, xs, rfl, e.sq hs, l, fun i x hi => by obtain ⟨a, r, e1, e2, e3⟩ := hx i x hi; exact ⟨a, r, e1, e2, e.sq e3⟩⟩
def spZero : Sp := fun vs H Q _ => vs = [.int 0] ∧ Q (.bl true) H
theorem ok_zero {f fW : Addr} {fd fdW : FuncData} {k : Nat} {tS : Tok} (B : Bi mg) (gS : mg "MOST_SUM" = some (.int 1000000000 tS)) (D : Df K mg "is_sum" sSum f fd ["thing"]) (DW : Df K mg "is_whole" sWhole fW fdW ["thing"]) : FnOk P w K mg base CX0 (k + 2) f fd ["thing"] spZero := by
  have GW : FnOk P w K mg base CX0 (k + 1) fW fdW ["thing"] (spWhole K) := ok_whole B DW
  refine D.fn.ok scSum (fun vs H Q E h => ?_) (fun cdv A outer s H vs Q E hr h => ?_)
  · obtain ⟨rfl, _⟩ := h
    rfl
  · obtain ⟨rfl, q⟩ := h
    refine ⟨_, pss_one (ps_ret (pe_and (pe_call GW hr (by rfl) DW.mg DW.fn.kp DW.bd .nil pass0 (pa_cons (pv 0) pa_nil)) (pe_one (pe_chain op_le op_le pe_int (pv 0) (pe_glob (v := .int 1000000000) (by rfl) gS ⟨_, rfl⟩))))), ?_⟩
    exact ⟨_, rfl, .int 0, .int 0, rfl, (Th.dp (.int 0)).is, true, rfl, iteT ⟨_, rfl, 0, 0, rfl, rfl, true, rfl, iteT ⟨0, _, rfl, rfl, q⟩⟩⟩
/-! ### one of the people -/
def spPerson (K : PySem.W.Frag) : Sp := fun vs H Q _ => ∃ (t l : Addr) (z : Str) (o : Option Str) (ns : List Str), vs = [.ref t, .ref l] ∧ SqT K H t [.str z, parV o] ∧ H l = some (.lst (ns.map V.str)) ∧ nmB z = true ∧ z.length ≤ 1000 ∧ z ∉ ns ∧ (∀ y, o = some y → y ∈ ns) ∧ ∀ H', Same H H' → Q (.bl true) H'
theorem flatS (zs : List Str) : (zs.map V.str).all flatV = true := by
  rw [List.all_map, List.all_eq_true]
  exact fun _ _ => rfl
theorem ok_person {f fN fW : Addr} {fd fdN fdW : FuncData} {k : Nat} (B : Bi mg) (GN : FnOk P w K mg base CX0 (k + 1) fN fdN ["thing"] (spName K)) (GW : FnOk P w K mg base CX0 (k + 1) fW fdW ["thing", "words"] (spWord K)) (D : Df K mg "is_person" sPerson f fd ["thing", "ahead"]) (DN : Df K mg "is_name" sName fN fdN ["thing"]) (DW : Df K mg "is_word" sWord fW fdW ["thing", "words"]) :
    FnOk P w K mg base CX0 (k + 2) f fd ["thing", "ahead"] (spPerson K) := by
  refine D.fn.ok scPerson (fun vs H Q E h => ?_) (fun cdv A outer s H vs Q E hr h => ?_)
  · obtain ⟨t, l, z, o, ns, rfl, _⟩ := h
    rfl
  · obtain ⟨t, l, z, o, ns, rfl, hs, hl, nm, zl, nn, po, q⟩ := h
    refine ⟨_, pss_cons (ps_if (PW.pt (pw_or (pt_not (pt_val (pe_callB call_isi (by rfl) B.isi boot_isinstance (pa_cons (pv 0) (pa_cons (pe_bltn (v := .ty "tuple") (by rfl) B.tuple boot_tuple rfl) pa_nil)))))
          (pw_or1 (pt_cmpR op_ne (pe_callB call_len_seq (by rfl) B.len PySem.boot_len (pa_cons (pv 0) pa_nil)) pe_int (nomark _))))) (pss_one (ps_ret pe_bl)) pss_nil)
      (pss_cons (ps_asg (pv 0) (pg_tup rfl (pgs_cons (pg_name (i := 2) scPerson.nd rfl (.inl rfl)) (pgs_cons (pg_name (i := 3) scPerson.nd rfl (.inl rfl)) pgs_nil))))
      (pss_cons (ps_if (PW.pt (pw_or (pt_not (pt_val (pe_call GN hr (by rfl) DN.mg DN.fn.kp DN.bd .nil pass0 (pa_cons (pv 2) pa_nil)))) (pw_or1 (pt_cmpR op_in_seq (pv 2) (pv 1) (by rfl))))) (pss_one (ps_ret pe_bl)) pss_nil)
      (pss_one (ps_ret (pe_or (pe_cmpR op_isN (pv 3) pe_non (nomark _)) (pe_one (pe_call GW hr (by rfl) DW.mg DW.fn.kp DW.bd .nil pass0 (pa_cons (pv 3) (pa_cons (pv 1) pa_nil))))))))), ?_⟩
    refine ⟨_, rfl, _, .ty "tuple", _, .type "tuple", true, rfl, .ty _, tyT hs, kit_ty (by decide +kernel), true, rfl, iteF ⟨_, rfl, t, _, rfl, .inr hs, rfl, _, rfl, iteF ?_⟩⟩
    refine ⟨_, rfl, t, _, rfl, hs, rfl, _, _, rfl, _, _, rfl, rfl, ?_⟩
    refine ⟨_, rfl, .str z, .str z, rfl, (Th.dp (.str z)).is, (fun y e => by cases e; exact zl), fun H1 sm => ?_⟩
    rw [show nameB (.str z) = true from nm]
    have nin : inV (.str z) (ns.map V.str) = false := by
      rw [Bool.eq_false_iff]
      exact fun e => nn (inV_str.mp e)
    refine ⟨true, rfl, iteF ⟨_, rfl, _, rfl, l, _, rfl, .inl (sqL (sm _ _ hl)), rfl, flatS ns, _, rfl, ?_⟩⟩
    show if inV (.str z) (ns.map V.str) = true then _ else _
    rw [nin]
    cases o with
    | none => exact iteF ⟨_, rfl, rfl, true, rfl, iteT (q H1 sm)⟩
    | some y =>
      refine iteF ⟨_, rfl, rfl, false, rfl, iteF ⟨_, rfl, _, rfl, .str y, .str y, l, _, rfl, (Th.dp (.str y)).is, .inl (sqL (sm _ _ hl)), flatS ns, ?_⟩⟩
      rw [show wordB (ns.map V.str) (.str y) = true from inV_str.mpr (po y rfl)]
      exact q H1 sm
def spChkP (K : PySem.W.Frag) : Sp := fun vs H Q _ => ∃ (v : V) (rows : List (Str × Option Str)), vs = [v] ∧ FolkAt K H v rows ∧ GoodF rows ∧ ∀ H', Same H H' → Q .non H'
theorem fst_new {α : Type} : ∀ {rows : List (Str × α)} {i : Nat} {r : Str × α}, (rows.map Prod.fst).Nodup → rows[i]? = some r → r.1 ∉ (rows.take i).map Prod.fst
  | [], i, r, _, h => by cases h
  | s :: rows, 0, r, nd, h => by simp
  | s :: rows, i + 1, r, nd, h => by
    rw [List.map_cons, List.nodup_cons] at nd
    have h : rows[i]? = some r := h
    rw [List.take_succ_cons, List.map_cons, List.mem_cons]
    rintro (e | e)
    · exact nd.1 (e ▸ List.mem_map_of_mem (List.mem_of_getElem? h))
    · exact fst_new nd.2 h e
theorem ok_chkP {f fD : Addr} {fd fdD : FuncData} {tM : Tok} {k : Nat} (B : Bi mg) (gM : mg "MOST_PEOPLE" = some (.int 8 tM))
    (GD : FnOk P w K mg base CX0 (k + 2) fD fdD ["thing", "ahead"] (spPerson K)) (D : Df K mg "check_people" sChkP f fd ["people"]) (DD : Df K mg "is_person" sPerson fD fdD ["thing", "ahead"]) : FnOk P w K mg base (L2.CX P w) (k + 3) f fd ["people"] (spChkP K) := by
  refine D.fn.okX scChkP (fun vs H Q E h => ?_) (fun cdv A outer s H vs Q E hr h => ?_)
  · obtain ⟨v, rows, rfl, _⟩ := h
    rfl
  · obtain ⟨v, rows, rfl, ⟨t, xs, rfl, ht, xl, hx⟩, gf, q⟩ := h
    refine ⟨_, pss_cons (ps_if (PW.pt (pw_or (pt_not (pt_val (pe_callB call_isi (by rfl) B.isi boot_isinstance (pa_cons (pv 0) (pa_cons (pe_bltn (v := .ty "tuple") (by rfl) B.tuple boot_tuple rfl) pa_nil)))))
          (pw_or1 (pt_not (pt_chain op_le op_le pe_int (pe_callB call_len_seq (by rfl) B.len PySem.boot_len (pa_cons (pv 0) pa_nil)) (pe_glob (v := .int 8) (by rfl) gM ⟨_, rfl⟩)))))) (pss_one ps_no) pss_nil)
      (pss_cons (ps_set (i := 1) scChkP.nd rfl (.inl rfl) (pe_lst pa_nil))
      (pss_one (ps_for (passes_of rfl) rfl (pi_E .tu (by rfl) B.enum (pa_cons (pv 0) pa_nil)) (pg_tup rfl (pgs_cons (pg_name (i := 2) scChkP.nd rfl (.inl rfl)) (pgs_cons (pg_name (i := 3) scChkP.nd rfl (.inl rfl)) pgs_nil)))
        (pss_cons (ps_if (pt_not (pt_val (pe_call GD hr (by rfl) DD.mg DD.fn.kp DD.bd .nil pass0 (pa_cons (pv 3) (pa_cons (pv 1) pa_nil))))) (pss_one ps_no) pss_nil)
        (pss_one (ps_expr (pe_bm PySem.F.plainAttrs_list PySem.F.slot_list_append PySem.F.type_list_append mt_append (pv 1) (pa_cons (pe_ix (r := rIxT K) ix_tup (pv 3) pe_int (fun _ _ => rfl)) pa_nil)))))))), ?_⟩
    have l1 := gf.l1
    have l8 := gf.l8
    refine ⟨_, rfl, _, .ty "tuple", _, .type "tuple", true, rfl, .ty _, tyT ht, kit_ty (by decide +kernel), true, rfl, iteF ⟨_, rfl, t, _, rfl, .inr ht, 1, _, rfl, rfl, _, rfl, ?_⟩⟩
    rw [decide_eq_true (show (1 : Int) ≤ ((xs.length : Nat) : Int) by omega)]
    refine iteT ⟨_, 8, rfl, rfl, _, rfl, ?_⟩
    rw [decide_eq_true (show ((xs.length : Nat) : Int) ≤ 8 by omega)]
    refine iteF ?_
    refine ⟨by show 0 ≤ sizeLine; decide, fun l nl => ?_⟩
    have sm0 : Same H (upd H l (.lst [])) := same_new nl
    have hl0 : (upd H l (.lst [])) l = some (.lst []) := upd_same
    revert sm0 hl0
    generalize upd H l (.lst []) = H1
    intro sm0 hl0
    have ht1 := (tk_same sm0).sq ht
    refine ⟨_, rfl, t, _, rfl, ht1, for_it (walkE (K := K) (k := .tu) (a := t) (xs := xs)) (fun i σ H' => ∃ y2 y3, σ = [some (.ref t), some (.ref l), y2, y3] ∧ Same H H' ∧ H' l = some (.lst (((rows.take i).map Prod.fst).map V.str))) ⟨none, none, rfl, sm0, hl0⟩ (fun i σ H' _ ⟨_, _, _, s, _⟩ => (tk_same s).sq ht) ?_ ?_⟩
    · rintro i _ σ H4 _ i1 ⟨y2, y3, rfl, s4, hl4⟩ ⟨T1, _, y, rfl, nT, rfl, ei, hy⟩
      cases ei
      obtain ⟨a, r, rfl, hr, ha⟩ := hx i y hy
      have s5 : Same H4 (upd H4 T1 (.tup [.int (i : Nat), .ref a])) := same_new nT
      have g5 : (upd H4 T1 (.tup [.int (i : Nat), .ref a])) T1 = some (.tup [.int (i : Nat), .ref a]) := upd_same
      revert s5 g5
      generalize upd H4 T1 (.tup [.int (i : Nat), .ref a]) = H5
      intro s5 g5
      refine ⟨T1, _, rfl, sqT g5, rfl, _, _, rfl, _, _, rfl, rfl, ?_⟩
      have h25 := (tk_same (s4.trans s5)).sq ha
      have nm := gf.nm r (List.mem_of_getElem? hr)
      refine ⟨_, rfl, _, rfl, a, l, r.1, r.2, _, rfl, h25, s5 _ _ hl4, nm.name, by have := nm.1.2.2; omega, fst_new gf.nd hr, fun z e => gf.pr i r z hr e, fun H6 s6 => ⟨true, rfl, iteF ?_⟩⟩
      have hl6 := s6 _ _ (s5 _ _ hl4)
      refine ⟨_, rfl, .inl ⟨rfl, _, sqL hl6⟩, _, rfl, a, _, 0, .str r.1, rfl, rfl, (tk_same s6).sq h25, atI_nat (j := 0) rfl, l, _, _, rfl, rfl, hl6, ?_, ?_⟩
      · rw [List.length_map, List.length_map, List.length_take]
        exact Nat.lt_of_lt_of_le (show _ < 9 by omega) (by decide)
      refine ⟨_, _, rfl, ((Bt.of_same (S := []) (s4.trans (s5.trans s6))).upd0 nl).same, ?_⟩
      rw [upd_same, take_more hr, List.map_append, List.map_append]
      rfl
    · rintro σ H4 ⟨y2, y3, rfl, s4, _⟩
      exact q H4 s4
def spChk0 (K : PySem.W.Frag) : Sp := fun vs H Q _ => ∃ t, vs = [.ref t] ∧ SqT K H t [] ∧ ∀ H', Same H H' → Q .non H'
theorem ok_chkG0 {f : Addr} {fd : FuncData} {tM : Tok} {k : Nat} (B : Bi mg) (gM : mg "MOST_GOODS" = some (.int 8 tM)) (D : Df K mg "check_goods" sChkG f fd ["goods"]) : FnOk P w K mg base (L2.CX P w) (k + 1) f fd ["goods"] (spChk0 K) := by
  refine D.fn.okX scChkG (fun vs H Q E h => ?_) (fun cdv A outer s H vs Q E hr h => ?_)
  · obtain ⟨t, rfl, _⟩ := h
    rfl
  · obtain ⟨t, rfl, ht, q⟩ := h
    refine ⟨_, pss_cons (ps_if (PW.pt (pw_or (pt_not (pt_val (pe_callB call_isi (by rfl) B.isi boot_isinstance (pa_cons (pv 0) (pa_cons (pe_bltn (v := .ty "tuple") (by rfl) B.tuple boot_tuple rfl) pa_nil)))))
          (pw_or1 (pt_cmpR op_gt (pe_callB call_len_seq (by rfl) B.len PySem.boot_len (pa_cons (pv 0) pa_nil)) (pe_glob (v := .int 8) (by rfl) gM ⟨_, rfl⟩) (nomark _))))) (pss_one ps_no) pss_nil)
      (pss_cons (ps_set (i := 1) scChkG.nd rfl (.inl rfl) (pe_lst pa_nil))
      (pss_one (ps_for (passes_of rfl) rfl (pi_E .tu (by rfl) B.enum (pa_cons (pv 0) pa_nil)) (pg_tup rfl (pgs_cons (pg_name (i := 2) scChkG.nd rfl (.inl rfl)) (pgs_cons (pg_name (i := 3) scChkG.nd rfl (.inl rfl)) pgs_nil))) pss_noS))), ?_⟩
    refine ⟨_, rfl, _, .ty "tuple", _, .type "tuple", true, rfl, .ty _, tyT ht, kit_ty (by decide +kernel), true, rfl, iteF ⟨_, rfl, t, _, rfl, .inr ht, _, 8, rfl, rfl, _, rfl, iteF ?_⟩⟩
    refine ⟨by show 0 ≤ sizeLine; decide, fun l nl => ?_⟩
    have sm0 : Same H (upd H l (.lst [])) := same_new nl
    revert sm0
    generalize upd H l (.lst []) = H1
    intro sm0
    refine ⟨_, rfl, t, _, rfl, (tk_same sm0).sq ht, for_it (walkE (K := K) (k := .tu) (a := t) (xs := [])) (fun i σ H' => Same H H') sm0 (fun i σ H' _ s => (tk_same s).sq ht) ?_ ?_⟩
    · intro i x σ H3 H4 hi
      exact absurd hi (Nat.not_lt_zero _)
    · intro σ H' s
      exact q H' s
/-! ### House -/
structure HsF (K : PySem.W.Frag) (C : Addr) : Prop where
  cl : Cls K C
  n1 : NoAttr K C "folk"
  n2 : NoAttr K C "things"
  n3 : NoAttr K C "purse"
  n4 : NoAttr K C "debts"
/-- a house of people without goods, purse and debts -/
def HouseAt (K : PySem.W.Frag) (CH : Addr) (H : Hp) (o : Addr) (v : V) : Prop := ∃ (dx t : Addr), H o = some (.ins CH dx [("folk", v), ("things", .ref t), ("purse", .int 0), ("debts", .int 0)]) ∧ SqT K H t []
def spHI (K : PySem.W.Frag) (CH : Addr) : Sp := fun vs H Q _ => ∃ (o dx : Addr) (v : V) (rows : List (Str × Option Str)), vs = [.ref o, v, .non, .int 0, .int 0] ∧ H o = some (.ins CH dx []) ∧ FolkAt K H v rows ∧ GoodF rows ∧ ∀ H', Bt [o] H H' → Q .non H'
theorem ok_HI {f fC fG fS : Addr} {fd fdC fdG fdS : FuncData} {k : Nat} (B : Bi mg) (T : HsF K CH) (F : FunD K "__init__" "House.__init__" (defArgs sHI) (defBody sHI) (defScope sHI) [.non, .int 0, .int 0] [] f fd) (GC : FnOk P w K mg base (L2.CX P w) (k + 3) fC fdC ["people"] (spChkP K)) (DC : Df K mg "check_people" sChkP fC fdC ["people"])
    (GG : FnOk P w K mg base (L2.CX P w) (k + 1) fG fdG ["goods"] (spChk0 K)) (DG : Df K mg "check_goods" sChkG fG fdG ["goods"]) (GS : FnOk P w K mg base CX0 (k + 2) fS fdS ["thing"] spZero) (DS : Df K mg "is_sum" sSum fS fdS ["thing"]) :
    FnOk P w K mg base (L2.CX P w) (k + 4) f fd ["self", "people", "goods", "purse", "debts"] (spHI K CH) := by
  refine F.ok scHI (fun vs H Q E h => ?_) (fun cdv A outer s H vs Q E hr h => ?_)
  · obtain ⟨o, dx, v, rows, rfl, _⟩ := h
    rfl
  · obtain ⟨o, dx, v, rows, rfl, ho, hv, gf, q⟩ := h
    have r1 : Room (k + 1) _ := hr.mono (by omega)
    have r2 : Room (k + 2) _ := hr.mono (by omega)
    refine ⟨_, pss_cons (ps_expr (pe_callS GC hr (by rfl) DC.mg DC.fn.kp DC.bd (fun σ => passAt (takes_of rfl rfl rfl rfl) σ) (pa_cons (pv 1) pa_nil)))
      (pss_cons (ps_set (i := 5) scHI.nd rfl (.inl rfl) (pe_ifExp (pt_cmpR op_isN (pv 2) pe_non (nomark _)) (pe_tup pa_nil) pe_no))
      (pss_cons (ps_expr (pe_callS GG r1 (by rfl) DG.mg DG.fn.kp DG.bd (fun σ => passAt (takes_of rfl rfl rfl rfl) σ) (pa_cons (pv 5) pa_nil)))
      (pss_cons (ps_for (passes_of rfl) rfl (pi_tup (pe_tup (pa_cons (pv 3) (pa_cons (pv 4) pa_nil)))) (pg_name (i := 6) scHI.nd rfl (.inl rfl))
        (pss_one (ps_if (pt_not (pt_val (pe_call GS r2 (by rfl) DS.mg DS.fn.kp DS.bd .nil pass0 (pa_cons (pv 6) pa_nil)))) (pss_one ps_no) pss_nil)))
      (pss_cons (ps_fld (pv 0) (pv 1) rfl) (pss_cons (ps_fld (pv 0) (pv 5) rfl) (pss_cons (ps_fld (pv 0) (pv 3) rfl) (pss_one (ps_fld (pv 0) (pv 4) rfl)))))))), ?_⟩
    refine ⟨_, rfl, v, rows, rfl, hv, gf, fun H1 s1 => ?_⟩
    refine ⟨_, rfl, rfl, _, rfl, iteT ⟨by show 0 ≤ sizeLine; decide, fun t nt => ?_⟩⟩
    refine ⟨_, rfl, t, rfl, sqT upd_same, fun H2 s2 => ?_⟩
    have s12 : Same H H2 := s1.trans ((same_new nt).trans s2)
    refine ⟨_, rfl, _, rfl, by show 2 ≤ sizeLine; decide, fun t2 nt2 => ⟨t2, rfl, ⟨_, sqT upd_same⟩, ?_⟩⟩
    have s3 : Same H (upd H2 t2 (.tup [.int 0, .int 0])) := s12.trans (same_new nt2)
    have g3 : (upd H2 t2 (.tup [.int 0, .int 0])) t2 = some (.tup [.int 0, .int 0]) := upd_same
    revert s3 g3
    generalize upd H2 t2 (.tup [.int 0, .int 0]) = H3
    intro s3 g3
    refine for_tup (K := K) (a := t2) (xs := [.int 0, .int 0]) (fun i σ H' => (∃ y, σ = [some (.ref o), some v, some .non, some (.int 0), some (.int 0), some (.ref t), y]) ∧ H' = H3) ⟨⟨_, rfl⟩, rfl⟩ (fun i σ H' _ h => h.2 ▸ sqT g3) ?_ ?_
    · rintro i x σ H4 hx ⟨⟨y, rfl⟩, rfl⟩
      have : x = .int 0 := by
        match i, hx with
        | 0, hx => cases hx; rfl
        | 1, hx => cases hx; rfl
        | i + 2, hx => cases hx
      subst this
      exact ⟨_, rfl, rfl, true, rfl, iteF ⟨⟨_, rfl⟩, rfl⟩⟩
    · rintro σ H4 ⟨⟨y, rfl⟩, rfl⟩
      refine ⟨_, rfl, _, rfl, o, CH, dx, _, rfl, s3 _ _ ho, T.cl, T.n1, by show 0 < 1000; decide, ?_⟩
      refine ⟨_, rfl, _, rfl, o, CH, dx, _, rfl, upd_same, T.cl, T.n2, by show 1 < 1000; decide, ?_⟩
      refine ⟨_, rfl, _, rfl, o, CH, dx, _, rfl, upd_same, T.cl, T.n3, by show 2 < 1000; decide, ?_⟩
      refine ⟨_, rfl, _, rfl, o, CH, dx, _, rfl, upd_same, T.cl, T.n4, by show 3 < 1000; decide, ?_⟩
      exact q _ (((((Bt.of_same s3).upd1 (by simp)).upd1 (by simp)).upd1 (by simp)).upd1 (by simp))
end
end WdQ

set_option Elab.async false
set_option linter.all false
set_option maxRecDepth 100000
set_option maxHeartbeats 4000000
namespace Wd
open PySem PySem.Spec PyProof.Rows L2 WdM
/-! ### an own object's special methods: str, repr, len, ==, != -/
section
variable {X : Cx} {n : Nat} {f C : Addr} {fd : FuncData} {ps : List Str} {sp : Sp}
/-- a def is called somewhere below the running body -/
theorem run_own (F : FnOk X.prog X.w X.K X.mg X.base CX0 n f fd ps sp) (hb : Binds X.K fd ps []) {A : Around} (sb : Sub X n A) {pins : List (Addr × Obj)} {σ : L2.St} {H : Hp} {s : Shared} (I : Inv X pins σ H s) {vs : List V} {us : List Value} (r : Vals vs us) {Q : VK} (h : sp vs H Q E0) :
    wpAny (model X.prog X.w) A (call (.ref f) us) (fun u s' => ∃ v H', Inv X pins σ H' s' ∧ RelV v u ∧ Q v H') X.xe s := by
  have e0 : Env0 X.prog X.w X.K X.mg X.base A X.stack s H := by
    have e := I.env0
    exact ⟨by rw [sb.fr]; exact e.frames, e.mod, e.bs, e.bsz, e.funs, e.frf, e.hok, e.bare⟩
  have hl := F.len _ _ _ _ h
  have hu : us.length = vs.length := r.length.symm
  refine wpAny_call (codeAny_mono (F.run A X.stack s H ⟨us, []⟩ us vs _ E0 sb.room e0 (by
    have := hb s us I.kIn (by simpa [hu] using hl)
    simpa using this) r h) fun r s' hq => ?_)
  cases r with
  | error e => exact (hq : False).elim
  | ok fl =>
    cases fl with
    | ret w =>
      obtain ⟨z, H', I', rz, ez⟩ := I.after hq
      exact ⟨z, H', I', rz, ez⟩
    | next => exact False.elim hq
    | brk => exact False.elim hq
    | cont => exact False.elim hq
def rOwnS (C : Addr) (sp : Sp) : List V → Hp → VK → Prop := fun xs H Q => ∃ a dx fs, xs = [.ref a] ∧ H a = some (.ins C dx fs) ∧ sp [.ref a] H (fun v H' => ∃ y, v = .str y ∧ Q v H') E0
def rOwnI (C : Addr) (sp : Sp) : List V → Hp → VK → Prop := fun xs H Q => ∃ a dx fs, xs = [.ref a] ∧ H a = some (.ins C dx fs) ∧ sp [.ref a] H (fun v H' => ∃ i : Int, v = .int i ∧ 0 ≤ i ∧ i < 2 ^ 62 ∧ Q v H') E0
theorem call_strO (F : FnOk X.prog X.w X.K X.mg X.base CX0 n f fd ps sp) (hs : PySem.W.findIn X.K (.ref C) "__str__" = some (some (.ref f))) (hf : PySem.W.isFn X.K (.ref f) = true) (hb : Binds X.K fd ps []) (room : Room (n + 2) X.A) : CallR X (.type "str") (rOwnS C sp) := by
  rintro pins s σ H _ us Q I r ⟨a, dx, fs, rfl, ha, h⟩
  obtain ⟨u, rfl, ru⟩ := vals1 r
  cases ru
  obtain ⟨mA, J, _⟩ := ins_get I.hok ha
  obtain ⟨od, J, _⟩ := J.look
  have sb : Sub X n X.A.in1.in1 := (Sub.in1 (Sub.in1 ⟨room, rfl⟩))
  refine PySem.W.kso_call sb.room.units0 I.kIn J hs hf (wpAny_mono (run_own (vs := [.ref a]) (us := [.ref a]) F hb sb I (.cons rfl .nil) h) (fun v s' z => ?_) fun _ _ z => z)
  obtain ⟨v, H', I', rv, y, rfl, q⟩ := z
  obtain ⟨t, rfl⟩ := rv
  exact ⟨.str y, H', I', ⟨t, rfl⟩, q⟩
theorem call_reprO (F : FnOk X.prog X.w X.K X.mg X.base CX0 n f fd ps sp) (hs : PySem.W.findIn X.K (.ref C) "__repr__" = some (some (.ref f))) (hf : PySem.W.isFn X.K (.ref f) = true) (hb : Binds X.K fd ps []) (room : Room (n + 1) X.A) : CallR X (.builtin "repr") (rOwnS C sp) := by
  rintro pins s σ H _ us Q I r ⟨a, dx, fs, rfl, ha, h⟩
  obtain ⟨u, rfl, ru⟩ := vals1 r
  cases ru
  obtain ⟨mA, J, _⟩ := ins_get I.hok ha
  obtain ⟨od, J, _⟩ := J.look
  obtain ⟨m, hF⟩ := I.fr
  have sb : Sub X n X.A.in1 := (Sub.in1 ⟨room, rfl⟩)
  refine PySem.W.repr_K sb.room.units0 hF I.ok.mod.kin J hs hf (wpAny_mono (run_own (vs := [.ref a]) (us := [.ref a]) F hb sb I (.cons rfl .nil) h) (fun v s' z => ?_) fun _ _ z => z)
  obtain ⟨v, H', I', rv, y, rfl, q⟩ := z
  obtain ⟨t, rfl⟩ := rv
  exact ⟨.str y, H', I', ⟨t, rfl⟩, q⟩
theorem call_lenO (F : FnOk X.prog X.w X.K X.mg X.base CX0 n f fd ps sp) (hs : PySem.W.findIn X.K (.ref C) "__len__" = some (some (.ref f))) (hf : PySem.W.isFn X.K (.ref f) = true) (hb : Binds X.K fd ps []) (room : Room (n + 1) X.A) : CallR X (.builtin "len") (rOwnI C sp) := by
  rintro pins s σ H _ us Q I r ⟨a, dx, fs, rfl, ha, h⟩
  obtain ⟨u, rfl, ru⟩ := vals1 r
  cases ru
  obtain ⟨mA, J, _⟩ := ins_get I.hok ha
  obtain ⟨od, J, _⟩ := J.look
  obtain ⟨m, hF⟩ := I.fr
  have sb : Sub X n X.A.in1 := (Sub.in1 ⟨room, rfl⟩)
  refine PySem.W.len_K hF I.ok.mod.kin J hs hf (wpAny_mono (run_own (vs := [.ref a]) (us := [.ref a]) F hb sb I (.cons rfl .nil) h) (fun v s' z => ?_) fun _ _ z => z)
  obtain ⟨v, H', I', rv, i, rfl, i0, i1, q⟩ := z
  obtain ⟨t, rfl⟩ := rv
  exact ⟨⟨i0, Int.lt_of_lt_of_le i1 (by decide)⟩, .int i, H', I'.tok _, ⟨_, rfl⟩, q⟩
/-- x == y of two own objects of one class -/
def rOwnE (C : Addr) (sp : Sp) (g : Bool → Bool) : R2 := fun x y H Q => ∃ a b dx dy fs gs, x = .ref a ∧ y = .ref b ∧ H a = some (.ins C dx fs) ∧ H b = some (.ins C dy gs) ∧ sp [.ref a, .ref b] H (fun v H' => ∃ k, v = .bl k ∧ Q (.bl (g k)) H') E0
theorem op_eqO (F : FnOk X.prog X.w X.K X.mg X.base CX0 n f fd ps sp) (hs : PySem.W.findIn X.K (.ref C) "__eq__" = some (some (.ref f))) (hf : PySem.W.isFn X.K (.ref f) = true) (hb : Binds X.K fd ps []) (room : Room n X.A) : OpR X (compareOp .Eq) (rOwnE C sp id) := by
  rintro pins s σ H _ _ u v Q I rx ry ⟨a, b, dx, dy, fs, gs, rfl, rfl, ha, hb', h⟩
  cases rx
  cases ry
  obtain ⟨mA, J, _⟩ := ins_get I.hok ha
  obtain ⟨mB, J', _⟩ := ins_get I.hok hb'
  obtain ⟨od, J, _⟩ := J.look
  obtain ⟨od', J', _⟩ := J'.look
  obtain ⟨m, hF⟩ := I.fr
  have sb : Sub X n X.A := ⟨room, rfl⟩
  refine PySem.W.cmp_K (op := .Eq) (tb := .ref C) sb.room.units0 hF I.ok.mod.kin J J'.type (by simp [PySem.W.notFirst]) hs hf (wpAny_mono (run_own (vs := [.ref a, .ref b]) (us := [.ref a, .ref b]) F hb sb I (.cons rfl (.cons rfl .nil)) h) (fun v s' z => ?_) fun _ _ z => z)
  obtain ⟨v, H', I', rv, k, rfl, q⟩ := z
  cases rv
  exact ⟨.bl k, H', I', rfl, q⟩
end
end Wd

set_option Elab.async false
set_option linter.all false
set_option maxRecDepth 100000
set_option maxHeartbeats 4000000
namespace Wd
open PySem PySem.Spec PyProof.Rows L2 WdM
section
variable {prog : Program} {w : World} {A : Around} {E : Value → Shared → Prop} {s : Shared} {K : PySem.W.Frag} {x C f : Addr} {ox : Obj} {od : Option Obj} {b tb : Value}
open PySem.W in
theorem ifBound_B {M : Model} {name : Str} {id : String} {args : List Value} {Q : Option Value → Shared → Prop} (X : K.In s.heap) (I : InstAt s.heap x ox C od) (hs : findIn K (.ref C) name = some (some (.builtin id))) (hb : ∀ self, bindSpecial (.builtin id) self = pure (.builtin id, [self]))
    (h : wpAny M A (call (.builtin id) (.ref x :: args)) (fun v => Q (some v)) E s) : wpAny M A (callSpecialIfBound? (.ref x) name args) Q E s := by
  simp only [callSpecialIfBound?, bindSpecialIfBound?]
  refine wpAny_holding (wpAny_bind (wpAny_bind (wpAny_bind (I.type.here ((looks_findIn X hs).here ?_)))))
  simp only [hb]
  refine wpAny_bind (wpAny_askSetting (wpAny_ite ?_))
  have fin : wpAny M A (call (.builtin id) ([.ref x] ++ args) >>= fun v => pure (some v)) Q E s := wpAny_bind (wpAny_mono h (fun v s' h' => wpAny_pure h') fun _ _ h' => h')
  split
  · exact wpAny_bind (wpAny_pure (wpAny_pure fin))
  · exact wpAny_tryCatch (wpAny_bind (wpAny_pure (wpAny_pure fin)))
open PySem.W in
theorem objNe_K (hu : A.units < cLine) (X : K.In s.heap) (I : InstAt s.heap x ox C od) (he : findIn K (.ref C) "__eq__" = some (some (.ref f))) (hf : isFn K (.ref f) = true) {Q : PySem.Fin → Shared → Prop}
    (hcall : wpAny (model prog w) A (call (.ref f) [.ref x, b]) (fun v s' => ∃ k, v = .bool k ∧ Q (.done (.ret (.bool (!k)))) s') E s) :
    wpAny (model prog w) A (Builtin.«object.__ne__» ⟨[.ref x, b], []⟩) Q E s := by
  unfold Builtin.«object.__ne__»
  repeat (first
    | with_reducible refine wpAny_cRoomFor hu ?_
    | (refine wpAny_bind (m := callSpecialIfBound? (.ref x) (Str.ofString "__eq__") [b])
        (ifBound_K X I he hf (wpAny_mono hcall (fun r s' hr => by
          obtain ⟨k, rfl, hq⟩ := hr
          repeat (first | exact hq | exact wpAny_pure hq | exact wpAny_truthy_bool hq | (refine wpAny_bind (m := truthy (.bool _)) (wpAny_truthy_bool ?_)) | wp_step)) fun _ _ e => e)))
    | wp_step)
open PySem.W in
theorem ne_K {Q : Value → Shared → Prop} (hu : A.units + 1 < cLine) (X : K.In s.heap) (I : InstAt s.heap x ox C od) (hb : Looks (model prog w) s.heap (typeOf b) tb) (hn : notFirst K C tb = true) (hm : mroIn K C (.type "object") = some true)
    (hne : findIn K (.ref C) "__ne__" = some (some (.builtin "object.__ne__"))) (he : findIn K (.ref C) "__eq__" = some (some (.ref f))) (hf : isFn K (.ref f) = true)
    (h : wpAny (model prog w) A.in1 (call (.ref f) [.ref x, b]) (fun v s' => ∃ k, v = .bool k ∧ Q (.bool (!k)) s') E s) : wpAny (model prog w) A (richCompare .NotEq (.ref x) b) Q E s := by
  have one : wpAny (model prog w) A (tryCompare (.ref x) (cmpInfo .NotEq).2.1 b) (fun r s' => ∃ v, r = some v ∧ Q v s') E s := by
    simp only [tryCompare]
    refine wpAny_bind (ifBound_B X I hne PySem.F.slot_object_ne.bind (wpAny_call (codeAny_call_builtin PySem.F.slot_object_ne.plain PySem.F.cmpEntry_ne
      (check_slot (i := "object.__ne__") (owner := "object") (n := "__ne__") (by decide +kernel) (by decide +kernel) (I.type.andThen (looks_mroIn X hm)) (PySem.F.cmpArgs_ne _ _)
        (objNe_K (A := A.in1) hu X I he hf (wpAny_mono h (fun v s' hv => ?_) fun _ _ e => e))))))
    obtain ⟨k, rfl, hq⟩ := hv
    first | exact ⟨k, rfl, wpAny_pure ⟨_, rfl, hq⟩⟩ | exact ⟨k, rfl, wpAny_pure (wpAny_pure ⟨_, rfl, hq⟩)⟩ | exact ⟨k, rfl, ⟨_, rfl, hq⟩⟩
  unfold richCompare
  simp only [oneThing_ref]
  refine wpAny_holding (wpAny_bind (wpAny_cRoomFor (Nat.lt_of_succ_lt hu) ?_))
  refine wpAny_bind (I.type.here (wpAny_bind (hb.here ?_)))
  split
  · rename_i q
    have e : subIn K tb (.ref C) = some false := by
      rcases Bool.or_eq_true_iff.mp hn with e | e
      · rw [beq_iff_eq.mp e] at q; simp at q
      · exact beq_iff_eq.mp e
    refine wpAny_bind ((looks_subIn X e).here ?_)
    simp only [Bool.false_eq_true, if_false]
    refine wpAny_bind (wpAny_mono one (fun r s' z => ?_) fun _ _ e => e)
    obtain ⟨v, rfl, hq⟩ := z
    exact wpAny_pure hq
  · refine wpAny_bind (wpAny_pure ?_)
    simp only [Bool.false_eq_true, if_false]
    refine wpAny_bind (wpAny_mono one (fun r s' z => ?_) fun _ _ e => e)
    obtain ⟨v, rfl, hq⟩ := z
    exact wpAny_pure hq
end
section
variable {X : Cx} {n : Nat} {f C : Addr} {fd : FuncData} {ps : List Str} {sp : Sp}
theorem op_neO (F : FnOk X.prog X.w X.K X.mg X.base CX0 n f fd ps sp) (hne : PySem.W.findIn X.K (.ref C) "__ne__" = some (some (.builtin "object.__ne__"))) (hm : PySem.W.mroIn X.K C (.type "object") = some true) (hs : PySem.W.findIn X.K (.ref C) "__eq__" = some (some (.ref f))) (hf : PySem.W.isFn X.K (.ref f) = true) (hb : Binds X.K fd ps []) (room : Room (n + 1) X.A) : OpR X (compareOp .NotEq) (rOwnE C sp (fun k => !k)) := by
  rintro pins s σ H _ _ u v Q I rx ry ⟨a, b, dx, dy, fs, gs, rfl, rfl, ha, hb', h⟩
  cases rx
  cases ry
  obtain ⟨mA, J, _⟩ := ins_get I.hok ha
  obtain ⟨mB, J', _⟩ := ins_get I.hok hb'
  obtain ⟨od, J, _⟩ := J.look
  obtain ⟨od', J', _⟩ := J'.look
  have sb : Sub X n X.A.in1 := (Sub.in1 ⟨room, rfl⟩)
  refine ne_K (tb := .ref C) sb.room.units0 I.kIn J J'.type (by simp [PySem.W.notFirst]) hm hne hs hf (wpAny_mono (run_own (vs := [.ref a, .ref b]) (us := [.ref a, .ref b]) F hb sb I (.cons rfl (.cons rfl .nil)) h) (fun v s' z => ?_) fun _ _ z => z)
  obtain ⟨v, H', I', rv, k, rfl, q⟩ := z
  cases rv
  exact ⟨k, rfl, .bl (!k), H', I', rfl, q⟩
/-- {o} in an f-string, o an own object -/
def tFmtO (C : Addr) (sp : Sp) (te : TE) : TE := fun σ H Q => te σ H fun x H1 => ∃ a dx fs, x = .ref a ∧ H1 a = some (.ins C dx fs) ∧ sp [.ref a] H1 (fun v H' => ∃ y, v = .str y ∧ Q v H') E0
theorem pe_fmtO {e : Expr} {te : TE} {pos : Pos} (F : FnOk X.prog X.w X.K X.mg X.base CX0 n f fd ps sp) (hfm : PySem.W.findIn X.K (.ref C) "__format__" = some (some (.builtin "object.__format__"))) (hm : PySem.W.mroIn X.K C (.type "object") = some true) (hs : PySem.W.findIn X.K (.ref C) "__str__" = some (some (.ref f))) (hf : PySem.W.isFn X.K (.ref f) = true) (hb : Binds X.K fd ps []) (room : Room (n + 1) X.A) (he : PE X e te) : PE X (.FormattedValue e (-1) none pos) (tFmtO C sp te) := by
  refine ⟨fun pins s σ H Q I h => ?_⟩
  refine wpAny_FormattedValue_plain (thn (he.run pins s σ H _ I h) fun v s1 hv => ?_)
  obtain ⟨x, H1, I1, r1, a, dx, fs, rfl, ha, q⟩ := hv
  cases r1
  obtain ⟨mA, J, _⟩ := ins_get I1.hok ha
  obtain ⟨od, J, _⟩ := J.look
  have sb : Sub X n X.A.in1 := (Sub.in1 ⟨room, rfl⟩)
  refine PySem.W.kfo_fieldS sb.room.units0 I1.kIn J hfm hm hs hf (wpAny_mono (run_own (vs := [.ref a]) (us := [.ref a]) F hb sb (I1.tok _) (.cons rfl .nil) q) (fun v s' z => ?_) fun _ _ z => z)
  obtain ⟨v, H', I', rv, y, rfl, q⟩ := z
  obtain ⟨t, rfl⟩ := rv
  exact ⟨.str y, H', I', ⟨t, rfl⟩, q⟩
end
end Wd

set_option Elab.async false
set_option linter.all false
set_option maxRecDepth 100000
set_option maxHeartbeats 4000000
set_option exponentiation.threshold 5000
namespace WdQ
open PySem PySem.Spec PyProof.Rows L2 WdM Wd
abbrev sDied : Stmt := inClass sStory 1
abbrev sLiv : Stmt := inClass sStory 2
abbrev sLen : Stmt := inClass sStory 3
abbrev sEq : Stmt := inClass sStory 4
abbrev sStr : Stmt := inClass sStory 5
abbrev sRepr : Stmt := inClass sStory 6
abbrev sText : Stmt := topS 67
theorem scDied : FnScope ["self", "name", "one", "day"] ["self", "name"] (defScope sDied) := ⟨rfl, rfl, rfl, by decide +kernel, rfl, by decide +kernel, by decide +kernel⟩
theorem scLiv : FnScope ["self", "name", "more", "day"] ["self", "name", "more"] (defScope sLiv) := ⟨rfl, rfl, rfl, by decide +kernel, rfl, by decide +kernel, by decide +kernel⟩
theorem scLen : FnScope ["self"] ["self"] (defScope sLen) := ⟨rfl, rfl, rfl, by decide +kernel, rfl, by decide +kernel, by decide +kernel⟩
theorem scEq : FnScope ["self", "other"] ["self", "other"] (defScope sEq) := ⟨rfl, rfl, rfl, by decide +kernel, rfl, by decide +kernel, by decide +kernel⟩
theorem scStr : FnScope ["self"] ["self"] (defScope sStr) := ⟨rfl, rfl, rfl, by decide +kernel, rfl, by decide +kernel, by decide +kernel⟩
theorem scRepr : FnScope ["self"] ["self"] (defScope sRepr) := ⟨rfl, rfl, rfl, by decide +kernel, rfl, by decide +kernel, by decide +kernel⟩
def nText : List Str := ["deaths", "name", "day"]
theorem scText : FnScope nText ["deaths"] (defScope sText) := ⟨rfl, rfl, rfl, by decide +kernel, rfl, by decide +kernel, by decide +kernel⟩
/-! ### the day of a name -/
def look : List (Str × Int) → Str → Option Int
  | [], _ => none
  | r :: rs, z => if r.1 = z then some r.2 else look rs z
def dayV : Option Int → V
  | none => .non
  | some d => .int d
def aliveB (rows : List (Str × Int)) (z : Str) (m : Int) : Bool := match look rows z with
  | none => true
  | some d => decide (m < d)
theorem look_drop {rows : List (Str × Int)} {i : Nat} {r : Str × Int} (h : rows[i]? = some r) (z : Str) : look (rows.drop i) z = if r.1 = z then some r.2 else look (rows.drop (i + 1)) z := by
  obtain ⟨hi, rfl⟩ := List.getElem?_eq_some_iff.mp h
  rw [List.drop_eq_getElem_cons hi]
  rfl
/-! ### its text -/
def deathT (r : Str × Int) : Str := ((Str.empty ++ r.1) ++ " ") ++ Str.ofString (toString r.2)
def storyT (rows : List (Str × Int)) : Str := if rows = [] then "none" else Txt.join ", " (rows.map deathT)
theorem log_day {i : Int} (h0 : -9999 ≤ i) (h1 : i ≤ 9999) : i.natAbs.log2 < 1920 := by
  by_cases z : i.natAbs = 0
  · rw [z]; decide
  · exact Nat.lt_of_lt_of_le ((Nat.log2_lt z).mpr (show i.natAbs < 2 ^ 14 by omega)) (by decide)
theorem day_text {i : Int} (h0 : -9999 ≤ i) (h1 : i ≤ 9999) : (Str.ofString (toString i)).length ≤ 5 := by
  have e : (toString i).length ≤ 4 + 1 := int_text_length_le10 (k := 4) (by decide) (by omega)
  rw [PySem.ofString_length]
  omega
theorem len_app (x y : Str) : (x ++ y).length = x.length + y.length := strLen_append x y
theorem nm_len {z : Str} (h : nmB z = true) : 1 ≤ z.length ∧ z.length ≤ 8 := by
  unfold nmB at h
  simp only [Bool.and_eq_true, decide_eq_true_eq] at h
  exact h.1.1
theorem nm_let {z : Str} (h : nmB z = true) : okL z := by
  unfold nmB at h
  simp only [Bool.and_eq_true] at h
  exact fun c hc => List.all_eq_true.mp h.2 c hc
theorem death_len {r : Str × Int} (h : nmB r.1 = true) (d0 : -9999 ≤ r.2) (d1 : r.2 ≤ 9999) : (deathT r).length ≤ 14 := by
  have a := nm_len h
  have b := day_text d0 d1
  unfold deathT
  rw [len_app, len_app, len_app]
  show 0 + r.1.length + 1 + _ ≤ 14
  omega
theorem sum_le14 : ∀ {ys : List Str}, (∀ y ∈ ys, y.length ≤ 14) → (ys.map (·.length)).sum ≤ 14 * ys.length
  | [], _ => by simp
  | y :: ys, h => by
    have a := h y List.mem_cons_self
    have b := sum_le14 (ys := ys) fun x hx => h x (List.mem_cons_of_mem _ hx)
    simp only [List.map_cons, List.sum_cons, List.length_cons]
    omega
section
variable {P : Program} {w : World} {K : PySem.W.Frag} {mg : Str → Option Value} {base : Heap} {CY : Addr}
/-- a story -/
def StoryAt (K : PySem.W.Frag) (CY : Addr) (H : Hp) (o : Addr) (rows : List (Str × Int)) : Prop := ∃ (dx : Addr) (v : V), H o = some (.ins CY dx [("deaths", v)]) ∧ DeathsAt K H v rows ∧ GoodD rows
theorem StoryAt.same {H H' : Hp} {o : Addr} {rows : List (Str × Int)} (h : StoryAt K CY H o rows) (e : Same H H') : StoryAt K CY H' o rows := by
  obtain ⟨dx, v, h, d, g⟩ := h
  exact ⟨dx, v, e _ _ h, d.tk (tk_same e), g⟩
def spDied (K : PySem.W.Frag) (CY : Addr) : Sp := fun vs H Q _ => ∃ (o : Addr) (z : Str) (rows : List (Str × Int)), vs = [.ref o, .str z] ∧ StoryAt K CY H o rows ∧ nmB z = true ∧ ∀ H', Same H H' → Q (dayV (look rows z)) H'
theorem ok_died {f fN : Addr} {fd fdN : FuncData} {k : Nat} (T : SyF K CY) (F : Fun K "died" "Story.died" sDied f fd) (GN : FnOk P w K mg base CX0 (k + 1) fN fdN ["thing"] (spName K)) (DN : Df K mg "is_name" sName fN fdN ["thing"]) : FnOk P w K mg base CX0 (k + 2) f fd ["self", "name"] (spDied K CY) := by
  refine F.ok scDied (fun vs H Q E h => ?_) (fun cdv A outer s H vs Q E hr h => ?_)
  · obtain ⟨o, z, rows, rfl, _⟩ := h
    rfl
  · obtain ⟨o, z, rows, rfl, st, nm, q⟩ := h
    refine ⟨_, pss_cons (ps_if (pt_not (pt_val (pe_call GN hr (by rfl) DN.mg DN.fn.kp DN.bd .nil pass0 (pa_cons (pv 1) pa_nil)))) pss_noS pss_nil)
      (pss_cons (ps_for PassesOwn.never rfl (pi_tup (pe_fld (pv 0) rfl)) (pg_tup rfl (pgs_cons (pg_name (i := 2) scDied.nd rfl (.inl rfl)) (pgs_cons (pg_name (i := 3) scDied.nd rfl (.inl rfl)) pgs_nil)))
        (pss_one (ps_if (pt_cmpR op_eq (pv 2) (pv 1) (nomark _)) (pss_one (ps_ret (pv 3))) pss_nil)))
      (pss_one (ps_ret pe_non))), ?_⟩
    refine ⟨_, rfl, .str z, .str z, rfl, (Th.dp (.str z)).is, (fun y e => by cases e; have := nm_len nm; omega), fun H1 s1 => ?_⟩
    rw [show nameB (.str z) = true from nm]
    refine ⟨true, rfl, iteF ?_⟩
    obtain ⟨dx, v, ho, ⟨t, xs, rfl, ht, xl, hx⟩, gd⟩ := st.same s1
    refine ⟨_, rfl, o, CY, dx, _, _, rfl, ho, T.cl, T.n1, rfl, t, rfl, ⟨_, ht⟩, for_tup (K := K) (a := t) (xs := xs) (fun i σ H' => (∃ y2 y3, σ = [some (.ref o), some (.str z), y2, y3]) ∧ look rows z = look (rows.drop i) z ∧ Same H1 H') ⟨⟨none, none, rfl⟩, rfl, Same.refl H1⟩ (fun i σ H' _ h => (tk_same h.2.2).sq ht) ?_ ?_⟩
    · rintro i x σ H2 hx2 ⟨⟨y2, y3, rfl⟩, lk, s2⟩
      obtain ⟨a, r, rfl, hr2, ha⟩ := hx i x hx2
      refine ⟨a, _, rfl, (tk_same s2).sq ha, rfl, _, _, rfl, _, _, rfl, rfl, ?_⟩
      rw [look_drop hr2] at lk
      refine ⟨_, rfl, _, rfl, rfl, _, rfl, ?_⟩
      by_cases e : r.1 = z
      · rw [show decide (V.str r.1 = V.str z) = true by simp [e]]
        rw [if_pos e] at lk
        refine iteT ⟨_, rfl, ?_⟩
        have := q H2 (s1.trans s2)
        rw [lk] at this
        exact this
      · rw [show decide (V.str r.1 = V.str z) = false by simp [e]]
        rw [if_neg e] at lk
        exact iteF ⟨⟨_, _, rfl⟩, lk, s2⟩
    · rintro σ H2 ⟨⟨y2, y3, rfl⟩, lk, s2⟩
      rw [xl, List.drop_length] at lk
      have := q H2 (s1.trans s2)
      rw [lk] at this
      exact this
def spLiv (K : PySem.W.Frag) (CY : Addr) : Sp := fun vs H Q _ => ∃ (o : Addr) (z : Str) (m : Int) (rows : List (Str × Int)), vs = [.ref o, .str z, .int m] ∧ StoryAt K CY H o rows ∧ nmB z = true ∧ -9999 ≤ m ∧ m ≤ 9999 ∧ ∀ H', Same H H' → Q (.bl (aliveB rows z m)) H'
theorem ok_liv {f fD fY : Addr} {fd fdD fdY : FuncData} {k : Nat} (T : SyF K CY) (F : FunD K "lives" "Story.lives" (defArgs sLiv) (defBody sLiv) (defScope sLiv) [.int 0] [] f fd) (MD : Meth K CY "died" fD) (bD : Binds K fdD ["self", "name"] []) (GD : FnOk P w K mg base CX0 (k + 2) fD fdD ["self", "name"] (spDied K CY))
    (GY : FnOk P w K mg base CX0 (k + 2) fY fdY ["thing"] (spDay K)) (DY : Df K mg "is_day" sDay fY fdY ["thing"]) : FnOk P w K mg base CX0 (k + 3) f fd ["self", "name", "more"] (spLiv K CY) := by
  refine F.ok scLiv (fun vs H Q E h => ?_) (fun cdv A outer s H vs Q E hr h => ?_)
  · obtain ⟨o, z, m, rows, rfl, _⟩ := h
    rfl
  · obtain ⟨o, z, m, rows, rfl, st, nm, m0, m1, q⟩ := h
    refine ⟨_, pss_cons (ps_set (i := 3) scLiv.nd rfl (.inl rfl) (pe_meth (pv 0) T.cl MD GD hr bD .nil pass0 (pa_cons (pv 1) pa_nil)))
      (pss_cons (ps_if (pt_not (pt_val (pe_call GY hr (by rfl) DY.mg DY.fn.kp DY.bd .nil pass0 (pa_cons (pv 2) pa_nil)))) pss_noS pss_nil)
      (pss_one (ps_ret (pe_or (pe_cmpR op_isN (pv 3) pe_non (nomark _)) (pe_one (pe_cmpR op_gt (pv 3) (pv 2) (nomark _))))))), ?_⟩
    have st0 := st
    obtain ⟨dx, v, ho, dh, gd⟩ := st
    refine ⟨_, rfl, o, dx, _, rfl, ho, rfl, _, rfl, o, z, rows, rfl, st0, nm, fun H1 s1 => ?_⟩
    refine ⟨_, rfl, [], .int m, .int m, rfl, .int m, ?_⟩
    rw [show dayB (.int m) = true from decide_eq_true ⟨m0, m1⟩]
    refine ⟨true, rfl, iteF ⟨_, rfl, rfl, _, rfl, ?_⟩⟩
    have q := q H1 s1
    unfold aliveB at q
    cases lk : look rows z with
    | none =>
      rw [lk] at q
      exact iteT q
    | some d =>
      rw [lk] at q
      exact iteF ⟨_, rfl, _, rfl, d, m, rfl, rfl, q⟩
def spLen (K : PySem.W.Frag) (CY : Addr) : Sp := fun vs H Q _ => ∃ (o : Addr) (rows : List (Str × Int)), vs = [.ref o] ∧ StoryAt K CY H o rows ∧ Q (.int (rows.length : Nat)) H
theorem ok_len {f : Addr} {fd : FuncData} {k : Nat} (B : Bi mg) (T : SyF K CY) (F : Fun K "__len__" "Story.__len__" sLen f fd) : FnOk P w K mg base CX0 (k + 1) f fd ["self"] (spLen K CY) := by
  refine F.ok scLen (fun vs H Q E h => ?_) (fun cdv A outer s H vs Q E hr h => ?_)
  · obtain ⟨o, rows, rfl, _⟩ := h
    rfl
  · obtain ⟨o, rows, rfl, ⟨dx, v, ho, ⟨t, xs, rfl, ht, xl, hx⟩, gd⟩, q⟩ := h
    refine ⟨_, pss_one (ps_ret (pe_callB call_len_seq (by rfl) B.len PySem.boot_len (pa_cons (pe_fld (pv 0) rfl) pa_nil))), ?_⟩
    rw [← xl] at q
    exact ⟨_, rfl, o, CY, dx, _, _, rfl, ho, T.cl, T.n1, rfl, t, _, rfl, .inr ht, q⟩
def tDT : TE := fun σ H Q => ∃ (z : Str) (d : Int), σ[1]? = some (some (.str z)) ∧ σ[2]? = some (some (.int d)) ∧ nmB z = true ∧ -9999 ≤ d ∧ d ≤ 9999 ∧ Q (.str (deathT (z, d))) H
def spText (K : PySem.W.Frag) : Sp := fun vs H Q _ => ∃ (v : V) (rows : List (Str × Int)), vs = [v] ∧ DeathsAt K H v rows ∧ GoodD rows ∧ ∀ H', Same H H' → Q (.str (storyT rows)) H'
theorem ok_text {f : Addr} {fd : FuncData} {k : Nat} (B : Bi mg) (D : Df K mg "story_text" sText f fd ["deaths"]) : FnOk P w K mg base CX0 (k + 1) f fd ["deaths"] (spText K) := by
  refine D.fn.ok scText (fun vs H Q E h => ?_) (fun cdv A outer s H vs Q E hr h => ?_)
  · obtain ⟨v, rows, rfl, _⟩ := h
    rfl
  · obtain ⟨v, rows, rfl, ⟨t, xs, rfl, ht, xl, hx⟩, gd, q⟩ := h
    refine ⟨_, pss_cons (ps_if (pt_cmpR op_eq (pe_callB call_len_seq (by rfl) B.len PySem.boot_len (pa_cons (pv 0) pa_nil)) pe_int (nomark _)) (pss_one (ps_ret pe_str)) pss_nil)
      (pss_one (ps_ret (pe_join pe_str (pe_lc (own := [("name", 1), ("day", 2)]) (g := gTup K 2 (gCons (gName 1) (gCons (gName 2) gNil))) (tt := tYes) rfl scText.nd (pi_tup (pv 0)) (blkOk_by (own := [("name", 1), ("day", 2)]) (N := nText) (sc := defScope sText) (by decide +kernel))
        (fun _ _ _ _ _ => pg_tup rfl (pgs_cons (pg_name (i := 1) scText.nd rfl (Or.inl rfl)) (pgs_cons (pg_name (i := 2) scText.nd rfl (Or.inl rfl)) pgs_nil))) (fun _ _ _ _ _ => pts_nil)
        (fun _ _ _ _ _ => PE.wk (t' := tDT) (pe_joined (PJ.cons (pe_fmt (pv 1)) (PJ.cons pe_str (PJ.cons (pe_fmt (pv 2)) PJ.nil)))) (by
          rintro σ H Q ⟨z, d, h1, h2, nm, d0, d1, q⟩
          have ln := nm_len nm
          have lt := day_text d0 d1
          refine ⟨_, h1, .inl ⟨z, rfl, small_len (by omega), z, rfl, ?_, " ", rfl, ?_, _, h2, .inr ⟨d, rfl, log_day d0 d1, _, rfl, ?_, q⟩⟩⟩
          · rw [len_app]
            show 0 + z.length ≤ sizeLine
            exact small_len (by omega)
          · rw [len_app, len_app]
            show 0 + z.length + 1 ≤ sizeLine
            exact small_len (by omega)
          · have ld := death_len (r := (z, d)) nm d0 d1
            exact small_len (by show (deathT (z, d)).length ≤ 1000; omega))))))), ?_⟩
    refine ⟨_, rfl, t, _, rfl, .inr ht, rfl, _, rfl, ?_⟩
    have l8 := gd.l8
    by_cases e : rows = []
    · subst e
      have x0 : xs.length = 0 := xl
      rw [show decide (V.int ((xs.length : Nat) : Int) = V.int 0) = true by simp [x0]]
      exact iteT (q H (Same.refl H))
    · have r0 : 1 ≤ rows.length := by
        cases rows with
        | nil => exact absurd rfl e
        | cons r rs => exact Nat.succ_le_succ (Nat.zero_le _)
      have x0 : ((xs.length : Nat) : Int) ≠ 0 := by omega
      rw [show decide (V.int ((xs.length : Nat) : Int) = V.int 0) = false from decide_eq_false (fun e => x0 (by injection e))]
      have q2 : ∀ H', Same H H' → Q (.str (Txt.join ", " (rows.map deathT))) H' := fun H' s => by
        have := q H' s
        unfold storyT at this
        rw [if_neg e] at this
        exact this
      refine iteF ⟨⟨_, rfl⟩, _, rfl, t, rfl, ⟨_, ht⟩, fun L nL => lc_tup (K := K) (a := t) (xs := xs) (fun j H' => H' L = some (.lst (((rows.take j).map deathT).map V.str)) ∧ Same H H') ⟨upd_same, same_new nL⟩ (fun j H' _ h => (tk_same h.2).sq ht) ?_ ?_⟩
      · rintro j x H5 hx5 ⟨hL, s5⟩
        obtain ⟨ra, r, rfl, hr5, hra⟩ := hx j x hx5
        have jl := lt_get hx5
        have m := List.mem_of_getElem? hr5
        have nm := gd.nm r m
        have dy := gd.dy r m
        have ln := nm_len nm.1
        have lt := day_text dy.1 dy.2
        have ld := death_len nm.1 dy.1 dy.2
        refine ⟨ra, _, rfl, (tk_same s5).sq hra, rfl, _, _, rfl, _, _, rfl, rfl, rfl, tyes (iteT ?_)⟩
        refine ⟨r.1, r.2, rfl, rfl, nm.1, dy.1, dy.2, _, hL, ?_, ?_, ((Bt.of_same (S := []) s5).upd0 nL).same⟩
        · rw [List.length_map, List.length_map, List.length_take]
          exact small1000 (by omega)
        · rw [upd_same, take_more hr5, List.map_append, List.map_append]
          rfl
      · rintro H5 ⟨hL, s5⟩
        rw [xl, List.take_length] at hL
        refine ⟨", ", L, rows.map deathT, rfl, rfl, .inl (sqL hL), ?_, q2 H5 s5⟩
        have := sum_le14 (ys := rows.map deathT) (fun y hy => by
          obtain ⟨r, hr, rfl⟩ := List.mem_map.mp hy
          exact death_len (gd.nm r hr).1 (gd.dy r hr).1 (gd.dy r hr).2)
        rw [List.length_map] at this ⊢
        show _ + rows.length * 2 ≤ _
        omega
end
end WdQ

set_option Elab.async false
set_option linter.all false
set_option maxRecDepth 100000
set_option maxHeartbeats 4000000
set_option exponentiation.threshold 5000
namespace WdQ
open PySem PySem.Spec PyProof.Rows L2 WdM Wd
abbrev sRow : Stmt := topS 45
abbrev sPers : Stmt := inClass sHouse 7
abbrev sPeo : Stmt := inClass sHouse 1
abbrev sChi : Stmt := inClass sHouse 2
abbrev sCkP : Stmt := topS 48
theorem scRow : FnScope ["rows", "name", "row"] ["rows", "name"] (defScope sRow) := ⟨rfl, rfl, rfl, by decide +kernel, rfl, by decide +kernel, by decide +kernel⟩
theorem scPers : FnScope ["self", "name", "row"] ["self", "name"] (defScope sPers) := ⟨rfl, rfl, rfl, by decide +kernel, rfl, by decide +kernel, by decide +kernel⟩
theorem scPeo : FnScope ["self", "row"] ["self"] (defScope sPeo) := ⟨rfl, rfl, rfl, by decide +kernel, rfl, by decide +kernel, by decide +kernel⟩
theorem scChi : FnScope ["self", "name", "row"] ["self", "name"] (defScope sChi) := ⟨rfl, rfl, rfl, by decide +kernel, rfl, by decide +kernel, by decide +kernel⟩
theorem scCkP : FnScope ["house", "names", "people", "name"] ["house", "names"] (defScope sCkP) := ⟨rfl, rfl, rfl, by decide +kernel, rfl, by decide +kernel, by decide +kernel⟩
theorem tk_ins {H : Hp} {p C dx : Addr} {fs : List (Str × V)} {o : HO} (h : H p = some (.ins C dx fs)) : Tk H (upd H p o) := fun a xs r => by
  rcases r with r | ⟨q, r⟩
  · refine .inl ?_
    rw [upd_ne (fun e => by rw [e, h] at r; cases r)]
    exact r
  · refine .inr ⟨q, ?_⟩
    rw [upd_ne (fun e => by rw [e, h] at r; cases r)]
    exact r
section
variable {P : Program} {w : World} {K : PySem.W.Frag} {mg : Str → Option Value} {base : Heap} {CH CY : Addr}
/-- a house of people alone -/
def HomeAt (K : PySem.W.Frag) (CH : Addr) (H : Hp) (o : Addr) (rows : List (Str × Option Str)) : Prop := ∃ (dx : Addr) (v : V) (t : Addr), H o = some (.ins CH dx [("folk", v), ("things", .ref t), ("purse", .int 0), ("debts", .int 0)]) ∧ FolkAt K H v rows ∧ GoodF rows ∧ SqT K H t []
theorem HomeAt.same {H H' : Hp} {o : Addr} {rows : List (Str × Option Str)} (h : HomeAt K CH H o rows) (e : Same H H') : HomeAt K CH H' o rows := by
  obtain ⟨dx, v, t, h, d, g, ht⟩ := h
  exact ⟨dx, v, t, e _ _ h, d.tk (tk_same e), g, (tk_same e).sq ht⟩
def spHIa (K : PySem.W.Frag) (CH : Addr) : Sp := fun vs H Q _ => ∃ (o dx : Addr) (v : V) (rows : List (Str × Option Str)), vs = [.ref o, v, .non, .int 0, .int 0] ∧ H o = some (.ins CH dx []) ∧ FolkAt K H v rows ∧ GoodF rows ∧ ∀ H', Bt [o] H H' → HomeAt K CH H' o rows → Q .non H'
theorem ok_HIa {f fC fG fS : Addr} {fd fdC fdG fdS : FuncData} {k : Nat} (B : Bi mg) (T : HsF K CH) (F : FunD K "__init__" "House.__init__" (defArgs sHI) (defBody sHI) (defScope sHI) [.non, .int 0, .int 0] [] f fd) (GC : FnOk P w K mg base (L2.CX P w) (k + 3) fC fdC ["people"] (spChkP K)) (DC : Df K mg "check_people" sChkP fC fdC ["people"])
    (GG : FnOk P w K mg base (L2.CX P w) (k + 1) fG fdG ["goods"] (spChk0 K)) (DG : Df K mg "check_goods" sChkG fG fdG ["goods"]) (GS : FnOk P w K mg base CX0 (k + 2) fS fdS ["thing"] spZero) (DS : Df K mg "is_sum" sSum fS fdS ["thing"]) :
    FnOk P w K mg base (L2.CX P w) (k + 4) f fd ["self", "people", "goods", "purse", "debts"] (spHIa K CH) := by
  refine F.ok scHI (fun vs H Q E h => ?_) (fun cdv A outer s H vs Q E hr h => ?_)
  · obtain ⟨o, dx, v, rows, rfl, _⟩ := h
    rfl
  · obtain ⟨o, dx, v, rows, rfl, ho, hv, gf, q⟩ := h
    have r1 : Room (k + 1) _ := hr.mono (by omega)
    have r2 : Room (k + 2) _ := hr.mono (by omega)
    refine ⟨_, pss_cons (ps_expr (pe_callS GC hr (by rfl) DC.mg DC.fn.kp DC.bd (fun σ => passAt (takes_of rfl rfl rfl rfl) σ) (pa_cons (pv 1) pa_nil)))
      (pss_cons (ps_set (i := 5) scHI.nd rfl (.inl rfl) (pe_ifExp (pt_cmpR op_isN (pv 2) pe_non (nomark _)) (pe_tup pa_nil) pe_no))
      (pss_cons (ps_expr (pe_callS GG r1 (by rfl) DG.mg DG.fn.kp DG.bd (fun σ => passAt (takes_of rfl rfl rfl rfl) σ) (pa_cons (pv 5) pa_nil)))
      (pss_cons (ps_for (passes_of rfl) rfl (pi_tup (pe_tup (pa_cons (pv 3) (pa_cons (pv 4) pa_nil)))) (pg_name (i := 6) scHI.nd rfl (.inl rfl))
        (pss_one (ps_if (pt_not (pt_val (pe_call GS r2 (by rfl) DS.mg DS.fn.kp DS.bd .nil pass0 (pa_cons (pv 6) pa_nil)))) (pss_one ps_no) pss_nil)))
      (pss_cons (ps_fld (pv 0) (pv 1) rfl) (pss_cons (ps_fld (pv 0) (pv 5) rfl) (pss_cons (ps_fld (pv 0) (pv 3) rfl) (pss_one (ps_fld (pv 0) (pv 4) rfl)))))))), ?_⟩
    refine ⟨_, rfl, v, rows, rfl, hv, gf, fun H1 s1 => ?_⟩
    refine ⟨_, rfl, rfl, _, rfl, iteT ⟨by show 0 ≤ sizeLine; decide, fun t nt => ?_⟩⟩
    refine ⟨_, rfl, t, rfl, sqT upd_same, fun H2 s2 => ?_⟩
    have s12 : Same H H2 := s1.trans ((same_new nt).trans s2)
    have ht2 : SqT K H2 t [] := sqT (s2 _ _ upd_same)
    refine ⟨_, rfl, _, rfl, by show 2 ≤ sizeLine; decide, fun t2 nt2 => ⟨t2, rfl, ⟨_, sqT upd_same⟩, ?_⟩⟩
    have s3 : Same H (upd H2 t2 (.tup [.int 0, .int 0])) := s12.trans (same_new nt2)
    have g3 : (upd H2 t2 (.tup [.int 0, .int 0])) t2 = some (.tup [.int 0, .int 0]) := upd_same
    have ht3 : SqT K (upd H2 t2 (.tup [.int 0, .int 0])) t [] := (tk_new nt2).sq ht2
    revert s3 g3 ht3
    generalize upd H2 t2 (.tup [.int 0, .int 0]) = H3
    intro s3 g3 ht3
    refine for_tup (K := K) (a := t2) (xs := [.int 0, .int 0]) (fun i σ H' => (∃ y, σ = [some (.ref o), some v, some .non, some (.int 0), some (.int 0), some (.ref t), y]) ∧ H' = H3) ⟨⟨_, rfl⟩, rfl⟩ (fun i σ H' _ h => h.2 ▸ sqT g3) ?_ ?_
    · rintro i x σ H4 hx ⟨⟨y, rfl⟩, rfl⟩
      have : x = .int 0 := by
        match i, hx with
        | 0, hx => cases hx; rfl
        | 1, hx => cases hx; rfl
        | i + 2, hx => cases hx
      subst this
      exact ⟨_, rfl, rfl, true, rfl, iteF ⟨⟨_, rfl⟩, rfl⟩⟩
    · rintro σ H4 ⟨⟨y, rfl⟩, rfl⟩
      refine ⟨_, rfl, _, rfl, o, CH, dx, _, rfl, s3 _ _ ho, T.cl, T.n1, by show 0 < 1000; decide, ?_⟩
      refine ⟨_, rfl, _, rfl, o, CH, dx, _, rfl, upd_same, T.cl, T.n2, by show 1 < 1000; decide, ?_⟩
      refine ⟨_, rfl, _, rfl, o, CH, dx, _, rfl, upd_same, T.cl, T.n3, by show 2 < 1000; decide, ?_⟩
      refine ⟨_, rfl, _, rfl, o, CH, dx, _, rfl, upd_same, T.cl, T.n4, by show 3 < 1000; decide, ?_⟩
      have tk1 : ∀ {A : Hp} {fs : List (Str × V)} {ob : HO}, A o = some (.ins CH dx fs) → Tk A (upd A o ob) := fun {A fs ob} h => tk_ins h
      refine q _ (((((Bt.of_same s3).upd1 (by simp)).upd1 (by simp)).upd1 (by simp)).upd1 (by simp)) ⟨dx, v, t, upd_same, ?_, gf, ?_⟩
      · exact ((((hv.tk (tk_same s3)).tk (tk1 (s3 _ _ ho))).tk (tk1 upd_same)).tk (tk1 upd_same)).tk (tk1 upd_same)
      · exact (tk1 upd_same).sq ((tk1 upd_same).sq ((tk1 upd_same).sq ((tk1 (s3 _ _ ho)).sq ht3)))
/-! ### people -/
def spPeo (K : PySem.W.Frag) (CH : Addr) : Sp := fun vs H Q _ => ∃ (o : Addr) (rows : List (Str × Option Str)), vs = [.ref o] ∧ HomeAt K CH H o rows ∧ ∀ H' t, Same H H' → SqT K H' t ((rows.map Prod.fst).map V.str) → Q (.ref t) H'
theorem ok_peo {f : Addr} {fd : FuncData} {k : Nat} (B : Bi mg) (T : HsF K CH) (F : Fun K "people" "House.people" sPeo f fd) : FnOk P w K mg base CX0 (k + 1) f fd ["self"] (spPeo K CH) := by
  refine F.ok scPeo (fun vs H Q E h => ?_) (fun cdv A outer s H vs Q E hr h => ?_)
  · obtain ⟨o, rows, rfl, _⟩ := h
    rfl
  · obtain ⟨o, rows, rfl, ⟨dx, v, tt, ho, ⟨t, xs, rfl, ht, xl, hx⟩, gf, _⟩, q⟩ := h
    refine ⟨_, pss_one (ps_ret (pe_callTy call_tuple_of (by rfl) B.tuple boot_tuple (pa_cons (pe_lc (own := [("row", 1)]) (g := gName 1) (tt := tYes) rfl scPeo.nd (pi_tup (pe_fld (pv 0) rfl)) (blkOk_by (own := [("row", 1)]) (N := ["self", "row"]) (sc := defScope sPeo) (by decide +kernel))
        (fun _ _ _ _ _ => pg_name (i := 1) scPeo.nd rfl (Or.inl rfl)) (fun _ _ _ _ _ => pts_nil) (fun _ _ _ _ _ => pe_ix (r := rIxT K) ix_tup (pv 1) pe_int (fun _ _ => rfl))) pa_nil))), ?_⟩
    have l8 := gf.l8
    refine ⟨_, rfl, o, CH, dx, _, _, rfl, ho, T.cl, T.n1, rfl, t, rfl, ⟨_, ht⟩, fun L nL => lc_tup (K := K) (a := t) (xs := xs) (fun j H' => H' L = some (.lst (((rows.take j).map Prod.fst).map V.str)) ∧ Same H H') ⟨upd_same, same_new nL⟩ (fun j H' _ h => (tk_same h.2).sq ht) ?_ ?_⟩
    · rintro j x H5 hx5 ⟨hL, s5⟩
      obtain ⟨ra, r, rfl, hr5, hra⟩ := hx j x hx5
      have jl := lt_get hx5
      refine ⟨rfl, tyes (iteT ⟨_, rfl, ra, _, 0, .str r.1, rfl, rfl, (tk_same s5).sq hra, atI_nat (j := 0) rfl, _, hL, ?_, ?_, ((Bt.of_same (S := []) s5).upd0 nL).same⟩)⟩
      · rw [List.length_map, List.length_map, List.length_take]
        exact small1000 (by omega)
      · rw [upd_same, take_more hr5, List.map_append, List.map_append]
        rfl
    · rintro H5 ⟨hL, s5⟩
      rw [xl, List.take_length] at hL
      exact ⟨L, _, rfl, .inl ⟨sqL hL, fun tp ntp => q _ tp (s5.trans (same_new ntp)) (sqT upd_same)⟩⟩
/-! ### the row of a name -/
def spRow (K : PySem.W.Frag) : Sp := fun vs H Q _ => ∃ (v : V) (z : Str) (rows : List (Str × Option Str)), vs = [v, .str z] ∧ FolkAt K H v rows ∧ z ∈ rows.map Prod.fst ∧ ∀ H' a r, Same H H' → r ∈ rows → r.1 = z → SqT K H' a [.str r.1, parV r.2] → Q (.ref a) H'
theorem ok_row {f fW : Addr} {fd fdW : FuncData} {k : Nat} (D : Df K mg "row_named" sRow f fd ["rows", "name"]) (DW : Df K mg "is_word" sWord fW fdW ["thing", "words"]) (GW : FnOk P w K mg base CX0 (k + 1) fW fdW ["thing", "words"] (spWord K)) : FnOk P w K mg base CX0 (k + 2) f fd ["rows", "name"] (spRow K) := by
  refine D.fn.ok scRow (fun vs H Q E h => ?_) (fun cdv A outer s H vs Q E hr h => ?_)
  · obtain ⟨v, z, rows, rfl, _⟩ := h
    rfl
  · obtain ⟨v, z, rows, rfl, ⟨t, xs, rfl, ht, xl, hx⟩, zm, q⟩ := h
    refine ⟨_, pss_cons (ps_for PassesOwn.never rfl (pi_tup (pv 0)) (pg_name (i := 2) scRow.nd rfl (.inl rfl))
        (pss_one (ps_if (pt_val (pe_call GW hr (by rfl) DW.mg DW.fn.kp DW.bd .nil pass0 (pa_cons (pv 1) (pa_cons (pe_tup (pa_cons (pe_ix (r := rIxT K) ix_tup (pv 2) pe_int (fun _ _ => rfl)) pa_nil)) pa_nil)))) (pss_one (ps_ret (pv 2))) pss_nil)))
      (pss_one (ps_ret pe_non)), ?_⟩
    refine ⟨_, rfl, t, rfl, ⟨_, ht⟩, for_tup (K := K) (a := t) (xs := xs) (fun i σ H' => (∃ y2, σ = [some (.ref t), some (.str z), y2]) ∧ z ∈ (rows.drop i).map Prod.fst ∧ Same H H') ⟨⟨none, rfl⟩, zm, Same.refl H⟩ (fun i σ H' _ h => (tk_same h.2.2).sq ht) ?_ ?_⟩
    · rintro i x σ H2 hx2 ⟨⟨y2, rfl⟩, zi, s2⟩
      obtain ⟨a, r, rfl, hr2, ha⟩ := hx i x hx2
      have m := List.mem_of_getElem? hr2
      refine ⟨_, rfl, _, rfl, a, _, 0, .str r.1, rfl, rfl, (tk_same s2).sq ha, atI_nat (j := 0) rfl, by show 1 ≤ sizeLine; decide, fun tp ntp => ?_⟩
      have s3 : Same H (upd H2 tp (.tup [.str r.1])) := s2.trans (same_new ntp)
      have h3 : (upd H2 tp (.tup [.str r.1])) tp = some (.tup [.str r.1]) := upd_same
      revert s3 h3
      generalize upd H2 tp (.tup [.str r.1]) = H3
      intro s3 h3
      refine ⟨.str z, .str z, tp, [.str r.1], rfl, (Th.dp (.str z)).is, .inr (sqT h3), rfl, ?_⟩
      have wb : wordB [V.str r.1] (.str z) = decide (r.1 = z) := by
        show ((r.1 == z) || false) = _
        rw [Bool.or_false]
        by_cases e : r.1 = z <;> simp [e]
      rw [wb]
      refine ⟨_, rfl, ?_⟩
      by_cases e : r.1 = z
      · rw [decide_eq_true e]
        exact iteT ⟨_, rfl, q H3 a r s3 m e ((tk_same s3).sq ha)⟩
      · rw [decide_eq_false e]
        refine iteF ⟨⟨_, rfl⟩, ?_, s3⟩
        obtain ⟨hi, e2⟩ := List.getElem?_eq_some_iff.mp hr2
        rw [List.drop_eq_getElem_cons hi, List.map_cons] at zi
        rcases List.mem_cons.mp zi with h | h
        · exact absurd (by rw [← e2]; exact h.symm) e
        · exact h
    · rintro σ H2 ⟨⟨y2, rfl⟩, zi, s2⟩
      rw [xl, List.drop_length] at zi
      cases zi
end
end WdQ

set_option Elab.async false
set_option linter.all false
set_option maxRecDepth 100000
set_option maxHeartbeats 4000000
set_option exponentiation.threshold 5000
namespace WdQ
open PySem PySem.Spec PyProof.Rows L2 WdM Wd
/-! ### two rows side by side -/
inductive A2 {α β : Type} (R : α → β → Prop) : List α → List β → Prop
  | nil : A2 R [] []
  | cons {a : α} {b : β} {as : List α} {bs : List β} : R a b → A2 R as bs → A2 R (a :: as) (b :: bs)
theorem A2.imp {α β : Type} {R R' : α → β → Prop} (f : ∀ a b, R a b → R' a b) : ∀ {as : List α} {bs : List β}, A2 R as bs → A2 R' as bs
  | _, _, .nil => .nil
  | _, _, .cons h t => .cons (f _ _ h) (t.imp f)
theorem A2.append {α β : Type} {R : α → β → Prop} : ∀ {as cs : List α} {bs ds : List β}, A2 R as bs → A2 R cs ds → A2 R (as ++ cs) (bs ++ ds)
  | _, _, _, _, .nil, h => h
  | _, _, _, _, .cons h t, h2 => .cons h (t.append h2)
theorem A2.len {α β : Type} {R : α → β → Prop} : ∀ {as : List α} {bs : List β}, A2 R as bs → as.length = bs.length
  | _, _, .nil => rfl
  | _, _, .cons _ t => by rw [List.length_cons, List.length_cons, t.len]
theorem A2.get {α β : Type} {R : α → β → Prop} : ∀ {as : List α} {bs : List β} {i : Nat} {a : α}, A2 R as bs → as[i]? = some a → ∃ b, bs[i]? = some b ∧ R a b
  | _, _, 0, _, .cons h _, e => by cases e; exact ⟨_, rfl, h⟩
  | _, _, i + 1, _, .cons _ t, e => t.get (i := i) e
/-! ### conditions by their ways -/
def rowS (b : Bool) : Str := if b then "and" else "or"
inductive Fv (q : Nat) : PyData → Prop
  | liv (z : Str) : nmB z = true → Fv q (.tuple [.str "lives", .str z])
  | livAt (z : Str) (i : Int) : nmB z = true → -9999 ≤ i → i ≤ 9999 → Fv q (.tuple [.str "lives", .str z, .int i])
  | chl (z : Str) : nmB z = true → Fv q (.tuple [.str "childless", .str z])
  | neg (c : PyData) : formB q c = true → Fv q (.tuple [.str "not", c])
  | row (b : Bool) (c1 c2 : PyData) (cs : List PyData) : (c1 :: c2 :: cs).length ≤ 6 → (∀ c ∈ c1 :: c2 :: cs, formB q c = true) → Fv q (.tuple (.str (rowS b) :: c1 :: c2 :: cs))
theorem eqW_eq {w x : Str} (h : eqW w x = true) : w = x := by
  have h : V.str w = V.str x := of_decide_eq_true h
  cases h
  rfl
theorem eqV (a w : Str) : (a == w) = eqW w a := by
  unfold eqW
  by_cases h : a = w
  · subst h; simp
  · have h2 : ¬ V.str w = V.str a := fun z => h (by cases z; rfl)
    rw [decide_eq_false h2]
    simpa using h
theorem in_condV (w : Str) : inV (.str w) condW = (eqW w "lives" || (eqW w "childless" || (eqW w "not" || (eqW w "and" || eqW w "or")))) := by
  show (("lives" : Str) == w || (("childless" : Str) == w || (("not" : Str) == w || (("and" : Str) == w || (("or" : Str) == w || false))))) = _
  rw [eqV, eqV, eqV, eqV, eqV, Bool.or_false]
theorem name_is {d : PyData} (h : nameB d = true) : ∃ z, d = .str z ∧ nmB z = true := by
  cases d with
  | str z => exact ⟨z, rfl, h⟩
  | _ => cases h
theorem day_is {d : PyData} (h : dayB d = true) : ∃ i : Int, d = .int i ∧ -9999 ≤ i ∧ i ≤ 9999 := by
  cases d with
  | int i => exact ⟨i, rfl, of_decide_eq_true h⟩
  | _ => cases h
theorem form_view {r : Nat} {d : PyData} (h : formB r d = true) : ∃ q, r = q + 1 ∧ Fv q d := by
  obtain ⟨q, w, t, ts, rfl, rfl, hf⟩ := form_shape h
  refine ⟨q, rfl, ?_⟩
  unfold formL at hf
  by_cases iw : inV (.str w) condW = true
  · rw [if_pos iw] at hf
    by_cases c1 : eqW w "lives" = true
    · rw [if_pos c1] at hf
      obtain rfl := eqW_eq c1
      match ts, hf with
      | [], hf =>
        obtain ⟨z, rfl, hz⟩ := name_is hf
        exact .liv z hz
      | [d], hf =>
        obtain ⟨hn, hd⟩ := Bool.and_eq_true_iff.mp hf
        obtain ⟨z, rfl, hz⟩ := name_is hn
        obtain ⟨i, rfl, i0, i1⟩ := day_is hd
        exact .livAt z i hz i0 i1
      | _ :: _ :: _, hf => cases hf
    rw [if_neg c1] at hf
    by_cases c2 : eqW w "childless" = true
    · rw [if_pos c2] at hf
      obtain rfl := eqW_eq c2
      obtain ⟨e1, e2⟩ := Bool.and_eq_true_iff.mp hf
      have e1 : ts = [] := by simpa using e1
      subst e1
      obtain ⟨z, rfl, hz⟩ := name_is e2
      exact .chl z hz
    rw [if_neg c2] at hf
    by_cases c3 : eqW w "not" = true
    · rw [if_pos c3] at hf
      obtain rfl := eqW_eq c3
      obtain ⟨e1, e2⟩ := Bool.and_eq_true_iff.mp hf
      have e1 : ts = [] := by simpa using e1
      subst e1
      exact .neg t e2
    rw [if_neg c3] at hf
    obtain ⟨e1, e2⟩ := Bool.and_eq_true_iff.mp hf
    obtain ⟨l2, l6⟩ := of_decide_eq_true e1
    have hw : w = "and" ∨ w = "or" := by
      rw [in_condV] at iw
      simp only [Bool.or_eq_true] at iw
      rcases iw with h | h | h | h | h
      · exact absurd h c1
      · exact absurd h c2
      · exact absurd h c3
      · exact .inl (eqW_eq h)
      · exact .inr (eqW_eq h)
    have all : ∀ c ∈ t :: ts, formB q c = true := fun c hc => List.all_eq_true.mp e2 c hc
    match ts, l2, l6, all with
    | [], l2, _, _ => simp at l2
    | t2 :: cs, _, l6, all =>
      rcases hw with rfl | rfl
      · exact .row true t t2 cs l6 all
      · exact .row false t t2 cs l6 all
  · rw [if_neg iw] at hf
    cases hf
/-! ### the names of a condition -/
def fstS : List PyData → List Str
  | .str z :: _ => [z]
  | _ => []
def namesL (f : PyData → List Str) (w : Str) (ts : List PyData) : List Str := if (eqW w "lives" || eqW w "childless") = true then fstS ts else (ts.map f).flatten
def namesN : Nat → PyData → List Str
  | 0, _ => []
  | r + 1, .tuple (.str w :: ts) => namesL (namesN r) w ts
  | _ + 1, _ => []
theorem names_neg {q : Nat} {c : PyData} : namesN (q + 1) (.tuple [.str "not", c]) = namesN q c := by
  show namesL (namesN q) "not" [c] = _
  unfold namesL
  rw [if_neg (by decide)]
  simp
theorem row_leaf (b : Bool) : (eqW (rowS b) "lives" || eqW (rowS b) "childless") = false := by cases b <;> decide
theorem names_row {q : Nat} {b : Bool} {cs : List PyData} : namesN (q + 1) (.tuple (.str (rowS b) :: cs)) = (cs.map (namesN q)).flatten := by
  show namesL (namesN q) (rowS b) cs = _
  unfold namesL
  rw [if_neg (by rw [row_leaf]; decide)]
theorem names_len : ∀ {r : Nat} {d : PyData}, formB r d = true → (namesN r d).length = leafN r d := by
  intro r
  induction r with
  | zero => intro d h; cases h
  | succ r ih =>
    intro d h
    obtain ⟨q, e, v⟩ := form_view h
    obtain rfl : r = q := by omega
    have sumE : ∀ cs : List PyData, (∀ c ∈ cs, formB r c = true) → ((cs.map (namesN r)).flatten).length = (cs.map (leafN r)).sum := by
      intro cs
      induction cs with
      | nil => intro _; rfl
      | cons c cs ih2 =>
        intro a
        rw [List.map_cons, List.flatten_cons, List.length_append, List.map_cons, List.sum_cons, ih (a c List.mem_cons_self), ih2 fun x hx => a x (List.mem_cons_of_mem _ hx)]
    cases v with
    | liv z _ => rfl
    | livAt z i _ _ _ => rfl
    | chl z _ => rfl
    | neg c hc =>
      rw [names_neg, ih hc]
      show _ = leafL (leafN r) "not" [c]
      unfold leafL
      rw [if_neg (by decide)]
      simp
    | row b c1 c2 cs l a =>
      rw [names_row, sumE _ a]
      show _ = leafL (leafN r) (rowS b) (c1 :: c2 :: cs)
      unfold leafL
      rw [if_neg (by rw [row_leaf]; decide)]
theorem names_nm : ∀ {r : Nat} {d : PyData}, formB r d = true → ∀ z ∈ namesN r d, nmB z = true := by
  intro r
  induction r with
  | zero => intro d h; cases h
  | succ r ih =>
    intro d h z hz
    obtain ⟨q, e, v⟩ := form_view h
    obtain rfl : r = q := by omega
    cases v with
    | liv y hy => rw [List.mem_singleton.mp (show z ∈ [y] from hz)]; exact hy
    | livAt y i hy _ _ => rw [List.mem_singleton.mp (show z ∈ [y] from hz)]; exact hy
    | chl y hy => rw [List.mem_singleton.mp (show z ∈ [y] from hz)]; exact hy
    | neg c hc => rw [names_neg] at hz; exact ih hc z hz
    | row b c1 c2 cs l a =>
      rw [names_row] at hz
      obtain ⟨l, hl, zl⟩ := List.mem_flatten.mp hz
      obtain ⟨c, hc, rfl⟩ := List.mem_map.mp hl
      exact ih (a c hc) z zl
theorem names_ways {n : Nat} {d : PyData} (fv : Fv n d) : ∃ wd t ts, d = .tuple (.str wd :: t :: ts) ∧ (((eqW wd "lives" || eqW wd "childless") = true ∧ ∃ z, t = .str z ∧ nmB z = true ∧ namesN (n + 1) d = [z]) ∨
    ((eqW wd "lives" || eqW wd "childless") = false ∧ (t :: ts).length ≤ 6 ∧ (∀ c ∈ t :: ts, formB n c = true) ∧ namesN (n + 1) d = ((t :: ts).map (namesN n)).flatten)) := by
  cases fv with
  | liv z hz => exact ⟨_, _, _, rfl, .inl ⟨by decide, z, rfl, hz, rfl⟩⟩
  | livAt z i hz _ _ => exact ⟨_, _, _, rfl, .inl ⟨by decide, z, rfl, hz, rfl⟩⟩
  | chl z hz => exact ⟨_, _, _, rfl, .inl ⟨by decide, z, rfl, hz, rfl⟩⟩
  | neg c hc => exact ⟨_, _, _, rfl, .inr ⟨by decide, by simp, fun d hd => by rw [List.mem_singleton.mp hd]; exact hc, by rw [names_neg]; simp⟩⟩
  | row b c1 c2 cs l a => exact ⟨_, _, _, rfl, .inr ⟨row_leaf b, l, a, names_row⟩⟩
section
variable {P : Program} {w : World} {K : PySem.W.Frag} {mg : Str → Option Value} {base : Heap}
/-! ### leaves, told with what they are -/
def LfAt (K : PySem.W.Frag) (H : Hp) (x : V) (z : Str) : Prop := ∃ (a : Addr) (ws : List V), x = .ref a ∧ SqT K H a ws ∧ ws[1]? = some (.str z)
theorem LfAt.tk {H H' : Hp} {x : V} {z : Str} (h : LfAt K H x z) (e : Tk H H') : LfAt K H' x z := by
  obtain ⟨a, ws, rfl, hs, h1⟩ := h
  exact ⟨a, ws, rfl, e.sq hs, h1⟩
theorem lfs_tk {H H' : Hp} {xs : List V} {zs : List Str} (h : A2 (LfAt K H) xs zs) (e : Tk H H') : A2 (LfAt K H') xs zs := h.imp fun _ _ h => h.tk e
def spLvN (K : PySem.W.Frag) (r : Nat) : Sp := fun vs H Q _ => (vs = [.non] ∧ ∀ p, H p = none → Q (.ref p) (upd H p (.lst []))) ∨ ∃ (S : List Addr) (v : V) (d : PyData), vs = [v] ∧ Dz S K H v d ∧ formB r d = true ∧ ∀ H' p xs, Same H H' → H p = none → H' p = some (.lst xs) → A2 (LfAt K H') xs (namesN r d) → Q (.ref p) H'
def spLvNR (K : PySem.W.Frag) : Nat → Sp
  | 0 => fun _ _ _ _ => False
  | r + 1 => spLvN K r
theorem lvN_step {f : Addr} {fd : FuncData} {k r : Nat} (r6 : r ≤ 6) (B : Bi mg) (D : Df K mg "leaves" sLeav f fd ["cond"]) (GB : FnOk P w K mg base CX0 (k + r) f fd ["cond"] (spLvNR K r)) : FnOk P w K mg base CX0 (k + r + 1) f fd ["cond"] (spLvN K r) := by
  refine D.fn.ok scLeav (fun vs H Q E h => ?_) (fun cdv A outer s H vs Q E hr h => ?_)
  · rcases h with ⟨rfl, _⟩ | ⟨S, v, d, rfl, _⟩ <;> rfl
  · refine ⟨_, pss_cons (ps_if (pt_cmpR op_isN (pv 0) pe_non (nomark _)) (pss_one (ps_ret (pe_lst pa_nil))) pss_nil)
      (pss_cons (ps_if (PW.pt (pw_or (pt_cmpR op_eq (pe_ix (r := rIxT K) ix_tup (pv 0) pe_int (fun _ _ => rfl)) pe_str (nomark _)) (pw_or1 (pt_cmpR op_eq (pe_ix (r := rIxT K) ix_tup (pv 0) pe_int (fun _ _ => rfl)) pe_str (nomark _))))) (pss_one (ps_ret (pe_lst (pa_cons (pv 0) pa_nil)))) pss_nil)
      (pss_one (ps_ret (pe_lc2 (own := [("term", 1), ("leaf", 2)]) (vs1 := [2]) (g := gName 1) (g1 := gName 2) (tt := tYes) (tt1 := tYes) (wi1 := iList K (tCall (spLvNR K r) [] E0 (tCons (tVar 1) tNil))) rfl scLeav.nd (pi_tup (pe_slice sl_tupA (pv 0) (po_some pe_int) po_none))
          (blkOk_by (own := [("term", 1), ("leaf", 2)]) (N := ["cond", "term", "leaf"]) (sc := defScope sLeav) (by decide +kernel)) (by decide)
          (fun _ _ _ _ _ => pg_name (i := 1) scLeav.nd rfl (Or.inl rfl)) (fun _ _ _ _ _ => pts_nil)
          (fun _ _ _ _ _ => pi_list (pe_call GB hr (by rfl) D.mg D.fn.kp D.bd .nil pass0 (pa_cons (pv 1) pa_nil)))
          (fun _ _ _ _ _ => pg_name (i := 2) scLeav.nd rfl (Or.inl rfl)) (fun _ _ _ _ _ => pts_nil)
          (fun _ _ _ _ _ => pv 2))))), ?_⟩
    rcases h with ⟨rfl, q⟩ | ⟨S, v, d, rfl, dz, fm, q⟩
    · exact ⟨_, rfl, rfl, true, rfl, iteT ⟨by show 0 ≤ sizeLine; decide, fun p np => q p np⟩⟩
    obtain ⟨n, rfl, fv⟩ := form_view fm
    obtain ⟨wd, t, ts, rfl, ways⟩ := names_ways fv
    obtain ⟨a, xs, rfl, hs, hd⟩ := dz_tup dz
    obtain ⟨x1, x2, ys, d1, d2, es, rfl, e, h1, h2, hts⟩ := dz_cons2 hd (by simp)
    cases e
    obtain rfl := dz_str h1
    refine ⟨_, rfl, rfl, false, rfl, iteF ?_⟩
    refine ⟨_, rfl, a, _, 0, _, rfl, rfl, hs, atI_nat (j := 0) rfl, rfl, _, rfl, ?_⟩
    show if eqW wd "lives" = true then _ else _
    have one : (eqW wd "lives" || eqW wd "childless") = true → ∀ p, H p = none → Q (.ref p) (upd H p (.lst [.ref a])) := fun hw p np => by
      rcases ways with ⟨_, z, rfl, _, e⟩ | ⟨hw2, _⟩
      · obtain rfl := dz_str h2
        refine q _ p _ (same_new np) np upd_same ?_
        rw [e]
        exact .cons ⟨a, _, rfl, (tk_new np).sq hs, rfl⟩ .nil
      · rw [hw] at hw2
        cases hw2
    by_cases c1 : eqW wd "lives" = true
    · rw [c1]
      exact iteT (iteT ⟨_, rfl, by show 1 ≤ sizeLine; decide, fun p np => one (by rw [c1]; rfl) p np⟩)
    have c1' : eqW wd "lives" = false := by simpa using c1
    rw [c1']
    refine iteF ⟨_, rfl, a, _, 0, _, rfl, rfl, hs, atI_nat (j := 0) rfl, rfl, _, rfl, ?_⟩
    show if eqW wd "childless" = true then _ else _
    by_cases c2 : eqW wd "childless" = true
    · rw [c2]
      exact iteT ⟨_, rfl, by show 1 ≤ sizeLine; decide, fun p np => one (by rw [c2]; exact Bool.or_true _) p np⟩
    have c2' : eqW wd "childless" = false := by simpa using c2
    rw [c2']
    rcases ways with ⟨hw, _⟩ | ⟨_, l6, all, en⟩
    · rw [c1', c2'] at hw
      cases hw
    rw [en] at q
    refine iteF ⟨_, rfl, 1, rfl, ?_⟩
    refine (show tNoPart _ H _ from cut_tup1 hs (by show 1 ≤ _; simp) (fun p H1 s1 sq => ?_))
    have sq : SqT K H1 p (x2 :: ys) := sq
    have ht1 : DzAll S K H1 (x2 :: ys) (t :: ts) := (DzAll.cons h2 hts).same s1
    have hl := ht1.len
    have lf : ∀ e ∈ t :: ts, (namesN n e).length ≤ 6 ^ 5 := fun e he => by
      rw [names_len (all e he)]
      exact Nat.le_trans (leaf_le (all e he)) (Nat.pow_le_pow_right (by decide) (by omega))
    clear fv fm dz one en hs hd h1 h2 hts
    revert sq ht1 hl q all l6 lf
    generalize x2 :: ys = zs
    generalize t :: ts = fs
    intro q l6 all sq ht1 hl lf
    refine ⟨p, rfl, ⟨zs, sq⟩, fun L nL => ?_⟩
    have part : ∀ i, i ≤ zs.length → (((fs.take i).map (namesN n)).flatten).length ≤ 46656 := fun i hi => by
      rw [List.length_flatten, List.map_map]
      have := sum_le (f := fun c => (namesN n c).length) (b := 6 ^ 5) (ds := fs.take i) fun d hd => lf d (List.mem_of_mem_take hd)
      have l : (fs.take i).length ≤ 6 := by rw [List.length_take]; omega
      have := Nat.mul_le_mul_right (6 ^ 5) l
      have e : (List.map (List.length ∘ namesN n) (fs.take i)) = (fs.take i).map fun c => (namesN n c).length := rfl
      rw [e]
      omega
    refine lc_outer (walk_tup (K := K) (a := p) (xs := zs)) (fun i H' => ∃ acc, H' L = some (.lst acc) ∧ A2 (LfAt K H') acc (((fs.take i).map (namesN n)).flatten) ∧ Same H1 H') ⟨[], upd_same, .nil, same_new nL⟩ (fun i H' _ ⟨_, _, _, s⟩ => (tk_same s).sq sq) ?_ ?_
    · rintro i x H2 _ hi ⟨acc, hL, al, s2⟩ ⟨rfl, hx⟩
      obtain ⟨e, he, dx⟩ := ht1.get hx
      have fe := all e (List.mem_of_getElem? he)
      refine ⟨rfl, tyes (iteT ⟨_, rfl, .inr ⟨S, x, e, rfl, dx.same s2, fe, fun H3 p3 ws s3 n3 h3 wl => ⟨p3, rfl, ⟨_, sqL h3⟩, ?_⟩⟩⟩)⟩
      have n3L : p3 ≠ L := (ne_of_none hL n3).symm
      have cat : A2 (LfAt K H3) (acc ++ ws) (((fs.take (i + 1)).map (namesN n)).flatten) := by
        rw [take_more he, List.map_append, List.flatten_append]
        simp only [List.map_cons, List.map_nil, List.flatten_cons, List.flatten_nil, List.append_nil]
        exact (lfs_tk al (tk_same s3)).append wl
      have t1 : (acc ++ ws).length ≤ 46656 := by
        rw [cat.len]
        exact part (i + 1) (by omega)
      rw [List.length_append] at t1
      refine lc_inner (walk_list (K := K) (a := p3) (xs := ws)) (fun j H' => H' L = some (.lst (acc ++ ws.take j)) ∧ H' p3 = some (.lst ws) ∧ Same H1 H' ∧ Tk H3 H') ⟨by rw [List.take_zero, List.append_nil]; exact s3 _ _ hL, h3, s2.trans s3, Tk.refl H3⟩ (fun j H' _ ⟨_, h, _, _⟩ => sqL h) ?_ ?_
      · rintro j y H4 _ hj ⟨hL4, h34, s4, t4⟩ ⟨rfl, hy⟩
        refine ⟨rfl, tyes (iteT ⟨_, rfl, _, hL4, Nat.lt_of_lt_of_le (show (acc ++ ws.take j).length < 50000 by rw [List.length_append, List.length_take]; omega) (by decide), ?_, by rw [upd_ne n3L]; exact h34, ((Bt.of_same (S := []) s4).upd0 nL).same, t4.trans (tk_lst hL4)⟩)⟩
        rw [upd_same, take_more hy, List.append_assoc]
      · rintro H4 ⟨hL4, h34, s4, t4⟩
        rw [List.take_length] at hL4
        exact ⟨_, hL4, lfs_tk cat t4, s4⟩
    · rintro H2 ⟨acc, hL, al, s2⟩
      rw [hl, List.take_length] at al
      exact q H2 L acc (s1.trans s2) (s1.free nL) hL al
theorem ok_lvN {f : Addr} {fd : FuncData} {k : Nat} (B : Bi mg) (D : Df K mg "leaves" sLeav f fd ["cond"]) : ∀ r, r ≤ 6 → FnOk P w K mg base CX0 (k + r + 1) f fd ["cond"] (spLvN K r)
  | 0, h => lvN_step h B D ⟨fun _ _ _ _ h => h.elim, fun _ _ _ _ _ _ _ _ _ _ _ _ _ h => h.elim⟩
  | r + 1, h => lvN_step (r := r + 1) h B D (ok_lvN B D r (by omega))
end
end WdQ

set_option Elab.async false
set_option linter.all false
set_option maxRecDepth 100000
set_option maxHeartbeats 4000000
set_option exponentiation.threshold 5000
namespace WdQ
open PySem PySem.Spec PyProof.Rows L2 WdM Wd
def kidB (z : Str) (r : Str × Option Str) : Bool := decide (r.2 = some z)
def kidsOf (rows : List (Str × Option Str)) (z : Str) : List Str := (rows.filter (kidB z)).map Prod.fst
theorem kid_eq (z : Str) (r : Str × Option Str) : decide (parV r.2 = V.str z) = kidB z r := by
  unfold kidB
  cases r.2 with
  | none => rfl
  | some y =>
    by_cases e : y = z
    · subst e; simp [parV]
    · rw [decide_eq_false (fun h => e (Option.some.inj h)), decide_eq_false]
      intro h
      cases h
      exact e rfl
section
variable {P : Program} {w : World} {K : PySem.W.Frag} {mg : Str → Option Value} {base : Heap} {CH CY : Addr}
def spPers (K : PySem.W.Frag) (CH : Addr) : Sp := fun vs H Q _ => ∃ (o : Addr) (z : Str) (rows : List (Str × Option Str)), vs = [.ref o, .str z] ∧ HomeAt K CH H o rows ∧ z ∈ rows.map Prod.fst ∧ ∀ H' a, Same H H' → Q (.ref a) H'
theorem ok_pers {f fR : Addr} {fd fdR : FuncData} {k : Nat} (T : HsF K CH) (F : Fun K "person" "House.person" sPers f fd) (DR : Df K mg "row_named" sRow fR fdR ["rows", "name"]) (GR : FnOk P w K mg base CX0 (k + 2) fR fdR ["rows", "name"] (spRow K)) : FnOk P w K mg base CX0 (k + 3) f fd ["self", "name"] (spPers K CH) := by
  refine F.ok scPers (fun vs H Q E h => ?_) (fun cdv A outer s H vs Q E hr h => ?_)
  · obtain ⟨o, z, rows, rfl, _⟩ := h
    rfl
  · obtain ⟨o, z, rows, rfl, ⟨dx, v, t, ho, hv, gf, ht⟩, zm, q⟩ := h
    refine ⟨_, pss_cons (ps_set (i := 2) scPers.nd rfl (.inl rfl) (pe_call GR hr (by rfl) DR.mg DR.fn.kp DR.bd .nil pass0 (pa_cons (pe_fld (pv 0) rfl) (pa_cons (pv 1) pa_nil))))
      (pss_cons (ps_if (pt_cmpR op_isN (pv 2) pe_non (nomark _)) pss_noS pss_nil) (pss_one (ps_ret (pv 2)))), ?_⟩
    refine ⟨_, rfl, o, CH, dx, _, _, rfl, ho, T.cl, T.n1, rfl, _, rfl, v, z, rows, rfl, hv, zm, fun H1 a r s1 _ _ _ => ?_⟩
    exact ⟨_, rfl, rfl, false, rfl, iteF ⟨_, rfl, q H1 a s1⟩⟩
def spKids (K : PySem.W.Frag) (CH : Addr) : Sp := fun vs H Q _ => ∃ (o : Addr) (z : Str) (rows : List (Str × Option Str)), vs = [.ref o, .str z] ∧ HomeAt K CH H o rows ∧ z ∈ rows.map Prod.fst ∧ ∀ H' t, Same H H' → SqT K H' t ((kidsOf rows z).map V.str) → Q (.ref t) H'
theorem ok_kids {f fP : Addr} {fd fdP : FuncData} {k : Nat} (B : Bi mg) (T : HsF K CH) (F : Fun K "children" "House.children" sChi f fd) (MP : Meth K CH "person" fP) (bP : Binds K fdP ["self", "name"] []) (GP : FnOk P w K mg base CX0 (k + 3) fP fdP ["self", "name"] (spPers K CH)) :
    FnOk P w K mg base CX0 (k + 4) f fd ["self", "name"] (spKids K CH) := by
  refine F.ok scChi (fun vs H Q E h => ?_) (fun cdv A outer s H vs Q E hr h => ?_)
  · obtain ⟨o, z, rows, rfl, _⟩ := h
    rfl
  · obtain ⟨o, z, rows, rfl, hh, zm, q⟩ := h
    refine ⟨_, pss_cons (ps_expr (pe_meth (pv 0) T.cl MP GP hr bP .nil pass0 (pa_cons (pv 1) pa_nil)))
      (pss_one (ps_ret (pe_callTy call_tuple_of (by rfl) B.tuple boot_tuple (pa_cons (pe_lc (own := [("row", 2)]) (g := gName 2) rfl scChi.nd (pi_tup (pe_fld (pv 0) rfl)) (blkOk_by (own := [("row", 2)]) (N := ["self", "name", "row"]) (sc := defScope sChi) (by decide +kernel))
        (fun _ _ _ _ _ => pg_name (i := 2) scChi.nd rfl (Or.inl rfl)) (fun _ _ _ _ _ => pts_one (pt_cmpR op_eq (pe_ix (r := rIxT K) ix_tup (pv 2) pe_int (fun _ _ => rfl)) (pv 1) (nomark _))) (fun _ _ _ _ _ => pe_ix (r := rIxT K) ix_tup (pv 2) pe_int (fun _ _ => rfl))) pa_nil)))), ?_⟩
    have hh0 := hh
    obtain ⟨dx, v, tt, ho, _, gf, _⟩ := hh
    refine ⟨_, rfl, o, dx, _, rfl, ho, rfl, _, rfl, o, z, rows, rfl, hh0, zm, fun H1 a1 s1 => ?_⟩
    obtain ⟨dx1, v1, tt1, ho1, ⟨t, xs, rfl, ht, xl, hx⟩, gf1, _⟩ := hh0.same s1
    have l8 := gf.l8
    refine ⟨_, rfl, o, CH, dx1, _, _, rfl, ho1, T.cl, T.n1, rfl, t, rfl, ⟨_, ht⟩, fun L nL => lc_tup (K := K) (a := t) (xs := xs) (fun j H' => H' L = some (.lst ((kidsOf (rows.take j) z).map V.str)) ∧ Same H1 H') ⟨upd_same, same_new nL⟩ (fun j H' _ h => (tk_same h.2).sq ht) ?_ ?_⟩
    · rintro j x H5 hx5 ⟨hL, s5⟩
      obtain ⟨ra, r, rfl, hr5, hra⟩ := hx j x hx5
      have jl := lt_get hx5
      have hr6 : SqT K H5 ra [.str r.1, parV r.2] := (tk_same s5).sq hra
      have fl : ((rows.take j).filter (kidB z)).length ≤ 8 := by
        have := List.length_filter_le (kidB z) (rows.take j)
        rw [List.length_take] at this
        omega
      refine ⟨rfl, _, rfl, ra, _, 1, parV r.2, rfl, rfl, hr6, atI_nat (j := 1) rfl, _, rfl, by cases r.2 <;> rfl, _, rfl, ?_⟩
      rw [kid_eq]
      by_cases e : kidB z r = true
      · rw [e]
        refine iteT ⟨_, rfl, ra, _, 0, .str r.1, rfl, rfl, hr6, atI_nat (j := 0) rfl, _, hL, ?_, ?_, ((Bt.of_same (S := []) s5).upd0 nL).same⟩
        · rw [List.length_map]
          unfold kidsOf
          rw [List.length_map]
          exact small1000 (by omega)
        · rw [upd_same, take_more hr5]
          unfold kidsOf
          rw [List.filter_append, List.filter_cons_of_pos e, List.map_append, List.map_append]
          rfl
      · rw [show kidB z r = false by simpa using e]
        refine iteF ⟨?_, s5⟩
        rw [hL, take_more hr5]
        unfold kidsOf
        rw [List.filter_append, List.filter_cons_of_neg e, List.filter_nil, List.append_nil]
    · rintro H5 ⟨hL, s5⟩
      rw [xl, List.take_length] at hL
      exact ⟨L, _, rfl, .inl ⟨sqL hL, fun tp ntp => q _ tp ((s1.trans s5).trans (same_new ntp)) (sqT upd_same)⟩⟩
end
end WdQ

set_option Elab.async false
set_option linter.all false
set_option maxRecDepth 100000
set_option maxHeartbeats 4000000
set_option exponentiation.threshold 5000
namespace WdQ
open PySem PySem.Spec PyProof.Rows L2 WdM Wd
abbrev leTail : List Value := [.type "LookupError", .type "Exception", .type "BaseException", .type "object"]
/-- what the top has written of an own error of the family of LookupError, with one field -/
structure ErL (K : PySem.W.Frag) (mg : Str → Option Value) (x fld : Str) (C fI CW : Addr) : Prop where
  o : OexT "LookupError.__new__" leTail K C
  no : PySem.W.findIn K (.ref C) fld = some none
  i : PySem.W.findIn K (.ref C) "__init__" = some (some (.ref fI))
  t : PySem.W.typeIn K (.ref fI) = some (.type "function")
  g : mg x = some (.ref C)
  m : PySem.W.exmOne K (.ref C) (.ref CW) = some true
  c : ExcC K C
  f : XfC K C
abbrev sEPer : Stmt := inClass (topS 20) 0
abbrev sCN : Stmt := topS 58
theorem scEPer : FnScope ["self", "name"] ["self", "name"] (defScope sEPer) := ⟨rfl, rfl, rfl, by decide +kernel, rfl, by decide +kernel, by decide +kernel⟩
theorem scCN : FnScope ["cond", "leaf"] ["cond"] (defScope sCN) := ⟨rfl, rfl, rfl, by decide +kernel, rfl, by decide +kernel, by decide +kernel⟩
/-- the first of the names that isn't there -/
def missN (ns zs : List Str) : Option Str := zs.find? fun z => !inV (.str z) (ns.map V.str)
theorem miss_drop {ns zs : List Str} {i : Nat} {z : Str} (h : zs[i]? = some z) : missN ns (zs.drop i) = if inV (.str z) (ns.map V.str) = true then missN ns (zs.drop (i + 1)) else some z := by
  obtain ⟨hi, e⟩ := List.getElem?_eq_some_iff.mp h
  rw [List.drop_eq_getElem_cons hi, e]
  unfold missN
  rw [List.find?_cons]
  cases inV (.str z) (ns.map V.str) <;> rfl
section
variable {P : Program} {w : World} {K : PySem.W.Frag} {mg : Str → Option Value} {base : Heap} {CH CY CP fE CL : Addr}
theorem ok_ePer {fd : FuncData} {k : Nat} (T : ErL K mg "NoPerson" "name" CP fE CL) (F : Fun K "__init__" "NoPerson.__init__" sEPer fE fd) : FnOk P w K mg base CX0 (k + 1) fE fd ["self", "name"] (spInitE CP "name") := by
  refine F.ok scEPer (fun vs H Q E h => ?_) (fun cdv A outer s H vs Q E hr h => ?_)
  · obtain ⟨a, y, rfl, _⟩ := h
    rfl
  · obtain ⟨a, y, rfl, ha, q⟩ := h
    exact ⟨_, pss_one (ps_osT fam_lookup (pv 0) (pv 1)), y, rfl, .ref a, rfl, a, CP, rfl, T.o, T.no, ha, fun dx h1 h2 => q dx h1 h2⟩
def spCkP (K : PySem.W.Frag) (CH CP : Addr) : Sp := fun vs H Q E => ∃ (o L : Addr) (rows : List (Str × Option Str)) (zs : List Str), vs = [.ref o, .ref L] ∧ HomeAt K CH H o rows ∧ H L = some (.lst (zs.map V.str)) ∧
  (missN (rows.map Prod.fst) zs = none → ∀ H', Same H H' → Q .non H') ∧ (∀ z, missN (rows.map Prod.fst) zs = some z → ∀ H' dd, Same H H' → H' dd = none → E (.ref CP) (some dd) (upd H' dd (.xd [("name", .str z)])))
theorem ok_ckP {f fP : Addr} {fd fdP fdI : FuncData} {k : Nat} (T : HsF K CH) (TP : ErL K mg "NoPerson" "name" CP fE CL) (FI : Fun K "__init__" "NoPerson.__init__" sEPer fE fdI) (bI : Binds K fdI ["self", "name"] []) (D : Df K mg "check_persons" sCkP f fd ["house", "names"])
    (MP : Meth K CH "people" fP) (bP : Binds K fdP ["self"] []) (GP : FnOk P w K mg base CX0 (k + 1) fP fdP ["self"] (spPeo K CH)) : FnOk P w K mg base (L2.CX P w) (k + 3) f fd ["house", "names"] (spCkP K CH CP) := by
  have GI : FnOk P w K mg base CX0 (k + 1) fE fdI ["self", "name"] (spInitE CP "name") := ok_ePer (k := k) TP FI
  refine D.fn.okX scCkP (fun vs H Q E h => ?_) (fun cdv A outer s H vs Q E hr h => ?_)
  · obtain ⟨o, L, rows, zs, rfl, _⟩ := h
    rfl
  · obtain ⟨o, L, rows, zs, rfl, hh, hL, q, x⟩ := h
    refine ⟨_, pss_cons (ps_set (i := 2) scCkP.nd rfl (.inl rfl) (pe_meth0 (pv 0) T.cl MP GP (hr.mono (by omega)) bP .nil pass0))
      (pss_one (ps_for (passes_of rfl) rfl (pi_list (pv 1)) (pg_name (i := 3) scCkP.nd rfl (.inl rfl))
        (pss_one (ps_if (pt_cmpR (r := rIn K true) op_notIn_seq (pv 3) (pv 2) (by rfl))
          (pss_one (ps_raise rfl (takes_of rfl rfl rfl rfl) (pmk_T fam_lookup TP.o TP.i TP.t GI hr bI .nil pass0 (by rfl) TP.g (pa_cons (pv 3) pa_nil)))) pss_nil)))), ?_⟩
    have hh0 := hh
    obtain ⟨dx, v, tt, ho, _, gf, _⟩ := hh
    refine ⟨_, rfl, o, dx, _, rfl, ho, rfl, o, rows, rfl, hh0, fun H1 t s1 ht => ?_⟩
    refine ⟨_, rfl, L, rfl, ⟨_, sqL (s1 _ _ hL)⟩, for_list (K := K) (a := L) (xs := zs.map V.str) (fun i σ H' => (∃ y, σ = [some (.ref o), some (.ref L), some (.ref t), y]) ∧ missN (rows.map Prod.fst) zs = missN (rows.map Prod.fst) (zs.drop i) ∧ Same H1 H') ⟨⟨none, rfl⟩, rfl, Same.refl H1⟩ (fun i σ H' _ h => sqL (h.2.2 _ _ (s1 _ _ hL))) ?_ ?_⟩
    · rintro i x' σ H2 hx2 ⟨⟨y, rfl⟩, em, s2⟩
      obtain ⟨z, hz, rfl⟩ : ∃ z, zs[i]? = some z ∧ x' = .str z := by
        rw [List.getElem?_map] at hx2
        cases hc : zs[i]? with
        | none => rw [hc] at hx2; cases hx2
        | some z => rw [hc] at hx2; cases hx2; exact ⟨z, rfl, rfl⟩
      refine ⟨_, rfl, _, rfl, t, _, rfl, .inr ((tk_same s2).sq ht), rfl, flatS _, _, rfl, ?_⟩
      rw [miss_drop hz] at em
      cases c : inV (.str z) ((rows.map Prod.fst).map V.str) with
      | true =>
        rw [if_pos c] at em
        exact iteF ⟨⟨_, rfl⟩, em, s2⟩
      | false =>
        rw [if_neg (by rw [c]; decide)] at em
        exact iteT (raise_var rfl fun dd hd => x z em H2 dd (s1.trans s2) hd)
    · rintro σ H2 ⟨⟨y, rfl⟩, em, s2⟩
      rw [List.length_map, List.drop_length] at em
      exact q em H2 (s1.trans s2)
/-! ### the names of a condition, in a list -/
def spCN (K : PySem.W.Frag) : Sp := fun vs H Q _ => ∃ (v : V) (zs : List Str), vs = [v] ∧ ((v = .non ∧ zs = []) ∨ ∃ (S : List Addr) (d : PyData), Dz S K H v d ∧ formB 6 d = true ∧ zs = namesN 6 d) ∧ ∀ H' p, Same H H' → H p = none → H' p = some (.lst (zs.map V.str)) → Q (.ref p) H'
theorem ok_CN {f fL : Addr} {fd fdL : FuncData} {k : Nat} (B : Bi mg) (D : Df K mg "cond_names" sCN f fd ["cond"]) (DL : Df K mg "leaves" sLeav fL fdL ["cond"]) : FnOk P w K mg base CX0 (k + 8) f fd ["cond"] (spCN K) := by
  have GL : FnOk P w K mg base CX0 (k + 7) fL fdL ["cond"] (spLvN K 6) := ok_lvN (k := k) B DL 6 (by decide)
  refine D.fn.ok scCN (fun vs H Q E h => ?_) (fun cdv A outer s H vs Q E hr h => ?_)
  · obtain ⟨v, zs, rfl, _⟩ := h
    rfl
  · obtain ⟨v, zs, rfl, hv, q⟩ := h
    refine ⟨_, pss_one (ps_ret (pe_lc (own := [("leaf", 1)]) (g := gName 1) (tt := tYes) rfl scCN.nd (pi_list (pe_call GL hr (by rfl) DL.mg DL.fn.kp DL.bd .nil pass0 (pa_cons (pv 0) pa_nil))) (blkOk_by (own := [("leaf", 1)]) (N := ["cond", "leaf"]) (sc := defScope sCN) (by decide +kernel))
        (fun _ _ _ _ _ => pg_name (i := 1) scCN.nd rfl (Or.inl rfl)) (fun _ _ _ _ _ => pts_nil) (fun _ _ _ _ _ => pe_ix (r := rIxT K) ix_tup (pv 1) pe_int (fun _ _ => rfl)))), ?_⟩
    rcases hv with ⟨rfl, rfl⟩ | ⟨S, d, dz, fm, rfl⟩
    · refine ⟨_, rfl, .inl ⟨rfl, fun p np => ⟨p, rfl, ⟨_, sqL upd_same⟩, fun L nL => ?_⟩⟩⟩
      refine lc_list (K := K) (a := p) (xs := []) (fun j H' => H' L = some (.lst []) ∧ Same (upd H p (.lst [])) H') ⟨upd_same, same_new nL⟩ (fun j H' _ h => sqL (h.2 _ _ upd_same)) ?_ ?_
      · rintro j x H5 hx5 _
        cases hx5
      · rintro H5 ⟨hL, s5⟩
        exact q H5 L ((same_new np).trans s5) ((same_new np).free nL) hL
    · refine ⟨_, rfl, .inr ⟨S, v, d, rfl, dz, fm, fun H1 p xs s1 np hp al => ⟨p, rfl, ⟨_, sqL hp⟩, fun L nL => ?_⟩⟩⟩
      have zl : (namesN 6 d).length ≤ 46656 := by rw [names_len fm]; exact leaf_le fm
      revert al q zl
      generalize namesN 6 d = zs
      intro q al zl
      refine lc_list (K := K) (a := p) (xs := xs) (fun j H' => H' L = some (.lst ((zs.take j).map V.str)) ∧ Same H1 H') ⟨upd_same, same_new nL⟩ (fun j H' _ h => sqL (h.2 _ _ hp)) ?_ ?_
      · rintro j x H5 hx5 ⟨hL, s5⟩
        obtain ⟨z, hz, a, ws, rfl, hs, h1⟩ := al.get hx5
        refine ⟨rfl, tyes (iteT ⟨_, rfl, a, ws, 1, .str z, rfl, rfl, (tk_same s5).sq hs, atI_nat (j := 1) h1, _, hL, ?_, ?_, ((Bt.of_same (S := []) s5).upd0 nL).same⟩)⟩
        · rw [List.length_map, List.length_take]
          exact Nat.lt_of_lt_of_le (show _ < 50000 by omega) (by decide)
        · rw [upd_same, take_more hz, List.map_append]
          rfl
      · rintro H5 ⟨hL, s5⟩
        rw [al.len, List.take_length] at hL
        exact q H5 L (s1.trans s5) (s1.free nL) hL
end
end WdQ

set_option Elab.async false
set_option linter.all false
set_option maxRecDepth 100000
set_option maxHeartbeats 4000000
set_option exponentiation.threshold 5000
namespace WdQ
open PySem PySem.Spec PyProof.Rows L2 WdM Wd
abbrev sHC : Stmt := topS 61
def nHC : List Str := ["house", "cond", "story", "wait", "word", "child", "told", "term"]
theorem scHC : FnScope nHC ["house", "cond", "story", "wait"] (defScope sHC) := ⟨rfl, rfl, rfl, by decide +kernel, rfl, by decide +kernel, by decide +kernel⟩
/-! ### when a condition comes -/
def comeL (F : List (Str × Option Str)) (D : List (Str × Int)) (m : Int) (f : PyData → Bool) (w : Str) (ts : List PyData) : Bool :=
  if eqW w "lives" = true then (match ts with | [.str z] => aliveB D z m | [.str z, .int i] => aliveB D z i | _ => false) else
  if eqW w "childless" = true then (match ts with | [.str z] => !((kidsOf F z).any fun y => aliveB D y m) | _ => false) else
  if eqW w "not" = true then (match ts with | [c] => !f c | _ => false) else if eqW w "and" = true then ts.all f else ts.any f
def comeN (F : List (Str × Option Str)) (D : List (Str × Int)) (m : Int) : Nat → PyData → Bool
  | 0, _ => false
  | r + 1, .tuple (.str w :: ts) => comeL F D m (comeN F D m r) w ts
  | _ + 1, _ => false
section
variable {F : List (Str × Option Str)} {D : List (Str × Int)} {m : Int} {q : Nat}
theorem come_liv {z : Str} : comeN F D m (q + 1) (.tuple [.str "lives", .str z]) = aliveB D z m := by
  show comeL F D m _ "lives" [.str z] = _
  unfold comeL
  rw [if_pos (by decide)]
theorem come_livAt {z : Str} {i : Int} : comeN F D m (q + 1) (.tuple [.str "lives", .str z, .int i]) = aliveB D z i := by
  show comeL F D m _ "lives" [.str z, .int i] = _
  unfold comeL
  rw [if_pos (by decide)]
theorem come_chl {z : Str} : comeN F D m (q + 1) (.tuple [.str "childless", .str z]) = !((kidsOf F z).any fun y => aliveB D y m) := by
  show comeL F D m _ "childless" [.str z] = _
  unfold comeL
  rw [if_neg (by decide), if_pos (by decide)]
theorem come_neg {c : PyData} : comeN F D m (q + 1) (.tuple [.str "not", c]) = !comeN F D m q c := by
  show comeL F D m _ "not" [c] = _
  unfold comeL
  rw [if_neg (by decide), if_neg (by decide), if_pos (by decide)]
theorem come_and {cs : List PyData} : comeN F D m (q + 1) (.tuple (.str "and" :: cs)) = cs.all (comeN F D m q) := by
  show comeL F D m _ "and" cs = _
  unfold comeL
  rw [if_neg (by decide), if_neg (by decide), if_neg (by decide), if_pos (by decide)]
theorem come_or {cs : List PyData} : comeN F D m (q + 1) (.tuple (.str "or" :: cs)) = cs.any (comeN F D m q) := by
  show comeL F D m _ "or" cs = _
  unfold comeL
  rw [if_neg (by decide), if_neg (by decide), if_neg (by decide), if_neg (by decide)]
end
theorem kids_nm {rows : List (Str × Option Str)} (g : GoodF rows) {z y : Str} (h : y ∈ kidsOf rows z) : nmB y = true := by
  obtain ⟨r, hr, rfl⟩ := List.mem_map.mp h
  exact (g.nm r (List.mem_filter.mp hr).1).name
theorem kids_len (rows : List (Str × Option Str)) (z : Str) : (kidsOf rows z).length ≤ rows.length := by
  unfold kidsOf
  rw [List.length_map]
  exact List.length_filter_le _ _
section
variable {P : Program} {w : World} {K : PySem.W.Frag} {mg : Str → Option Value} {base : Heap} {CH CY : Addr}
def spHC (K : PySem.W.Frag) (CH CY : Addr) (r : Nat) : Sp := fun vs H Q _ => ∃ (S : List Addr) (ho so : Addr) (v : V) (d : PyData) (m : Int) (F : List (Str × Option Str)) (D : List (Str × Int)), vs = [.ref ho, v, .ref so, .int m] ∧ HomeAt K CH H ho F ∧ StoryAt K CY H so D ∧ Dz S K H v d ∧ formB r d = true ∧
  (∀ z ∈ namesN r d, z ∈ F.map Prod.fst) ∧ -9999 ≤ m ∧ m ≤ 9999 ∧ ∀ H', Same H H' → Q (.bl (comeN F D m r d)) H'
def spHCR (K : PySem.W.Frag) (CH CY : Addr) : Nat → Sp
  | 0 => fun _ _ _ _ => False
  | r + 1 => spHC K CH CY r
theorem hc_step {f fK fL : Addr} {fd fdK fdL : FuncData} {k r : Nat} (B : Bi mg) (TH : HsF K CH) (TY : SyF K CY) (D : Df K mg "has_come" sHC f fd ["house", "cond", "story", "wait"])
    (MK : Meth K CH "children" fK) (bK : Binds K fdK ["self", "name"] []) (GK : FnOk P w K mg base CX0 (k + 4) fK fdK ["self", "name"] (spKids K CH))
    (ML : Meth K CY "lives" fL) (bL : Binds K fdL ["self", "name", "more"] []) (GL : FnOk P w K mg base CX0 (k + 3) fL fdL ["self", "name", "more"] (spLiv K CY))
    (GB : FnOk P w K mg base CX0 (k + 4 + r) f fd ["house", "cond", "story", "wait"] (spHCR K CH CY r)) : FnOk P w K mg base CX0 (k + 4 + r + 1) f fd ["house", "cond", "story", "wait"] (spHC K CH CY r) := by
  refine D.fn.ok scHC (fun vs H Q E h => ?_) (fun cdv A outer s H vs Q E hr h => ?_)
  · obtain ⟨S, ho, so, v, d, m, F, Dd, rfl, _⟩ := h
    rfl
  · obtain ⟨S, ho, so, v, d, m, F, Dd, rfl, hH, hY, dz, fm, nin, m0, m1, q⟩ := h
    have r4 : Room (k + 4) _ := hr.mono (by omega)
    have r3 : Room (k + 3) _ := hr.mono (by omega)
    refine ⟨_, pss_cons (ps_set (i := 4) scHC.nd rfl (.inl rfl) (pe_ix (r := rIxT K) ix_tup (pv 1) pe_int (fun _ _ => rfl)))
      (pss_cons (ps_if (pt_cmpR op_eq (pv 4) pe_str (nomark _)) (pss_one (ps_ret (pe_meth (pv 2) TY.cl ML GL r3 bL .nil pass0 (pa_cons (pe_ix (r := rIxT K) ix_tup (pv 1) pe_int (fun _ _ => rfl)) (pa_cons (pe_ifExp (pt_cmpR op_eq (pe_callB call_len_seq (by rfl) B.len PySem.boot_len (pa_cons (pv 1) pa_nil)) pe_int (nomark _)) (pe_ix (r := rIxT K) ix_tup (pv 1) pe_int (fun _ _ => rfl)) (pv 3)) pa_nil))))) pss_nil)
      (pss_cons (ps_if (pt_cmpR op_eq (pv 4) pe_str (nomark _)) (pss_one (ps_ret (pe_not (pe_callB (cr_any rfl) (by rfl) B.any (by decide +kernel) (pa_cons (pe_lc (own := [("child", 5)]) (g := gName 5) (tt := tYes) rfl scHC.nd (pi_tup (pe_meth (pv 0) TH.cl MK GK r4 bK .nil pass0 (pa_cons (pe_ix (r := rIxT K) ix_tup (pv 1) pe_int (fun _ _ => rfl)) pa_nil))) (blkOk_by (own := [("child", 5)]) (N := nHC) (sc := defScope sHC) (by decide +kernel))
          (fun _ _ _ _ _ => pg_name (i := 5) scHC.nd rfl (Or.inl rfl)) (fun _ _ _ _ _ => pts_nil) (fun _ _ _ _ _ => pe_meth (pv 2) TY.cl ML GL r3 bL .nil pass0 (pa_cons (pv 5) (pa_cons (pv 3) pa_nil)))) pa_nil))))) pss_nil)
      (pss_cons (ps_setLc (i := 6) (own := [("term", 7)]) (g := gName 7) (tt := tYes) rfl scHC.nd rfl rfl (sw_true rfl rfl rfl (by decide +kernel)) (pi_tup (pe_slice sl_tupA (pv 1) (po_some pe_int) po_none)) (blkOk_by (own := [("term", 7)]) (N := nHC) (sc := defScope sHC) (by decide +kernel))
          (fun _ _ _ _ _ => pg_name (i := 7) scHC.nd rfl (Or.inl rfl)) (fun _ _ _ _ _ => pts_nil) (fun _ _ _ _ _ => pe_call GB hr (by rfl) D.mg D.fn.kp D.bd .nil pass0 (pa_cons (pv 0) (pa_cons (pv 7) (pa_cons (pv 2) (pa_cons (pv 3) pa_nil))))))
      (pss_cons (ps_if (pt_cmpR op_eq (pv 4) pe_str (nomark _)) (pss_one (ps_ret (pe_not (pe_ix (r := rIxL K) ix_list (pv 6) pe_int (fun _ _ => rfl))))) pss_nil)
      (pss_one (ps_ret (pe_ifExp (pt_cmpR op_eq (pv 4) pe_str (nomark _)) (pe_callB (cr_all rfl) (by rfl) B.all (by decide +kernel) (pa_cons (pv 6) pa_nil)) (pe_callB (cr_any rfl) (by rfl) B.any (by decide +kernel) (pa_cons (pv 6) pa_nil))))))))), ?_⟩
    obtain ⟨n, rfl, fv⟩ := form_view fm
    obtain ⟨dxY, vY, hoY, dhY, gdY⟩ := id hY
    obtain ⟨dxH, vH, ttH, hoH, _, gfH, _⟩ := id hH
    cases fv with
    | liv z hz =>
      obtain ⟨a, xs, rfl, hs, hd⟩ := dz_tup dz
      obtain ⟨x1, x2, ys, d1, d2, es, rfl, e, h1, h2, hts⟩ := dz_cons2 hd (by simp)
      cases e
      obtain rfl := dz_str h1
      obtain rfl := dz_str h2
      cases hts
      rw [come_liv] at q
      refine ⟨_, rfl, a, _, 0, _, rfl, rfl, hs, atI_nat (j := 0) rfl, _, rfl, rfl, true, rfl, iteT ?_⟩
      refine ⟨_, rfl, so, dxY, _, rfl, hoY, rfl, _, rfl, a, _, 1, .str z, rfl, rfl, hs, atI_nat (j := 1) rfl, _, rfl, a, _, rfl, .inr hs, rfl, false, rfl, iteF ⟨_, rfl, ?_⟩⟩
      exact ⟨so, z, m, Dd, rfl, hY, hz, m0, m1, fun H' s1 => q H' s1⟩
    | livAt z i hz i0 i1 =>
      obtain ⟨a, xs, rfl, hs, hd⟩ := dz_tup dz
      obtain ⟨x1, x2, ys, d1, d2, es, rfl, e, h1, h2, hts⟩ := dz_cons2 hd (by simp)
      cases e
      obtain rfl := dz_str h1
      obtain rfl := dz_str h2
      cases hts with
      | cons h3 h4 =>
      cases h4
      cases h3
      rw [come_livAt] at q
      refine ⟨_, rfl, a, _, 0, _, rfl, rfl, hs, atI_nat (j := 0) rfl, _, rfl, rfl, true, rfl, iteT ?_⟩
      refine ⟨_, rfl, so, dxY, _, rfl, hoY, rfl, _, rfl, a, _, 1, .str z, rfl, rfl, hs, atI_nat (j := 1) rfl, _, rfl, a, _, rfl, .inr hs, rfl, true, rfl, iteT ⟨_, rfl, a, _, 2, .int i, rfl, rfl, hs, atI_nat (j := 2) rfl, ?_⟩⟩
      exact ⟨so, z, i, Dd, rfl, hY, hz, i0, i1, fun H' s1 => q H' s1⟩
    | chl z hz =>
      obtain ⟨a, xs, rfl, hs, hd⟩ := dz_tup dz
      obtain ⟨x1, x2, ys, d1, d2, es, rfl, e, h1, h2, hts⟩ := dz_cons2 hd (by simp)
      cases e
      obtain rfl := dz_str h1
      obtain rfl := dz_str h2
      cases hts
      rw [come_chl] at q
      have zin : z ∈ F.map Prod.fst := nin z (by show z ∈ [z]; simp)
      refine ⟨_, rfl, a, _, 0, _, rfl, rfl, hs, atI_nat (j := 0) rfl, _, rfl, rfl, false, rfl, iteF ⟨_, rfl, rfl, true, rfl, iteT ?_⟩⟩
      refine ⟨_, rfl, ho, dxH, _, rfl, hoH, rfl, _, rfl, a, _, 1, .str z, rfl, rfl, hs, atI_nat (j := 1) rfl, ho, z, F, rfl, hH, zin, fun H1 t s1 ht => ⟨t, rfl, ⟨_, ht⟩, fun L nL => ?_⟩⟩
      have kl := kids_len F z
      have l8 := gfH.l8
      refine lc_tup (K := K) (a := t) (xs := (kidsOf F z).map V.str) (fun j H' => H' L = some (.lst ((((kidsOf F z).take j).map fun y => aliveB Dd y m).map V.bl)) ∧ Same H1 H') ⟨upd_same, same_new nL⟩ (fun j H' _ h => (tk_same h.2).sq ht) ?_ ?_
      · rintro j x H5 hx5 ⟨hL, s5⟩
        obtain ⟨y, hy, rfl⟩ : ∃ y, (kidsOf F z)[j]? = some y ∧ x = .str y := by
          rw [List.getElem?_map] at hx5
          cases hc : (kidsOf F z)[j]? with
          | none => rw [hc] at hx5; cases hx5
          | some y => rw [hc] at hx5; cases hx5; exact ⟨y, rfl, rfl⟩
        have s15 := s1.trans s5
        refine ⟨rfl, tyes (iteT ⟨_, rfl, so, dxY, _, rfl, s15 _ _ hoY, rfl, _, rfl, _, rfl, so, y, m, Dd, rfl, hY.same s15, kids_nm gfH (List.mem_of_getElem? hy), m0, m1, fun H6 s6 => ⟨_, s6 _ _ hL, ?_, ?_, ?_⟩⟩)⟩
        · rw [List.length_map, List.length_map, List.length_take]
          exact small1000 (by omega)
        · rw [upd_same, take_more hy, List.map_append, List.map_append]
          rfl
        · exact ((Bt.of_same (S := []) (s5.trans s6)).upd0 nL).same
      · rintro H5 ⟨hL, s5⟩
        rw [List.length_map, List.take_length] at hL
        refine ⟨L, _, rfl, sqL hL, _, rfl, ?_⟩
        rw [show (((kidsOf F z).map fun y => aliveB Dd y m).any id) = (kidsOf F z).any fun y => aliveB Dd y m by rw [List.any_map]; rfl]
        exact q H5 (s1.trans s5)
    | neg c hc =>
      obtain ⟨a, xs, rfl, hs, hd⟩ := dz_tup dz
      obtain ⟨x1, x2, ys, d1, d2, es, rfl, e, h1, h2, hts⟩ := dz_cons2 hd (by simp)
      cases e
      obtain rfl := dz_str h1
      cases hts
      rw [come_neg] at q
      rw [names_neg] at nin
      refine ⟨_, rfl, a, _, 0, _, rfl, rfl, hs, atI_nat (j := 0) rfl, _, rfl, rfl, false, rfl, iteF ⟨_, rfl, rfl, false, rfl, iteF ?_⟩⟩
      refine ⟨_, rfl, 1, rfl, ?_⟩
      refine (show tNoPart _ H _ from cut_tup1 hs (by show 1 ≤ _; simp) (fun p H1 s1 sq => ?_))
      have sq : SqT K H1 p [x2] := sq
      refine ⟨p, rfl, ⟨_, sq⟩, fun L nL => ?_⟩
      refine lc_tup (K := K) (a := p) (xs := [x2]) (fun j H' => H' L = some (.lst ((([c].take j).map (comeN F Dd m n)).map V.bl)) ∧ Same H1 H') ⟨upd_same, same_new nL⟩ (fun j H' _ h => (tk_same h.2).sq sq) ?_ ?_
      · rintro j x H5 hx5 ⟨hL, s5⟩
        obtain rfl : j = 0 := by have := lt_get hx5; simpa using this
        cases hx5
        have s15 := s1.trans s5
        refine ⟨rfl, tyes (iteT ⟨_, rfl, _, rfl, _, rfl, _, rfl, S, ho, so, x2, c, m, F, Dd, rfl, hH.same s15, hY.same s15, h2.same s15, hc, nin, m0, m1, fun H6 s6 => ⟨_, s6 _ _ hL, small1000 (by simp), upd_same, ((Bt.of_same (S := []) (s5.trans s6)).upd0 nL).same⟩⟩)⟩
      · rintro H5 ⟨hL, s5⟩
        exact ⟨_, rfl, rfl, true, rfl, iteT ⟨_, rfl, L, _, 0, _, rfl, rfl, sqL hL, atI_nat (j := 0) rfl, _, rfl, q H5 (s1.trans s5)⟩⟩
    | row b c1 c2 cs l al =>
      obtain ⟨a, xs, rfl, hs, hd⟩ := dz_tup dz
      obtain ⟨x1, x2, ys, d1, d2, es, rfl, e, h1, h2, hts⟩ := dz_cons2 hd (by simp)
      cases e
      obtain rfl := dz_str h1
      rw [names_row] at nin
      cases b with
      | true =>
      rw [show comeN F Dd m (n + 1) (.tuple (.str (rowS true) :: c1 :: c2 :: cs)) = (c1 :: c2 :: cs).all (comeN F Dd m n) from come_and] at q
      refine ⟨_, rfl, a, _, 0, _, rfl, rfl, hs, atI_nat (j := 0) rfl, _, rfl, rfl, false, rfl, iteF ⟨_, rfl, rfl, false, rfl, iteF ?_⟩⟩
      refine ⟨_, rfl, 1, rfl, ?_⟩
      refine (show tNoPart _ H _ from cut_tup1 hs (by show 1 ≤ _; simp) (fun p H1 s1 sq => ?_))
      have sq : SqT K H1 p (x2 :: ys) := sq
      have ht1 : DzAll S K H1 (x2 :: ys) (c1 :: c2 :: cs) := (DzAll.cons h2 hts).same s1
      have hl := ht1.len
      clear dz fm hd h1 h2 hts hs
      revert sq ht1 hl q al l nin
      generalize x2 :: ys = zs
      generalize c1 :: c2 :: cs = fs
      intro l al nin q sq ht1 hl
      refine ⟨p, rfl, ⟨_, sq⟩, fun L nL => ?_⟩
      refine lc_tup (K := K) (a := p) (xs := zs) (fun j H' => H' L = some (.lst (((fs.take j).map (comeN F Dd m n)).map V.bl)) ∧ Same H1 H') ⟨upd_same, same_new nL⟩ (fun j H' _ h => (tk_same h.2).sq sq) ?_ ?_
      · rintro j x H5 hx5 ⟨hL, s5⟩
        obtain ⟨e, he, dx⟩ := ht1.get hx5
        have il := lt_get hx5
        have em := List.mem_of_getElem? he
        have s15 := s1.trans s5
        refine ⟨rfl, tyes (iteT ⟨_, rfl, _, rfl, _, rfl, _, rfl, S, ho, so, x, e, m, F, Dd, rfl, hH.same s15, hY.same s15, dx.same s5, al e em, (fun z hz => nin z (List.mem_flatten.mpr ⟨_, List.mem_map.mpr ⟨e, em, rfl⟩, hz⟩)), m0, m1, fun H6 s6 => ⟨_, s6 _ _ hL, ?_, ?_, ((Bt.of_same (S := []) (s5.trans s6)).upd0 nL).same⟩⟩)⟩
        · rw [List.length_map, List.length_map, List.length_take]
          exact small1000 (by omega)
        · rw [upd_same, take_more he, List.map_append, List.map_append]
          rfl
      · rintro H5 ⟨hL, s5⟩
        rw [hl, List.take_length] at hL
        refine ⟨_, rfl, rfl, false, rfl, iteF ⟨_, rfl, rfl, true, rfl, iteT ⟨_, rfl, L, _, rfl, sqL hL, ?_⟩⟩⟩
        rw [show (fs.map (comeN F Dd m n)).all id = fs.all (comeN F Dd m n) by rw [List.all_map]; rfl]
        exact q H5 (s1.trans s5)
      | false =>
      rw [show comeN F Dd m (n + 1) (.tuple (.str (rowS false) :: c1 :: c2 :: cs)) = (c1 :: c2 :: cs).any (comeN F Dd m n) from come_or] at q
      refine ⟨_, rfl, a, _, 0, _, rfl, rfl, hs, atI_nat (j := 0) rfl, _, rfl, rfl, false, rfl, iteF ⟨_, rfl, rfl, false, rfl, iteF ?_⟩⟩
      refine ⟨_, rfl, 1, rfl, ?_⟩
      refine (show tNoPart _ H _ from cut_tup1 hs (by show 1 ≤ _; simp) (fun p H1 s1 sq => ?_))
      have sq : SqT K H1 p (x2 :: ys) := sq
      have ht1 : DzAll S K H1 (x2 :: ys) (c1 :: c2 :: cs) := (DzAll.cons h2 hts).same s1
      have hl := ht1.len
      clear dz fm hd h1 h2 hts hs
      revert sq ht1 hl q al l nin
      generalize x2 :: ys = zs
      generalize c1 :: c2 :: cs = fs
      intro l al nin q sq ht1 hl
      refine ⟨p, rfl, ⟨_, sq⟩, fun L nL => ?_⟩
      refine lc_tup (K := K) (a := p) (xs := zs) (fun j H' => H' L = some (.lst (((fs.take j).map (comeN F Dd m n)).map V.bl)) ∧ Same H1 H') ⟨upd_same, same_new nL⟩ (fun j H' _ h => (tk_same h.2).sq sq) ?_ ?_
      · rintro j x H5 hx5 ⟨hL, s5⟩
        obtain ⟨e, he, dx⟩ := ht1.get hx5
        have il := lt_get hx5
        have em := List.mem_of_getElem? he
        have s15 := s1.trans s5
        refine ⟨rfl, tyes (iteT ⟨_, rfl, _, rfl, _, rfl, _, rfl, S, ho, so, x, e, m, F, Dd, rfl, hH.same s15, hY.same s15, dx.same s5, al e em, (fun z hz => nin z (List.mem_flatten.mpr ⟨_, List.mem_map.mpr ⟨e, em, rfl⟩, hz⟩)), m0, m1, fun H6 s6 => ⟨_, s6 _ _ hL, ?_, ?_, ((Bt.of_same (S := []) (s5.trans s6)).upd0 nL).same⟩⟩)⟩
        · rw [List.length_map, List.length_map, List.length_take]
          exact small1000 (by omega)
        · rw [upd_same, take_more he, List.map_append, List.map_append]
          rfl
      · rintro H5 ⟨hL, s5⟩
        rw [hl, List.take_length] at hL
        refine ⟨_, rfl, rfl, false, rfl, iteF ⟨_, rfl, rfl, false, rfl, iteF ⟨_, rfl, L, _, rfl, sqL hL, ?_⟩⟩⟩
        rw [show (fs.map (comeN F Dd m n)).any id = fs.any (comeN F Dd m n) by rw [List.any_map]; rfl]
        exact q H5 (s1.trans s5)
theorem ok_hc {f fK fL : Addr} {fd fdK fdL : FuncData} {k : Nat} (B : Bi mg) (TH : HsF K CH) (TY : SyF K CY) (D : Df K mg "has_come" sHC f fd ["house", "cond", "story", "wait"])
    (MK : Meth K CH "children" fK) (bK : Binds K fdK ["self", "name"] []) (GK : FnOk P w K mg base CX0 (k + 4) fK fdK ["self", "name"] (spKids K CH))
    (ML : Meth K CY "lives" fL) (bL : Binds K fdL ["self", "name", "more"] []) (GL : FnOk P w K mg base CX0 (k + 3) fL fdL ["self", "name", "more"] (spLiv K CY)) : ∀ r, FnOk P w K mg base CX0 (k + 4 + r + 1) f fd ["house", "cond", "story", "wait"] (spHC K CH CY r)
  | 0 => hc_step (r := 0) B TH TY D MK bK GK ML bL GL ⟨fun _ _ _ _ h => h.elim, fun _ _ _ _ _ _ _ _ _ _ _ _ _ h => h.elim⟩
  | r + 1 => hc_step (r := r + 1) B TH TY D MK bK GK ML bL GL (ok_hc B TH TY D MK bK GK ML bL GL r)
end
end WdQ

set_option Elab.async false
set_option linter.all false
set_option maxRecDepth 100000
set_option maxHeartbeats 4000000
set_option exponentiation.threshold 5000
namespace WdQ
open PySem PySem.Spec PyProof.Rows L2 WdM Wd
def namesO : PyData → List Str
  | .none => []
  | d => namesN 6 d
def comeO (F : List (Str × Option Str)) (D : List (Str × Int)) (m : Int) : PyData → Bool
  | .none => true
  | d => comeN F D m 6 d
theorem condNB_ways {d : PyData} (h : condNB d = true) : d = .none ∨ (condB d = true ∧ namesO d = namesN 6 d ∧ ∀ F D m, comeO F D m d = comeN F D m 6 d) := by
  cases d <;> first | exact .inl rfl | exact .inr ⟨h, rfl, fun _ _ _ => rfl⟩
theorem missN_none {ns zs : List Str} (h : missN ns zs = none) : ∀ z ∈ zs, z ∈ ns := fun z hz => by
  have := List.find?_eq_none.mp h z hz
  simp only [Bool.not_eq_true', Bool.not_eq_false] at this
  have e : inV (.str z) (ns.map V.str) = true := by simpa using this
  exact inV_str.mp e
section
variable {P : Program} {w : World} {K : PySem.W.Frag} {mg : Str → Option Value} {base : Heap} {CH CY CD CP CW CL fE fI : Addr}
def spComes (K : PySem.W.Frag) (CH CY CD CP : Addr) : Sp := fun vs H Q E => ∃ (S : List Addr) (ho so : Addr) (v x : V) (d e : PyData) (F : List (Str × Option Str)) (D : List (Str × Int)), vs = [.ref ho, v, .ref so, x] ∧ HomeAt K CH H ho F ∧ StoryAt K CY H so D ∧ Dz S K H v d ∧ Sml d ∧ condNB d = true ∧ Dz S K H x e ∧
  (dayB e = false → ∀ H' dd, Same H H' → H' dd = none → E (.ref CD) (some dd) (upd H' dd (.xd [("thing", x)]))) ∧
  (∀ m z, e = .int m → dayB e = true → missN (F.map Prod.fst) (namesO d) = some z → ∀ H' dd, Same H H' → H' dd = none → E (.ref CP) (some dd) (upd H' dd (.xd [("name", .str z)]))) ∧
  (∀ m, e = .int m → dayB e = true → missN (F.map Prod.fst) (namesO d) = none → ∀ H', Same H H' → Q (.bl (comeO F D m d)) H')
theorem ok_comes {f fC fD fN fK fH : Addr} {fd fdC fdD fdI fdN fdK fdH : FuncData} (TD : ErC K mg "NoDay" "thing" CD fE CW) (FI : Fun K "__init__" "NoDay.__init__" sEDay fE fdI) (bI : Binds K fdI ["self", "thing"] []) (F : FunD K "comes" "comes" (defArgs sComes) (defBody sComes) (defScope sComes) [.int 0] [] f fd)
    (GC : FnOk P w K mg base CX0 12 fC fdC ["thing"] (spB K condNB)) (DC : Df K mg "is_cond_or_none" sCondN fC fdC ["thing"]) (GD : FnOk P w K mg base CX0 2 fD fdD ["thing"] (spDay K)) (DD : Df K mg "is_day" sDay fD fdD ["thing"])
    (GN : FnOk P w K mg base CX0 8 fN fdN ["cond"] (spCN K)) (DN : Df K mg "cond_names" sCN fN fdN ["cond"]) (GK : FnOk P w K mg base (L2.CX P w) 3 fK fdK ["house", "names"] (spCkP K CH CP)) (DK : Df K mg "check_persons" sCkP fK fdK ["house", "names"])
    (GH : FnOk P w K mg base CX0 11 fH fdH ["house", "cond", "story", "wait"] (spHC K CH CY 6)) (DH : Df K mg "has_come" sHC fH fdH ["house", "cond", "story", "wait"]) :
    FnOk P w K mg base (L2.CX P w) 13 f fd ["house", "cond", "story", "wait"] (spComes K CH CY CD CP) := by
  have GI : FnOk P w K mg base CX0 1 fE fdI ["self", "thing"] (spInitE CD "thing") := ok_eDay (k := 0) TD FI
  refine F.ok scComes (fun vs H Q E h => ?_) (fun cdv A outer s H vs Q E hr h => ?_)
  · obtain ⟨S, ho, so, v, x, d, e, Ff, Dd, rfl, _⟩ := h
    rfl
  · obtain ⟨S, ho, so, v, x, d, e, Ff, Dd, rfl, hH, hY, dz, sm, cn, dx, bad, miss, good⟩ := h
    have r2 : Room 2 _ := hr.mono (by omega)
    have r3 : Room 3 _ := hr.mono (by omega)
    have r8 : Room 8 _ := hr.mono (by omega)
    have r11 : Room 11 _ := hr.mono (by omega)
    refine ⟨_, pss_cons (ps_if (pt_not (pt_val (pe_call GC hr (by rfl) DC.mg DC.fn.kp DC.bd .nil pass0 (pa_cons (pv 1) pa_nil)))) pss_noS pss_nil)
      (pss_cons (ps_if (pt_not (pt_val (pe_call GD r2 (by rfl) DD.mg DD.fn.kp DD.bd .nil pass0 (pa_cons (pv 3) pa_nil))))
          (pss_one (ps_raise rfl (takes_of rfl rfl rfl rfl) (pmk_oex TD.o TD.i TD.t GI r2 bI .nil pass0 (by rfl) TD.g (pa_cons (pv 3) pa_nil)))) pss_nil)
      (pss_cons (ps_expr (pe_callS GK r3 (by rfl) DK.mg DK.fn.kp DK.bd (fun σ => passAt (takes_of rfl rfl rfl rfl) σ) (pa_cons (pv 0) (pa_cons (pe_call GN r8 (by rfl) DN.mg DN.fn.kp DN.bd .nil pass0 (pa_cons (pv 1) pa_nil)) pa_nil))))
      (pss_one (ps_ret (pe_or (pe_cmpR op_isN (pv 1) pe_non (nomark _)) (pe_one (pe_call GH r11 (by rfl) DH.mg DH.fn.kp DH.bd .nil pass0 (pa_cons (pv 0) (pa_cons (pv 1) (pa_cons (pv 2) (pa_cons (pv 3) pa_nil))))))))))), ?_⟩
    refine ⟨_, rfl, S, v, d, rfl, dz, sm, fun H1 s1 => ⟨_, rfl, ?_⟩⟩
    rw [cn]
    refine iteF ⟨_, rfl, S, x, e, rfl, dx.same s1, _, rfl, ?_⟩
    cases de : dayB e with
    | false => exact iteT (raise_var rfl fun dd h => bad de H1 dd s1 h)
    | true =>
      obtain ⟨m, rfl, m0, m1⟩ := day_is de
      obtain rfl : x = .int m := by cases dx; rfl
      refine iteF ⟨_, rfl, _, rfl, v, namesO d, rfl, ?_, fun H2 L s2 nL hL => ?_⟩
      · rcases condNB_ways cn with rfl | ⟨cb, e1, _⟩
        · cases dz
          exact .inl ⟨rfl, rfl⟩
        · obtain ⟨fm, _⟩ := Bool.and_eq_true_iff.mp cb
          exact .inr ⟨S, d, dz.same s1, fm, e1⟩
      · have s12 := s1.trans s2
        refine ⟨ho, L, Ff, namesO d, rfl, hH.same s12, hL, fun em H3 s3 => ?_, fun z em H3 dd s3 nd => ?_⟩
        · have s13 := s12.trans s3
          have g := good m rfl de em
          rcases condNB_ways cn with rfl | ⟨cb, e1, e2⟩
          · cases dz
            exact ⟨_, rfl, rfl, _, rfl, iteT (g H3 s13)⟩
          · obtain ⟨fm, _⟩ := Bool.and_eq_true_iff.mp cb
            obtain ⟨a, xs, rfl, _⟩ : ∃ a xs, v = .ref a ∧ SqT K H a xs := by
              obtain ⟨_, _, _, _, _, rfl, _⟩ := form_shape fm
              obtain ⟨a, xs, rfl, hs, _⟩ := dz_tup dz
              exact ⟨a, xs, rfl, hs⟩
            rw [e1] at em
            refine ⟨_, rfl, rfl, _, rfl, iteF ⟨_, rfl, _, rfl, _, rfl, _, rfl, S, ho, so, _, d, m, Ff, Dd, rfl, hH.same s13, hY.same s13, dz.same s13, fm, missN_none em, m0, m1, fun H4 s4 => ?_⟩⟩
            have := g H4 (s13.trans s4)
            rw [e2] at this
            exact this
        · exact miss m z rfl de em H3 dd (s12.trans s3) nd
end
end WdQ

set_option Elab.async false
set_option linter.all false
set_option maxRecDepth 100000
set_option maxHeartbeats 4000000
namespace Wd
open PySem PySem.Spec PyProof.Rows L2 WdM
/-! ### clean data: tuples of small letters and of days -/
def Cd : Nat → PyData → Prop
  | _, .none => False
  | _, .bool _ => False
  | _, .int i => -9999 ≤ i ∧ i ≤ 9999
  | _, .str x => okL x ∧ x.length ≤ 9
  | _, .list _ => False
  | 0, .tuple _ => False
  | n + 1, .tuple ds => 1 ≤ ds.length ∧ ds.length ≤ 7 ∧ ∀ d ∈ ds, Cd n d
  | _, .dict _ => False
theorem Cd.str {n : Nat} {x : Str} (h : Cd n (.str x)) : okL x ∧ x.length ≤ 9 := by cases n <;> exact h
theorem Cd.of_str {n : Nat} {x : Str} (h : okL x ∧ x.length ≤ 9) : Cd n (.str x) := by cases n <;> exact h
theorem Cd.int {n : Nat} {i : Int} (h : Cd n (.int i)) : -9999 ≤ i ∧ i ≤ 9999 := by cases n <;> exact h
theorem Cd.of_int {n : Nat} {i : Int} (h : -9999 ≤ i ∧ i ≤ 9999) : Cd n (.int i) := by cases n <;> exact h
theorem Cd.sm : ∀ {n : Nat} {d : PyData}, Cd n d → Sm n d := by
  intro n
  induction n with
  | zero =>
    intro d c
    cases d with
    | str x => exact Nat.le_trans c.str.2 (by decide)
    | int i => exact trivial
    | _ => exact c.elim
  | succ n ih =>
    intro d c
    cases d with
    | str x => exact Nat.le_trans c.str.2 (by decide)
    | int i => exact trivial
    | tuple ds => exact ⟨Nat.le_trans c.2.1 (by decide), fun d hd => ih (c.2.2 d hd)⟩
    | _ => exact c.elim
theorem Cd.up : ∀ {n : Nat} {d : PyData}, Cd n d → Cd (n + 1) d := by
  intro n
  induction n with
  | zero =>
    intro d c
    cases d with
    | str x => exact c
    | int i => exact c
    | _ => exact c.elim
  | succ n ih =>
    intro d c
    cases d with
    | str x => exact c
    | int i => exact c
    | tuple ds => exact ⟨c.1, c.2.1, fun d hd => ih (c.2.2 d hd)⟩
    | _ => exact c.elim
theorem Cd.mono {n m : Nat} {d : PyData} (h : Cd n d) (l : n ≤ m) : Cd m d := by
  induction l with
  | refl => exact h
  | step _ ih => exact ih.up
/-- a clean value -/
def Cq (K : PySem.W.Frag) (n : Nat) (H : Hp) (v : V) : Prop := ∃ d, Dz [] K H v d ∧ Cd n d
section
variable {K : PySem.W.Frag} {S S' : List Addr}
theorem cd_tk {H H' : Hp} (e : Tk H H') : ∀ {n : Nat} {v : V} {d : PyData}, Cd n d → Dz S K H v d → Dz S' K H' v d := by
  intro n
  induction n with
  | zero =>
    intro v d c h
    cases h with
    | str x => exact .str x
    | int i => exact .int i
    | _ => exact c.elim
  | succ n ih =>
    intro v d c h
    have all : ∀ {xs : List V} {ds : List PyData}, (∀ d ∈ ds, Cd n d) → DzAll S K H xs ds → DzAll S' K H' xs ds := by
      intro xs
      induction xs with
      | nil =>
        intro ds _ h
        cases h
        exact .nil
      | cons x xs ih2 =>
        intro ds hc h
        cases h with
        | cons h t => exact .cons (ih (hc _ List.mem_cons_self) h) (ih2 (fun d hd => hc d (List.mem_cons_of_mem _ hd)) t)
    cases h with
    | str x => exact .str x
    | int i => exact .int i
    | tup h t => exact .tup (e.sq h) (all c.2.2 t)
    | _ => exact c.elim
theorem Cq.tk {H H' : Hp} {n : Nat} {v : V} (h : Cq K n H v) (e : Tk H H') : Cq K n H' v := by
  obtain ⟨d, h, c⟩ := h
  exact ⟨d, cd_tk e c h, c⟩
theorem Cq.mono {H : Hp} {n m : Nat} {v : V} (h : Cq K n H v) (l : n ≤ m) : Cq K m H v := by
  obtain ⟨d, h, c⟩ := h
  exact ⟨d, h, c.mono l⟩
theorem cq_all {H : Hp} {n : Nat} : ∀ {xs : List V}, (∀ x ∈ xs, Cq K n H x) → ∃ ds, DzAll [] K H xs ds ∧ ∀ d ∈ ds, Cd n d
  | [], _ => ⟨[], .nil, fun _ h => nomatch h⟩
  | x :: xs, h => by
    obtain ⟨d, h1, f1⟩ := h x List.mem_cons_self
    obtain ⟨ds, h2, f2⟩ := cq_all (xs := xs) fun y hy => h y (List.mem_cons_of_mem _ hy)
    exact ⟨d :: ds, .cons h1 h2, fun e he => (List.mem_cons.mp he).elim (fun z => z ▸ f1) (f2 e)⟩
theorem cq_tup {H : Hp} {n : Nat} {a : Addr} {xs : List V} (h : SqT K H a xs) (l1 : 1 ≤ xs.length) (l : xs.length ≤ 7) (e : ∀ x ∈ xs, Cq K n H x) : Cq K (n + 1) H (.ref a) := by
  obtain ⟨ds, h1, f1⟩ := cq_all e
  exact ⟨.tuple ds, .tup h h1, by rw [← h1.len]; exact l1, by rw [← h1.len]; exact l, f1⟩
theorem cq_str {H : Hp} {n : Nat} {z : Str} (h : okL z ∧ z.length ≤ 9) : Cq K n H (.str z) := ⟨.str z, .str z, Cd.of_str h⟩
theorem cq_int {H : Hp} {n : Nat} {i : Int} (h : -9999 ≤ i ∧ i ≤ 9999) : Cq K n H (.int i) := ⟨.int i, .int i, Cd.of_int h⟩
/-- a clean value is a text, a day or a tuple of clean ones -/
theorem cq_cases {H : Hp} {n : Nat} {v : V} (h : Cq K n H v) : (∃ z, v = .str z ∧ okL z ∧ z.length ≤ 9) ∨ (∃ i, v = .int i ∧ -9999 ≤ i ∧ i ≤ 9999) ∨ ∃ (m : Nat) (a : Addr) (xs : List V), n = m + 1 ∧ v = .ref a ∧ SqT K H a xs ∧ 1 ≤ xs.length ∧ xs.length ≤ 7 ∧ ∀ x ∈ xs, Cq K m H x := by
  obtain ⟨d, h, c⟩ := h
  cases h with
  | str x => exact .inl ⟨x, rfl, c.str⟩
  | int i => exact .inr (.inl ⟨i, rfl, c.int⟩)
  | tup h t =>
    cases n with
    | zero => exact c.elim
    | succ m =>
      refine .inr (.inr ⟨m, _, _, rfl, rfl, h, by rw [t.len]; exact c.1, by rw [t.len]; exact c.2.1, fun x hx => ?_⟩)
      obtain ⟨i, hi⟩ := List.mem_iff_getElem?.mp hx
      obtain ⟨e, he, q⟩ := t.get hi
      exact ⟨e, q, c.2.2 e (List.mem_of_getElem? he)⟩
  | non => cases n <;> exact c.elim
  | bl => cases n <;> exact c.elim
  | lst => cases n <;> exact c.elim
  | nod => cases n <;> exact c.elim
end
end Wd

set_option Elab.async false
set_option linter.all false
set_option maxRecDepth 100000
set_option maxHeartbeats 4000000
set_option exponentiation.threshold 5000
namespace WdQ
open PySem PySem.Spec PyProof.Rows L2 WdM Wd
theorem word_cd : ∀ z ∈ (["lives", "childless", "not", "and", "or"] : List Str), okL z ∧ z.length ≤ 9 := by
  intro z hz
  simp only [List.mem_cons, List.not_mem_nil, or_false] at hz
  rcases hz with rfl | rfl | rfl | rfl | rfl <;> exact ⟨fun c hc => by revert c; decide +kernel, by decide⟩
theorem rowS_cd (b : Bool) : okL (rowS b) ∧ (rowS b).length ≤ 9 := by
  cases b
  · exact word_cd "or" (by simp)
  · exact word_cd "and" (by simp)
theorem nm_cd {z : Str} (h : nmB z = true) : okL z ∧ z.length ≤ 9 := ⟨nm_let h, by have := nm_len h; omega⟩
/-- a condition is clean -/
theorem form_cd : ∀ {r : Nat} {d : PyData}, formB r d = true → Cd r d := by
  intro r
  induction r with
  | zero => intro d h; cases h
  | succ r ih =>
    intro d h
    obtain ⟨q, e, v⟩ := form_view h
    obtain rfl : r = q := by omega
    cases v with
    | liv z hz =>
      refine ⟨by simp, by simp, fun d hd => ?_⟩
      simp only [List.mem_cons, List.not_mem_nil, or_false] at hd
      rcases hd with rfl | rfl
      · exact Cd.of_str (word_cd _ (by simp))
      · exact Cd.of_str (nm_cd hz)
    | livAt z i hz i0 i1 =>
      refine ⟨by simp, by simp, fun d hd => ?_⟩
      simp only [List.mem_cons, List.not_mem_nil, or_false] at hd
      rcases hd with rfl | rfl | rfl
      · exact Cd.of_str (word_cd _ (by simp))
      · exact Cd.of_str (nm_cd hz)
      · exact Cd.of_int ⟨i0, i1⟩
    | chl z hz =>
      refine ⟨by simp, by simp, fun d hd => ?_⟩
      simp only [List.mem_cons, List.not_mem_nil, or_false] at hd
      rcases hd with rfl | rfl
      · exact Cd.of_str (word_cd _ (by simp))
      · exact Cd.of_str (nm_cd hz)
    | neg c hc =>
      refine ⟨by simp, by simp, fun d hd => ?_⟩
      simp only [List.mem_cons, List.not_mem_nil, or_false] at hd
      rcases hd with rfl | rfl
      · exact Cd.of_str (word_cd _ (by simp))
      · exact ih hc
    | row b c1 c2 cs l a =>
      refine ⟨by simp, by rw [List.length_cons]; omega, fun d hd => ?_⟩
      rcases List.mem_cons.mp hd with rfl | hd
      · exact Cd.of_str (rowS_cd b)
      · exact ih (a d hd)
/-! ### made again -/
theorem form_liv {q : Nat} {z : Str} (h : nmB z = true) : formB (q + 1) (.tuple [.str "lives", .str z]) = true := by
  show formL (formB q) "lives" (.str z) [] = true
  unfold formL
  rw [if_pos (by decide), if_pos (by decide)]
  exact h
theorem form_livAt {q : Nat} {z : Str} {i : Int} (h : nmB z = true) (i0 : -9999 ≤ i) (i1 : i ≤ 9999) : formB (q + 1) (.tuple [.str "lives", .str z, .int i]) = true := by
  show formL (formB q) "lives" (.str z) [.int i] = true
  unfold formL
  rw [if_pos (by decide), if_pos (by decide)]
  show (nmB z && decide (-9999 ≤ i ∧ i ≤ 9999)) = true
  rw [h, decide_eq_true ⟨i0, i1⟩]
  rfl
theorem form_chl {q : Nat} {z : Str} (h : nmB z = true) : formB (q + 1) (.tuple [.str "childless", .str z]) = true := by
  show formL (formB q) "childless" (.str z) [] = true
  unfold formL
  rw [if_pos (by decide), if_neg (by decide), if_pos (by decide)]
  exact h
theorem form_neg {q : Nat} {c : PyData} (h : formB q c = true) : formB (q + 1) (.tuple [.str "not", c]) = true := by
  show formL (formB q) "not" c [] = true
  unfold formL
  rw [if_pos (by decide), if_neg (by decide), if_neg (by decide), if_pos (by decide)]
  exact h
theorem form_row {q : Nat} {b : Bool} {cs : List PyData} (l2 : 2 ≤ cs.length) (l6 : cs.length ≤ 6) (h : ∀ c ∈ cs, formB q c = true) : formB (q + 1) (.tuple (.str (rowS b) :: cs)) = true := by
  match cs, l2, l6, h with
  | c1 :: c2 :: cs, l2, l6, h =>
    show formL (formB q) (rowS b) c1 (c2 :: cs) = true
    unfold formL
    have e : decide (2 ≤ (c1 :: c2 :: cs).length ∧ (c1 :: c2 :: cs).length ≤ 6) = true := decide_eq_true ⟨l2, l6⟩
    have e2 : (c1 :: c2 :: cs).all (formB q) = true := List.all_eq_true.mpr h
    cases b
    · rw [if_pos (by decide), if_neg (by decide), if_neg (by decide), if_neg (by decide), e, e2]
      rfl
    · rw [if_pos (by decide), if_neg (by decide), if_neg (by decide), if_neg (by decide), e, e2]
      rfl
theorem map_eqF {α β : Type} {f g : α → β} : ∀ {cs : List α}, (∀ c ∈ cs, f c = g c) → cs.map f = cs.map g := fun h => List.map_congr_left h
theorem any_eqF {α : Type} {f g : α → Bool} : ∀ {cs : List α}, (∀ c ∈ cs, f c = g c) → cs.any f = cs.any g
  | [], _ => rfl
  | c :: cs, h => by rw [List.any_cons, List.any_cons, h c List.mem_cons_self, any_eqF fun x hx => h x (List.mem_cons_of_mem _ hx)]
theorem all_eqF {α : Type} {f g : α → Bool} : ∀ {cs : List α}, (∀ c ∈ cs, f c = g c) → cs.all f = cs.all g
  | [], _ => rfl
  | c :: cs, h => by rw [List.all_cons, List.all_cons, h c List.mem_cons_self, all_eqF fun x hx => h x (List.mem_cons_of_mem _ hx)]
/-- more within one another changes nothing -/
theorem form_up {F : List (Str × Option Str)} {D : List (Str × Int)} {m : Int} : ∀ {r : Nat} {d : PyData}, formB r d = true → formB (r + 1) d = true ∧ namesN (r + 1) d = namesN r d ∧ comeN F D m (r + 1) d = comeN F D m r d := by
  intro r
  induction r with
  | zero => intro d h; cases h
  | succ r ih =>
    intro d h
    obtain ⟨q, e, v⟩ := form_view h
    obtain rfl : r = q := by omega
    cases v with
    | liv z hz => exact ⟨form_liv hz, rfl, by rw [come_liv, come_liv]⟩
    | livAt z i hz i0 i1 => exact ⟨form_livAt hz i0 i1, rfl, by rw [come_livAt, come_livAt]⟩
    | chl z hz => exact ⟨form_chl hz, rfl, by rw [come_chl, come_chl]⟩
    | neg c hc => exact ⟨form_neg (ih hc).1, by rw [names_neg, names_neg, (ih hc).2.1], by rw [come_neg, come_neg, (ih hc).2.2]⟩
    | row b c1 c2 cs l a =>
      refine ⟨form_row (by simp) l fun c hc => (ih (a c hc)).1, ?_, ?_⟩
      · rw [names_row, names_row, map_eqF fun c hc => (ih (a c hc)).2.1]
      · cases b
        · rw [show rowS false = "or" from rfl, come_or, come_or]
          exact any_eqF fun c hc => (ih (a c hc)).2.2
        · rw [show rowS true = "and" from rfl, come_and, come_and]
          exact all_eqF fun c hc => (ih (a c hc)).2.2
theorem form_more {F : List (Str × Option Str)} {D : List (Str × Int)} {m : Int} {r n : Nat} {d : PyData} (h : formB r d = true) (l : r ≤ n) : formB n d = true ∧ namesN n d = namesN r d ∧ comeN F D m n d = comeN F D m r d := by
  induction l with
  | refl => exact ⟨h, rfl, rfl⟩
  | step _ ih =>
    obtain ⟨h1, e1, e2⟩ := ih
    obtain ⟨h2, f1, f2⟩ := form_up (F := F) (D := D) (m := m) h1
    exact ⟨h2, f1.trans e1, f2.trans e2⟩
/-! ### a good condition, of these names -/
def Cg (K : PySem.W.Frag) (zs : List Str) (n : Nat) (H : Hp) (v : V) : Prop := ∃ d, Dz [] K H v d ∧ formB n d = true ∧ ∀ z ∈ namesN n d, z ∈ zs
section
variable {K : PySem.W.Frag} {zs : List Str} {H H' : Hp} {n m : Nat} {v : V} {a : Addr} {z : Str}
theorem Cg.tk (h : Cg K zs n H v) (e : Tk H H') : Cg K zs n H' v := by
  obtain ⟨d, h, f, nm⟩ := h
  exact ⟨d, cd_tk e (form_cd f) h, f, nm⟩
theorem Cg.mono (h : Cg K zs n H v) (l : n ≤ m) : Cg K zs m H v := by
  obtain ⟨d, h, f, nm⟩ := h
  obtain ⟨h2, e, _⟩ := form_more (F := []) (D := []) (m := 0) f l
  exact ⟨d, h, h2, by rw [e]; exact nm⟩
theorem cg_liv (h : SqT K H a [.str "lives", .str z]) (o : nmB z = true) (i : z ∈ zs) : Cg K zs 1 H (.ref a) := ⟨_, .tup h (.cons (.str _) (.cons (.str _) .nil)), form_liv o, fun y hy => by rw [List.mem_singleton.mp (show y ∈ [z] from hy)]; exact i⟩
theorem cg_livAt {j : Int} (h : SqT K H a [.str "lives", .str z, .int j]) (o : nmB z = true) (j0 : -9999 ≤ j) (j1 : j ≤ 9999) (i : z ∈ zs) : Cg K zs 1 H (.ref a) := ⟨_, .tup h (.cons (.str _) (.cons (.str _) (.cons (.int _) .nil))), form_livAt o j0 j1, fun y hy => by rw [List.mem_singleton.mp (show y ∈ [z] from hy)]; exact i⟩
theorem cg_chl (h : SqT K H a [.str "childless", .str z]) (o : nmB z = true) (i : z ∈ zs) : Cg K zs 1 H (.ref a) := ⟨_, .tup h (.cons (.str _) (.cons (.str _) .nil)), form_chl o, fun y hy => by rw [List.mem_singleton.mp (show y ∈ [z] from hy)]; exact i⟩
theorem cg_neg (h : SqT K H a [.str "not", v]) (c : Cg K zs n H v) : Cg K zs (n + 1) H (.ref a) := by
  obtain ⟨d, hd, f, nm⟩ := c
  exact ⟨_, .tup h (.cons (.str _) (.cons hd .nil)), form_neg f, by rw [names_neg]; exact nm⟩
theorem cg_all : ∀ {xs : List V}, (∀ x ∈ xs, Cg K zs n H x) → ∃ ds, DzAll [] K H xs ds ∧ (∀ d ∈ ds, formB n d = true) ∧ ∀ y ∈ (ds.map (namesN n)).flatten, y ∈ zs
  | [], _ => ⟨[], .nil, fun _ h => (List.not_mem_nil h).elim, fun _ h => (List.not_mem_nil h).elim⟩
  | x :: xs, h => by
    obtain ⟨d, h1, f1, n1⟩ := h x List.mem_cons_self
    obtain ⟨ds, h2, f2, n2⟩ := cg_all (xs := xs) fun y hy => h y (List.mem_cons_of_mem _ hy)
    refine ⟨d :: ds, .cons h1 h2, fun e he => (List.mem_cons.mp he).elim (fun z => z ▸ f1) (f2 e), fun y hy => ?_⟩
    rw [List.map_cons, List.flatten_cons] at hy
    exact (List.mem_append.mp hy).elim (n1 y) (n2 y)
theorem cg_row {b : Bool} {xs : List V} (h : SqT K H a (.str (rowS b) :: xs)) (l2 : 2 ≤ xs.length) (l6 : xs.length ≤ 6) (c : ∀ x ∈ xs, Cg K zs n H x) : Cg K zs (n + 1) H (.ref a) := by
  obtain ⟨ds, hd, f, nm⟩ := cg_all c
  have e := hd.len
  exact ⟨_, .tup h (.cons (.str _) hd), form_row (by omega) (by omega) f, by rw [names_row]; exact nm⟩
end
end WdQ

set_option Elab.async false
set_option linter.all false
set_option maxRecDepth 100000
set_option maxHeartbeats 4000000
set_option exponentiation.threshold 5000
namespace WdQ
open PySem PySem.Spec PyProof.Rows L2 WdM Wd
abbrev sPool : Stmt := topS 70
abbrev sTake : Stmt := topS 71
theorem scPool : FnScope ["_law_script", "_law_k", "_law_cell", "_law_more", "_law_wide", "_law_found", "_law_turn"] ["_law_script", "_law_k"] (defScope sPool) := ⟨rfl, rfl, rfl, by decide +kernel, rfl, by decide +kernel, by decide +kernel⟩
theorem scTake : FnScope ["_law_pool_here", "_law_many", "_law_digit"] ["_law_pool_here", "_law_many"] (defScope sTake) := ⟨rfl, rfl, rfl, by decide +kernel, rfl, by decide +kernel, by decide +kernel⟩
def PoolAt (H : Hp) (l : Addr) : Prop := ∃ n m : Int, H l = some (.lst [.int n, .int m]) ∧ 0 ≤ n ∧ n.natAbs < 2 ^ 1300 ∧ 0 ≤ m ∧ m < 999999999989
theorem PoolAt.lst {H : Hp} {l : Addr} (h : PoolAt H l) : ∀ a ∈ [l], ∃ zs, H a = some (.lst zs) := fun a ha => by
  obtain ⟨n, m, e, _⟩ := h
  rw [List.mem_singleton.mp ha]
  exact ⟨_, e⟩
theorem PoolAt.same {H H' : Hp} {l : Addr} (h : PoolAt H l) (e : Same H H') : PoolAt H' l := by
  obtain ⟨n, m, a, b⟩ := h
  exact ⟨n, m, e _ _ a, b⟩
theorem PoolAt.ne {H : Hp} {l p : Addr} (h : PoolAt H l) (e : H p = none) : l ≠ p := by
  obtain ⟨n, m, a, b⟩ := h
  exact ne_of_none a e
theorem PoolAt.upd {H : Hp} {l p : Addr} {o : HO} (h : PoolAt H l) (e : l ≠ p) : PoolAt (upd H p o) l := by
  obtain ⟨n, m, a, b⟩ := h
  exact ⟨n, m, by rw [upd_ne e]; exact a, b⟩
theorem kept {S : List Addr} {H H' : Hp} {b : Addr} {o : HO} (e : Bt S H H') (h : H b = some o) (n : b ∉ S) : H' b = some o := e b o n h
theorem lst_ne {H : Hp} {l p : Addr} {ws : List V} (h : PoolAt H l) (e : H p = some (.lst ws)) (n : ws.length ≠ 2) : p ≠ l := fun z => by
  obtain ⟨m, m2, q, _⟩ := h
  rw [← z, e] at q
  exact n (congrArg (fun o : Option HO => match o with | some (.lst xs) => xs.length | _ => 0) q)
section
variable {P : Program} {w : World} {K : PySem.W.Frag} {mg : Str → Option Value} {base : Heap}
def spTake : Sp := fun vs H Q _ => ∃ (l : Addr) (m : Int), vs = [.ref l, .int m] ∧ PoolAt H l ∧ 0 < m ∧ ∀ H' d, Bt [l] H H' → PoolAt H' l → 0 ≤ d → d < m → Q (.int d) H'
theorem ok_take {f : Addr} {fd : FuncData} {k : Nat} (B : Bi mg) (D : Df K mg "_law_take" sTake f fd ["_law_pool_here", "_law_many"]) : FnOk P w K mg base CX0 (k + 1) f fd ["_law_pool_here", "_law_many"] spTake := by
  refine D.fn.ok scTake (fun vs H Q E h => ?_) (fun cdv A outer s H vs Q E hr h => ?_)
  · obtain ⟨l, m, rfl, _⟩ := h
    rfl
  · obtain ⟨l, m, rfl, ⟨n, y, hl, n0, nB, y0, y1⟩, m0, q⟩ := h
    refine ⟨_, pss_cons (ps_if (pt_cmpR op_gt (pe_ix (r := rIxL K) ix_list (pv 0) pe_int (fun _ _ => rfl)) pe_int (nomark _))
        (pss_cons (ps_asg (pe_callB call_divmodW (by rfl) B.divmod (by decide +kernel) (pa_cons (pe_ix (r := rIxL K) ix_list (pv 0) pe_int (fun _ _ => rfl)) (pa_cons (pv 1) pa_nil)))
          (pg_tup rfl (pgs_cons (pg_sub (pv 0) pe_int set_list) (pgs_cons (pg_name (i := 2) scTake.nd rfl (.inl rfl)) pgs_nil))))
        (pss_one (ps_ret (pv 2)))) pss_nil)
      (pss_cons (ps_asg (pe_op op_mod (pe_op op_add (pe_op op_mul (pe_ix (r := rIxL K) ix_list (pv 0) pe_int (fun _ _ => rfl)) pe_int) pe_int) pe_int) (pg_sub (pv 0) pe_int set_list))
      (pss_one (ps_ret (pe_op op_mod (pe_op op_fdiv (pe_ix (r := rIxL K) ix_list (pv 0) pe_int (fun _ _ => rfl)) pe_int) (pv 1))))), ?_⟩
    refine ⟨_, rfl, l, _, 0, .int n, rfl, rfl, sqL hl, atI_nat (j := 0) rfl, n, 0, rfl, rfl, _, rfl, ?_⟩
    by_cases np : 0 < n
    · rw [decide_eq_true np]
      refine iteT ⟨_, rfl, l, _, 0, .int n, rfl, rfl, sqL hl, atI_nat (j := 0) rfl, _, rfl, n, m, rfl, divp_ok m0 ?_, fun p hp => ?_⟩
      · have := PyProof.Rows.intBits_le nB
        omega
      · have nlp : l ≠ p := ne_of_none hl hp
        have hl2 : (upd H p (.tup [.int (n / m), .int (n % m)])) l = some (.lst [.int n, .int y]) := by rw [upd_ne nlp]; exact hl
        refine ⟨p, _, rfl, sqT upd_same, rfl, _, _, rfl, _, rfl, l, _, 0, 0, rfl, rfl, hl2, ixN_nat (n := 2) (i := 0) (by decide), _, _, rfl, rfl, ?_⟩
        refine ⟨_, rfl, q _ _ (((Bt.refl H).new hp).upd1 (by simp)) ⟨n / m, y, upd_same, Int.ediv_nonneg n0 (Int.le_of_lt m0), ?_, y0, y1⟩ (Int.emod_nonneg n (by omega)) (Int.emod_lt_of_pos n m0)⟩
        exact wide_le (Int.ediv_nonneg n0 (Int.le_of_lt m0)) (Int.ediv_le_self _ n0) nB
    · rw [decide_eq_false np]
      have z0 := Int.emod_nonneg (y * 69621 + 40503) (show (999999999989 : Int) ≠ 0 by decide)
      have z1 := Int.emod_lt_of_pos (y * 69621 + 40503) (show (0 : Int) < 999999999989 by decide)
      refine iteF ⟨_, rfl, l, _, 1, .int y, rfl, rfl, sqL hl, atI_nat (j := 1) rfl, y, 69621, rfl, rfl, .inr ⟨by decide, by decide⟩, _, 40503, rfl, rfl, _, 999999999989, rfl, rfl, by show (0 : Int) < 999999999989; decide, ?_⟩
      refine ⟨_, rfl, l, _, 1, 1, rfl, rfl, hl, ixN_nat (n := 2) (i := 1) (by decide), ?_⟩
      refine ⟨_, rfl, l, _, 1, .int ((y * 69621 + 40503) % 999999999989), rfl, rfl, sqL upd_same, rfl, _, 4099, rfl, rfl, ⟨by decide, by decide⟩, _, rfl, _, m, rfl, rfl, m0, ?_⟩
      exact q _ _ ((Bt.refl H).upd1 (by simp)) ⟨n, _, upd_same, n0, nB, z0, z1⟩ (Int.emod_nonneg _ (by omega)) (Int.emod_lt_of_pos _ m0)
def spPool (K : PySem.W.Frag) : Sp := fun vs H Q _ => ∃ (a : Addr) (ns : List Int) (i : Int), vs = [.ref a, .int i] ∧ SqL K H a (ns.map V.int) ∧ 0 ≤ i ∧ i < 64 ∧ ∀ H' l, Same H H' → H l = none → PoolAt H' l → Q (.ref l) H'
theorem found_step {f x : Int} {m : Nat} (h0 : 0 ≤ f) (h1 : f.natAbs < 2 ^ m) (h2 : 0 ≤ x) (h3 : x < 99999999977) : 0 ≤ f * 100000000000 + x ∧ (f * 100000000000 + x).natAbs < 2 ^ (m + 37) := by
  rw [Nat.pow_add]
  generalize 2 ^ m = B at *
  rw [show (2 : Nat) ^ 37 = 137438953472 by decide]
  omega
theorem cut_ints (ns : List Int) (lo hi : Option Int) : ∃ ms : List Int, cutV (ns.map V.int) lo hi = ms.map V.int := by
  unfold cutV
  exact ⟨(ns.drop _).take _, by rw [List.map_take, List.map_drop]⟩
def tHuge : TS := fun D σ H => ∃ (y0 y1 : Option V) (c mo : Int), σ = [y0, y1, some (.int c), some (.int mo), none, none, none] ∧ ∀ l n m, H l = none → 0 ≤ n → n.natAbs < 2 ^ 1300 → 0 ≤ m → m < 999999999989 → D.rt (.ref l) (upd H l (.lst [.int n, .int m]))
theorem ok_pool {f : Addr} {fd : FuncData} {k : Nat} (B : Bi mg) (D : Df K mg "_law_pool" sPool f fd ["_law_script", "_law_k"]) : FnOk P w K mg base CX0 (k + 1) f fd ["_law_script", "_law_k"] (spPool K) := by
  refine D.fn.ok scPool (fun vs H Q E h => ?_) (fun cdv A outer s H vs Q E hr h => ?_)
  · obtain ⟨l, m, i, rfl, _⟩ := h
    rfl
  · obtain ⟨a, ns, i, rfl, hs, i0, i1, q⟩ := h
    refine ⟨_, pss_cons (ps_set (i := 2) scPool.nd rfl (.inl rfl) (pe_callB (cr_sum rfl) (by rfl) B.sum (by decide +kernel) (pa_cons (pe_slice sl_list (pv 0) (po_some (pv 1)) (po_some (pe_op op_add (pv 1) pe_int))) pa_nil)))
      (pss_cons (ps_set (i := 3) scPool.nd rfl (.inl rfl) (pe_op op_add (pe_op op_add (pe_op op_mul (pv 2) pe_int) (pe_op op_mul (pe_op op_mul pe_int (pv 1)) (pv 1))) pe_int))
      (pss_cons (ps_if (PW.pt (pw_or (pt_cmpR op_lt (pv 2) pe_int (nomark _)) (pw_or1 (pt_cmpR op_ge (pv 2) (pe_op op_pow pe_int pe_int) (nomark _)))))
        (PSs.wk (t' := tHuge) (pss_cons (ps_set (i := 4) scPool.nd rfl (.inl rfl) (pe_op op_mulW (pe_op op_mulW (pe_op op_pow pe_int pe_int) (pe_op op_pow pe_int pe_int)) (pe_op op_pow pe_int pe_int)))
        (pss_one (ps_ret (pe_lst (pa_cons (pe_op op_mod (pe_callB call_abs (by rfl) B.abs (by decide +kernel) (pa_cons (pv 2) pa_nil)) (pe_op op_mulW (pv 4) (pv 4))) (pa_cons (pe_op op_mod (pv 3) pe_int) pa_nil)))))) (by
          rintro D σ H ⟨y0, y1, c, mo, rfl, q⟩
          have cp : CPow 10 64 := ⟨by decide, by decide, by decide⟩
          have t0 : ((10 : Int) ^ (64 : Int).toNat).natAbs < 2 ^ 213 := by decide
          have b0 : (0 : Int) < (10 : Int) ^ (64 : Int).toNat := by decide
          generalize he : (10 : Int) ^ (64 : Int).toNat = t at t0 b0
          have t1 := wide_lt t0 t0
          have t2 := wide_lt t1 t0
          have t5 := wide_lt t2 t2
          have b2 : 0 < t * t * t := Int.mul_pos (Int.mul_pos b0 b0) b0
          have b5 : 0 < t * t * t * (t * t * t) := Int.mul_pos b2 b2
          have hv := congrArg V.int he
          refine ⟨10, 64, rfl, rfl, cp, 10, 64, rfl, rfl, cp, t, t, hv, hv, wide_mul t0 t0 (by decide) (by decide) (by decide), 10, 64, rfl, rfl, cp, t * t, t, rfl, hv, wide_mul t1 t0 (by decide) (by decide) (by decide), ?_⟩
          refine ⟨_, rfl, c, rfl, _, rfl, _, rfl, t * t * t, t * t * t, rfl, rfl, wide_mul t2 t2 (by decide) (by decide) (by decide), _, _, rfl, rfl, b5, _, rfl, mo, 999999999989, rfl, rfl, by show (0 : Int) < 999999999989; decide, by show 2 ≤ sizeLine; decide, fun l hl => q l _ _ hl (Int.emod_nonneg _ (by omega)) ?_ (Int.emod_nonneg _ (by decide)) (Int.emod_lt_of_pos _ (by decide))⟩
          have := Int.emod_lt_of_pos (if c < 0 then -c else c) b5
          exact Nat.lt_of_lt_of_le (wide_le (Int.emod_nonneg _ (by omega)) (Int.le_of_lt this) t5) (pow_le (by decide)))) pss_nil)
      (pss_cons (ps_set (i := 5) scPool.nd rfl (.inl rfl) pe_int)
      (pss_cons (ps_for PassesOwn.never rfl (pi_range1 (by rfl) B.range (pa_cons pe_int pa_nil)) (pg_name (i := 6) scPool.nd rfl (.inl rfl))
        (pss_cons (ps_set (i := 3) scPool.nd rfl (.inl rfl) (pe_op op_mod (pe_op op_add (pe_op op_add (pe_op op_mul (pe_op op_mod (pv 3) pe_int) pe_int) (pe_op op_mul pe_int (pv 6))) pe_int) pe_int))
        (pss_one (ps_set (i := 5) scPool.nd rfl (.inl rfl) (pe_op op_add (pe_op op_mulW (pv 5) (pe_op op_pow pe_int pe_int)) (pe_op op_mod (pe_op op_mul (pv 3) (pe_op op_add (pe_op op_mod (pv 3) pe_int) pe_int)) pe_int))))))
      (pss_one (ps_ret (pe_lst (pa_cons (pv 5) (pa_cons (pv 3) pa_nil))))))))), ?_⟩
    refine ⟨_, rfl, _, rfl, i, rfl, _, rfl, i, 1, rfl, rfl, i + 1, rfl, a, _, rfl, hs, fun p hp => ?_⟩
    obtain ⟨ms, em⟩ := cut_ints ns (some i) (some (i + 1))
    have sm : Same H (upd H p (.lst (cutV (ns.map V.int) (some i) (some (i + 1))))) := same_new hp
    refine ⟨p, ms, rfl, sqL (by rw [upd_same, em]), ?_⟩
    generalize ms.sum = c
    revert sm
    generalize upd H p (.lst (cutV (ns.map V.int) (some i) (some (i + 1)))) = H1
    intro sm
    refine ⟨_, rfl, c, 48271, rfl, rfl, .inr ⟨by decide, by decide⟩, _, rfl, 977, i, rfl, rfl, .inl ⟨by decide, by decide⟩, _, rfl, _, i, rfl, rfl, .inr ⟨by omega, by omega⟩, _, _, rfl, rfl, _, 13, rfl, rfl, ?_⟩
    refine ⟨_, rfl, c, 0, rfl, rfl, _, rfl, ?_⟩
    have q2 : ∀ (l : Addr) (n m : Int), H1 l = none → 0 ≤ n → n.natAbs < 2 ^ 1300 → 0 ≤ m → m < 999999999989 → Q (.ref l) (upd H1 l (.lst [.int n, .int m])) := fun l n m hl h0 hB m0 m1 => q _ l (sm.trans (same_new hl)) (sm.free hl) ⟨n, m, upd_same, h0, hB, m0, m1⟩
    have huge : ∀ D : Ends, D.rt = Q → tHuge D [some (.ref a), some (.int i), some (.int c), some (.int (c * 48271 + 977 * i * i + 13)), none, none, none] H1 := fun D e => ⟨_, _, c, _, rfl, fun l n m h1 h2 h3 h4 h5 => by rw [e]; exact q2 l n m h1 h2 h3 h4 h5⟩
    by_cases hneg : c < 0
    · rw [decide_eq_true hneg]
      exact iteT (iteT (huge _ rfl))
    · rw [decide_eq_false hneg]
      refine iteF ⟨_, rfl, 10, 18, rfl, rfl, ⟨by decide, by decide, by decide⟩, c, _, rfl, rfl, _, rfl, ?_⟩
      by_cases hbig : (10 : Int) ^ (18 : Int).toNat ≤ c
      · rw [decide_eq_true hbig]
        exact iteT (huge _ rfl)
      · rw [decide_eq_false hbig]
        refine iteF ?_
        refine ⟨27, rfl, by decide, by decide, for_range (lo := 0) (n := 27) (fun j σ H' => ∃ (mm ff : Int) (y : Option V), σ = [some (.ref a), some (.int i), some (.int c), some (.int mm), none, some (.int ff), y] ∧ (1 ≤ j → 0 ≤ mm ∧ mm < 999999999989) ∧ 0 ≤ ff ∧ ff.natAbs < 2 ^ (37 * j) ∧ H' = H1)
          ⟨_, 0, none, rfl, (fun z => absurd z (by decide)), Int.le_refl 0, by decide, rfl⟩ ?_ ?_⟩
        · rintro j σ H' hj ⟨mm, ff, y, rfl, g1, g2, g3, rfl⟩
          have r0 := Int.emod_nonneg mm (show (999999999989 : Int) ≠ 0 by decide)
          have r1 := Int.emod_lt_of_pos mm (show (0 : Int) < 999999999989 by decide)
          refine ⟨_, rfl, mm, 999999999989, rfl, rfl, by show (0 : Int) < 999999999989; decide, _, 69621, rfl, rfl, .inr ⟨by decide, by decide⟩, _, rfl, 40503, _, rfl, rfl, .inl ⟨by decide, by decide⟩, _, _, rfl, rfl, _, 271, rfl, rfl, _, 999999999989, rfl, rfl, by show (0 : Int) < 999999999989; decide, ?_⟩
          have s0 := Int.emod_nonneg (mm % 999999999989 * 69621 + 40503 * (0 + (j : Int)) + 271) (show (999999999989 : Int) ≠ 0 by decide)
          have s1 := Int.emod_lt_of_pos (mm % 999999999989 * 69621 + 40503 * (0 + (j : Int)) + 271) (show (0 : Int) < 999999999989 by decide)
          have fB : ff.natAbs < 2 ^ 1000 := Nat.lt_of_lt_of_le g3 (pow_le (by omega))
          refine ⟨_, rfl, 10, 11, rfl, rfl, ⟨by decide, by decide, by decide⟩, ff, _, rfl, rfl, wide_mul fB (show ((10 : Int) ^ (11 : Int).toNat).natAbs < 2 ^ 64 by decide) (by decide) (by decide) (by decide), _, rfl, _, rfl, _, 65537, rfl, rfl, by show (0 : Int) < 65537; decide, _, 3, rfl, rfl, _, _, rfl, rfl, .inl ⟨Int.lt_of_lt_of_le (by decide) s0, Int.lt_trans s1 (by decide)⟩, _, 99999999977, rfl, rfl, by show (0 : Int) < 99999999977; decide, _, _, rfl, rfl, ?_⟩
          refine ⟨_, _, _, rfl, fun _ => ⟨s0, s1⟩, ?_, ?_, rfl⟩
          · exact (found_step g2 g3 (Int.emod_nonneg _ (by decide)) (Int.emod_lt_of_pos _ (by decide))).1
          · exact (found_step g2 g3 (Int.emod_nonneg _ (by decide)) (Int.emod_lt_of_pos _ (by decide))).2
        · rintro σ H' ⟨mm, ff, y, rfl, g1, g2, g3, rfl⟩
          obtain ⟨m0, m1⟩ := g1 (by decide)
          exact ⟨_, rfl, _, rfl, by show 2 ≤ sizeLine; decide, fun l hl => q2 l ff mm hl g2 (Nat.lt_of_lt_of_le g3 (pow_le (by decide))) m0 m1⟩
end
end WdQ

set_option Elab.async false
set_option linter.all false
set_option maxRecDepth 100000
set_option maxHeartbeats 4000000
set_option exponentiation.threshold 5000
namespace WdQ
open PySem PySem.Spec PyProof.Rows L2 WdM Wd
abbrev sWords : Stmt := topS 72
def nWords : List Str := ["_law_pool_here", "_law_many", "_law_own", "_law_letters", "_law_found", "_law_odd", "_law_turn", "_law_word", "_law_place", "_law_letter", "_law_some", "_law_one"]
theorem scWords : FnScope nWords ["_law_pool_here", "_law_many"] (defScope sWords) := ⟨rfl, rfl, rfl, by decide +kernel, rfl, by decide +kernel, by decide +kernel⟩
def ownS : List Str := ["give", "pay", "rest", "wait", "ranks", "sums", "names", "kinds", "person", "thing", "none", "deal"]
def ownW : List V := ownS.map V.str
theorem own_wd : ∀ z ∈ ownS, wdB 6 z := by
  have : ∀ z ∈ ownS, z.cps.toList.all letB = true ∧ 1 ≤ z.length ∧ z.length ≤ 6 := by decide +kernel
  exact fun z hz => ⟨fun c hc => List.all_eq_true.mp (this z hz).1 c hc, (this z hz).2⟩
def tWsN (ws : List V) : TE := fun σ H Q => ∀ p H', Same H H' → H p = none → H' p = some (.lst ws) → Q (.ref p) H'
/-- one word is drawn -/
def tIfW : TS := fun D σ H => ∃ (l : Addr) (y1 y2 y4 y5 y6 y10 : Option V) (z : Str), σ = [some (.ref l), y1, y2, some (.str lettersS), y4, y5, y6, some (.str z), none, none, y10, none] ∧ PoolAt H l ∧ wdB 6 z ∧ ∀ H' z', Bt [l] H H' → PoolAt H' l → wdB 6 z' → D.nx [some (.ref l), y1, y2, some (.str lettersS), y4, y5, y6, some (.str z'), none, none, y10, none] H'
theorem at_letters {d : Int} (d0 : 0 ≤ d) (d1 : d < 26) : ∃ c, atI lettersS.cps.toList d = some c ∧ letB c = true := by
  obtain ⟨n, rfl⟩ := Int.eq_ofNat_of_zero_le d0
  have hn : n < lettersS.cps.toList.length := by
    show n < 26
    omega
  exact ⟨_, atI_nat (List.getElem?_eq_getElem hn), decide_eq_true (List.getElem_mem hn)⟩
theorem ones_sum : ∀ cs : List Nat, ((cs.map fun c => (⟨#[c]⟩ : Str)).map (·.length)).sum = cs.length
  | [] => rfl
  | c :: cs => by
    rw [List.map_cons, List.map_cons, List.sum_cons, ones_sum cs, List.length_cons]
    show 1 + _ = _
    omega
theorem flat_strs (zs : List Str) : (zs.map V.str).all flatV = true := by
  rw [List.all_map, List.all_eq_true]
  exact fun _ _ => rfl
theorem joinL_one : ∀ cs : List Nat, TL.joinL [] (cs.map fun c => [c]) = cs
  | [] => rfl
  | [_] => rfl
  | c :: d :: cs => by
    have := joinL_one (d :: cs)
    show [c] ++ ([] ++ TL.joinL [] ((d :: cs).map fun c => [c])) = _
    rw [this]
    rfl
theorem join_letters : ∀ {cs : List Nat}, (∀ c ∈ cs, letB c = true) → okL (Txt.join "" (cs.map fun c => (⟨#[c]⟩ : Str))) ∧ (Txt.join "" (cs.map fun c => (⟨#[c]⟩ : Str))).length = cs.length := by
  intro cs h
  have e : Txt.join "" (cs.map fun c => (⟨#[c]⟩ : Str)) = ⟨cs.toArray⟩ := by
    rw [TL.join_eq]
    refine TL.ext_tl ?_
    rw [TL.tl_join, List.map_map]
    have := joinL_one cs
    exact this.trans (by show cs = cs.toArray.toList; simp)
  rw [e]
  exact ⟨fun c hc => h c (by simpa using hc), by show cs.toArray.size = _; simp⟩
section
variable {P : Program} {w : World} {K : PySem.W.Frag} {mg : Str → Option Value} {base : Heap}
def spWords : Sp := fun vs H Q _ => ∃ (l : Addr) (m : Nat), vs = [.ref l, .int (m : Nat)] ∧ PoolAt H l ∧ m ≤ 20 ∧ ∀ (H' : Hp) (p : Addr) (zs : List Str), Bt [l] H H' → PoolAt H' l → H p = none → H' p = some (.lst (zs.map V.str)) → zs.length = m → zs.Nodup → (∀ z ∈ zs, Nm z) → Q (.ref p) H'
theorem ok_words {f fT : Addr} {fd fdT : FuncData} {k : Nat} (B : Bi mg) (D : Df K mg "_law_words" sWords f fd ["_law_pool_here", "_law_many"]) (DT : Df K mg "_law_take" sTake fT fdT ["_law_pool_here", "_law_many"]) (GT : FnOk P w K mg base CX0 (k + 1) fT fdT ["_law_pool_here", "_law_many"] spTake) : FnOk P w K mg base CX0 (k + 2) f fd ["_law_pool_here", "_law_many"] spWords := by
  refine D.fn.ok scWords (fun vs H Q E h => ?_) (fun cdv A outer s H vs Q E hr h => ?_)
  · obtain ⟨l, m, rfl, _⟩ := h
    rfl
  · obtain ⟨l, m, rfl, pool, m20, q⟩ := h
    refine ⟨_, pss_cons (ps_set (i := 2) scWords.nd rfl (.inl rfl) (PE.wk (t' := tWsN ownW) (pe_lst (pa_cons pe_str (pa_cons pe_str (pa_cons pe_str (pa_cons pe_str (pa_cons pe_str (pa_cons pe_str (pa_cons pe_str (pa_cons pe_str (pa_cons pe_str (pa_cons pe_str (pa_cons pe_str (pa_cons pe_str pa_nil))))))))))))) (by intro σ H Q q; exact ⟨by show ownW.length ≤ sizeLine; decide, fun p n => q p _ (same_new n) n upd_same⟩)))
      (pss_cons (ps_asg (pe_tup (pa_cons pe_str (pa_cons (pe_lst pa_nil) pa_nil))) (pg_tup rfl (pgs_cons (pg_name (i := 3) scWords.nd rfl (.inr rfl)) (pgs_cons (pg_name (i := 4) scWords.nd rfl (.inr rfl)) pgs_nil))))
      (pss_cons (ps_set (i := 5) scWords.nd rfl (.inr rfl) (PE.wk (t' := tWsN noNames) (pe_lst (pa_cons pe_str (pa_cons pe_str (pa_cons pe_str (pa_cons pe_str (pa_cons pe_str (pa_cons pe_str (pa_cons pe_str (pa_cons pe_str (pa_cons pe_str (pa_cons pe_str (pa_cons pe_str (pa_cons pe_str (pa_cons pe_str pa_nil)))))))))))))) (by intro σ H Q q; exact ⟨by show noNames.length ≤ sizeLine; decide, fun p n => q p _ (same_new n) n upd_same⟩)))
      (pss_cons (ps_for PassesOwn.never rfl (pi_range1 (by rfl) B.range (pa_cons (pv 1) pa_nil)) (pg_name (i := 6) scWords.nd rfl (.inl rfl))
        (pss_cons (ps_set (i := 7) scWords.nd rfl (.inr rfl) (pe_ix (r := rIxL K) ix_list (pv 2) (pe_call GT hr (by rfl) DT.mg DT.fn.kp DT.bd .nil pass0 (pa_cons (pv 0) (pa_cons pe_int pa_nil))) (fun _ _ => rfl)))
        (pss_cons (PS.wk (t' := tIfW) (ps_if (pt_cmpR op_gt (pe_call GT hr (by rfl) DT.mg DT.fn.kp DT.bd .nil pass0 (pa_cons (pv 0) (pa_cons pe_int pa_nil))) pe_int (nomark _))
          (pss_one (ps_set (i := 7) scWords.nd rfl (.inr rfl) (pe_join pe_str (pe_lc (own := [("_law_place", 8)]) (g := gName 8) (tt := tYes) rfl scWords.nd (pi_range1 (by rfl) B.range (pa_cons (pe_op op_add pe_int (pe_call GT hr (by rfl) DT.mg DT.fn.kp DT.bd .nil pass0 (pa_cons (pv 0) (pa_cons pe_int pa_nil)))) pa_nil)) (blkOk_by (own := [("_law_place", 8)]) (N := nWords) (sc := defScope sWords) (by decide +kernel))
            (fun _ _ _ _ _ => pg_name (i := 8) scWords.nd rfl (Or.inl rfl)) (fun _ _ _ _ _ => pts_nil)
            (fun _ _ _ _ _ => pe_ix (r := rIxS) ix_str (pv 3) (pe_call GT hr (by rfl) DT.mg DT.fn.kp DT.bd .nil pass0 (pa_cons (pv 0) (pa_cons pe_int pa_nil))) (fun _ _ => rfl)))))) pss_nil) (by
          rintro D σ H ⟨l, y1, y2, y4, y5, y6, y10, z, rfl, pool, wz, q⟩
          refine ⟨_, rfl, l, 4, rfl, pool, by decide, fun H6 d6 b6 pool6 d60 d61 => ⟨d6, 0, rfl, rfl, _, rfl, ?_⟩⟩
          by_cases dp : (0 : Int) < d6
          rotate_left
          · rw [decide_eq_false dp]
            exact iteF (q H6 z b6 pool6 wz)
          rw [decide_eq_true dp]
          refine iteT ⟨⟨_, rfl⟩, _, rfl, l, 5, rfl, pool6, by decide, fun H7 d7 b7 pool7 d70 d71 => ⟨1, d7, rfl, rfl, 1 + d7, rfl, by omega, by omega, fun L nL => ?_⟩⟩
          have nlL : l ≠ L := pool7.ne nL
          refine lc_range (lo := 0) (n := (1 + d7).toNat) (fun j H' => ∃ cs : List Nat, H' L = some (.lst ((cs.map fun c => (⟨#[c]⟩ : Str)).map V.str)) ∧ cs.length = j ∧ (∀ c ∈ cs, letB c = true) ∧ PoolAt H' l ∧ Bt [l] H7 H') ⟨[], upd_same, rfl, (fun x hx => nomatch hx), pool7.upd nlL, (Bt.refl H7).new nL⟩ ?_ ?_
          · rintro j H8 hj ⟨cs, hL, cl, lt, pool8, b8⟩
            refine ⟨rfl, tyes (iteT ⟨_, rfl, _, rfl, l, 26, rfl, pool8, by decide, fun H9 d9 b9 pool9 d90 d91 => ?_⟩)⟩
            obtain ⟨c, hc, lc⟩ := at_letters d90 d91
            refine ⟨lettersS, d9, c, rfl, rfl, by show 26 ≤ sizeLine; decide, hc, _, kept b9 hL (by simp [nlL.symm]), ?_, cs ++ [c], ?_, ?_, ?_, pool9.upd nlL, (b8.trans b9).upd0 nL⟩
            · rw [List.length_map, List.length_map, cl]
              exact Nat.lt_of_lt_of_le (show j < 8 by omega) (by decide)
            · rw [upd_same, List.map_append, List.map_append]
              rfl
            · rw [List.length_append, cl]
              rfl
            · intro x hx
              rcases List.mem_append.mp hx with h | h
              · exact lt x h
              · rw [List.mem_singleton.mp h]
                exact lc
          · rintro H8 ⟨cs, hL, cl, lt, pool8, b8⟩
            obtain ⟨k1, k2⟩ := join_letters lt
            refine ⟨_, L, cs.map fun c => (⟨#[c]⟩ : Str), rfl, rfl, .inl (sqL hL), ?_, ?_⟩
            · rw [ones_sum, List.length_map]
              show cs.length + cs.length * 0 ≤ 16777216
              omega
            · exact q H8 _ ((b6.trans b7).trans b8) pool8 ⟨k1, by omega, by omega⟩))
        (pss_cons (ps_set (i := 10) scWords.nd rfl (.inl rfl) (pe_op op_cat (pe_lst (pa_cons (pv 7) pa_nil)) (pe_lc (own := [("_law_letter", 9)]) (g := gName 9) (tt := tYes) rfl scWords.nd (pi_str (pv 3)) (blkOk_by (own := [("_law_letter", 9)]) (N := nWords) (sc := defScope sWords) (by decide +kernel))
            (fun _ _ _ _ _ => pg_name (i := 9) scWords.nd rfl (Or.inl rfl)) (fun _ _ _ _ _ => pts_nil)
            (fun _ _ _ _ _ => pe_op op_add_str (pe_op op_add_str (pe_slice (r := rSlS) sl_str (pv 7) po_none (po_some pe_int)) (pv 9)) pe_str))))
        (pss_one (ps_expr (pe_bm PySem.F.plainAttrs_list PySem.F.slot_list_append PySem.F.type_list_append mt_append (pv 4) (pa_cons (pe_ix (r := rIxL K) ix_list (pe_lc (own := [("_law_one", 11)]) (g := gName 11) rfl scWords.nd (pi_list (pv 10)) (blkOk_by (own := [("_law_one", 11)]) (N := nWords) (sc := defScope sWords) (by decide +kernel))
            (fun _ _ _ _ _ => pg_name (i := 11) scWords.nd rfl (Or.inl rfl)) (fun _ _ _ _ _ => pts_one (PW.pt (pw_and (pt_cmpR (r := rIn K true) op_notIn_seq (pv 11) (pv 4) (by rfl)) (pw_and1 (pt_cmpR (r := rIn K true) op_notIn_seq (pv 11) (pv 5) (by rfl))))))
            (fun _ _ _ _ _ => pv 11)) pe_int (fun _ _ => rfl)) pa_nil))))))))
      (pss_one (ps_ret (pv 4)))))), ?_⟩
    intro aO H1 s1 nO hO
    refine ⟨by show 0 ≤ sizeLine; decide, fun aF nF => ?_⟩
    have pool2 := (pool.same s1).upd (o := .lst []) ((pool.same s1).ne nF)
    have hO2 : (upd H1 aF (.lst [])) aO = some (.lst ownW) := by rw [upd_ne (ne_of_none hO nF)]; exact hO
    have s2 : Same H (upd H1 aF (.lst [])) := s1.trans (same_new nF)
    have hF2 : (upd H1 aF (.lst [])) aF = some (.lst []) := upd_same
    revert pool2 hO2 s2 hF2
    generalize upd H1 aF (.lst []) = H2
    intro pool2 hO2 s2 hF2
    refine ⟨by show 2 ≤ sizeLine; decide, fun tp ntp => ⟨tp, _, rfl, sqT upd_same, rfl, _, _, rfl, _, _, rfl, rfl, ?_⟩⟩
    intro aD H3 s3 nD hD
    have s23 : Same H2 H3 := (same_new ntp).trans s3
    have pool3 := pool2.same s23
    have b3 : Bt [l] H H3 := Bt.of_same (s2.trans s23)
    have hO3 := s23 _ _ hO2
    have hF3 := s23 _ _ hF2
    have nlO : aO ≠ l := lst_ne pool3 hO3 (by decide)
    have nlF : aF ≠ l := lst_ne pool3 hF3 (by decide)
    have nlD : aD ≠ l := lst_ne pool3 hD (by decide)
    have nFO : aO ≠ aF := fun e => by
      rw [e, hF3] at hO3
      cases hO3
    have nFD : aD ≠ aF := fun e => by
      rw [e, hF3] at hD
      cases hD
    have fF : H aF = none := s1.free nF
    refine ⟨_, rfl, (m : Int), rfl, by omega, by omega, for_range (lo := 0) (n := ((m : Nat) : Int).toNat) (fun i σ H' => (∃ y6 y7 y10 : Option V, σ = [some (.ref l), some (.int (m : Nat)), some (.ref aO), some (.str lettersS), some (.ref aF), some (.ref aD), y6, y7, none, none, y10, none]) ∧ H' aO = some (.lst ownW) ∧ H' aD = some (.lst noNames) ∧ (∃ zs : List Str, H' aF = some (.lst (zs.map V.str)) ∧ zs.length = i ∧ zs.Nodup ∧ ∀ z ∈ zs, Nm z) ∧ Bt [l] H H' ∧ PoolAt H' l) ⟨⟨none, none, none, rfl⟩, hO3, hD, ⟨[], hF3, rfl, List.nodup_nil, fun z hz => nomatch hz⟩, b3, pool3⟩ ?_ ?_⟩
    · rintro i σ H4 hi ⟨⟨y6, y7, y10, rfl⟩, hO4, hD4, ⟨zs, hF4, zl, nd, nm⟩, b4, pool4⟩
      refine ⟨_, rfl, _, rfl, l, 12, rfl, pool4, by decide, fun H5 d5 b5 pool5 d50 d51 => ?_⟩
      obtain ⟨v5, e5, z5, rfl, w5⟩ := at_of (P := fun v => ∃ z, v = .str z ∧ wdB 6 z) (xs := ownW) (d := d5) (fun x hx => by
        obtain ⟨z, hz, rfl⟩ := List.mem_map.mp hx
        exact ⟨z, rfl, own_wd z hz⟩) d50 (by show d5 < 12; omega)
      have hO5 := kept b5 hO4 (by simp [nlO])
      refine ⟨aO, _, d5, _, rfl, rfl, sqL hO5, e5, ?_⟩
      refine ⟨l, _, _, _, _, _, _, z5, rfl, pool5, w5, fun H6 z6 b6 pool6 w6 => ?_⟩
      have b46 := b5.trans b6
      have hO6 := kept b46 hO4 (by simp [nlO])
      have hD6 := kept b46 hD4 (by simp [nlD])
      have hF6 := kept b46 hF4 (by simp [nlF])
      have b06 := b4.trans b46
      have z66 := w6.2.2
      refine ⟨_, rfl, by show 1 ≤ sizeLine; decide, fun p7 n7 => ⟨_, rfl, lettersS, rfl, fun L nL => ?_⟩⟩
      have h7 : (upd H6 p7 (.lst [.str z6])) p7 = some (.lst [.str z6]) := upd_same
      have s7 : Same H6 (upd H6 p7 (.lst [.str z6])) := same_new n7
      revert h7 s7 nL
      generalize upd H6 p7 (.lst [.str z6]) = H7
      intro nL h7 s7
      refine lc_it walk_str (fun i H' => H' L = some (.lst (((lettersS.cps.toList.take i).map (cand z6)).map V.str)) ∧ Same H7 H') ⟨upd_same, same_new nL⟩ (fun _ _ _ _ => trivial) ?_ ?_
      · rintro i x H8 H' hx ⟨hL, sm⟩ ⟨rfl, c, hc, rfl⟩
        have hc' : lettersS.cps.toList[i]? = some c := by simpa using hc
        refine ⟨rfl, tyes (iteT ⟨_, rfl, 4, rfl, z6, rfl, ?_, _, rfl, cutS z6 none (some 4), ⟨#[c]⟩, rfl, rfl, ?_, cutS z6 none (some 4) ++ ⟨#[c]⟩, "x", rfl, rfl, ?_, _, hL, ?_, ?_, ?_⟩)⟩
        · exact Nat.le_trans z66 (by decide)
        · have := cutS_length z6 none (some 4)
          show _ + 1 ≤ sizeLine
          exact Nat.le_trans (show _ ≤ 8 by omega) (by decide)
        · have := cutS_length z6 none (some 4)
          rw [app_len]
          show _ + 1 + 1 ≤ sizeLine
          exact Nat.le_trans (show _ ≤ 8 by omega) (by decide)
        · rw [List.length_map, List.length_map, List.length_take]
          exact Nat.lt_of_lt_of_le (show _ < 26 by have := lt_get hc'; have : lettersS.cps.toList.length = 26 := by decide +kernel
                                                   omega) (by decide)
        · rw [upd_same, take_more hc', List.map_append, List.map_append]
          rfl
        · exact ((Bt.of_same (S := []) sm).upd0 nL).same
      · rintro H8 ⟨hL, s8⟩
        have e : lettersS.cps.toList.take lettersS.cps.size = lettersS.cps.toList := List.take_of_length_le (by simp)
        rw [e] at hL
        refine ⟨p7, L, _, _, rfl, rfl, s8 _ _ h7, hL, ?_, fun p9 n9 => ?_⟩
        · rw [List.length_map, List.length_map]
          show 1 + 26 ≤ sizeLine
          decide
        have h9 : (upd H8 p9 (.lst ([.str z6] ++ ((lettersS.cps.toList.map (cand z6)).map V.str)))) p9 = some (.lst ((cands z6).map V.str)) := upd_same
        have s9 : Same H6 (upd H8 p9 (.lst ([.str z6] ++ ((lettersS.cps.toList.map (cand z6)).map V.str)))) := (s7.trans s8).trans (same_new n9)
        revert h9 s9
        generalize upd H8 p9 (.lst ([.str z6] ++ ((lettersS.cps.toList.map (cand z6)).map V.str))) = H9
        intro h9 s9
        have hF9 := s9 _ _ hF6
        have hD9 := s9 _ _ hD6
        refine ⟨_, rfl, .inl ⟨rfl, _, sqL hF9⟩, _, rfl, p9, rfl, ⟨_, sqL h9⟩, fun L2 nL2 => lc_list (K := K) (a := p9) (xs := (cands z6).map V.str) (fun i H' => H' L2 = some (.lst ((((cands z6).take i).filter (freeB zs)).map V.str)) ∧ Same H9 H') ⟨upd_same, same_new nL2⟩ (fun i H' _ h => sqL (h.2 _ _ h9)) ?_ ?_⟩
        · rintro i x H' hx ⟨hL2, sm⟩
          obtain ⟨y, hy, rfl⟩ : ∃ y, (cands z6)[i]? = some y ∧ x = .str y := by
            rw [List.getElem?_map] at hx
            cases hc : (cands z6)[i]? with
            | none => rw [hc] at hx; cases hx
            | some y => rw [hc] at hx; cases hx; exact ⟨y, rfl, rfl⟩
          have no : freeB zs y = false → ((cands z6).take (i + 1)).filter (freeB zs) = ((cands z6).take i).filter (freeB zs) := fun e => by
            rw [take_more hy, List.filter_append, List.filter_cons, e]
            simp
          have yes : freeB zs y = true → ((cands z6).take (i + 1)).filter (freeB zs) = ((cands z6).take i).filter (freeB zs) ++ [y] := fun e => by
            rw [take_more hy, List.filter_append, List.filter_cons, e]
            simp
          refine ⟨rfl, ⟨_, rfl, _, rfl, aF, _, rfl, .inl (sqL (sm _ _ hF9)), rfl, flat_strs zs, _, rfl, ?_⟩⟩
          cases c1 : inV (.str y) (zs.map V.str) with
          | true =>
            refine iteF (iteF ⟨?_, sm⟩)
            rw [no (by unfold freeB; rw [c1]; rfl)]
            exact hL2
          | false =>
            refine iteT ⟨_, rfl, _, rfl, aD, _, rfl, .inl (sqL (sm _ _ hD9)), rfl, rfl, _, rfl, ?_⟩
            cases c2 : inV (.str y) noNames with
            | true =>
              refine iteF ⟨?_, sm⟩
              rw [no (by unfold freeB; rw [c1, c2]; rfl)]
              exact hL2
            | false =>
              refine iteT ⟨_, rfl, _, hL2, ?_, ?_, ((Bt.of_same (S := []) sm).upd0 nL2).same⟩
              · rw [List.length_map]
                refine Nat.lt_of_le_of_lt (List.length_filter_le _ _) ?_
                rw [List.length_take]
                refine Nat.lt_of_le_of_lt (Nat.min_le_right _ _) ?_
                show 27 < sizeLine
                decide
              · rw [upd_same, yes (by unfold freeB; rw [c1, c2]; rfl), List.map_append]
                rfl
        · rintro H' ⟨hL2, sm⟩
          rw [List.length_map, List.take_length] at hL2
          obtain ⟨y, ys, ey⟩ := some_free (z := z6) (found := zs) (by omega)
          obtain ⟨ny, nf⟩ := free_nm (found := zs) w6 (show y ∈ _ by rw [ey]; exact List.mem_cons_self)
          rw [ey] at hL2
          have hF' := sm _ _ hF9
          have s0 := s9.trans sm
          have bH : Bt [l] H H' := b06.trans (Bt.of_same s0)
          have nL2F : aF ≠ l := nlF
          refine ⟨L2, _, 0, .str y, rfl, rfl, sqL hL2, atI_nat (j := 0) rfl, aF, _, .str y, rfl, rfl, hF', ?_, ?_⟩
          · rw [List.length_map, zl]
            exact Nat.lt_of_lt_of_le (show i < 20 by omega) (by decide)
          refine ⟨⟨_, _, _, rfl⟩, ?_, ?_, ⟨zs ++ [y], ?_, ?_, ?_, ?_⟩, bH.upd0 fF, (pool6.same s0).upd nlF.symm⟩
          · rw [upd_ne nFO]
            exact s0 _ _ hO6
          · rw [upd_ne nFD]
            exact sm _ _ hD9
          · rw [upd_same, List.map_append]
            rfl
          · rw [List.length_append, zl]
            rfl
          · rw [List.nodup_append]
            refine ⟨nd, by simp, fun a ha b hb e => ?_⟩
            rw [List.mem_singleton.mp hb] at e
            exact nf (e ▸ ha)
          · intro z hz
            rcases List.mem_append.mp hz with h | h
            · exact nm z h
            · rw [List.mem_singleton.mp h]
              exact ny
    · rintro σ H4 ⟨⟨y6, y7, y10, rfl⟩, hO4, hD4, ⟨zs, hF4, zl, nd, nm⟩, b4, pool4⟩
      exact ⟨_, rfl, q H4 aF zs b4 pool4 fF hF4 (by omega) nd nm⟩
end
end WdQ



set_option Elab.async false
set_option linter.all false
set_option maxRecDepth 100000
set_option maxHeartbeats 4000000
set_option exponentiation.threshold 5000
namespace WdQ
open PySem PySem.Spec PyProof.Rows L2 WdM Wd
abbrev sPeople : Stmt := topS 73
def nPeople : List Str := ["_law_pool_here", "_law_many", "_law_folk", "_law_found", "_law_k", "_law_at"]
theorem scPeople : FnScope nPeople ["_law_pool_here", "_law_many"] (defScope sPeople) := ⟨rfl, rfl, rfl, by decide +kernel, rfl, by decide +kernel, by decide +kernel⟩
section
variable {P : Program} {w : World} {K : PySem.W.Frag} {mg : Str → Option Value} {base : Heap}
theorem rows_snoc {α : Type} {f : α → List V} {H : Hp} {xs : List V} {rows : List α} {b : Addr} {r0 : α} (l : xs.length = rows.length) (h : ∀ (i : Nat) (x : V), xs[i]? = some x → ∃ (a : Addr) (r : α), x = .ref a ∧ rows[i]? = some r ∧ SqT K H a (f r)) (hb : SqT K H b (f r0)) :
    ∀ (i : Nat) (x : V), (xs ++ [V.ref b])[i]? = some x → ∃ (a : Addr) (r : α), x = .ref a ∧ (rows ++ [r0])[i]? = some r ∧ SqT K H a (f r) := by
  intro i x hx
  by_cases hi : i < xs.length
  · rw [List.getElem?_append_left hi] at hx
    obtain ⟨a, r, e1, e2, e3⟩ := h i x hx
    exact ⟨a, r, e1, by rw [List.getElem?_append_left (by omega)]; exact e2, e3⟩
  · have hi2 : i = xs.length := by
      have := lt_get hx
      rw [List.length_append] at this
      simp only [List.length_cons, List.length_nil] at this
      omega
    subst hi2
    rw [List.getElem?_append_right (Nat.le_refl _), Nat.sub_self] at hx
    cases hx
    exact ⟨b, r0, rfl, by rw [l, List.getElem?_append_right (Nat.le_refl _), Nat.sub_self]; rfl, hb⟩
theorem rows_tk {α : Type} {f : α → List V} {H H' : Hp} {xs : List V} {rows : List α} (e : Tk H H') (h : ∀ (i : Nat) (x : V), xs[i]? = some x → ∃ (a : Addr) (r : α), x = .ref a ∧ rows[i]? = some r ∧ SqT K H a (f r)) :
    ∀ (i : Nat) (x : V), xs[i]? = some x → ∃ (a : Addr) (r : α), x = .ref a ∧ rows[i]? = some r ∧ SqT K H' a (f r) := fun i x hx => by
  obtain ⟨a, r, e1, e2, e3⟩ := h i x hx
  exact ⟨a, r, e1, e2, e.sq e3⟩
def rowF (r : Str × Option Str) : List V := [.str r.1, parV r.2]
def spPeople (K : PySem.W.Frag) : Sp := fun vs H Q _ => ∃ (l : Addr) (m : Nat), vs = [.ref l, .int (m : Nat)] ∧ PoolAt H l ∧ 1 ≤ m ∧ m ≤ 8 ∧ ∀ (H' : Hp) (p : Addr) (rows : List (Str × Option Str)), Bt [l] H H' → PoolAt H' l → FolkAt K H' (.ref p) rows → GoodF rows → rows.length = m → Q (.ref p) H'
theorem ok_people {f fT fW : Addr} {fd fdT fdW : FuncData} {k : Nat} (B : Bi mg) (D : Df K mg "_law_people" sPeople f fd ["_law_pool_here", "_law_many"]) (DT : Df K mg "_law_take" sTake fT fdT ["_law_pool_here", "_law_many"]) (DW : Df K mg "_law_words" sWords fW fdW ["_law_pool_here", "_law_many"])
    (GT : FnOk P w K mg base CX0 (k + 1) fT fdT ["_law_pool_here", "_law_many"] spTake) (GW : FnOk P w K mg base CX0 (k + 2) fW fdW ["_law_pool_here", "_law_many"] spWords) : FnOk P w K mg base CX0 (k + 3) f fd ["_law_pool_here", "_law_many"] (spPeople K) := by
  refine D.fn.ok scPeople (fun vs H Q E h => ?_) (fun cdv A outer s H vs Q E hr h => ?_)
  · obtain ⟨l, m, rfl, _⟩ := h
    rfl
  · obtain ⟨l, m, rfl, pool, m1, m8, q⟩ := h
    have r1 : Room (k + 1) _ := hr.mono (by omega)
    refine ⟨_, pss_cons (ps_par (i := 2) (j := 3) rfl scPeople.nd rfl rfl (by decide) rfl rfl (pa_cons (pe_call GW hr (by rfl) DW.mg DW.fn.kp DW.bd .nil pass0 (pa_cons (pv 0) (pa_cons (pv 1) pa_nil))) (pa_cons (pe_lst pa_nil) pa_nil)) (by rfl))
      (pss_cons (ps_for PassesOwn.never rfl (pi_range1 (by rfl) B.range (pa_cons (pv 1) pa_nil)) (pg_name (i := 4) scPeople.nd rfl (.inl rfl))
        (pss_cons (ps_set (i := 5) scPeople.nd rfl (.inl rfl) (pe_call GT r1 (by rfl) DT.mg DT.fn.kp DT.bd .nil pass0 (pa_cons (pv 0) (pa_cons (pe_op op_add (pv 4) pe_int) pa_nil))))
        (pss_one (ps_expr (pe_bm PySem.F.plainAttrs_list PySem.F.slot_list_append PySem.F.type_list_append mt_append (pv 3) (pa_cons (pe_tup (pa_cons (pe_ix (r := rIxL K) ix_list (pv 2) (pv 4) (fun _ _ => rfl)) (pa_cons (pe_ifExp (pt_cmpR op_ge (pv 5) (pv 4) (nomark _)) pe_non (pe_ix (r := rIxL K) ix_list (pv 2) (pv 5) (fun _ _ => rfl))) pa_nil))) pa_nil))))))
      (pss_one (ps_ret (pe_callTy call_tuple_of (by rfl) B.tuple boot_tuple (pa_cons (pv 3) pa_nil))))), ?_⟩
    refine ⟨_, rfl, _, rfl, l, m, rfl, pool, by omega, fun H1 aW zs b1 pool1 nW hW zl nd nm => ?_⟩
    refine ⟨by show 0 ≤ sizeLine; decide, fun aF nF => ⟨_, _, rfl, ?_⟩⟩
    have nlF : l ≠ aF := pool1.ne nF
    have nWF : aW ≠ aF := ne_of_none hW nF
    have nlW : aW ≠ l := fun e => pool.ne nW e.symm
    have fF : H aF = none := by
      cases e : H aF with
      | none => rfl
      | some o =>
        have := b1 aF o (by simp [nlF.symm]) e
        rw [nF] at this
        cases this
    refine ⟨_, rfl, (m : Int), rfl, by omega, by omega, for_range (lo := 0) (n := ((m : Nat) : Int).toNat) (fun i σ H' => (∃ y4 y5 : Option V, σ = [some (.ref l), some (.int (m : Nat)), some (.ref aW), some (.ref aF), y4, y5]) ∧ H' aW = some (.lst (zs.map V.str)) ∧ (∃ (xs : List V) (rows : List (Str × Option Str)), H' aF = some (.lst xs) ∧ xs.length = i ∧ rows.length = i ∧ rows.map Prod.fst = zs.take i ∧ (∀ (j : Nat) (x : V), xs[j]? = some x → ∃ (a : Addr) (r : Str × Option Str), x = .ref a ∧ rows[j]? = some r ∧ SqT K H' a (rowF r)) ∧ (∀ (j : Nat) (r : Str × Option Str) (y : Str), rows[j]? = some r → r.2 = some y → y ∈ zs.take j)) ∧ Bt [l] H H' ∧ PoolAt H' l)
      ⟨⟨none, none, rfl⟩, ?_, ⟨[], [], upd_same, rfl, rfl, rfl, (fun j x hx => nomatch hx), (fun j r y hr => nomatch hr)⟩, b1.new nF, pool1.upd nlF⟩ ?_ ?_⟩
    · rw [upd_ne nWF]
      exact hW
    · rintro i σ H4 hi ⟨⟨y4, y5, rfl⟩, hW4, ⟨xs, rows, hF4, xl, rl, rz, hx, pr⟩, b4, pool4⟩
      refine ⟨_, rfl, _, rfl, _, 2, rfl, rfl, l, _, rfl, pool4, by omega, fun H5 d b5 pool5 d0 d1 => ?_⟩
      have hW5 := kept b5 hW4 (by simp [nlW])
      have hF5 := kept b5 hF4 (by simp [nlF.symm])
      have tk5 : Tk H4 H5 := b5.tk pool4.lst
      obtain ⟨z, hz⟩ : ∃ z, zs[i]? = some z := ⟨zs[i], List.getElem?_eq_getElem (by omega)⟩
      have hzV : (zs.map V.str)[i]? = some (.str z) := by rw [List.getElem?_map, hz]; rfl
      have add : ∀ (o : Option Str), (∀ y, o = some y → y ∈ zs.take i) → ∀ tp, H5 tp = none → ∃ (l_1 : Addr) (xs_1 : List V) (y : V), V.ref aF = V.ref l_1 ∧ [V.ref tp] = [y] ∧ (upd H5 tp (.tup [.str z, parV o])) l_1 = some (.lst xs_1) ∧ xs_1.length < sizeLine ∧ ((∃ y4 y5 : Option V, [some (V.ref l), some (V.int (m : Nat)), some (.ref aW), some (.ref aF), some (V.int (0 + (i : Nat))), some (V.int d)] = [some (.ref l), some (.int (m : Nat)), some (.ref aW), some (.ref aF), y4, y5]) ∧ (upd (upd H5 tp (.tup [.str z, parV o])) l_1 (.lst (xs_1 ++ [y]))) aW = some (.lst (zs.map V.str)) ∧ (∃ (xs : List V) (rows : List (Str × Option Str)), (upd (upd H5 tp (.tup [.str z, parV o])) l_1 (.lst (xs_1 ++ [y]))) aF = some (.lst xs) ∧ xs.length = i + 1 ∧ rows.length = i + 1 ∧ rows.map Prod.fst = zs.take (i + 1) ∧ (∀ (j : Nat) (x : V), xs[j]? = some x → ∃ (a : Addr) (r : Str × Option Str), x = .ref a ∧ rows[j]? = some r ∧ SqT K (upd (upd H5 tp (.tup [.str z, parV o])) l_1 (.lst (xs_1 ++ [y]))) a (rowF r)) ∧ (∀ (j : Nat) (r : Str × Option Str) (y : Str), rows[j]? = some r → r.2 = some y → y ∈ zs.take j)) ∧ Bt [l] H (upd (upd H5 tp (.tup [.str z, parV o])) l_1 (.lst (xs_1 ++ [y]))) ∧ PoolAt (upd (upd H5 tp (.tup [.str z, parV o])) l_1 (.lst (xs_1 ++ [y]))) l) := by
        intro o ho tp ntp
        have nlt : l ≠ tp := pool5.ne ntp
        have hF6 : (upd H5 tp (.tup [.str z, parV o])) aF = some (.lst xs) := by rw [upd_ne (ne_of_none hF5 ntp)]; exact hF5
        have hW6 : (upd H5 tp (.tup [.str z, parV o])) aW = some (.lst (zs.map V.str)) := by rw [upd_ne (ne_of_none hW5 ntp)]; exact hW5
        have tk6 : Tk H4 (upd H5 tp (.tup [.str z, parV o])) := tk5.trans (tk_new ntp)
        have sN : SqT K (upd H5 tp (.tup [.str z, parV o])) tp (rowF (z, o)) := sqT upd_same
        have b6 : Bt [l] H (upd H5 tp (.tup [.str z, parV o])) := (b4.trans b5).new ntp
        have pool6 := pool5.upd (o := .tup [.str z, parV o]) nlt
        revert hF6 hW6 tk6 sN b6 pool6
        generalize upd H5 tp (.tup [.str z, parV o]) = H6
        intro hF6 hW6 tk6 sN b6 pool6
        have tk7 : Tk H6 (upd H6 aF (.lst (xs ++ [.ref tp]))) := tk_lst hF6
        refine ⟨aF, xs, .ref tp, rfl, rfl, hF6, by rw [xl]; exact Nat.lt_of_lt_of_le (show i < 8 by omega) (by decide), ⟨_, _, rfl⟩, ?_, ⟨xs ++ [.ref tp], rows ++ [(z, o)], upd_same, ?_, ?_, ?_, ?_, ?_⟩, b6.upd0 fF, pool6.upd nlF⟩
        · rw [upd_ne nWF]
          exact hW6
        · rw [List.length_append, xl]
          rfl
        · rw [List.length_append, rl]
          rfl
        · rw [List.map_append, rz, take_more hz]
          rfl
        · exact rows_tk tk7 (rows_snoc (f := rowF) (by omega) (rows_tk tk6 hx) sN)
        · intro j r y hr e
          by_cases hj : j < rows.length
          · rw [List.getElem?_append_left hj] at hr
            exact pr j r y hr e
          · have hj2 : j = rows.length := by
              have := lt_get hr
              rw [List.length_append] at this
              simp only [List.length_cons, List.length_nil] at this
              omega
            subst hj2
            rw [List.getElem?_append_right (Nat.le_refl _), Nat.sub_self] at hr
            cases hr
            rw [rl]
            exact ho y e
      have hat : atI (zs.map V.str) (0 + (i : Nat)) = some (.str z) := by
        rw [Int.zero_add]
        exact atI_nat hzV
      refine ⟨_, rfl, .inl ⟨rfl, _, sqL hF5⟩, _, rfl, _, rfl, aW, _, _, .str z, rfl, rfl, sqL hW5, hat, ?_⟩
      refine ⟨_, rfl, _, rfl, d, _, rfl, rfl, _, rfl, ?_⟩
      by_cases dc : (0 : Int) + (i : Nat) ≤ d
      · rw [decide_eq_true dc]
        exact iteT ⟨by show 2 ≤ sizeLine; decide, fun tp ntp => add none (fun y e => nomatch e) tp ntp⟩
      · rw [decide_eq_false dc]
        obtain ⟨n, rfl⟩ := Int.eq_ofNat_of_zero_le d0
        have nl : n < zs.length := by omega
        have hy : zs[n]? = some zs[n] := List.getElem?_eq_getElem nl
        have hyV : (zs.map V.str)[n]? = some (.str zs[n]) := by rw [List.getElem?_map, hy]; rfl
        refine iteF ⟨_, rfl, _, rfl, aW, _, _, .str zs[n], rfl, rfl, sqL hW5, atI_nat hyV, by show 2 ≤ sizeLine; decide, fun tp ntp => add (some zs[n]) (fun y e => ?_) tp ntp⟩
        cases e
        exact List.mem_of_getElem? (i := n) (by rw [List.getElem?_take_of_lt (by omega)]; exact hy)
    · rintro σ H4 ⟨⟨y4, y5, rfl⟩, hW4, ⟨xs, rows, hF4, xl, rl, rz, hx, pr⟩, b4, pool4⟩
      have rm : rows.length = m := by omega
      have rz2 : rows.map Prod.fst = zs := by rw [rz]; exact List.take_of_length_le (by omega)
      refine ⟨_, rfl, aF, xs, rfl, .inl ⟨sqL hF4, fun tp ntp => q _ _ rows (b4.new ntp) (pool4.upd (pool4.ne ntp)) ⟨tp, xs, rfl, sqT upd_same, by omega, rows_tk (tk_new ntp) hx⟩ ⟨by omega, by omega, rz2 ▸ nd, fun r hr => nm r.1 (rz2 ▸ List.mem_map_of_mem hr), fun j r y hr e => ?_⟩ rm⟩⟩
      have := pr j r y hr e
      rw [List.map_take, rz2]
      exact this
end
end WdQ

set_option Elab.async false
set_option linter.all false
set_option maxRecDepth 100000
set_option maxHeartbeats 4000000
set_option exponentiation.threshold 5000
namespace WdQ
open PySem PySem.Spec PyProof.Rows L2 WdM Wd
abbrev sDeaths : Stmt := topS 74
def nDeaths : List Str := ["_law_pool_here", "_law_folk", "_law_days", "_law_found", "_law_one", "_law_near", "_law_at"]
theorem scDeaths : FnScope nDeaths ["_law_pool_here", "_law_folk", "_law_days"] (defScope sDeaths) := ⟨rfl, rfl, rfl, by decide +kernel, rfl, by decide +kernel, by decide +kernel⟩
section
variable {P : Program} {w : World} {K : PySem.W.Frag} {mg : Str → Option Value} {base : Heap}
def rowD (r : Str × Int) : List V := [.str r.1, .int r.2]
def spDeaths (K : PySem.W.Frag) : Sp := fun vs H Q _ => ∃ (l aN aD : Addr) (zs : List Str) (ds : List Int), vs = [.ref l, .ref aN, .ref aD] ∧ PoolAt H l ∧ H aN = some (.lst (zs.map V.str)) ∧ H aD = some (.lst (ds.map V.int)) ∧ aD ≠ l ∧ zs.Nodup ∧ (∀ z ∈ zs, Nm z) ∧ zs.length ≤ 8 ∧ 1 ≤ ds.length ∧ ds.length ≤ 100 ∧
  ∀ (H' : Hp) (p : Addr) (rows : List (Str × Int)), Bt [l] H H' → PoolAt H' l → DeathsAt K H' (.ref p) rows → GoodD rows → Q (.ref p) H'
theorem ok_deaths {f fT : Addr} {fd fdT : FuncData} {k : Nat} (B : Bi mg) (nS : mg "sorted" = none) (D : Df K mg "_law_deaths" sDeaths f fd ["_law_pool_here", "_law_folk", "_law_days"]) (DT : Df K mg "_law_take" sTake fT fdT ["_law_pool_here", "_law_many"])
    (GT : FnOk P w K mg base CX0 (k + 1) fT fdT ["_law_pool_here", "_law_many"] spTake) : FnOk P w K mg base CX0 (k + 2) f fd ["_law_pool_here", "_law_folk", "_law_days"] (spDeaths K) := by
  refine D.fn.ok scDeaths (fun vs H Q E h => ?_) (fun cdv A outer s H vs Q E hr h => ?_)
  · obtain ⟨l, aN, aD, zs, ds, rfl, _⟩ := h
    rfl
  · obtain ⟨l, aN, aD, zs, ds, rfl, pool, hN, hD, nDl, nd, nm, z8, d1, d100, q⟩ := h
    refine ⟨_, pss_cons (ps_set (i := 3) scDeaths.nd rfl (.inl rfl) (pe_lst pa_nil))
      (pss_cons (ps_for PassesOwn.never rfl (pi_list (pe_callB cr_sortedS (by rfl) nS (by decide +kernel) (pa_cons (pv 1) pa_nil))) (pg_name (i := 4) scDeaths.nd rfl (.inl rfl))
        (pss_cons (ps_set (i := 5) scDeaths.nd rfl (.inl rfl) (pe_op op_sub (pe_op op_add (pe_ix (r := rIxL K) ix_list (pv 2) (pe_call GT hr (by rfl) DT.mg DT.fn.kp DT.bd .nil pass0 (pa_cons (pv 0) (pa_cons (pe_callB call_len_seq (by rfl) B.len PySem.boot_len (pa_cons (pv 2) pa_nil)) pa_nil))) (fun _ _ => rfl)) (pe_call GT hr (by rfl) DT.mg DT.fn.kp DT.bd .nil pass0 (pa_cons (pv 0) (pa_cons pe_int pa_nil)))) pe_int))
        (pss_cons (ps_set (i := 6) scDeaths.nd rfl (.inl rfl) (pe_ix (r := rIxL K) ix_list (pe_lst (pa_cons (pv 5) (pa_cons (pv 5) (pa_cons (pe_op op_sub (pe_call GT hr (by rfl) DT.mg DT.fn.kp DT.bd .nil pass0 (pa_cons (pv 0) (pa_cons pe_int pa_nil))) pe_int) pa_nil)))) (pe_call GT hr (by rfl) DT.mg DT.fn.kp DT.bd .nil pass0 (pa_cons (pv 0) (pa_cons pe_int pa_nil))) (fun _ _ => rfl)))
        (pss_one (ps_if (pt_cmpR op_gt (pe_call GT hr (by rfl) DT.mg DT.fn.kp DT.bd .nil pass0 (pa_cons (pv 0) (pa_cons pe_int pa_nil))) pe_int (nomark _))
          (pss_one (ps_expr (pe_bm PySem.F.plainAttrs_list PySem.F.slot_list_append PySem.F.type_list_append mt_append (pv 3) (pa_cons (pe_tup (pa_cons (pv 4) (pa_cons (pe_callB (call_max2 rfl) (by rfl) B.max (by decide +kernel) (pa_cons (pe_op op_sub pe_int pe_int) (pa_cons (pe_callB (call_min2 rfl) (by rfl) B.min (by decide +kernel) (pa_cons pe_int (pa_cons (pv 6) pa_nil))) pa_nil))) pa_nil))) pa_nil)))) pss_nil)))))
      (pss_one (ps_ret (pe_callTy call_tuple_of (by rfl) B.tuple boot_tuple (pa_cons (pv 3) pa_nil))))), ?_⟩
    refine ⟨by show 0 ≤ sizeLine; decide, fun aF nF => ?_⟩
    have hN1 : (upd H aF (.lst [])) aN = some (.lst (zs.map V.str)) := by rw [upd_ne (ne_of_none hN nF)]; exact hN
    refine ⟨_, rfl, aN, zs, rfl, sqL hN1, by omega, fun ys p perm srt np => ?_⟩
    have ny : ys.Nodup := perm.nodup_iff.mpr nd
    have pw := sorted_pw srt ny
    have y8 : ys.length ≤ 8 := by rw [perm.length_eq]; exact z8
    have nmy : ∀ z ∈ ys, Nm z := fun z hz => nm z (perm.mem_iff.mp hz)
    have npF : aF ≠ p := ne_of_none upd_same np
    have nFl : aF ≠ l := fun e => pool.ne nF e.symm
    have s1 : Same H (upd (upd H aF (.lst [])) p (.lst (ys.map V.str))) := (same_new nF).trans (same_new np)
    have hp2 : (upd (upd H aF (.lst [])) p (.lst (ys.map V.str))) p = some (.lst (ys.map V.str)) := upd_same
    have hF2 : (upd (upd H aF (.lst [])) p (.lst (ys.map V.str))) aF = some (.lst []) := by rw [upd_ne npF]; exact upd_same
    have npl : p ≠ l := fun e => by
      have := (pool.same (same_new nF)).ne np
      exact this e.symm
    revert s1 hp2 hF2
    generalize upd (upd H aF (.lst [])) p (.lst (ys.map V.str)) = H2
    intro s1 hp2 hF2
    have pool2 := pool.same s1
    have hD2 := s1 _ _ hD
    refine ⟨p, rfl, ⟨_, sqL hp2⟩, for_list (K := K) (a := p) (xs := ys.map V.str) (fun i σ H' => (∃ y4 y5 y6 : Option V, σ = [some (.ref l), some (.ref aN), some (.ref aD), some (.ref aF), y4, y5, y6]) ∧ H' aD = some (.lst (ds.map V.int)) ∧ H' p = some (.lst (ys.map V.str)) ∧ (∃ (xs : List V) (rows : List (Str × Int)), H' aF = some (.lst xs) ∧ xs.length = rows.length ∧ (rows.map Prod.fst).Sublist (ys.take i) ∧ (∀ r ∈ rows, -9999 ≤ r.2 ∧ r.2 ≤ 9999) ∧ (∀ (j : Nat) (x : V), xs[j]? = some x → ∃ (a : Addr) (r : Str × Int), x = .ref a ∧ rows[j]? = some r ∧ SqT K H' a (rowD r))) ∧ Bt [l] H H' ∧ PoolAt H' l)
      ⟨⟨none, none, none, rfl⟩, hD2, hp2, ⟨[], [], hF2, rfl, List.Sublist.refl _, (fun r hr => nomatch hr), (fun j x hx => nomatch hx)⟩, Bt.of_same s1, pool2⟩ (fun i σ H' _ h => sqL h.2.2.1) ?_ ?_⟩
    · rintro i x σ H4 hx ⟨⟨y4, y5, y6, rfl⟩, hD4, hp4, ⟨xs, rows, hF4, xl, sub, dy, hrow⟩, b4, pool4⟩
      obtain ⟨z, hz, rfl⟩ : ∃ z, ys[i]? = some z ∧ x = .str z := by
        rw [List.getElem?_map] at hx
        cases hc : ys[i]? with
        | none => rw [hc] at hx; cases hx
        | some y => rw [hc] at hx; cases hx; exact ⟨y, rfl, rfl⟩
      have r8 : rows.length ≤ 8 := by
        have := sub.length_le
        rw [List.length_map, List.length_take] at this
        omega
      refine ⟨_, rfl, _, rfl, _, rfl, aD, _, rfl, .inl (sqL hD4), l, _, rfl, pool4, by rw [List.length_map]; omega, fun H5 d5 b5 pool5 d50 d51 => ?_⟩
      rw [List.length_map] at d51
      obtain ⟨v5, e5, i5, rfl⟩ := at_of (P := fun v => ∃ i, v = .int i) (xs := ds.map V.int) (d := d5) (fun x hx => by
        obtain ⟨z, hz, rfl⟩ := List.mem_map.mp hx
        exact ⟨z, rfl⟩) d50 (by rw [List.length_map]; exact d51)
      have hD5 := kept b5 hD4 (by simp [nDl])
      refine ⟨aD, _, d5, _, rfl, rfl, sqL hD5, e5, ?_⟩
      refine ⟨_, rfl, l, 3, rfl, pool5, by decide, fun H6 d6 b6 pool6 d60 d61 => ⟨i5, d6, rfl, rfl, _, 1, rfl, rfl, ?_⟩⟩
      refine ⟨_, rfl, _, rfl, _, rfl, l, 19999, rfl, pool6, by decide, fun H7 d7 b7 pool7 d70 d71 => ⟨d7, 9999, rfl, rfl, by show 3 ≤ sizeLine; decide, fun pL nL => ?_⟩⟩
      have nlL : l ≠ pL := pool7.ne nL
      refine ⟨_, rfl, l, 3, rfl, pool7.upd nlL, by decide, fun H8 d8 b8 pool8 d80 d81 => ?_⟩
      obtain ⟨v8, e8, i8, rfl⟩ := at_of (P := fun v => ∃ i, v = .int i) (xs := [.int (i5 + d6 - 1), .int (i5 + d6 - 1), .int (d7 - 9999)]) (d := d8) (fun x hx => by
        simp only [List.mem_cons, List.not_mem_nil, or_false] at hx
        rcases hx with rfl | rfl | rfl <;> exact ⟨_, rfl⟩) d80 (by show d8 < 3; omega)
      refine ⟨pL, _, d8, _, rfl, rfl, sqL (kept b8 upd_same (by simp [nlL.symm])), e8, ?_⟩
      have b48 : Bt [l] H4 H8 := ((b5.trans (b6.trans b7)).new nL).trans b8
      refine ⟨_, rfl, l, 3, rfl, pool8, by decide, fun H9 d9 b9 pool9 d90 d91 => ⟨d9, 0, rfl, rfl, _, rfl, ?_⟩⟩
      have b49 := b48.trans b9
      have tk9 : Tk H4 H9 := b49.tk pool4.lst
      have hD9 := kept b49 hD4 (by simp [nDl])
      have hp9 := kept b49 hp4 (by simp [npl])
      have hF9 := kept b49 hF4 (by simp [nFl])
      have more : (ys.take i).Sublist (ys.take (i + 1)) := by
        rw [take_more hz]
        exact List.sublist_append_left _ _
      by_cases dp : (0 : Int) < d9
      rotate_left
      · rw [decide_eq_false dp]
        exact iteF ⟨⟨_, _, _, rfl⟩, hD9, hp9, ⟨xs, rows, hF9, xl, sub.trans more, dy, rows_tk tk9 hrow⟩, b4.trans b49, pool9⟩
      rw [decide_eq_true dp]
      refine iteT ⟨_, rfl, .inl ⟨rfl, _, sqL hF9⟩, _, rfl, 0, 9999, rfl, rfl, _, rfl, 9999, i8, rfl, 0 - 9999, _, rfl, by show 2 ≤ sizeLine; decide, fun tp ntp => ?_⟩
      have dd : ∃ e : Int, (if (if i8 < 9999 then i8 else 9999) > 0 - 9999 then (if i8 < 9999 then i8 else 9999) else 0 - 9999) = e ∧ -9999 ≤ e ∧ e ≤ 9999 := ⟨_, rfl, by split <;> split at * <;> omega, by split <;> split at * <;> omega⟩
      obtain ⟨e, ee, e0, e1⟩ := dd
      rw [ee]
      have nlt : l ≠ tp := pool9.ne ntp
      have hF6 : (upd H9 tp (.tup [.str z, .int e])) aF = some (.lst xs) := by rw [upd_ne (ne_of_none hF9 ntp)]; exact hF9
      have hD6 : (upd H9 tp (.tup [.str z, .int e])) aD = some (.lst (ds.map V.int)) := by rw [upd_ne (ne_of_none hD9 ntp)]; exact hD9
      have hp6 : (upd H9 tp (.tup [.str z, .int e])) p = some (.lst (ys.map V.str)) := by rw [upd_ne (ne_of_none hp9 ntp)]; exact hp9
      have tk6 : Tk H4 (upd H9 tp (.tup [.str z, .int e])) := tk9.trans (tk_new ntp)
      have sN : SqT K (upd H9 tp (.tup [.str z, .int e])) tp (rowD (z, e)) := sqT upd_same
      have bb : Bt [l] H (upd H9 tp (.tup [.str z, .int e])) := (b4.trans b49).new ntp
      have pool10 := pool9.upd (o := .tup [.str z, .int e]) nlt
      revert hF6 hD6 hp6 tk6 sN bb pool10
      generalize upd H9 tp (.tup [.str z, .int e]) = H10
      intro hF6 hD6 hp6 tk6 sN bb pool10
      have tk7 : Tk H10 (upd H10 aF (.lst (xs ++ [.ref tp]))) := tk_lst hF6
      refine ⟨aF, xs, .ref tp, rfl, rfl, hF6, by rw [xl]; exact Nat.lt_of_lt_of_le (show rows.length < 9 by omega) (by decide), ⟨_, _, _, rfl⟩, ?_, ?_, ⟨xs ++ [.ref tp], rows ++ [(z, e)], upd_same, ?_, ?_, ?_, ?_⟩, bb.upd0 nF, pool10.upd nFl.symm⟩
      · rw [upd_ne (ne_of_none hD nF)]
        exact hD6
      · rw [upd_ne npF.symm]
        exact hp6
      · rw [List.length_append, List.length_append, xl]
        rfl
      · rw [List.map_append, take_more hz]
        exact List.Sublist.append sub (List.Sublist.refl _)
      · intro r hr
        rcases List.mem_append.mp hr with h | h
        · exact dy r h
        · rw [List.mem_singleton.mp h]
          exact ⟨e0, e1⟩
      · exact rows_tk tk7 (rows_snoc (f := rowD) xl (rows_tk tk6 hrow) sN)
    · rintro σ H4 ⟨⟨y4, y5, y6, rfl⟩, hD4, hp4, ⟨xs, rows, hF4, xl, sub, dy, hrow⟩, b4, pool4⟩
      have sub : (rows.map Prod.fst).Sublist ys := sub.trans (List.take_sublist _ _)
      have r8 : rows.length ≤ 8 := by
        have := sub.length_le
        rw [List.length_map] at this
        omega
      refine ⟨_, rfl, aF, xs, rfl, .inl ⟨sqL hF4, fun tp ntp => q _ _ rows (b4.new ntp) (pool4.upd (pool4.ne ntp)) ⟨tp, xs, rfl, sqT upd_same, xl, rows_tk (tk_new ntp) hrow⟩ ⟨r8, fun r hr => ?_, dy, fun j r s h1 h2 => ?_⟩⟩⟩
      · have := nmy r.1 (sub.subset (List.mem_map_of_mem hr))
        exact ⟨this.name, by have := this.1.2.2; omega⟩
      · exact pw_next (pw.sublist sub) (by rw [List.getElem?_map, h1]; rfl) (by rw [List.getElem?_map, h2]; rfl)
end
end WdQ

set_option Elab.async false
set_option linter.all false
set_option maxRecDepth 100000
set_option maxHeartbeats 4000000
set_option exponentiation.threshold 5000
namespace WdQ
open PySem PySem.Spec PyProof.Rows L2 WdM Wd
abbrev sLc : Stmt := topS 75
def nLc : List Str := ["_law_pool_here", "_law_folk", "_law_days", "_law_deep_here", "_law_way", "_law_one", "_law_some", "_law_found", "_law_turn"]
theorem scLc : FnScope nLc ["_law_pool_here", "_law_folk", "_law_days", "_law_deep_here"] (defScope sLc) := ⟨rfl, rfl, rfl, by decide +kernel, rfl, by decide +kernel, by decide +kernel⟩
def rowW : List V := [.str "and", .str "or"]
def tens4 : List V := [.int 0, .int 0, .int 1, .int 4]
section
variable {P : Program} {w : World} {K : PySem.W.Frag} {mg : Str → Option Value} {base : Heap}
def tLeafs (K : PySem.W.Frag) (zs : List Str) : TS := fun D σ H => ∃ (l aD : Addr) (y1 y3 y4 : Option V) (z : Str) (ds : List Int), σ = [some (.ref l), y1, some (.ref aD), y3, y4, some (.str z), none, none, none] ∧ PoolAt H l ∧ H aD = some (.lst (ds.map V.int)) ∧ aD ≠ l ∧ nmB z = true ∧ z ∈ zs ∧ (∀ i ∈ ds, -9999 ≤ i ∧ i ≤ 9999) ∧ 1 ≤ ds.length ∧ ∀ (H' : Hp) (v : V), Bt [l] H H' → PoolAt H' l → Cg K zs 1 H' v → D.rt v H'
theorem row_is : ∀ v ∈ rowW, ∃ b, v = .str (rowS b) := by
  intro v hv
  simp only [rowW, List.mem_cons, List.not_mem_nil, or_false] at hv
  rcases hv with rfl | rfl
  · exact ⟨true, rfl⟩
  · exact ⟨false, rfl⟩
def spLc (K : PySem.W.Frag) (n : Nat) : Sp := fun vs H Q _ => ∃ (l aN aD : Addr) (m : Nat) (zs : List Str) (ds : List Int), vs = [.ref l, .ref aN, .ref aD, .int (m : Nat)] ∧ 1 ≤ m ∧ m ≤ n ∧ PoolAt H l ∧ H aN = some (.lst (zs.map V.str)) ∧ H aD = some (.lst (ds.map V.int)) ∧ aN ≠ l ∧ aD ≠ l ∧ (∀ z ∈ zs, nmB z = true) ∧ (∀ i ∈ ds, -9999 ≤ i ∧ i ≤ 9999) ∧ 1 ≤ zs.length ∧ 1 ≤ ds.length ∧
  ∀ (H' : Hp) (v : V), Bt [l] H H' → PoolAt H' l → Cg K zs m H' v → Q v H'
theorem lc_step {f fT : Addr} {fd fdT : FuncData} {k n : Nat} (B : Bi mg) (D : Df K mg "_law_cond" sLc f fd ["_law_pool_here", "_law_folk", "_law_days", "_law_deep_here"]) (DT : Df K mg "_law_take" sTake fT fdT ["_law_pool_here", "_law_many"])
    (GT : FnOk P w K mg base CX0 (k + 1) fT fdT ["_law_pool_here", "_law_many"] spTake) (GB : FnOk P w K mg base CX0 (k + 1 + n) f fd ["_law_pool_here", "_law_folk", "_law_days", "_law_deep_here"] (spLc K n)) : FnOk P w K mg base CX0 (k + 2 + n) f fd ["_law_pool_here", "_law_folk", "_law_days", "_law_deep_here"] (spLc K (n + 1)) := by
  have e : k + 2 + n = (k + 1 + n) + 1 := by omega
  rw [e]
  refine D.fn.ok scLc (fun vs H Q E h => ?_) (fun cdv A outer s H vs Q E hr h => ?_)
  · obtain ⟨l, aN, aD, m, zs, ds, rfl, _⟩ := h
    rfl
  · obtain ⟨l, aN, aD, m, zs, ds, rfl, m1, mn, pool, hN, hD, nN, nD, oz, od, z1, d1, q⟩ := h
    have r1 : Room (k + 1) _ := hr.mono (by omega)
    refine ⟨_, pss_cons (ps_set (i := 4) scLc.nd rfl (.inl rfl) (pe_call GT r1 (by rfl) DT.mg DT.fn.kp DT.bd .nil pass0 (pa_cons (pv 0) (pa_cons pe_int pa_nil))))
      (pss_cons (ps_set (i := 5) scLc.nd rfl (.inl rfl) (pe_ix (r := rIxL K) ix_list (pv 1) (pe_call GT r1 (by rfl) DT.mg DT.fn.kp DT.bd .nil pass0 (pa_cons (pv 0) (pa_cons (pe_callB call_len_seq (by rfl) B.len PySem.boot_len (pa_cons (pv 1) pa_nil)) pa_nil))) (fun _ _ => rfl)))
      (pss_cons (ps_if (PW.pt (pw_or (pt_cmpR op_lt (pv 4) pe_int (nomark _)) (pw_or1 (pt_cmpR op_eq (pv 3) pe_int (nomark _)))))
        (PSs.wk (t' := tLeafs K zs) (pss_cons (ps_set (i := 6) scLc.nd rfl (.inl rfl) (pe_lst (pa_cons (pe_tup (pa_cons pe_str (pa_cons (pv 5) pa_nil))) (pa_cons (pe_tup (pa_cons pe_str (pa_cons (pv 5) (pa_cons (pe_ix (r := rIxL K) ix_list (pv 2) (pe_call GT r1 (by rfl) DT.mg DT.fn.kp DT.bd .nil pass0 (pa_cons (pv 0) (pa_cons (pe_callB call_len_seq (by rfl) B.len PySem.boot_len (pa_cons (pv 2) pa_nil)) pa_nil))) (fun _ _ => rfl)) pa_nil)))) (pa_cons (pe_tup (pa_cons pe_str (pa_cons (pv 5) pa_nil))) pa_nil)))))
        (pss_one (ps_ret (pe_ix (r := rIxL K) ix_list (pv 6) (pe_call GT r1 (by rfl) DT.mg DT.fn.kp DT.bd .nil pass0 (pa_cons (pv 0) (pa_cons pe_int pa_nil))) (fun _ _ => rfl))))) (by
          rintro D σ H ⟨l, aD, y1, y3, y4, z, ds, rfl, pool, hD, nD, oz, iz, od, d1, q⟩
          refine ⟨_, rfl, by show 2 ≤ sizeLine; decide, fun t1 n1 => ?_⟩
          have pool1 := pool.upd (o := .tup [.str "lives", .str z]) (pool.ne n1)
          have hD1 : (upd H t1 (.tup [.str "lives", .str z])) aD = some (.lst (ds.map V.int)) := by rw [upd_ne (ne_of_none hD n1)]; exact hD
          have c1 : Cg K zs 1 (upd H t1 (.tup [.str "lives", .str z])) (.ref t1) := cg_liv (sqT upd_same) oz iz
          have b1 : Bt [l] H (upd H t1 (.tup [.str "lives", .str z])) := (Bt.refl H).new n1
          revert pool1 hD1 c1 b1
          generalize upd H t1 (.tup [.str "lives", .str z]) = H1
          intro pool1 hD1 c1 b1
          refine ⟨_, rfl, _, rfl, _, rfl, _, rfl, aD, _, rfl, .inl (sqL hD1), l, _, rfl, pool1, by rw [List.length_map]; omega, fun H2 e2 b2 pool2 e20 e21 => ?_⟩
          rw [List.length_map] at e21
          obtain ⟨v2, at2, i2, rfl, o2⟩ := at_of (P := fun v => ∃ i : Int, v = .int i ∧ -9999 ≤ i ∧ i ≤ 9999) (xs := ds.map V.int) (d := e2) (fun x hx => by
            obtain ⟨z, hz, rfl⟩ := List.mem_map.mp hx
            exact ⟨z, rfl, od z hz⟩) e20 (by rw [List.length_map]; exact e21)
          refine ⟨aD, _, e2, _, rfl, rfl, sqL (kept b2 hD1 (by simp [nD])), at2, by show 3 ≤ sizeLine; decide, fun t2 n2 => ?_⟩
          have tk2 : Tk H1 (upd H2 t2 (.tup [.str "lives", .str z, .int i2])) := (b2.tk pool1.lst).trans (tk_new n2)
          have c1 := c1.tk tk2
          have pool3 := pool2.upd (o := .tup [.str "lives", .str z, .int i2]) (pool2.ne n2)
          have c2 : Cg K zs 1 (upd H2 t2 (.tup [.str "lives", .str z, .int i2])) (.ref t2) := cg_livAt (sqT upd_same) oz o2.1 o2.2 iz
          have b3 : Bt [l] H (upd H2 t2 (.tup [.str "lives", .str z, .int i2])) := (b1.trans b2).new n2
          clear tk2
          revert c1 pool3 c2 b3
          generalize upd H2 t2 (.tup [.str "lives", .str z, .int i2]) = H3
          intro c1 pool3 c2 b3
          refine ⟨_, rfl, by show 2 ≤ sizeLine; decide, fun t3 n3 => ?_⟩
          have c1 := c1.tk (tk_new (o := .tup [.str "childless", .str z]) n3)
          have c2 := c2.tk (tk_new (o := .tup [.str "childless", .str z]) n3)
          have pool4 := pool3.upd (o := .tup [.str "childless", .str z]) (pool3.ne n3)
          have c3 : Cg K zs 1 (upd H3 t3 (.tup [.str "childless", .str z])) (.ref t3) := cg_chl (sqT upd_same) oz iz
          have b4 : Bt [l] H (upd H3 t3 (.tup [.str "childless", .str z])) := b3.new n3
          revert c1 c2 pool4 c3 b4
          generalize upd H3 t3 (.tup [.str "childless", .str z]) = H4
          intro c1 c2 pool4 c3 b4
          refine ⟨by show 3 ≤ sizeLine; decide, fun pL nL => ?_⟩
          have nlL := pool4.ne nL
          refine ⟨_, rfl, _, rfl, l, 3, rfl, pool4.upd nlL, by decide, fun H5 e5 b5 pool5 e50 e51 => ?_⟩
          have tk5 : Tk H4 H5 := (tk_new nL).trans (b5.tk (pool4.upd nlL).lst)
          obtain ⟨v5, at5, cv⟩ := at_of (P := fun v => Cg K zs 1 H5 v) (xs := [.ref t1, .ref t2, .ref t3]) (d := e5) (fun x hx => by
            simp only [List.mem_cons, List.not_mem_nil, or_false] at hx
            rcases hx with rfl | rfl | rfl
            · exact c1.tk tk5
            · exact c2.tk tk5
            · exact c3.tk tk5) e50 (by show e5 < 3; omega)
          exact ⟨pL, _, e5, _, rfl, rfl, sqL (kept b5 upd_same (by simp [nlL.symm])), at5, q H5 v5 ((b4.new nL).trans b5) pool5 cv⟩)) pss_nil)
      (pss_cons (ps_if (pt_cmpR op_lt (pv 4) pe_int (nomark _)) (pss_one (ps_ret (pe_tup (pa_cons pe_str (pa_cons (pe_call GB hr (by rfl) D.mg D.fn.kp D.bd .nil pass0 (pa_cons (pv 0) (pa_cons (pv 1) (pa_cons (pv 2) (pa_cons (pe_op op_sub (pv 3) pe_int) pa_nil))))) pa_nil))))) pss_nil)
      (pss_cons (ps_set (i := 7) scLc.nd rfl (.inl rfl) (pe_lst (pa_cons (pe_ix (r := rIxL K) ix_list (PE.wk (t' := tWsN rowW) (pe_lst (pa_cons pe_str (pa_cons pe_str pa_nil))) (by intro σ H Q q; exact ⟨by show rowW.length ≤ sizeLine; decide, fun p n => q p _ (same_new n) n upd_same⟩)) (pe_op op_mod (pv 4) pe_int) (fun _ _ => rfl)) pa_nil)))
      (pss_cons (ps_for PassesOwn.never rfl (pi_range1 (by rfl) B.range (pa_cons (pe_op op_add pe_int (pe_ix (r := rIxL K) ix_list (PE.wk (t' := tWsN tens4) (pe_lst (pa_cons pe_int (pa_cons pe_int (pa_cons pe_int (pa_cons pe_int pa_nil))))) (by intro σ H Q q; exact ⟨by show tens4.length ≤ sizeLine; decide, fun p n => q p _ (same_new n) n upd_same⟩)) (pe_call GT r1 (by rfl) DT.mg DT.fn.kp DT.bd .nil pass0 (pa_cons (pv 0) (pa_cons pe_int pa_nil))) (fun _ _ => rfl))) pa_nil)) (pg_name (i := 8) scLc.nd rfl (.inl rfl))
        (pss_one (ps_expr (pe_bm PySem.F.plainAttrs_list PySem.F.slot_list_append PySem.F.type_list_append mt_append (pv 7) (pa_cons (pe_call GB hr (by rfl) D.mg D.fn.kp D.bd .nil pass0 (pa_cons (pv 0) (pa_cons (pv 1) (pa_cons (pv 2) (pa_cons (pe_op op_sub (pe_op op_sub (pv 3) pe_int) (pe_call GT r1 (by rfl) DT.mg DT.fn.kp DT.bd .nil pass0 (pa_cons (pv 0) (pa_cons (pe_op op_sub (pv 3) pe_int) pa_nil)))) pa_nil))))) pa_nil)))))
      (pss_one (ps_ret (pe_callTy call_tuple_of (by rfl) B.tuple boot_tuple (pa_cons (pv 7) pa_nil))))))))), ?_⟩
    refine ⟨_, rfl, l, 8, rfl, pool, by decide, fun H1 way b1 pool1 w0 w8 => ?_⟩
    have hN1 := kept b1 hN (by simp [nN])
    refine ⟨_, rfl, _, rfl, _, rfl, aN, _, rfl, .inl (sqL hN1), l, _, rfl, pool1, by rw [List.length_map]; omega, fun H2 e2 b2 pool2 e20 e21 => ?_⟩
    rw [List.length_map] at e21
    obtain ⟨v2, at2, z2, rfl, o2, i2⟩ := at_of (P := fun v => ∃ z, v = .str z ∧ nmB z = true ∧ z ∈ zs) (xs := zs.map V.str) (d := e2) (fun x hx => by
      obtain ⟨z, hz, rfl⟩ := List.mem_map.mp hx
      exact ⟨z, rfl, oz z hz, hz⟩) e20 (by rw [List.length_map]; exact e21)
    have b02 := b1.trans b2
    have hN2 := kept b02 hN (by simp [nN])
    have hD2 := kept b02 hD (by simp [nD])
    refine ⟨aN, _, e2, _, rfl, rfl, sqL hN2, at2, ?_⟩
    have leafs : ∀ D : Ends, D.rt = Q → tLeafs K zs D [some (.ref l), some (.ref aN), some (.ref aD), some (.int (m : Nat)), some (.int way), some (.str z2), none, none, none] H2 := fun D e => ⟨l, aD, _, _, _, z2, ds, rfl, pool2, hD2, nD, o2, i2, od, d1, fun H' v b p c => by rw [e]; exact q H' v (b02.trans b) p (c.mono m1)⟩
    refine ⟨_, rfl, way, 2, rfl, rfl, _, rfl, ?_⟩
    by_cases w2 : way < 2
    · rw [decide_eq_true w2]
      exact iteT (iteT (leafs _ rfl))
    rw [decide_eq_false w2]
    refine iteF ⟨_, rfl, rfl, _, rfl, ?_⟩
    by_cases mm : m = 1
    · subst mm
      exact iteT (leafs _ rfl)
    rw [show decide (V.int ((m : Nat) : Int) = V.int 1) = false by simp; omega]
    refine iteF ⟨_, rfl, way, 4, rfl, rfl, _, rfl, ?_⟩
    obtain ⟨j, rfl⟩ : ∃ j, m = j + 1 := ⟨m - 1, by omega⟩
    by_cases w4 : way < 4
    · rw [decide_eq_true w4]
      refine iteT ⟨_, rfl, _, rfl, _, rfl, _, rfl, _, 1, rfl, rfl, l, aN, aD, j, zs, ds, ?_, by omega, by omega, pool2, hN2, hD2, nN, nD, oz, od, z1, d1, fun H3 v3 b3 pool3 c3 => ⟨by show 2 ≤ sizeLine; decide, fun t n => q _ _ ((b02.trans b3).new n) (pool3.upd (pool3.ne n)) (cg_neg (sqT upd_same) (c3.tk (tk_new n)))⟩⟩
      · show [V.ref l, V.ref aN, V.ref aD, V.int (((j + 1 : Nat) : Int) - 1)] = _
        rw [show (((j + 1 : Nat) : Int) - 1) = (j : Int) by omega]
    rw [decide_eq_false w4]
    refine iteF (fun pR H3 s3 nR hR => ⟨_, rfl, way, 2, rfl, rfl, by show (0 : Int) < 2; decide, ?_⟩)
    obtain ⟨v3, at3, b3w, rfl⟩ := at_of (d := way % 2) row_is (Int.emod_nonneg _ (by decide)) (by show way % 2 < 2; exact Int.emod_lt_of_pos _ (by decide))
    refine ⟨pR, _, _, _, rfl, rfl, sqL hR, at3, by show 1 ≤ sizeLine; decide, fun aF nF => ?_⟩
    have pool3 := pool2.same s3
    have nlF : l ≠ aF := pool3.ne nF
    have b04 : Bt [l] H (upd H3 aF (.lst [.str (rowS b3w)])) := (b02.trans (.of_same s3)).new nF
    have fF : H aF = none := by
      cases e : H aF with
      | none => rfl
      | some o =>
        have := (b02.trans (.of_same s3)) aF o (by simp [nlF.symm]) e
        rw [nF] at this
        cases this
    have hF4 : (upd H3 aF (.lst [.str (rowS b3w)])) aF = some (.lst [.str (rowS b3w)]) := upd_same
    have pool4 := pool3.upd (o := .lst [.str (rowS b3w)]) nlF
    revert b04 hF4 pool4
    generalize upd H3 aF (.lst [.str (rowS b3w)]) = H4
    intro b04 hF4 pool4
    intro pT H5 s5 nT hT
    refine ⟨_, rfl, l, 4, rfl, pool4.same s5, by decide, fun H6 e6 b6 pool6 e60 e61 => ?_⟩
    have nTl : pT ≠ l := fun e => pool4.ne nT e.symm
    obtain ⟨v6, at6, i6, rfl, o60, o61⟩ := at_of (P := fun v => ∃ i : Int, v = .int i ∧ 0 ≤ i ∧ i ≤ 4) (xs := tens4) (d := e6) (fun x hx => by
      simp only [tens4, List.mem_cons, List.not_mem_nil, or_false] at hx
      rcases hx with rfl | rfl | rfl | rfl <;> exact ⟨_, rfl, by decide, by decide⟩) e60 (by show e6 < 4; omega)
    refine ⟨pT, _, e6, _, rfl, rfl, sqL (kept b6 hT (by simp [nTl])), at6, 2, i6, rfl, rfl, 2 + i6, rfl, by omega, by omega, ?_⟩
    have b06 : Bt [l] H H6 := (b04.trans (.of_same s5)).trans b6
    have hF6 := kept b6 (s5 _ _ hF4) (by simp [nlF.symm])
    refine for_range (lo := 0) (n := (2 + i6).toNat) (fun i σ H' => (∃ y8 : Option V, σ = [some (.ref l), some (.ref aN), some (.ref aD), some (.int ((j + 1 : Nat) : Int)), some (.int way), some (.str z2), none, some (.ref aF), y8]) ∧ (∃ xs, H' aF = some (.lst (.str (rowS b3w) :: xs)) ∧ xs.length = i ∧ ∀ x ∈ xs, Cg K zs j H' x) ∧ Bt [l] H H' ∧ PoolAt H' l)
      ⟨⟨_, rfl⟩, ⟨[], hF6, rfl, fun x hx => (List.not_mem_nil hx).elim⟩, b06, pool6⟩ ?_ ?_
    · rintro i σ H7 hi ⟨⟨y8, rfl⟩, ⟨xs, hF7, xl, cx⟩, b7, pool7⟩
      refine ⟨_, rfl, .inl ⟨rfl, _, sqL hF7⟩, _, rfl, _, rfl, _, rfl, _, rfl, _, 1, rfl, rfl, _, rfl, _, rfl, _, 1, rfl, rfl, l, ((j + 1 : Nat) : Int) - 1, rfl, pool7, by omega, fun H8 e8 b8 pool8 e80 e81 => ⟨_, e8, rfl, rfl, ?_⟩⟩
      have b08 := b7.trans b8
      obtain ⟨t, ht⟩ : ∃ t : Nat, ((j + 1 : Nat) : Int) - 1 - e8 = (t : Nat) := ⟨(((j + 1 : Nat) : Int) - 1 - e8).toNat, by omega⟩
      have hF8 := kept b8 hF7 (by simp [nlF.symm])
      refine ⟨l, aN, aD, t, zs, ds, ?_, by omega, by omega, pool8, kept b08 hN (by simp [nN]), kept b08 hD (by simp [nD]), nN, nD, oz, od, z1, d1, fun H9 v9 b9 pool9 c9 => ?_⟩
      · show [V.ref l, V.ref aN, V.ref aD, V.int (((j + 1 : Nat) : Int) - 1 - e8)] = _
        rw [ht]
      have hF9 := kept b9 hF8 (by simp [nlF.symm])
      have tk9 : Tk H7 H9 := (b8.trans b9).tk pool7.lst
      have tkA : Tk H9 (upd H9 aF (.lst (.str (rowS b3w) :: xs ++ [v9]))) := tk_lst hF9
      refine ⟨aF, _, v9, rfl, rfl, hF9, by rw [List.length_cons, xl]; exact Nat.lt_of_lt_of_le (show i + 1 < 9 by omega) (by decide), ⟨_, rfl⟩, ⟨xs ++ [v9], upd_same, by rw [List.length_append, xl]; rfl, fun x hx => ?_⟩, (b08.trans b9).upd0 fF, pool9.upd nlF⟩
      rcases List.mem_append.mp hx with h | h
      · exact ((cx x h).tk tk9).tk tkA
      · rw [List.mem_singleton.mp h]
        exact (c9.mono (by omega)).tk tkA
    · rintro σ H7 ⟨⟨y8, rfl⟩, ⟨xs, hF7, xl, cx⟩, b7, pool7⟩
      exact ⟨_, rfl, aF, _, rfl, .inl ⟨sqL hF7, fun tp ntp => q _ _ (b7.new ntp) (pool7.upd (pool7.ne ntp)) (cg_row (sqT upd_same) (by omega) (by omega) fun x hx => (cx x hx).tk (tk_new ntp))⟩⟩
theorem ok_lc {f fT : Addr} {fd fdT : FuncData} {k : Nat} (B : Bi mg) (D : Df K mg "_law_cond" sLc f fd ["_law_pool_here", "_law_folk", "_law_days", "_law_deep_here"]) (DT : Df K mg "_law_take" sTake fT fdT ["_law_pool_here", "_law_many"])
    (GT : FnOk P w K mg base CX0 (k + 1) fT fdT ["_law_pool_here", "_law_many"] spTake) : ∀ n, FnOk P w K mg base CX0 (k + 1 + n) f fd ["_law_pool_here", "_law_folk", "_law_days", "_law_deep_here"] (spLc K n)
  | 0 => ⟨fun _ _ _ _ h => by obtain ⟨_, _, _, m, _, _, _, h1, h2, _⟩ := h; omega, fun _ _ _ _ _ _ _ _ _ _ _ _ _ h => by obtain ⟨_, _, _, m, _, _, _, h1, h2, _⟩ := h; omega⟩
  | n + 1 => by
    have := lc_step B D DT GT (ok_lc B D DT GT n)
    have e : k + 1 + (n + 1) = k + 2 + n := by omega
    rw [e]
    exact this
end
end WdQ

set_option Elab.async false
set_option linter.all false
set_option maxRecDepth 100000
set_option maxHeartbeats 4000000
set_option exponentiation.threshold 5000
namespace WdQ
open PySem PySem.Spec PyProof.Rows L2 WdM Wd
abbrev sSd : Stmt := topS 76
theorem scSd : FnScope ["_law_term", "_law_found", "_law_part"] ["_law_term"] (defScope sSd) := ⟨rfl, rfl, rfl, by decide +kernel, rfl, by decide +kernel, by decide +kernel⟩
def leafV : List V := [.str "lives", .str "childless"]
theorem in_leafV (w : Str) : inV (.str w) leafV = (eqW w "lives" || eqW w "childless") := by
  show (("lives" : Str) == w || (("childless" : Str) == w || false)) = _
  rw [eqV, eqV, Bool.or_false]
section
variable {P : Program} {w : World} {K : PySem.W.Frag} {mg : Str → Option Value} {base : Heap}
def spSd (K : PySem.W.Frag) (r : Nat) : Sp := fun vs H Q _ => ∃ (S : List Addr) (v : V) (d : PyData), vs = [v] ∧ Dz S K H v d ∧ formB r d = true ∧ ∀ H' p, Same H H' → H p = none → H' p = some (.lst ((namesN r d).map V.str)) → Q (.ref p) H'
def spSdR (K : PySem.W.Frag) : Nat → Sp
  | 0 => fun _ _ _ _ => False
  | r + 1 => spSd K r
theorem sd_step {f : Addr} {fd : FuncData} {k r : Nat} (r6 : r ≤ 6) (D : Df K mg "_law_said_of" sSd f fd ["_law_term"]) (GB : FnOk P w K mg base CX0 (k + r) f fd ["_law_term"] (spSdR K r)) : FnOk P w K mg base CX0 (k + r + 1) f fd ["_law_term"] (spSd K r) := by
  refine D.fn.ok scSd (fun vs H Q E h => ?_) (fun cdv A outer s H vs Q E hr h => ?_)
  · obtain ⟨S, v, d, rfl, _⟩ := h
    rfl
  · obtain ⟨S, v, d, rfl, dz, fm, q⟩ := h
    refine ⟨_, pss_cons (ps_if (pt_cmpR op_in_seq (pe_ix (r := rIxT K) ix_tup (pv 0) pe_int (fun _ _ => rfl)) (PE.wk (t' := tWsN leafV) (pe_lst (pa_cons pe_str (pa_cons pe_str pa_nil))) (by intro σ H Q q; exact ⟨by show leafV.length ≤ sizeLine; decide, fun p n => q p _ (same_new n) n upd_same⟩)) (by rfl))
        (pss_one (ps_ret (pe_lst (pa_cons (pe_ix (r := rIxT K) ix_tup (pv 0) pe_int (fun _ _ => rfl)) pa_nil)))) pss_nil)
      (pss_cons (ps_set (i := 1) scSd.nd rfl (.inl rfl) (pe_lst pa_nil))
      (pss_cons (ps_for PassesOwn.never rfl (pi_tup (pe_slice sl_tupA (pv 0) (po_some pe_int) po_none)) (pg_name (i := 2) scSd.nd rfl (.inl rfl))
        (pss_one (ps_set (i := 1) scSd.nd rfl (.inl rfl) (pe_op op_cat (pv 1) (pe_call GB hr (by rfl) D.mg D.fn.kp D.bd .nil pass0 (pa_cons (pv 2) pa_nil))))))
      (pss_one (ps_ret (pv 1))))), ?_⟩
    obtain ⟨n, rfl, fv⟩ := form_view fm
    obtain ⟨wd, t, ts, rfl, ways⟩ := names_ways fv
    obtain ⟨a, xs, rfl, hs, hd⟩ := dz_tup dz
    obtain ⟨x1, x2, ys, d1, d2, es, rfl, e, h1, h2, hts⟩ := dz_cons2 hd (by simp)
    cases e
    obtain rfl := dz_str h1
    refine ⟨_, rfl, a, _, 0, _, rfl, rfl, hs, atI_nat (j := 0) rfl, fun pW H1 s1 nW hW => ⟨pW, _, rfl, .inl (sqL hW), rfl, rfl, _, rfl, ?_⟩⟩
    rw [in_leafV]
    have hs1 := (tk_same s1).sq hs
    rcases ways with ⟨hw, z, rfl, _, en⟩ | ⟨hw, l6, all, en⟩
    · rw [hw]
      obtain rfl := dz_str h2
      refine iteT ⟨_, rfl, a, _, 1, _, rfl, rfl, hs1, atI_nat (j := 1) rfl, by show 1 ≤ sizeLine; decide, fun p np => ?_⟩
      refine q _ p (s1.trans (same_new np)) (s1.free np) ?_
      rw [en]
      exact upd_same
    · rw [hw]
      rw [en] at q
      refine iteF ⟨by show 0 ≤ sizeLine; decide, fun pF nF => ?_⟩
      have s2 : Same H (upd H1 pF (.lst [])) := s1.trans (same_new nF)
      have nFH := s1.free nF
      have hF : (upd H1 pF (.lst [])) pF = some (.lst []) := upd_same
      revert s2 hF
      generalize upd H1 pF (.lst []) = H2
      intro s2 hF
      have hs2 := (tk_same s2).sq hs
      refine ⟨_, rfl, 1, rfl, ?_⟩
      refine (show tNoPart _ H2 _ from cut_tup1 hs2 (by show 1 ≤ _; simp) (fun p H3 s3 sq => ?_))
      have sq : SqT K H3 p (x2 :: ys) := sq
      have s03 := s2.trans s3
      have ht1 : DzAll S K H3 (x2 :: ys) (t :: ts) := (DzAll.cons h2 hts).same s03
      have hl := ht1.len
      have lf : ∀ e ∈ t :: ts, (namesN n e).length ≤ 6 ^ 5 := fun e he => by
        rw [names_len (all e he)]
        exact Nat.le_trans (leaf_le (all e he)) (Nat.pow_le_pow_right (by decide) (by omega))
      have hF3 := s3 _ _ hF
      clear fv fm dz en hs hd h1 h2 hts hs1 hs2
      revert sq ht1 hl q all l6 lf
      generalize x2 :: ys = zs
      generalize t :: ts = fs
      intro q l6 all sq ht1 hl lf
      have part : ∀ i, i ≤ zs.length → (((fs.take i).map (namesN n)).flatten).length ≤ 46656 := fun i hi => by
        rw [List.length_flatten, List.map_map]
        have := sum_le (f := fun c => (namesN n c).length) (b := 6 ^ 5) (ds := fs.take i) fun d hd => lf d (List.mem_of_mem_take hd)
        have l : (fs.take i).length ≤ 6 := by rw [List.length_take]; omega
        have := Nat.mul_le_mul_right (6 ^ 5) l
        have e : (List.map (List.length ∘ namesN n) (fs.take i)) = (fs.take i).map fun c => (namesN n c).length := rfl
        rw [e]
        omega
      refine ⟨p, rfl, ⟨zs, sq⟩, for_tup (K := K) (a := p) (xs := zs) (fun i σ H' => ∃ (y : Option V) (pL : Addr), σ = [some (.ref a), some (.ref pL), y] ∧ H pL = none ∧ H' pL = some (.lst ((((fs.take i).map (namesN n)).flatten).map V.str)) ∧ Same H H' ∧ Same H3 H') ⟨none, pF, rfl, nFH, hF3, s03, Same.refl H3⟩ (fun i σ H' _ h => by obtain ⟨y, pL, _, _, _, _, s⟩ := h; exact (tk_same s).sq sq) ?_ ?_⟩
      · rintro i x σ H4 hx ⟨y, pL, rfl, nL, hL, s4, s34⟩
        obtain ⟨e, he, dx⟩ := ht1.get hx
        have fe := all e (List.mem_of_getElem? he)
        have il := lt_get hx
        refine ⟨_, rfl, _, rfl, S, x, e, rfl, dx.same s34, fe, fun H5 p5 s5 n5 h5 => ⟨pL, p5, _, _, rfl, rfl, s5 _ _ hL, h5, ?_, fun p6 n6 => ?_⟩⟩
        · have := part (i + 1) (by omega)
          rw [take_more he, List.map_append, List.flatten_append, List.length_append] at this
          simp only [List.map_cons, List.map_nil, List.flatten_cons, List.flatten_nil, List.append_nil] at this
          rw [List.length_map, List.length_map]
          exact Nat.le_trans this (by decide)
        · refine ⟨_, p6, rfl, (s4.trans s5).free n6, ?_, (s4.trans s5).trans (same_new n6), (s34.trans s5).trans (same_new n6)⟩
          rw [upd_same, take_more he, List.map_append, List.flatten_append, List.map_append]
          simp only [List.map_cons, List.map_nil, List.flatten_cons, List.flatten_nil, List.append_nil]
      · rintro σ H4 ⟨y, pL, rfl, nL, hL, s4, s34⟩
        rw [hl, List.take_length] at hL
        exact ⟨_, rfl, q H4 pL s4 nL hL⟩
theorem ok_sd {f : Addr} {fd : FuncData} {k : Nat} (D : Df K mg "_law_said_of" sSd f fd ["_law_term"]) : ∀ r, r ≤ 6 → FnOk P w K mg base CX0 (k + r + 1) f fd ["_law_term"] (spSd K r)
  | 0, h => sd_step (r := 0) h D ⟨fun _ _ _ _ h => h.elim, fun _ _ _ _ _ _ _ _ _ _ _ _ _ h => h.elim⟩
  | r + 1, h => sd_step (r := r + 1) h D (ok_sd D r (by omega))
end
end WdQ

set_option Elab.async false
set_option linter.all false
set_option maxRecDepth 100000
set_option maxHeartbeats 4000000
set_option exponentiation.threshold 5000
namespace WdQ
open PySem PySem.Spec PyProof.Rows L2 WdM Wd
abbrev sOl : Stmt := topS 79
def nOl : List Str := ["_law_deaths_here", "_law_one", "_law_at", "_law_mate", "_law_when"]
theorem scOl : FnScope nOl ["_law_deaths_here", "_law_one", "_law_at"] (defScope sOl) := ⟨rfl, rfl, rfl, by decide +kernel, rfl, by decide +kernel, by decide +kernel⟩
def olB (z : Str) (m : Int) (r : Str × Int) : Bool := if r.1 = z then decide (r.2 > m) else true
theorem goodD_tail {r : Str × Int} {rows : List (Str × Int)} (g : GoodD (r :: rows)) : GoodD rows := ⟨by have := g.l8; rw [List.length_cons] at this; omega, fun x hx => g.nm x (List.mem_cons_of_mem _ hx), fun x hx => g.dy x (List.mem_cons_of_mem _ hx), fun i x y hx hy => g.up (i + 1) x y hx hy⟩
theorem lt_trL {a b c : List Nat} (h : a < b) (k : b < c) : a < c := List.lt_trans h k
theorem goodD_lt : ∀ {rows : List (Str × Int)} {r : Str × Int}, GoodD (r :: rows) → ∀ x ∈ rows, r.1.cps.toList < x.1.cps.toList
  | [], _, _, _, h => (List.not_mem_nil h).elim
  | s :: rows, r, g, x, h => by
    have h1 := g.up 0 r s rfl rfl
    rcases List.mem_cons.mp h with rfl | h
    · exact h1
    · exact lt_trL h1 (goodD_lt (goodD_tail g) x h)
theorem ol_all : ∀ {rows : List (Str × Int)}, GoodD rows → ∀ (z : Str) (m : Int), rows.all (olB z m) = aliveB rows z m
  | [], _, z, m => rfl
  | r :: rows, g, z, m => by
    rw [List.all_cons]
    have ih := ol_all (goodD_tail g) z m
    by_cases e : r.1 = z
    · have rest : rows.all (olB z m) = true := List.all_eq_true.mpr fun x hx => by
        have lt := goodD_lt g x hx
        unfold olB
        rw [if_neg]
        intro ex
        rw [e, ex] at lt
        exact List.lt_irrefl _ lt
      rw [rest, Bool.and_true]
      unfold olB aliveB
      rw [if_pos e]
      show _ = (match (if r.1 = z then some r.2 else look rows z) with | none => true | some d => decide (d > m))
      rw [if_pos e]
    · rw [ih]
      unfold olB aliveB
      rw [if_neg e, Bool.true_and]
      show _ = (match (if r.1 = z then some r.2 else look rows z) with | none => true | some d => decide (d > m))
      rw [if_neg e]
      first
        | done
        | (cases look rows z <;> rfl)
section
variable {P : Program} {w : World} {K : PySem.W.Frag} {mg : Str → Option Value} {base : Heap}
def spOl (K : PySem.W.Frag) : Sp := fun vs H Q _ => ∃ (v : V) (z : Str) (m : Int) (D : List (Str × Int)), vs = [v, .str z, .int m] ∧ DeathsAt K H v D ∧ GoodD D ∧ ∀ H', Same H H' → Q (.bl (aliveB D z m)) H'
theorem ok_ol {f : Addr} {fd : FuncData} {k : Nat} (B : Bi mg) (D : Df K mg "_law_outlives" sOl f fd ["_law_deaths_here", "_law_one", "_law_at"]) : FnOk P w K mg base CX0 (k + 1) f fd ["_law_deaths_here", "_law_one", "_law_at"] (spOl K) := by
  refine D.fn.ok scOl (fun vs H Q E h => ?_) (fun cdv A outer s H vs Q E hr h => ?_)
  · obtain ⟨v, z, m, Dd, rfl, _⟩ := h
    rfl
  · obtain ⟨v, z, m, Dd, rfl, ⟨t, xs, rfl, ht, xl, hx⟩, gd, q⟩ := h
    refine ⟨_, pss_one (ps_ret (pe_callB (cr_all rfl) (by rfl) B.all (by decide +kernel) (pa_cons (pe_lc (own := [("_law_mate", 3), ("_law_when", 4)]) (g := gTup K 2 (gCons (gName 3) (gCons (gName 4) gNil))) (tt := tYes) rfl scOl.nd (pi_tup (pv 0)) (blkOk_by (own := [("_law_mate", 3), ("_law_when", 4)]) (N := nOl) (sc := defScope sOl) (by decide +kernel))
        (fun _ _ _ _ _ => pg_tup rfl (pgs_cons (pg_name (i := 3) scOl.nd rfl (Or.inl rfl)) (pgs_cons (pg_name (i := 4) scOl.nd rfl (Or.inl rfl)) pgs_nil))) (fun _ _ _ _ _ => pts_nil)
        (fun _ _ _ _ _ => pe_or (pe_cmpR op_ne (pv 3) (pv 1) (nomark _)) (pe_one (pe_cmpR op_gt (pv 4) (pv 2) (nomark _))))) pa_nil))), ?_⟩
    have l8 := gd.l8
    refine ⟨_, rfl, t, rfl, ⟨_, ht⟩, fun L nL => lc_tup (K := K) (a := t) (xs := xs) (fun j H' => H' L = some (.lst (((Dd.take j).map (olB z m)).map V.bl)) ∧ Same H H') ⟨upd_same, same_new nL⟩ (fun j H' _ h => (tk_same h.2).sq ht) ?_ ?_⟩
    · rintro j x H5 hx5 ⟨hL, s5⟩
      obtain ⟨ra, r, rfl, hr5, hra⟩ := hx j x hx5
      have jl := lt_get hx5
      have fin : ∀ b, b = olB z m r → (upd H5 L (.lst (((Dd.take j).map (olB z m)).map V.bl ++ [.bl b]))) L = some (.lst (((Dd.take (j + 1)).map (olB z m)).map V.bl)) ∧ Same H (upd H5 L (.lst (((Dd.take j).map (olB z m)).map V.bl ++ [.bl b]))) := fun b e => by
        refine ⟨?_, ((Bt.of_same (S := []) s5).upd0 nL).same⟩
        rw [upd_same, take_more hr5, List.map_append, List.map_append, e]
        rfl
      refine ⟨ra, _, rfl, (tk_same s5).sq hra, rfl, _, _, rfl, _, _, rfl, rfl, rfl, tyes (iteT ⟨_, rfl, _, rfl, rfl, _, rfl, ?_⟩)⟩
      have sm : (((Dd.take j).map (olB z m)).map V.bl).length < sizeLine := by
        rw [List.length_map, List.length_map, List.length_take]
        exact small1000 (by omega)
      by_cases e : r.1 = z
      · rw [show (!decide (V.str r.1 = V.str z)) = false by simp [e]]
        refine iteF ⟨_, rfl, _, rfl, r.2, m, rfl, rfl, _, hL, sm, fin _ ?_⟩
        unfold olB
        rw [if_pos e]
      · rw [show (!decide (V.str r.1 = V.str z)) = true by simp [e]]
        refine iteT ⟨_, hL, sm, fin _ ?_⟩
        unfold olB
        rw [if_neg e]
    · rintro H5 ⟨hL, s5⟩
      rw [xl, List.take_length] at hL
      refine ⟨L, _, rfl, sqL hL, ?_⟩
      rw [show (Dd.map (olB z m)).all id = Dd.all (olB z m) by rw [List.all_map]; rfl, ol_all gd]
      exact q H5 s5
end
end WdQ

set_option Elab.async false
set_option linter.all false
set_option maxRecDepth 100000
set_option maxHeartbeats 4000000
set_option exponentiation.threshold 5000
namespace WdQ
open PySem PySem.Spec PyProof.Rows L2 WdM Wd
abbrev sLm : Stmt := topS 80
def nLm : List Str := ["_law_people_here", "_law_term", "_law_deaths_here", "_law_least", "_law_word", "_law_parts", "_law_one", "_law_mate", "_law_some", "_law_part"]
def pLm : List Str := ["_law_people_here", "_law_term", "_law_deaths_here", "_law_least"]
theorem scLm : FnScope nLm pLm (defScope sLm) := ⟨rfl, rfl, rfl, by decide +kernel, rfl, by decide +kernel, by decide +kernel⟩
def kaB (D : List (Str × Int)) (z : Str) (m : Int) (r : Str × Option Str) : Bool := kidB z r && aliveB D r.1 m
theorem kids_any (D : List (Str × Int)) (z : Str) (m : Int) : ∀ F : List (Str × Option Str), F.any (kaB D z m) = (kidsOf F z).any fun y => aliveB D y m
  | [] => rfl
  | r :: F => by
    rw [List.any_cons, kids_any D z m F]
    unfold kidsOf kaB
    rw [List.filter_cons]
    cases kidB z r with
    | true => rw [if_pos rfl, List.map_cons, List.any_cons, Bool.true_and]
    | false => rw [if_neg (by decide), Bool.false_and, Bool.false_or]
theorem at_last {α : Type} {x y : α} : ([x] ++ [y])[1]? = some y := rfl
section
variable {P : Program} {w : World} {K : PySem.W.Frag} {mg : Str → Option Value} {base : Heap}
theorem catT {H : Hp} {a b : Addr} {xs ys : List V} {Q : VK} (ha : SqT K H a xs) (hb : SqT K H b ys) (l : xs.length + ys.length ≤ 100) (q : ∀ p H', Same H H' → SqT K H' p (xs ++ ys) → Q (.ref p) H') : rCatA K (.ref a) (.ref b) H Q :=
  ⟨a, b, xs, ys, rfl, rfl, ha, hb, Nat.le_trans l (by decide), fun e => q b H (Same.refl H) (by rw [e]; exact hb), fun _ e => q a H (Same.refl H) (by rw [e, List.append_nil]; exact ha), fun _ _ p np => q p _ (same_new np) (sqT upd_same)⟩
def spLm (K : PySem.W.Frag) (r : Nat) : Sp := fun vs H Q _ => ∃ (S : List Addr) (vF v vD : V) (d : PyData) (m : Int) (F : List (Str × Option Str)) (D : List (Str × Int)), vs = [vF, v, vD, .int m] ∧ FolkAt K H vF F ∧ GoodF F ∧ DeathsAt K H vD D ∧ GoodD D ∧ Dz S K H v d ∧
  ((d = .none ∧ ∀ H', Same H H' → Q (.bl true) H') ∨ (formB r d = true ∧ ∀ H', Same H H' → Q (.bl (comeN F D m r d)) H'))
def spLmR (K : PySem.W.Frag) : Nat → Sp
  | 0 => fun _ _ _ _ => False
  | r + 1 => spLm K r
theorem lm_step {f fO : Addr} {fd fdO : FuncData} {k r : Nat} (B : Bi mg) (D : Df K mg "_law_comes" sLm f fd pLm) (DO : Df K mg "_law_outlives" sOl fO fdO ["_law_deaths_here", "_law_one", "_law_at"]) (GO : FnOk P w K mg base CX0 (k + 1) fO fdO ["_law_deaths_here", "_law_one", "_law_at"] (spOl K))
    (GB : FnOk P w K mg base CX0 (k + 1 + r) f fd pLm (spLmR K r)) : FnOk P w K mg base CX0 (k + 1 + r + 1) f fd pLm (spLm K r) := by
  refine D.fn.ok scLm (fun vs H Q E h => ?_) (fun cdv A outer s H vs Q E hr h => ?_)
  · obtain ⟨S, vF, v, vD, d, m, F, Dd, rfl, _⟩ := h
    rfl
  · obtain ⟨S, vF, v, vD, d, m, F, Dd, rfl, hF, gf, hD, gd, dz, hc⟩ := h
    have r1 : Room (k + 1) _ := hr.mono (by omega)
    refine ⟨_, pss_cons (ps_if (pt_cmpR op_isN (pv 1) pe_non (nomark _)) (pss_one (ps_ret pe_bl)) pss_nil)
      (pss_cons (ps_asg (pe_tup (pa_cons (pe_ix (r := rIxT K) ix_tup (pv 1) pe_int (fun _ _ => rfl)) (pa_cons (pe_slice sl_tupA (pv 1) (po_some pe_int) po_none) pa_nil))) (pg_tup rfl (pgs_cons (pg_name (i := 4) scLm.nd rfl (.inl rfl)) (pgs_cons (pg_name (i := 5) scLm.nd rfl (.inr rfl)) pgs_nil))))
      (pss_cons (ps_if (pt_cmpR op_eq (pv 4) pe_str (nomark _)) (pss_one (ps_ret (pe_call GO r1 (by rfl) DO.mg DO.fn.kp DO.bd .nil pass0 (pa_cons (pv 2) (pa_cons (pe_ix (r := rIxT K) ix_tup (pv 5) pe_int (fun _ _ => rfl)) (pa_cons (pe_ix (r := rIxT K) ix_tup (pe_op op_catA (pv 5) (pe_tup (pa_cons (pv 3) pa_nil))) pe_int (fun _ _ => rfl)) pa_nil)))))) pss_nil)
      (pss_cons (ps_if (pt_cmpR op_eq (pv 4) pe_str (nomark _)) (pss_one (ps_ret (pe_not (pe_callB (cr_any rfl) (by rfl) B.any (by decide +kernel) (pa_cons (pe_lc (own := [("_law_one", 6), ("_law_mate", 7)]) (g := gTup K 2 (gCons (gName 6) (gCons (gName 7) gNil))) (tt := tYes) rfl scLm.nd (pi_tup (pv 0)) (blkOk_by (own := [("_law_one", 6), ("_law_mate", 7)]) (N := nLm) (sc := defScope sLm) (by decide +kernel))
          (fun _ _ _ _ _ => pg_tup rfl (pgs_cons (pg_name (i := 6) scLm.nd rfl (Or.inl rfl)) (pgs_cons (pg_name (i := 7) scLm.nd rfl (Or.inl rfl)) pgs_nil))) (fun _ _ _ _ _ => pts_nil)
          (fun _ _ _ _ _ => pe_and (pe_cmpR op_eq (pv 7) (pe_ix (r := rIxT K) ix_tup (pv 5) pe_int (fun _ _ => rfl)) (nomark _)) (pe_one (pe_call GO r1 (by rfl) DO.mg DO.fn.kp DO.bd .nil pass0 (pa_cons (pv 2) (pa_cons (pv 6) (pa_cons (pv 3) pa_nil))))))) pa_nil))))) pss_nil)
      (pss_cons (ps_setLc (i := 8) (own := [("_law_part", 9)]) (g := gName 9) (tt := tYes) rfl scLm.nd rfl rfl (sw_true rfl rfl rfl (by decide +kernel)) (pi_tup (pv 5)) (blkOk_by (own := [("_law_part", 9)]) (N := nLm) (sc := defScope sLm) (by decide +kernel))
          (fun _ _ _ _ _ => pg_name (i := 9) scLm.nd rfl (Or.inl rfl)) (fun _ _ _ _ _ => pts_nil) (fun _ _ _ _ _ => pe_call GB hr (by rfl) D.mg D.fn.kp D.bd .nil pass0 (pa_cons (pv 0) (pa_cons (pv 9) (pa_cons (pv 2) (pa_cons (pv 3) pa_nil))))))
      (pss_cons (ps_if (pt_cmpR op_eq (pv 4) pe_str (nomark _)) (pss_one (ps_ret (pe_not (pe_ix (r := rIxL K) ix_list (pv 8) pe_int (fun _ _ => rfl))))) pss_nil)
      (pss_one (ps_ret (pe_ifExp (pt_cmpR op_eq (pv 4) pe_str (nomark _)) (pe_callB (cr_all rfl) (by rfl) B.all (by decide +kernel) (pa_cons (pv 8) pa_nil)) (pe_callB (cr_any rfl) (by rfl) B.any (by decide +kernel) (pa_cons (pv 8) pa_nil)))))))))), ?_⟩
    rcases hc with ⟨rfl, q⟩ | ⟨fm, q⟩
    · cases dz
      exact ⟨_, rfl, rfl, true, rfl, iteT (q H (Same.refl H))⟩
    obtain ⟨n, rfl, fv⟩ := form_view fm
    obtain ⟨wd, t, ts, e0, _⟩ := names_ways fv
    obtain ⟨a, xs, rfl, hs, hd⟩ := dz_tup (show Dz S K H v (.tuple (.str wd :: t :: ts)) by rw [← e0]; exact dz)
    obtain ⟨x1, x2, ys, d1, d2, es, rfl, e, h1, h2, hts⟩ := dz_cons2 hd (by simp)
    cases e
    obtain rfl := dz_str h1
    refine ⟨_, rfl, rfl, false, rfl, iteF ?_⟩
    refine ⟨_, rfl, a, _, 0, _, rfl, rfl, hs, atI_nat (j := 0) rfl, _, rfl, 1, rfl, ?_⟩
    refine (show tNoPart _ H _ from cut_tup1 hs (by show 1 ≤ _; simp) (fun p H1 s1 sq => ?_))
    have sq : SqT K H1 p (x2 :: ys) := sq
    refine ⟨by show 2 ≤ sizeLine; decide, fun tp ntp => ⟨tp, _, rfl, sqT upd_same, rfl, _, _, rfl, _, _, rfl, rfl, ?_⟩⟩
    have s02 : Same H (upd H1 tp (.tup [.str wd, .ref p])) := s1.trans (same_new ntp)
    have sq2 : SqT K (upd H1 tp (.tup [.str wd, .ref p])) p (x2 :: ys) := (tk_new ntp).sq sq
    revert s02 sq2
    generalize upd H1 tp (.tup [.str wd, .ref p]) = H2
    intro s02 sq2
    cases fv with
    | liv z hz =>
      cases e0
      obtain rfl := dz_str h2
      cases hts
      rw [come_liv] at q
      refine ⟨_, rfl, rfl, true, rfl, iteT ⟨_, rfl, _, rfl, p, _, 0, _, rfl, rfl, sq2, atI_nat (j := 0) rfl, _, rfl, _, rfl, by show 1 ≤ sizeLine; decide, fun t3 n3 => ?_⟩⟩
      refine catT ((tk_new n3).sq sq2) (sqT upd_same) (by simp) fun p4 H4 s4 sq4 => ⟨p4, _, 1, .int m, rfl, rfl, sq4, atI_nat (j := 1) rfl, ?_⟩
      have s04 := (s02.trans (same_new n3)).trans s4
      exact ⟨vD, z, m, Dd, rfl, hD.tk (tk_same s04), gd, fun H5 s5 => q H5 (s04.trans s5)⟩
    | livAt z i hz i0 i1 =>
      cases e0
      obtain rfl := dz_str h2
      cases hts with
      | cons h3 h4 =>
      cases h4
      cases h3
      rw [come_livAt] at q
      refine ⟨_, rfl, rfl, true, rfl, iteT ⟨_, rfl, _, rfl, p, _, 0, _, rfl, rfl, sq2, atI_nat (j := 0) rfl, _, rfl, _, rfl, by show 1 ≤ sizeLine; decide, fun t3 n3 => ?_⟩⟩
      refine catT ((tk_new n3).sq sq2) (sqT upd_same) (by simp) fun p4 H4 s4 sq4 => ⟨p4, _, 1, .int i, rfl, rfl, sq4, atI_nat (j := 1) rfl, ?_⟩
      have s04 := (s02.trans (same_new n3)).trans s4
      exact ⟨vD, z, i, Dd, rfl, hD.tk (tk_same s04), gd, fun H5 s5 => q H5 (s04.trans s5)⟩
    | chl z hz =>
      cases e0
      obtain rfl := dz_str h2
      cases hts
      rw [come_chl, ← kids_any] at q
      obtain ⟨tF, xF, rfl, htF, xlF, hxF⟩ := hF
      have l8 := gf.l8
      refine ⟨_, rfl, rfl, false, rfl, iteF ⟨_, rfl, rfl, true, rfl, iteT ⟨_, rfl, tF, rfl, ⟨_, (tk_same s02).sq htF⟩, fun L nL => ?_⟩⟩⟩
      refine lc_tup (K := K) (a := tF) (xs := xF) (fun j H' => H' L = some (.lst (((F.take j).map (kaB Dd z m)).map V.bl)) ∧ Same H2 H') ⟨upd_same, same_new nL⟩ (fun j H' _ h => (tk_same (s02.trans h.2)).sq htF) ?_ ?_
      · rintro j x H5 hx5 ⟨hL, s5⟩
        obtain ⟨ra, rr, rfl, hr5, hra⟩ := hxF j x hx5
        have jl := lt_get hx5
        have s05 := s02.trans s5
        have sm : (((F.take j).map (kaB Dd z m)).map V.bl).length < sizeLine := by
          rw [List.length_map, List.length_map, List.length_take]
          exact small1000 (by omega)
        refine ⟨ra, _, rfl, (tk_same s05).sq hra, rfl, _, _, rfl, _, _, rfl, rfl, rfl, tyes (iteT ⟨_, rfl, _, rfl, p, _, 0, _, rfl, rfl, (tk_same s5).sq sq2, atI_nat (j := 0) rfl, by cases rr.2 <;> rfl, _, rfl, ?_⟩)⟩
        rw [kid_eq]
        cases ek : kidB z rr with
        | true =>
          refine iteT ⟨_, rfl, _, rfl, _, rfl, vD, rr.1, m, Dd, rfl, hD.tk (tk_same s05), gd, fun H6 s6 => ⟨_, s6 _ _ hL, sm, ?_, ((Bt.of_same (S := []) (s5.trans s6)).upd0 nL).same⟩⟩
          rw [upd_same, take_more hr5, List.map_append, List.map_append]
          show _ = some (HO.lst (_ ++ [V.bl (kidB z rr && aliveB Dd rr.1 m)]))
          rw [ek, Bool.true_and]
        | false =>
          refine iteF ⟨_, hL, sm, ?_, ((Bt.of_same (S := []) s5).upd0 nL).same⟩
          rw [upd_same, take_more hr5, List.map_append, List.map_append]
          show _ = some (HO.lst (_ ++ [V.bl (kidB z rr && aliveB Dd rr.1 m)]))
          rw [ek, Bool.false_and]
      · rintro H5 ⟨hL, s5⟩
        rw [xlF, List.take_length] at hL
        refine ⟨L, _, rfl, sqL hL, _, rfl, ?_⟩
        rw [show (F.map (kaB Dd z m)).any id = F.any (kaB Dd z m) by rw [List.any_map]; rfl]
        exact q H5 (s02.trans s5)
    | neg c hc =>
      cases e0
      cases hts
      rw [come_neg] at q
      refine ⟨_, rfl, rfl, false, rfl, iteF ⟨_, rfl, rfl, false, rfl, iteF ?_⟩⟩
      refine ⟨_, rfl, p, rfl, ⟨_, sq2⟩, fun L nL => ?_⟩
      refine lc_tup (K := K) (a := p) (xs := [x2]) (fun j H' => H' L = some (.lst ((([t].take j).map (comeN F Dd m n)).map V.bl)) ∧ Same H2 H') ⟨upd_same, same_new nL⟩ (fun j H' _ h => (tk_same h.2).sq sq2) ?_ ?_
      · rintro j x H5 hx5 ⟨hL, s5⟩
        obtain rfl : j = 0 := by have := lt_get hx5; simpa using this
        cases hx5
        have s15 := s02.trans s5
        refine ⟨rfl, tyes (iteT ⟨_, rfl, _, rfl, _, rfl, _, rfl, S, vF, x2, vD, t, m, F, Dd, rfl, hF.tk (tk_same s15), gf, hD.tk (tk_same s15), gd, h2.same s15, .inr ⟨hc, fun H6 s6 => ⟨_, s6 _ _ hL, small1000 (by simp), upd_same, ((Bt.of_same (S := []) (s5.trans s6)).upd0 nL).same⟩⟩⟩)⟩
      · rintro H5 ⟨hL, s5⟩
        exact ⟨_, rfl, rfl, true, rfl, iteT ⟨_, rfl, L, _, 0, _, rfl, rfl, sqL hL, atI_nat (j := 0) rfl, _, rfl, q H5 (s02.trans s5)⟩⟩
    | row b c1 c2 cs l al =>
      cases e0
      cases b with
      | true =>
      rw [show comeN F Dd m (n + 1) (.tuple (.str (rowS true) :: t :: c2 :: cs)) = (t :: c2 :: cs).all (comeN F Dd m n) from come_and] at q
      refine ⟨_, rfl, rfl, false, rfl, iteF ⟨_, rfl, rfl, false, rfl, iteF ?_⟩⟩
      have ht1 : DzAll S K H2 (x2 :: ys) (t :: c2 :: cs) := (DzAll.cons h2 hts).same s02
      have hl := ht1.len
      clear dz fm hd h1 h2 hts hs
      revert sq2 ht1 hl q al l
      generalize x2 :: ys = zs
      generalize t :: c2 :: cs = fs
      intro sq2 l al q ht1 hl
      refine ⟨_, rfl, p, rfl, ⟨_, sq2⟩, fun L nL => ?_⟩
      refine lc_tup (K := K) (a := p) (xs := zs) (fun j H' => H' L = some (.lst (((fs.take j).map (comeN F Dd m n)).map V.bl)) ∧ Same H2 H') ⟨upd_same, same_new nL⟩ (fun j H' _ h => (tk_same h.2).sq sq2) ?_ ?_
      · rintro j x H5 hx5 ⟨hL, s5⟩
        obtain ⟨e, he, dx⟩ := ht1.get hx5
        have il := lt_get hx5
        have em := List.mem_of_getElem? he
        have s15 := s02.trans s5
        refine ⟨rfl, tyes (iteT ⟨_, rfl, _, rfl, _, rfl, _, rfl, S, vF, x, vD, e, m, F, Dd, rfl, hF.tk (tk_same s15), gf, hD.tk (tk_same s15), gd, dx.same s5, .inr ⟨al e em, fun H6 s6 => ⟨_, s6 _ _ hL, ?_, ?_, ((Bt.of_same (S := []) (s5.trans s6)).upd0 nL).same⟩⟩⟩)⟩
        · rw [List.length_map, List.length_map, List.length_take]
          exact small1000 (by omega)
        · rw [upd_same, take_more he, List.map_append, List.map_append]
          rfl
      · rintro H5 ⟨hL, s5⟩
        rw [hl, List.take_length] at hL
        refine ⟨_, rfl, rfl, false, rfl, iteF ⟨_, rfl, rfl, true, rfl, iteT ⟨_, rfl, L, _, rfl, sqL hL, ?_⟩⟩⟩
        rw [show (fs.map (comeN F Dd m n)).all id = fs.all (comeN F Dd m n) by rw [List.all_map]; rfl]
        exact q H5 (s02.trans s5)
      | false =>
      rw [show comeN F Dd m (n + 1) (.tuple (.str (rowS false) :: t :: c2 :: cs)) = (t :: c2 :: cs).any (comeN F Dd m n) from come_or] at q
      refine ⟨_, rfl, rfl, false, rfl, iteF ⟨_, rfl, rfl, false, rfl, iteF ?_⟩⟩
      have ht1 : DzAll S K H2 (x2 :: ys) (t :: c2 :: cs) := (DzAll.cons h2 hts).same s02
      have hl := ht1.len
      clear dz fm hd h1 h2 hts hs
      revert sq2 ht1 hl q al l
      generalize x2 :: ys = zs
      generalize t :: c2 :: cs = fs
      intro sq2 l al q ht1 hl
      refine ⟨_, rfl, p, rfl, ⟨_, sq2⟩, fun L nL => ?_⟩
      refine lc_tup (K := K) (a := p) (xs := zs) (fun j H' => H' L = some (.lst (((fs.take j).map (comeN F Dd m n)).map V.bl)) ∧ Same H2 H') ⟨upd_same, same_new nL⟩ (fun j H' _ h => (tk_same h.2).sq sq2) ?_ ?_
      · rintro j x H5 hx5 ⟨hL, s5⟩
        obtain ⟨e, he, dx⟩ := ht1.get hx5
        have il := lt_get hx5
        have em := List.mem_of_getElem? he
        have s15 := s02.trans s5
        refine ⟨rfl, tyes (iteT ⟨_, rfl, _, rfl, _, rfl, _, rfl, S, vF, x, vD, e, m, F, Dd, rfl, hF.tk (tk_same s15), gf, hD.tk (tk_same s15), gd, dx.same s5, .inr ⟨al e em, fun H6 s6 => ⟨_, s6 _ _ hL, ?_, ?_, ((Bt.of_same (S := []) (s5.trans s6)).upd0 nL).same⟩⟩⟩)⟩
        · rw [List.length_map, List.length_map, List.length_take]
          exact small1000 (by omega)
        · rw [upd_same, take_more he, List.map_append, List.map_append]
          rfl
      · rintro H5 ⟨hL, s5⟩
        rw [hl, List.take_length] at hL
        refine ⟨_, rfl, rfl, false, rfl, iteF ⟨_, rfl, rfl, false, rfl, iteF ⟨_, rfl, L, _, rfl, sqL hL, ?_⟩⟩⟩
        rw [show (fs.map (comeN F Dd m n)).any id = fs.any (comeN F Dd m n) by rw [List.any_map]; rfl]
        exact q H5 (s02.trans s5)
theorem ok_lm {f fO : Addr} {fd fdO : FuncData} {k : Nat} (B : Bi mg) (D : Df K mg "_law_comes" sLm f fd pLm) (DO : Df K mg "_law_outlives" sOl fO fdO ["_law_deaths_here", "_law_one", "_law_at"]) (GO : FnOk P w K mg base CX0 (k + 1) fO fdO ["_law_deaths_here", "_law_one", "_law_at"] (spOl K)) :
    ∀ r, FnOk P w K mg base CX0 (k + 1 + r + 1) f fd pLm (spLm K r)
  | 0 => lm_step (r := 0) B D DO GO ⟨fun _ _ _ _ h => h.elim, fun _ _ _ _ _ _ _ _ _ _ _ _ _ h => h.elim⟩
  | r + 1 => lm_step (r := r + 1) B D DO GO (ok_lm B D DO GO r)
end
end WdQ

set_option Elab.async false
set_option linter.all false
set_option maxRecDepth 100000
set_option maxHeartbeats 4000000
set_option exponentiation.threshold 5000
namespace WdQ
open PySem PySem.Spec PyProof.Rows L2 WdM Wd
abbrev sDo : Stmt := topS 81
theorem scDo : FnScope ["_law_term", "_law_found", "_law_part"] ["_law_term"] (defScope sDo) := ⟨rfl, rfl, rfl, by decide +kernel, rfl, by decide +kernel, by decide +kernel⟩
/-! ### the days told in a condition -/
def intsOf : List PyData → List Int
  | [_, .int i] => [i]
  | _ => []
def daysL (f : PyData → List Int) (w : Str) (ts : List PyData) : List Int := if eqW w "childless" = true then [] else if eqW w "lives" = true then intsOf ts else (ts.map f).flatten
def daysN : Nat → PyData → List Int
  | 0, _ => []
  | r + 1, .tuple (.str w :: ts) => daysL (daysN r) w ts
  | _ + 1, _ => []
theorem days_livAt {q : Nat} {z : Str} {i : Int} : daysN (q + 1) (.tuple [.str "lives", .str z, .int i]) = [i] := by
  show daysL _ "lives" _ = _
  unfold daysL
  rw [if_neg (by decide), if_pos (by decide)]
  rfl
theorem days_liv {q : Nat} {z : Str} : daysN (q + 1) (.tuple [.str "lives", .str z]) = [] := by
  show daysL _ "lives" _ = _
  unfold daysL
  rw [if_neg (by decide), if_pos (by decide)]
  rfl
theorem days_neg {q : Nat} {c : PyData} : daysN (q + 1) (.tuple [.str "not", c]) = daysN q c := by
  show daysL _ "not" _ = _
  unfold daysL
  rw [if_neg (by decide), if_neg (by decide)]
  simp
theorem days_row {q : Nat} {b : Bool} {cs : List PyData} : daysN (q + 1) (.tuple (.str (rowS b) :: cs)) = (cs.map (daysN q)).flatten := by
  show daysL _ (rowS b) _ = _
  unfold daysL
  cases b
  · rw [if_neg (by decide), if_neg (by decide)]
  · rw [if_neg (by decide), if_neg (by decide)]
/-! ### those who outlive all days live on -/
def cutD (b : Int) (D : List (Str × Int)) : List (Str × Int) := D.filter fun r => decide (r.2 ≤ b)
theorem look_cut {b : Int} : ∀ {D : List (Str × Int)}, GoodD D → ∀ z, look (cutD b D) z = (match look D z with | some d => if d ≤ b then some d else none | none => none)
  | [], _, z => rfl
  | r :: D, g, z => by
    have ih := look_cut (b := b) (goodD_tail g) z
    show look (List.filter _ (r :: D)) z = (match (if r.1 = z then some r.2 else look D z) with | some d => if d ≤ b then some d else none | none => none)
    rw [List.filter_cons]
    by_cases e : r.1 = z
    · rw [if_pos e]
      by_cases l : r.2 ≤ b
      · rw [if_pos (decide_eq_true l)]
        show (if r.1 = z then some r.2 else _) = _
        rw [if_pos e]
        show some r.2 = if r.2 ≤ b then some r.2 else none
        rw [if_pos l]
      · rw [if_neg (by rw [decide_eq_false l]; decide)]
        show look (cutD b D) z = if r.2 ≤ b then some r.2 else none
        rw [if_neg l, ih]
        have no : look D z = none := by
          have h : ∀ x ∈ D, x.1 ≠ z := fun x hx ex => by
            have lt := goodD_lt g x hx
            rw [e, ex] at lt
            exact List.lt_irrefl _ lt
          clear ih g
          induction D with
          | nil => rfl
          | cons s D ih =>
            show (if s.1 = z then some s.2 else look D z) = none
            rw [if_neg (h s List.mem_cons_self)]
            exact ih fun x hx => h x (List.mem_cons_of_mem _ hx)
        rw [no]
    · rw [if_neg e]
      by_cases l : r.2 ≤ b
      · rw [if_pos (decide_eq_true l)]
        show (if r.1 = z then some r.2 else look (cutD b D) z) = _
        rw [if_neg e, ih]
      · rw [if_neg (by rw [decide_eq_false l]; decide)]
        exact ih
theorem alive_cut {b : Int} {D : List (Str × Int)} (g : GoodD D) (z : Str) {m : Int} (h : m ≤ b) : aliveB (cutD b D) z m = aliveB D z m := by
  unfold aliveB
  rw [look_cut g]
  cases look D z with
  | none => rfl
  | some d =>
    by_cases l : d ≤ b
    · simp only [if_pos l]
    · simp only [if_neg l]
      exact (decide_eq_true (show d > m by omega)).symm
theorem come_cut {F : List (Str × Option Str)} {D : List (Str × Int)} {b m : Int} (g : GoodD D) (hm : m ≤ b) : ∀ {r : Nat} {d : PyData}, formB r d = true → (∀ i ∈ daysN r d, i ≤ b) → comeN F (cutD b D) m r d = comeN F D m r d := by
  intro r
  induction r with
  | zero => intro d h; cases h
  | succ r ih =>
    intro d h hd
    obtain ⟨q, e, v⟩ := form_view h
    obtain rfl : r = q := by omega
    cases v with
    | liv z hz => rw [come_liv, come_liv, alive_cut g z hm]
    | livAt z i hz i0 i1 =>
      rw [days_livAt] at hd
      rw [come_livAt, come_livAt, alive_cut g z (hd i (by simp))]
    | chl z hz =>
      rw [come_chl, come_chl]
      congr 1
      exact any_eqF fun y _ => alive_cut g y hm
    | neg c hc =>
      rw [days_neg] at hd
      rw [come_neg, come_neg, ih hc hd]
    | row b c1 c2 cs l a =>
      rw [days_row] at hd
      have sub : ∀ c ∈ c1 :: c2 :: cs, comeN F (cutD _ D) m r c = comeN F D m r c := fun c hc => ih (a c hc) fun i hi => hd i (List.mem_flatten.mpr ⟨_, List.mem_map.mpr ⟨c, hc, rfl⟩, hi⟩)
      cases b
      · rw [show rowS false = "or" from rfl, come_or, come_or]
        exact any_eqF sub
      · rw [show rowS true = "and" from rfl, come_and, come_and]
        exact all_eqF sub
theorem goodD_cut {b : Int} {D : List (Str × Int)} (g : GoodD D) : (∀ r ∈ cutD b D, r ∈ D) ∧ (cutD b D).length ≤ 8 := by
  refine ⟨fun r hr => (List.mem_filter.mp hr).1, ?_⟩
  have := List.length_filter_le (fun r : Str × Int => decide (r.2 ≤ b)) D
  have := g.l8
  show (List.filter _ _).length ≤ 8
  omega
end WdQ

set_option Elab.async false
set_option linter.all false
set_option maxRecDepth 100000
set_option maxHeartbeats 4000000
set_option exponentiation.threshold 5000
namespace WdQ
open PySem PySem.Spec PyProof.Rows L2 WdM Wd
theorem ints_le (ts : List PyData) : (intsOf ts).length ≤ 1 := by
  unfold intsOf
  split <;> simp
theorem days_le : ∀ {r : Nat} {d : PyData}, formB r d = true → (daysN r d).length ≤ 6 ^ r := by
  intro r
  induction r with
  | zero => intro d h; cases h
  | succ r ih =>
    intro d h
    obtain ⟨q, e, v⟩ := form_view h
    obtain rfl : r = q := by omega
    have p : 0 < 6 ^ r := Nat.pow_pos (by decide)
    rw [Nat.pow_succ]
    have flat : ∀ cs : List PyData, cs.length ≤ 6 → (∀ c ∈ cs, formB r c = true) → ((cs.map (daysN r)).flatten).length ≤ 6 ^ r * 6 := fun cs l a => by
      rw [List.length_flatten, List.map_map]
      have := sum_le (f := fun c => (daysN r c).length) (b := 6 ^ r) (ds := cs) fun d hd => ih (a d hd)
      have := Nat.mul_le_mul_right (6 ^ r) l
      have e : (List.map (List.length ∘ daysN r) cs) = cs.map fun c => (daysN r c).length := rfl
      rw [e]
      omega
    cases v with
    | liv z _ => rw [days_liv]; simp
    | livAt z i _ _ _ => rw [days_livAt]; simp; omega
    | chl z _ => exact Nat.zero_le _
    | neg c hc => rw [days_neg]; have := ih hc; omega
    | row b c1 c2 cs l a => rw [days_row]; exact flat _ l a
theorem days_in : ∀ {r : Nat} {d : PyData}, formB r d = true → ∀ i ∈ daysN r d, -9999 ≤ i ∧ i ≤ 9999 := by
  intro r
  induction r with
  | zero => intro d h; cases h
  | succ r ih =>
    intro d h i hi
    obtain ⟨q, e, v⟩ := form_view h
    obtain rfl : r = q := by omega
    cases v with
    | liv z _ => rw [days_liv] at hi; cases hi
    | livAt z j _ j0 j1 => rw [days_livAt] at hi; rw [List.mem_singleton.mp hi]; exact ⟨j0, j1⟩
    | chl z _ => cases hi
    | neg c hc => rw [days_neg] at hi; exact ih hc i hi
    | row b c1 c2 cs l a =>
      rw [days_row] at hi
      obtain ⟨l, hl, il⟩ := List.mem_flatten.mp hi
      obtain ⟨c, hc, rfl⟩ := List.mem_map.mp hl
      exact ih (a c hc) i il
/-- the ways, for the days -/
theorem days_ways {n : Nat} {d : PyData} (fv : Fv n d) : ∃ wd t ts, d = .tuple (.str wd :: t :: ts) ∧ ((eqW wd "childless" = true ∧ daysN (n + 1) d = []) ∨ (eqW wd "childless" = false ∧ eqW wd "lives" = true ∧ ((ts = [] ∧ daysN (n + 1) d = []) ∨ ∃ i, ts = [.int i] ∧ daysN (n + 1) d = [i])) ∨
    (eqW wd "childless" = false ∧ eqW wd "lives" = false ∧ (t :: ts).length ≤ 6 ∧ (∀ c ∈ t :: ts, formB n c = true) ∧ daysN (n + 1) d = ((t :: ts).map (daysN n)).flatten)) := by
  cases fv with
  | liv z hz => exact ⟨_, _, _, rfl, .inr (.inl ⟨by decide, by decide, .inl ⟨rfl, days_liv⟩⟩)⟩
  | livAt z i hz _ _ => exact ⟨_, _, _, rfl, .inr (.inl ⟨by decide, by decide, .inr ⟨i, rfl, days_livAt⟩⟩)⟩
  | chl z hz => exact ⟨_, _, _, rfl, .inl ⟨by decide, rfl⟩⟩
  | neg c hc => exact ⟨_, _, _, rfl, .inr (.inr ⟨by decide, by decide, by simp, fun d hd => by rw [List.mem_singleton.mp hd]; exact hc, by rw [days_neg]; simp⟩)⟩
  | row b c1 c2 cs l a => exact ⟨_, _, _, rfl, .inr (.inr ⟨by cases b <;> decide, by cases b <;> decide, l, a, days_row⟩)⟩
section
variable {P : Program} {w : World} {K : PySem.W.Frag} {mg : Str → Option Value} {base : Heap}
theorem cutTN {σ : L2.St} {H : Hp} {a : Addr} {xs : List V} {lo : Option Int} {Q : VK} (ha : SqT K H a xs) (q : ∀ p H', Same H H' → SqT K H' p (cutV xs lo none) → Q (.ref p) H') : tNoPart σ H fun u H3 => rSlA K (.ref a) lo u H3 Q :=
  ⟨a, xs, rfl, ha, fun ⟨e1, e2⟩ => q a H (Same.refl H) (by unfold cutV; rw [e1, e2]; simpa using ha), fun _ p np => q p _ (same_new np) (sqT upd_same)⟩
def spDo (K : PySem.W.Frag) (r : Nat) : Sp := fun vs H Q _ => (vs = [.non] ∧ ∀ p, H p = none → Q (.ref p) (upd H p (.lst []))) ∨ ∃ (S : List Addr) (v : V) (d : PyData), vs = [v] ∧ Dz S K H v d ∧ formB r d = true ∧ ∀ H' p, Same H H' → H p = none → H' p = some (.lst ((daysN r d).map V.int)) → Q (.ref p) H'
def spDoR (K : PySem.W.Frag) : Nat → Sp
  | 0 => fun _ _ _ _ => False
  | r + 1 => spDo K r
theorem do_step {f : Addr} {fd : FuncData} {k r : Nat} (r6 : r ≤ 6) (B : Bi mg) (D : Df K mg "_law_days_of" sDo f fd ["_law_term"]) (GB : FnOk P w K mg base CX0 (k + r) f fd ["_law_term"] (spDoR K r)) : FnOk P w K mg base CX0 (k + r + 1) f fd ["_law_term"] (spDo K r) := by
  refine D.fn.ok scDo (fun vs H Q E h => ?_) (fun cdv A outer s H vs Q E hr h => ?_)
  · rcases h with ⟨rfl, _⟩ | ⟨S, v, d, rfl, _⟩ <;> rfl
  · refine ⟨_, pss_cons (ps_if (PW.pt (pw_or (pt_cmpR op_isN (pv 0) pe_non (nomark _)) (pw_or1 (pt_cmpR op_eq (pe_ix (r := rIxT K) ix_tup (pv 0) pe_int (fun _ _ => rfl)) pe_str (nomark _))))) (pss_one (ps_ret (pe_lst pa_nil))) pss_nil)
      (pss_cons (ps_if (pt_cmpR op_eq (pe_ix (r := rIxT K) ix_tup (pv 0) pe_int (fun _ _ => rfl)) pe_str (nomark _)) (pss_one (ps_ret (pe_callTy call_list_of (by rfl) B.list boot_list (pa_cons (pe_slice sl_tupA (pv 0) (po_some pe_int) po_none) pa_nil)))) pss_nil)
      (pss_cons (ps_set (i := 1) scDo.nd rfl (.inl rfl) (pe_lst pa_nil))
      (pss_cons (ps_for PassesOwn.never rfl (pi_tup (pe_slice sl_tupA (pv 0) (po_some pe_int) po_none)) (pg_name (i := 2) scDo.nd rfl (.inl rfl))
        (pss_one (ps_set (i := 1) scDo.nd rfl (.inl rfl) (pe_op op_cat (pv 1) (pe_call GB hr (by rfl) D.mg D.fn.kp D.bd .nil pass0 (pa_cons (pv 2) pa_nil))))))
      (pss_one (ps_ret (pv 1)))))), ?_⟩
    rcases h with ⟨rfl, q⟩ | ⟨S, v, d, rfl, dz, fm, q⟩
    · exact ⟨_, rfl, rfl, true, rfl, iteT (iteT ⟨by show 0 ≤ sizeLine; decide, fun p np => q p np⟩)⟩
    obtain ⟨n, rfl, fv⟩ := form_view fm
    obtain ⟨wd, t, ts, rfl, ways⟩ := days_ways fv
    obtain ⟨a, xs, rfl, hs, hd⟩ := dz_tup dz
    obtain ⟨x1, x2, ys, d1, d2, es, rfl, e, h1, h2, hts⟩ := dz_cons2 hd (by simp)
    cases e
    obtain rfl := dz_str h1
    refine ⟨_, rfl, rfl, false, rfl, iteF ⟨_, rfl, a, _, 0, _, rfl, rfl, hs, atI_nat (j := 0) rfl, rfl, _, rfl, ?_⟩⟩
    show if eqW wd "childless" = true then _ else _
    rcases ways with ⟨hc, en⟩ | ⟨hc, hl, ways⟩ | ⟨hc, hl, l6, all, en⟩
    · rw [hc]
      rw [en] at q
      exact iteT ⟨by show 0 ≤ sizeLine; decide, fun p np => q _ p (same_new np) np upd_same⟩
    · rw [hc]
      refine iteF ⟨_, rfl, a, _, 0, _, rfl, rfl, hs, atI_nat (j := 0) rfl, rfl, _, rfl, ?_⟩
      show if eqW wd "lives" = true then _ else _
      rw [hl]
      refine iteT ⟨_, rfl, 2, rfl, ?_⟩
      refine (show tNoPart _ H _ from cutTN hs fun p1 H1 s1 sq => ?_)
      rcases ways with ⟨rfl, en⟩ | ⟨i, rfl, en⟩
      · cases hts
        rw [en] at q
        exact ⟨p1, [], rfl, .inr sq, fun p np => q _ p (s1.trans (same_new np)) (s1.free np) upd_same⟩
      · cases hts with
        | cons h3 h4 =>
        cases h4
        cases h3
        rw [en] at q
        exact ⟨p1, [.int i], rfl, .inr sq, fun p np => q _ p (s1.trans (same_new np)) (s1.free np) upd_same⟩
    · rw [hc]
      refine iteF ⟨_, rfl, a, _, 0, _, rfl, rfl, hs, atI_nat (j := 0) rfl, rfl, _, rfl, ?_⟩
      show if eqW wd "lives" = true then _ else _
      rw [hl]
      rw [en] at q
      refine iteF ⟨by show 0 ≤ sizeLine; decide, fun pF nF => ?_⟩
      have s2 : Same H (upd H pF (.lst [])) := same_new nF
      have hF : (upd H pF (.lst [])) pF = some (.lst []) := upd_same
      revert s2 hF
      generalize upd H pF (.lst []) = H2
      intro s2 hF
      have hs2 := (tk_same s2).sq hs
      refine ⟨_, rfl, 1, rfl, ?_⟩
      refine (show tNoPart _ H2 _ from cut_tup1 hs2 (by show 1 ≤ _; simp) (fun p H3 s3 sq => ?_))
      have sq : SqT K H3 p (x2 :: ys) := sq
      have s03 := s2.trans s3
      have ht1 : DzAll S K H3 (x2 :: ys) (t :: ts) := (DzAll.cons h2 hts).same s03
      have hln := ht1.len
      have lf : ∀ e ∈ t :: ts, (daysN n e).length ≤ 6 ^ 5 := fun e he => Nat.le_trans (days_le (all e he)) (Nat.pow_le_pow_right (by decide) (by omega))
      have hF3 := s3 _ _ hF
      clear fv fm dz en hs hd h1 h2 hts hs2
      revert sq ht1 hln q all l6 lf
      generalize x2 :: ys = zs
      generalize t :: ts = fs
      intro q l6 all sq ht1 hln lf
      have part : ∀ i, i ≤ zs.length → (((fs.take i).map (daysN n)).flatten).length ≤ 46656 := fun i hi => by
        rw [List.length_flatten, List.map_map]
        have := sum_le (f := fun c => (daysN n c).length) (b := 6 ^ 5) (ds := fs.take i) fun d hd => lf d (List.mem_of_mem_take hd)
        have l : (fs.take i).length ≤ 6 := by rw [List.length_take]; omega
        have := Nat.mul_le_mul_right (6 ^ 5) l
        have e : (List.map (List.length ∘ daysN n) (fs.take i)) = (fs.take i).map fun c => (daysN n c).length := rfl
        rw [e]
        omega
      refine ⟨p, rfl, ⟨zs, sq⟩, for_tup (K := K) (a := p) (xs := zs) (fun i σ H' => ∃ (y : Option V) (pL : Addr), σ = [some (.ref a), some (.ref pL), y] ∧ H pL = none ∧ H' pL = some (.lst ((((fs.take i).map (daysN n)).flatten).map V.int)) ∧ Same H H' ∧ Same H3 H') ⟨none, pF, rfl, nF, hF3, s03, Same.refl H3⟩ (fun i σ H' _ h => by obtain ⟨y, pL, _, _, _, _, s⟩ := h; exact (tk_same s).sq sq) ?_ ?_⟩
      · rintro i x σ H4 hx ⟨y, pL, rfl, nL, hL, s4, s34⟩
        obtain ⟨e, he, dx⟩ := ht1.get hx
        have fe := all e (List.mem_of_getElem? he)
        have il := lt_get hx
        refine ⟨_, rfl, _, rfl, .inr ⟨S, x, e, rfl, dx.same s34, fe, fun H5 p5 s5 n5 h5 => ⟨pL, p5, _, _, rfl, rfl, s5 _ _ hL, h5, ?_, fun p6 n6 => ?_⟩⟩⟩
        · have := part (i + 1) (by omega)
          rw [take_more he, List.map_append, List.flatten_append, List.length_append] at this
          simp only [List.map_cons, List.map_nil, List.flatten_cons, List.flatten_nil, List.append_nil] at this
          rw [List.length_map, List.length_map]
          exact Nat.le_trans this (by decide)
        · refine ⟨_, p6, rfl, (s4.trans s5).free n6, ?_, (s4.trans s5).trans (same_new n6), (s34.trans s5).trans (same_new n6)⟩
          rw [upd_same, take_more he, List.map_append, List.flatten_append, List.map_append]
          simp only [List.map_cons, List.map_nil, List.flatten_cons, List.flatten_nil, List.append_nil]
      · rintro σ H4 ⟨y, pL, rfl, nL, hL, s4, s34⟩
        rw [hln, List.take_length] at hL
        exact ⟨_, rfl, q H4 pL s4 nL hL⟩
theorem ok_do {f : Addr} {fd : FuncData} {k : Nat} (B : Bi mg) (D : Df K mg "_law_days_of" sDo f fd ["_law_term"]) : ∀ r, r ≤ 6 → FnOk P w K mg base CX0 (k + r + 1) f fd ["_law_term"] (spDo K r)
  | 0, h => do_step (r := 0) h B D ⟨fun _ _ _ _ h => h.elim, fun _ _ _ _ _ _ _ _ _ _ _ _ _ h => h.elim⟩
  | r + 1, h => do_step (r := r + 1) h B D (ok_do B D r (by omega))
end
end WdQ

set_option Elab.async false
set_option linter.all false
set_option maxRecDepth 100000
set_option maxHeartbeats 4000000
set_option exponentiation.threshold 5000
namespace WdQ
open PySem PySem.Spec PyProof.Rows L2 WdM Wd
abbrev sDp : Stmt := topS 82
theorem scDp : FnScope ["_law_term", "_law_part"] ["_law_term"] (defScope sDp) := ⟨rfl, rfl, rfl, by decide +kernel, rfl, by decide +kernel, by decide +kernel⟩
theorem deep_ways {n : Nat} {d : PyData} (fv : Fv n d) : ∃ wd t ts, d = .tuple (.str wd :: t :: ts) ∧ (((eqW wd "lives" || eqW wd "childless") = true ∧ formB 1 d = true) ∨
    ((eqW wd "lives" || eqW wd "childless") = false ∧ (t :: ts).length ≤ 6 ∧ (∀ c ∈ t :: ts, formB n c = true) ∧ ∀ m, (∀ c ∈ t :: ts, formB m c = true) → formB (m + 1) d = true)) := by
  cases fv with
  | liv z hz => exact ⟨_, _, _, rfl, .inl ⟨by decide, form_liv hz⟩⟩
  | livAt z i hz i0 i1 => exact ⟨_, _, _, rfl, .inl ⟨by decide, form_livAt hz i0 i1⟩⟩
  | chl z hz => exact ⟨_, _, _, rfl, .inl ⟨by decide, form_chl hz⟩⟩
  | neg c hc => exact ⟨_, _, _, rfl, .inr ⟨by decide, by simp, fun d hd => by rw [List.mem_singleton.mp hd]; exact hc, fun m h => form_neg (h c (by simp))⟩⟩
  | row b c1 c2 cs l a => exact ⟨_, _, _, rfl, .inr ⟨row_leaf b, l, a, fun m h => form_row (by simp) l h⟩⟩
section
variable {P : Program} {w : World} {K : PySem.W.Frag} {mg : Str → Option Value} {base : Heap}
def spDp (K : PySem.W.Frag) (r : Nat) : Sp := fun vs H Q _ => ∃ (S : List Addr) (v : V) (d : PyData), vs = [v] ∧ Dz S K H v d ∧ formB r d = true ∧ ∀ H' (e : Nat), Same H H' → formB e d = true → 1 ≤ e → e ≤ r → Q (.int (e : Nat)) H'
def spDpR (K : PySem.W.Frag) : Nat → Sp
  | 0 => fun _ _ _ _ => False
  | r + 1 => spDp K r
def natV (e : Nat) : Int := (e : Nat)
theorem dp_step {f : Addr} {fd : FuncData} {k r : Nat} (B : Bi mg) (D : Df K mg "_law_deep" sDp f fd ["_law_term"]) (GB : FnOk P w K mg base CX0 (k + r) f fd ["_law_term"] (spDpR K r)) : FnOk P w K mg base CX0 (k + r + 1) f fd ["_law_term"] (spDp K r) := by
  refine D.fn.ok scDp (fun vs H Q E h => ?_) (fun cdv A outer s H vs Q E hr h => ?_)
  · obtain ⟨S, v, d, rfl, _⟩ := h
    rfl
  · obtain ⟨S, v, d, rfl, dz, fm, q⟩ := h
    refine ⟨_, pss_cons (ps_if (pt_cmpR op_in_seq (pe_ix (r := rIxT K) ix_tup (pv 0) pe_int (fun _ _ => rfl)) (PE.wk (t' := tWsN leafV) (pe_lst (pa_cons pe_str (pa_cons pe_str pa_nil))) (by intro σ H Q q; exact ⟨by show leafV.length ≤ sizeLine; decide, fun p n => q p _ (same_new n) n upd_same⟩)) (by rfl))
        (pss_one (ps_ret pe_int)) pss_nil)
      (pss_one (ps_ret (pe_op op_add pe_int (pe_callB (cr_max rfl) (by rfl) B.max (by decide +kernel) (pa_cons (pe_lc (own := [("_law_part", 1)]) (g := gName 1) (tt := tYes) rfl scDp.nd (pi_tup (pe_slice sl_tupA (pv 0) (po_some pe_int) po_none)) (blkOk_by (own := [("_law_part", 1)]) (N := ["_law_term", "_law_part"]) (sc := defScope sDp) (by decide +kernel))
          (fun _ _ _ _ _ => pg_name (i := 1) scDp.nd rfl (Or.inl rfl)) (fun _ _ _ _ _ => pts_nil) (fun _ _ _ _ _ => pe_call GB hr (by rfl) D.mg D.fn.kp D.bd .nil pass0 (pa_cons (pv 1) pa_nil))) pa_nil))))), ?_⟩
    obtain ⟨n, rfl, fv⟩ := form_view fm
    obtain ⟨wd, t, ts, rfl, ways⟩ := deep_ways fv
    obtain ⟨a, xs, rfl, hs, hd⟩ := dz_tup dz
    obtain ⟨x1, x2, ys, d1, d2, es, rfl, e, h1, h2, hts⟩ := dz_cons2 hd (by simp)
    cases e
    obtain rfl := dz_str h1
    refine ⟨_, rfl, a, _, 0, _, rfl, rfl, hs, atI_nat (j := 0) rfl, fun pW H1 s1 nW hW => ⟨pW, _, rfl, .inl (sqL hW), rfl, rfl, _, rfl, ?_⟩⟩
    rw [in_leafV]
    have hs1 := (tk_same s1).sq hs
    rcases ways with ⟨hw, f1⟩ | ⟨hw, l6, all, re⟩
    · rw [hw]
      exact iteT (q H1 1 s1 f1 (Nat.le_refl _) (by omega))
    · rw [hw]
      refine iteF ⟨_, rfl, 1, rfl, ?_⟩
      refine (show tNoPart _ H1 _ from cut_tup1 hs1 (by show 1 ≤ _; simp) (fun p H3 s3 sq => ?_))
      have sq : SqT K H3 p (x2 :: ys) := sq
      have s03 := s1.trans s3
      have ht1 : DzAll S K H3 (x2 :: ys) (t :: ts) := (DzAll.cons h2 hts).same s03
      have hln := ht1.len
      have l1 : 1 ≤ (t :: ts).length := by simp
      clear dz hs hd h1 h2 hts hs1 fm fv
      revert sq ht1 hln all l6 re l1 q
      generalize PyData.tuple (.str wd :: t :: ts) = d0
      generalize x2 :: ys = zs
      generalize t :: ts = fs
      intro q l6 all re sq ht1 hln l1
      refine ⟨p, rfl, ⟨zs, sq⟩, fun L nL => ?_⟩
      refine lc_tup (K := K) (a := p) (xs := zs) (fun j H' => ∃ es : List Nat, H' L = some (.lst ((es.map natV).map V.int)) ∧ A2 (fun e c => formB e c = true ∧ 1 ≤ e ∧ e ≤ n) es (fs.take j) ∧ Same H3 H') ⟨[], upd_same, .nil, same_new nL⟩ (fun j H' _ h => by obtain ⟨_, _, _, s⟩ := h; exact (tk_same s).sq sq) ?_ ?_
      · rintro j x H5 hx5 ⟨es, hL, al, s5⟩
        obtain ⟨c, hc, dx⟩ := ht1.get hx5
        have il := lt_get hx5
        refine ⟨rfl, tyes (iteT ⟨_, rfl, S, x, c, rfl, dx.same s5, all c (List.mem_of_getElem? hc), fun H6 e s6 fe e1 en => ⟨_, s6 _ _ hL, ?_, es ++ [e], ?_, ?_, ((Bt.of_same (S := []) (s5.trans s6)).upd0 nL).same⟩⟩)⟩
        · rw [List.length_map, List.length_map, al.len, List.length_take]
          exact small1000 (by omega)
        · rw [upd_same, List.map_append, List.map_append]
          rfl
        · rw [take_more hc]
          exact al.append (.cons ⟨fe, e1, en⟩ .nil)
      · rintro H5 ⟨es, hL, al, s5⟩
        rw [hln, List.take_length] at al
        have el := al.len
        refine ⟨L, es.map natV, rfl, sqL hL, by rw [List.length_map]; omega, fun m hm hy => ?_⟩
        obtain ⟨e, he, rfl⟩ := List.mem_map.mp hm
        obtain ⟨i, hi⟩ := List.mem_iff_getElem?.mp he
        obtain ⟨c, _, fe, e1, en⟩ := al.get hi
        refine ⟨1, natV e, rfl, rfl, ?_⟩
        have up : ∀ c ∈ fs, formB e c = true := fun c hc => by
          obtain ⟨i, hi⟩ := List.mem_iff_getElem?.mp hc
          have il : i < es.length := by rw [el]; exact (List.getElem?_eq_some_iff.mp hi).1
          obtain ⟨c', hc', fe', _, _⟩ := al.get (List.getElem?_eq_getElem il)
          rw [hi] at hc'
          cases hc'
          have le : natV es[i] ≤ natV e := hy _ (List.mem_map.mpr ⟨_, List.getElem_mem il, rfl⟩)
          exact (form_more (F := []) (D := []) (m := 0) fe' (Int.ofNat_le.mp le)).1
        have := q H5 (e + 1) (s03.trans s5) (re e up) (by omega) (by omega)
        show Q (V.int (1 + natV e)) H5
        rw [show (1 + natV e) = ((e + 1 : Nat) : Int) by show (1 : Int) + (e : Nat) = _; omega]
        exact this
theorem ok_dp {f : Addr} {fd : FuncData} {k : Nat} (B : Bi mg) (D : Df K mg "_law_deep" sDp f fd ["_law_term"]) : ∀ r, FnOk P w K mg base CX0 (k + r + 1) f fd ["_law_term"] (spDp K r)
  | 0 => dp_step (r := 0) B D ⟨fun _ _ _ _ h => h.elim, fun _ _ _ _ _ _ _ _ _ _ _ _ _ h => h.elim⟩
  | r + 1 => dp_step (r := r + 1) B D (ok_dp B D r)
end
end WdQ

set_option Elab.async false
set_option linter.all false
set_option maxRecDepth 100000
set_option maxHeartbeats 4000000
set_option exponentiation.threshold 5000
namespace WdQ
open PySem PySem.Spec PyProof.Rows L2 WdM Wd
abbrev sDw : Stmt := topS 83
theorem scDw : FnScope ["_law_pool_here", "_law_folk", "_law_days", "_law_found"] ["_law_pool_here", "_law_folk", "_law_days"] (defScope sDw) := ⟨rfl, rfl, rfl, by decide +kernel, rfl, by decide +kernel, by decide +kernel⟩
section
variable {P : Program} {w : World} {K : PySem.W.Frag} {mg : Str → Option Value} {base : Heap}
/-- a good condition of at most twelve names -/
def Ch (K : PySem.W.Frag) (zs : List Str) (H : Hp) (v : V) : Prop := ∃ d, Dz [] K H v d ∧ formB 6 d = true ∧ (namesN 6 d).length ≤ 12 ∧ ∀ z ∈ namesN 6 d, z ∈ zs
def spDw (K : PySem.W.Frag) : Sp := fun vs H Q _ => ∃ (l aN aD : Addr) (zs : List Str) (ds : List Int), vs = [.ref l, .ref aN, .ref aD] ∧ PoolAt H l ∧ H aN = some (.lst (zs.map V.str)) ∧ H aD = some (.lst (ds.map V.int)) ∧ aN ≠ l ∧ aD ≠ l ∧ (∀ z ∈ zs, nmB z = true) ∧ (∀ i ∈ ds, -9999 ≤ i ∧ i ≤ 9999) ∧ 1 ≤ zs.length ∧ 1 ≤ ds.length ∧
  ∀ (H' : Hp) (v : V), Bt [l] H H' → PoolAt H' l → Ch K zs H' v → Q v H'
/-- a part of a condition with many names -/
theorem cg_part {H : Hp} {zs : List Str} {n : Nat} {v : V} {d : PyData} (dz : Dz [] K H v d) (fm : formB n d = true) (nm : ∀ z ∈ namesN n d, z ∈ zs) (big : 12 < (namesN n d).length) : ∃ (a : Addr) (xs : List V) (x : V) (m : Nat), n = m + 1 ∧ v = .ref a ∧ SqT K H a xs ∧ xs[1]? = some x ∧ Cg K zs m H x := by
  obtain ⟨m, rfl, fv⟩ := form_view fm
  obtain ⟨wd, t, ts, rfl, ways⟩ := names_ways fv
  obtain ⟨a, xs, rfl, hs, hd⟩ := dz_tup dz
  obtain ⟨x1, x2, ys, d1, d2, es, rfl, e, h1, h2, hts⟩ := dz_cons2 hd (by simp)
  cases e
  rcases ways with ⟨_, z, _, _, en⟩ | ⟨_, _, all, en⟩
  · rw [en] at big
    simp at big
  · refine ⟨a, _, x2, m, rfl, rfl, hs, rfl, t, h2, all t List.mem_cons_self, fun z hz => nm z ?_⟩
    rw [en]
    exact List.mem_flatten.mpr ⟨_, List.mem_map.mpr ⟨t, List.mem_cons_self, rfl⟩, hz⟩
theorem ok_dw {f fT fC fS : Addr} {fd fdT fdC fdS : FuncData} {k : Nat} (B : Bi mg) (D : Df K mg "_law_drawn" sDw f fd ["_law_pool_here", "_law_folk", "_law_days"]) (DT : Df K mg "_law_take" sTake fT fdT ["_law_pool_here", "_law_many"])
    (DC : Df K mg "_law_cond" sLc fC fdC ["_law_pool_here", "_law_folk", "_law_days", "_law_deep_here"]) (DS : Df K mg "_law_said_of" sSd fS fdS ["_law_term"]) (GT : FnOk P w K mg base CX0 (k + 1) fT fdT ["_law_pool_here", "_law_many"] spTake) :
    FnOk P w K mg base CX0 (k + 8) f fd ["_law_pool_here", "_law_folk", "_law_days"] (spDw K) := by
  have GC : FnOk P w K mg base CX0 (k + 7) fC fdC ["_law_pool_here", "_law_folk", "_law_days", "_law_deep_here"] (spLc K 6) := ok_lc (k := k) B DC DT GT 6
  have GS : FnOk P w K mg base CX0 (k + 7) fS fdS ["_law_term"] (spSd K 6) := ok_sd (k := k) DS 6 (by decide)
  refine D.fn.ok scDw (fun vs H Q E h => ?_) (fun cdv A outer s H vs Q E hr h => ?_)
  · obtain ⟨l, aN, aD, zs, ds, rfl, _⟩ := h
    rfl
  · obtain ⟨l, aN, aD, zs, ds, rfl, pool, hN, hD, nN, nD, oz, od, z1, d1, q⟩ := h
    have r1 : Room (k + 1) _ := hr.mono (by omega)
    refine ⟨_, pss_cons (ps_set (i := 3) scDw.nd rfl (.inl rfl) (pe_call GC hr (by rfl) DC.mg DC.fn.kp DC.bd .nil pass0 (pa_cons (pv 0) (pa_cons (pv 1) (pa_cons (pv 2) (pa_cons (pe_op op_add pe_int (pe_call GT r1 (by rfl) DT.mg DT.fn.kp DT.bd .nil pass0 (pa_cons (pv 0) (pa_cons pe_int pa_nil)))) pa_nil))))))
      (pss_cons (ps_while PassesOwn.never (pt_cmpR op_gt (pe_callB call_len_seq (by rfl) B.len PySem.boot_len (pa_cons (pe_call GS hr (by rfl) DS.mg DS.fn.kp DS.bd .nil pass0 (pa_cons (pv 3) pa_nil)) pa_nil)) pe_int (nomark _))
        (pss_one (ps_set (i := 3) scDw.nd rfl (.inl rfl) (pe_ix (r := rIxT K) ix_tup (pv 3) pe_int (fun _ _ => rfl)))))
      (pss_one (ps_ret (pv 3)))), ?_⟩
    refine ⟨_, rfl, _, rfl, _, rfl, _, rfl, l, 6, rfl, pool, by decide, fun H1 e1 b1 pool1 e10 e11 => ⟨1, e1, rfl, rfl, ?_⟩⟩
    obtain ⟨m, hm⟩ : ∃ m : Nat, 1 + e1 = (m : Nat) := ⟨(1 + e1).toNat, by omega⟩
    refine ⟨l, aN, aD, m, zs, ds, ?_, by omega, by omega, pool1, kept b1 hN (by simp [nN]), kept b1 hD (by simp [nD]), nN, nD, oz, od, z1, d1, fun H2 v2 b2 pool2 c2 => ?_⟩
    · show [V.ref l, V.ref aN, V.ref aD, V.int (1 + e1)] = _
      rw [hm]
    refine ⟨fun n σ H' => n ≤ 6 ∧ ∃ v, σ = [some (.ref l), some (.ref aN), some (.ref aD), some v] ∧ Bt [l] H H' ∧ PoolAt H' l ∧ Cg K zs n H' v, ⟨m, by omega, v2, rfl, b1.trans b2, pool2, c2⟩, ?_⟩
    rintro n σ H3 ⟨n6, v, rfl, b3, pool3, d, dz, fm, nm⟩
    obtain ⟨fm6, en, _⟩ := form_more (F := []) (D := []) (m := 0) fm n6
    refine ⟨_, rfl, [], v, d, rfl, dz, fm6, fun H4 p s4 np hp => ⟨p, _, rfl, .inl (sqL hp), _, 12, rfl, rfl, ?_⟩⟩
    have b4 : Bt [l] H H4 := b3.trans (.of_same s4)
    have pool4 := pool3.same s4
    rw [List.length_map]
    refine ⟨_, rfl, ?_⟩
    by_cases big : 12 < (namesN 6 d).length
    · rw [decide_eq_true (show (((namesN 6 d).length : Nat) : Int) > 12 by omega)]
      rw [en] at big
      obtain ⟨a, xs, x, j, rfl, rfl, hs, hx, cx⟩ := cg_part dz fm nm big
      refine iteT ⟨fun σ' H' => ∃ m', m' < j + 1 ∧ m' ≤ 6 ∧ ∃ v, σ' = [some (.ref l), some (.ref aN), some (.ref aD), some v] ∧ Bt [l] H H' ∧ PoolAt H' l ∧ Cg K zs m' H' v, fun σ' H' h => h, ?_⟩
      exact ⟨_, rfl, a, _, 1, x, rfl, rfl, (tk_same s4).sq hs, atI_nat (j := 1) hx, j, by omega, by omega, x, rfl, b4, pool4, cx.tk (tk_same s4)⟩
    · rw [decide_eq_false (show ¬ (((namesN 6 d).length : Nat) : Int) > 12 by omega)]
      exact iteF ⟨_, rfl, q H4 v b4 pool4 ⟨d, dz.same s4, fm6, by omega, by rw [en]; exact nm⟩⟩
end
end WdQ

set_option Elab.async false
set_option linter.all false
set_option maxRecDepth 100000
set_option maxHeartbeats 4000000
set_option exponentiation.threshold 5000
namespace WdQ
open PySem PySem.Spec PyProof.Rows L2 WdM Wd
/-! ### what is left of a story's rows still rises -/
theorem pw_goodD : ∀ {rows : List (Str × Int)}, GoodD rows → rows.Pairwise fun r s => r.1.cps.toList < s.1.cps.toList
  | [], _ => .nil
  | r :: rows, g => .cons (fun x hx => goodD_lt g x hx) (pw_goodD (goodD_tail g))
theorem pw_up : ∀ {rows : List (Str × Int)}, (rows.Pairwise fun r s => r.1.cps.toList < s.1.cps.toList) → ∀ (i : Nat) (r s : Str × Int), rows[i]? = some r → rows[i + 1]? = some s → r.1.cps.toList < s.1.cps.toList
  | [], _, i, r, s, h, _ => by simp at h
  | x :: rows, p, 0, r, s, h, k => by
    cases h
    exact (List.pairwise_cons.mp p).1 s (List.mem_of_getElem? (i := 0) k)
  | x :: rows, p, i + 1, r, s, h, k => pw_up (List.pairwise_cons.mp p).2 i r s h k
theorem goodD_cutD {b : Int} {D : List (Str × Int)} (g : GoodD D) : GoodD (cutD b D) := by
  obtain ⟨m, l⟩ := goodD_cut (b := b) g
  exact ⟨l, fun r hr => g.nm r (m r hr), fun r hr => g.dy r (m r hr), pw_up ((pw_goodD g).sublist List.filter_sublist)⟩
section
variable {P : Program} {w : World} {K : PySem.W.Frag} {mg : Str → Option Value} {base : Heap} {CY CN : Addr}
/-! ### a story, made of rows or of nothing -/
def spSIa (K : PySem.W.Frag) (CY : Addr) : Sp := fun vs H Q _ => ∃ (o dx : Addr) (v : V) (rows : List (Str × Int)), vs = [.ref o, v] ∧ H o = some (.ins CY dx []) ∧ ((v = .non ∧ rows = []) ∨ DeathsAt K H v rows) ∧ GoodD rows ∧ ∀ H', Bt [o] H H' → StoryAt K CY H' o rows → Q .non H'
theorem ok_SIa {f fC : Addr} {fd fdC : FuncData} {k : Nat} (T : SyF K CY) (F : FunD K "__init__" "Story.__init__" (defArgs sSI) (defBody sSI) (defScope sSI) [.non] [] f fd) (GC : FnOk P w K mg base (L2.CX P w) (k + 4) fC fdC ["deaths"] (spChkD K)) (DC : Df K mg "check_deaths" sChkD fC fdC ["deaths"]) :
    FnOk P w K mg base (L2.CX P w) (k + 5) f fd ["self", "deaths"] (spSIa K CY) := by
  refine F.ok scSI (fun vs H Q E h => ?_) (fun cdv A outer s H vs Q E hr h => ?_)
  · obtain ⟨o, dx, v, rows, rfl, _⟩ := h
    rfl
  · obtain ⟨o, dx, v, rows, rfl, ho, hv, gd, q⟩ := h
    refine ⟨_, pss_cons (ps_set (i := 2) scSI.nd rfl (.inl rfl) (pe_ifExp (pt_cmpR op_isN (pv 1) pe_non (nomark _)) (pe_tup pa_nil) (pv 1)))
      (pss_cons (ps_expr (pe_callS GC hr (by rfl) DC.mg DC.fn.kp DC.bd (fun σ => passAt (takes_of rfl rfl rfl rfl) σ) (pa_cons (pv 2) pa_nil)))
      (pss_one (ps_fld (pv 0) (pv 2) rfl))), ?_⟩
    have fin : ∀ H1 H2 (t : Addr), Same H H1 → Same H1 H2 → DeathsAt K H1 (.ref t) rows → Q .non (upd H2 o (.ins CY dx [("deaths", .ref t)])) := fun H1 H2 t s1 s2 dh => by
      refine q _ ((Bt.of_same (s1.trans s2)).upd1 (by simp)) ⟨dx, .ref t, upd_same, ?_, gd⟩
      refine (dh.tk (tk_same s2)).tk ?_
      exact tk_ins (s2 _ _ (s1 _ _ ho))
    rcases hv with ⟨rfl, rfl⟩ | hv
    · refine ⟨_, rfl, rfl, _, rfl, iteT ⟨by show 0 ≤ sizeLine; decide, fun t nt => ?_⟩⟩
      have s1 : Same H (upd H t (.tup [])) := same_new nt
      have dh : DeathsAt K (upd H t (.tup [])) (.ref t) [] := ⟨t, [], rfl, sqT upd_same, rfl, fun i x h => by simp at h⟩
      refine ⟨_, rfl, .ref t, [], rfl, dh, gd, fun H2 s2 => ?_⟩
      exact ⟨_, rfl, _, rfl, o, CY, dx, _, rfl, s2 _ _ (s1 _ _ ho), T.cl, T.n1, by show 0 < 1000; decide, fin _ H2 t s1 s2 dh⟩
    · have hv0 := hv
      obtain ⟨t, xs, rfl, hs, xl, hx⟩ := hv
      refine ⟨_, rfl, rfl, _, rfl, iteF ⟨_, rfl, _, rfl, .ref t, rows, rfl, hv0, gd, fun H1 s1 => ?_⟩⟩
      exact ⟨_, rfl, _, rfl, o, CY, dx, _, rfl, s1 _ _ ho, T.cl, T.n1, by show 0 < 1000; decide, fin H H1 t (Same.refl H) s1 hv0⟩
theorem same_made {G H' : Hp} {o d : Addr} {h1 h2 : HO} (no : G o = none) (nd : G d = none) (b : Bt [o] (upd (upd G d h1) o h2) H') : Same G H' := fun c x e => by
  have c1 : c ≠ o := ne_of_none e no
  have c2 : c ≠ d := ne_of_none e nd
  exact b c x (by simp [c1]) (by rw [upd_ne c1, upd_ne c2]; exact e)
end
end WdQ

set_option Elab.async false
set_option linter.all false
set_option maxRecDepth 100000
set_option maxHeartbeats 4000000
set_option exponentiation.threshold 5000
namespace WdQ
open PySem PySem.Spec PyProof.Rows L2 WdM Wd
abbrev sTo : Stmt := topS 84
def pTo : List Str := ["_law_home", "_law_term", "_law_tale", "_law_least", "_law_way"]
def pCo : List Str := ["house", "cond", "story", "wait"]
theorem scTo : FnScope pTo pTo (defScope sTo) := ⟨rfl, rfl, rfl, by decide +kernel, rfl, by decide +kernel, by decide +kernel⟩
theorem passNoP {X : Cx} : Passes (L2.CX X.prog X.w) X E0 := fun _ _ _ _ _ _ _ h => by
  obtain ⟨_, _, _, _, _, _, _, _, _, _, _, _, h⟩ := h
  exact h.elim
section
variable {P : Program} {w : World} {K : PySem.W.Frag} {mg : Str → Option Value} {base : Heap} {CH CY CD CP : Addr}
def spTo (K : PySem.W.Frag) (CH CY : Addr) : Sp := fun vs H Q _ => ∃ (S : List Addr) (ho so : Addr) (v : V) (d : PyData) (m way : Int) (F : List (Str × Option Str)) (D : List (Str × Int)), vs = [.ref ho, v, .ref so, .int m, .int way] ∧ HomeAt K CH H ho F ∧ StoryAt K CY H so D ∧ Dz S K H v d ∧ Sml d ∧ condNB d = true ∧ -9999 ≤ m ∧ m ≤ 9999 ∧ missN (F.map Prod.fst) (namesO d) = none ∧
  ∀ H', Same H H' → Q (.bl (comeO F D m d)) H'
theorem ok_to {f fC : Addr} {fd fdC : FuncData} {ds : List Value} (D : Df K mg "_law_told" sTo f fd pTo) (gC : mg "comes" = some (.ref fC)) (kC : PySem.W.keepIn K (.ref fC) = true) (GC : FnOk P w K mg base (L2.CX P w) 13 fC fdC pCo (spComes K CH CY CD CP))
    (b4 : Binds K fdC pCo []) (b3 : Binds K fdC pCo ds) (v3 : Vals [.int 0] ds) (k1 : KBn K fdC pCo 0 ["wait", "story", "cond", "house"] (fun us ws => us ++ ws.reverse) (fun vs zs => vs ++ zs.reverse)) (k3 : KBn K fdC pCo 3 ["wait"] (fun us ws => us ++ ws) (fun vs zs => vs ++ zs)) :
    FnOk P w K mg base CX0 14 f fd pTo (spTo K CH CY) := by
  refine D.fn.ok scTo (fun vs H Q E h => ?_) (fun cdv A outer s H vs Q E hr h => ?_)
  · obtain ⟨S, ho, so, v, d, m, way, F, Dd, rfl, _⟩ := h
    rfl
  · obtain ⟨S, ho, so, v, d, m, way, F, Dd, rfl, hH, hY, dz, sm, cn, m0, m1, ms, q⟩ := h
    refine ⟨_, pss_cons (ps_if (pt_cmpR op_eq (pv 4) pe_int (nomark _)) (pss_one (ps_ret (pe_call GC hr (by rfl) gC kC b4 .nil passNoP (pa_cons (pv 0) (pa_cons (pv 1) (pa_cons (pv 2) (pa_cons (pv 3) pa_nil))))))) pss_nil)
      (pss_cons (ps_if (pt_cmpR op_eq (pv 4) pe_int (nomark _)) (pss_one (ps_ret (pe_callN0 GC hr (by rfl) gC kC k1 passNoP (pk_cons (pv 3) (pk_cons (pv 2) (pk_cons (pv 1) (pk_cons (pv 0) pk_nil))))))) pss_nil)
      (pss_cons (ps_if (PW.pt (pw_and (pt_cmpR op_eq (pv 4) pe_int (nomark _)) (pw_and1 (pt_cmpR op_eq (pv 3) pe_int (nomark _))))) (pss_one (ps_ret (pe_call GC hr (by rfl) gC kC b3 v3 passNoP (pa_cons (pv 0) (pa_cons (pv 1) (pa_cons (pv 2) pa_nil)))))) pss_nil)
      (pss_one (ps_ret (pe_callN GC hr (by rfl) gC kC k3 passNoP (pa_cons (pv 0) (pa_cons (pv 1) (pa_cons (pv 2) pa_nil))) (pk_cons (pv 3) pk_nil)))))), ?_⟩
    have dy : dayB (.int m) = true := decide_eq_true ⟨m0, m1⟩
    have go : spComes K CH CY CD CP [.ref ho, v, .ref so, .int m] H Q E0 := ⟨S, ho, so, v, .int m, d, .int m, F, Dd, rfl, hH, hY, dz, sm, cn, .int m, fun h => absurd (dy.symm.trans h) (by decide), (fun m' z _ _ h => by rw [ms] at h; cases h), fun m' e _ _ H' s => by cases e; exact q H' s⟩
    refine ⟨_, rfl, rfl, _, rfl, ?_⟩
    by_cases w0 : way = 0
    · subst w0
      exact iteT ⟨_, rfl, _, rfl, _, rfl, _, rfl, go⟩
    rw [show decide (V.int way = V.int 0) = false by simp [w0]]
    refine iteF ⟨_, rfl, rfl, _, rfl, ?_⟩
    by_cases w1 : way = 1
    · subst w1
      exact iteT ⟨_, rfl, _, rfl, _, rfl, _, rfl, rfl, go⟩
    rw [show decide (V.int way = V.int 1) = false by simp [w1]]
    refine iteF ⟨_, rfl, rfl, _, rfl, ?_⟩
    by_cases w2 : way = 2
    · subst w2
      refine iteT ⟨_, rfl, rfl, _, rfl, ?_⟩
      by_cases m2 : m = 0
      · subst m2
        exact iteT ⟨_, rfl, _, rfl, _, rfl, go⟩
      · rw [show decide (V.int m = V.int 0) = false by simp [m2]]
        exact iteF ⟨_, rfl, _, rfl, _, rfl, _, rfl, rfl, rfl, go⟩
    · rw [show decide (V.int way = V.int 2) = false by simp [w2]]
      exact iteF (iteF ⟨_, rfl, _, rfl, _, rfl, _, rfl, rfl, rfl, go⟩)
end
end WdQ

set_option Elab.async false
set_option linter.all false
set_option maxRecDepth 100000
set_option maxHeartbeats 4000000
set_option exponentiation.threshold 5000
namespace WdQ
open PySem PySem.Spec PyProof.Rows L2 WdM Wd
abbrev sWi : Stmt := topS 86
def pWi : List Str := ["_law_pool_here", "_law_term", "_law_stranger"]
def nWi : List Str := ["_law_pool_here", "_law_term", "_law_stranger", "_law_at"]
theorem scWi : FnScope nWi pWi (defScope sWi) := ⟨rfl, rfl, rfl, by decide +kernel, rfl, by decide +kernel, by decide +kernel⟩
/-- the ways, with other parts -/
theorem with_ways {n : Nat} {d : PyData} (fv : Fv n d) : ∃ wd t ts, d = .tuple (.str wd :: t :: ts) ∧
    (((eqW wd "lives" || eqW wd "childless") = true ∧ ts.length ≤ 1 ∧ (namesN (n + 1) d).length = 1 ∧ ∀ z, nmB z = true → formB (n + 1) (.tuple (.str wd :: .str z :: ts)) = true ∧ namesN (n + 1) (.tuple (.str wd :: .str z :: ts)) = [z]) ∨
    ((eqW wd "lives" || eqW wd "childless") = false ∧ (t :: ts).length ≤ 6 ∧ (∀ c ∈ t :: ts, formB n c = true) ∧ namesN (n + 1) d = ((t :: ts).map (namesN n)).flatten ∧
      ∀ cs, cs.length = (t :: ts).length → (∀ c ∈ cs, formB n c = true) → formB (n + 1) (.tuple (.str wd :: cs)) = true ∧ namesN (n + 1) (.tuple (.str wd :: cs)) = (cs.map (namesN n)).flatten)) := by
  cases fv with
  | liv z hz => exact ⟨_, _, _, rfl, .inl ⟨by decide, by simp, rfl, fun y hy => ⟨form_liv hy, rfl⟩⟩⟩
  | livAt z i hz i0 i1 => exact ⟨_, _, _, rfl, .inl ⟨by decide, by simp, rfl, fun y hy => ⟨form_livAt hy i0 i1, rfl⟩⟩⟩
  | chl z hz => exact ⟨_, _, _, rfl, .inl ⟨by decide, by simp, rfl, fun y hy => ⟨form_chl hy, rfl⟩⟩⟩
  | neg c hc =>
    refine ⟨_, _, _, rfl, .inr ⟨by decide, by simp, fun d hd => by rw [List.mem_singleton.mp hd]; exact hc, by rw [names_neg]; simp, fun cs l a => ?_⟩⟩
    match cs, l, a with
    | [c'], _, a => exact ⟨form_neg (a c' (by simp)), by rw [names_neg]; simp⟩
  | row b c1 c2 cs l a => exact ⟨_, _, _, rfl, .inr ⟨row_leaf b, l, a, names_row, fun cs' l' a' => ⟨form_row (by rw [l']; simp) (by rw [l']; exact l) a', names_row⟩⟩⟩
theorem flat_len : ∀ {cs : List PyData} {n j : Nat} {c c' : PyData}, cs[j]? = some c → (namesN n c').length = (namesN n c).length → (((cs.take j ++ c' :: cs.drop (j + 1)).map (namesN n)).flatten).length = ((cs.map (namesN n)).flatten).length
  | [], _, _, _, _, h, _ => by simp at h
  | x :: cs, n, 0, c, c', h, e => by
    cases h
    simp [e]
  | x :: cs, n, j + 1, c, c', h, e => by
    have ih := flat_len (cs := cs) (n := n) (j := j) (c := c) (c' := c') h e
    show (((x :: (cs.take j ++ c' :: cs.drop (j + 1))).map (namesN n)).flatten).length = _
    rw [List.map_cons, List.flatten_cons, List.length_append, ih, List.map_cons, List.flatten_cons, List.length_append]
theorem dz_set {S : List Addr} {K : PySem.W.Frag} {H : Hp} {x' : V} {c' : PyData} (h' : Dz S K H x' c') : ∀ {xs : List V} {ds : List PyData} {j : Nat}, DzAll S K H xs ds → j < xs.length → DzAll S K H (xs.take j ++ x' :: xs.drop (j + 1)) (ds.take j ++ c' :: ds.drop (j + 1))
  | _, _, _, .nil, l => by simp at l
  | _, _, 0, .cons h t, _ => by
    simp only [List.take_zero, List.nil_append, List.drop_succ_cons, List.drop_zero]
    exact .cons h' t
  | _, _, j + 1, .cons h t, l => by
    simp only [List.take_succ_cons, List.drop_succ_cons, List.cons_append]
    exact .cons h (dz_set h' t (by simpa using l))
theorem dzs_tk {S S' : List Addr} {K : PySem.W.Frag} {H H' : Hp} {n : Nat} (e : Tk H H') : ∀ {xs : List V} {ds : List PyData}, (∀ d ∈ ds, Cd n d) → DzAll S K H xs ds → DzAll S' K H' xs ds
  | _, _, _, .nil => .nil
  | _, _, c, .cons h t => .cons (cd_tk e (c _ List.mem_cons_self) h) (dzs_tk e (fun d hd => c d (List.mem_cons_of_mem _ hd)) t)
section
variable {P : Program} {w : World} {K : PySem.W.Frag} {mg : Str → Option Value} {base : Heap}
theorem cutTA {H : Hp} {a : Addr} {xs : List V} {lo hi : Option Int} {Q : VK} (ha : SqT K H a xs) (q : ∀ p H', Same H H' → SqT K H' p (cutV xs lo hi) → Q (.ref p) H') : rSlA K (.ref a) lo hi H Q :=
  ⟨a, xs, rfl, ha, fun ⟨e1, e2⟩ => q a H (Same.refl H) (by unfold cutV; rw [e1, e2]; simpa using ha), fun _ p np => q p _ (same_new np) (sqT upd_same)⟩
def spWi (K : PySem.W.Frag) (r : Nat) : Sp := fun vs H Q _ => ∃ (l : Addr) (v : V) (z : Str) (d : PyData), vs = [.ref l, v, .str z] ∧ PoolAt H l ∧ Dz [] K H v d ∧ formB r d = true ∧ nmB z = true ∧
  ∀ H' v' d', Bt [l] H H' → PoolAt H' l → Dz [] K H' v' d' → formB r d' = true → (namesN r d').length = (namesN r d).length → z ∈ namesN r d' → Q v' H'
def spWiR (K : PySem.W.Frag) : Nat → Sp
  | 0 => fun _ _ _ _ => False
  | r + 1 => spWi K r
theorem wi_step {f fT : Addr} {fd fdT : FuncData} {k r : Nat} (B : Bi mg) (D : Df K mg "_law_with" sWi f fd pWi) (DT : Df K mg "_law_take" sTake fT fdT ["_law_pool_here", "_law_many"]) (GT : FnOk P w K mg base CX0 (k + 1) fT fdT ["_law_pool_here", "_law_many"] spTake)
    (GB : FnOk P w K mg base CX0 (k + 1 + r) f fd pWi (spWiR K r)) : FnOk P w K mg base CX0 (k + 1 + r + 1) f fd pWi (spWi K r) := by
  refine D.fn.ok scWi (fun vs H Q E h => ?_) (fun cdv A outer s H vs Q E hr h => ?_)
  · obtain ⟨l, v, z, d, rfl, _⟩ := h
    rfl
  · obtain ⟨l, v, z, d, rfl, pool, dz, fm, nz, q⟩ := h
    have r1 : Room (k + 1) _ := hr.mono (by omega)
    refine ⟨_, pss_cons (ps_if (pt_cmpR op_in_seq (pe_ix (r := rIxT K) ix_tup (pv 1) pe_int (fun _ _ => rfl)) (PE.wk (t' := tWsN leafV) (pe_lst (pa_cons pe_str (pa_cons pe_str pa_nil))) (by intro σ H Q q; exact ⟨by show leafV.length ≤ sizeLine; decide, fun p n => q p _ (same_new n) n upd_same⟩)) (by rfl))
        (pss_one (ps_ret (pe_op op_catA (pe_tup (pa_cons (pe_ix (r := rIxT K) ix_tup (pv 1) pe_int (fun _ _ => rfl)) (pa_cons (pv 2) pa_nil))) (pe_slice sl_tupA (pv 1) (po_some pe_int) po_none)))) pss_nil)
      (pss_cons (ps_set (i := 3) scWi.nd rfl (.inl rfl) (pe_op op_add pe_int (pe_call GT r1 (by rfl) DT.mg DT.fn.kp DT.bd .nil pass0 (pa_cons (pv 0) (pa_cons (pe_op op_sub (pe_callB call_len_seq (by rfl) B.len PySem.boot_len (pa_cons (pv 1) pa_nil)) pe_int) pa_nil)))))
      (pss_one (ps_ret (pe_op op_catA (pe_op op_catA (pe_slice sl_tupA (pv 1) po_none (po_some (pv 3))) (pe_tup (pa_cons (pe_call GB hr (by rfl) D.mg D.fn.kp D.bd .nil pass0 (pa_cons (pv 0) (pa_cons (pe_ix (r := rIxT K) ix_tup (pv 1) (pv 3) (fun _ _ => rfl)) (pa_cons (pv 2) pa_nil)))) pa_nil))) (pe_slice sl_tupA (pv 1) (po_some (pe_op op_add (pv 3) pe_int)) po_none))))), ?_⟩
    obtain ⟨n, rfl, fv⟩ := form_view fm
    obtain ⟨wd, t, ts, rfl, ways⟩ := with_ways fv
    obtain ⟨a, xs, rfl, hs, hd⟩ := dz_tup dz
    obtain ⟨x1, x2, ys, d1, d2, es, rfl, e, h1, h2, hts⟩ := dz_cons2 hd (by simp)
    cases e
    obtain rfl := dz_str h1
    refine ⟨_, rfl, a, _, 0, _, rfl, rfl, hs, atI_nat (j := 0) rfl, fun pW H1 s1 nW hW => ⟨pW, _, rfl, .inl (sqL hW), rfl, rfl, _, rfl, ?_⟩⟩
    rw [in_leafV]
    have hs1 := (tk_same s1).sq hs
    have ht1 : DzAll [] K H1 ys ts := hts.same s1
    rcases ways with ⟨hw, tl, en, re⟩ | ⟨hw, l6, all, en, re⟩
    · rw [hw]
      refine iteT ⟨_, rfl, a, _, 0, _, rfl, rfl, hs1, atI_nat (j := 0) rfl, _, rfl, by show 2 ≤ sizeLine; decide, fun t2 n2 => ⟨_, rfl, 2, rfl, ?_⟩⟩
      have s02 : Same H (upd H1 t2 (.tup [.str wd, .str z])) := s1.trans (same_new n2)
      have sq2 : SqT K (upd H1 t2 (.tup [.str wd, .str z])) t2 [.str wd, .str z] := sqT upd_same
      have ht2 : DzAll [] K (upd H1 t2 (.tup [.str wd, .str z])) ys ts := ht1.same (same_new n2)
      revert s02 sq2 ht2
      generalize upd H1 t2 (.tup [.str wd, .str z]) = H2
      intro s02 sq2 ht2
      refine (show tNoPart _ H2 _ from cutTN ((tk_same s02).sq hs) fun p3 H3 s3 sq3 => ?_)
      have e3 : cutV (V.str wd :: x2 :: ys) (some 2) none = ys := (cut_back (k := 2) (by simp)).trans rfl
      rw [e3] at sq3
      have yl := hts.len
      refine catT ((tk_same s3).sq sq2) sq3 (by show 2 + _ ≤ _; omega) fun p4 H4 s4 sq4 => ?_
      obtain ⟨f1, e1⟩ := re z nz
      have s04 := (s02.trans s3).trans s4
      exact q H4 _ (.tuple (.str wd :: .str z :: ts)) (.of_same s04) (pool.same s04) (.tup sq4 (.cons (.str _) (.cons (.str _) (ht2.same (s3.trans s4))))) f1 (by rw [e1, en]; rfl) (by rw [e1]; simp)
    · rw [hw]
      have hln : (x2 :: ys).length = (t :: ts).length := (DzAll.cons h2 hts).len
      have dd1 : DzAll [] K H1 (x2 :: ys) (t :: ts) := (DzAll.cons h2 hts).same s1
      refine iteF ⟨_, rfl, _, rfl, a, _, rfl, .inr hs1, _, 1, rfl, rfl, l, _, rfl, pool.same s1, ?_, fun H2 e2 b2 pool2 e20 e21 => ⟨1, e2, rfl, rfl, ?_⟩⟩
      · rw [List.length_cons]
        have : 1 ≤ (x2 :: ys).length := by simp
        omega
      obtain ⟨j, rfl⟩ := Int.eq_ofNat_of_zero_le e20
      have jl : j < (x2 :: ys).length := by
        rw [List.length_cons] at e21
        omega
      have b02 : Bt [l] H H2 := (Bt.of_same s1).trans b2
      have tk2 : Tk H H2 := b02.tk pool.lst
      have hs2 := tk2.sq hs
      have ec : (1 : Int) + ((j : Nat) : Int) = ((j + 1 : Nat) : Int) := by omega
      have cd0 : ∀ c ∈ t :: ts, Cd n c := fun c hc => form_cd (all c hc)
      obtain ⟨xj, hxj⟩ : ∃ xj, (x2 :: ys)[j]? = some xj := ⟨_, List.getElem?_eq_getElem jl⟩
      obtain ⟨cj, hcj, dj⟩ := (DzAll.cons h2 hts).get hxj
      have mj := List.mem_of_getElem? hcj
      clear dz fm hd h1 fv hs1 ht1 dd1
      refine ⟨_, rfl, _, rfl, (1 : Int) + ((j : Nat) : Int), rfl, cutTA hs2 fun p3 H3 s3 sq3 => ?_⟩
      rw [ec, cut_front (show j + 1 ≤ (V.str wd :: x2 :: ys).length by rw [List.length_cons]; omega)] at sq3
      have b03 : Bt [l] H H3 := b02.trans (.of_same s3)
      have pool3 := pool2.same s3
      have hs3 := (tk_same s3).sq hs2
      refine ⟨_, rfl, _, rfl, _, rfl, a, _, _, xj, rfl, rfl, hs3, (by rw [ec]; exact atI_nat (j := j + 1) hxj), _, rfl, l, xj, z, cj, rfl, pool3, cd_tk (b03.tk pool.lst) (cd0 cj mj) dj, all cj mj, nz, fun H4 v4 d4 b4 pool4 dz4 f4 l4 z4 => ⟨by show 1 ≤ sizeLine; decide, fun t5 n5 => ?_⟩⟩
      have tk4 : Tk H3 H4 := b4.tk pool3.lst
      have b05 : Bt [l] H (upd H4 t5 (.tup [v4])) := (b03.trans b4).new n5
      have pool5 := pool4.upd (o := .tup [v4]) (pool4.ne n5)
      have tk5 : Tk H3 (upd H4 t5 (.tup [v4])) := tk4.trans (tk_new n5)
      have sq5 : SqT K (upd H4 t5 (.tup [v4])) t5 [v4] := sqT upd_same
      have dz5 : Dz [] K (upd H4 t5 (.tup [v4])) v4 d4 := dz4.same (same_new n5)
      revert b05 pool5 tk5 sq5 dz5
      generalize upd H4 t5 (.tup [v4]) = H5
      intro b05 pool5 tk5 sq5 dz5
      refine catT (tk5.sq sq3) sq5 (by rw [List.length_take]; show _ + 1 ≤ 100; omega) fun p6 H6 s6 sq6 => ?_
      refine ⟨_, rfl, _, rfl, _, 1, rfl, rfl, (1 : Int) + ((j : Nat) : Int) + 1, rfl, ?_⟩
      refine (show tNoPart _ H6 _ from cutTN ((tk_same s6).sq (tk5.sq hs3)) fun p7 H7 s7 sq7 => ?_)
      rw [show (1 : Int) + ((j : Nat) : Int) + 1 = ((j + 2 : Nat) : Int) by omega, cut_back (show j + 2 ≤ (V.str wd :: x2 :: ys).length by rw [List.length_cons]; omega)] at sq7
      have yl : (x2 :: ys).length ≤ 6 := by omega
      refine catT ((tk_same s7).sq sq6) sq7 (by rw [List.length_append, List.length_take, List.length_drop]; show _ + 1 + _ ≤ 100; rw [List.length_cons]; omega) fun p8 H8 s8 sq8 => ?_
      have s58 : Same H5 H8 := (s6.trans s7).trans s8
      have b08 : Bt [l] H H8 := b05.trans (.of_same s58)
      have tk8 : Tk H H8 := b08.tk pool.lst
      have el : (V.str wd :: x2 :: ys).take (j + 1) ++ [v4] ++ (V.str wd :: x2 :: ys).drop (j + 2) = V.str wd :: ((x2 :: ys).take j ++ v4 :: (x2 :: ys).drop (j + 1)) := by simp
      rw [el] at sq8
      have base : DzAll [] K H8 (x2 :: ys) (t :: ts) := dzs_tk tk8 cd0 (.cons h2 hts)
      obtain ⟨f1, e1⟩ := re ((t :: ts).take j ++ d4 :: (t :: ts).drop (j + 1)) (by rw [List.length_append, List.length_cons, List.length_take, List.length_drop]; omega) (fun c hc => by
        rcases List.mem_append.mp hc with h | h
        · exact all c (List.mem_of_mem_take h)
        · rcases List.mem_cons.mp h with rfl | h
          · exact f4
          · exact all c (List.mem_of_mem_drop h))
      refine q H8 _ _ b08 (pool5.same s58) (.tup sq8 (.cons (.str _) (dz_set (dz5.same s58) base jl))) f1 ?_ ?_
      · rw [e1, en]
        exact flat_len hcj l4
      · rw [e1]
        exact List.mem_flatten.mpr ⟨_, List.mem_map.mpr ⟨d4, by simp, rfl⟩, z4⟩
theorem ok_wi {f fT : Addr} {fd fdT : FuncData} {k : Nat} (B : Bi mg) (D : Df K mg "_law_with" sWi f fd pWi) (DT : Df K mg "_law_take" sTake fT fdT ["_law_pool_here", "_law_many"]) (GT : FnOk P w K mg base CX0 (k + 1) fT fdT ["_law_pool_here", "_law_many"] spTake) :
    ∀ r, FnOk P w K mg base CX0 (k + 1 + r + 1) f fd pWi (spWi K r)
  | 0 => wi_step (r := 0) B D DT GT ⟨fun _ _ _ _ h => h.elim, fun _ _ _ _ _ _ _ _ _ _ _ _ _ h => h.elim⟩
  | r + 1 => wi_step (r := r + 1) B D DT GT (ok_wi B D DT GT r)
end
end WdQ

set_option Elab.async false
set_option linter.all false
set_option maxRecDepth 100000
set_option maxHeartbeats 4000000
set_option exponentiation.threshold 5000
namespace WdQ
open PySem PySem.Spec PyProof.Rows L2 WdM Wd
abbrev sSort : Stmt := topS 77
theorem scSort : FnScope ["_law_caught", "_law_kinds", "_law_families", "_law_own", "_law_at", "_law_words_here"] ["_law_caught"] (defScope sSort) := ⟨rfl, rfl, rfl, by decide +kernel, rfl, by decide +kernel, by decide +kernel⟩
/-- the classes of the errors, by the law's own order; 21, 22, 23: the families -/
structure ClsF (mg : Str → Option Value) (C : Nat → Addr) : Prop where
  g0 : mg "NoName" = some (.ref (C 0))
  g1 : mg "NoSum" = some (.ref (C 1))
  g2 : mg "NoShares" = some (.ref (C 2))
  g3 : mg "NoPeople" = some (.ref (C 3))
  g4 : mg "NoGoods" = some (.ref (C 4))
  g5 : mg "NoText" = some (.ref (C 5))
  g6 : mg "NoStory" = some (.ref (C 6))
  g7 : mg "NoDay" = some (.ref (C 7))
  g8 : mg "NoCond" = some (.ref (C 8))
  g9 : mg "NoWhom" = some (.ref (C 9))
  g10 : mg "NoClause" = some (.ref (C 10))
  g11 : mg "NoReading" = some (.ref (C 11))
  g12 : mg "NoWord" = some (.ref (C 12))
  g13 : mg "LabelStands" = some (.ref (C 13))
  g14 : mg "DayStands" = some (.ref (C 14))
  g15 : mg "NoRow" = some (.ref (C 15))
  g16 : mg "NoPerson" = some (.ref (C 16))
  g17 : mg "NoThing" = some (.ref (C 17))
  g18 : mg "NoLabel" = some (.ref (C 18))
  g19 : mg "NoUndo" = some (.ref (C 19))
  g20 : mg "TooMany" = some (.ref (C 20))
  g21 : mg "WordError" = some (.ref (C 21))
  g22 : mg "LostError" = some (.ref (C 22))
  g23 : mg "RoomError" = some (.ref (C 23))
  bV : mg "ValueError" = none
  bL : mg "LookupError" = none
  bA : mg "ArithmeticError" = none
/-- the family of the n-th class -/
def famN (n : Nat) : Nat := if n < 16 then 0 else if n < 20 then 1 else 2
/-- what an error of the class at D is an instance of: of the n-th one, of its family and Python's own -/
structure KitF (K : PySem.W.Frag) (D : Addr) (C : Nat → Addr) (n : Nat) : Prop where
  kit : ∀ j, j < 21 → PySem.W.kitOne K (.ref D) (.ref (C j)) = some (decide (j = n))
  w : PySem.W.kitOne K (.ref D) (.ref (C 21)) = some (decide (famN n = 0))
  l : PySem.W.kitOne K (.ref D) (.ref (C 22)) = some (decide (famN n = 1))
  r : PySem.W.kitOne K (.ref D) (.ref (C 23)) = some (decide (famN n = 2))
  vV : PySem.W.kitOne K (.ref D) (.type "ValueError") = some (decide (famN n = 0))
  vL : PySem.W.kitOne K (.ref D) (.type "LookupError") = some (decide (famN n = 1))
  vA : PySem.W.kitOne K (.ref D) (.type "ArithmeticError") = some (decide (famN n = 2))
section
variable {P : Program} {w : World} {K : PySem.W.Frag} {mg : Str → Option Value} {base : Heap}
/-- what isinstance wants of a kept error -/
structure Kept (K : PySem.W.Frag) (H : Hp) (a D : Addr) (d : Option Addr) : Prop where
  at_ : H a = some (ExT a (.ref D) d)
  xd : ∀ dx, d = some dx → ∃ fs, H dx = some (.xd fs)
  cls : ExcC K D
theorem Kept.same {H H' : Hp} {a D : Addr} {d : Option Addr} (h : Kept K H a D d) (e : Same H H') : Kept K H' a D d := ⟨e _ _ h.at_, fun dx z => (h.xd dx z).elim fun fs q => ⟨fs, e _ _ q⟩, h.cls⟩
theorem data3 {H : Hp} {z : Addr} {a b c : Bool} (h : H z = some (.lst [.bl a, .bl b, .bl c])) : Dp K H (.ref z) (.list [.bool a, .bool b, .bool c]) := .lst (sqL h) (.cons (.bl _) (.cons (.bl _) (.cons (.bl _) .nil)))
theorem shp3 {a b c : Bool} : SeqAt.shaped (.list [.bool a, .bool b, .bool c]) = true := by cases a <;> cases b <;> cases c <;> decide
theorem eqq3 {a b c : Bool} : (!PyData.eqv (.list [.bool a, .bool b, .bool c]) (.list [.bool a, .bool b, .bool c])) = false := by cases a <;> cases b <;> cases c <;> decide
def sortW (n : Nat) : Str := (if n = 7 then "day" else (if n = 16 then "person" else "other"))
def spSort (K : PySem.W.Frag) (C : Nat → Addr) : Sp := fun vs H Q _ => ∃ (a D : Addr) (d : Option Addr) (n : Nat), vs = [.ref a] ∧ Kept K H a D d ∧ KitF K D C n ∧ (n = 7 ∨ n = 16) ∧ ∀ H', Same H H' → Q (.str (sortW n)) H'
/-- three questions of a kept error: the answers in a list of its own -/
def tThree (K : PySem.W.Frag) (c0 c1 c2 : Value) : TE := fun σ H Q => ∃ (a D : Addr) (d : Option Addr) (b0 b1 b2 : Bool), σ[0]? = some (some (.ref a)) ∧ Kept K H a D d ∧ PySem.W.kitOne K (.ref D) c0 = some b0 ∧ PySem.W.kitOne K (.ref D) c1 = some b1 ∧ PySem.W.kitOne K (.ref D) c2 = some b2 ∧ ∀ p H', Same H H' → H' p = some (.lst [.bl b0, .bl b1, .bl b2]) → Q (.ref p) H'
def tCat3 (K : PySem.W.Frag) (c0 c1 c2 : Addr) : TE := fun σ H Q => ∃ (a D : Addr) (d : Option Addr) (b0 b1 b2 : Bool) (p : Addr) (xs : List V), σ[0]? = some (some (.ref a)) ∧ Kept K H a D d ∧ PySem.W.kitOne K (.ref D) (.ref c0) = some b0 ∧ PySem.W.kitOne K (.ref D) (.ref c1) = some b1 ∧ PySem.W.kitOne K (.ref D) (.ref c2) = some b2 ∧ σ[1]? = some (some (.ref p)) ∧ H p = some (.lst xs) ∧ (xs.length + 3 ≤ 100) ∧ ∀ p' H', Same H H' → H' p' = some (.lst (xs ++ [.bl b0, .bl b1, .bl b2])) → Q (.ref p') H'
def tWords (ws : List V) : TE := fun σ H Q => ∀ p H', Same H H' → H' p = some (.lst ws) → Q (.ref p) H'
def tCatW (i : Nat) (ws : List V) : TE := fun σ H Q => ∃ p xs, σ[i]? = some (some (.ref p)) ∧ H p = some (.lst xs) ∧ (xs.length + ws.length ≤ 100) ∧ ∀ p' H', Same H H' → H' p' = some (.lst (xs ++ ws)) → Q (.ref p') H'
def wsA : List V := [.str "name", .str "sum", .str "shares", .str "people", .str "goods", .str "text", .str "story", .str "day", .str "cond", .str "whom", .str "clause", .str "reading"]
def wsB : List V := [.str "word", .str "label", .str "days", .str "row", .str "person", .str "thing", .str "lost", .str "undo", .str "many"]
theorem ok_sort {C : Nat → Addr} {f : Addr} {fd : FuncData} {k : Nat} (B : Bi mg) (T : ClsF mg C) (D : Df K mg "_law_sort" sSort f fd ["_law_caught"]) : FnOk P w K mg base CX0 (k + 1) f fd ["_law_caught"] (spSort K C) := by
  refine D.fn.ok scSort (fun vs H Q E h => ?_) (fun cdv A outer s H vs Q E hr h => ?_)
  · obtain ⟨a, D, d, n, rfl, _⟩ := h
    rfl
  · obtain ⟨a, D, d, n, rfl, kp, KF, hn, q⟩ := h
    have hu := hr.units
    refine ⟨_, pss_cons (ps_set (i := 1) scSort.nd rfl (.inl rfl) (PE.wk (t' := tThree K (.ref (C 0)) (.ref (C 1)) (.ref (C 2))) (pe_lst (pa_cons (pe_callB call_isT (by rfl) B.isi boot_isinstance (pa_cons (pv 0) (pa_cons (pe_glob (v := .ref (C 0)) (by rfl) T.g0 rfl) pa_nil))) (pa_cons (pe_callB call_isT (by rfl) B.isi boot_isinstance (pa_cons (pv 0) (pa_cons (pe_glob (v := .ref (C 1)) (by rfl) T.g1 rfl) pa_nil))) (pa_cons (pe_callB call_isT (by rfl) B.isi boot_isinstance (pa_cons (pv 0) (pa_cons (pe_glob (v := .ref (C 2)) (by rfl) T.g2 rfl) pa_nil))) pa_nil)))) (by (rintro σ H Q ⟨a, D, d, b0, b1, b2, h0, kp, e0, e1, e2, q⟩; exact ⟨_, h0, a, D, d, _, _, _, rfl, kp.at_, kp.xd, kp.cls, .own _, e0, _, h0, a, D, d, _, _, _, rfl, kp.at_, kp.xd, kp.cls, .own _, e1, _, h0, a, D, d, _, _, _, rfl, kp.at_, kp.xd, kp.cls, .own _, e2, by show 3 ≤ sizeLine; decide, fun p n => q p _ (same_new n) upd_same⟩))))
      (pss_cons (ps_set (i := 1) scSort.nd rfl (.inl rfl) (PE.wk (t' := tCat3 K (C 3) (C 4) (C 5)) (pe_op op_cat (pv 1) (pe_lst (pa_cons (pe_callB call_isT (by rfl) B.isi boot_isinstance (pa_cons (pv 0) (pa_cons (pe_glob (v := .ref (C 3)) (by rfl) T.g3 rfl) pa_nil))) (pa_cons (pe_callB call_isT (by rfl) B.isi boot_isinstance (pa_cons (pv 0) (pa_cons (pe_glob (v := .ref (C 4)) (by rfl) T.g4 rfl) pa_nil))) (pa_cons (pe_callB call_isT (by rfl) B.isi boot_isinstance (pa_cons (pv 0) (pa_cons (pe_glob (v := .ref (C 5)) (by rfl) T.g5 rfl) pa_nil))) pa_nil))))) (by (rintro σ H Q ⟨a, D, d, b0, b1, b2, p, xs, h0, kp, e0, e1, e2, h1, l, sz, q⟩; exact ⟨_, h1, _, h0, a, D, d, _, _, _, rfl, kp.at_, kp.xd, kp.cls, .own _, e0, _, h0, a, D, d, _, _, _, rfl, kp.at_, kp.xd, kp.cls, .own _, e1, _, h0, a, D, d, _, _, _, rfl, kp.at_, kp.xd, kp.cls, .own _, e2, by show 3 ≤ sizeLine; decide, fun p1 n1 => ⟨p, p1, xs, _, rfl, rfl, same_new n1 _ _ l, upd_same, (by show xs.length + 3 ≤ sizeLine; exact Nat.le_trans sz (by decide)), fun p2 n2 => q p2 _ ((same_new n1).trans (same_new n2)) upd_same⟩⟩))))
      (pss_cons (ps_set (i := 1) scSort.nd rfl (.inl rfl) (PE.wk (t' := tCat3 K (C 6) (C 7) (C 8)) (pe_op op_cat (pv 1) (pe_lst (pa_cons (pe_callB call_isT (by rfl) B.isi boot_isinstance (pa_cons (pv 0) (pa_cons (pe_glob (v := .ref (C 6)) (by rfl) T.g6 rfl) pa_nil))) (pa_cons (pe_callB call_isT (by rfl) B.isi boot_isinstance (pa_cons (pv 0) (pa_cons (pe_glob (v := .ref (C 7)) (by rfl) T.g7 rfl) pa_nil))) (pa_cons (pe_callB call_isT (by rfl) B.isi boot_isinstance (pa_cons (pv 0) (pa_cons (pe_glob (v := .ref (C 8)) (by rfl) T.g8 rfl) pa_nil))) pa_nil))))) (by (rintro σ H Q ⟨a, D, d, b0, b1, b2, p, xs, h0, kp, e0, e1, e2, h1, l, sz, q⟩; exact ⟨_, h1, _, h0, a, D, d, _, _, _, rfl, kp.at_, kp.xd, kp.cls, .own _, e0, _, h0, a, D, d, _, _, _, rfl, kp.at_, kp.xd, kp.cls, .own _, e1, _, h0, a, D, d, _, _, _, rfl, kp.at_, kp.xd, kp.cls, .own _, e2, by show 3 ≤ sizeLine; decide, fun p1 n1 => ⟨p, p1, xs, _, rfl, rfl, same_new n1 _ _ l, upd_same, (by show xs.length + 3 ≤ sizeLine; exact Nat.le_trans sz (by decide)), fun p2 n2 => q p2 _ ((same_new n1).trans (same_new n2)) upd_same⟩⟩))))
      (pss_cons (ps_set (i := 1) scSort.nd rfl (.inl rfl) (PE.wk (t' := tCat3 K (C 9) (C 10) (C 11)) (pe_op op_cat (pv 1) (pe_lst (pa_cons (pe_callB call_isT (by rfl) B.isi boot_isinstance (pa_cons (pv 0) (pa_cons (pe_glob (v := .ref (C 9)) (by rfl) T.g9 rfl) pa_nil))) (pa_cons (pe_callB call_isT (by rfl) B.isi boot_isinstance (pa_cons (pv 0) (pa_cons (pe_glob (v := .ref (C 10)) (by rfl) T.g10 rfl) pa_nil))) (pa_cons (pe_callB call_isT (by rfl) B.isi boot_isinstance (pa_cons (pv 0) (pa_cons (pe_glob (v := .ref (C 11)) (by rfl) T.g11 rfl) pa_nil))) pa_nil))))) (by (rintro σ H Q ⟨a, D, d, b0, b1, b2, p, xs, h0, kp, e0, e1, e2, h1, l, sz, q⟩; exact ⟨_, h1, _, h0, a, D, d, _, _, _, rfl, kp.at_, kp.xd, kp.cls, .own _, e0, _, h0, a, D, d, _, _, _, rfl, kp.at_, kp.xd, kp.cls, .own _, e1, _, h0, a, D, d, _, _, _, rfl, kp.at_, kp.xd, kp.cls, .own _, e2, by show 3 ≤ sizeLine; decide, fun p1 n1 => ⟨p, p1, xs, _, rfl, rfl, same_new n1 _ _ l, upd_same, (by show xs.length + 3 ≤ sizeLine; exact Nat.le_trans sz (by decide)), fun p2 n2 => q p2 _ ((same_new n1).trans (same_new n2)) upd_same⟩⟩))))
      (pss_cons (ps_set (i := 1) scSort.nd rfl (.inl rfl) (PE.wk (t' := tCat3 K (C 12) (C 13) (C 14)) (pe_op op_cat (pv 1) (pe_lst (pa_cons (pe_callB call_isT (by rfl) B.isi boot_isinstance (pa_cons (pv 0) (pa_cons (pe_glob (v := .ref (C 12)) (by rfl) T.g12 rfl) pa_nil))) (pa_cons (pe_callB call_isT (by rfl) B.isi boot_isinstance (pa_cons (pv 0) (pa_cons (pe_glob (v := .ref (C 13)) (by rfl) T.g13 rfl) pa_nil))) (pa_cons (pe_callB call_isT (by rfl) B.isi boot_isinstance (pa_cons (pv 0) (pa_cons (pe_glob (v := .ref (C 14)) (by rfl) T.g14 rfl) pa_nil))) pa_nil))))) (by (rintro σ H Q ⟨a, D, d, b0, b1, b2, p, xs, h0, kp, e0, e1, e2, h1, l, sz, q⟩; exact ⟨_, h1, _, h0, a, D, d, _, _, _, rfl, kp.at_, kp.xd, kp.cls, .own _, e0, _, h0, a, D, d, _, _, _, rfl, kp.at_, kp.xd, kp.cls, .own _, e1, _, h0, a, D, d, _, _, _, rfl, kp.at_, kp.xd, kp.cls, .own _, e2, by show 3 ≤ sizeLine; decide, fun p1 n1 => ⟨p, p1, xs, _, rfl, rfl, same_new n1 _ _ l, upd_same, (by show xs.length + 3 ≤ sizeLine; exact Nat.le_trans sz (by decide)), fun p2 n2 => q p2 _ ((same_new n1).trans (same_new n2)) upd_same⟩⟩))))
      (pss_cons (ps_set (i := 1) scSort.nd rfl (.inl rfl) (PE.wk (t' := tCat3 K (C 15) (C 16) (C 17)) (pe_op op_cat (pv 1) (pe_lst (pa_cons (pe_callB call_isT (by rfl) B.isi boot_isinstance (pa_cons (pv 0) (pa_cons (pe_glob (v := .ref (C 15)) (by rfl) T.g15 rfl) pa_nil))) (pa_cons (pe_callB call_isT (by rfl) B.isi boot_isinstance (pa_cons (pv 0) (pa_cons (pe_glob (v := .ref (C 16)) (by rfl) T.g16 rfl) pa_nil))) (pa_cons (pe_callB call_isT (by rfl) B.isi boot_isinstance (pa_cons (pv 0) (pa_cons (pe_glob (v := .ref (C 17)) (by rfl) T.g17 rfl) pa_nil))) pa_nil))))) (by (rintro σ H Q ⟨a, D, d, b0, b1, b2, p, xs, h0, kp, e0, e1, e2, h1, l, sz, q⟩; exact ⟨_, h1, _, h0, a, D, d, _, _, _, rfl, kp.at_, kp.xd, kp.cls, .own _, e0, _, h0, a, D, d, _, _, _, rfl, kp.at_, kp.xd, kp.cls, .own _, e1, _, h0, a, D, d, _, _, _, rfl, kp.at_, kp.xd, kp.cls, .own _, e2, by show 3 ≤ sizeLine; decide, fun p1 n1 => ⟨p, p1, xs, _, rfl, rfl, same_new n1 _ _ l, upd_same, (by show xs.length + 3 ≤ sizeLine; exact Nat.le_trans sz (by decide)), fun p2 n2 => q p2 _ ((same_new n1).trans (same_new n2)) upd_same⟩⟩))))
      (pss_cons (ps_set (i := 1) scSort.nd rfl (.inl rfl) (PE.wk (t' := tCat3 K (C 18) (C 19) (C 20)) (pe_op op_cat (pv 1) (pe_lst (pa_cons (pe_callB call_isT (by rfl) B.isi boot_isinstance (pa_cons (pv 0) (pa_cons (pe_glob (v := .ref (C 18)) (by rfl) T.g18 rfl) pa_nil))) (pa_cons (pe_callB call_isT (by rfl) B.isi boot_isinstance (pa_cons (pv 0) (pa_cons (pe_glob (v := .ref (C 19)) (by rfl) T.g19 rfl) pa_nil))) (pa_cons (pe_callB call_isT (by rfl) B.isi boot_isinstance (pa_cons (pv 0) (pa_cons (pe_glob (v := .ref (C 20)) (by rfl) T.g20 rfl) pa_nil))) pa_nil))))) (by (rintro σ H Q ⟨a, D, d, b0, b1, b2, p, xs, h0, kp, e0, e1, e2, h1, l, sz, q⟩; exact ⟨_, h1, _, h0, a, D, d, _, _, _, rfl, kp.at_, kp.xd, kp.cls, .own _, e0, _, h0, a, D, d, _, _, _, rfl, kp.at_, kp.xd, kp.cls, .own _, e1, _, h0, a, D, d, _, _, _, rfl, kp.at_, kp.xd, kp.cls, .own _, e2, by show 3 ≤ sizeLine; decide, fun p1 n1 => ⟨p, p1, xs, _, rfl, rfl, same_new n1 _ _ l, upd_same, (by show xs.length + 3 ≤ sizeLine; exact Nat.le_trans sz (by decide)), fun p2 n2 => q p2 _ ((same_new n1).trans (same_new n2)) upd_same⟩⟩))))
      (pss_cons (ps_set (i := 2) scSort.nd rfl (.inl rfl) (PE.wk (t' := tThree K (.ref (C 21)) (.ref (C 22)) (.ref (C 23))) (pe_lst (pa_cons (pe_callB call_isT (by rfl) B.isi boot_isinstance (pa_cons (pv 0) (pa_cons (pe_glob (v := .ref (C 21)) (by rfl) T.g21 rfl) pa_nil))) (pa_cons (pe_callB call_isT (by rfl) B.isi boot_isinstance (pa_cons (pv 0) (pa_cons (pe_glob (v := .ref (C 22)) (by rfl) T.g22 rfl) pa_nil))) (pa_cons (pe_callB call_isT (by rfl) B.isi boot_isinstance (pa_cons (pv 0) (pa_cons (pe_glob (v := .ref (C 23)) (by rfl) T.g23 rfl) pa_nil))) pa_nil)))) (by (rintro σ H Q ⟨a, D, d, b0, b1, b2, h0, kp, e0, e1, e2, q⟩; exact ⟨_, h0, a, D, d, _, _, _, rfl, kp.at_, kp.xd, kp.cls, .own _, e0, _, h0, a, D, d, _, _, _, rfl, kp.at_, kp.xd, kp.cls, .own _, e1, _, h0, a, D, d, _, _, _, rfl, kp.at_, kp.xd, kp.cls, .own _, e2, by show 3 ≤ sizeLine; decide, fun p n => q p _ (same_new n) upd_same⟩))))
      (pss_cons (ps_set (i := 3) scSort.nd rfl (.inl rfl) (PE.wk (t' := tThree K (.type "ValueError") (.type "LookupError") (.type "ArithmeticError")) (pe_lst (pa_cons (pe_callB call_isT (by rfl) B.isi boot_isinstance (pa_cons (pv 0) (pa_cons (pe_bltn (v := .ty "ValueError") (by rfl) T.bV (by decide +kernel) rfl) pa_nil))) (pa_cons (pe_callB call_isT (by rfl) B.isi boot_isinstance (pa_cons (pv 0) (pa_cons (pe_bltn (v := .ty "LookupError") (by rfl) T.bL (by decide +kernel) rfl) pa_nil))) (pa_cons (pe_callB call_isT (by rfl) B.isi boot_isinstance (pa_cons (pv 0) (pa_cons (pe_bltn (v := .ty "ArithmeticError") (by rfl) T.bA (by decide +kernel) rfl) pa_nil))) pa_nil)))) (by (rintro σ H Q ⟨a, D, d, b0, b1, b2, h0, kp, e0, e1, e2, q⟩; exact ⟨_, h0, a, D, d, _, _, _, rfl, kp.at_, kp.xd, kp.cls, .ty _, e0, _, h0, a, D, d, _, _, _, rfl, kp.at_, kp.xd, kp.cls, .ty _, e1, _, h0, a, D, d, _, _, _, rfl, kp.at_, kp.xd, kp.cls, .ty _, e2, by show 3 ≤ sizeLine; decide, fun p n => q p _ (same_new n) upd_same⟩))))
      (pss_cons (ps_if (PW.pt (pw_or (pt_cmpR op_ne (pe_bm PySem.F.plainAttrs_list PySem.F.slot_list_count PySem.F.type_list_count mt_cnt (pv 1) (pa_cons pe_bl pa_nil)) pe_int (nomark _)) (pw_or (pt_cmpR (op_neD hu) (pv 2) (pv 3) (nomark _)) (pw_or1 (pt_cmpR op_ne (pe_bm PySem.F.plainAttrs_list PySem.F.slot_list_count PySem.F.type_list_count mt_cnt (pv 2) (pa_cons pe_bl pa_nil)) pe_int (nomark _)))))) (pss_one (ps_ret pe_str)) pss_nil)
      (pss_cons (ps_set (i := 4) scSort.nd rfl (.inl rfl) (pe_bm PySem.F.plainAttrs_list PySem.F.slot_list_index PySem.F.type_list_index mt_index (pv 1) (pa_cons pe_bl pa_nil)))
      (pss_cons (ps_if (pt_cmpR op_ne (pe_bm PySem.F.plainAttrs_list PySem.F.slot_list_index PySem.F.type_list_index mt_index (pv 2) (pa_cons pe_bl pa_nil)) (pe_op op_add (pe_callTy call_int1 (by rfl) B.int boot_int (pa_cons (pe_cmpR op_gt (pv 4) pe_int (nomark _)) pa_nil)) (pe_callTy call_int1 (by rfl) B.int boot_int (pa_cons (pe_cmpR op_gt (pv 4) pe_int (nomark _)) pa_nil))) (nomark _)) (pss_one (ps_ret pe_str)) pss_nil)
      (pss_cons (ps_set (i := 5) scSort.nd rfl (.inl rfl) (PE.wk (t' := tWords wsA) (pe_lst (pa_cons pe_str (pa_cons pe_str (pa_cons pe_str (pa_cons pe_str (pa_cons pe_str (pa_cons pe_str (pa_cons pe_str (pa_cons pe_str (pa_cons pe_str (pa_cons pe_str (pa_cons pe_str (pa_cons pe_str pa_nil))))))))))))) (by (intro σ H Q q; exact ⟨by show wsA.length ≤ sizeLine; decide, fun p n => q p _ (same_new n) upd_same⟩))))
      (pss_one (ps_ret (pe_ix (r := rIxL K) ix_list (PE.wk (t' := tCatW 5 wsB) (pe_op op_cat (pv 5) (pe_lst (pa_cons pe_str (pa_cons pe_str (pa_cons pe_str (pa_cons pe_str (pa_cons pe_str (pa_cons pe_str (pa_cons pe_str (pa_cons pe_str (pa_cons pe_str pa_nil))))))))))) (by (rintro σ H Q ⟨p, xs, h1, l, sz, q⟩; exact ⟨_, h1, by show 9 ≤ sizeLine; decide, fun p1 n1 => ⟨p, p1, xs, _, rfl, rfl, same_new n1 _ _ l, upd_same, (by show xs.length + 9 ≤ sizeLine; exact Nat.le_trans sz (by decide)), fun p2 n2 => q p2 _ ((same_new n1).trans (same_new n2)) upd_same⟩⟩))) (pv 4) (fun _ _ => rfl)))))))))))))))), ?_⟩
    refine ⟨a, D, d, _, _, _, rfl, kp, KF.kit 0 (by decide), KF.kit 1 (by decide), KF.kit 2 (by decide), fun p0 H0 s0 l0 => ?_⟩
    refine ⟨a, D, d, _, _, _, p0, _, rfl, kp.same s0, KF.kit 3 (by decide), KF.kit 4 (by decide), KF.kit 5 (by decide), rfl, l0, Nat.le_of_ble_eq_true rfl, fun p1 H1 t1 l1 => ?_⟩
    have s1 := s0.trans t1
    refine ⟨a, D, d, _, _, _, p1, _, rfl, kp.same s1, KF.kit 6 (by decide), KF.kit 7 (by decide), KF.kit 8 (by decide), rfl, l1, Nat.le_of_ble_eq_true rfl, fun p2 H2 t2 l2 => ?_⟩
    have s2 := s1.trans t2
    refine ⟨a, D, d, _, _, _, p2, _, rfl, kp.same s2, KF.kit 9 (by decide), KF.kit 10 (by decide), KF.kit 11 (by decide), rfl, l2, Nat.le_of_ble_eq_true rfl, fun p3 H3 t3 l3 => ?_⟩
    have s3 := s2.trans t3
    refine ⟨a, D, d, _, _, _, p3, _, rfl, kp.same s3, KF.kit 12 (by decide), KF.kit 13 (by decide), KF.kit 14 (by decide), rfl, l3, Nat.le_of_ble_eq_true rfl, fun p4 H4 t4 l4 => ?_⟩
    have s4 := s3.trans t4
    refine ⟨a, D, d, _, _, _, p4, _, rfl, kp.same s4, KF.kit 15 (by decide), KF.kit 16 (by decide), KF.kit 17 (by decide), rfl, l4, Nat.le_of_ble_eq_true rfl, fun p5 H5 t5 l5 => ?_⟩
    have s5 := s4.trans t5
    refine ⟨a, D, d, _, _, _, p5, _, rfl, kp.same s5, KF.kit 18 (by decide), KF.kit 19 (by decide), KF.kit 20 (by decide), rfl, l5, Nat.le_of_ble_eq_true rfl, fun p6 H6 t6 l6 => ?_⟩
    have s6 := s5.trans t6
    have k6 := kp.same s6
    refine ⟨a, D, d, _, _, _, rfl, k6, KF.w, KF.l, KF.r, fun f1 H7 t7 lf => ?_⟩
    refine ⟨a, D, d, _, _, _, rfl, k6.same t7, KF.vV, KF.vL, KF.vA, fun f2 H8 t8 lo => ?_⟩
    have l8 := t8 _ _ (t7 _ _ l6)
    have lf := t8 _ _ lf
    have s8 := s6.trans (t7.trans t8)
    clear l0 l1 l2 l3 l4 l5 l6 s0 s1 s2 s3 s4 s5 s6 t1 t2 t3 t4 t5 t6 t7 t8 kp k6
    rcases hn with rfl | rfl
    · refine ⟨_, rfl, .inl ⟨rfl, _, sqL l8⟩, p6, _, _, rfl, rfl, sqL l8, rfl, rfl, rfl, _, rfl, iteF ?_⟩
      refine ⟨_, rfl, _, rfl, _, _, data3 lf, data3 lo, shp3, shp3, _, rfl, ?_⟩
      rw [eqq3]
      refine iteF ⟨_, rfl, .inl ⟨rfl, _, sqL lf⟩, f1, _, _, rfl, rfl, sqL lf, rfl, rfl, rfl, _, rfl, iteF ?_⟩
      refine ⟨_, rfl, .inl ⟨rfl, _, sqL l8⟩, p6, _, _, 7, _, rfl, rfl, sqL l8, rfl, rfl, rfl, rfl, (fun m z hm hz => by
        match m, hm, hz with
        | 0, _, hz => (cases hz; rfl)
        | 1, _, hz => (cases hz; rfl)
        | 2, _, hz => (cases hz; rfl)
        | 3, _, hz => (cases hz; rfl)
        | 4, _, hz => (cases hz; rfl)
        | 5, _, hz => (cases hz; rfl)
        | 6, _, hz => (cases hz; rfl)
        | m + 7, hm, _ => exact absurd hm (by omega)), ?_⟩
      refine ⟨_, rfl, .inl ⟨rfl, _, sqL lf⟩, f1, _, _, 0, _, rfl, rfl, sqL lf, rfl, rfl, rfl, rfl, (fun m z hm hz => by
        match m, hm, hz with
        | m + 0, hm, _ => exact absurd hm (by omega)), ?_⟩
      refine ⟨_, rfl, 7, 15, rfl, rfl, .inr ⟨false, rfl, ?_⟩⟩
      refine ⟨_, rfl, 7, 19, rfl, rfl, .inr ⟨false, rfl, ?_⟩⟩
      refine ⟨_, _, rfl, rfl, rfl, _, rfl, iteF ?_⟩
      intro w1 H9 t9 m1
      refine ⟨w1, _, rfl, m1, Nat.le_of_ble_eq_true rfl, fun w2 H10 t10 m2 => ?_⟩
      exact ⟨_, rfl, w2, _, 7, .str "day", rfl, rfl, sqL m2, rfl, q H10 (s8.trans (t9.trans t10))⟩
    · refine ⟨_, rfl, .inl ⟨rfl, _, sqL l8⟩, p6, _, _, rfl, rfl, sqL l8, rfl, rfl, rfl, _, rfl, iteF ?_⟩
      refine ⟨_, rfl, _, rfl, _, _, data3 lf, data3 lo, shp3, shp3, _, rfl, ?_⟩
      rw [eqq3]
      refine iteF ⟨_, rfl, .inl ⟨rfl, _, sqL lf⟩, f1, _, _, rfl, rfl, sqL lf, rfl, rfl, rfl, _, rfl, iteF ?_⟩
      refine ⟨_, rfl, .inl ⟨rfl, _, sqL l8⟩, p6, _, _, 16, _, rfl, rfl, sqL l8, rfl, rfl, rfl, rfl, (fun m z hm hz => by
        match m, hm, hz with
        | 0, _, hz => (cases hz; rfl)
        | 1, _, hz => (cases hz; rfl)
        | 2, _, hz => (cases hz; rfl)
        | 3, _, hz => (cases hz; rfl)
        | 4, _, hz => (cases hz; rfl)
        | 5, _, hz => (cases hz; rfl)
        | 6, _, hz => (cases hz; rfl)
        | 7, _, hz => (cases hz; rfl)
        | 8, _, hz => (cases hz; rfl)
        | 9, _, hz => (cases hz; rfl)
        | 10, _, hz => (cases hz; rfl)
        | 11, _, hz => (cases hz; rfl)
        | 12, _, hz => (cases hz; rfl)
        | 13, _, hz => (cases hz; rfl)
        | 14, _, hz => (cases hz; rfl)
        | 15, _, hz => (cases hz; rfl)
        | m + 16, hm, _ => exact absurd hm (by omega)), ?_⟩
      refine ⟨_, rfl, .inl ⟨rfl, _, sqL lf⟩, f1, _, _, 1, _, rfl, rfl, sqL lf, rfl, rfl, rfl, rfl, (fun m z hm hz => by
        match m, hm, hz with
        | 0, _, hz => (cases hz; rfl)
        | m + 1, hm, _ => exact absurd hm (by omega)), ?_⟩
      refine ⟨_, rfl, 16, 15, rfl, rfl, .inr ⟨true, rfl, ?_⟩⟩
      refine ⟨_, rfl, 16, 19, rfl, rfl, .inr ⟨false, rfl, ?_⟩⟩
      refine ⟨_, _, rfl, rfl, rfl, _, rfl, iteF ?_⟩
      intro w1 H9 t9 m1
      refine ⟨w1, _, rfl, m1, Nat.le_of_ble_eq_true rfl, fun w2 H10 t10 m2 => ?_⟩
      exact ⟨_, rfl, w2, _, 16, .str "person", rfl, rfl, sqL m2, rfl, q H10 (s8.trans (t9.trans t10))⟩
end
end WdQ

set_option Elab.async false
set_option linter.all false
set_option maxRecDepth 100000
set_option maxHeartbeats 4000000
namespace Wd
open PySem PySem.Spec PyProof.Rows L2 WdM
/-- as wGot, for several clauses «except x as n», one behind the other -/
def wGotM (K : PySem.W.Frag) (i : Nat) (D : Ends) : List (Value × (Addr → Value → Option Addr → TS)) → WX
  | [] => fun _ _ _ _ => False
  | (c, ts) :: r => fun cls d σ H => ∃ b, PySem.W.exmOne K cls c = some b ∧ (b = true → ∀ a, H a = none → ts a cls d { nx := fun σ' H' => D.nx (σ'.set i none) (upd H' a (ExT a cls d)), rt := fun _ _ => False, bk := fun _ _ => False, ct := fun _ _ => False } (σ.set i (some (.ref a))) H) ∧ (b = false → wGotM K i D r cls d σ H)
inductive HdsGot (X : Cx) (n : Str) : List ExceptHandler → List (Value × (Addr → Value → Option Addr → TS)) → Prop
  | nil : HdsGot X n [] []
  | cons {x : Str} {c : Value} {ts : Addr → Value → Option Addr → TS} {b0 : Stmt} {suite : List Stmt} {np pos' : Pos} {hds : List ExceptHandler} {l : List (Value × (Addr → Value → Option Addr → TS))} (hc : Names X x c)
      (hsu : ∀ (a : Addr) (oe : Obj) (cls : Value) (d : Option Addr) (pn : List (Addr × Obj)), Zc cls d oe → (∃ vs, oe.data = .fields vs) → PSs (X.suite a ((a, oe) :: pn)) (b0 :: suite) (ts a cls d)) (r : HdsGot X n hds l) :
      HdsGot X n (.ExceptHandler (some (.Name x np)) (some n) (b0 :: suite) pos' :: hds) ((c, ts) :: l)
section
variable {X : Cx} {n : Str} {i : Nat} {body : List Stmt} {h0 : ExceptHandler} {hds : List ExceptHandler} {l : List (Value × (Addr → Value → Option Addr → TS))} {pos : Pos} {tb : WX → TS}
theorem ps_try_gotM (top : X.stack = X.env :: X.outer) (fr : X.env.frame = some X.env.locals) (hex : X.ex = []) (nd : X.N.Nodup) (hi : X.N[i]? = some n) (loc : X.env.kindOf n = some .local)
    (runs : ∀ (W : WX) (pn : List (Addr × Obj)) (xe : Value → Shared → Prop), Takes (X.tr pn xe) W → PassesOwn (model X.prog X.w) X.A X.env xe → PSs (X.tr pn xe) body (tb W))
    (hh : HdsGot X n (h0 :: hds) l) :
    PS X (.Try body (h0 :: hds) [] [] pos) (fun D σ H => tb (wGotM X.K i D l) D σ H) where
  run := by
    intro pins s σ H D I h
    have ok := I.ok
    have frames : X.A.frames = some (X.env :: X.outer) := by rw [ok.frames, top]
    refine wpAny_Try_except (wpAny_mono ((runs (wGotM X.K i D l) (X.pn ++ pins) (fun e s₁ => wpAny (model X.prog X.w) X.A (noteFrame e X.env) (fun _ s₂ => wpAny (model X.prog X.w) X.A (setFlight e none) (fun _ s₃ =>
      wpAny (model X.prog X.w) X.A (handleBy e X.env (h0 :: hds)) (SP X pins D) X.xe s₃) X.xe s₂) X.xe s₁) ?_ PassesOwn.looking).run [] s σ H D (I.toTry _) h) ?_ (fun e s1 he => he))
    · rintro _ s' ⟨a, B, sI, pins', σ', H', cls, d, rfl, J0, nb, up, sky, na, os, ag, wish⟩
      have J : Inv X pins σ' H' sI := J0.ofTry ok
      show wpAny (model X.prog X.w) X.A (noteFrame (Value.ref a) X.env) _ _ _
      refine Sky.land Zc.steady frames fr (top ▸ sky) fun h3 fl3 up3 => ?_
      have J3 : Inv X pins σ' H' { s' with heap := h3 } := Inv.landed J nb fl3.1 (up.trans up3) os ag
      obtain ⟨oe3, vs3, g3, z3, d3⟩ := fl3.there
      have gone : B.get? a = none := fl3.2.1
      have out : a ∉ frs (X.env :: X.outer) := fun m => by
        obtain ⟨_, o, e, no⟩ := fl3.2.2.1.mem m
        rw [g3] at e
        cases e
        exact no _ d3
      have nL : a ≠ X.env.locals := fun z => out (List.mem_filterMap.mpr ⟨X.env, List.mem_cons_self, by rw [fr, z]⟩)
      have nF : a ∉ X.fs := fun m => by
        obtain ⟨e, he, q⟩ := List.mem_filterMap.mp m
        exact out (List.mem_filterMap.mpr ⟨e, List.mem_cons_of_mem _ he, q⟩)
      have fresh : ∀ b o, sI.heap.get? b = some o → b ∉ frs X.stack → b ≠ a := fun b o e m z => by
        have q := nb b o e m
        rw [z, gone] at q
        cases q
      have n0 : X.s_0.heap.get? a = Option.none := by
        cases e : Heap.get? X.s_0.heap a with
        | none => rfl
        | some o =>
          obtain ⟨o', e'⟩ := J.base.there a o e (by rw [hex]; exact fun z => nomatch z)
          exact absurd rfl (fresh a o' e' (by rw [top]; exact out))
      have npin : ∀ p ∈ X.pn ++ pins, p.1 ≠ a := fun p hp => by
        obtain ⟨e1, _, e3, e4, _⟩ := J.pin p hp
        refine fresh p.1 p.2 e1 (fun m => ?_)
        rw [top] at m
        obtain ⟨e, he, q⟩ := List.mem_filterMap.mp m
        rcases List.mem_cons.mp he with rfl | he
        · rw [fr] at q
          exact e3 (Option.some.inj q).symm
        · exact e4 (List.mem_filterMap.mpr ⟨e, he, q⟩)
      have S3 := J3.suite g3 d3 na nL nF
      have go : ∀ {hds' : List ExceptHandler} {l' : List (Value × (Addr → Value → Option Addr → TS))}, HdsGot X n hds' l' → wGotM X.K i D l' cls d σ' H' →
          wpAny (model X.prog X.w) X.A (handleBy (.ref a) X.env hds') (SP X pins D) X.xe { s' with heap := h3 } := by
        intro hds' l' hk
        induction hk with
        | nil =>
          intro w
          exact w.elim
        | @cons x c ts b0 suite np pos' hds2 l2 hc hsu r ih =>
          intro w
          obtain ⟨b, is, hyes, hno⟩ := w
          refine wpAny_handleBy_cons (codeAny_handlers_test ?_) (fun z => by cases z)
          have isCls : PySem.W.Looks (model X.prog X.w) h3 (typeOf (.ref a)) cls := fun A Q E s k q => wpAny_typeOf_ref (k _ _ g3) (by rw [z3.1]; exact q)
          have matches_ := PySem.W.exm_one (M := model X.prog X.w) J3.kIn isCls is
          have named : ∀ {Q : Value → Shared → Prop} {E : Value → Shared → Prop}, Q c { s' with heap := h3 } → wpAny (model X.prog X.w) (X.A.mark (some (.ref a))) (eval (.Name x np) X.env) Q E { s' with heap := h3 } := fun {Q E} q => by
            rcases hc with ⟨gl, nb2, own | ⟨no, blt, nn⟩⟩
            · exact ld_glob (X := X.suite a ((a, oe3) :: (X.pn ++ pins))) S3 gl own q nb2
            · exact ld_blt (X := X.suite a ((a, oe3) :: (X.pn ++ pins))) S3 gl no blt q nn nb2
          refine named (matches_.here ?_)
          cases b with
          | false =>
            show wpAny _ X.A (handleBy (.ref a) X.env hds2) _ _ _
            exact ih (hno rfl)
          | true =>
          refine codeAny_handlers_suite_as (HandSPX.lands_againZ fl3 fun h4 fl4 up4 => ?_)
          have J4 : Inv X pins σ' H' { s' with heap := h4 } := Inv.landed J nb fl4.1 ((up.trans up3).trans up4) os ag
          obtain ⟨oe4, vs4, g4, z4, d4⟩ := fl4.there
          refine store_ok (X := X.suite a ((a, oe4) :: (X.pn ++ pins))) (v := .ref a) (J4.suite g4 d4 na nL nF) nd hi (.inl loc) rfl (fun s5 S5 => ?_) (.inr loc)
          refine wpAny_mono ((hsu a oe4 cls d (X.pn ++ pins) z4 ⟨_, d4⟩).run [] s5 _ H' _ S5 (hyes rfl a na)) (fun f s6 ends => ?_) (fun _ _ z => False.elim z)
          cases f with
          | next =>
            obtain ⟨σ6, H6, S6, q6⟩ := ends
            have K6 : Inv X ((a, oe4) :: pins) σ6 H6 s6 := { ok := ok, os := S6.os, bare := S6.bare, base := S6.base, loc := S6.loc, cell := S6.cell, free := S6.free, freeC := S6.freeC, hok := S6.hok, len := S6.len, pin := fun p hp => S6.pin p (by
              rw [List.append_nil]
              rcases List.mem_append.mp hp with h | h
              · exact List.mem_cons_of_mem _ (List.mem_append_left _ h)
              · rcases List.mem_cons.mp h with rfl | h
                · exact List.mem_cons_self
                · exact List.mem_cons_of_mem _ (List.mem_append_right _ h)) }
            exact gone_ok K6 nd hi loc fun s7 K7 => ⟨_, _, track K7 hex n0 npin z4 d4, q6⟩
          | brk => exact ends.elim fun _ e => e.elim fun _ e => e.2.elim
          | cont => exact ends.elim fun _ e => e.elim fun _ e => e.2.elim
          | ret u => exact ends.elim fun _ e => e.elim fun _ e => e.elim fun _ e => e.2.2.elim
      exact go hh wish
    · intro f s1 ends
      cases f with
      | next => exact ends.elim fun σ' e => e.elim fun H' e => wpAny_execs_nil ⟨σ', H', e.1.ofTry ok, e.2⟩
      | brk => exact ends.elim fun σ' e => e.elim fun H' e => ⟨σ', H', e.1.ofTry ok, e.2⟩
      | cont => exact ends.elim fun σ' e => e.elim fun H' e => ⟨σ', H', e.1.ofTry ok, e.2⟩
      | ret u => exact ends.elim fun v e => e.elim fun σ' e => e.elim fun H' e => ⟨v, σ', H', e.1.ofTry ok, e.2⟩
end
end Wd

set_option Elab.async false
set_option linter.all false
set_option maxRecDepth 100000
set_option maxHeartbeats 4000000
set_option exponentiation.threshold 5000
namespace WdQ
open PySem PySem.Spec PyProof.Rows L2 WdM Wd
abbrev sRf : Stmt := topS 87
def pRf : List Str := ["_law_home", "_law_term", "_law_tale", "_law_least"]
def nRf : List Str := ["_law_home", "_law_term", "_law_tale", "_law_least", "_law_caught", "e", "_law_word"]
theorem scRf : FnScope nRf pRf (defScope sRf) := ⟨rfl, rfl, rfl, by decide +kernel, rfl, by decide +kernel, by decide +kernel⟩
section
variable {P : Program} {w : World} {K : PySem.W.Frag} {mg : Str → Option Value} {base : Heap} {CH CY CD CP CW CL fE fI : Addr}
def spRf (K : PySem.W.Frag) (CH CY : Addr) : Sp := fun vs H Q _ => ∃ (S : List Addr) (ho so : Addr) (v x : V) (d e : PyData) (F : List (Str × Option Str)) (D : List (Str × Int)), vs = [.ref ho, v, .ref so, x] ∧ HomeAt K CH H ho F ∧ StoryAt K CY H so D ∧ Dz S K H v d ∧ Sml d ∧ condNB d = true ∧ Dz S K H x e ∧
  ((dayB e = false ∧ ∀ H' t, Same H H' → SqT K H' t [.str "day", x] → Q (.ref t) H') ∨
    ∃ m z, e = .int m ∧ dayB e = true ∧ missN (F.map Prod.fst) (namesO d) = some z ∧ ∀ H' t, Same H H' → SqT K H' t [.str "person", .str z] → Q (.ref t) H')
theorem ok_rf {C : Nat → Addr} {f fC fO : Addr} {fd fdC fdO : FuncData} (B : Bi mg) (TD : ErC K mg "NoDay" "thing" CD fE CW) (TP : ErL K mg "NoPerson" "name" CP fI CL) (mPW : PySem.W.exmOne K (.ref CP) (.ref CW) = some false) (TC : ClsF mg C) (K7 : KitF K CD C 7) (K16 : KitF K CP C 16) (gW : mg "WordError" = some (.ref CW)) (gL : mg "LostError" = some (.ref CL))
    (D : Df K mg "_law_refused" sRf f fd pRf) (DO : Df K mg "_law_sort" sSort fO fdO ["_law_caught"])
    (gC : mg "comes" = some (.ref fC)) (kC : PySem.W.keepIn K (.ref fC) = true) (GC : FnOk P w K mg base (L2.CX P w) 13 fC fdC ["house", "cond", "story", "wait"] (spComes K CH CY CD CP)) (bC : Binds K fdC ["house", "cond", "story", "wait"] []) :
    FnOk P w K mg base CX0 14 f fd pRf (spRf K CH CY) := by
  have GO : FnOk P w K mg base CX0 1 fO fdO ["_law_caught"] (spSort K C) := ok_sort (k := 0) B TC DO
  refine D.fn.ok scRf (fun vs H Q E h => ?_) (fun cdv A outer s H vs Q E hr h => ?_)
  · obtain ⟨S, ho, so, v, x, d, e, F, Dd, rfl, _⟩ := h
    rfl
  · obtain ⟨S, ho, so, v, x, d, e, F, Dd, rfl, hH, hY, dz, sm, cn, dx, hc⟩ := h
    have r1 : Room 1 _ := hr.mono (by omega)
    refine ⟨_, pss_cons (ps_set (i := 4) scRf.nd rfl (.inl rfl) pe_non)
      (pss_cons (ps_try_gotM (i := 5) rfl rfl rfl scRf.nd rfl rfl
          (fun W pn xe tk _ => pss_one (ps_expr (pe_callSD GC hr (by rfl) gC kC bC .nil (fun σ => passAt tk σ) (pa_cons (pv 0) (pa_cons (pv 1) (pa_cons (pv 2) (pa_cons (pv 3) pa_nil)))))))
          (.cons (c := .ref CW) ⟨rfl, by decide, .inl gW⟩ (fun a oe cls d pn _ _ => pss_one (ps_set (i := 4) scRf.nd rfl (.inl rfl) (pv 5)))
          (.cons (c := .ref CL) ⟨rfl, by decide, .inl gL⟩ (fun a oe cls d pn _ _ => pss_one (ps_set (i := 4) scRf.nd rfl (.inl rfl) (pv 5))) .nil)))
      (pss_cons (ps_set (i := 6) scRf.nd rfl (.inl rfl) (pe_call GO r1 (by rfl) DO.mg DO.fn.kp DO.bd .nil pass0 (pa_cons (pv 4) pa_nil)))
      (pss_cons (ps_if (pt_cmpR op_eq (pv 6) pe_str (nomark _)) (pss_one (ps_ret (pe_tup (pa_cons (pv 6) (pa_cons (pe_xt (pv 4)) pa_nil))))) pss_nil)
      (pss_cons (ps_if (pt_cmpR op_eq (pv 6) pe_str (nomark _)) (pss_one (ps_ret (pe_tup (pa_cons (pv 6) (pa_cons (pe_xt (pv 4)) pa_nil))))) pss_nil)
      pss_no)))), ?_⟩
    refine ⟨_, rfl, _, rfl, _, rfl, _, rfl, S, ho, so, v, x, d, e, F, Dd, rfl, hH, hY, dz, sm, cn, dx, ?_⟩
    rcases hc with ⟨bad, q⟩ | ⟨m, z, rfl, good, ms, q⟩
    · refine ⟨fun _ H1 dd s1 ndd => ⟨true, TD.m, fun _ e' he => ⟨_, rfl, ?_⟩, fun z => nomatch z⟩, (fun m z _ h => absurd (h.symm.trans bad) (by decide)), fun m _ h => absurd (h.symm.trans bad) (by decide)⟩
      have s2 : Same H (upd (upd H1 dd (.xd [("thing", x)])) e' (ExT e' (.ref CD) (some dd))) := s1.trans ((same_new ndd).trans (same_new he))
      have l2 : (upd (upd H1 dd (.xd [("thing", x)])) e' (ExT e' (.ref CD) (some dd))) e' = some (ExT e' (.ref CD) (some dd)) := upd_same
      have l3 : (upd (upd H1 dd (.xd [("thing", x)])) e' (ExT e' (.ref CD) (some dd))) dd = some (.xd [("thing", x)]) := same_new he _ _ upd_same
      refine ⟨_, rfl, e', CD, some dd, 7, rfl, ⟨l2, fun dx z => (by cases z; exact ⟨_, l3⟩), TD.c⟩, K7, .inl rfl, fun H3 s3 => ?_⟩
      refine ⟨_, rfl, rfl, false, rfl, iteF ⟨_, rfl, rfl, true, rfl, iteT ⟨_, rfl, _, rfl, e', CD, dd, _, x, rfl, s3 _ _ l2, TD.f, TD.no, s3 _ _ l3, rfl, by show 2 ≤ sizeLine; decide, fun t nt => q _ t ((s2.trans s3).trans (same_new nt)) (sqT upd_same)⟩⟩⟩
    · refine ⟨fun h => absurd (h.symm.trans good) (by decide), (fun m' z' e1 _ ms' H1 dd s1 ndd => ?_), fun m' _ _ ms' => by rw [ms] at ms'; cases ms'⟩
      rw [ms] at ms'
      cases ms'
      refine ⟨false, mPW, (fun z => nomatch z), fun _ => ⟨true, TP.m, fun _ e' he => ⟨_, rfl, ?_⟩, fun z => nomatch z⟩⟩
      have s2 : Same H (upd (upd H1 dd (.xd [("name", .str z)])) e' (ExT e' (.ref CP) (some dd))) := s1.trans ((same_new ndd).trans (same_new he))
      have l2 : (upd (upd H1 dd (.xd [("name", .str z)])) e' (ExT e' (.ref CP) (some dd))) e' = some (ExT e' (.ref CP) (some dd)) := upd_same
      have l3 : (upd (upd H1 dd (.xd [("name", .str z)])) e' (ExT e' (.ref CP) (some dd))) dd = some (.xd [("name", .str z)]) := same_new he _ _ upd_same
      refine ⟨_, rfl, e', CP, some dd, 16, rfl, ⟨l2, fun dx z => (by cases z; exact ⟨_, l3⟩), TP.c⟩, K16, .inr rfl, fun H3 s3 => ?_⟩
      refine ⟨_, rfl, rfl, true, rfl, iteT ⟨_, rfl, _, rfl, e', CP, dd, _, .str z, rfl, s3 _ _ l2, TP.f, TP.no, s3 _ _ l3, rfl, by show 2 ≤ sizeLine; decide, fun t nt => q _ t ((s2.trans s3).trans (same_new nt)) (sqT upd_same)⟩⟩
end
end WdQ

set_option Elab.async false
set_option linter.all false
set_option maxRecDepth 100000
set_option maxHeartbeats 4000000
namespace WdQ
open PySem PySem.Spec PyProof.Rows L2 WdM Wd
/-! ### strangers: of eight names two at least aren't among six -/
theorem nodup_le : ∀ {L B : List Str}, L.Nodup → (∀ z ∈ L, z ∈ B) → L.length ≤ B.length
  | [], _, _, _ => Nat.zero_le _
  | z :: L, B, nd, h => by
    obtain ⟨zn, nd⟩ := List.nodup_cons.mp nd
    have zB := h z List.mem_cons_self
    have ih := nodup_le (L := L) (B := B.erase z) nd fun y hy => (List.mem_erase_of_ne (fun e : y = z => zn (by rw [← e]; exact hy))).mpr (h y (List.mem_cons_of_mem _ hy))
    rw [List.length_erase_of_mem zB] at ih
    have := List.length_pos_of_mem zB
    rw [List.length_cons]
    omega
def strB' (B : List Str) (z : Str) : Bool := !inV (.str z) (B.map V.str)
theorem filter_two (p : Str → Bool) : ∀ A : List Str, (A.filter p).length + (A.filter fun z => !p z).length = A.length
  | [] => rfl
  | z :: A => by
    have ih := filter_two p A
    cases e : p z with
    | true =>
      rw [List.filter_cons_of_pos e, List.filter_cons_of_neg (by simp [e]), List.length_cons, List.length_cons]
      omega
    | false =>
      rw [List.filter_cons_of_neg (by simp [e]), List.filter_cons_of_pos (by simp [e]), List.length_cons, List.length_cons]
      omega
theorem two_left {A B : List Str} (nd : A.Nodup) (l : B.length + 2 ≤ A.length) : 2 ≤ (A.filter (strB' B)).length := by
  have e := filter_two (strB' B) A
  have k : (A.filter fun z => !strB' B z).length ≤ B.length := nodup_le (nd.sublist List.filter_sublist) fun z hz => by
    have h := (List.mem_filter.mp hz).2
    unfold strB' at h
    rw [Bool.not_not] at h
    exact inV_str.mp h
  omega
def strangers : List Str := ["zoe", "yan", "xia", "wim", "vic", "una", "tom", "sam"]
theorem strangers_nd : strangers.Nodup := by decide +kernel
theorem strangers_nm : ∀ z ∈ strangers, nmB z = true := by
  intro z hz
  simp only [strangers, List.mem_cons, List.not_mem_nil, or_false] at hz
  rcases hz with rfl | rfl | rfl | rfl | rfl | rfl | rfl | rfl <;> decide +kernel
theorem strangers_two {B : List Str} (l : B.length ≤ 6) : ∃ a b ts, strangers.filter (strB' B) = a :: b :: ts ∧ nmB a = true ∧ nmB b = true ∧ a ∉ B ∧ b ∉ B := by
  have two := two_left (B := B) strangers_nd (by show B.length + 2 ≤ 8; omega)
  have no : ∀ z ∈ strangers.filter (strB' B), nmB z = true ∧ z ∉ B := fun z hz => by
    obtain ⟨h1, h2⟩ := List.mem_filter.mp hz
    refine ⟨strangers_nm z h1, fun hB => ?_⟩
    unfold strB' at h2
    rw [inV_str.mpr hB] at h2
    cases h2
  match e : strangers.filter (strB' B), two with
  | a :: b :: ts, _ => exact ⟨a, b, ts, rfl, (no a (by rw [e]; simp)).1, (no b (by rw [e]; simp)).1, (no a (by rw [e]; simp)).2, (no b (by rw [e]; simp)).2⟩
/-- the first one that isn't there, as the law picks it -/
theorem miss_first {B zs : List Str} {z : Str} (h : z ∈ zs) (n : z ∉ B) : ∃ y ys, zs.filter (strB' B) = y :: ys ∧ missN B zs = some y := by
  have e : zs.find? (strB' B) = (zs.filter (strB' B)).head? := (List.head?_filter ..).symm
  have ne : zs.filter (strB' B) ≠ [] := fun e0 => by
    have : z ∈ zs.filter (strB' B) := List.mem_filter.mpr ⟨h, by
      unfold strB'
      cases c : inV (.str z) (B.map V.str) with
      | true => exact absurd (inV_str.mp c) n
      | false => rfl⟩
    rw [e0] at this
    cases this
  match e1 : zs.filter (strB' B), ne with
  | y :: ys, _ => exact ⟨y, ys, rfl, by show zs.find? (strB' B) = some y; rw [e, e1]; rfl⟩
end WdQ

set_option Elab.async false
set_option linter.all false
set_option maxRecDepth 100000
set_option maxHeartbeats 4000000
namespace WdQ
open PySem PySem.Spec PyProof.Rows L2 WdM Wd
abbrev sTw : Stmt := topS 78
def nTw : List Str := ["_law_one", "_law_two", "_law_a", "_law_b"]
theorem scTw : FnScope nTw ["_law_one", "_law_two"] (defScope sTw) := ⟨rfl, rfl, rfl, by decide +kernel, rfl, by decide +kernel, by decide +kernel⟩
theorem op_two {X : Cx} {op : Value → Value → Sem Value} {r1 r2 : R2} (h1 : OpR X op r1) (h2 : OpR X op r2) : OpR X op (fun x y H Q => r1 x y H Q ∨ r2 x y H Q) := by
  intro pins s σ H x y v u Q I rx ry h
  rcases h with h | h
  · exact h1 pins s σ H x y v u Q I rx ry h
  · exact h2 pins s σ H x y v u Q I rx ry h
/-- small data, lists, too -/
def Sn : Nat → PyData → Prop
  | _, .none => True
  | _, .bool _ => True
  | _, .int _ => True
  | _, .str _ => True
  | 0, .list _ => False
  | 0, .tuple _ => False
  | _, .dict _ => True
  | n + 1, .list ds => ds.length ≤ 100 ∧ ∀ d ∈ ds, Sn n d
  | n + 1, .tuple ds => ds.length ≤ 100 ∧ ∀ d ∈ ds, Sn n d
def seqB (d : PyData) : Bool := isaB "tuple" d || isaB "list" d
section
variable {P : Program} {w : World} {K : PySem.W.Frag} {mg : Str → Option Value} {base : Heap}
theorem kit_seq (d : PyData) : PySem.W.kitAny K (.type (tyN d)) [.type "tuple", .type "list"] = some (seqB d) := by
  have h1 := kit_isa (K := K) (T := "tuple") (by decide) d
  have h2 := kit_isa (K := K) (T := "list") (by decide) d
  unfold PySem.W.kitAny
  rw [h1]
  unfold seqB
  cases isaB "tuple" d with
  | true => rfl
  | false =>
    show PySem.W.kitAny K (.type (tyN d)) [.type "list"] = _
    unfold PySem.W.kitAny
    rw [h2]
    cases isaB "list" d <;> rfl
theorem walk_zipT {a b : Addr} {xs ys : List V} {n : Nat} (h1 : n = xs.length) (h2 : n = ys.length) : Walk (RZ.ItzT K a b) n (fun H => SqT K H a xs ∧ SqT K H b ys) (YPair (fun i => xs[i]?) (fun i => ys[i]?)) := by
  refine ⟨fun i _ hi q => ⟨xs, ys, xs[i]'(by omega), ys[i]'(by omega), q.1, q.2, List.getElem?_eq_getElem _, List.getElem?_eq_getElem _⟩, fun _ q => ⟨xs, ys, q.1, q.2, .inl (by omega)⟩, fun i H v H' _ q y => ?_⟩
  obtain ⟨T, x, z, e1, e2, e3, e4, e5⟩ := y
  exact ⟨T, x, z, e1, e2, e3, e4 xs q.1, e5 ys q.2⟩
def spTw (K : PySem.W.Frag) (n : Nat) : Sp := fun vs H Q _ => ∃ (S : List Addr) (v v' : V) (d : PyData), vs = [v, v'] ∧ Dz S K H v d ∧ Dz S K H v' d ∧ Sn n d ∧ ∀ H', Same H H' → Q (.bl true) H'
def spTwR (K : PySem.W.Frag) : Nat → Sp
  | 0 => fun _ _ _ _ => False
  | n + 1 => spTw K n
theorem tw_step {f : Addr} {fd : FuncData} {k n : Nat} (B : Bi mg) (D : Df K mg "_law_twins" sTw f fd ["_law_one", "_law_two"]) (GB : FnOk P w K mg base CX0 (k + n) f fd ["_law_one", "_law_two"] (spTwR K n)) : FnOk P w K mg base CX0 (k + n + 1) f fd ["_law_one", "_law_two"] (spTw K n) := by
  refine D.fn.ok scTw (fun vs H Q E h => ?_) (fun cdv A outer s H vs Q E hr h => ?_)
  · obtain ⟨S, v, v', d, rfl, _⟩ := h
    rfl
  · obtain ⟨S, v, v', d, rfl, dz, dz', sm, q⟩ := h
    refine ⟨_, pss_cons (ps_if (PW.pt (pw_and (pt_val (pe_callB call_isiT (by rfl) B.isi boot_isinstance (pa_cons (pv 0) (pa_cons (pe_tup (pa_cons (pe_bltn (v := .ty "tuple") (by rfl) B.tuple boot_tuple rfl) (pa_cons (pe_bltn (v := .ty "list") (by rfl) B.list boot_list rfl) pa_nil))) pa_nil)))) (pw_and1 (pt_val (pe_callB call_isiT (by rfl) B.isi boot_isinstance (pa_cons (pv 1) (pa_cons (pe_tup (pa_cons (pe_bltn (v := .ty "tuple") (by rfl) B.tuple boot_tuple rfl) (pa_cons (pe_bltn (v := .ty "list") (by rfl) B.list boot_list rfl) pa_nil))) pa_nil)))))))
        (pss_cons (ps_if (PW.pt (pw_or (pt_cmpR op_ne (pe_callB call_isi (by rfl) B.isi boot_isinstance (pa_cons (pv 0) (pa_cons (pe_bltn (v := .ty "tuple") (by rfl) B.tuple boot_tuple rfl) pa_nil))) (pe_callB call_isi (by rfl) B.isi boot_isinstance (pa_cons (pv 1) (pa_cons (pe_bltn (v := .ty "tuple") (by rfl) B.tuple boot_tuple rfl) pa_nil))) (nomark _)) (pw_or1 (pt_cmpR op_ne (pe_callB call_len_seq (by rfl) B.len PySem.boot_len (pa_cons (pv 0) pa_nil)) (pe_callB call_len_seq (by rfl) B.len PySem.boot_len (pa_cons (pv 1) pa_nil)) (nomark _))))) (pss_one (ps_ret pe_bl)) pss_nil)
        (pss_one (ps_ret (pe_callB (cr_all rfl) (by rfl) B.all (by decide +kernel) (pa_cons (pe_lc (own := [("_law_a", 2), ("_law_b", 3)]) (g := gTup K 2 (gCons (gName 2) (gCons (gName 3) gNil))) (tt := tYes) rfl scTw.nd (RZ.pi_zipA (by rfl) B.zip (pa_cons (pv 0) (pa_cons (pv 1) pa_nil))) (blkOk_by (own := [("_law_a", 2), ("_law_b", 3)]) (N := nTw) (sc := defScope sTw) (by decide +kernel))
          (fun _ _ _ _ _ => pg_tup rfl (pgs_cons (pg_name (i := 2) scTw.nd rfl (Or.inl rfl)) (pgs_cons (pg_name (i := 3) scTw.nd rfl (Or.inl rfl)) pgs_nil))) (fun _ _ _ _ _ => pts_nil) (fun _ _ _ _ _ => pe_call GB hr (by rfl) D.mg D.fn.kp D.bd .nil pass0 (pa_cons (pv 2) (pa_cons (pv 3) pa_nil)))) pa_nil))))) pss_nil)
      (pss_cons (ps_if (pt_cmpR op_ne (pe_callB call_isi (by rfl) B.isi boot_isinstance (pa_cons (pv 0) (pa_cons (pe_bltn (v := .ty "bool") (by rfl) B.bool boot_bool rfl) pa_nil))) (pe_callB call_isi (by rfl) B.isi boot_isinstance (pa_cons (pv 1) (pa_cons (pe_bltn (v := .ty "bool") (by rfl) B.bool boot_bool rfl) pa_nil))) (nomark _)) (pss_one (ps_ret pe_bl)) pss_nil)
      (pss_one (ps_ret (pe_cmpR (op_two op_eq (op_eq_dict hr.units0)) (pv 0) (pv 1) (nomark _))))), ?_⟩
    refine ⟨_, rfl, by show 2 ≤ sizeLine; decide, fun tp n1 => ⟨v, tp, _, .type (tyN d), [.type "tuple", .type "list"], seqB d, rfl, upd_same, .cons (.ty _) (.cons (.ty _) .nil), (dz.same (same_new n1)).ty, kit_seq d, _, rfl, ?_⟩⟩
    have s1 : Same H (upd H tp (.tup [.ty "tuple", .ty "list"])) := same_new n1
    revert s1
    generalize upd H tp (.tup [.ty "tuple", .ty "list"]) = H1
    intro s1
    by_cases sq : seqB d = true
    rotate_left
    · have sq' : seqB d = false := by simpa using sq
      rw [sq']
      refine iteF (iteF ?_)
      refine ⟨_, rfl, _, .ty "bool", _, .type "bool", _, rfl, .ty _, (dz.same s1).ty, kit_isa (by decide) d, _, rfl, _, .ty "bool", _, .type "bool", _, rfl, .ty _, (dz'.same s1).ty, kit_isa (by decide) d, rfl, _, rfl, ?_⟩
      rw [show (!decide (V.bl (isaB "bool" d) = V.bl (isaB "bool" d))) = false by simp]
      refine iteF ⟨_, rfl, _, rfl, ?_⟩
      have q1 := q H1 s1
      cases dz with
      | non =>
        cases dz'
        exact .inl ⟨rfl, by rw [decide_eq_true rfl]; exact q1⟩
      | bl b =>
        cases dz'
        exact .inl ⟨rfl, by rw [decide_eq_true rfl]; exact q1⟩
      | int i =>
        cases dz'
        exact .inl ⟨rfl, by rw [decide_eq_true rfl]; exact q1⟩
      | str x =>
        cases dz'
        exact .inl ⟨rfl, by rw [decide_eq_true rfl]; exact q1⟩
      | lst _ _ _ => cases sq'
      | tup _ _ => cases sq'
      | nod n h =>
        cases dz' with
        | nod n' h' => exact .inr ⟨_, _, [], rfl, rfl, s1 _ _ h, s1 _ _ h', .nil, (fun _ hp => (List.not_mem_nil hp).elim), q1⟩
    · rw [sq]
      refine iteT ⟨_, rfl, by show 2 ≤ sizeLine; decide, fun tp2 n2 => ⟨v', tp2, _, .type (tyN d), [.type "tuple", .type "list"], seqB d, rfl, upd_same, .cons (.ty _) (.cons (.ty _) .nil), (dz'.same (s1.trans (same_new n2))).ty, kit_seq d, _, rfl, ?_⟩⟩
      have s2 : Same H (upd H1 tp2 (.tup [.ty "tuple", .ty "list"])) := s1.trans (same_new n2)
      revert s2
      generalize upd H1 tp2 (.tup [.ty "tuple", .ty "list"]) = H2
      intro s2
      rw [sq]
      refine iteT ?_
      refine ⟨_, rfl, _, .ty "tuple", _, .type "tuple", _, rfl, .ty _, (dz.same s2).ty, kit_isa (by decide) d, _, rfl, _, .ty "tuple", _, .type "tuple", _, rfl, .ty _, (dz'.same s2).ty, kit_isa (by decide) d, rfl, _, rfl, ?_⟩
      rw [show (!decide (V.bl (isaB "tuple" d) = V.bl (isaB "tuple" d))) = false by simp]
      refine iteF ?_
      cases dz with
      | non => cases sq
      | bl b => cases sq
      | int i => cases sq
      | str x => cases sq
      | nod n h => cases sq
      | tup hs ht =>
        rename_i a xs ds
        cases dz' with
        | tup hs' ht' =>
        rename_i a' xs'
        have e1 := ht.len
        have e2 := ht'.len
        cases n with
        | zero => exact sm.elim
        | succ m =>
        refine ⟨_, rfl, a, _, rfl, .inr ((tk_same s2).sq hs), _, rfl, a', _, rfl, .inr ((tk_same s2).sq hs'), rfl, _, rfl, ?_⟩
        rw [show (!decide (V.int ((xs.length : Nat) : Int) = V.int ((xs'.length : Nat) : Int))) = false by rw [e1, e2]; simp]
        refine iteF ⟨_, rfl, _, rfl, a, a', xs, xs', rfl, .inr ⟨(tk_same s2).sq hs, (tk_same s2).sq hs', fun L nL => ?_⟩⟩
        refine lc_it (walk_zipT (K := K) (a := a) (b := a') (xs := xs) (ys := xs') (n := xs.length) rfl (by omega)) (fun j H' => H' L = some (.lst ((List.replicate j true).map V.bl)) ∧ Same H2 H') ⟨upd_same, same_new nL⟩ (fun j H' _ h => ⟨(tk_same (s2.trans h.2)).sq hs, (tk_same (s2.trans h.2)).sq hs'⟩) ?_ ?_
        · rintro j x H5 H6 hj ⟨hL, s5⟩ ⟨T, y, y', rfl, nT, rfl, hy, hy'⟩
          have sT : Same H5 (upd H5 T (.tup [y, y'])) := same_new nT
          have gT : SqT K (upd H5 T (.tup [y, y'])) T [y, y'] := sqT upd_same
          revert sT gT
          generalize upd H5 T (.tup [y, y']) = H7
          intro sT gT
          obtain ⟨c, hc, dc⟩ := ht.get hy
          obtain ⟨c', hc', dc'⟩ := ht'.get hy'
          obtain rfl : c = c' := Option.some.inj (hc.symm.trans hc')
          have s07 := (s2.trans s5).trans sT
          have s27 := s5.trans sT
          refine ⟨T, _, rfl, gT, rfl, _, _, rfl, _, _, rfl, rfl, rfl, tyes (iteT ⟨_, rfl, _, rfl, S, y, y', c, rfl, dc.same s07, dc'.same s07, sm.2 c (List.mem_of_getElem? hc), fun H8 s8 => ⟨_, s8 _ _ (sT _ _ hL), ?_, ?_, ((Bt.of_same (S := []) (s27.trans s8)).upd0 nL).same⟩⟩)⟩
          · rw [List.length_map, List.length_replicate]
            have := sm.1
            exact small1000 (by omega)
          · rw [upd_same, List.replicate_succ', List.map_append]
            rfl
        · rintro H5 ⟨hL, s5⟩
          refine ⟨L, _, rfl, sqL hL, ?_⟩
          rw [show ((List.replicate xs.length true).all id) = true by simp]
          exact q H5 (s2.trans s5)
      | lst na hs ht =>
        rename_i a xs ds
        cases dz' with
        | lst na' hs' ht' =>
        rename_i a' xs'
        have e1 := ht.len
        have e2 := ht'.len
        cases n with
        | zero => exact sm.elim
        | succ m =>
        refine ⟨_, rfl, a, _, rfl, .inl (s2.seq hs), _, rfl, a', _, rfl, .inl (s2.seq hs'), rfl, _, rfl, ?_⟩
        rw [show (!decide (V.int ((xs.length : Nat) : Int) = V.int ((xs'.length : Nat) : Int))) = false by rw [e1, e2]; simp]
        refine iteF ⟨_, rfl, _, rfl, a, a', xs, xs', rfl, .inl ⟨s2.seq hs, s2.seq hs', fun L nL => ?_⟩⟩
        refine lc_it (walk_zip (K := K) (a := a) (b := a') (xs := xs) (ys := xs') (n := xs.length) (by omega)) (fun j H' => H' L = some (.lst ((List.replicate j true).map V.bl)) ∧ Same H2 H') ⟨upd_same, same_new nL⟩ (fun j H' _ h => ⟨(s2.trans h.2).seq hs, (s2.trans h.2).seq hs'⟩) ?_ ?_
        · rintro j x H5 H6 hj ⟨hL, s5⟩ ⟨T, y, y', rfl, nT, rfl, hy, hy'⟩
          have sT : Same H5 (upd H5 T (.tup [y, y'])) := same_new nT
          have gT : SqT K (upd H5 T (.tup [y, y'])) T [y, y'] := sqT upd_same
          revert sT gT
          generalize upd H5 T (.tup [y, y']) = H7
          intro sT gT
          obtain ⟨c, hc, dc⟩ := ht.get hy
          obtain ⟨c', hc', dc'⟩ := ht'.get hy'
          obtain rfl : c = c' := Option.some.inj (hc.symm.trans hc')
          have s07 := (s2.trans s5).trans sT
          have s27 := s5.trans sT
          refine ⟨T, _, rfl, gT, rfl, _, _, rfl, _, _, rfl, rfl, rfl, tyes (iteT ⟨_, rfl, _, rfl, S, y, y', c, rfl, dc.same s07, dc'.same s07, sm.2 c (List.mem_of_getElem? hc), fun H8 s8 => ⟨_, s8 _ _ (sT _ _ hL), ?_, ?_, ((Bt.of_same (S := []) (s27.trans s8)).upd0 nL).same⟩⟩)⟩
          · rw [List.length_map, List.length_replicate]
            have := sm.1
            exact small1000 (by omega)
          · rw [upd_same, List.replicate_succ', List.map_append]
            rfl
        · rintro H5 ⟨hL, s5⟩
          refine ⟨L, _, rfl, sqL hL, ?_⟩
          rw [show ((List.replicate xs.length true).all id) = true by simp]
          exact q H5 (s2.trans s5)
theorem ok_tw {f : Addr} {fd : FuncData} {k : Nat} (B : Bi mg) (D : Df K mg "_law_twins" sTw f fd ["_law_one", "_law_two"]) : ∀ n, FnOk P w K mg base CX0 (k + n + 1) f fd ["_law_one", "_law_two"] (spTw K n)
  | 0 => tw_step (n := 0) B D ⟨fun _ _ _ _ h => h.elim, fun _ _ _ _ _ _ _ _ _ _ _ _ _ h => h.elim⟩
  | n + 1 => tw_step (n := n + 1) B D (ok_tw B D n)
end
end WdQ

set_option Elab.async false
set_option linter.all false
set_option maxRecDepth 100000
set_option maxHeartbeats 4000000
namespace WdQ
open PySem PySem.Spec PyProof.Rows L2 WdM Wd
abbrev sRg : Stmt := topS 85
def pRg : List Str := ["_law_pool_here", "_law_people_here", "_law_term", "_law_deaths_here", "_law_least"]
def nRg : List Str := ["_law_pool_here", "_law_people_here", "_law_term", "_law_deaths_here", "_law_least", "_law_home", "_law_tale", "_law_due", "_law_way", "_law_found", "_law_one", "_law_last", "_law_when", "_law_on", "_law_other", "_law_word", "_law_both", "_law_single"]
theorem scRg : FnScope nRg pRg (defScope sRg) := ⟨rfl, rfl, rfl, by decide +kernel, rfl, by decide +kernel, by decide +kernel⟩
theorem passNo {X : Cx} {σ : L2.St} : PassesAt (L2.CX X.prog X.w) X σ E0 := fun _ _ _ _ _ _ h => by
  obtain ⟨_, _, _, _, _, _, _, _, _, _, _, _, h⟩ := h
  exact h.elim
section
variable {P : Program} {w : World} {K : PySem.W.Frag} {mg : Str → Option Value} {base : Heap} {CH CY CD CP : Addr}
theorem cond_sml {d : PyData} (cn : condNB d = true) : Sml d := by
  rcases condNB_ways cn with rfl | ⟨cb, _, _⟩
  · exact ⟨0, trivial⟩
  · exact ⟨6, (form_cd (Bool.and_eq_true_iff.mp cb).1).sm⟩
def spLmO (K : PySem.W.Frag) : Sp := fun vs H Q _ => ∃ (S : List Addr) (vF v vD : V) (d : PyData) (m : Int) (F : List (Str × Option Str)) (D : List (Str × Int)), vs = [vF, v, vD, .int m] ∧ FolkAt K H vF F ∧ GoodF F ∧ DeathsAt K H vD D ∧ GoodD D ∧ Dz S K H v d ∧ condNB d = true ∧ ∀ H', Same H H' → Q (.bl (comeO F D m d)) H'
theorem lm_o {vs : List V} {H : Hp} {Q : VK} {E : XK} (h : spLmO K vs H Q E) : spLm K 6 vs H Q E := by
  obtain ⟨S, vF, v, vD, d, m, F, D, e, hF, gf, hD, gd, dz, cn, q⟩ := h
  refine ⟨S, vF, v, vD, d, m, F, D, e, hF, gf, hD, gd, dz, ?_⟩
  rcases condNB_ways cn with rfl | ⟨cb, _, e2⟩
  · exact .inl ⟨rfl, q⟩
  · refine .inr ⟨(Bool.and_eq_true_iff.mp cb).1, fun H' s => ?_⟩
    rw [← e2]
    exact q H' s
theorem ok_lmO {k : Nat} {f : Addr} {fd : FuncData} (G : FnOk P w K mg base CX0 k f fd pLm (spLm K 6)) : FnOk P w K mg base CX0 k f fd pLm (spLmO K) := ⟨fun vs H Q E h => G.len vs H Q E (lm_o h), fun a b c d e f g i j k l m n h => G.run a b c d e f g i j k l m n (lm_o h)⟩
def daysO : PyData → List Int
  | .none => []
  | d => daysN 6 d
theorem daysO_le {d : PyData} (cn : condNB d = true) : (daysO d).length ≤ 46656 := by
  have e3 : condB d = true → daysO d = daysN 6 d := fun h => by cases d <;> first | rfl | cases h
  rcases condNB_ways cn with rfl | ⟨cb, _, e2⟩
  · exact Nat.zero_le _
  · rw [e3 cb]
    exact days_le (Bool.and_eq_true_iff.mp cb).1
def spDoO (K : PySem.W.Frag) : Sp := fun vs H Q _ => ∃ (S : List Addr) (v : V) (d : PyData), vs = [v] ∧ Dz S K H v d ∧ condNB d = true ∧ ∀ H' p, Same H H' → H p = none → H' p = some (.lst ((daysO d).map V.int)) → Q (.ref p) H'
theorem do_o {vs : List V} {H : Hp} {Q : VK} {E : XK} (h : spDoO K vs H Q E) : spDo K 6 vs H Q E := by
  obtain ⟨S, v, d, e, dz, cn, q⟩ := h
  have e3 : condB d = true → daysO d = daysN 6 d := fun h => by cases d <;> first | rfl | cases h
  rcases condNB_ways cn with rfl | ⟨cb, _, e2⟩
  · cases dz
    exact .inl ⟨e, fun p np => q _ p (same_new np) np upd_same⟩
  · exact .inr ⟨S, v, d, e, dz, (Bool.and_eq_true_iff.mp cb).1, fun H' p s np hp => q H' p s np (by rw [e3 cb]; exact hp)⟩
theorem ok_doO {k : Nat} {f : Addr} {fd : FuncData} (G : FnOk P w K mg base CX0 k f fd ["_law_term"] (spDo K 6)) : FnOk P w K mg base CX0 k f fd ["_law_term"] (spDoO K) := ⟨fun vs H Q E h => G.len vs H Q E (do_o h), fun a b c d e f g i j k l m n h => G.run a b c d e f g i j k l m n (do_o h)⟩
theorem come_cutO {F : List (Str × Option Str)} {D : List (Str × Int)} {b m : Int} {d : PyData} (g : GoodD D) (hm : m ≤ b) (cn : condNB d = true) (ld : ∀ i ∈ daysO d, i ≤ b) : comeO F (cutD b D) m d = comeO F D m d := by
  have e3 : condB d = true → daysO d = daysN 6 d := fun h => by cases d <;> first | rfl | cases h
  rcases condNB_ways cn with rfl | ⟨cb, _, e2⟩
  · rfl
  · rw [e2, e2]
    exact come_cut g hm (Bool.and_eq_true_iff.mp cb).1 (by rw [← e3 cb]; exact ld)
theorem condNB_of {ds : List PyData} (f : formB 6 (.tuple ds) = true) (l : (namesN 6 (.tuple ds)).length ≤ 12) : condNB (.tuple ds) = true := by
  show condB _ = true
  unfold condB
  rw [f, ← names_len f, decide_eq_true l]
  rfl
theorem neg_facts {F : List (Str × Option Str)} {D : List (Str × Int)} {m : Int} {d : PyData} {e : Nat} (fe : formB e d = true) (e5 : e ≤ 5) (l : (namesN 6 d).length ≤ 11) : condNB (.tuple [.str "not", d]) = true ∧ namesO (.tuple [.str "not", d]) = namesN 6 d ∧ comeO F D m (.tuple [.str "not", d]) = !comeN F D m 6 d := by
  obtain ⟨f5, n5, c5⟩ := form_more (F := F) (D := D) (m := m) fe e5
  obtain ⟨f6, n6, c6⟩ := form_more (F := F) (D := D) (m := m) fe (Nat.le_trans e5 (by decide : 5 ≤ 6))
  have en : namesN 6 (.tuple [.str "not", d]) = namesN 6 d := by rw [names_neg, n5, n6]
  refine ⟨condNB_of (form_neg f5) (by rw [en]; omega), en, ?_⟩
  show comeN F D m 6 _ = _
  rw [come_neg, c5, c6]
theorem liv_facts {F : List (Str × Option Str)} {D : List (Str × Int)} {m : Int} {z : Str} (h : nmB z = true) : condNB (.tuple [.str "lives", .str z]) = true ∧ namesO (.tuple [.str "lives", .str z]) = [z] ∧ comeO F D m (.tuple [.str "lives", .str z]) = aliveB D z m :=
  ⟨condNB_of (form_liv h) (by show 1 ≤ 12; decide), rfl, come_liv⟩
theorem row_facts {F : List (Str × Option Str)} {D : List (Str × Int)} {m : Int} {d : PyData} {e : Nat} {z : Str} (b : Bool) (hz : nmB z = true) (fe : formB e d = true) (e5 : e ≤ 5) (l : (namesN 6 d).length ≤ 11) : condNB (.tuple [.str (rowS b), d, .tuple [.str "lives", .str z]]) = true ∧ namesO (.tuple [.str (rowS b), d, .tuple [.str "lives", .str z]]) = namesN 6 d ++ [z] ∧
    comeO F D m (.tuple [.str (rowS b), d, .tuple [.str "lives", .str z]]) = (if b then comeN F D m 6 d && aliveB D z m else comeN F D m 6 d || aliveB D z m) := by
  obtain ⟨f5, n5, c5⟩ := form_more (F := F) (D := D) (m := m) fe e5
  obtain ⟨f6, n6, c6⟩ := form_more (F := F) (D := D) (m := m) fe (Nat.le_trans e5 (by decide : 5 ≤ 6))
  have en : namesN 6 (.tuple [.str (rowS b), d, .tuple [.str "lives", .str z]]) = namesN 6 d ++ [z] := by
    rw [names_row, n6, ← n5]
    rfl
  refine ⟨condNB_of (form_row (by show 2 ≤ 2; decide) (by show 2 ≤ 6; decide) fun c hc => ?_) (by rw [en, List.length_append]; show _ + 1 ≤ 12; omega), en, ?_⟩
  · simp only [List.mem_cons, List.not_mem_nil, or_false] at hc
    rcases hc with rfl | rfl
    · exact f5
    · exact form_liv hz
  · show comeN F D m 6 _ = _
    cases b
    · rw [show rowS false = "or" from rfl, come_or, List.any_cons, List.any_cons, List.any_nil, Bool.or_false, c5, come_liv, c6]
      rfl
    · rw [show rowS true = "and" from rfl, come_and, List.all_cons, List.all_cons, List.all_nil, Bool.and_true, c5, come_liv, c6]
      rfl
theorem miss_app {ns zs : List Str} {z : Str} (h : missN ns zs = none) (hz : z ∈ ns) : missN ns (zs ++ [z]) = none := by
  unfold missN at h ⊢
  rw [List.find?_append, h, List.find?_cons, inV_str.mpr hz]
  rfl
theorem HomeAt.bt {H H' : Hp} {o l : Addr} {rows : List (Str × Option Str)} (h : HomeAt K CH H o rows) (p : PoolAt H l) (b : Bt [l] H H') : HomeAt K CH H' o rows := by
  obtain ⟨dx, v, t, h, d, g, ht⟩ := h
  have tk := b.tk p.lst
  refine ⟨dx, v, t, b _ _ (fun z => ?_) h, d.tk tk, g, tk.sq ht⟩
  obtain ⟨zs, q⟩ := p.lst o z
  rw [h] at q
  cases q
theorem StoryAt.bt {H H' : Hp} {o l : Addr} {rows : List (Str × Int)} (h : StoryAt K CY H o rows) (p : PoolAt H l) (b : Bt [l] H H') : StoryAt K CY H' o rows := by
  obtain ⟨dx, v, h, d, g⟩ := h
  have tk := b.tk p.lst
  refine ⟨dx, v, b _ _ (fun z => ?_) h, d.tk tk, g⟩
  obtain ⟨zs, q⟩ := p.lst o z
  rw [h] at q
  cases q
theorem folk_mem {H : Hp} {F : List (Str × Option Str)} {xs : List V} (l : xs.length = F.length) (h : ∀ (i : Nat) (x : V), xs[i]? = some x → ∃ (a : Addr) (r : Str × Option Str), x = .ref a ∧ F[i]? = some r ∧ SqT K H a (rowF r)) : ∀ x ∈ xs, ∃ (a : Addr) (r : Str × Option Str), x = .ref a ∧ r ∈ F ∧ SqT K H a (rowF r) := fun x hx => by
  obtain ⟨i, hi⟩ := List.mem_iff_getElem?.mp hx
  obtain ⟨a, r, e1, e2, e3⟩ := h i x hi
  exact ⟨a, r, e1, List.mem_of_getElem? e2, e3⟩
def bothB (a b : Bool) : List Bool := [a && b, a || b]
theorem both_at {a b : Bool} {j : Nat} {x : V} (h : rowW[j]? = some x) : ∃ c, x = .str (rowS c) ∧ (bothB a b)[j]? = some (if c then a && b else a || b) := by
  match j, h with
  | 0, h => cases h; exact ⟨true, rfl, rfl⟩
  | 1, h => cases h; exact ⟨false, rfl, rfl⟩
theorem mno {o : Option Str} {z : Str} (h : o = none) (h' : o = some z) : False := by rw [h] at h'; cases h'
def spRg (K : PySem.W.Frag) : Sp := fun vs H Q _ => ∃ (l : Addr) (vF v vD : V) (d : PyData) (m : Int) (F : List (Str × Option Str)) (D : List (Str × Int)), vs = [.ref l, vF, v, vD, .int m] ∧ PoolAt H l ∧ FolkAt K H vF F ∧ GoodF F ∧ DeathsAt K H vD D ∧ GoodD D ∧ Dz [] K H v d ∧ condNB d = true ∧ -9999 ≤ m ∧ m ≤ 9999 ∧ missN (F.map Prod.fst) (namesO d) = none ∧
  ∀ H', Bt [l] H H' → PoolAt H' l → Q (.bl true) H'
theorem ok_rg {f fT fH fY fM fTo fDo fC fSd fDp : Addr} {fd fdT fdH fdY fdM fdTo fdDo fdC fdSd fdDp : FuncData} {dH dY : List Value} (B : Bi mg) (D : Df K mg "_law_right" sRg f fd pRg) (DT : Df K mg "_law_take" sTake fT fdT ["_law_pool_here", "_law_many"]) (GT : FnOk P w K mg base CX0 1 fT fdT ["_law_pool_here", "_law_many"] spTake)
    (MH : Mk K CH fH) (gH : mg "House" = some (.ref CH)) (GH : FnOk P w K mg base (L2.CX P w) 14 fH fdH ["self", "people", "goods", "purse", "debts"] (spHIa K CH)) (bH : Binds K fdH ["self", "people", "goods", "purse", "debts"] dH) (vH : Vals [.non, .int 0, .int 0] dH)
    (MY : Mk K CY fY) (gY : mg "Story" = some (.ref CY)) (GY : FnOk P w K mg base (L2.CX P w) 14 fY fdY ["self", "deaths"] (spSIa K CY)) (bY : Binds K fdY ["self", "deaths"] dY) (vY : Vals [] dY)
    (DM : Df K mg "_law_comes" sLm fM fdM pLm) (GM : FnOk P w K mg base CX0 14 fM fdM pLm (spLmO K)) (DTo : Df K mg "_law_told" sTo fTo fdTo pTo) (GTo : FnOk P w K mg base CX0 14 fTo fdTo pTo (spTo K CH CY)) (DDo : Df K mg "_law_days_of" sDo fDo fdDo ["_law_term"]) (GDo : FnOk P w K mg base CX0 14 fDo fdDo ["_law_term"] (spDoO K))
    (gC : mg "comes" = some (.ref fC)) (kC : PySem.W.keepIn K (.ref fC) = true) (GC : FnOk P w K mg base (L2.CX P w) 14 fC fdC pCo (spComes K CH CY CD CP)) (b4 : Binds K fdC pCo [])
    (DSd : Df K mg "_law_said_of" sSd fSd fdSd ["_law_term"]) (GSd : FnOk P w K mg base CX0 14 fSd fdSd ["_law_term"] (spSd K 6)) (DDp : Df K mg "_law_deep" sDp fDp fdDp ["_law_term"]) (GDp : FnOk P w K mg base CX0 14 fDp fdDp ["_law_term"] (spDp K 6)) :
    FnOk P w K mg base CX0 16 f fd pRg (spRg K) := by
  refine D.fn.ok scRg (fun vs H Q E h => ?_) (fun cdv A outer s H vs Q E hr h => ?_)
  · obtain ⟨l, vF, v, vD, d, m, F, Dd, rfl, _⟩ := h
    rfl
  · obtain ⟨l, vF, v, vD, d, m, F, Dd, rfl, pool, hF, gf, hD, gd, dz, cn, m0, m1, ms, q⟩ := h
    have dno : dayB (.int m) = false → False := fun h => absurd ((show dayB (.int m) = true from decide_eq_true ⟨m0, m1⟩).symm.trans h) (by decide)
    have r14 : Room 14 _ := hr.mono (by omega)
    have r1 : Room 1 _ := hr.mono (by omega)
    refine ⟨_, pss_cons (ps_asg (pe_tup (pa_cons (pe_makeS MH GH hr (by rfl) gH bH vH (fun _ => passNo) (pa_cons (pv 1) pa_nil)) (pa_cons (pe_makeS MY GY hr (by rfl) gY bY vY (fun _ => passNo) (pa_cons (pv 3) pa_nil)) pa_nil))) (pg_tup rfl (pgs_cons (pg_name (i := 5) scRg.nd rfl (.inr rfl)) (pgs_cons (pg_name (i := 6) scRg.nd rfl (.inr rfl)) pgs_nil))))
      (pss_cons (ps_set (i := 7) scRg.nd rfl (.inr rfl) (pe_call GM r14 (by rfl) DM.mg DM.fn.kp DM.bd .nil pass0 (pa_cons (pv 1) (pa_cons (pv 2) (pa_cons (pv 3) (pa_cons (pv 4) pa_nil))))))
      (pss_cons (ps_setLc (i := 9) (own := [("_law_way", 8)]) (g := gName 8) (tt := tYes) rfl scRg.nd rfl rfl (sw_true rfl rfl rfl (by decide +kernel)) (pi_range1 (by rfl) B.range (pa_cons pe_int pa_nil)) (blkOk_by (own := [("_law_way", 8)]) (N := nRg) (sc := defScope sRg) (by decide +kernel))
          (fun _ _ _ _ _ => pg_name (i := 8) scRg.nd rfl (Or.inl rfl)) (fun _ _ _ _ _ => pts_nil) (fun _ _ _ _ _ => pe_call GTo r14 (by rfl) DTo.mg DTo.fn.kp DTo.bd .nil pass0 (pa_cons (pv 5) (pa_cons (pv 2) (pa_cons (pv 6) (pa_cons (pv 4) (pa_cons (pv 8) pa_nil)))))))
      (pss_cons (ps_if (pt_not (pt_val (pe_callB (cr_all rfl) (by rfl) B.all (by decide +kernel) (pa_cons (pe_lc (own := [("_law_one", 10)]) (g := gName 10) (tt := tYes) rfl scRg.nd (pi_list (pv 9)) (blkOk_by (own := [("_law_one", 10)]) (N := nRg) (sc := defScope sRg) (by decide +kernel))
          (fun _ _ _ _ _ => pg_name (i := 10) scRg.nd rfl (Or.inl rfl)) (fun _ _ _ _ _ => pts_nil) (fun _ _ _ _ _ => pe_and (pe_callB (r := rIsi K) call_isi (by rfl) B.isi boot_isinstance (pa_cons (pv 10) (pa_cons (pe_bltn (v := .ty "bool") (by rfl) B.bool boot_bool rfl) pa_nil))) (pe_one (pe_cmpR op_eq (pv 10) (pv 7) (nomark _))))) pa_nil)))) (pss_one (ps_ret pe_bl)) pss_nil)
      (pss_cons (ps_set (i := 11) scRg.nd rfl (.inr rfl) (pe_callB (cr_max rfl) (by rfl) B.max (by decide +kernel) (pa_cons (pe_op op_cat (pe_lst (pa_cons (pv 4) pa_nil)) (pe_call GDo r14 (by rfl) DDo.mg DDo.fn.kp DDo.bd .nil pass0 (pa_cons (pv 2) pa_nil))) pa_nil)))
      (pss_cons (ps_set (i := 13) scRg.nd rfl (.inl rfl) (pe_callTy call_tuple_of (by rfl) B.tuple boot_tuple (pa_cons (pe_lc (own := [("_law_one", 10), ("_law_when", 12)]) (g := gTup K 2 (gCons (gName 10) (gCons (gName 12) gNil))) rfl scRg.nd (pi_tup (pv 3)) (blkOk_by (own := [("_law_one", 10), ("_law_when", 12)]) (N := nRg) (sc := defScope sRg) (by decide +kernel))
          (fun _ _ _ _ _ => pg_tup rfl (pgs_cons (pg_name (i := 10) scRg.nd rfl (Or.inl rfl)) (pgs_cons (pg_name (i := 12) scRg.nd rfl (Or.inl rfl)) pgs_nil))) (fun _ _ _ _ _ => pts_one (pt_cmpR op_le (pv 12) (pv 11) (nomark _))) (fun _ _ _ _ _ => pe_tup (pa_cons (pv 10) (pa_cons (pv 12) pa_nil)))) pa_nil)))
      (pss_cons (ps_if (pt_cmpR op_ne (pe_call GC r14 (by rfl) gC kC b4 .nil passNoP (pa_cons (pv 5) (pa_cons (pv 2) (pa_cons (pe_makeS MY GY hr (by rfl) gY bY vY (fun _ => passNo) (pa_cons (pv 13) pa_nil)) (pa_cons (pv 4) pa_nil))))) (pv 7) (nomark _)) (pss_one (ps_ret pe_bl)) pss_nil)
      (pss_cons (ps_if (PW.pt (pw_or (pt_cmpR op_isN (pv 2) pe_non (nomark _)) (pw_or (pt_cmpR op_gt (pe_callB call_len_seq (by rfl) B.len PySem.boot_len (pa_cons (pe_call GSd r14 (by rfl) DSd.mg DSd.fn.kp DSd.bd .nil pass0 (pa_cons (pv 2) pa_nil)) pa_nil)) pe_int (nomark _)) (pw_or1 (pt_cmpR op_gt (pe_call GDp r14 (by rfl) DDp.mg DDp.fn.kp DDp.bd .nil pass0 (pa_cons (pv 2) pa_nil)) pe_int (nomark _)))))) (pss_one (ps_ret pe_bl)) pss_nil)
      (pss_cons (ps_if (pt_cmpR op_eq (pe_call GC r14 (by rfl) gC kC b4 .nil passNoP (pa_cons (pv 5) (pa_cons (pe_tup (pa_cons pe_str (pa_cons (pv 2) pa_nil))) (pa_cons (pv 6) (pa_cons (pv 4) pa_nil))))) (pv 7) (nomark _)) (pss_one (ps_ret pe_bl)) pss_nil)
      (pss_cons (ps_set (i := 14) scRg.nd rfl (.inr rfl) (pe_tup (pa_cons pe_str (pa_cons (pe_ix (r := rIxT K) ix_tup (pe_ix (r := rIxT K) ix_tup (pv 1) (pe_call GT r1 (by rfl) DT.mg DT.fn.kp DT.bd .nil pass0 (pa_cons (pv 0) (pa_cons (pe_callB call_len_seq (by rfl) B.len PySem.boot_len (pa_cons (pv 1) pa_nil)) pa_nil))) (fun _ _ => rfl)) pe_int (fun _ _ => rfl)) pa_nil))))
      (pss_cons (ps_setLc (i := 16) (own := [("_law_word", 15)]) (g := gName 15) (tt := tYes) rfl scRg.nd rfl rfl (sw_true rfl rfl rfl (by decide +kernel)) (pi_list (PE.wk (t' := tWsN rowW) (pe_lst (pa_cons pe_str (pa_cons pe_str pa_nil))) (by intro σ H Q q; exact ⟨by show rowW.length ≤ sizeLine; decide, fun p n => q p _ (same_new n) n upd_same⟩))) (blkOk_by (own := [("_law_word", 15)]) (N := nRg) (sc := defScope sRg) (by decide +kernel))
          (fun _ _ _ _ _ => pg_name (i := 15) scRg.nd rfl (Or.inl rfl)) (fun _ _ _ _ _ => pts_nil) (fun _ _ _ _ _ => pe_call GC r14 (by rfl) gC kC b4 .nil passNoP (pa_cons (pv 5) (pa_cons (pe_tup (pa_cons (pv 15) (pa_cons (pv 2) (pa_cons (pv 14) pa_nil)))) (pa_cons (pv 6) (pa_cons (pv 4) pa_nil))))))
      (pss_cons (ps_set (i := 17) scRg.nd rfl (.inl rfl) (pe_call GC r14 (by rfl) gC kC b4 .nil passNoP (pa_cons (pv 5) (pa_cons (pv 14) (pa_cons (pv 6) (pa_cons (pv 4) pa_nil))))))
      (pss_one (ps_ret (pe_cmpR (op_eqD hr.units) (pv 16) (pe_lst (pa_cons (pe_and (pv 7) (pe_one (pv 17))) (pa_cons (pe_or (pv 7) (pe_one (pv 17))) pa_nil))) (nomark _))))))))))))))), ?_⟩
    refine ⟨_, rfl, fun oH dxH nH ndH neH => ⟨oH, dxH, vF, F, rfl, upd_same, hF.tk ((tk_new ndH).trans (tk_new (by rw [upd_ne neH.symm]; exact nH))), gf, fun H1 b1 home1 => ?_⟩⟩
    have s1 : Same H H1 := same_made nH ndH b1
    refine ⟨rfl, _, rfl, fun oY dxY nY ndY neY => ⟨oY, dxY, vD, Dd, rfl, upd_same, .inr ((hD.tk (tk_same s1)).tk ((tk_new ndY).trans (tk_new (by rw [upd_ne neY.symm]; exact nY)))), gd, fun H2 b2 tale2 => ?_⟩⟩
    have s2 : Same H1 H2 := same_made nY ndY b2
    refine ⟨rfl, by show 2 ≤ sizeLine; decide, fun tp ntp => ⟨tp, _, rfl, sqT upd_same, rfl, _, _, rfl, _, _, rfl, rfl, ?_⟩⟩
    have s3 : Same H (upd H2 tp (.tup [.ref oH, .ref oY])) := (s1.trans s2).trans (same_new ntp)
    have home3 : HomeAt K CH (upd H2 tp (.tup [.ref oH, .ref oY])) oH F := (home1.same s2).same (same_new ntp)
    have tale3 : StoryAt K CY (upd H2 tp (.tup [.ref oH, .ref oY])) oY Dd := tale2.same (same_new ntp)
    revert s3 home3 tale3
    generalize upd H2 tp (.tup [.ref oH, .ref oY]) = H3
    intro s3 home3 tale3
    clear b1 b2 s1 s2 home1 tale2 ntp nH ndH neH nY ndY neY
    refine ⟨_, rfl, _, rfl, _, rfl, _, rfl, [], vF, v, vD, d, m, F, Dd, rfl, hF.tk (tk_same s3), gf, hD.tk (tk_same s3), gd, dz.same s3, cn, fun H4 s4 => ?_⟩
    have s04 := s3.trans s4
    have home4 := home3.same s4
    have tale4 := tale3.same s4
    refine ⟨4, rfl, by decide, by decide, fun L nL => ?_⟩
    refine lc_it (walk_range (lo := 0) (n := 4)) (fun j H' => H' L = some (.lst ((List.replicate j (comeO F Dd m d)).map V.bl)) ∧ Same H4 H') ⟨upd_same, same_new nL⟩ (fun _ _ _ _ => trivial) ?_ ?_
    · rintro j x H5 H6 hj ⟨hL, s5⟩ ⟨rfl, rfl⟩
      refine ⟨rfl, tyes (iteT ⟨_, rfl, _, rfl, _, rfl, _, rfl, _, rfl, [], oH, oY, v, d, m, _, F, Dd, rfl, home4.same s5, tale4.same s5, dz.same (s04.trans s5), cond_sml cn, cn, m0, m1, ms, fun H7 s7 => ⟨_, s7 _ _ hL, ?_, ?_, ((Bt.of_same (S := []) (s5.trans s7)).upd0 nL).same⟩⟩)⟩
      · rw [List.length_map, List.length_replicate]
        exact small1000 (by omega)
      · rw [upd_same, List.replicate_succ', List.map_append]
        rfl
    rintro H5 ⟨hL, s5⟩
    have hL5 : H5 L = some (.lst ((List.replicate 4 (comeO F Dd m d)).map V.bl)) := hL
    refine ⟨_, rfl, L, rfl, ⟨_, sqL hL5⟩, fun L2 nL2 => ?_⟩
    refine lc_list (K := K) (a := L) (xs := (List.replicate 4 (comeO F Dd m d)).map V.bl) (fun j H' => H' L2 = some (.lst ((List.replicate j true).map V.bl)) ∧ Same H5 H') ⟨upd_same, same_new nL2⟩ (fun j H' _ h => sqL (h.2 _ _ hL5)) ?_ ?_
    · rintro j x H6 hx6 ⟨hL2, s6⟩
      have jl := lt_get hx6
      rw [List.length_map, List.length_replicate] at jl
      obtain rfl : x = .bl (comeO F Dd m d) := by
        obtain ⟨b, hb, rfl⟩ := List.mem_map.mp (List.mem_of_getElem? hx6)
        rw [List.eq_of_mem_replicate hb]
      refine ⟨rfl, tyes (iteT ⟨_, rfl, _, .ty "bool", _, .type "bool", true, rfl, .ty _, (Dz.bl (S := []) (K := K) (H := H6) (comeO F Dd m d)).ty, kit_isa (by decide) (.bool (comeO F Dd m d)), true, rfl, iteT ⟨_, rfl, _, rfl, rfl, ?_⟩⟩)⟩
      rw [decide_eq_true rfl]
      refine ⟨_, hL2, ?_, ?_, ((Bt.of_same (S := []) s6).upd0 nL2).same⟩
      · rw [List.length_map, List.length_replicate]
        exact small1000 (by omega)
      · rw [upd_same, List.replicate_succ', List.map_append]
        rfl
    rintro H6 ⟨hL2, s6⟩
    rw [List.length_map, List.length_replicate] at hL2
    refine ⟨L2, _, rfl, sqL hL2, true, rfl, iteF ?_⟩
    have s06 := (s04.trans (s5.trans s6))
    have home6 := home4.same (s5.trans s6)
    have tale6 := tale4.same (s5.trans s6)
    have due6 : comeO F Dd m d = comeO F Dd m d := rfl
    clear hL hL5 hL2 nL nL2
    refine ⟨_, rfl, by show 1 ≤ sizeLine; decide, fun p7 n7 => ?_⟩
    have s7 : Same H6 (upd H6 p7 (.lst [.int m])) := same_new n7
    have h7 : (upd H6 p7 (.lst [.int m])) p7 = some (.lst [.int m]) := upd_same
    revert s7 h7
    generalize upd H6 p7 (.lst [.int m]) = H7
    intro s7 h7
    refine ⟨_, rfl, [], v, d, rfl, dz.same (s06.trans s7), cn, fun H8 p8 s8 n8 h8 => ⟨p7, p8, _, _, rfl, rfl, s8 _ _ h7, h8, ?_, fun p9 n9 => ⟨p9, m :: daysO d, rfl, sqL upd_same, by simp, fun last hlast hmax => ?_⟩⟩⟩
    · rw [List.length_map]
      have := daysO_le cn
      exact Nat.le_trans (show 1 + (daysO d).length ≤ 50000 by omega) (by decide)
    have s9 : Same H (upd H8 p9 (.lst ([.int m] ++ (daysO d).map V.int))) := (s06.trans (s7.trans s8)).trans (same_new n9)
    have s69 : Same H6 (upd H8 p9 (.lst ([.int m] ++ (daysO d).map V.int))) := (s7.trans s8).trans (same_new n9)
    revert s9 s69
    generalize upd H8 p9 (.lst ([.int m] ++ (daysO d).map V.int)) = H9
    intro s9 s69
    have home9 := home6.same s69
    have tale9 := tale6.same s69
    have lm : m ≤ last := hmax m (by simp)
    have ld : ∀ i ∈ daysO d, i ≤ last := fun i hi => hmax i (List.mem_cons_of_mem _ hi)
    clear h7 h8 n7 n8 n9 s7 s8 home6 tale6 home4 tale4 home3 tale3
    obtain ⟨tD, xD, rfl, htD, xlD, hxD⟩ := id hD
    have l8 := gd.l8
    refine ⟨_, rfl, tD, rfl, ⟨_, (tk_same s9).sq htD⟩, fun L nL => lc_tup (K := K) (a := tD) (xs := xD) (fun j H' => (∃ ys, H' L = some (.lst ys) ∧ ys.length = (cutD last (Dd.take j)).length ∧ ∀ (i : Nat) (x : V), ys[i]? = some x → ∃ (a : Addr) (r : Str × Int), x = .ref a ∧ (cutD last (Dd.take j))[i]? = some r ∧ SqT K H' a (rowD r)) ∧ Same H9 H') ⟨⟨[], upd_same, rfl, fun i x h => by simp at h⟩, same_new nL⟩ (fun j H' _ h => (tk_same (s9.trans h.2)).sq htD) ?_ ?_⟩
    · rintro j x H10 hx10 ⟨⟨ys, hL, yl, hy⟩, s10⟩
      obtain ⟨ra, r, rfl, hr10, hra⟩ := hxD j x hx10
      have jl := lt_get hx10
      have cl : (cutD last (Dd.take j)).length ≤ 8 := by
        have := List.length_filter_le (fun r : Str × Int => decide (r.2 ≤ last)) (Dd.take j)
        rw [List.length_take] at this
        show (List.filter _ _).length ≤ 8
        omega
      have more : cutD last (Dd.take (j + 1)) = cutD last (Dd.take j) ++ (if r.2 ≤ last then [r] else []) := by
        unfold cutD
        rw [take_more hr10, List.filter_append, List.filter_cons, List.filter_nil]
        by_cases c : r.2 ≤ last <;> simp [c]
      refine ⟨ra, _, rfl, (tk_same (s9.trans s10)).sq hra, rfl, _, _, rfl, _, _, rfl, rfl, rfl, _, rfl, _, rfl, r.2, last, rfl, rfl, _, rfl, ?_⟩
      by_cases c : r.2 ≤ last
      · rw [decide_eq_true c]
        refine iteT ⟨_, rfl, _, rfl, by show 2 ≤ sizeLine; decide, fun t11 n11 => ?_⟩
        have hL' : (upd H10 t11 (.tup [.str r.1, .int r.2])) L = some (.lst ys) := by
          rw [upd_ne (ne_of_none hL n11)]
          exact hL
        refine ⟨ys, hL', ?_, ⟨ys ++ [.ref t11], upd_same, ?_, ?_⟩, ((Bt.of_same (S := []) (s10.trans (same_new n11))).upd0 nL).same⟩
        · rw [yl]
          exact small1000 (by omega)
        · rw [more, if_pos c, List.length_append, List.length_append, yl]
          rfl
        · rw [more, if_pos c]
          exact rows_tk (tk_lst hL') (rows_snoc (f := rowD) yl (rows_tk (tk_new n11) hy) (sqT upd_same))
      · rw [decide_eq_false c]
        refine iteF ⟨⟨ys, hL, ?_, ?_⟩, s10⟩
        · rw [more, if_neg c, List.append_nil]
          exact yl
        · rw [more, if_neg c, List.append_nil]
          exact hy
    · rintro H10 ⟨⟨ys, hL, yl, hy⟩, s10⟩
      rw [xlD, List.take_length] at yl hy
      refine ⟨L, ys, rfl, .inl ⟨sqL hL, fun tp ntp => ?_⟩⟩
      have dh11 : DeathsAt K (upd H10 tp (.tup ys)) (.ref tp) (cutD last Dd) := ⟨tp, ys, rfl, sqT upd_same, yl, rows_tk (tk_new ntp) hy⟩
      have s911 : Same H9 (upd H10 tp (.tup ys)) := s10.trans (same_new ntp)
      revert dh11 s911
      generalize upd H10 tp (.tup ys) = H11
      intro dh11 s911
      have s11 := s9.trans s911
      have home11 := home9.same s911
      have tale11 := tale9.same s911
      clear hL yl hy s10 ntp s911 home9 tale9 s9
      refine ⟨_, rfl, _, rfl, _, rfl, fun o2 dx2 n2 nd2 ne2 => ⟨o2, dx2, .ref tp, cutD last Dd, rfl, upd_same, .inr (dh11.tk ((tk_new nd2).trans (tk_new (by rw [upd_ne ne2.symm]; exact n2)))), goodD_cutD gd, fun H12 b12 tale12 => ?_⟩⟩
      have s12 : Same H11 H12 := same_made n2 nd2 b12
      refine ⟨rfl, _, rfl, [], oH, o2, _, .int m, d, .int m, F, cutD last Dd, rfl, home11.same s12, tale12, dz.same (s11.trans s12), cond_sml cn, cn, .int m, fun h => (dno h).elim, fun _ _ _ _ h => (mno ms h).elim, fun m' e13 _ _ H13 s13 => ?_⟩
      cases e13
      have s1113 := s12.trans s13
      have s013 := s11.trans s1113
      have home13 := home11.same s1113
      have tale13 := tale11.same s1113
      clear b12 tale12 n2 nd2 ne2 s12 s13 home11 tale11 dh11
      rw [come_cutO gd lm cn ld]
      refine ⟨_, rfl, rfl, _, rfl, ?_⟩
      rw [show (!decide (V.bl (comeO F Dd m d) = V.bl (comeO F Dd m d))) = false by simp]
      refine iteF ?_
      have back : ∀ H', Bt [l] H13 H' → PoolAt H' l → Q (.bl true) H' := fun H' b p => q H' ((Bt.of_same s013).trans b) p
      have pool13 := pool.same s013
      rcases condNB_ways cn with rfl | ⟨cb, en, ec⟩
      · cases dz
        exact ⟨_, rfl, rfl, _, rfl, iteT (iteT (back H13 (Bt.refl _) pool13))⟩
      have fm := (Bool.and_eq_true_iff.mp cb).1
      have dz13 := dz.same s013
      obtain ⟨av, xv, rfl, _⟩ : ∃ a xs, v = .ref a ∧ SqT K H13 a xs := by
        obtain ⟨_, _, _, _, _, rfl, _⟩ := form_shape fm
        cases dz13 with
        | tup hs _ => exact ⟨_, _, rfl, hs⟩
      refine ⟨_, rfl, rfl, _, rfl, iteF ?_⟩
      refine ⟨_, rfl, [], _, d, rfl, dz13, fm, fun H14 p14 s14 n14 h14 => ⟨p14, _, rfl, .inl (sqL h14), _, _, rfl, rfl, _, rfl, ?_⟩⟩
      have back14 : ∀ H', Bt [l] H14 H' → PoolAt H' l → Q (.bl true) H' := fun H' b p => back H' ((Bt.of_same s14).trans b) p
      have pool14 := pool13.same s14
      rw [List.length_map]
      by_cases c11 : (11 : Int) < ((namesN 6 d).length : Nat)
      · rw [decide_eq_true c11]
        exact iteT (iteT (back14 H14 (Bt.refl _) pool14))
      rw [decide_eq_false c11]
      have l11 : (namesN 6 d).length ≤ 11 := by omega
      refine iteF ⟨_, rfl, [], _, d, rfl, dz13.same s14, fm, fun H15 e s15 fe e1 e6 => ⟨_, 5, rfl, rfl, _, rfl, ?_⟩⟩
      have s1315 := s14.trans s15
      have back15 : ∀ H', Bt [l] H15 H' → PoolAt H' l → Q (.bl true) H' := fun H' b p => back14 H' ((Bt.of_same s15).trans b) p
      have pool15 := pool14.same s15
      by_cases c5 : (5 : Int) < (e : Nat)
      · rw [decide_eq_true c5]
        exact iteT (back15 H15 (Bt.refl _) pool15)
      rw [decide_eq_false c5]
      have e5 : e ≤ 5 := by omega
      refine iteF ?_
      have home15 := home13.same s1315
      have tale15 := tale13.same s1315
      have dz15 := dz13.same s1315
      clear back back14 pool13 pool14 home13 tale13 dz13 h14 n14 s14 s15 c11 c5 s1113 lm ld hlast hmax
      have hF15 := hF.tk (tk_same (s013.trans s1315))
      clear s013 s1315
      refine ⟨_, rfl, _, rfl, by show 2 ≤ sizeLine; decide, fun t16 n16 => ?_⟩
      have s16 : Same H15 (upd H15 t16 (.tup [.str "not", .ref av])) := same_new n16
      obtain ⟨cn1, nn1, ce1⟩ := neg_facts (F := F) (D := Dd) (m := m) fe e5 l11
      refine ⟨_, rfl, _, rfl, [], oH, oY, _, .int m, .tuple [.str "not", d], .int m, F, Dd, rfl, home15.same s16, tale15.same s16, .tup (sqT upd_same) (.cons (.str _) (.cons (dz15.same s16) .nil)), cond_sml cn1, cn1, .int m, fun h => (dno h).elim, fun _ _ _ _ h => (mno (by rw [nn1, ← en]; exact ms) h).elim, fun m' e17 _ _ H17 s17 => ?_⟩
      cases e17
      rw [ce1, ← ec]
      refine ⟨_, rfl, rfl, _, rfl, ?_⟩
      rw [show decide (V.bl (!comeO F Dd m d) = V.bl (comeO F Dd m d)) = false by cases comeO F Dd m d <;> rfl]
      refine iteF ?_
      have s1517 := s16.trans s17
      have home17 := home15.same s1517
      have tale17 := tale15.same s1517
      have dz17 := dz15.same s1517
      have hF17 := hF15.tk (tk_same s1517)
      have pool17 := pool15.same s1517
      have back17 : ∀ H', Bt [l] H17 H' → PoolAt H' l → Q (.bl true) H' := fun H' b p => back15 H' ((Bt.of_same s1517).trans b) p
      clear s16 s17 s1517 n16 home15 tale15 dz15 hF15 pool15 back15 cn1 nn1 ce1
      obtain ⟨tF, xF, rfl, htF, xlF, hxF⟩ := hF17
      have f1 := gf.l1
      refine ⟨_, rfl, _, rfl, _, rfl, tF, _, rfl, .inr htF, l, _, rfl, pool17, by omega, fun H18 i b18 pool18 i0 i1 => ?_⟩
      have tk18 := b18.tk pool17.lst
      obtain ⟨_, ex, ra, r, rfl, rF, hra⟩ := at_of (P := fun v => ∃ (a : Addr) (r : Str × Option Str), v = .ref a ∧ r ∈ F ∧ SqT K H17 a (rowF r)) (xs := xF) (d := i) (folk_mem xlF hxF) i0 i1
      refine ⟨tF, _, i, _, rfl, rfl, tk18.sq htF, ex, ra, _, 0, _, rfl, rfl, tk18.sq hra, rfl, by show 2 ≤ sizeLine; decide, fun t19 n19 => ?_⟩
      have nz : nmB r.1 = true := (gf.nm r rF).name
      have zF : r.1 ∈ F.map Prod.fst := List.mem_map_of_mem rF
      have h19 : SqT K (upd H18 t19 (.tup [.str "lives", .str r.1])) t19 [.str "lives", .str r.1] := sqT upd_same
      have s19 : Same H18 (upd H18 t19 (.tup [.str "lives", .str r.1])) := same_new n19
      revert h19 s19
      generalize upd H18 t19 (.tup [.str "lives", .str r.1]) = H19
      intro h19 s19
      have home19 := (home17.bt pool17 b18).same s19
      have tale19 := (tale17.bt pool17 b18).same s19
      have dz18 : Dz [] K H18 (.ref av) d := cd_tk tk18 (form_cd fm) dz17
      have dz19 := dz18.same s19
      have pool19 := pool18.same s19
      have back19 : ∀ H', Bt [l] H19 H' → PoolAt H' l → Q (.bl true) H' := fun H' b p => back17 H' ((b18.trans (Bt.of_same s19)).trans b) p
      revert nz zF h19
      generalize r.1 = z
      intro nz zF h19
      clear home17 tale17 dz17 pool17 back17 tk18 ex rF hra b18 pool18 s19 n19 htF hxF
      intro aW H20 s20 nW hW
      refine ⟨aW, rfl, ⟨_, sqL hW⟩, fun L2 nL2 => ?_⟩
      have home20 := home19.same s20
      have tale20 := tale19.same s20
      have dz20 := dz19.same s20
      have d320 : Dz [] K H20 (.ref t19) (.tuple [.str "lives", .str z]) := .tup ((tk_same s20).sq h19) (.cons (.str _) (.cons (.str _) .nil))
      refine lc_list (K := K) (a := aW) (xs := rowW) (fun j H' => H' L2 = some (.lst (((bothB (comeO F Dd m d) (aliveB Dd z m)).take j).map V.bl)) ∧ Same H20 H') ⟨upd_same, same_new nL2⟩ (fun j H' _ h => sqL (h.2 _ _ hW)) ?_ ?_
      · rintro j x H21 hx21 ⟨hL2, s21⟩
        obtain ⟨c, rfl, hb⟩ := both_at (a := comeO F Dd m d) (b := aliveB Dd z m) hx21
        obtain ⟨cn2, nn2, ce2⟩ := row_facts (F := F) (D := Dd) (m := m) c nz fe e5 l11
        refine ⟨rfl, tyes (iteT ⟨_, rfl, _, rfl, _, rfl, _, rfl, by show 3 ≤ sizeLine; decide, fun t22 n22 => ?_⟩)⟩
        have s22 : Same H20 (upd H21 t22 (.tup [.str (rowS c), .ref av, .ref t19])) := s21.trans (same_new n22)
        refine ⟨_, rfl, _, rfl, [], oH, oY, _, .int m, .tuple [.str (rowS c), d, .tuple [.str "lives", .str z]], .int m, F, Dd, rfl, home20.same s22, tale20.same s22, .tup (sqT upd_same) (.cons (.str _) (.cons (dz20.same s22) (.cons (d320.same s22) .nil))), cond_sml cn2, cn2, .int m, fun h => (dno h).elim, fun _ _ _ _ h => (mno (by rw [nn2, ← en]; exact miss_app ms zF) h).elim, fun m' e23 _ _ H23 s23 => ?_⟩
        cases e23
        rw [ce2, ← ec]
        refine ⟨_, s23 _ _ (same_new n22 _ _ hL2), ?_, ?_, ((Bt.of_same (S := []) (s22.trans s23)).upd0 nL2).same⟩
        · rw [List.length_map, List.length_take]
          have : (bothB (comeO F Dd m d) (aliveB Dd z m)).length = 2 := rfl
          exact small1000 (by omega)
        · rw [upd_same, take_more hb, List.map_append]
          rfl
      · rintro H21 ⟨hL2, s21⟩
        have hB21 : H21 L2 = some (.lst ((bothB (comeO F Dd m d) (aliveB Dd z m)).map V.bl)) := hL2
        obtain ⟨cn3, nn3, ce3⟩ := liv_facts (F := F) (D := Dd) (m := m) nz
        refine ⟨_, rfl, _, rfl, _, rfl, _, rfl, [], oH, oY, _, .int m, .tuple [.str "lives", .str z], .int m, F, Dd, rfl, home20.same s21, tale20.same s21, d320.same s21, cond_sml cn3, cn3, .int m, fun h => (dno h).elim, fun _ _ _ _ h => (mno (by rw [nn3]; exact miss_app (zs := []) rfl zF) h).elim, fun m' e22 _ _ H22 s22 => ?_⟩
        cases e22
        rw [ce3]
        have hB22 := s22 _ _ hB21
        have back22 : ∀ H', Same H22 H' → Q (.bl true) H' := fun H' s => back19 H' (Bt.of_same ((s20.trans (s21.trans s22)).trans s)) (pool19.same ((s20.trans (s21.trans s22)).trans s))
        revert hB22
        generalize comeO F Dd m d = a
        generalize aliveB Dd z m = b
        intro hB22
        have fin : ∀ (c e : Bool) (p : Addr), c = (a && b) → e = (a || b) → H22 p = none → rEqD K (.ref L2) (.ref p) (upd H22 p (.lst [.bl c, .bl e])) Q := fun c e p e1 e2 np => by
          subst e1
          subst e2
          refine ⟨.list [.bool (a && b), .bool (a || b)], .list [.bool (a && b), .bool (a || b)], .lst (sqL (same_new np _ _ hB22)) (.cons (.bl _) (.cons (.bl _) .nil)), .lst (sqL upd_same) (.cons (.bl _) (.cons (.bl _) .nil)), ?_, ?_, ?_⟩
          · cases a <;> cases b <;> decide +kernel
          · cases a <;> cases b <;> decide +kernel
          · rw [show PyData.eqv (.list [.bool (a && b), .bool (a || b)]) (.list [.bool (a && b), .bool (a || b)]) = true by cases a <;> cases b <;> decide +kernel]
            exact back22 _ (same_new np)
        cases a with
        | true => exact ⟨_, rfl, _, rfl, true, rfl, iteT ⟨_, rfl, _, rfl, true, rfl, iteT ⟨by show 2 ≤ sizeLine; decide, fun p np => fin _ _ p (by cases b <;> rfl) (by cases b <;> rfl) np⟩⟩⟩
        | false => exact ⟨_, rfl, _, rfl, false, rfl, iteF ⟨_, rfl, false, rfl, iteF ⟨_, rfl, by show 2 ≤ sizeLine; decide, fun p np => fin _ _ p (by cases b <;> rfl) (by cases b <;> rfl) np⟩⟩⟩
end
end WdQ

set_option Elab.async false
set_option linter.all false
set_option maxRecDepth 100000
set_option maxHeartbeats 4000000
namespace WdQ
open PySem PySem.Spec PyProof.Rows L2 WdM Wd
abbrev sRr : Stmt := topS 88
def pRr : List Str := ["_law_pool_here", "_law_people_here", "_law_term", "_law_deaths_here"]
def nRr : List Str := ["_law_pool_here", "_law_people_here", "_law_term", "_law_deaths_here", "_law_one", "_law_mate", "_law_home", "_law_tale", "_law_folk", "_law_strangers", "_law_odd", "_law_due", "_law_thing"]
theorem scRr : FnScope nRr pRr (defScope sRr) := ⟨rfl, rfl, rfl, by decide +kernel, rfl, by decide +kernel, by decide +kernel⟩
def strangersV : List V := [.str "zoe", .str "yan", .str "xia", .str "wim", .str "vic", .str "una", .str "tom", .str "sam"]
theorem strangersV_eq : strangersV = strangers.map V.str := rfl
/-- small data that are no day -/
def Od (K : PySem.W.Frag) (H : Hp) (v : V) : Prop := ∃ d, Dz [] K H v d ∧ Sn 2 d ∧ dayB d = false
theorem kpOd {K : PySem.W.Frag} : Kp RT (Od K) := ⟨fun _ _ _ _ h => h, fun _ _ _ e ⟨d, dz, sn, no⟩ => ⟨d, dz.same e, sn, no⟩⟩
theorem sn_one {n : Nat} {d : PyData} (h : Sn n d) : ∀ e ∈ [d], Sn n e := fun e he => by rw [List.mem_singleton.mp he]; exact h
section
variable {P : Program} {w : World} {K : PySem.W.Frag} {mg : Str → Option Value} {base : Heap} {CH CY CD CP : Addr}
def spRr (K : PySem.W.Frag) : Sp := fun vs H Q _ => ∃ (l : Addr) (vF v vD : V) (d : PyData) (F : List (Str × Option Str)) (D : List (Str × Int)), vs = [.ref l, vF, v, vD] ∧ PoolAt H l ∧ FolkAt K H vF F ∧ GoodF F ∧ F.length ≤ 6 ∧ DeathsAt K H vD D ∧ GoodD D ∧ Dz [] K H v d ∧ condB d = true ∧
  ∀ H', Bt [l] H H' → PoolAt H' l → Q (.bl true) H'
theorem ok_rr {f fH fY fWi fSd fTw fRf : Addr} {fd fdH fdY fdWi fdSd fdTw fdRf : FuncData} {dH dY : List Value} (D : Df K mg "_law_refusals_right" sRr f fd pRr)
    (MH : Mk K CH fH) (gH : mg "House" = some (.ref CH)) (GH : FnOk P w K mg base (L2.CX P w) 14 fH fdH ["self", "people", "goods", "purse", "debts"] (spHIa K CH)) (bH : Binds K fdH ["self", "people", "goods", "purse", "debts"] dH) (vH : Vals [.non, .int 0, .int 0] dH)
    (MY : Mk K CY fY) (gY : mg "Story" = some (.ref CY)) (GY : FnOk P w K mg base (L2.CX P w) 14 fY fdY ["self", "deaths"] (spSIa K CY)) (bY : Binds K fdY ["self", "deaths"] dY) (vY : Vals [] dY)
    (DWi : Df K mg "_law_with" sWi fWi fdWi pWi) (GWi : FnOk P w K mg base CX0 14 fWi fdWi pWi (spWi K 6)) (DSd : Df K mg "_law_said_of" sSd fSd fdSd ["_law_term"]) (GSd : FnOk P w K mg base CX0 14 fSd fdSd ["_law_term"] (spSd K 6))
    (DTw : Df K mg "_law_twins" sTw fTw fdTw ["_law_one", "_law_two"]) (GTw : FnOk P w K mg base CX0 14 fTw fdTw ["_law_one", "_law_two"] (spTw K 3)) (DRf : Df K mg "_law_refused" sRf fRf fdRf pRf) (GRf : FnOk P w K mg base CX0 14 fRf fdRf pRf (spRf K CH CY)) :
    FnOk P w K mg base CX0 16 f fd pRr (spRr K) := by
  refine D.fn.ok scRr (fun vs H Q E h => ?_) (fun cdv A outer s H vs Q E hr h => ?_)
  · obtain ⟨l, vF, v, vD, d, F, Dd, rfl, _⟩ := h
    rfl
  · obtain ⟨l, vF, v, vD, d, F, Dd, rfl, pool, hF, gf, fl, hD, gd, dz, cb, q⟩ := h
    have r14 : Room 14 _ := hr.mono (by omega)
    refine ⟨_, pss_cons (ps_asg (pe_tup (pa_cons (pe_makeS MH GH hr (by rfl) gH bH vH (fun _ => passNo) (pa_cons (pv 1) pa_nil)) (pa_cons (pe_makeS MY GY hr (by rfl) gY bY vY (fun _ => passNo) (pa_cons (pv 3) pa_nil)) (pa_cons
          (pe_lc (own := [("_law_one", 4), ("_law_mate", 5)]) (g := gTup K 2 (gCons (gName 4) (gCons (gName 5) gNil))) (tt := tYes) rfl scRr.nd (pi_tup (pv 1)) (blkOk_by (own := [("_law_one", 4), ("_law_mate", 5)]) (N := nRr) (sc := defScope sRr) (by decide +kernel))
            (fun _ _ _ _ _ => pg_tup rfl (pgs_cons (pg_name (i := 4) scRr.nd rfl (Or.inl rfl)) (pgs_cons (pg_name (i := 5) scRr.nd rfl (Or.inl rfl)) pgs_nil))) (fun _ _ _ _ _ => pts_nil) (fun _ _ _ _ _ => pv 4)) pa_nil))))
          (pg_tup rfl (pgs_cons (pg_name (i := 6) scRr.nd rfl (.inl rfl)) (pgs_cons (pg_name (i := 7) scRr.nd rfl (.inl rfl)) (pgs_cons (pg_name (i := 8) scRr.nd rfl (.inr rfl)) pgs_nil)))))
      (pss_cons (ps_setLc (i := 9) (own := [("_law_one", 4)]) (g := gName 4) rfl scRr.nd rfl rfl (sw_true rfl rfl rfl (by decide +kernel)) (pi_list (PE.wk (t' := tWsN strangersV) (pe_lst (pa_cons pe_str (pa_cons pe_str (pa_cons pe_str (pa_cons pe_str (pa_cons pe_str (pa_cons pe_str (pa_cons pe_str (pa_cons pe_str pa_nil))))))))) (by intro σ H Q q; exact ⟨by show strangersV.length ≤ sizeLine; decide, fun p n => q p _ (same_new n) n upd_same⟩))) (blkOk_by (own := [("_law_one", 4)]) (N := nRr) (sc := defScope sRr) (by decide +kernel))
          (fun _ _ _ _ _ => pg_name (i := 4) scRr.nd rfl (Or.inl rfl)) (fun _ _ _ _ _ => pts_one (pt_cmpR (r := rIn K true) op_notIn_seq (pv 4) (pv 8) (by rfl))) (fun _ _ _ _ _ => pv 4))
      (pss_cons (ps_set (i := 10) scRr.nd rfl (.inl rfl) (pe_call GWi r14 (by rfl) DWi.mg DWi.fn.kp DWi.bd .nil pass0 (pa_cons (pv 0) (pa_cons (pe_call GWi r14 (by rfl) DWi.mg DWi.fn.kp DWi.bd .nil pass0 (pa_cons (pv 0) (pa_cons (pv 2) (pa_cons (pe_ix (r := rIxL K) ix_list (pv 9) pe_int (fun _ _ => rfl)) pa_nil)))) (pa_cons (pe_ix (r := rIxL K) ix_list (pv 9) pe_int (fun _ _ => rfl)) pa_nil)))))
      (pss_cons (ps_set (i := 11) scRr.nd rfl (.inl rfl) (pe_ix (r := rIxL K) ix_list (pe_lc (own := [("_law_one", 4)]) (g := gName 4) rfl scRr.nd (pi_list (pe_call GSd r14 (by rfl) DSd.mg DSd.fn.kp DSd.bd .nil pass0 (pa_cons (pv 10) pa_nil))) (blkOk_by (own := [("_law_one", 4)]) (N := nRr) (sc := defScope sRr) (by decide +kernel))
          (fun _ _ _ _ _ => pg_name (i := 4) scRr.nd rfl (Or.inl rfl)) (fun _ _ _ _ _ => pts_one (pt_cmpR (r := rIn K true) op_notIn_seq (pv 4) (pv 8) (by rfl))) (fun _ _ _ _ _ => pv 4)) pe_int (fun _ _ => rfl)))
      (pss_cons (ps_if (pt_not (pt_val (pe_call GTw r14 (by rfl) DTw.mg DTw.fn.kp DTw.bd .nil pass0 (pa_cons (pe_call GRf r14 (by rfl) DRf.mg DRf.fn.kp DRf.bd .nil pass0 (pa_cons (pv 6) (pa_cons (pv 10) (pa_cons (pv 7) (pa_cons pe_int pa_nil))))) (pa_cons (pe_tup (pa_cons pe_str (pa_cons (pv 11) pa_nil))) pa_nil))))) (pss_one (ps_ret pe_bl)) pss_nil)
      (pss_cons (ps_for PassesOwn.never rfl (pi_list (peB_lst
          (paB_cons kpOd (PE.wk (t' := tB RT (Od K)) pe_int (by rintro σ H Q ⟨_, q⟩; exact q _ _ (Same.refl H) ⟨.int _, .int _, trivial, by decide⟩))
          (paB_cons kpOd (PE.wk (t' := tB RT (Od K)) (pe_op op_sub pe_int pe_int) (by rintro σ H Q ⟨_, q⟩; exact ⟨_, _, rfl, rfl, q _ _ (Same.refl H) ⟨.int _, .int _, trivial, by decide⟩⟩))
          (paB_cons kpOd (PE.wk (t' := tB RT (Od K)) pe_bl (by rintro σ H Q ⟨_, q⟩; exact q _ _ (Same.refl H) ⟨.bool _, .bl _, trivial, rfl⟩))
          (paB_cons kpOd (PE.wk (t' := tB RT (Od K)) pe_non (by rintro σ H Q ⟨_, q⟩; exact q _ _ (Same.refl H) ⟨.none, .non, trivial, rfl⟩))
          (paB_cons kpOd (PE.wk (t' := tB RT (Od K)) pe_str (by rintro σ H Q ⟨_, q⟩; exact q _ _ (Same.refl H) ⟨.str _, .str _, trivial, rfl⟩))
          (paB_cons kpOd (PE.wk (t' := tB RT (Od K)) (pe_tup (pa_cons pe_int pa_nil)) (by rintro σ H Q ⟨_, q⟩; exact ⟨by show 1 ≤ sizeLine; decide, fun p n => q _ _ (same_new n) ⟨.tuple [.int _], .tup (sqT upd_same) (.cons (.int _) .nil), ⟨by show 1 ≤ 100; decide, sn_one trivial⟩, rfl⟩⟩))
          (paB_cons kpOd (PE.wk (t' := tB RT (Od K)) (pe_lst (pa_cons pe_int pa_nil)) (by rintro σ H Q ⟨_, q⟩; exact ⟨by show 1 ≤ sizeLine; decide, fun p n => q _ _ (same_new n) ⟨.list [.int _], .lst (by simp) (sqL upd_same) (.cons (.int _) .nil), ⟨by show 1 ≤ 100; decide, sn_one trivial⟩, rfl⟩⟩))
          (paB_cons kpOd (PE.wk (t' := tB RT (Od K)) pe_dnewK (by rintro σ H Q ⟨_, q⟩; exact fun p n => q _ _ (same_new n) ⟨.dict [], .nod (by simp) upd_same, trivial, rfl⟩))
          (paB_cons kpOd (PE.wk (t' := tB RT (Od K)) (pe_tup (pa_cons (pe_lst pa_nil) pa_nil)) (by rintro σ H Q ⟨_, q⟩; exact ⟨by show 0 ≤ sizeLine; decide, fun p1 n1 => ⟨by show 1 ≤ sizeLine; decide, fun p n => q _ _ ((same_new n1).trans (same_new n)) ⟨.tuple [.list []], .tup (sqT upd_same) (.cons (.lst (by simp) (sqL (same_new n _ _ upd_same)) .nil) .nil), ⟨by show 1 ≤ 100; decide, sn_one ⟨by show 0 ≤ 100; decide, fun d hd => nomatch hd⟩⟩, rfl⟩⟩⟩))
          (paB_cons kpOd (PE.wk (t' := tB RT (Od K)) (pe_op op_pow pe_int pe_int) (by rintro σ H Q ⟨_, q⟩; exact ⟨10, 30, rfl, rfl, ⟨by decide, by decide, by decide⟩, q _ _ (Same.refl H) ⟨.int _, .int _, trivial, by decide⟩⟩))
          paB_nil)))))))))) (by decide))) (pg_name (i := 12) scRr.nd rfl (.inl rfl))
        (pss_one (ps_if (pt_not (pt_val (pe_call GTw r14 (by rfl) DTw.mg DTw.fn.kp DTw.bd .nil pass0 (pa_cons (pe_call GRf r14 (by rfl) DRf.mg DRf.fn.kp DRf.bd .nil pass0 (pa_cons (pv 6) (pa_cons (pv 10) (pa_cons (pv 7) (pa_cons (pv 12) pa_nil))))) (pa_cons (pe_tup (pa_cons pe_str (pa_cons (pv 12) pa_nil))) pa_nil))))) (pss_one (ps_ret pe_bl)) pss_nil)))
      (pss_one (ps_ret pe_bl))))))), ?_⟩
    refine ⟨_, rfl, fun oH dxH nH ndH neH => ⟨oH, dxH, vF, F, rfl, upd_same, hF.tk ((tk_new ndH).trans (tk_new (by rw [upd_ne neH.symm]; exact nH))), gf, fun H1 b1 home1 => ?_⟩⟩
    have s1 : Same H H1 := same_made nH ndH b1
    refine ⟨rfl, _, rfl, fun oY dxY nY ndY neY => ⟨oY, dxY, vD, Dd, rfl, upd_same, .inr ((hD.tk (tk_same s1)).tk ((tk_new ndY).trans (tk_new (by rw [upd_ne neY.symm]; exact nY)))), gd, fun H2 b2 tale2 => ?_⟩⟩
    have s2 : Same H1 H2 := same_made nY ndY b2
    have s02 := s1.trans s2
    have home2 := home1.same s2
    obtain ⟨tF, xF, rfl, htF, xlF, hxF⟩ := id hF
    have l8 := gf.l8
    refine ⟨rfl, _, rfl, tF, rfl, ⟨_, (tk_same s02).sq htF⟩, fun L nL => lc_tup (K := K) (a := tF) (xs := xF) (fun j H' => H' L = some (.lst (((F.take j).map Prod.fst).map V.str)) ∧ Same H2 H') ⟨upd_same, same_new nL⟩ (fun j H' _ h => (tk_same (s02.trans h.2)).sq htF) ?_ ?_⟩
    · rintro j x H5 hx5 ⟨hL, s5⟩
      obtain ⟨ra, r, rfl, hr5, hra⟩ := hxF j x hx5
      have jl := lt_get hx5
      refine ⟨ra, _, rfl, (tk_same (s02.trans s5)).sq hra, rfl, _, _, rfl, _, _, rfl, rfl, rfl, tyes (iteT ⟨_, rfl, _, hL, ?_, ?_, ((Bt.of_same (S := []) s5).upd0 nL).same⟩)⟩
      · rw [List.length_map, List.length_map, List.length_take]
        exact small1000 (by omega)
      · rw [upd_same, take_more hr5, List.map_append, List.map_append]
        rfl
    rintro H3 ⟨hL, s3⟩
    rw [xlF, List.take_length] at hL
    refine ⟨by show 3 ≤ sizeLine; decide, fun tp ntp => ⟨tp, _, rfl, sqT upd_same, rfl, _, _, rfl, _, _, rfl, _, _, rfl, rfl, ?_⟩⟩
    have s24 : Same H2 (upd H3 tp (.tup [.ref oH, .ref oY, .ref L])) := s3.trans (same_new ntp)
    have hL4 : (upd H3 tp (.tup [.ref oH, .ref oY, .ref L])) L = some (.lst ((F.map Prod.fst).map V.str)) := same_new ntp _ _ hL
    have nlL : L ≠ l := fun e => (pool.same s02).ne nL e.symm
    revert s24 hL4
    generalize upd H3 tp (.tup [.ref oH, .ref oY, .ref L]) = H4
    intro s24 hL4
    have s04 := s02.trans s24
    have home4 := home2.same s24
    have tale4 := tale2.same s24
    clear b1 b2 s1 s2 s02 home1 home2 tale2 nH ndH neH nY ndY neY ntp hL s3 nL s24
    have fl' : (F.map Prod.fst).length ≤ 6 := by rw [List.length_map]; exact fl
    have msE : ∀ zs z, z ∈ zs → z ∉ F.map Prod.fst → ∃ y ys, zs.filter (strB' (F.map Prod.fst)) = y :: ys ∧ missN (F.map Prod.fst) zs = some y := fun zs z h1 h2 => miss_first h1 h2
    obtain ⟨za, zb, zt, ez, na, nb, ia, ib⟩ := strangers_two fl'
    intro aS H5 s5 nS hS
    refine ⟨aS, rfl, ⟨_, sqL hS⟩, fun L2 nL2 => lc_list (K := K) (a := aS) (xs := strangersV) (fun i H' => H' L2 = some (.lst (((strangers.take i).filter (strB' (F.map Prod.fst))).map V.str)) ∧ Same H5 H') ⟨upd_same, same_new nL2⟩ (fun i H' _ h => sqL (h.2 _ _ hS)) ?_ ?_⟩
    · rintro i x H' hx ⟨hL2, sm⟩
      obtain ⟨y, hy, rfl⟩ : ∃ y, strangers[i]? = some y ∧ x = .str y := by
        rw [strangersV_eq, List.getElem?_map] at hx
        cases hc : strangers[i]? with
        | none => rw [hc] at hx; cases hx
        | some y => rw [hc] at hx; cases hx; exact ⟨y, rfl, rfl⟩
      refine ⟨rfl, ⟨_, rfl, _, rfl, L, _, rfl, .inl (sqL (sm _ _ (s5 _ _ hL4))), rfl, flat_strs _, _, rfl, ?_⟩⟩
      cases c1 : inV (.str y) ((F.map Prod.fst).map V.str) with
      | true =>
        refine iteF ⟨?_, sm⟩
        rw [take_more hy, List.filter_append, List.filter_cons, show strB' (F.map Prod.fst) y = false by unfold strB'; rw [c1]; rfl]
        simpa using hL2
      | false =>
        refine iteT ⟨_, rfl, _, hL2, ?_, ?_, ((Bt.of_same (S := []) sm).upd0 nL2).same⟩
        · rw [List.length_map]
          refine Nat.lt_of_le_of_lt (List.length_filter_le _ _) ?_
          rw [List.length_take]
          refine Nat.lt_of_le_of_lt (Nat.min_le_right _ _) ?_
          show 8 < sizeLine
          decide
        · rw [upd_same, take_more hy, List.filter_append, List.filter_cons, show strB' (F.map Prod.fst) y = true by unfold strB'; rw [c1]; rfl, if_pos rfl, List.filter_nil, List.map_append]
          rfl
    rintro H6 ⟨hL2, s6⟩
    rw [show strangers.take strangersV.length = strangers from rfl, ez] at hL2
    have s46 := s5.trans s6
    have s06 := s04.trans s46
    have home6 := home4.same s46
    have tale6 := tale4.same s46
    have hL6 := s46 _ _ hL4
    have pool6 := pool.same s06
    have nl2 : L2 ≠ l := fun e => ((pool.same s04).same s5).ne nL2 e.symm
    have dz6 := dz.same s06
    obtain ⟨fm, lf⟩ := Bool.and_eq_true_iff.mp cb
    have back6 : ∀ H', Bt [l] H6 H' → PoolAt H' l → Q (.bl true) H' := fun H' b p => q H' ((Bt.of_same s06).trans b) p
    clear s5 s6 s46 s06 home4 tale4 hL4 nS hS nL2 s04
    refine ⟨_, rfl, _, rfl, _, rfl, _, rfl, L2, _, 0, _, rfl, rfl, sqL hL2, atI_nat (j := 0) (h := rfl), l, _, za, d, rfl, pool6, dz6, fm, na, fun H7 v7 d7 b7 pool7 dz7 fm7 nl7 in7 => ?_⟩
    refine ⟨_, rfl, L2, _, 1, _, rfl, rfl, sqL (kept b7 hL2 (by simp [nl2])), atI_nat (j := 1) (h := rfl), l, v7, zb, d7, rfl, pool7, dz7, fm7, nb, fun H8 v8 d8 b8 pool8 dz8 fm8 nl8 in8 => ?_⟩
    have b68 := b7.trans b8
    have home8 := home6.bt pool6 b68
    have tale8 := tale6.bt pool6 b68
    have hL8 := kept b68 hL6 (by simp [nlL])
    have back8 : ∀ H', Same H8 H' → Q (.bl true) H' := fun H' s => back6 H' (b68.trans (Bt.of_same s)) (pool8.same s)
    obtain ⟨due, ds, ed, em⟩ := msE (namesN 6 d8) zb in8 ib
    have l12 : (namesN 6 d8).length ≤ 12 := by
      have e := names_len fm
      have := of_decide_eq_true lf
      omega
    obtain ⟨hs8, ts8, e8⟩ : ∃ a ts, v8 = .ref a ∧ d8 = .tuple ts := by
      obtain ⟨_, _, _, _, _, rfl, _⟩ := form_shape fm8
      cases dz8 with
      | tup hs _ => exact ⟨_, _, rfl, rfl⟩
    obtain ⟨rfl, rfl⟩ := e8
    have cn8 : condNB (.tuple ts8) = true := condNB_of fm8 l12
    clear home6 tale6 hL6 hL2 pool6 b7 b8 b68 dz6 dz7 pool7 pool8 in7 in8 nl7 nl8 back6 ia ib na nb ez nl2
    refine ⟨_, rfl, [], _, _, rfl, dz8, fm8, fun H9 p9 s9 n9 h9 => ⟨p9, rfl, ⟨_, sqL h9⟩, fun L3 nL3 => lc_list (K := K) (a := p9) (xs := (namesN 6 (.tuple ts8)).map V.str) (fun i H' => H' L3 = some (.lst ((((namesN 6 (.tuple ts8)).take i).filter (strB' (F.map Prod.fst))).map V.str)) ∧ Same H9 H') ⟨upd_same, same_new nL3⟩ (fun i H' _ h => sqL (h.2 _ _ h9)) ?_ ?_⟩⟩
    · rintro i x H' hx ⟨hL3, sm⟩
      obtain ⟨y, hy, rfl⟩ : ∃ y, (namesN 6 (.tuple ts8))[i]? = some y ∧ x = .str y := by
        rw [List.getElem?_map] at hx
        cases hc : (namesN 6 (.tuple ts8))[i]? with
        | none => rw [hc] at hx; cases hx
        | some y => rw [hc] at hx; cases hx; exact ⟨y, rfl, rfl⟩
      refine ⟨rfl, ⟨_, rfl, _, rfl, L, _, rfl, .inl (sqL (sm _ _ (s9 _ _ hL8))), rfl, flat_strs _, _, rfl, ?_⟩⟩
      cases c1 : inV (.str y) ((F.map Prod.fst).map V.str) with
      | true =>
        refine iteF ⟨?_, sm⟩
        rw [take_more hy, List.filter_append, List.filter_cons, show strB' (F.map Prod.fst) y = false by unfold strB'; rw [c1]; rfl]
        simpa using hL3
      | false =>
        refine iteT ⟨_, rfl, _, hL3, ?_, ?_, ((Bt.of_same (S := []) sm).upd0 nL3).same⟩
        · rw [List.length_map]
          refine Nat.lt_of_le_of_lt (List.length_filter_le _ _) ?_
          rw [List.length_take]
          exact small1000 (by omega)
        · rw [upd_same, take_more hy, List.filter_append, List.filter_cons, show strB' (F.map Prod.fst) y = true by unfold strB'; rw [c1]; rfl, if_pos rfl, List.filter_nil, List.map_append]
          rfl
    rintro H10 ⟨hL3, s10⟩
    rw [List.length_map, List.take_length, ed] at hL3
    have s810 := s9.trans s10
    refine ⟨L3, _, 0, _, rfl, rfl, sqL hL3, atI_nat (j := 0) (h := rfl), ?_⟩
    have home10 := home8.same s810
    have tale10 := tale8.same s810
    have dz10 := dz8.same s810
    have back10 : ∀ H', Same H10 H' → Q (.bl true) H' := fun H' s => back8 H' (s810.trans s)
    clear home8 tale8 dz8 back8 s9 s10 s810 h9 n9 nL3 hL3 hL8
    refine ⟨_, rfl, _, rfl, _, rfl, [], oH, oY, _, .int 0, _, .int 0, F, Dd, rfl, home10, tale10, dz10, cond_sml cn8, cn8, .int 0, .inr ⟨0, due, rfl, rfl, em, fun H11 t11 s11 h11 => ?_⟩⟩
    refine ⟨_, rfl, by show 2 ≤ sizeLine; decide, fun t12 n12 => ⟨[], _, _, .tuple [.str "person", .str due], rfl, .tup ((tk_new n12).sq h11) (.cons (.str _) (.cons (.str _) .nil)), .tup (sqT upd_same) (.cons (.str _) (.cons (.str _) .nil)), ⟨by show 2 ≤ 100; decide, fun e he => ?_⟩, fun H13 s13 => ⟨true, rfl, iteF ?_⟩⟩⟩
    · simp only [List.mem_cons, List.not_mem_nil, or_false] at he
      rcases he with rfl | rfl <;> trivial
    have s1013 := (s11.trans (same_new n12)).trans s13
    have home13 := home10.same s1013
    have tale13 := tale10.same s1013
    have dz13 := dz10.same s1013
    have back13 : ∀ H', Same H13 H' → Q (.bl true) H' := fun H' s => back10 H' (s1013.trans s)
    clear home10 tale10 dz10 back10 s11 s13 n12 h11 s1013
    refine ⟨trivial, fun pO xs H14 s14 nO xl od => ?_⟩
    have sO : Same H13 (upd H14 pO (.lst xs)) := s14.trans (same_new nO)
    have hO : (upd H14 pO (.lst xs)) pO = some (.lst xs) := upd_same
    have od : ∀ x ∈ xs, Od K (upd H14 pO (.lst xs)) x := fun x hx => kpOd.b _ _ _ (same_new nO) (od x hx)
    revert sO hO od
    generalize upd H14 pO (.lst xs) = H15
    intro sO hO od
    refine ⟨pO, rfl, ⟨_, sqL hO⟩, for_list (K := K) (a := pO) (xs := xs) (fun i σ H' => (∃ y12 : Option V, σ = [some (.ref l), some (.ref tF), some v, some vD, none, none, some (.ref oH), some (.ref oY), some (.ref L), some (.ref L2), some (.ref hs8), some (.str due), y12]) ∧ Same H15 H') ⟨⟨none, rfl⟩, Same.refl _⟩ (fun i σ H' _ h => sqL (h.2 _ _ hO)) ?_ ?_⟩
    · rintro i x σ H16 hx ⟨⟨y12, rfl⟩, s16⟩
      obtain ⟨e, dx, sn, no⟩ := od x (List.mem_of_getElem? hx)
      have s1316 := sO.trans s16
      refine ⟨_, rfl, _, rfl, _, rfl, _, rfl, [], oH, oY, _, x, _, e, F, Dd, rfl, home13.same s1316, tale13.same s1316, dz13.same s1316, cond_sml cn8, cn8, dx.same s16, .inl ⟨no, fun H17 t17 s17 h17 => ?_⟩⟩
      refine ⟨_, rfl, by show 2 ≤ sizeLine; decide, fun t18 n18 => ⟨[], _, _, .tuple [.str "day", e], rfl, .tup ((tk_new n18).sq h17) (.cons (.str _) (.cons ((dx.same (s16.trans s17)).same (same_new n18)) .nil)), .tup (sqT upd_same) (.cons (.str _) (.cons ((dx.same (s16.trans s17)).same (same_new n18)) .nil)), ⟨by show 2 ≤ 100; decide, fun g hg => ?_⟩, fun H19 s19 => ⟨true, rfl, iteF ?_⟩⟩⟩
      · simp only [List.mem_cons, List.not_mem_nil, or_false] at hg
        rcases hg with rfl | rfl
        · trivial
        · exact sn
      · exact ⟨⟨_, rfl⟩, ((s16.trans s17).trans (same_new n18)).trans s19⟩
    · rintro σ H16 ⟨⟨y12, rfl⟩, s16⟩
      exact back13 H16 (sO.trans s16)
end
end WdQ

set_option Elab.async false
set_option linter.all false
set_option maxRecDepth 100000
set_option maxHeartbeats 4000000
set_option exponentiation.threshold 5000
namespace WdQ
open PySem PySem.Spec PyProof.Rows L2 WdM Wd
abbrev sLaw : Stmt := topS 89
abbrev nL : List Str := ["_law_script", "_law_k", "_law_pool_here", "_law_people_here", "_law_one", "_law_mate", "_law_folk", "_law_days", "_law_turn", "_law_least", "_law_deaths_here", "_law_term"]
theorem scLaw : FnScope nL ["_law_script"] (defScope sLaw) := ⟨rfl, rfl, rfl, by decide +kernel, rfl, by decide +kernel, by decide +kernel⟩
theorem rg2 {j : Int} (h1 : 1 ≤ j) (h2 : j ≤ 10) : RgC 0 j 2 (Builtin.Range.rangeSize 0 j 2).toNat ∧ (Builtin.Range.rangeSize 0 j 2).toNat ≤ 5 := by
  have all : ∀ m : Fin 11, Builtin.Range.small 0 ((m.val : Nat) : Int) 2 = true ∧ 0 ≤ Builtin.Range.rangeSize 0 ((m.val : Nat) : Int) 2 ∧ (Builtin.Range.rangeSize 0 ((m.val : Nat) : Int) 2).toNat ≤ 5 := by decide +kernel
  obtain ⟨m, rfl⟩ := Int.eq_ofNat_of_zero_le (show 0 ≤ j by omega)
  have := all ⟨m, by omega⟩
  exact ⟨⟨by decide, by decide, this.1, (Int.toNat_of_nonneg this.2.1).symm⟩, this.2.2⟩
theorem PoolAt.bt {H H' : Hp} {p l : Addr} (h : PoolAt H p) (b : Bt [l] H H') (n : p ≠ l) : PoolAt H' p := by
  obtain ⟨m, m2, q, r⟩ := h
  exact ⟨m, m2, b _ _ (by simp [n]) q, r⟩
theorem days_cut {i d : Int} (i0 : -9999 ≤ i) (i1 : i ≤ 9999) (d0 : 0 ≤ d) (d1 : d < 5) : ∃ ds : List Int, cutV [.int 0, .int 30, .int i, .int 9999, .int (0 - 9999)] none (some (1 + d)) = ds.map V.int ∧ 1 ≤ ds.length ∧ ds.length ≤ 5 ∧ ∀ x ∈ ds, -9999 ≤ x ∧ x ≤ 9999 := by
  have hd : d = 0 ∨ d = 1 ∨ d = 2 ∨ d = 3 ∨ d = 4 := by omega
  have all : ∀ x ∈ [0, 30, i, 9999, 0 - 9999], -9999 ≤ x ∧ x ≤ 9999 := fun x hx => by
    simp only [List.mem_cons, List.not_mem_nil, or_false] at hx
    rcases hx with rfl | rfl | rfl | rfl | rfl <;> omega
  rcases hd with rfl | rfl | rfl | rfl | rfl
  · exact ⟨[0, 30, i, 9999, 0 - 9999].take 1, rfl, by show 1 ≤ 1; decide, by show 1 ≤ 5; decide, fun x hx => all x (List.mem_of_mem_take hx)⟩
  · exact ⟨[0, 30, i, 9999, 0 - 9999].take 2, rfl, by show 1 ≤ 2; decide, by show 2 ≤ 5; decide, fun x hx => all x (List.mem_of_mem_take hx)⟩
  · exact ⟨[0, 30, i, 9999, 0 - 9999].take 3, rfl, by show 1 ≤ 3; decide, by show 3 ≤ 5; decide, fun x hx => all x (List.mem_of_mem_take hx)⟩
  · exact ⟨[0, 30, i, 9999, 0 - 9999].take 4, rfl, by show 1 ≤ 4; decide, by show 4 ≤ 5; decide, fun x hx => all x (List.mem_of_mem_take hx)⟩
  · exact ⟨[0, 30, i, 9999, 0 - 9999].take 5, rfl, by show 1 ≤ 5; decide, by show 5 ≤ 5; decide, fun x hx => all x (List.mem_of_mem_take hx)⟩
/-- the people, and walt, if nobody is called so -/
def waltB (zs : List Str) : Bool := !inV (.str "walt") (zs.map V.str)
def waltL (zs : List Str) : List Str := zs ++ (if waltB zs then [("walt" : Str)] else [])
theorem walt_nm : Nm "walt" := by
  have : ("walt" : Str).cps.toList.all letB = true ∧ 1 ≤ ("walt" : Str).length ∧ ("walt" : Str).length ≤ 6 := by decide +kernel
  exact ⟨⟨fun c hc => List.all_eq_true.mp this.1 c hc, this.2⟩, by decide +kernel⟩
theorem walt_nd {zs : List Str} (h : zs.Nodup) : (waltL zs).Nodup := by
  unfold waltL
  by_cases c : waltB zs = true
  · rw [if_pos c]
    refine List.nodup_append.mpr ⟨h, by simp, fun a ha b hb e => ?_⟩
    rw [List.mem_singleton.mp hb] at e
    rw [e] at ha
    unfold waltB at c
    rw [inV_str.mpr ha] at c
    cases c
  · rw [if_neg c, List.append_nil]
    exact h
theorem walt_mem {zs : List Str} {z : Str} (h : z ∈ waltL zs) : z ∈ zs ∨ z = "walt" := by
  unfold waltL at h
  rcases List.mem_append.mp h with h | h
  · exact .inl h
  · split at h
    · exact .inr (List.mem_singleton.mp h)
    · cases h
theorem walt_len {zs : List Str} : (waltL zs).length ≤ zs.length + 1 := by
  unfold waltL
  rw [List.length_append]
  split
  · exact Nat.le_refl _
  · exact Nat.le_succ _
theorem walt_rep {zs : List Str} : (zs.map V.str) ++ (List.replicate (if waltB zs then (1 : Int) else 0).toNat [V.str "walt"]).flatten = (waltL zs).map V.str := by
  unfold waltL
  rw [List.map_append]
  cases waltB zs <;> rfl
theorem missN_of {ns zs : List Str} (h : ∀ z ∈ zs, z ∈ ns) : missN ns zs = none := List.find?_eq_none.mpr fun z hz => by
  rw [inV_str.mpr (h z hz)]
  decide
section
variable {P : Program} {w : World} {K : PySem.W.Frag} {mg : Str → Option Value} {base : Heap}
/-- a drawn condition, or none -/
def Tm (K : PySem.W.Frag) (zs : List Str) (H : Hp) (v : V) : Prop := v = .non ∨ Ch K zs H v
def tIfT (K : PySem.W.Frag) : TS := fun D σ H => ∃ (y0 y1 y3 y8 y9 y10 : Option V) (l aN aD : Addr) (zs : List Str) (ds : List Int), σ = [y0, y1, some (.ref l), y3, none, none, some (.ref aN), some (.ref aD), y8, y9, y10, some .non] ∧ PoolAt H l ∧ H aN = some (.lst (zs.map V.str)) ∧ H aD = some (.lst (ds.map V.int)) ∧ aN ≠ l ∧ aD ≠ l ∧ (∀ z ∈ zs, nmB z = true) ∧ (∀ i ∈ ds, -9999 ≤ i ∧ i ≤ 9999) ∧ 1 ≤ zs.length ∧ 1 ≤ ds.length ∧
  ∀ H' v, Bt [l] H H' → PoolAt H' l → Tm K zs H' v → D.nx [y0, y1, some (.ref l), y3, none, none, some (.ref aN), some (.ref aD), y8, y9, y10, some v] H'
def spLaw (K : PySem.W.Frag) : Sp := fun vs H Q _ => ∃ (a : Addr) (ns : List Int), vs = [.ref a] ∧ SqL K H a (ns.map V.int) ∧ ns.length ≤ 63 ∧ ∀ H', Q (.bl true) H'
theorem ok_law {f fO fT fP fDe fDw fR fRr : Addr} {fd fdO fdT fdP fdDe fdDw fdR fdRr : FuncData} (B : Bi mg) (D : Df K mg "law" sLaw f fd ["_law_script"]) (DO : Df K mg "_law_pool" sPool fO fdO ["_law_script", "_law_k"]) (DT : Df K mg "_law_take" sTake fT fdT ["_law_pool_here", "_law_many"]) (DP : Df K mg "_law_people" sPeople fP fdP ["_law_pool_here", "_law_many"])
    (DDe : Df K mg "_law_deaths" sDeaths fDe fdDe ["_law_pool_here", "_law_folk", "_law_days"]) (DDw : Df K mg "_law_drawn" sDw fDw fdDw ["_law_pool_here", "_law_folk", "_law_days"]) (DR : Df K mg "_law_right" sRg fR fdR pRg) (DRr : Df K mg "_law_refusals_right" sRr fRr fdRr pRr)
    (GO : FnOk P w K mg base CX0 16 fO fdO ["_law_script", "_law_k"] (spPool K)) (GT : FnOk P w K mg base CX0 16 fT fdT ["_law_pool_here", "_law_many"] spTake) (GP : FnOk P w K mg base CX0 16 fP fdP ["_law_pool_here", "_law_many"] (spPeople K)) (GDe : FnOk P w K mg base CX0 16 fDe fdDe ["_law_pool_here", "_law_folk", "_law_days"] (spDeaths K)) (GDw : FnOk P w K mg base CX0 16 fDw fdDw ["_law_pool_here", "_law_folk", "_law_days"] (spDw K))
    (GR : FnOk P w K mg base CX0 16 fR fdR pRg (spRg K)) (GRr : FnOk P w K mg base CX0 16 fRr fdRr pRr (spRr K)) : FnOk P w K mg base CX0 17 f fd ["_law_script"] (spLaw K) := by
  refine D.fn.ok scLaw (fun vs H Q E h => ?_) (fun cdv A outer s H vs Q E hr h => ?_)
  · obtain ⟨a, ns, rfl, _⟩ := h
    rfl
  · obtain ⟨a, ns, rfl, hs, hlen, q⟩ := h
    refine ⟨_, pss_cons (ps_for PassesOwn.never rfl (pi_range3 (by rfl) B.range (pa_cons pe_int (pa_cons (pe_callB (call_max2 rfl) (by rfl) B.max (by decide +kernel) (pa_cons pe_int (pa_cons (pe_callB (call_min2 rfl) (by rfl) B.min (by decide +kernel) (pa_cons (pe_callB call_len_seq (by rfl) B.len PySem.boot_len (pa_cons (pv 0) pa_nil)) (pa_cons pe_int pa_nil))) pa_nil))) (pa_cons pe_int pa_nil)))) (pg_name (i := 1) scLaw.nd rfl (.inl rfl))
        (pss_cons (ps_set (i := 2) scLaw.nd rfl (.inl rfl) (pe_call GO hr (by rfl) DO.mg DO.fn.kp DO.bd .nil pass0 (pa_cons (pv 0) (pa_cons (pe_op op_add (pv 1) pe_int) pa_nil))))
        (pss_cons (ps_set (i := 3) scLaw.nd rfl (.inl rfl) (pe_call GP hr (by rfl) DP.mg DP.fn.kp DP.bd .nil pass0 (pa_cons (pe_call GO hr (by rfl) DO.mg DO.fn.kp DO.bd .nil pass0 (pa_cons (pv 0) (pa_cons (pv 1) pa_nil))) (pa_cons (pe_op op_add pe_int (pe_call GT hr (by rfl) DT.mg DT.fn.kp DT.bd .nil pass0 (pa_cons (pv 2) (pa_cons pe_int pa_nil)))) pa_nil))))
        (pss_cons (ps_setLc (i := 6) (own := [("_law_one", 4), ("_law_mate", 5)]) (g := gTup K 2 (gCons (gName 4) (gCons (gName 5) gNil))) (tt := tYes) rfl scLaw.nd rfl rfl (sw_true rfl rfl rfl (by decide +kernel)) (pi_tup (pv 3))
            (blkOk_by (own := [("_law_one", 4), ("_law_mate", 5)]) (N := nL) (sc := defScope sLaw) (by decide +kernel))
            (fun _ _ _ _ _ => pg_tup rfl (pgs_cons (pg_name (i := 4) scLaw.nd rfl (Or.inl rfl)) (pgs_cons (pg_name (i := 5) scLaw.nd rfl (Or.inl rfl)) pgs_nil))) (fun _ _ _ _ _ => pts_nil) (fun _ _ _ _ _ => pv 4))
        (pss_cons (ps_set (i := 7) scLaw.nd rfl (.inl rfl) (pe_slice (r := rSlL K) sl_list (pe_lst (pa_cons pe_int (pa_cons pe_int (pa_cons (pe_op op_sub (pe_call GT hr (by rfl) DT.mg DT.fn.kp DT.bd .nil pass0 (pa_cons (pv 2) (pa_cons pe_int pa_nil))) pe_int) (pa_cons pe_int (pa_cons (pe_op op_sub pe_int pe_int) pa_nil)))))) po_none (po_some (pe_op op_add pe_int (pe_call GT hr (by rfl) DT.mg DT.fn.kp DT.bd .nil pass0 (pa_cons (pv 2) (pa_cons pe_int pa_nil)))))))
        (pss_one (ps_for PassesOwn.never rfl (pi_range1 (by rfl) B.range (pa_cons pe_int pa_nil)) (pg_name (i := 8) scLaw.nd rfl (.inl rfl))
          (pss_cons (ps_set (i := 9) scLaw.nd rfl (.inl rfl) (pe_ix (r := rIxL K) ix_list (pv 7) (pe_call GT hr (by rfl) DT.mg DT.fn.kp DT.bd .nil pass0 (pa_cons (pv 2) (pa_cons (pe_callB call_len_seq (by rfl) B.len PySem.boot_len (pa_cons (pv 7) pa_nil)) pa_nil))) (fun _ _ => rfl)))
          (pss_cons (ps_set (i := 10) scLaw.nd rfl (.inl rfl) (pe_call GDe hr (by rfl) DDe.mg DDe.fn.kp DDe.bd .nil pass0 (pa_cons (pv 2) (pa_cons (pe_op op_cat (pv 6) (pe_op op_rep (pe_lst (pa_cons pe_str pa_nil)) (pe_callTy call_int1 (by rfl) B.int boot_int (pa_cons (pe_cmpR (r := rIn K true) op_notIn_seq pe_str (pv 6) (by rfl)) pa_nil)))) (pa_cons (pv 7) pa_nil)))))
          (pss_cons (ps_set (i := 11) scLaw.nd rfl (.inl rfl) pe_non)
          (pss_cons (PS.wk (t' := tIfT K) (ps_if (pt_cmpR op_gt (pe_call GT hr (by rfl) DT.mg DT.fn.kp DT.bd .nil pass0 (pa_cons (pv 2) (pa_cons pe_int pa_nil))) pe_int (nomark _))
              (pss_one (ps_set (i := 11) scLaw.nd rfl (.inl rfl) (pe_call GDw hr (by rfl) DDw.mg DDw.fn.kp DDw.bd .nil pass0 (pa_cons (pv 2) (pa_cons (pv 6) (pa_cons (pv 7) pa_nil)))))) pss_nil) (by
            rintro D σ H ⟨y0, y1, y3, y8, y9, y10, l, aN, aD, zs, ds, rfl, pool, hN, hD, nN, nD, zn, dn, z1, d1, q⟩
            refine ⟨_, rfl, l, 9, rfl, pool, by decide, fun H6 d6 b6 pool6 d60 d61 => ⟨d6, 0, rfl, rfl, _, rfl, ?_⟩⟩
            by_cases dp : (0 : Int) < d6
            · rw [decide_eq_true dp]
              exact iteT ⟨_, rfl, _, rfl, _, rfl, l, aN, aD, zs, ds, rfl, pool6, kept b6 hN (by simp [nN]), kept b6 hD (by simp [nD]), nN, nD, zn, dn, z1, d1, fun H7 v b7 pool7 ch => q H7 v (b6.trans b7) pool7 (.inr ch)⟩
            · rw [decide_eq_false dp]
              exact iteF (q H6 .non b6 pool6 (.inl rfl))))
          (pss_cons (ps_if (pt_not (pt_val (pe_call GR hr (by rfl) DR.mg DR.fn.kp DR.bd .nil pass0 (pa_cons (pv 2) (pa_cons (pv 3) (pa_cons (pv 11) (pa_cons (pv 10) (pa_cons (pv 9) pa_nil)))))))) (pss_one (ps_ret pe_bl)) pss_nil)
          (pss_one (ps_if (PW.pt (pw_and (pt_cmpR op_notN (pv 11) pe_non (nomark _)) (pw_and1 (pt_not (pt_val (pe_call GRr hr (by rfl) DRr.mg DRr.fn.kp DRr.bd .nil pass0 (pa_cons (pv 2) (pa_cons (pv 3) (pa_cons (pv 11) (pa_cons (pv 10) pa_nil)))))))))) (pss_one (ps_ret pe_bl)) pss_nil))))))))))))))
      (pss_one (ps_ret pe_bl)), ?_⟩
    refine ⟨_, rfl, a, _, rfl, .inl hs, _, _, rfl, 1, _, rfl, 0, _, 2, _, rfl, (rg2 ?_ ?_).1, for_rangeC (lo := 0) (c := 2) (n := _) (fun i σ H' => (∃ y1 y2 y3 y6 y7 y8 y9 y10 y11 : Option V, σ = [some (.ref a), y1, y2, y3, none, none, y6, y7, y8, y9, y10, y11]) ∧ Same H H') ⟨⟨none, none, none, none, none, none, none, none, none, rfl⟩, Same.refl H⟩ ?_ ?_⟩
    · split <;> (try split) <;> omega
    · rw [List.length_map]
      split <;> (try split) <;> omega
    rotate_left
    · rintro σ H1 ⟨⟨y1, y2, y3, y6, y7, y8, y9, y10, y11, rfl⟩, s1⟩
      exact q H1
    · rintro i σ H1 hi ⟨⟨y1, y2, y3, y6, y7, y8, y9, y10, y11, rfl⟩, s1⟩
      have i5 : i < 5 := by
        refine Nat.lt_of_lt_of_le hi (rg2 ?_ ?_).2
        · split <;> (try split) <;> omega
        · rw [List.length_map]
          split <;> (try split) <;> omega
      refine ⟨_, rfl, _, rfl, _, 1, rfl, rfl, a, ns, _, rfl, s1.seq hs, by omega, by omega, fun H2 l s2 nl pool2 => ?_⟩
      refine ⟨_, rfl, _, rfl, a, ns, _, rfl, (s1.trans s2).seq hs, by omega, by omega, fun H3 l2 s3 nl2 pool3 => ⟨_, rfl, l, 6, rfl, pool2.same s3, by decide, fun H4 d4 b4 pool4 d40 d41 => ⟨1, d4, rfl, rfl, ?_⟩⟩⟩
      have ne2 : l2 ≠ l := fun e => pool2.ne nl2 e.symm
      obtain ⟨n4, rfl⟩ := Int.eq_ofNat_of_zero_le d40
      refine ⟨l2, n4 + 1, by show [V.ref l2, V.int (1 + (n4 : Nat))] = _; rw [show (1 : Int) + (n4 : Nat) = ((n4 + 1 : Nat) : Int) by omega], pool3.bt b4 ne2, by omega, by omega, fun H5 pp rows b5 pool5 fk gf rl => ?_⟩
      have bt5 : Bt [l] H2 H5 := fun c x hc e => b5 c x (by simp [ne_of_none e nl2]) (b4 c x hc (s3 c x e))
      have p5 : PoolAt H5 l := pool4.bt b5 ne2.symm
      have sI5 : Bt [l] H1 H5 := (Bt.of_same s2).trans bt5
      have rl6 : rows.length ≤ 6 := by omega
      clear b4 b5 pool3 pool4 pool5 s3 nl2 ne2 bt5 pool2 s2
      obtain ⟨t, xs, e, hT, xl, hx⟩ := id fk
      cases e
      refine ⟨_, rfl, pp, rfl, ⟨xs, hT⟩, fun L nL => lc_tup (K := K) (a := pp) (xs := xs) (fun j H' => H' L = some (.lst (((rows.take j).map Prod.fst).map V.str)) ∧ Same H5 H') ⟨upd_same, same_new nL⟩ (fun j H' _ h => (tk_same h.2).sq hT) ?_ ?_⟩
      · rintro j x H5 hx5 ⟨hL, s5⟩
        obtain ⟨ra, r, rfl, hr5, hra⟩ := hx j x hx5
        have jl := lt_get hx5
        refine ⟨ra, _, rfl, (tk_same s5).sq hra, rfl, _, _, rfl, _, _, rfl, rfl, rfl, tyes (iteT ⟨_, rfl, _, hL, ?_, ?_, ((Bt.of_same (S := []) s5).upd0 nL).same⟩)⟩
        · rw [List.length_map, List.length_map, List.length_take]
          exact small1000 (by omega)
        · rw [upd_same, take_more hr5, List.map_append, List.map_append]
          rfl
      rintro H6 ⟨hL, s6⟩
      rw [xl, List.take_length] at hL
      have p6 := p5.same s6
      have sI6 : Bt [l] H1 H6 := sI5.trans (.of_same s6)
      have nLl : L ≠ l := fun e => p5.ne nL e.symm
      have fk6 : FolkAt K H6 (.ref pp) rows := fk.tk (tk_same s6)
      have nms : ∀ z ∈ rows.map Prod.fst, Nm z := fun z hz => by
        obtain ⟨r, hr, rfl⟩ := List.mem_map.mp hz
        exact gf.nm r hr
      clear hx hT xl p5 sI5 s6 nL fk
      refine ⟨_, rfl, l, 900, rfl, p6, by decide, fun H7 t7 b7 p7 t70 t71 => ⟨_, _, rfl, rfl, _, _, rfl, rfl, by show 5 ≤ sizeLine; decide, fun q8 n8 => ?_⟩⟩
      have h8 : (upd H7 q8 (.lst [.int 0, .int 30, .int (t7 - 300), .int 9999, .int (0 - 9999)])) q8 = some (.lst [.int 0, .int 30, .int (t7 - 300), .int 9999, .int (0 - 9999)]) := upd_same
      have s8 : Same H7 (upd H7 q8 (.lst [.int 0, .int 30, .int (t7 - 300), .int 9999, .int (0 - 9999)])) := same_new n8
      have n8l : q8 ≠ l := fun e => p7.ne n8 e.symm
      revert h8 s8
      generalize upd H7 q8 (.lst [.int 0, .int 30, .int (t7 - 300), .int 9999, .int (0 - 9999)]) = H8
      intro h8 s8
      refine ⟨_, rfl, l, 5, rfl, p7.same s8, by decide, fun H9 d9 b9 p9 d90 d91 => ⟨1, d9, rfl, rfl, 1 + d9, rfl, q8, _, rfl, sqL (kept b9 h8 (by simp [n8l])), fun aD nD => ?_⟩⟩
      obtain ⟨ds, eds, l1, l5, dsd⟩ := days_cut (i := t7 - 300) (d := d9) (by omega) (by omega) d90 d91
      rw [eds]
      have hD10 : (upd H9 aD (.lst (ds.map V.int))) aD = some (.lst (ds.map V.int)) := upd_same
      have bt10 : Bt [l] H6 (upd H9 aD (.lst (ds.map V.int))) := ((b7.trans (.of_same s8)).trans b9).trans (.of_same (same_new nD))
      have p10 : PoolAt (upd H9 aD (.lst (ds.map V.int))) l := p9.same (same_new nD)
      have nDl : aD ≠ l := fun e => p9.ne nD e.symm
      revert hD10 bt10 p10
      generalize upd H9 aD (.lst (ds.map V.int)) = H10
      intro hD10 bt10 p10
      have sI10 := sI6.trans bt10
      have hL10 := kept bt10 hL (by simp [nLl])
      have fk10 : FolkAt K H10 (.ref pp) rows := fk6.tk (bt10.tk p6.lst)
      clear b7 b9 p7 p9 h8 s8 n8 n8l nD bt10 eds hL fk6 sI6 p6
      refine ⟨4, rfl, by decide, by decide, for_range (lo := 0) (n := 4) (fun j σ H' => (∃ y8 y9 y10 y11 : Option V, σ = [some (.ref a), some (.int (0 + (i : Nat) * 2)), some (.ref l), some (.ref pp), none, none, some (.ref L), some (.ref aD), y8, y9, y10, y11]) ∧ Bt [l] H10 H' ∧ PoolAt H' l) ⟨⟨_, _, _, _, rfl⟩, Bt.refl _, p10⟩ ?_ ?_⟩
      rotate_left
      · rintro σ H11 ⟨⟨y8, y9, y10, y11, rfl⟩, b11, p11⟩
        exact ⟨⟨_, _, _, _, _, _, _, _, _, rfl⟩, s1.trans (bt_same1 (sI10.trans b11) nl)⟩
      rintro j σ H11 hj ⟨⟨y8, y9, y10, y11, rfl⟩, b11, p11⟩
      have hL11 := kept b11 hL10 (by simp [nLl])
      have hD11 := kept b11 hD10 (by simp [nDl])
      refine ⟨_, rfl, _, rfl, _, rfl, aD, _, rfl, .inl (sqL hD11), l, _, rfl, p11, by rw [List.length_map]; omega, fun H12 j12 b12 p12 j0 j1 => ?_⟩
      obtain ⟨_, ex, m, rfl, m0, m1⟩ := at_of (P := fun v => ∃ m : Int, v = .int m ∧ -9999 ≤ m ∧ m ≤ 9999) (xs := ds.map V.int) (d := j12) (fun x hx => by
        obtain ⟨m, hm, rfl⟩ := List.mem_map.mp hx
        exact ⟨m, rfl, dsd m hm⟩) j0 j1
      have hL12 := kept b12 hL11 (by simp [nLl])
      have hD12 := kept b12 hD11 (by simp [nDl])
      refine ⟨aD, _, j12, _, rfl, rfl, sqL hD12, ex, ?_⟩
      refine ⟨_, rfl, _, rfl, by show 1 ≤ sizeLine; decide, fun q13 n13 => ?_⟩
      have h13 : (upd H12 q13 (.lst [.str "walt"])) q13 = some (.lst [.str "walt"]) := upd_same
      have s13 : Same H12 (upd H12 q13 (.lst [.str "walt"])) := same_new n13
      revert h13 s13
      generalize upd H12 q13 (.lst [.str "walt"]) = H13
      intro h13 s13
      have hL13 := s13 _ _ hL12
      refine ⟨_, rfl, L, _, rfl, .inl (sqL hL13), rfl, flat_strs _, .inr ⟨waltB (rows.map Prod.fst), rfl, q13, _, _, rfl, rfl, h13, ?_, ?_, ?_, fun q14 n14 => ?_⟩⟩
      · split <;> decide
      · split <;> decide
      · split <;> decide
      refine ⟨L, q14, _, _, rfl, rfl, same_new n14 _ _ hL13, upd_same, ?_, fun q15 n15 => ?_⟩
      · rw [← List.length_append, walt_rep, List.length_map]
        have := walt_len (zs := rows.map Prod.fst)
        rw [List.length_map] at this
        exact Nat.le_trans (show _ ≤ 8 by omega) (by decide)
      rw [walt_rep]
      revert n15
      generalize (List.replicate (if waltB (rows.map Prod.fst) = true then (1 : Int) else 0).toNat [V.str "walt"]).flatten = ws
      intro n15
      have h15 : (upd (upd H13 q14 (.lst ws)) q15 (.lst ((waltL (rows.map Prod.fst)).map V.str))) q15 = some (.lst ((waltL (rows.map Prod.fst)).map V.str)) := upd_same
      have s15 : Same H12 (upd (upd H13 q14 (.lst ws)) q15 (.lst ((waltL (rows.map Prod.fst)).map V.str))) := (s13.trans (same_new n14)).trans (same_new n15)
      revert h15 s15
      generalize upd (upd H13 q14 (.lst ws)) q15 (.lst ((waltL (rows.map Prod.fst)).map V.str)) = H15
      intro h15 s15
      have nmw : ∀ z ∈ waltL (rows.map Prod.fst), Nm z := fun z hz => (walt_mem hz).elim (nms z) fun e => by rw [e]; exact walt_nm
      have wl := walt_len (zs := rows.map Prod.fst)
      rw [List.length_map] at wl
      refine ⟨_, rfl, l, q15, aD, _, ds, rfl, p12.same s15, h15, s15 _ _ hD12, nDl, walt_nd gf.nd, nmw, by omega, l1, by omega, fun H16 pd Dd b16 p16 dh gd => ?_⟩
      have b1116 : Bt [l] H11 H16 := (b12.trans (.of_same s15)).trans b16
      have hL16 := kept b1116 hL11 (by simp [nLl])
      have hD16 := kept b1116 hD11 (by simp [nDl])
      clear b12 p12 s13 h13 n13 s15 h15 b16 hL12 hD12 hL13 n14 n15 nmw wl ex
      have f1 := gf.l1
      refine ⟨_, _, _, _, _, _, l, L, aD, rows.map Prod.fst, ds, rfl, p16, hL16, hD16, nLl, nDl, fun z hz => (nms z hz).name, dsd, by rw [List.length_map]; exact f1, l1, fun H17 v b17 p17 tm => ?_⟩
      have b1117 := b1116.trans b17
      have b1017 := b11.trans b1117
      have fk17 : FolkAt K H17 (.ref pp) rows := fk10.tk (b1017.tk p10.lst)
      have dh17 : DeathsAt K H17 (.ref pd) Dd := dh.tk (b17.tk p16.lst)
      rcases tm with rfl | ⟨d, dz, fm, l12, nin⟩
      · refine ⟨_, rfl, _, rfl, _, rfl, _, rfl, _, rfl, l, _, .non, _, .none, m, rows, Dd, rfl, p17, fk17, gf, dh17, gd, .non, rfl, m0, m1, rfl, fun H18 b18 p18 => ⟨true, rfl, iteF ?_⟩⟩
        exact ⟨_, rfl, rfl, _, rfl, iteF (iteF ⟨⟨_, _, _, _, rfl⟩, b1017.trans b18, p18⟩)⟩
      · obtain ⟨av, ts, rfl, rfl⟩ : ∃ a ts, v = .ref a ∧ d = .tuple ts := by
          obtain ⟨_, _, _, _, _, rfl, _⟩ := form_shape fm
          cases dz with
          | tup hs _ => exact ⟨_, _, rfl, rfl⟩
        have cn : condNB (.tuple ts) = true := condNB_of fm l12
        refine ⟨_, rfl, _, rfl, _, rfl, _, rfl, _, rfl, l, _, .ref av, _, .tuple ts, m, rows, Dd, rfl, p17, fk17, gf, dh17, gd, dz, cn, m0, m1, missN_of nin, fun H18 b18 p18 => ⟨true, rfl, iteF ?_⟩⟩
        have tk18 := b18.tk p17.lst
        refine ⟨_, rfl, rfl, _, rfl, iteT ⟨_, rfl, _, rfl, _, rfl, _, rfl, l, _, .ref av, _, .tuple ts, rows, Dd, rfl, p18, fk17.tk tk18, gf, rl6, dh17.tk tk18, gd, cd_tk tk18 (form_cd fm) dz, cn, fun H19 b19 p19 => ⟨true, rfl, iteF ?_⟩⟩⟩
        exact ⟨⟨_, _, _, _, rfl⟩, (b1017.trans b18).trans b19, p19⟩
end
end WdQ

set_option Elab.async false
set_option linter.all false
set_option maxRecDepth 100000
set_option maxHeartbeats 4000000
namespace WdQ
open PySem PySem.Spec PyProof.Rows L2 WdM Wd
theorem factsN {P : Program} {w : World} {K : PySem.W.Frag} {h : Heap} {mg : Str → Option Value} {f : Addr} (X : K.In h) (G : h.Ns mainGlobals mg) (hfa : mg "law" = some (.ref f)) (c : SaysW asksN defsN K) :
    ∃ fd : FuncData, (∀ (s : Shared) (v : Value), BindsTo s fd ⟨[v], []⟩ [("_law_script", v)]) ∧ ∀ base : Heap, K.In base → base.Ns mainGlobals mg → FnOk P w K mg base CX0 17 f fd ["_law_script"] (spLaw K) := by
  have a1 : PySem.W.nsIn K mainGlobals "is_name" = some (some (.ref (He.ga K "is_name"))) := of_decide_eq_true (c.ask 0 rfl)
  obtain ⟨fd1, FF1⟩ := c.def_ 0 rfl
  have F1 : L2.Fun K "is_name" "is_name" sName (He.ga K "is_name") fd1 := fun_of FF1
  have D1 : Df K mg "is_name" sName (He.ga K "is_name") fd1 ["thing"] := ⟨F1, PySem.W.mg_of X G a1, F1.binds (ps := ["thing"]) fun _ _ _ _ _ _ us hl => match us, hl with | [_], _ => rfl⟩
  have a2 : PySem.W.nsIn K mainGlobals "is_word" = some (some (.ref (He.ga K "is_word"))) := of_decide_eq_true (c.ask 1 rfl)
  obtain ⟨fd2, FF2⟩ := c.def_ 1 rfl
  have F2 : L2.Fun K "is_word" "is_word" sWord (He.ga K "is_word") fd2 := fun_of FF2
  have D2 : Df K mg "is_word" sWord (He.ga K "is_word") fd2 ["thing", "words"] := ⟨F2, PySem.W.mg_of X G a2, F2.binds (ps := ["thing", "words"]) fun _ _ _ _ _ _ us hl => match us, hl with | [_, _], _ => rfl⟩
  have a3 : PySem.W.nsIn K mainGlobals "is_whole" = some (some (.ref (He.ga K "is_whole"))) := of_decide_eq_true (c.ask 2 rfl)
  obtain ⟨fd3, FF3⟩ := c.def_ 2 rfl
  have F3 : L2.Fun K "is_whole" "is_whole" sWhole (He.ga K "is_whole") fd3 := fun_of FF3
  have D3 : Df K mg "is_whole" sWhole (He.ga K "is_whole") fd3 ["thing"] := ⟨F3, PySem.W.mg_of X G a3, F3.binds (ps := ["thing"]) fun _ _ _ _ _ _ us hl => match us, hl with | [_], _ => rfl⟩
  have a4 : PySem.W.nsIn K mainGlobals "is_sum" = some (some (.ref (He.ga K "is_sum"))) := of_decide_eq_true (c.ask 3 rfl)
  obtain ⟨fd4, FF4⟩ := c.def_ 3 rfl
  have F4 : L2.Fun K "is_sum" "is_sum" sSum (He.ga K "is_sum") fd4 := fun_of FF4
  have D4 : Df K mg "is_sum" sSum (He.ga K "is_sum") fd4 ["thing"] := ⟨F4, PySem.W.mg_of X G a4, F4.binds (ps := ["thing"]) fun _ _ _ _ _ _ us hl => match us, hl with | [_], _ => rfl⟩
  have a5 : PySem.W.nsIn K mainGlobals "is_day" = some (some (.ref (He.ga K "is_day"))) := of_decide_eq_true (c.ask 4 rfl)
  obtain ⟨fd5, FF5⟩ := c.def_ 4 rfl
  have F5 : L2.Fun K "is_day" "is_day" sDay (He.ga K "is_day") fd5 := fun_of FF5
  have D5 : Df K mg "is_day" sDay (He.ga K "is_day") fd5 ["thing"] := ⟨F5, PySem.W.mg_of X G a5, F5.binds (ps := ["thing"]) fun _ _ _ _ _ _ us hl => match us, hl with | [_], _ => rfl⟩
  have a6 : PySem.W.nsIn K mainGlobals "is_person" = some (some (.ref (He.ga K "is_person"))) := of_decide_eq_true (c.ask 5 rfl)
  obtain ⟨fd6, FF6⟩ := c.def_ 5 rfl
  have F6 : L2.Fun K "is_person" "is_person" sPerson (He.ga K "is_person") fd6 := fun_of FF6
  have D6 : Df K mg "is_person" sPerson (He.ga K "is_person") fd6 ["thing", "ahead"] := ⟨F6, PySem.W.mg_of X G a6, F6.binds (ps := ["thing", "ahead"]) fun _ _ _ _ _ _ us hl => match us, hl with | [_, _], _ => rfl⟩
  have a7 : PySem.W.nsIn K mainGlobals "check_people" = some (some (.ref (He.ga K "check_people"))) := of_decide_eq_true (c.ask 6 rfl)
  obtain ⟨fd7, FF7⟩ := c.def_ 6 rfl
  have F7 : L2.Fun K "check_people" "check_people" sChkP (He.ga K "check_people") fd7 := fun_of FF7
  have D7 : Df K mg "check_people" sChkP (He.ga K "check_people") fd7 ["people"] := ⟨F7, PySem.W.mg_of X G a7, F7.binds (ps := ["people"]) fun _ _ _ _ _ _ us hl => match us, hl with | [_], _ => rfl⟩
  have a8 : PySem.W.nsIn K mainGlobals "check_goods" = some (some (.ref (He.ga K "check_goods"))) := of_decide_eq_true (c.ask 7 rfl)
  obtain ⟨fd8, FF8⟩ := c.def_ 7 rfl
  have F8 : L2.Fun K "check_goods" "check_goods" sChkG (He.ga K "check_goods") fd8 := fun_of FF8
  have D8 : Df K mg "check_goods" sChkG (He.ga K "check_goods") fd8 ["goods"] := ⟨F8, PySem.W.mg_of X G a8, F8.binds (ps := ["goods"]) fun _ _ _ _ _ _ us hl => match us, hl with | [_], _ => rfl⟩
  have a9 : PySem.W.nsIn K mainGlobals "is_death" = some (some (.ref (He.ga K "is_death"))) := of_decide_eq_true (c.ask 8 rfl)
  obtain ⟨fd9, FF9⟩ := c.def_ 8 rfl
  have F9 : L2.Fun K "is_death" "is_death" sDeath (He.ga K "is_death") fd9 := fun_of FF9
  have D9 : Df K mg "is_death" sDeath (He.ga K "is_death") fd9 ["thing", "ahead"] := ⟨F9, PySem.W.mg_of X G a9, F9.binds (ps := ["thing", "ahead"]) fun _ _ _ _ _ _ us hl => match us, hl with | [_, _], _ => rfl⟩
  have a10 : PySem.W.nsIn K mainGlobals "check_deaths" = some (some (.ref (He.ga K "check_deaths"))) := of_decide_eq_true (c.ask 9 rfl)
  obtain ⟨fd10, FF10⟩ := c.def_ 9 rfl
  have F10 : L2.Fun K "check_deaths" "check_deaths" sChkD (He.ga K "check_deaths") fd10 := fun_of FF10
  have D10 : Df K mg "check_deaths" sChkD (He.ga K "check_deaths") fd10 ["deaths"] := ⟨F10, PySem.W.mg_of X G a10, F10.binds (ps := ["deaths"]) fun _ _ _ _ _ _ us hl => match us, hl with | [_], _ => rfl⟩
  have a11 : PySem.W.nsIn K mainGlobals "is_lives" = some (some (.ref (He.ga K "is_lives"))) := of_decide_eq_true (c.ask 10 rfl)
  obtain ⟨fd11, FF11⟩ := c.def_ 10 rfl
  have F11 : L2.Fun K "is_lives" "is_lives" sLives (He.ga K "is_lives") fd11 := fun_of FF11
  have D11 : Df K mg "is_lives" sLives (He.ga K "is_lives") fd11 ["thing"] := ⟨F11, PySem.W.mg_of X G a11, F11.binds (ps := ["thing"]) fun _ _ _ _ _ _ us hl => match us, hl with | [_], _ => rfl⟩
  have a12 : PySem.W.nsIn K mainGlobals "is_formed" = some (some (.ref (He.ga K "is_formed"))) := of_decide_eq_true (c.ask 11 rfl)
  obtain ⟨fd12, FF12⟩ := c.def_ 11 rfl
  have F12 : L2.Fun K "is_formed" "is_formed" sForm (He.ga K "is_formed") fd12 := fun_of FF12
  have D12 : Df K mg "is_formed" sForm (He.ga K "is_formed") fd12 ["thing", "room"] := ⟨F12, PySem.W.mg_of X G a12, F12.binds (ps := ["thing", "room"]) fun _ _ _ _ _ _ us hl => match us, hl with | [_, _], _ => rfl⟩
  have a13 : PySem.W.nsIn K mainGlobals "leaves" = some (some (.ref (He.ga K "leaves"))) := of_decide_eq_true (c.ask 12 rfl)
  obtain ⟨fd13, FF13⟩ := c.def_ 12 rfl
  have F13 : L2.Fun K "leaves" "leaves" sLeav (He.ga K "leaves") fd13 := fun_of FF13
  have D13 : Df K mg "leaves" sLeav (He.ga K "leaves") fd13 ["cond"] := ⟨F13, PySem.W.mg_of X G a13, F13.binds (ps := ["cond"]) fun _ _ _ _ _ _ us hl => match us, hl with | [_], _ => rfl⟩
  have a14 : PySem.W.nsIn K mainGlobals "is_cond" = some (some (.ref (He.ga K "is_cond"))) := of_decide_eq_true (c.ask 13 rfl)
  obtain ⟨fd14, FF14⟩ := c.def_ 13 rfl
  have F14 : L2.Fun K "is_cond" "is_cond" sCond (He.ga K "is_cond") fd14 := fun_of FF14
  have D14 : Df K mg "is_cond" sCond (He.ga K "is_cond") fd14 ["thing"] := ⟨F14, PySem.W.mg_of X G a14, F14.binds (ps := ["thing"]) fun _ _ _ _ _ _ us hl => match us, hl with | [_], _ => rfl⟩
  have a15 : PySem.W.nsIn K mainGlobals "is_cond_or_none" = some (some (.ref (He.ga K "is_cond_or_none"))) := of_decide_eq_true (c.ask 14 rfl)
  obtain ⟨fd15, FF15⟩ := c.def_ 14 rfl
  have F15 : L2.Fun K "is_cond_or_none" "is_cond_or_none" sCondN (He.ga K "is_cond_or_none") fd15 := fun_of FF15
  have D15 : Df K mg "is_cond_or_none" sCondN (He.ga K "is_cond_or_none") fd15 ["thing"] := ⟨F15, PySem.W.mg_of X G a15, F15.binds (ps := ["thing"]) fun _ _ _ _ _ _ us hl => match us, hl with | [_], _ => rfl⟩
  have a16 : PySem.W.nsIn K mainGlobals "row_named" = some (some (.ref (He.ga K "row_named"))) := of_decide_eq_true (c.ask 15 rfl)
  obtain ⟨fd16, FF16⟩ := c.def_ 15 rfl
  have F16 : L2.Fun K "row_named" "row_named" sRow (He.ga K "row_named") fd16 := fun_of FF16
  have D16 : Df K mg "row_named" sRow (He.ga K "row_named") fd16 ["rows", "name"] := ⟨F16, PySem.W.mg_of X G a16, F16.binds (ps := ["rows", "name"]) fun _ _ _ _ _ _ us hl => match us, hl with | [_, _], _ => rfl⟩
  have a17 : PySem.W.nsIn K mainGlobals "cond_names" = some (some (.ref (He.ga K "cond_names"))) := of_decide_eq_true (c.ask 16 rfl)
  obtain ⟨fd17, FF17⟩ := c.def_ 16 rfl
  have F17 : L2.Fun K "cond_names" "cond_names" sCN (He.ga K "cond_names") fd17 := fun_of FF17
  have D17 : Df K mg "cond_names" sCN (He.ga K "cond_names") fd17 ["cond"] := ⟨F17, PySem.W.mg_of X G a17, F17.binds (ps := ["cond"]) fun _ _ _ _ _ _ us hl => match us, hl with | [_], _ => rfl⟩
  have a18 : PySem.W.nsIn K mainGlobals "check_persons" = some (some (.ref (He.ga K "check_persons"))) := of_decide_eq_true (c.ask 17 rfl)
  obtain ⟨fd18, FF18⟩ := c.def_ 17 rfl
  have F18 : L2.Fun K "check_persons" "check_persons" sCkP (He.ga K "check_persons") fd18 := fun_of FF18
  have D18 : Df K mg "check_persons" sCkP (He.ga K "check_persons") fd18 ["house", "names"] := ⟨F18, PySem.W.mg_of X G a18, F18.binds (ps := ["house", "names"]) fun _ _ _ _ _ _ us hl => match us, hl with | [_, _], _ => rfl⟩
  have a19 : PySem.W.nsIn K mainGlobals "has_come" = some (some (.ref (He.ga K "has_come"))) := of_decide_eq_true (c.ask 18 rfl)
  obtain ⟨fd19, FF19⟩ := c.def_ 18 rfl
  have F19 : L2.Fun K "has_come" "has_come" sHC (He.ga K "has_come") fd19 := fun_of FF19
  have D19 : Df K mg "has_come" sHC (He.ga K "has_come") fd19 ["house", "cond", "story", "wait"] := ⟨F19, PySem.W.mg_of X G a19, F19.binds (ps := ["house", "cond", "story", "wait"]) fun _ _ _ _ _ _ us hl => match us, hl with | [_, _, _, _], _ => rfl⟩
  have a20 : PySem.W.nsIn K mainGlobals "_law_pool" = some (some (.ref (He.ga K "_law_pool"))) := of_decide_eq_true (c.ask 19 rfl)
  obtain ⟨fd20, FF20⟩ := c.def_ 19 rfl
  have F20 : L2.Fun K "_law_pool" "_law_pool" sPool (He.ga K "_law_pool") fd20 := fun_of FF20
  have D20 : Df K mg "_law_pool" sPool (He.ga K "_law_pool") fd20 ["_law_script", "_law_k"] := ⟨F20, PySem.W.mg_of X G a20, F20.binds (ps := ["_law_script", "_law_k"]) fun _ _ _ _ _ _ us hl => match us, hl with | [_, _], _ => rfl⟩
  have a21 : PySem.W.nsIn K mainGlobals "_law_take" = some (some (.ref (He.ga K "_law_take"))) := of_decide_eq_true (c.ask 20 rfl)
  obtain ⟨fd21, FF21⟩ := c.def_ 20 rfl
  have F21 : L2.Fun K "_law_take" "_law_take" sTake (He.ga K "_law_take") fd21 := fun_of FF21
  have D21 : Df K mg "_law_take" sTake (He.ga K "_law_take") fd21 ["_law_pool_here", "_law_many"] := ⟨F21, PySem.W.mg_of X G a21, F21.binds (ps := ["_law_pool_here", "_law_many"]) fun _ _ _ _ _ _ us hl => match us, hl with | [_, _], _ => rfl⟩
  have a22 : PySem.W.nsIn K mainGlobals "_law_words" = some (some (.ref (He.ga K "_law_words"))) := of_decide_eq_true (c.ask 21 rfl)
  obtain ⟨fd22, FF22⟩ := c.def_ 21 rfl
  have F22 : L2.Fun K "_law_words" "_law_words" sWords (He.ga K "_law_words") fd22 := fun_of FF22
  have D22 : Df K mg "_law_words" sWords (He.ga K "_law_words") fd22 ["_law_pool_here", "_law_many"] := ⟨F22, PySem.W.mg_of X G a22, F22.binds (ps := ["_law_pool_here", "_law_many"]) fun _ _ _ _ _ _ us hl => match us, hl with | [_, _], _ => rfl⟩
  have a23 : PySem.W.nsIn K mainGlobals "_law_people" = some (some (.ref (He.ga K "_law_people"))) := of_decide_eq_true (c.ask 22 rfl)
  obtain ⟨fd23, FF23⟩ := c.def_ 22 rfl
  have F23 : L2.Fun K "_law_people" "_law_people" sPeople (He.ga K "_law_people") fd23 := fun_of FF23
  have D23 : Df K mg "_law_people" sPeople (He.ga K "_law_people") fd23 ["_law_pool_here", "_law_many"] := ⟨F23, PySem.W.mg_of X G a23, F23.binds (ps := ["_law_pool_here", "_law_many"]) fun _ _ _ _ _ _ us hl => match us, hl with | [_, _], _ => rfl⟩
  have a24 : PySem.W.nsIn K mainGlobals "_law_deaths" = some (some (.ref (He.ga K "_law_deaths"))) := of_decide_eq_true (c.ask 23 rfl)
  obtain ⟨fd24, FF24⟩ := c.def_ 23 rfl
  have F24 : L2.Fun K "_law_deaths" "_law_deaths" sDeaths (He.ga K "_law_deaths") fd24 := fun_of FF24
  have D24 : Df K mg "_law_deaths" sDeaths (He.ga K "_law_deaths") fd24 ["_law_pool_here", "_law_folk", "_law_days"] := ⟨F24, PySem.W.mg_of X G a24, F24.binds (ps := ["_law_pool_here", "_law_folk", "_law_days"]) fun _ _ _ _ _ _ us hl => match us, hl with | [_, _, _], _ => rfl⟩
  have a25 : PySem.W.nsIn K mainGlobals "_law_cond" = some (some (.ref (He.ga K "_law_cond"))) := of_decide_eq_true (c.ask 24 rfl)
  obtain ⟨fd25, FF25⟩ := c.def_ 24 rfl
  have F25 : L2.Fun K "_law_cond" "_law_cond" sLc (He.ga K "_law_cond") fd25 := fun_of FF25
  have D25 : Df K mg "_law_cond" sLc (He.ga K "_law_cond") fd25 ["_law_pool_here", "_law_folk", "_law_days", "_law_deep_here"] := ⟨F25, PySem.W.mg_of X G a25, F25.binds (ps := ["_law_pool_here", "_law_folk", "_law_days", "_law_deep_here"]) fun _ _ _ _ _ _ us hl => match us, hl with | [_, _, _, _], _ => rfl⟩
  have a26 : PySem.W.nsIn K mainGlobals "_law_said_of" = some (some (.ref (He.ga K "_law_said_of"))) := of_decide_eq_true (c.ask 25 rfl)
  obtain ⟨fd26, FF26⟩ := c.def_ 25 rfl
  have F26 : L2.Fun K "_law_said_of" "_law_said_of" sSd (He.ga K "_law_said_of") fd26 := fun_of FF26
  have D26 : Df K mg "_law_said_of" sSd (He.ga K "_law_said_of") fd26 ["_law_term"] := ⟨F26, PySem.W.mg_of X G a26, F26.binds (ps := ["_law_term"]) fun _ _ _ _ _ _ us hl => match us, hl with | [_], _ => rfl⟩
  have a27 : PySem.W.nsIn K mainGlobals "_law_sort" = some (some (.ref (He.ga K "_law_sort"))) := of_decide_eq_true (c.ask 26 rfl)
  obtain ⟨fd27, FF27⟩ := c.def_ 26 rfl
  have F27 : L2.Fun K "_law_sort" "_law_sort" sSort (He.ga K "_law_sort") fd27 := fun_of FF27
  have D27 : Df K mg "_law_sort" sSort (He.ga K "_law_sort") fd27 ["_law_caught"] := ⟨F27, PySem.W.mg_of X G a27, F27.binds (ps := ["_law_caught"]) fun _ _ _ _ _ _ us hl => match us, hl with | [_], _ => rfl⟩
  have a28 : PySem.W.nsIn K mainGlobals "_law_twins" = some (some (.ref (He.ga K "_law_twins"))) := of_decide_eq_true (c.ask 27 rfl)
  obtain ⟨fd28, FF28⟩ := c.def_ 27 rfl
  have F28 : L2.Fun K "_law_twins" "_law_twins" sTw (He.ga K "_law_twins") fd28 := fun_of FF28
  have D28 : Df K mg "_law_twins" sTw (He.ga K "_law_twins") fd28 ["_law_one", "_law_two"] := ⟨F28, PySem.W.mg_of X G a28, F28.binds (ps := ["_law_one", "_law_two"]) fun _ _ _ _ _ _ us hl => match us, hl with | [_, _], _ => rfl⟩
  have a29 : PySem.W.nsIn K mainGlobals "_law_outlives" = some (some (.ref (He.ga K "_law_outlives"))) := of_decide_eq_true (c.ask 28 rfl)
  obtain ⟨fd29, FF29⟩ := c.def_ 28 rfl
  have F29 : L2.Fun K "_law_outlives" "_law_outlives" sOl (He.ga K "_law_outlives") fd29 := fun_of FF29
  have D29 : Df K mg "_law_outlives" sOl (He.ga K "_law_outlives") fd29 ["_law_deaths_here", "_law_one", "_law_at"] := ⟨F29, PySem.W.mg_of X G a29, F29.binds (ps := ["_law_deaths_here", "_law_one", "_law_at"]) fun _ _ _ _ _ _ us hl => match us, hl with | [_, _, _], _ => rfl⟩
  have a30 : PySem.W.nsIn K mainGlobals "_law_comes" = some (some (.ref (He.ga K "_law_comes"))) := of_decide_eq_true (c.ask 29 rfl)
  obtain ⟨fd30, FF30⟩ := c.def_ 29 rfl
  have F30 : L2.Fun K "_law_comes" "_law_comes" sLm (He.ga K "_law_comes") fd30 := fun_of FF30
  have D30 : Df K mg "_law_comes" sLm (He.ga K "_law_comes") fd30 ["_law_people_here", "_law_term", "_law_deaths_here", "_law_least"] := ⟨F30, PySem.W.mg_of X G a30, F30.binds (ps := ["_law_people_here", "_law_term", "_law_deaths_here", "_law_least"]) fun _ _ _ _ _ _ us hl => match us, hl with | [_, _, _, _], _ => rfl⟩
  have a31 : PySem.W.nsIn K mainGlobals "_law_days_of" = some (some (.ref (He.ga K "_law_days_of"))) := of_decide_eq_true (c.ask 30 rfl)
  obtain ⟨fd31, FF31⟩ := c.def_ 30 rfl
  have F31 : L2.Fun K "_law_days_of" "_law_days_of" sDo (He.ga K "_law_days_of") fd31 := fun_of FF31
  have D31 : Df K mg "_law_days_of" sDo (He.ga K "_law_days_of") fd31 ["_law_term"] := ⟨F31, PySem.W.mg_of X G a31, F31.binds (ps := ["_law_term"]) fun _ _ _ _ _ _ us hl => match us, hl with | [_], _ => rfl⟩
  have a32 : PySem.W.nsIn K mainGlobals "_law_deep" = some (some (.ref (He.ga K "_law_deep"))) := of_decide_eq_true (c.ask 31 rfl)
  obtain ⟨fd32, FF32⟩ := c.def_ 31 rfl
  have F32 : L2.Fun K "_law_deep" "_law_deep" sDp (He.ga K "_law_deep") fd32 := fun_of FF32
  have D32 : Df K mg "_law_deep" sDp (He.ga K "_law_deep") fd32 ["_law_term"] := ⟨F32, PySem.W.mg_of X G a32, F32.binds (ps := ["_law_term"]) fun _ _ _ _ _ _ us hl => match us, hl with | [_], _ => rfl⟩
  have a33 : PySem.W.nsIn K mainGlobals "_law_drawn" = some (some (.ref (He.ga K "_law_drawn"))) := of_decide_eq_true (c.ask 32 rfl)
  obtain ⟨fd33, FF33⟩ := c.def_ 32 rfl
  have F33 : L2.Fun K "_law_drawn" "_law_drawn" sDw (He.ga K "_law_drawn") fd33 := fun_of FF33
  have D33 : Df K mg "_law_drawn" sDw (He.ga K "_law_drawn") fd33 ["_law_pool_here", "_law_folk", "_law_days"] := ⟨F33, PySem.W.mg_of X G a33, F33.binds (ps := ["_law_pool_here", "_law_folk", "_law_days"]) fun _ _ _ _ _ _ us hl => match us, hl with | [_, _, _], _ => rfl⟩
  have a34 : PySem.W.nsIn K mainGlobals "_law_told" = some (some (.ref (He.ga K "_law_told"))) := of_decide_eq_true (c.ask 33 rfl)
  obtain ⟨fd34, FF34⟩ := c.def_ 33 rfl
  have F34 : L2.Fun K "_law_told" "_law_told" sTo (He.ga K "_law_told") fd34 := fun_of FF34
  have D34 : Df K mg "_law_told" sTo (He.ga K "_law_told") fd34 ["_law_home", "_law_term", "_law_tale", "_law_least", "_law_way"] := ⟨F34, PySem.W.mg_of X G a34, F34.binds (ps := ["_law_home", "_law_term", "_law_tale", "_law_least", "_law_way"]) fun _ _ _ _ _ _ us hl => match us, hl with | [_, _, _, _, _], _ => rfl⟩
  have a35 : PySem.W.nsIn K mainGlobals "_law_right" = some (some (.ref (He.ga K "_law_right"))) := of_decide_eq_true (c.ask 34 rfl)
  obtain ⟨fd35, FF35⟩ := c.def_ 34 rfl
  have F35 : L2.Fun K "_law_right" "_law_right" sRg (He.ga K "_law_right") fd35 := fun_of FF35
  have D35 : Df K mg "_law_right" sRg (He.ga K "_law_right") fd35 ["_law_pool_here", "_law_people_here", "_law_term", "_law_deaths_here", "_law_least"] := ⟨F35, PySem.W.mg_of X G a35, F35.binds (ps := ["_law_pool_here", "_law_people_here", "_law_term", "_law_deaths_here", "_law_least"]) fun _ _ _ _ _ _ us hl => match us, hl with | [_, _, _, _, _], _ => rfl⟩
  have a36 : PySem.W.nsIn K mainGlobals "_law_with" = some (some (.ref (He.ga K "_law_with"))) := of_decide_eq_true (c.ask 35 rfl)
  obtain ⟨fd36, FF36⟩ := c.def_ 35 rfl
  have F36 : L2.Fun K "_law_with" "_law_with" sWi (He.ga K "_law_with") fd36 := fun_of FF36
  have D36 : Df K mg "_law_with" sWi (He.ga K "_law_with") fd36 ["_law_pool_here", "_law_term", "_law_stranger"] := ⟨F36, PySem.W.mg_of X G a36, F36.binds (ps := ["_law_pool_here", "_law_term", "_law_stranger"]) fun _ _ _ _ _ _ us hl => match us, hl with | [_, _, _], _ => rfl⟩
  have a37 : PySem.W.nsIn K mainGlobals "_law_refused" = some (some (.ref (He.ga K "_law_refused"))) := of_decide_eq_true (c.ask 36 rfl)
  obtain ⟨fd37, FF37⟩ := c.def_ 36 rfl
  have F37 : L2.Fun K "_law_refused" "_law_refused" sRf (He.ga K "_law_refused") fd37 := fun_of FF37
  have D37 : Df K mg "_law_refused" sRf (He.ga K "_law_refused") fd37 ["_law_home", "_law_term", "_law_tale", "_law_least"] := ⟨F37, PySem.W.mg_of X G a37, F37.binds (ps := ["_law_home", "_law_term", "_law_tale", "_law_least"]) fun _ _ _ _ _ _ us hl => match us, hl with | [_, _, _, _], _ => rfl⟩
  have a38 : PySem.W.nsIn K mainGlobals "_law_refusals_right" = some (some (.ref (He.ga K "_law_refusals_right"))) := of_decide_eq_true (c.ask 37 rfl)
  obtain ⟨fd38, FF38⟩ := c.def_ 37 rfl
  have F38 : L2.Fun K "_law_refusals_right" "_law_refusals_right" sRr (He.ga K "_law_refusals_right") fd38 := fun_of FF38
  have D38 : Df K mg "_law_refusals_right" sRr (He.ga K "_law_refusals_right") fd38 ["_law_pool_here", "_law_people_here", "_law_term", "_law_deaths_here"] := ⟨F38, PySem.W.mg_of X G a38, F38.binds (ps := ["_law_pool_here", "_law_people_here", "_law_term", "_law_deaths_here"]) fun _ _ _ _ _ _ us hl => match us, hl with | [_, _, _, _], _ => rfl⟩
  have a39 : PySem.W.nsIn K mainGlobals "law" = some (some (.ref (He.ga K "law"))) := of_decide_eq_true (c.ask 38 rfl)
  obtain ⟨fd39, FF39⟩ := c.def_ 38 rfl
  have F39 : L2.Fun K "law" "law" sLaw (He.ga K "law") fd39 := fun_of FF39
  have D39 : Df K mg "law" sLaw (He.ga K "law") fd39 ["_law_script"] := ⟨F39, PySem.W.mg_of X G a39, F39.binds (ps := ["_law_script"]) fun _ _ _ _ _ _ us hl => match us, hl with | [_], _ => rfl⟩
  have z_isinstance : PySem.W.nsIn K mainGlobals "isinstance" = some none := of_decide_eq_true (c.ask 39 rfl)
  have z_int : PySem.W.nsIn K mainGlobals "int" = some none := of_decide_eq_true (c.ask 40 rfl)
  have z_bool : PySem.W.nsIn K mainGlobals "bool" = some none := of_decide_eq_true (c.ask 41 rfl)
  have z_str : PySem.W.nsIn K mainGlobals "str" = some none := of_decide_eq_true (c.ask 42 rfl)
  have z_tuple : PySem.W.nsIn K mainGlobals "tuple" = some none := of_decide_eq_true (c.ask 43 rfl)
  have z_list : PySem.W.nsIn K mainGlobals "list" = some none := of_decide_eq_true (c.ask 44 rfl)
  have z_len : PySem.W.nsIn K mainGlobals "len" = some none := of_decide_eq_true (c.ask 45 rfl)
  have z_abs : PySem.W.nsIn K mainGlobals "abs" = some none := of_decide_eq_true (c.ask 46 rfl)
  have z_all : PySem.W.nsIn K mainGlobals "all" = some none := of_decide_eq_true (c.ask 47 rfl)
  have z_any : PySem.W.nsIn K mainGlobals "any" = some none := of_decide_eq_true (c.ask 48 rfl)
  have z_sum : PySem.W.nsIn K mainGlobals "sum" = some none := of_decide_eq_true (c.ask 49 rfl)
  have z_enumerate : PySem.W.nsIn K mainGlobals "enumerate" = some none := of_decide_eq_true (c.ask 50 rfl)
  have z_divmod : PySem.W.nsIn K mainGlobals "divmod" = some none := of_decide_eq_true (c.ask 51 rfl)
  have z_range : PySem.W.nsIn K mainGlobals "range" = some none := of_decide_eq_true (c.ask 52 rfl)
  have z_max : PySem.W.nsIn K mainGlobals "max" = some none := of_decide_eq_true (c.ask 53 rfl)
  have z_min : PySem.W.nsIn K mainGlobals "min" = some none := of_decide_eq_true (c.ask 54 rfl)
  have z_zip : PySem.W.nsIn K mainGlobals "zip" = some none := of_decide_eq_true (c.ask 55 rfl)
  have z_repr : PySem.W.nsIn K mainGlobals "repr" = some none := of_decide_eq_true (c.ask 56 rfl)
  have z_ValueError : PySem.W.nsIn K mainGlobals "ValueError" = some none := of_decide_eq_true (c.ask 57 rfl)
  have z_LookupError : PySem.W.nsIn K mainGlobals "LookupError" = some none := of_decide_eq_true (c.ask 58 rfl)
  have z_ArithmeticError : PySem.W.nsIn K mainGlobals "ArithmeticError" = some none := of_decide_eq_true (c.ask 59 rfl)
  have z_sorted : PySem.W.nsIn K mainGlobals "sorted" = some none := of_decide_eq_true (c.ask 60 rfl)
  have B : Bi mg := ⟨PySem.W.mg_none_of X G z_isinstance, PySem.W.mg_none_of X G z_int, PySem.W.mg_none_of X G z_bool, PySem.W.mg_none_of X G z_str, PySem.W.mg_none_of X G z_tuple, PySem.W.mg_none_of X G z_list, PySem.W.mg_none_of X G z_len, PySem.W.mg_none_of X G z_abs, PySem.W.mg_none_of X G z_all, PySem.W.mg_none_of X G z_any, PySem.W.mg_none_of X G z_sum, PySem.W.mg_none_of X G z_enumerate, PySem.W.mg_none_of X G z_divmod, PySem.W.mg_none_of X G z_range, PySem.W.mg_none_of X G z_max, PySem.W.mg_none_of X G z_min, PySem.W.mg_none_of X G z_zip, PySem.W.mg_none_of X G z_repr⟩
  have e6 : PySem.W.specialIn K (.builtin "object.__class__") "__get__" = some (some (.builtin "getset_descriptor.__get__")) := of_decide_eq_true (c.ask 61 rfl)
  have e7 : PySem.W.takesIn K (.builtin "object.__class__") = some true := of_decide_eq_true (c.ask 62 rfl)
  have g0 : PySem.W.nsIn K mainGlobals "NoName" = some (some (.ref (He.ga K "NoName"))) := of_decide_eq_true (c.ask 63 rfl)
  have g1 : PySem.W.nsIn K mainGlobals "NoSum" = some (some (.ref (He.ga K "NoSum"))) := of_decide_eq_true (c.ask 64 rfl)
  have g2 : PySem.W.nsIn K mainGlobals "NoShares" = some (some (.ref (He.ga K "NoShares"))) := of_decide_eq_true (c.ask 65 rfl)
  have g3 : PySem.W.nsIn K mainGlobals "NoPeople" = some (some (.ref (He.ga K "NoPeople"))) := of_decide_eq_true (c.ask 66 rfl)
  have g4 : PySem.W.nsIn K mainGlobals "NoGoods" = some (some (.ref (He.ga K "NoGoods"))) := of_decide_eq_true (c.ask 67 rfl)
  have g5 : PySem.W.nsIn K mainGlobals "NoText" = some (some (.ref (He.ga K "NoText"))) := of_decide_eq_true (c.ask 68 rfl)
  have g6 : PySem.W.nsIn K mainGlobals "NoStory" = some (some (.ref (He.ga K "NoStory"))) := of_decide_eq_true (c.ask 69 rfl)
  have g7 : PySem.W.nsIn K mainGlobals "NoDay" = some (some (.ref (He.ga K "NoDay"))) := of_decide_eq_true (c.ask 70 rfl)
  have g8 : PySem.W.nsIn K mainGlobals "NoCond" = some (some (.ref (He.ga K "NoCond"))) := of_decide_eq_true (c.ask 71 rfl)
  have g9 : PySem.W.nsIn K mainGlobals "NoWhom" = some (some (.ref (He.ga K "NoWhom"))) := of_decide_eq_true (c.ask 72 rfl)
  have g10 : PySem.W.nsIn K mainGlobals "NoClause" = some (some (.ref (He.ga K "NoClause"))) := of_decide_eq_true (c.ask 73 rfl)
  have g11 : PySem.W.nsIn K mainGlobals "NoReading" = some (some (.ref (He.ga K "NoReading"))) := of_decide_eq_true (c.ask 74 rfl)
  have g12 : PySem.W.nsIn K mainGlobals "NoWord" = some (some (.ref (He.ga K "NoWord"))) := of_decide_eq_true (c.ask 75 rfl)
  have g13 : PySem.W.nsIn K mainGlobals "LabelStands" = some (some (.ref (He.ga K "LabelStands"))) := of_decide_eq_true (c.ask 76 rfl)
  have g14 : PySem.W.nsIn K mainGlobals "DayStands" = some (some (.ref (He.ga K "DayStands"))) := of_decide_eq_true (c.ask 77 rfl)
  have g15 : PySem.W.nsIn K mainGlobals "NoRow" = some (some (.ref (He.ga K "NoRow"))) := of_decide_eq_true (c.ask 78 rfl)
  have g16 : PySem.W.nsIn K mainGlobals "NoPerson" = some (some (.ref (He.ga K "NoPerson"))) := of_decide_eq_true (c.ask 79 rfl)
  have g17 : PySem.W.nsIn K mainGlobals "NoThing" = some (some (.ref (He.ga K "NoThing"))) := of_decide_eq_true (c.ask 80 rfl)
  have g18 : PySem.W.nsIn K mainGlobals "NoLabel" = some (some (.ref (He.ga K "NoLabel"))) := of_decide_eq_true (c.ask 81 rfl)
  have g19 : PySem.W.nsIn K mainGlobals "NoUndo" = some (some (.ref (He.ga K "NoUndo"))) := of_decide_eq_true (c.ask 82 rfl)
  have g20 : PySem.W.nsIn K mainGlobals "TooMany" = some (some (.ref (He.ga K "TooMany"))) := of_decide_eq_true (c.ask 83 rfl)
  have g21 : PySem.W.nsIn K mainGlobals "WordError" = some (some (.ref (He.ga K "WordError"))) := of_decide_eq_true (c.ask 84 rfl)
  have g22 : PySem.W.nsIn K mainGlobals "LostError" = some (some (.ref (He.ga K "LostError"))) := of_decide_eq_true (c.ask 85 rfl)
  have g23 : PySem.W.nsIn K mainGlobals "RoomError" = some (some (.ref (He.ga K "RoomError"))) := of_decide_eq_true (c.ask 86 rfl)
  have TC : ClsF mg (fun i => [(He.ga K "NoName"), (He.ga K "NoSum"), (He.ga K "NoShares"), (He.ga K "NoPeople"), (He.ga K "NoGoods"), (He.ga K "NoText"), (He.ga K "NoStory"), (He.ga K "NoDay"), (He.ga K "NoCond"), (He.ga K "NoWhom"), (He.ga K "NoClause"), (He.ga K "NoReading"), (He.ga K "NoWord"), (He.ga K "LabelStands"), (He.ga K "DayStands"), (He.ga K "NoRow"), (He.ga K "NoPerson"), (He.ga K "NoThing"), (He.ga K "NoLabel"), (He.ga K "NoUndo"), (He.ga K "TooMany"), (He.ga K "WordError"), (He.ga K "LostError"), (He.ga K "RoomError")].getD i 0) := ⟨PySem.W.mg_of X G g0, PySem.W.mg_of X G g1, PySem.W.mg_of X G g2, PySem.W.mg_of X G g3, PySem.W.mg_of X G g4, PySem.W.mg_of X G g5, PySem.W.mg_of X G g6, PySem.W.mg_of X G g7, PySem.W.mg_of X G g8, PySem.W.mg_of X G g9, PySem.W.mg_of X G g10, PySem.W.mg_of X G g11, PySem.W.mg_of X G g12, PySem.W.mg_of X G g13, PySem.W.mg_of X G g14, PySem.W.mg_of X G g15, PySem.W.mg_of X G g16, PySem.W.mg_of X G g17, PySem.W.mg_of X G g18, PySem.W.mg_of X G g19, PySem.W.mg_of X G g20, PySem.W.mg_of X G g21, PySem.W.mg_of X G g22, PySem.W.mg_of X G g23, PySem.W.mg_none_of X G z_ValueError, PySem.W.mg_none_of X G z_LookupError, PySem.W.mg_none_of X G z_ArithmeticError⟩
  have e7_1 : PySem.W.findIn K (.ref (He.ga K "NoDay")) "__getattribute__" = some (some (.builtin "BaseException.__getattribute__")) := of_decide_eq_true (c.ask 87 rfl)
  have e7_2 : PySem.W.findIn K (.ref (He.ga K "NoDay")) "__getattr__" = some none := of_decide_eq_true (c.ask 88 rfl)
  have e7_4 : PySem.W.hasDictIn K (He.ga K "NoDay") = true := of_decide_eq_true (c.ask 89 rfl)
  have e7_5 : PySem.W.findIn K (.ref (He.ga K "NoDay")) "__class__" = some (some (.builtin "object.__class__")) := of_decide_eq_true (c.ask 90 rfl)
  have e7_8 : PySem.W.mroIn K (He.ga K "NoDay") (.type "object") = some true := of_decide_eq_true (c.ask 91 rfl)
  have e7_b : PySem.W.subIn K (.ref (He.ga K "NoDay")) (.type "BaseException") = some true := of_decide_eq_true (c.ask 92 rfl)
  have e7_t : PySem.W.typeIn K (.ref (He.ga K "NoDay")) = some (.type "type") := of_decide_eq_true (c.ask 93 rfl)
  have e7_k : PySem.W.keepIn K (.ref (He.ga K "NoDay")) = true := of_decide_eq_true (c.ask 94 rfl)
  have e7_i : PySem.W.findIn K (.ref (He.ga K "NoDay")) "__init__" = some (some (.ref (He.ma K (He.ga K "NoDay") "__init__"))) := of_decide_eq_true (c.ask 95 rfl)
  have e7_ty : PySem.W.typeIn K (.ref (He.ma K (He.ga K "NoDay") "__init__")) = some (.type "function") := of_decide_eq_true (c.ask 96 rfl)
  have e7_sa : PySem.W.findIn K (.ref (He.ga K "NoDay")) "__setattr__" = some (some (.builtin "object.__setattr__")) := of_decide_eq_true (c.ask 97 rfl)
  have e7_no : PySem.W.findIn K (.ref (He.ga K "NoDay")) "thing" = some none := of_decide_eq_true (c.ask 98 rfl)
  have e7_m : PySem.W.exmOne K (.ref (He.ga K "NoDay")) (.ref (He.ga K "WordError")) = some true := of_decide_eq_true (c.ask 99 rfl)
  obtain ⟨fdE7, FE7⟩ := c.def_ 39 rfl
  have FI7 : L2.Fun K "__init__" "NoDay.__init__" sEDay (He.ma K (He.ga K "NoDay") "__init__") fdE7 := fun_of FE7
  have bI7 : Binds K fdE7 ["self", "thing"] [] := FI7.binds (ps := ["self", "thing"]) fun _ _ _ _ _ _ us hl => match us, hl with | [_, _], _ => rfl
  have T7 : ErC K mg "NoDay" "thing" (He.ga K "NoDay") (He.ma K (He.ga K "NoDay") "__init__") (He.ga K "WordError") := ⟨⟨oexB_ok (c.ask 100 (f := fun K => oexB K (He.ga K "NoDay")) rfl), e7_sa, e7_b, e7_t, e7_k⟩, e7_no, e7_i, e7_ty, PySem.W.mg_of X G g7, e7_m, ⟨e7_1, e7_2, e7_b, e7_4, e7_5, e6, e7, e7_8⟩, ⟨e7_1, e7_2, e7_b, e7_4⟩⟩
  have q7_0 : PySem.W.kitOne K (.ref (He.ga K "NoDay")) (.ref (He.ga K "NoName")) = some false := of_decide_eq_true (c.ask 101 rfl)
  have q7_1 : PySem.W.kitOne K (.ref (He.ga K "NoDay")) (.ref (He.ga K "NoSum")) = some false := of_decide_eq_true (c.ask 102 rfl)
  have q7_2 : PySem.W.kitOne K (.ref (He.ga K "NoDay")) (.ref (He.ga K "NoShares")) = some false := of_decide_eq_true (c.ask 103 rfl)
  have q7_3 : PySem.W.kitOne K (.ref (He.ga K "NoDay")) (.ref (He.ga K "NoPeople")) = some false := of_decide_eq_true (c.ask 104 rfl)
  have q7_4 : PySem.W.kitOne K (.ref (He.ga K "NoDay")) (.ref (He.ga K "NoGoods")) = some false := of_decide_eq_true (c.ask 105 rfl)
  have q7_5 : PySem.W.kitOne K (.ref (He.ga K "NoDay")) (.ref (He.ga K "NoText")) = some false := of_decide_eq_true (c.ask 106 rfl)
  have q7_6 : PySem.W.kitOne K (.ref (He.ga K "NoDay")) (.ref (He.ga K "NoStory")) = some false := of_decide_eq_true (c.ask 107 rfl)
  have q7_7 : PySem.W.kitOne K (.ref (He.ga K "NoDay")) (.ref (He.ga K "NoDay")) = some true := of_decide_eq_true (c.ask 108 rfl)
  have q7_8 : PySem.W.kitOne K (.ref (He.ga K "NoDay")) (.ref (He.ga K "NoCond")) = some false := of_decide_eq_true (c.ask 109 rfl)
  have q7_9 : PySem.W.kitOne K (.ref (He.ga K "NoDay")) (.ref (He.ga K "NoWhom")) = some false := of_decide_eq_true (c.ask 110 rfl)
  have q7_10 : PySem.W.kitOne K (.ref (He.ga K "NoDay")) (.ref (He.ga K "NoClause")) = some false := of_decide_eq_true (c.ask 111 rfl)
  have q7_11 : PySem.W.kitOne K (.ref (He.ga K "NoDay")) (.ref (He.ga K "NoReading")) = some false := of_decide_eq_true (c.ask 112 rfl)
  have q7_12 : PySem.W.kitOne K (.ref (He.ga K "NoDay")) (.ref (He.ga K "NoWord")) = some false := of_decide_eq_true (c.ask 113 rfl)
  have q7_13 : PySem.W.kitOne K (.ref (He.ga K "NoDay")) (.ref (He.ga K "LabelStands")) = some false := of_decide_eq_true (c.ask 114 rfl)
  have q7_14 : PySem.W.kitOne K (.ref (He.ga K "NoDay")) (.ref (He.ga K "DayStands")) = some false := of_decide_eq_true (c.ask 115 rfl)
  have q7_15 : PySem.W.kitOne K (.ref (He.ga K "NoDay")) (.ref (He.ga K "NoRow")) = some false := of_decide_eq_true (c.ask 116 rfl)
  have q7_16 : PySem.W.kitOne K (.ref (He.ga K "NoDay")) (.ref (He.ga K "NoPerson")) = some false := of_decide_eq_true (c.ask 117 rfl)
  have q7_17 : PySem.W.kitOne K (.ref (He.ga K "NoDay")) (.ref (He.ga K "NoThing")) = some false := of_decide_eq_true (c.ask 118 rfl)
  have q7_18 : PySem.W.kitOne K (.ref (He.ga K "NoDay")) (.ref (He.ga K "NoLabel")) = some false := of_decide_eq_true (c.ask 119 rfl)
  have q7_19 : PySem.W.kitOne K (.ref (He.ga K "NoDay")) (.ref (He.ga K "NoUndo")) = some false := of_decide_eq_true (c.ask 120 rfl)
  have q7_20 : PySem.W.kitOne K (.ref (He.ga K "NoDay")) (.ref (He.ga K "TooMany")) = some false := of_decide_eq_true (c.ask 121 rfl)
  have q7_w : PySem.W.kitOne K (.ref (He.ga K "NoDay")) (.ref (He.ga K "WordError")) = some true := of_decide_eq_true (c.ask 122 rfl)
  have q7_l : PySem.W.kitOne K (.ref (He.ga K "NoDay")) (.ref (He.ga K "LostError")) = some false := of_decide_eq_true (c.ask 123 rfl)
  have q7_r : PySem.W.kitOne K (.ref (He.ga K "NoDay")) (.ref (He.ga K "RoomError")) = some false := of_decide_eq_true (c.ask 124 rfl)
  have q7_V : PySem.W.kitOne K (.ref (He.ga K "NoDay")) (.type "ValueError") = some true := of_decide_eq_true (c.ask 125 rfl)
  have q7_L : PySem.W.kitOne K (.ref (He.ga K "NoDay")) (.type "LookupError") = some false := of_decide_eq_true (c.ask 126 rfl)
  have q7_A : PySem.W.kitOne K (.ref (He.ga K "NoDay")) (.type "ArithmeticError") = some false := of_decide_eq_true (c.ask 127 rfl)
  have KS7 : KitF K (He.ga K "NoDay") (fun i => [(He.ga K "NoName"), (He.ga K "NoSum"), (He.ga K "NoShares"), (He.ga K "NoPeople"), (He.ga K "NoGoods"), (He.ga K "NoText"), (He.ga K "NoStory"), (He.ga K "NoDay"), (He.ga K "NoCond"), (He.ga K "NoWhom"), (He.ga K "NoClause"), (He.ga K "NoReading"), (He.ga K "NoWord"), (He.ga K "LabelStands"), (He.ga K "DayStands"), (He.ga K "NoRow"), (He.ga K "NoPerson"), (He.ga K "NoThing"), (He.ga K "NoLabel"), (He.ga K "NoUndo"), (He.ga K "TooMany"), (He.ga K "WordError"), (He.ga K "LostError"), (He.ga K "RoomError")].getD i 0) 7 := by
    refine ⟨fun i hi => ?_, q7_w, q7_l, q7_r, q7_V, q7_L, q7_A⟩
    match i, hi with
    | 0, _ => exact q7_0
    | 1, _ => exact q7_1
    | 2, _ => exact q7_2
    | 3, _ => exact q7_3
    | 4, _ => exact q7_4
    | 5, _ => exact q7_5
    | 6, _ => exact q7_6
    | 7, _ => exact q7_7
    | 8, _ => exact q7_8
    | 9, _ => exact q7_9
    | 10, _ => exact q7_10
    | 11, _ => exact q7_11
    | 12, _ => exact q7_12
    | 13, _ => exact q7_13
    | 14, _ => exact q7_14
    | 15, _ => exact q7_15
    | 16, _ => exact q7_16
    | 17, _ => exact q7_17
    | 18, _ => exact q7_18
    | 19, _ => exact q7_19
    | 20, _ => exact q7_20
    | i + 21, hi => exact absurd hi (by omega)
  have e16_1 : PySem.W.findIn K (.ref (He.ga K "NoPerson")) "__getattribute__" = some (some (.builtin "BaseException.__getattribute__")) := of_decide_eq_true (c.ask 128 rfl)
  have e16_2 : PySem.W.findIn K (.ref (He.ga K "NoPerson")) "__getattr__" = some none := of_decide_eq_true (c.ask 129 rfl)
  have e16_4 : PySem.W.hasDictIn K (He.ga K "NoPerson") = true := of_decide_eq_true (c.ask 130 rfl)
  have e16_5 : PySem.W.findIn K (.ref (He.ga K "NoPerson")) "__class__" = some (some (.builtin "object.__class__")) := of_decide_eq_true (c.ask 131 rfl)
  have e16_8 : PySem.W.mroIn K (He.ga K "NoPerson") (.type "object") = some true := of_decide_eq_true (c.ask 132 rfl)
  have e16_b : PySem.W.subIn K (.ref (He.ga K "NoPerson")) (.type "BaseException") = some true := of_decide_eq_true (c.ask 133 rfl)
  have e16_t : PySem.W.typeIn K (.ref (He.ga K "NoPerson")) = some (.type "type") := of_decide_eq_true (c.ask 134 rfl)
  have e16_k : PySem.W.keepIn K (.ref (He.ga K "NoPerson")) = true := of_decide_eq_true (c.ask 135 rfl)
  have e16_i : PySem.W.findIn K (.ref (He.ga K "NoPerson")) "__init__" = some (some (.ref (He.ma K (He.ga K "NoPerson") "__init__"))) := of_decide_eq_true (c.ask 136 rfl)
  have e16_ty : PySem.W.typeIn K (.ref (He.ma K (He.ga K "NoPerson") "__init__")) = some (.type "function") := of_decide_eq_true (c.ask 137 rfl)
  have e16_sa : PySem.W.findIn K (.ref (He.ga K "NoPerson")) "__setattr__" = some (some (.builtin "object.__setattr__")) := of_decide_eq_true (c.ask 138 rfl)
  have e16_no : PySem.W.findIn K (.ref (He.ga K "NoPerson")) "name" = some none := of_decide_eq_true (c.ask 139 rfl)
  have e16_m : PySem.W.exmOne K (.ref (He.ga K "NoPerson")) (.ref (He.ga K "LostError")) = some true := of_decide_eq_true (c.ask 140 rfl)
  obtain ⟨fdE16, FE16⟩ := c.def_ 40 rfl
  have FI16 : L2.Fun K "__init__" "NoPerson.__init__" sEPer (He.ma K (He.ga K "NoPerson") "__init__") fdE16 := fun_of FE16
  have bI16 : Binds K fdE16 ["self", "name"] [] := FI16.binds (ps := ["self", "name"]) fun _ _ _ _ _ _ us hl => match us, hl with | [_, _], _ => rfl
  have T16 : ErL K mg "NoPerson" "name" (He.ga K "NoPerson") (He.ma K (He.ga K "NoPerson") "__init__") (He.ga K "LostError") := ⟨⟨oexTB_ok (c.ask 141 (f := fun K => oexTB "LookupError.__new__" [.type "LookupError", .type "Exception", .type "BaseException", .type "object"] K (He.ga K "NoPerson")) rfl), e16_sa, e16_b, e16_t, e16_k⟩, e16_no, e16_i, e16_ty, PySem.W.mg_of X G g16, e16_m, ⟨e16_1, e16_2, e16_b, e16_4, e16_5, e6, e7, e16_8⟩, ⟨e16_1, e16_2, e16_b, e16_4⟩⟩
  have q16_0 : PySem.W.kitOne K (.ref (He.ga K "NoPerson")) (.ref (He.ga K "NoName")) = some false := of_decide_eq_true (c.ask 142 rfl)
  have q16_1 : PySem.W.kitOne K (.ref (He.ga K "NoPerson")) (.ref (He.ga K "NoSum")) = some false := of_decide_eq_true (c.ask 143 rfl)
  have q16_2 : PySem.W.kitOne K (.ref (He.ga K "NoPerson")) (.ref (He.ga K "NoShares")) = some false := of_decide_eq_true (c.ask 144 rfl)
  have q16_3 : PySem.W.kitOne K (.ref (He.ga K "NoPerson")) (.ref (He.ga K "NoPeople")) = some false := of_decide_eq_true (c.ask 145 rfl)
  have q16_4 : PySem.W.kitOne K (.ref (He.ga K "NoPerson")) (.ref (He.ga K "NoGoods")) = some false := of_decide_eq_true (c.ask 146 rfl)
  have q16_5 : PySem.W.kitOne K (.ref (He.ga K "NoPerson")) (.ref (He.ga K "NoText")) = some false := of_decide_eq_true (c.ask 147 rfl)
  have q16_6 : PySem.W.kitOne K (.ref (He.ga K "NoPerson")) (.ref (He.ga K "NoStory")) = some false := of_decide_eq_true (c.ask 148 rfl)
  have q16_7 : PySem.W.kitOne K (.ref (He.ga K "NoPerson")) (.ref (He.ga K "NoDay")) = some false := of_decide_eq_true (c.ask 149 rfl)
  have q16_8 : PySem.W.kitOne K (.ref (He.ga K "NoPerson")) (.ref (He.ga K "NoCond")) = some false := of_decide_eq_true (c.ask 150 rfl)
  have q16_9 : PySem.W.kitOne K (.ref (He.ga K "NoPerson")) (.ref (He.ga K "NoWhom")) = some false := of_decide_eq_true (c.ask 151 rfl)
  have q16_10 : PySem.W.kitOne K (.ref (He.ga K "NoPerson")) (.ref (He.ga K "NoClause")) = some false := of_decide_eq_true (c.ask 152 rfl)
  have q16_11 : PySem.W.kitOne K (.ref (He.ga K "NoPerson")) (.ref (He.ga K "NoReading")) = some false := of_decide_eq_true (c.ask 153 rfl)
  have q16_12 : PySem.W.kitOne K (.ref (He.ga K "NoPerson")) (.ref (He.ga K "NoWord")) = some false := of_decide_eq_true (c.ask 154 rfl)
  have q16_13 : PySem.W.kitOne K (.ref (He.ga K "NoPerson")) (.ref (He.ga K "LabelStands")) = some false := of_decide_eq_true (c.ask 155 rfl)
  have q16_14 : PySem.W.kitOne K (.ref (He.ga K "NoPerson")) (.ref (He.ga K "DayStands")) = some false := of_decide_eq_true (c.ask 156 rfl)
  have q16_15 : PySem.W.kitOne K (.ref (He.ga K "NoPerson")) (.ref (He.ga K "NoRow")) = some false := of_decide_eq_true (c.ask 157 rfl)
  have q16_16 : PySem.W.kitOne K (.ref (He.ga K "NoPerson")) (.ref (He.ga K "NoPerson")) = some true := of_decide_eq_true (c.ask 158 rfl)
  have q16_17 : PySem.W.kitOne K (.ref (He.ga K "NoPerson")) (.ref (He.ga K "NoThing")) = some false := of_decide_eq_true (c.ask 159 rfl)
  have q16_18 : PySem.W.kitOne K (.ref (He.ga K "NoPerson")) (.ref (He.ga K "NoLabel")) = some false := of_decide_eq_true (c.ask 160 rfl)
  have q16_19 : PySem.W.kitOne K (.ref (He.ga K "NoPerson")) (.ref (He.ga K "NoUndo")) = some false := of_decide_eq_true (c.ask 161 rfl)
  have q16_20 : PySem.W.kitOne K (.ref (He.ga K "NoPerson")) (.ref (He.ga K "TooMany")) = some false := of_decide_eq_true (c.ask 162 rfl)
  have q16_w : PySem.W.kitOne K (.ref (He.ga K "NoPerson")) (.ref (He.ga K "WordError")) = some false := of_decide_eq_true (c.ask 163 rfl)
  have q16_l : PySem.W.kitOne K (.ref (He.ga K "NoPerson")) (.ref (He.ga K "LostError")) = some true := of_decide_eq_true (c.ask 164 rfl)
  have q16_r : PySem.W.kitOne K (.ref (He.ga K "NoPerson")) (.ref (He.ga K "RoomError")) = some false := of_decide_eq_true (c.ask 165 rfl)
  have q16_V : PySem.W.kitOne K (.ref (He.ga K "NoPerson")) (.type "ValueError") = some false := of_decide_eq_true (c.ask 166 rfl)
  have q16_L : PySem.W.kitOne K (.ref (He.ga K "NoPerson")) (.type "LookupError") = some true := of_decide_eq_true (c.ask 167 rfl)
  have q16_A : PySem.W.kitOne K (.ref (He.ga K "NoPerson")) (.type "ArithmeticError") = some false := of_decide_eq_true (c.ask 168 rfl)
  have KS16 : KitF K (He.ga K "NoPerson") (fun i => [(He.ga K "NoName"), (He.ga K "NoSum"), (He.ga K "NoShares"), (He.ga K "NoPeople"), (He.ga K "NoGoods"), (He.ga K "NoText"), (He.ga K "NoStory"), (He.ga K "NoDay"), (He.ga K "NoCond"), (He.ga K "NoWhom"), (He.ga K "NoClause"), (He.ga K "NoReading"), (He.ga K "NoWord"), (He.ga K "LabelStands"), (He.ga K "DayStands"), (He.ga K "NoRow"), (He.ga K "NoPerson"), (He.ga K "NoThing"), (He.ga K "NoLabel"), (He.ga K "NoUndo"), (He.ga K "TooMany"), (He.ga K "WordError"), (He.ga K "LostError"), (He.ga K "RoomError")].getD i 0) 16 := by
    refine ⟨fun i hi => ?_, q16_w, q16_l, q16_r, q16_V, q16_L, q16_A⟩
    match i, hi with
    | 0, _ => exact q16_0
    | 1, _ => exact q16_1
    | 2, _ => exact q16_2
    | 3, _ => exact q16_3
    | 4, _ => exact q16_4
    | 5, _ => exact q16_5
    | 6, _ => exact q16_6
    | 7, _ => exact q16_7
    | 8, _ => exact q16_8
    | 9, _ => exact q16_9
    | 10, _ => exact q16_10
    | 11, _ => exact q16_11
    | 12, _ => exact q16_12
    | 13, _ => exact q16_13
    | 14, _ => exact q16_14
    | 15, _ => exact q16_15
    | 16, _ => exact q16_16
    | 17, _ => exact q16_17
    | 18, _ => exact q16_18
    | 19, _ => exact q16_19
    | 20, _ => exact q16_20
    | i + 21, hi => exact absurd hi (by omega)
  have mPW : PySem.W.exmOne K (.ref (He.ga K "NoPerson")) (.ref (He.ga K "WordError")) = some false := of_decide_eq_true (c.ask 169 rfl)
  have gW : PySem.W.nsIn K mainGlobals "WORDS" = some (some (.ref (He.ga K "WORDS"))) := of_decide_eq_true (c.ask 170 rfl)
  have TN : NmF K mg (He.ga K "WORDS") := ⟨He.str_ok X G (c.ask 171 (f := fun K => (He.Fa.str "LETTERS" "abcdefghijklmnopqrstuvwxyz").ok K) rfl), He.int_ok X G (c.ask 172 (f := fun K => (He.Fa.int "LONGEST" 8).ok K) rfl), PySem.W.mg_of X G gW, fun H => He.tupB_ok (c.ask 173 (f := fun K => He.tupB K "WORDS" [.str "all", .str "and", .str "children", .str "childless", .str "crown", .str "else", .str "if", .str "lives", .str "not", .str "of", .str "or", .str "stock", .str "to"]) rfl) H⟩
  have gC : PySem.W.nsIn K mainGlobals "COND_WORDS" = some (some (.ref (He.ga K "COND_WORDS"))) := of_decide_eq_true (c.ask 174 rfl)
  obtain ⟨t_MOST_DEEP, g_MOST_DEEP⟩ := He.int_ok X G (c.ask 176 (f := fun K => (He.Fa.int "MOST_DEEP" 6).ok K) rfl)
  obtain ⟨t_FEWEST_TERMS, g_FEWEST_TERMS⟩ := He.int_ok X G (c.ask 177 (f := fun K => (He.Fa.int "FEWEST_TERMS" 2).ok K) rfl)
  obtain ⟨t_MOST_TERMS, g_MOST_TERMS⟩ := He.int_ok X G (c.ask 178 (f := fun K => (He.Fa.int "MOST_TERMS" 6).ok K) rfl)
  obtain ⟨t_MOST_NAMES, g_MOST_NAMES⟩ := He.int_ok X G (c.ask 179 (f := fun K => (He.Fa.int "MOST_NAMES" 12).ok K) rfl)
  obtain ⟨t_LAST_DAY, g_LAST_DAY⟩ := He.int_ok X G (c.ask 180 (f := fun K => (He.Fa.int "LAST_DAY" 9999).ok K) rfl)
  obtain ⟨t_MOST_SUM, g_MOST_SUM⟩ := He.int_ok X G (c.ask 181 (f := fun K => (He.Fa.int "MOST_SUM" 1000000000).ok K) rfl)
  obtain ⟨t_MOST_PEOPLE, g_MOST_PEOPLE⟩ := He.int_ok X G (c.ask 182 (f := fun K => (He.Fa.int "MOST_PEOPLE" 8).ok K) rfl)
  obtain ⟨t_MOST_GOODS, g_MOST_GOODS⟩ := He.int_ok X G (c.ask 183 (f := fun K => (He.Fa.int "MOST_GOODS" 8).ok K) rfl)
  obtain ⟨t_MOST_DEATHS, g_MOST_DEATHS⟩ := He.int_ok X G (c.ask 184 (f := fun K => (He.Fa.int "MOST_DEATHS" 8).ok K) rfl)
  have TCo : CoF K mg (He.ga K "COND_WORDS") := ⟨PySem.W.mg_of X G gC, fun H => He.tupB_ok (c.ask 175 (f := fun K => He.tupB K "COND_WORDS" [.str "lives", .str "childless", .str "not", .str "and", .str "or"]) rfl) H, ⟨_, g_MOST_DEEP⟩, ⟨_, g_FEWEST_TERMS⟩, ⟨_, g_MOST_TERMS⟩, ⟨_, g_MOST_NAMES⟩⟩
  have gH : PySem.W.nsIn K mainGlobals "House" = some (some (.ref (He.ga K "House"))) := of_decide_eq_true (c.ask 185 rfl)
  obtain ⟨fdIH, FD0H⟩ := c.def_ 41 rfl
  have FDH : FunD K "__init__" "House.__init__" (defArgs sHI) (defBody sHI) (defScope sHI) [.non, .int 0, .int 0] [] (He.ma K (He.ga K "House") "__init__") fdIH := FD0H
  have MH : Mk K (He.ga K "House") (He.ma K (He.ga K "House") "__init__") := He.mkr_ok (c.ask 186 (f := fun K => (He.Fa.mkr "House").ok K) rfl)
  obtain ⟨dsH, vH, bH⟩ := FDH.binds1 (ps := ["self", "people", "goods", "purse", "debts"]) 2 0 (by simp) rfl fun _ _ _ _ _ _ _ us its hu hi => match us, hu, its, hi with | [_, _], _, [_, _, _], _ => ⟨_, rfl, rfl⟩
  have gY : PySem.W.nsIn K mainGlobals "Story" = some (some (.ref (He.ga K "Story"))) := of_decide_eq_true (c.ask 187 rfl)
  obtain ⟨fdIY, FD0Y⟩ := c.def_ 42 rfl
  have FDY : FunD K "__init__" "Story.__init__" (defArgs sSI) (defBody sSI) (defScope sSI) [.non] [] (He.ma K (He.ga K "Story") "__init__") fdIY := FD0Y
  have MY : Mk K (He.ga K "Story") (He.ma K (He.ga K "Story") "__init__") := He.mkr_ok (c.ask 188 (f := fun K => (He.Fa.mkr "Story").ok K) rfl)
  obtain ⟨dsY, vY, bY⟩ := FDY.binds1 (ps := ["self", "deaths"]) 2 1 (by simp) rfl fun _ _ _ _ _ _ _ us its hu hi => match us, hu, its, hi with | [_, _], _, [_], _ => ⟨_, rfl, rfl⟩
  have TH : HsF K (He.ga K "House") := ⟨He.cls_ok (c.ask 189 (f := fun K => (He.Fa.cls "House").ok K) rfl), He.noat_ok (c.ask 190 (f := fun K => (He.Fa.noat "House" "folk").ok K) rfl), He.noat_ok (c.ask 191 (f := fun K => (He.Fa.noat "House" "things").ok K) rfl), He.noat_ok (c.ask 192 (f := fun K => (He.Fa.noat "House" "purse").ok K) rfl), He.noat_ok (c.ask 193 (f := fun K => (He.Fa.noat "House" "debts").ok K) rfl)⟩
  have TY : SyF K (He.ga K "Story") := ⟨He.cls_ok (c.ask 194 (f := fun K => (He.Fa.cls "Story").ok K) rfl), He.noat_ok (c.ask 195 (f := fun K => (He.Fa.noat "Story" "deaths").ok K) rfl)⟩
  have gDM : PySem.W.nsIn K mainGlobals "comes" = some (some (.ref (He.ga K "comes"))) := of_decide_eq_true (c.ask 196 rfl)
  obtain ⟨fdDM, FD0M⟩ := c.def_ 43 rfl
  have FDM : FunD K "comes" "comes" (defArgs sComes) (defBody sComes) (defScope sComes) [.int 0] [] (He.ga K "comes") fdDM := FD0M
  obtain ⟨dsM, vM, bM⟩ := FDM.binds1 (ps := ["house", "cond", "story", "wait"]) 4 1 (by simp) rfl fun _ _ _ _ _ _ _ us its hu hi => match us, hu, its, hi with | [_, _, _, _], _, [_], _ => ⟨_, rfl, rfl⟩
  obtain ⟨dsM3, vM3, bM3⟩ := FDM.binds1 (ps := ["house", "cond", "story", "wait"]) 3 0 (by simp) rfl fun _ _ _ _ _ _ _ us its hu hi => match us, hu, its, hi with | [_, _, _], _, [_], _ => ⟨_, rfl, rfl⟩
  obtain ⟨fdMp, FM0p⟩ := c.def_ 44 rfl
  have MTp : Meth K (He.ga K "House") "people" (He.ma K (He.ga K "House") "people") := He.meth_ok (c.ask 197 (f := fun K => (He.Fa.meth "House" "people").ok K) rfl)
  have FMp : L2.Fun K "people" "House.people" sPeo (He.ma K (He.ga K "House") "people") fdMp := fun_of FM0p
  have bMp : Binds K fdMp ["self"] [] := FMp.binds (ps := ["self"]) fun _ _ _ _ _ _ us hl => match us, hl with | [_], _ => rfl
  obtain ⟨fdMq, FM0q⟩ := c.def_ 45 rfl
  have MTq : Meth K (He.ga K "House") "person" (He.ma K (He.ga K "House") "person") := He.meth_ok (c.ask 198 (f := fun K => (He.Fa.meth "House" "person").ok K) rfl)
  have FMq : L2.Fun K "person" "House.person" sPers (He.ma K (He.ga K "House") "person") fdMq := fun_of FM0q
  have bMq : Binds K fdMq ["self", "name"] [] := FMq.binds (ps := ["self", "name"]) fun _ _ _ _ _ _ us hl => match us, hl with | [_, _], _ => rfl
  obtain ⟨fdMc, FM0c⟩ := c.def_ 46 rfl
  have MTc : Meth K (He.ga K "House") "children" (He.ma K (He.ga K "House") "children") := He.meth_ok (c.ask 199 (f := fun K => (He.Fa.meth "House" "children").ok K) rfl)
  have FMc : L2.Fun K "children" "House.children" sChi (He.ma K (He.ga K "House") "children") fdMc := fun_of FM0c
  have bMc : Binds K fdMc ["self", "name"] [] := FMc.binds (ps := ["self", "name"]) fun _ _ _ _ _ _ us hl => match us, hl with | [_, _], _ => rfl
  obtain ⟨fdMd, FM0d⟩ := c.def_ 47 rfl
  have MTd : Meth K (He.ga K "Story") "died" (He.ma K (He.ga K "Story") "died") := He.meth_ok (c.ask 200 (f := fun K => (He.Fa.meth "Story" "died").ok K) rfl)
  have FMd : L2.Fun K "died" "Story.died" sDied (He.ma K (He.ga K "Story") "died") fdMd := fun_of FM0d
  have bMd : Binds K fdMd ["self", "name"] [] := FMd.binds (ps := ["self", "name"]) fun _ _ _ _ _ _ us hl => match us, hl with | [_, _], _ => rfl
  obtain ⟨fdMl, FM0l⟩ := c.def_ 48 rfl
  have MTl : Meth K (He.ga K "Story") "lives" (He.ma K (He.ga K "Story") "lives") := He.meth_ok (c.ask 201 (f := fun K => (He.Fa.meth "Story" "lives").ok K) rfl)
  have FDl : FunD K "lives" "Story.lives" (defArgs sLiv) (defBody sLiv) (defScope sLiv) [.int 0] [] (He.ma K (He.ga K "Story") "lives") fdMl := FM0l
  obtain ⟨dsl, vl, bl0⟩ := FDl.binds1 (ps := ["self", "name", "more"]) 3 1 (by simp) rfl fun _ _ _ _ _ _ _ us its hu hi => match us, hu, its, hi with | [_, _, _], _, [_], _ => ⟨_, rfl, rfl⟩
  have bLl : Binds K fdMl ["self", "name", "more"] [] := by
    have v : Vals [] dsl := vl
    cases v
    exact bl0
  have bM4 : Binds K fdDM pCo [] := by
    have v : Vals [] dsM := vM
    cases v
    exact bM
  have k1 : KBn K fdDM pCo 0 ["wait", "story", "cond", "house"] (fun us ws => us ++ ws.reverse) (fun vs zs => vs ++ zs.reverse) := kbn_of FDM 0 ["wait", "story", "cond", "house"] (fun us ws => us ++ ws.reverse) (fun vs zs => vs ++ zs.reverse) (by simp) (fun _ _ _ _ _ _ _ us its ws hu hi hw => match us, hu, its, hi, ws, hw with | [], _, [_], _, [_, _, _, _], _ => ⟨_, rfl, rfl⟩) (fun r1 r2 => r1.append (vals_rev r2))
  have k3 : KBn K fdDM pCo 3 ["wait"] (fun us ws => us ++ ws) (fun vs zs => vs ++ zs) := kbn_of FDM 3 ["wait"] (fun us ws => us ++ ws) (fun vs zs => vs ++ zs) (by simp) (fun _ _ _ _ _ _ _ us its ws hu hi hw => match us, hu, its, hi, ws, hw with | [_, _, _], _, [_], _, [_], _ => ⟨_, rfl, rfl⟩) (fun r1 r2 => r1.append r2)
  have e := hfa.symm.trans (PySem.W.mg_of X G a39)
  cases e
  refine ⟨fd39, fun s v => FunD.bindsA (ps := ["_law_script"]) FF39 (fun _ _ _ _ _ _ us hl => match us, hl with | [_], _ => rfl) s [v] rfl, fun base _ _ => ?_⟩
  have GN : ∀ k, FnOk P w K mg base CX0 (k + 1) _ _ ["thing"] (spName K) := fun k => ok_name (k := k) B TN D1
  have GW : ∀ k, FnOk P w K mg base CX0 (k + 1) _ _ ["thing", "words"] (spWord K) := fun k => ok_word (k := k) B D2
  have GD : ∀ k, FnOk P w K mg base CX0 (k + 2) _ _ ["thing"] (spDay K) := fun k => ok_day (k := k) B (g_LAST_DAY) D5 D3
  have GLv : FnOk P w K mg base CX0 3 _ _ ["thing"] (spLives K) := ok_lives (k := 0) B D11 D1 D5 (GN 1) (GD 0)
  have GF : FnOk P w K mg base CX0 10 _ _ ["thing", "room"] (spForm K 6) := ok_form (k := 0) B TCo D12 D1 D11 D2 (GN 1) GLv (GW 0) 6
  have GCo : FnOk P w K mg base CX0 11 _ _ ["thing"] (spB K condB) := ok_cond (k := 0) B TCo D14 D12 D13 GF
  have GCN : FnOk P w K mg base CX0 12 _ _ ["thing"] (spB K condNB) := ok_condN (k := 0) D15 D14 GCo
  have GPo1 : FnOk P w K mg base CX0 1 _ _ ["self"] (spPeo K (He.ga K "House")) := ok_peo (k := 0) B TH FMp
  have GCk : FnOk P w K mg base (L2.CX P w) 3 _ _ ["house", "names"] (spCkP K (He.ga K "House") (He.ga K "NoPerson")) := ok_ckP (k := 0) TH T16 FI16 bI16 D18 MTp bMp GPo1
  have GNm : FnOk P w K mg base CX0 8 _ _ ["cond"] (spCN K) := ok_CN (k := 0) B D17 D13
  have GRw : FnOk P w K mg base CX0 2 _ _ ["rows", "name"] (spRow K) := ok_row (k := 0) D16 D2 (GW 0)
  have GPr : FnOk P w K mg base CX0 3 _ _ ["self", "name"] (spPers K (He.ga K "House")) := ok_pers (k := 0) TH FMq D16 GRw
  have GKi : FnOk P w K mg base CX0 4 _ _ ["self", "name"] (spKids K (He.ga K "House")) := ok_kids (k := 0) B TH FMc MTq bMq GPr
  have GDi : FnOk P w K mg base CX0 2 _ _ ["self", "name"] (spDied K (He.ga K "Story")) := ok_died (k := 0) TY FMd (GN 0) D1
  have GLi : FnOk P w K mg base CX0 3 _ _ ["self", "name", "more"] (spLiv K (He.ga K "Story")) := ok_liv (k := 0) TY FDl MTd bMd GDi (GD 0) D5
  have GHc : FnOk P w K mg base CX0 11 _ _ ["house", "cond", "story", "wait"] (spHC K (He.ga K "House") (He.ga K "Story") 6) := ok_hc (k := 0) B TH TY D19 MTc bMc GKi MTl bLl GLi 6
  have GCm : FnOk P w K mg base (L2.CX P w) 13 _ _ ["house", "cond", "story", "wait"] (spComes K (He.ga K "House") (He.ga K "Story") (He.ga K "NoDay") (He.ga K "NoPerson")) := ok_comes T7 FI7 bI7 FDM GCN D15 (GD 0) D5 GNm D17 GCk D18 GHc D19
  have gCm := PySem.W.mg_of X G gDM
  have GRf : FnOk P w K mg base CX0 14 _ _ pRf (spRf K (He.ga K "House") (He.ga K "Story")) := ok_rf B T7 T16 mPW TC KS7 KS16 (PySem.W.mg_of X G g21) (PySem.W.mg_of X G g22) D37 D27 gCm FDM.kp GCm bM4
  have GTo : FnOk P w K mg base CX0 14 _ _ pTo (spTo K (He.ga K "House") (He.ga K "Story")) := ok_to D34 gCm FDM.kp GCm bM4 bM3 vM3 k1 k3
  have GT : ∀ k, FnOk P w K mg base CX0 (k + 1) _ _ ["_law_pool_here", "_law_many"] spTake := fun k => ok_take (k := k) B D21
  have GO : FnOk P w K mg base CX0 16 _ _ ["_law_script", "_law_k"] (spPool K) := ok_pool (k := 15) B D20
  have GWo : FnOk P w K mg base CX0 15 _ _ ["_law_pool_here", "_law_many"] spWords := ok_words (k := 13) B D22 D21 (GT 13)
  have GPo : FnOk P w K mg base CX0 16 _ _ ["_law_pool_here", "_law_many"] (spPeople K) := ok_people (k := 13) B D23 D21 D22 (GT 13) GWo
  have GDe : FnOk P w K mg base CX0 16 _ _ ["_law_pool_here", "_law_folk", "_law_days"] (spDeaths K) := ok_deaths (k := 14) B (PySem.W.mg_none_of X G z_sorted) D24 D21 (GT 14)
  have GDw : FnOk P w K mg base CX0 16 _ _ ["_law_pool_here", "_law_folk", "_law_days"] (spDw K) := ok_dw (k := 8) B D33 D21 D25 D26 (GT 8)
  have GSd : FnOk P w K mg base CX0 14 _ _ ["_law_term"] (spSd K 6) := ok_sd (k := 7) D26 6 (by decide)
  have GDp : FnOk P w K mg base CX0 14 _ _ ["_law_term"] (spDp K 6) := ok_dp (k := 7) B D32 6
  have GDo : FnOk P w K mg base CX0 14 _ _ ["_law_term"] (spDoO K) := ok_doO (ok_do (k := 7) B D31 6 (by decide))
  have GOl : FnOk P w K mg base CX0 7 _ _ ["_law_deaths_here", "_law_one", "_law_at"] (spOl K) := ok_ol (k := 6) B D29
  have GLm : FnOk P w K mg base CX0 14 _ _ pLm (spLmO K) := ok_lmO (ok_lm (k := 6) B D30 D29 GOl 6)
  have GWi : FnOk P w K mg base CX0 14 _ _ pWi (spWi K 6) := ok_wi (k := 6) B D36 D21 (GT 6) 6
  have GTw : FnOk P w K mg base CX0 14 _ _ ["_law_one", "_law_two"] (spTw K 3) := ok_tw (k := 10) B D28 3
  have GPe : FnOk P w K mg base CX0 12 _ _ ["thing", "ahead"] (spPerson K) := ok_person (k := 10) B (GN 10) (GW 10) D6 D1 D2
  have GCP : FnOk P w K mg base (L2.CX P w) 13 _ _ ["people"] (spChkP K) := ok_chkP (k := 10) B (g_MOST_PEOPLE) GPe D7 D6
  have GCG : FnOk P w K mg base (L2.CX P w) 11 _ _ ["goods"] (spChk0 K) := ok_chkG0 (k := 10) B (g_MOST_GOODS) D8
  have GZ : FnOk P w K mg base CX0 12 _ _ ["thing"] spZero := ok_zero (k := 10) B (g_MOST_SUM) D4 D3
  have GH : FnOk P w K mg base (L2.CX P w) 14 _ _ ["self", "people", "goods", "purse", "debts"] (spHIa K (He.ga K "House")) := ok_HIa (k := 10) B TH FDH GCP D7 GCG D8 GZ D4
  have GDh : FnOk P w K mg base CX0 12 _ _ ["thing", "ahead"] (spDeath K) := ok_death (k := 9) B (GN 10) (GD 9) D9 D1 D5
  have GCD : FnOk P w K mg base (L2.CX P w) 13 _ _ ["deaths"] (spChkD K) := ok_chkD (k := 9) B (g_MOST_DEATHS) GDh D10 D9
  have GY : FnOk P w K mg base (L2.CX P w) 14 _ _ ["self", "deaths"] (spSIa K (He.ga K "Story")) := ok_SIa (k := 9) TY FDY GCD D10
  have GRg : FnOk P w K mg base CX0 16 _ _ pRg (spRg K) := ok_rg B D35 D21 (GT 0) MH (PySem.W.mg_of X G gH) GH bH vH MY (PySem.W.mg_of X G gY) GY bY vY D30 GLm D34 GTo D31 GDo gCm FDM.kp (GCm.mono (by decide)) bM4 D26 GSd D32 GDp
  have GRr : FnOk P w K mg base CX0 16 _ _ pRr (spRr K) := ok_rr D38 MH (PySem.W.mg_of X G gH) GH bH vH MY (PySem.W.mg_of X G gY) GY bY vY D36 GWi D26 GSd D28 GTw D37 GRf
  exact ok_law B D39 D20 D21 D23 D24 D33 D35 D38 GO (GT 15) GPo GDe GDw GRg GRr
end WdQ

set_option Elab.async false
set_option linter.all false
set_option maxRecDepth 100000
set_option maxHeartbeats 0
namespace WdQ
open PySem PySem.Spec PyProof.Rows L2 Wd
end WdQ
open PySem PySem.W PySem.Calls PyProof.Rows
set_option maxRecDepth 100000 in
set_option maxHeartbeats 0 in
theorem PySem.Challenge.cw_willdealt_k14_when_conditions_come_holds : PySem.Challenge.rw_willdealt_k14_when_conditions_come.Holds := by
  w_on; o_law
  refine HandSHeadRun.head_any (r := OpenLaw.row PySem.Challenge.rw_willdealt_k14_when_conditions_come) (q := view (OpenLaw.row PySem.Challenge.rw_willdealt_k14_when_conditions_come).prog [89]) (H := WdQ.hkN) (ob := WdQ.obN) (M := 12000) (loose := WdQ.looseN) (d := HandSHeadRun.topDef (OpenLaw.row PySem.Challenge.rw_willdealt_k14_when_conditions_come).prog 89) (kwd := []) WdQ.obN_eq
    (by kernel_rfl) (fun s => by kernel_rfl) WdQ.runN (by kernel_rfl) (by kernel_rfl) (by kernel_rfl) (by rfl) (by first | assumption | decide +kernel) (by decide +kernel) ⟨rfl, rfl, rfl, rfl, rfl, by decide +kernel⟩ ?hw ?hc
  case hw => w_witness2
  case hc =>
    refine L2.walk_ofE (l := PySem.Challenge.rw_willdealt_k14_when_conditions_come) (n := 63) (k := 17) (x := "_law_script") (CX := L2.CX0) rfl (by decide) (by kernel_rfl) ⟨rfl, by decide, by decide⟩ ?F (fun _ _ _ _ z => z)
    intro w mg fa h Y G hmg0
    obtain ⟨K, KX, c⟩ := Y
    have hmg : mg ("law" : PySem.Str) = some (.ref fa) := by
      have e : (HandSHeadRun.topDef (OpenLaw.row PySem.Challenge.rw_willdealt_k14_when_conditions_come).prog 89).name = ("law" : PySem.Str) := by kernel_rfl
      rw [← e]
      exact hmg0
    obtain ⟨fd, hb, hF⟩ := WdQ.factsN (P := (PySem.Challenge.rw_willdealt_k14_when_conditions_come).prog) (w := w) KX G hmg c
    exact ⟨K, fd, WdQ.spLaw K, KX, hb, fun H a ns hl _ hS => ⟨a, ns, rfl, hS, hl, fun _ => rfl⟩, hF⟩


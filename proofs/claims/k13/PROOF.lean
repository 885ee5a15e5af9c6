import PyProof.Rows.All
import Wide.All
import OpenK.AllK
import Wide.FinOn
import KE.KStateDown
import HandS.Base
import HandS.Call
import HandS.Ends
import HandS.More
import HandS.Words
import HandS.WordsExc
import HandS.Defaults
import HandS.ExcInit
import HandS.ExcField
import HandS.Head0
import HandS.Head1
import HandS.Head2
import HandS.HeadEnd
import HandS.HeadHook1
import HandS.HeadHook2
import KE.GoesMore
import KE.GoesEnum
import KE.KTupSum
import KE.KRevSl
import HandS.ForMost
import HandS.Walk
import HandS.IsInst
import HandS.Wide
import HandS.WideBits
import HandS.TupAny
import HandS.Exc
import HandS.ExcOwn
import HandS.ExcIs
import HandS.CallSlots
import HandS.TupMul
import KE.KExcIs
import PyProof.FactsAll.list_3
import PyProof.Draws
import PySem.Challenge.RW_willdealt_k13_what_conditions_are
set_option Elab.async false
set_option linter.all false
set_option maxRecDepth 100000
set_option maxHeartbeats 4000000
namespace Wd
open PySem PySem.Spec PyProof.Rows L2 He
/-! ### a head by facts: a row of questions about the written part, and the defs -/
abbrev Ask := PySem.W.Frag → Bool
def obsW (as : List Ask) (fn : List DefD) (K : PySem.W.Frag) : AlD := ((as.all fun f => f K) && fn.all fun d => d.ok K, fn.map fun d => fnW K d.at_)
def SaysW (as : List Ask) (fn : List DefD) (K : PySem.W.Frag) : Prop := obsW as fn K = valD fn
def obsWG (n : Nat) (as : List Ask) (fn : List DefD) (g : Addr → Option Obj) : AlD := obsW as fn (frG g (asD g n))
def hookW (n : Nat) (as : List Ask) (fn : List DefD) : PySem.W.Hook where
  α := AlD
  obs := fun s => obsWG n as fn s.heap.get?
  val := fun _ => valD fn
  says := fun _ h => ∃ K : PySem.W.Frag, K.In h ∧ SaysW as fn K
  of := fun _ _ e => ⟨_, frG_in, e⟩
  keeps := fun _ _ _ ⟨K, hK, c⟩ k => ⟨K, PySem.W.Frag.In.keeps hK k, c⟩
theorem obsWG_eq {n : Nat} {as : List Ask} {fn : List DefD} {g : Addr → Option Obj} {s : Shared} (h : ∀ a, g a = s.heap.get? a) : obsWG n as fn g = (hookW n as fn).obs s := by
  have e : g = s.heap.get? := funext h
  rw [e] <;> rfl
section
variable {as : List Ask} {fn : List DefD} {K : PySem.W.Frag}
theorem SaysW.ask (c : SaysW as fn K) (i : Nat) {f : Ask} (h : as[i]? = some f := by rfl) : f K = true := by
  have c1 := (ba (show ((as.all fun f => f K) && fn.all fun d => d.ok K) = true from congrArg (fun z : AlD => z.1) c)).1
  exact List.all_eq_true.mp c1 f (List.mem_of_getElem? h)
theorem SaysW.def_ (c : SaysW as fn K) (i : Nat) {d : DefD} (h : fn[i]? = some d := by rfl) : ∃ fd, FunD K d.name d.qual d.params d.body d.scope (d.dvs K) (d.kws K) (fAd K d.at_) fd := by
  have c2 := (ba (show ((as.all fun f => f K) && fn.all fun d => d.ok K) = true from congrArg (fun z : AlD => z.1) c)).2
  have e : fn.map (fun d => fnW K d.at_) = fn.map DefD.val := congrArg (fun z : AlD => z.2) c
  have e2 : (fn.map fun d => fnW K d.at_)[i]? = (fn.map DefD.val)[i]? := by rw [e]
  rw [List.getElem?_map, List.getElem?_map, h] at e2
  exact DefD.funD (Option.some.inj e2) (List.all_eq_true.mp c2 d (List.mem_of_getElem? h))
end
theorem obsW_app {as1 as2 : List Ask} {fn1 fn2 : List DefD} {K : PySem.W.Frag} (h1 : obsW as1 fn1 K = valD fn1) (h2 : obsW as2 fn2 K = valD fn2) : obsW (as1 ++ as2) (fn1 ++ fn2) K = valD (fn1 ++ fn2) := by
  have a1 : ((as1.all fun f => f K) && fn1.all fun d => d.ok K) = true := congrArg (fun z : AlD => z.1) h1
  have a2 : ((as2.all fun f => f K) && fn2.all fun d => d.ok K) = true := congrArg (fun z : AlD => z.1) h2
  have b1 : fn1.map (fun d => fnW K d.at_) = fn1.map DefD.val := congrArg (fun z : AlD => z.2) h1
  have b2 : fn2.map (fun d => fnW K d.at_) = fn2.map DefD.val := congrArg (fun z : AlD => z.2) h2
  obtain ⟨p1, p2⟩ := ba a1
  obtain ⟨q1, q2⟩ := ba a2
  unfold obsW valD
  rw [List.all_append, List.all_append, List.map_append, List.map_append, p1, p2, q1, q2, b1, b2]
  rfl
/-- two runs with a part of the questions each are one with both -/
theorem run_app {r : PySem.W.OpenRow} {q : Program} {n M : Nat} {as1 as2 : List Ask} {fn1 fn2 : List DefD} {loose : List Str} {w : World}
    (h1 : HandSHeadRun.RunEq r q (hookW n as1 fn1) (fun s => obsWG n as1 fn1 (HandSHeadRun.getT s)) M loose w) (h2 : HandSHeadRun.RunEq r q (hookW n as2 fn2) (fun s => obsWG n as2 fn2 (HandSHeadRun.getT s)) M loose w) :
    HandSHeadRun.RunEq r q (hookW n (as1 ++ as2) (fn1 ++ fn2)) (fun s => obsWG n (as1 ++ as2) (fn1 ++ fn2) (HandSHeadRun.getT s)) M loose w := by
  intro os
  have e1 := h1 os
  have e2 := h2 os
  revert e1 e2
  generalize HandSHeadRun.endF _ _ _ _ _ = z
  intro e1 e2
  cases z with
  | none => cases e1
  | some s =>
    have e1 := Option.some.inj e1
    have e2 := Option.some.inj e2
    have l : _ = true := congrArg (fun z => z.1) e1
    have m := congrArg (fun z => z.2.1) e1
    have o1 : obsWG n as1 fn1 (HandSHeadRun.getT s) = valD fn1 := congrArg (fun z => z.2.2) e1
    have o2 : obsWG n as2 fn2 (HandSHeadRun.getT s) = valD fn2 := congrArg (fun z => z.2.2) e2
    have o : obsWG n (as1 ++ as2) (fn1 ++ fn2) (HandSHeadRun.getT s) = valD (fn1 ++ fn2) := obsW_app o1 o2
    exact congrArg some (Prod.ext l (Prod.ext m o))
/-! ### the run asked in parts, each a run of its own (less is held at a time) -/
def LkEq (r : PySem.W.OpenRow) (M : Nat) (w : World) : Prop := ∀ os : OsState, (HandSHeadRun.endF (HandSHeadRun.stepQ (HandSHeadRun.denQ HandSHeadRun.tabQ) r.prog w) M r.prog w os).map (fun s => HandSHeadRun.looksF r.prog (PySem.W.boot_heap w.params) s.abs) = some true
def SnEq (r : PySem.W.OpenRow) (q : Program) (M : Nat) (loose : List Str) (w : World) : Prop := ∀ os : OsState, (HandSHeadRun.endF (HandSHeadRun.stepQ (HandSHeadRun.denQ HandSHeadRun.tabQ) r.prog w) M r.prog w os).map (fun s => HandSHeadRun.seenQ q loose (importedModules r.prog.main.body) (fun s => PySem.W.xlAt q [] s && PySem.W.recOk r.toRowW.records s) s.abs) = some (PySem.W.openGood q loose)
def ObEq (r : PySem.W.OpenRow) (n M : Nat) (as : List Ask) (fn : List DefD) (w : World) : Prop := ∀ os : OsState, (HandSHeadRun.endF (HandSHeadRun.stepQ (HandSHeadRun.denQ HandSHeadRun.tabQ) r.prog w) M r.prog w os).map (fun s => obsWG n as fn (HandSHeadRun.getT s)) = some (valD fn)
theorem ob_app {r : PySem.W.OpenRow} {n M : Nat} {as1 as2 : List Ask} {fn1 fn2 : List DefD} {w : World} (h1 : ObEq r n M as1 fn1 w) (h2 : ObEq r n M as2 fn2 w) : ObEq r n M (as1 ++ as2) (fn1 ++ fn2) w := by
  intro os
  have e1 := h1 os
  have e2 := h2 os
  revert e1 e2
  generalize HandSHeadRun.endF _ _ _ _ _ = z
  intro e1 e2
  cases z with
  | none => cases e1
  | some s => exact congrArg some (obsW_app (Option.some.inj e1) (Option.some.inj e2))
theorem run_of3 {r : PySem.W.OpenRow} {q : Program} {n M : Nat} {as : List Ask} {fn : List DefD} {loose : List Str} {w : World} (a : LkEq r M w) (b : SnEq r q M loose w) (c : ObEq r n M as fn w) :
    HandSHeadRun.RunEq r q (hookW n as fn) (fun s => obsWG n as fn (HandSHeadRun.getT s)) M loose w := by
  intro os
  have e1 := a os
  have e2 := b os
  have e3 := c os
  revert e1 e2 e3
  generalize HandSHeadRun.endF _ _ _ _ _ = z
  intro e1 e2 e3
  cases z with
  | none => cases e1
  | some s => exact congrArg some (Prod.ext (Option.some.inj e1) (Prod.ext (Option.some.inj e2) (Option.some.inj e3)))
/-- a def without defaults -/
theorem fun_of {K : PySem.W.Frag} {x q : Str} {st : Stmt} {f : Addr} {fd : FuncData} (F : FunD K x q (defArgs st) (defBody st) (defScope st) [] [] f fd) : L2.Fun K x q st f fd := by
  obtain ⟨⟨oc, od, dV, kV, doc, pm, an, cdv, ct, osl, rfl, lk, hcd, hd, _⟩, kp⟩ := F
  rcases hd with ⟨_, rfl⟩ | ⟨e, _⟩
  · exact ⟨⟨oc, od, kV, doc, pm, an, cdv, ct, osl, rfl, lk, hcd⟩, kp⟩
  · exact absurd rfl e
/-- an own error with an __init__ of its own, over ValueError -/
def oexB (K : PySem.W.Frag) (C : Addr) : Bool := match K.lookup C with
  | some ⟨.type "type", _, .cls cd, sl⟩ => (match cd.mro, sl.toList with
    | .ref C' :: bm, [_, _, _, _, some (.builtin n), _] => C' == C && n == "ValueError.__new__" && !cd.hasDel && cd.hasDict && PySem.HandSPX.refsVE bm
    | _, _ => false)
  | _ => false
theorem oexB_ok {K : PySem.W.Frag} {C : Addr} (q : oexB K C = true) : ∃ nm q N bs bm sn sub ab col dd k0 k1 k2 k3 k5, K.lookup C = some (excClassObj nm q C N bs bm true sn sub ab col dd k0 k1 k2 k3 k5 "ValueError.__new__") ∧ PySem.HandSPX.refsVE bm = true := by
  unfold oexB at q
  split at q
  · rename_i dd cd sl ho
    split at q
    · rename_i C' bm k0 k1 k2 k3 n k5 hm hs
      simp only [Bool.and_eq_true, beq_iff_eq, Bool.not_eq_true'] at q
      obtain ⟨⟨⟨⟨rfl, rfl⟩, hdel⟩, hd⟩, hr⟩ := q
      obtain ⟨nm, bs, mro, N, qn, hasd, sn, sub, ab, col, hdl⟩ := cd
      simp only at hm hdel hd
      subst hm
      subst hdel
      subst hd
      have e : sl = #[k0, k1, k2, k3, some (.builtin "ValueError.__new__"), k5] := by
        have := congrArg List.toArray hs
        simpa using this
      subst e
      exact ⟨nm, qn, N, bs, bm, sn, sub, ab, col, dd, k0, k1, k2, k3, k5, ho, hr⟩
    · cases q
  · cases q
end Wd

set_option Elab.async false
set_option linter.all false
set_option maxRecDepth 100000
set_option maxHeartbeats 0
namespace WdQ
open PySem PySem.Spec PyProof.Rows L2 Wd
def topR (i : Nat) : Stmt := PySem.Challenge.pw_willdealt_k13_what_conditions_are.main.body.getD i (.Pass ⟨0, 0, 0, 0⟩)
def loose0 : List Str := ["__name__", "WordError", "LostError", "RoomError", "NoName", "NoSum", "NoShares", "NoPeople", "NoGoods", "NoText", "NoStory", "NoDay", "NoCond", "NoWhom", "NoClause", "NoReading", "NoWord", "LabelStands", "DayStands", "NoRow", "NoPerson", "NoThing", "NoLabel", "NoUndo", "TooMany", "MOST_SUM", "is_whole", "is_sum", "LAST_DAY", "is_day"]
def loose1 : List Str := ["LETTERS", "LONGEST", "WORDS", "is_word", "is_name", "MOST_PEOPLE", "MOST_GOODS", "is_person", "is_good", "check_people", "check_goods", "row_named", "person_line", "House", "check_persons", "MOST_DEEP", "FEWEST_TERMS", "MOST_TERMS", "MOST_NAMES", "COND_WORDS", "is_lives", "is_formed", "leaves", "cond_names", "is_cond", "is_cond_or_none", "has_come", "comes", "MOST_DEATHS", "is_death"]
def loose2 : List Str := ["check_deaths", "story_text", "Story", "_law_pool", "_law_take", "_law_words", "_law_people", "_law_deaths", "_law_cond", "_law_said_of", "_law_sort", "_law_twins", "_law_is_name", "_law_is_day", "_law_count", "_law_odd", "_law_bent", "_law_bounds", "_law_refused", "_law_right"]
def looseN : List Str := loose0 ++ loose1 ++ loose2
def asks0 : List Ask := [
  fun K => decide (PySem.W.nsIn K mainGlobals "is_name" = some (some (.ref (He.ga K "is_name")))),
  fun K => decide (PySem.W.nsIn K mainGlobals "is_word" = some (some (.ref (He.ga K "is_word")))),
  fun K => decide (PySem.W.nsIn K mainGlobals "is_whole" = some (some (.ref (He.ga K "is_whole")))),
  fun K => decide (PySem.W.nsIn K mainGlobals "is_sum" = some (some (.ref (He.ga K "is_sum")))),
  fun K => decide (PySem.W.nsIn K mainGlobals "is_day" = some (some (.ref (He.ga K "is_day")))),
  fun K => decide (PySem.W.nsIn K mainGlobals "is_person" = some (some (.ref (He.ga K "is_person")))),
  fun K => decide (PySem.W.nsIn K mainGlobals "check_people" = some (some (.ref (He.ga K "check_people")))),
  fun K => decide (PySem.W.nsIn K mainGlobals "check_goods" = some (some (.ref (He.ga K "check_goods")))),
  fun K => decide (PySem.W.nsIn K mainGlobals "is_death" = some (some (.ref (He.ga K "is_death")))),
  fun K => decide (PySem.W.nsIn K mainGlobals "check_deaths" = some (some (.ref (He.ga K "check_deaths")))),
  fun K => decide (PySem.W.nsIn K mainGlobals "is_lives" = some (some (.ref (He.ga K "is_lives")))),
  fun K => decide (PySem.W.nsIn K mainGlobals "is_formed" = some (some (.ref (He.ga K "is_formed")))),
  fun K => decide (PySem.W.nsIn K mainGlobals "leaves" = some (some (.ref (He.ga K "leaves")))),
  fun K => decide (PySem.W.nsIn K mainGlobals "is_cond" = some (some (.ref (He.ga K "is_cond")))),
  fun K => decide (PySem.W.nsIn K mainGlobals "is_cond_or_none" = some (some (.ref (He.ga K "is_cond_or_none")))),
  fun K => decide (PySem.W.nsIn K mainGlobals "_law_pool" = some (some (.ref (He.ga K "_law_pool")))),
  fun K => decide (PySem.W.nsIn K mainGlobals "_law_take" = some (some (.ref (He.ga K "_law_take")))),
  fun K => decide (PySem.W.nsIn K mainGlobals "_law_words" = some (some (.ref (He.ga K "_law_words")))),
  fun K => decide (PySem.W.nsIn K mainGlobals "_law_people" = some (some (.ref (He.ga K "_law_people")))),
  fun K => decide (PySem.W.nsIn K mainGlobals "_law_deaths" = some (some (.ref (He.ga K "_law_deaths")))),
  fun K => decide (PySem.W.nsIn K mainGlobals "_law_cond" = some (some (.ref (He.ga K "_law_cond")))),
  fun K => decide (PySem.W.nsIn K mainGlobals "_law_sort" = some (some (.ref (He.ga K "_law_sort")))),
  fun K => decide (PySem.W.nsIn K mainGlobals "_law_is_name" = some (some (.ref (He.ga K "_law_is_name")))),
  fun K => decide (PySem.W.nsIn K mainGlobals "_law_is_day" = some (some (.ref (He.ga K "_law_is_day")))),
  fun K => decide (PySem.W.nsIn K mainGlobals "_law_count" = some (some (.ref (He.ga K "_law_count")))),
  fun K => decide (PySem.W.nsIn K mainGlobals "_law_odd" = some (some (.ref (He.ga K "_law_odd")))),
  fun K => decide (PySem.W.nsIn K mainGlobals "_law_bent" = some (some (.ref (He.ga K "_law_bent")))),
  fun K => decide (PySem.W.nsIn K mainGlobals "_law_bounds" = some (some (.ref (He.ga K "_law_bounds")))),
  fun K => decide (PySem.W.nsIn K mainGlobals "_law_refused" = some (some (.ref (He.ga K "_law_refused")))),
  fun K => decide (PySem.W.nsIn K mainGlobals "_law_right" = some (some (.ref (He.ga K "_law_right")))),
  fun K => decide (PySem.W.nsIn K mainGlobals "law" = some (some (.ref (He.ga K "law")))),
  fun K => decide (PySem.W.nsIn K mainGlobals "isinstance" = some none),
  fun K => decide (PySem.W.nsIn K mainGlobals "int" = some none),
  fun K => decide (PySem.W.nsIn K mainGlobals "bool" = some none),
  fun K => decide (PySem.W.nsIn K mainGlobals "str" = some none),
  fun K => decide (PySem.W.nsIn K mainGlobals "tuple" = some none),
  fun K => decide (PySem.W.nsIn K mainGlobals "list" = some none),
  fun K => decide (PySem.W.nsIn K mainGlobals "len" = some none),
  fun K => decide (PySem.W.nsIn K mainGlobals "abs" = some none),
  fun K => decide (PySem.W.nsIn K mainGlobals "all" = some none),
  fun K => decide (PySem.W.nsIn K mainGlobals "any" = some none),
  fun K => decide (PySem.W.nsIn K mainGlobals "sum" = some none),
  fun K => decide (PySem.W.nsIn K mainGlobals "enumerate" = some none),
  fun K => decide (PySem.W.nsIn K mainGlobals "divmod" = some none),
  fun K => decide (PySem.W.nsIn K mainGlobals "range" = some none),
  fun K => decide (PySem.W.nsIn K mainGlobals "max" = some none),
  fun K => decide (PySem.W.nsIn K mainGlobals "min" = some none),
  fun K => decide (PySem.W.nsIn K mainGlobals "zip" = some none),
  fun K => decide (PySem.W.nsIn K mainGlobals "repr" = some none),
  fun K => decide (PySem.W.nsIn K mainGlobals "ValueError" = some none),
  fun K => decide (PySem.W.nsIn K mainGlobals "LookupError" = some none),
  fun K => decide (PySem.W.nsIn K mainGlobals "ArithmeticError" = some none),
  fun K => decide (PySem.W.nsIn K mainGlobals "sorted" = some none),
  fun K => decide (PySem.W.specialIn K (.builtin "object.__class__") "__get__" = some (some (.builtin "getset_descriptor.__get__"))),
  fun K => decide (PySem.W.takesIn K (.builtin "object.__class__") = some true),
  fun K => decide (PySem.W.nsIn K mainGlobals "NoName" = some (some (.ref (He.ga K "NoName")))),
  fun K => decide (PySem.W.nsIn K mainGlobals "NoSum" = some (some (.ref (He.ga K "NoSum")))),
  fun K => decide (PySem.W.nsIn K mainGlobals "NoShares" = some (some (.ref (He.ga K "NoShares")))),
  fun K => decide (PySem.W.nsIn K mainGlobals "NoPeople" = some (some (.ref (He.ga K "NoPeople")))),
  fun K => decide (PySem.W.nsIn K mainGlobals "NoGoods" = some (some (.ref (He.ga K "NoGoods")))),
  fun K => decide (PySem.W.nsIn K mainGlobals "NoText" = some (some (.ref (He.ga K "NoText")))),
  fun K => decide (PySem.W.nsIn K mainGlobals "NoStory" = some (some (.ref (He.ga K "NoStory"))))]
def asks1 : List Ask := [
  fun K => decide (PySem.W.nsIn K mainGlobals "NoDay" = some (some (.ref (He.ga K "NoDay")))),
  fun K => decide (PySem.W.nsIn K mainGlobals "NoCond" = some (some (.ref (He.ga K "NoCond")))),
  fun K => decide (PySem.W.nsIn K mainGlobals "NoWhom" = some (some (.ref (He.ga K "NoWhom")))),
  fun K => decide (PySem.W.nsIn K mainGlobals "NoClause" = some (some (.ref (He.ga K "NoClause")))),
  fun K => decide (PySem.W.nsIn K mainGlobals "NoReading" = some (some (.ref (He.ga K "NoReading")))),
  fun K => decide (PySem.W.nsIn K mainGlobals "NoWord" = some (some (.ref (He.ga K "NoWord")))),
  fun K => decide (PySem.W.nsIn K mainGlobals "LabelStands" = some (some (.ref (He.ga K "LabelStands")))),
  fun K => decide (PySem.W.nsIn K mainGlobals "DayStands" = some (some (.ref (He.ga K "DayStands")))),
  fun K => decide (PySem.W.nsIn K mainGlobals "NoRow" = some (some (.ref (He.ga K "NoRow")))),
  fun K => decide (PySem.W.nsIn K mainGlobals "NoPerson" = some (some (.ref (He.ga K "NoPerson")))),
  fun K => decide (PySem.W.nsIn K mainGlobals "NoThing" = some (some (.ref (He.ga K "NoThing")))),
  fun K => decide (PySem.W.nsIn K mainGlobals "NoLabel" = some (some (.ref (He.ga K "NoLabel")))),
  fun K => decide (PySem.W.nsIn K mainGlobals "NoUndo" = some (some (.ref (He.ga K "NoUndo")))),
  fun K => decide (PySem.W.nsIn K mainGlobals "TooMany" = some (some (.ref (He.ga K "TooMany")))),
  fun K => decide (PySem.W.nsIn K mainGlobals "WordError" = some (some (.ref (He.ga K "WordError")))),
  fun K => decide (PySem.W.nsIn K mainGlobals "LostError" = some (some (.ref (He.ga K "LostError")))),
  fun K => decide (PySem.W.nsIn K mainGlobals "RoomError" = some (some (.ref (He.ga K "RoomError")))),
  fun K => decide (PySem.W.findIn K (.ref (He.ga K "NoDay")) "__getattribute__" = some (some (.builtin "BaseException.__getattribute__"))),
  fun K => decide (PySem.W.findIn K (.ref (He.ga K "NoDay")) "__getattr__" = some none),
  fun K => decide (PySem.W.hasDictIn K (He.ga K "NoDay") = true),
  fun K => decide (PySem.W.findIn K (.ref (He.ga K "NoDay")) "__class__" = some (some (.builtin "object.__class__"))),
  fun K => decide (PySem.W.mroIn K (He.ga K "NoDay") (.type "object") = some true),
  fun K => decide (PySem.W.subIn K (.ref (He.ga K "NoDay")) (.type "BaseException") = some true),
  fun K => decide (PySem.W.typeIn K (.ref (He.ga K "NoDay")) = some (.type "type")),
  fun K => decide (PySem.W.keepIn K (.ref (He.ga K "NoDay")) = true),
  fun K => decide (PySem.W.findIn K (.ref (He.ga K "NoDay")) "__init__" = some (some (.ref (He.ma K (He.ga K "NoDay") "__init__")))),
  fun K => decide (PySem.W.typeIn K (.ref (He.ma K (He.ga K "NoDay") "__init__")) = some (.type "function")),
  fun K => decide (PySem.W.findIn K (.ref (He.ga K "NoDay")) "__setattr__" = some (some (.builtin "object.__setattr__"))),
  fun K => decide (PySem.W.findIn K (.ref (He.ga K "NoDay")) "thing" = some none),
  fun K => decide (PySem.W.exmOne K (.ref (He.ga K "NoDay")) (.ref (He.ga K "WordError")) = some true),
  fun K => oexB K (He.ga K "NoDay"),
  fun K => decide (PySem.W.kitOne K (.ref (He.ga K "NoDay")) (.ref (He.ga K "NoName")) = some false),
  fun K => decide (PySem.W.kitOne K (.ref (He.ga K "NoDay")) (.ref (He.ga K "NoSum")) = some false),
  fun K => decide (PySem.W.kitOne K (.ref (He.ga K "NoDay")) (.ref (He.ga K "NoShares")) = some false),
  fun K => decide (PySem.W.kitOne K (.ref (He.ga K "NoDay")) (.ref (He.ga K "NoPeople")) = some false),
  fun K => decide (PySem.W.kitOne K (.ref (He.ga K "NoDay")) (.ref (He.ga K "NoGoods")) = some false),
  fun K => decide (PySem.W.kitOne K (.ref (He.ga K "NoDay")) (.ref (He.ga K "NoText")) = some false),
  fun K => decide (PySem.W.kitOne K (.ref (He.ga K "NoDay")) (.ref (He.ga K "NoStory")) = some false),
  fun K => decide (PySem.W.kitOne K (.ref (He.ga K "NoDay")) (.ref (He.ga K "NoDay")) = some true),
  fun K => decide (PySem.W.kitOne K (.ref (He.ga K "NoDay")) (.ref (He.ga K "NoCond")) = some false),
  fun K => decide (PySem.W.kitOne K (.ref (He.ga K "NoDay")) (.ref (He.ga K "NoWhom")) = some false),
  fun K => decide (PySem.W.kitOne K (.ref (He.ga K "NoDay")) (.ref (He.ga K "NoClause")) = some false),
  fun K => decide (PySem.W.kitOne K (.ref (He.ga K "NoDay")) (.ref (He.ga K "NoReading")) = some false),
  fun K => decide (PySem.W.kitOne K (.ref (He.ga K "NoDay")) (.ref (He.ga K "NoWord")) = some false),
  fun K => decide (PySem.W.kitOne K (.ref (He.ga K "NoDay")) (.ref (He.ga K "LabelStands")) = some false),
  fun K => decide (PySem.W.kitOne K (.ref (He.ga K "NoDay")) (.ref (He.ga K "DayStands")) = some false),
  fun K => decide (PySem.W.kitOne K (.ref (He.ga K "NoDay")) (.ref (He.ga K "NoRow")) = some false),
  fun K => decide (PySem.W.kitOne K (.ref (He.ga K "NoDay")) (.ref (He.ga K "NoPerson")) = some false),
  fun K => decide (PySem.W.kitOne K (.ref (He.ga K "NoDay")) (.ref (He.ga K "NoThing")) = some false),
  fun K => decide (PySem.W.kitOne K (.ref (He.ga K "NoDay")) (.ref (He.ga K "NoLabel")) = some false),
  fun K => decide (PySem.W.kitOne K (.ref (He.ga K "NoDay")) (.ref (He.ga K "NoUndo")) = some false),
  fun K => decide (PySem.W.kitOne K (.ref (He.ga K "NoDay")) (.ref (He.ga K "TooMany")) = some false),
  fun K => decide (PySem.W.kitOne K (.ref (He.ga K "NoDay")) (.ref (He.ga K "WordError")) = some true),
  fun K => decide (PySem.W.kitOne K (.ref (He.ga K "NoDay")) (.ref (He.ga K "LostError")) = some false),
  fun K => decide (PySem.W.kitOne K (.ref (He.ga K "NoDay")) (.ref (He.ga K "RoomError")) = some false),
  fun K => decide (PySem.W.kitOne K (.ref (He.ga K "NoDay")) (.type "ValueError") = some true),
  fun K => decide (PySem.W.kitOne K (.ref (He.ga K "NoDay")) (.type "LookupError") = some false),
  fun K => decide (PySem.W.kitOne K (.ref (He.ga K "NoDay")) (.type "ArithmeticError") = some false),
  fun K => decide (PySem.W.findIn K (.ref (He.ga K "NoCond")) "__getattribute__" = some (some (.builtin "BaseException.__getattribute__"))),
  fun K => decide (PySem.W.findIn K (.ref (He.ga K "NoCond")) "__getattr__" = some none),
  fun K => decide (PySem.W.hasDictIn K (He.ga K "NoCond") = true),
  fun K => decide (PySem.W.findIn K (.ref (He.ga K "NoCond")) "__class__" = some (some (.builtin "object.__class__")))]
def asks2 : List Ask := [
  fun K => decide (PySem.W.mroIn K (He.ga K "NoCond") (.type "object") = some true),
  fun K => decide (PySem.W.subIn K (.ref (He.ga K "NoCond")) (.type "BaseException") = some true),
  fun K => decide (PySem.W.typeIn K (.ref (He.ga K "NoCond")) = some (.type "type")),
  fun K => decide (PySem.W.keepIn K (.ref (He.ga K "NoCond")) = true),
  fun K => decide (PySem.W.excIn K (He.ga K "NoCond") [.type "ValueError", .type "Exception", .type "BaseException", .type "object"] "ValueError.__new__" = true),
  fun K => decide (PySem.W.exmOne K (.ref (He.ga K "NoCond")) (.ref (He.ga K "WordError")) = some true),
  fun K => decide (PySem.W.kitOne K (.ref (He.ga K "NoCond")) (.ref (He.ga K "NoCond")) = some true),
  fun K => decide (PySem.W.kitOne K (.ref (He.ga K "NoCond")) (.ref (He.ga K "NoName")) = some false),
  fun K => decide (PySem.W.kitOne K (.ref (He.ga K "NoCond")) (.ref (He.ga K "NoSum")) = some false),
  fun K => decide (PySem.W.kitOne K (.ref (He.ga K "NoCond")) (.ref (He.ga K "NoShares")) = some false),
  fun K => decide (PySem.W.kitOne K (.ref (He.ga K "NoCond")) (.ref (He.ga K "NoPeople")) = some false),
  fun K => decide (PySem.W.kitOne K (.ref (He.ga K "NoCond")) (.ref (He.ga K "NoGoods")) = some false),
  fun K => decide (PySem.W.kitOne K (.ref (He.ga K "NoCond")) (.ref (He.ga K "NoText")) = some false),
  fun K => decide (PySem.W.kitOne K (.ref (He.ga K "NoCond")) (.ref (He.ga K "NoStory")) = some false),
  fun K => decide (PySem.W.kitOne K (.ref (He.ga K "NoCond")) (.ref (He.ga K "NoDay")) = some false),
  fun K => decide (PySem.W.kitOne K (.ref (He.ga K "NoCond")) (.ref (He.ga K "NoCond")) = some true),
  fun K => decide (PySem.W.kitOne K (.ref (He.ga K "NoCond")) (.ref (He.ga K "NoWhom")) = some false),
  fun K => decide (PySem.W.kitOne K (.ref (He.ga K "NoCond")) (.ref (He.ga K "NoClause")) = some false),
  fun K => decide (PySem.W.kitOne K (.ref (He.ga K "NoCond")) (.ref (He.ga K "NoReading")) = some false),
  fun K => decide (PySem.W.kitOne K (.ref (He.ga K "NoCond")) (.ref (He.ga K "NoWord")) = some false),
  fun K => decide (PySem.W.kitOne K (.ref (He.ga K "NoCond")) (.ref (He.ga K "LabelStands")) = some false),
  fun K => decide (PySem.W.kitOne K (.ref (He.ga K "NoCond")) (.ref (He.ga K "DayStands")) = some false),
  fun K => decide (PySem.W.kitOne K (.ref (He.ga K "NoCond")) (.ref (He.ga K "NoRow")) = some false),
  fun K => decide (PySem.W.kitOne K (.ref (He.ga K "NoCond")) (.ref (He.ga K "NoPerson")) = some false),
  fun K => decide (PySem.W.kitOne K (.ref (He.ga K "NoCond")) (.ref (He.ga K "NoThing")) = some false),
  fun K => decide (PySem.W.kitOne K (.ref (He.ga K "NoCond")) (.ref (He.ga K "NoLabel")) = some false),
  fun K => decide (PySem.W.kitOne K (.ref (He.ga K "NoCond")) (.ref (He.ga K "NoUndo")) = some false),
  fun K => decide (PySem.W.kitOne K (.ref (He.ga K "NoCond")) (.ref (He.ga K "TooMany")) = some false),
  fun K => decide (PySem.W.kitOne K (.ref (He.ga K "NoCond")) (.ref (He.ga K "WordError")) = some true),
  fun K => decide (PySem.W.kitOne K (.ref (He.ga K "NoCond")) (.ref (He.ga K "LostError")) = some false),
  fun K => decide (PySem.W.kitOne K (.ref (He.ga K "NoCond")) (.ref (He.ga K "RoomError")) = some false),
  fun K => decide (PySem.W.kitOne K (.ref (He.ga K "NoCond")) (.type "ValueError") = some true),
  fun K => decide (PySem.W.kitOne K (.ref (He.ga K "NoCond")) (.type "LookupError") = some false),
  fun K => decide (PySem.W.kitOne K (.ref (He.ga K "NoCond")) (.type "ArithmeticError") = some false),
  fun K => decide (PySem.W.nsIn K mainGlobals "WORDS" = some (some (.ref (He.ga K "WORDS")))),
  fun K => (He.Fa.str "LETTERS" "abcdefghijklmnopqrstuvwxyz").ok K,
  fun K => (He.Fa.int "LONGEST" 8).ok K,
  fun K => He.tupB K "WORDS" [.str "all", .str "and", .str "children", .str "childless", .str "crown", .str "else", .str "if", .str "lives", .str "not", .str "of", .str "or", .str "stock", .str "to"],
  fun K => decide (PySem.W.nsIn K mainGlobals "COND_WORDS" = some (some (.ref (He.ga K "COND_WORDS")))),
  fun K => He.tupB K "COND_WORDS" [.str "lives", .str "childless", .str "not", .str "and", .str "or"],
  fun K => (He.Fa.int "MOST_DEEP" 6).ok K,
  fun K => (He.Fa.int "FEWEST_TERMS" 2).ok K,
  fun K => (He.Fa.int "MOST_TERMS" 6).ok K,
  fun K => (He.Fa.int "MOST_NAMES" 12).ok K,
  fun K => (He.Fa.int "LAST_DAY" 9999).ok K,
  fun K => (He.Fa.int "MOST_SUM" 1000000000).ok K,
  fun K => (He.Fa.int "MOST_PEOPLE" 8).ok K,
  fun K => (He.Fa.int "MOST_GOODS" 8).ok K,
  fun K => (He.Fa.int "MOST_DEATHS" 8).ok K,
  fun K => decide (PySem.W.nsIn K mainGlobals "House" = some (some (.ref (He.ga K "House")))),
  fun K => (He.Fa.mkr "House").ok K,
  fun K => decide (PySem.W.nsIn K mainGlobals "Story" = some (some (.ref (He.ga K "Story")))),
  fun K => (He.Fa.mkr "Story").ok K,
  fun K => (He.Fa.cls "House").ok K,
  fun K => (He.Fa.noat "House" "folk").ok K,
  fun K => (He.Fa.noat "House" "things").ok K,
  fun K => (He.Fa.noat "House" "purse").ok K,
  fun K => (He.Fa.noat "House" "debts").ok K,
  fun K => (He.Fa.cls "Story").ok K,
  fun K => (He.Fa.noat "Story" "deaths").ok K,
  fun K => decide (PySem.W.nsIn K mainGlobals "comes" = some (some (.ref (He.ga K "comes"))))]
def asksN : List Ask := asks0 ++ asks1 ++ asks2
def defs0 : List He.DefD := [
  ⟨("is_name", none), "is_name", "is_name", defArgs (topR 37), defBody (topR 37), defScope (topR 37), [], []⟩,
  ⟨("is_word", none), "is_word", "is_word", defArgs (topR 36), defBody (topR 36), defScope (topR 36), [], []⟩,
  ⟨("is_whole", none), "is_whole", "is_whole", defArgs (topR 27), defBody (topR 27), defScope (topR 27), [], []⟩,
  ⟨("is_sum", none), "is_sum", "is_sum", defArgs (topR 28), defBody (topR 28), defScope (topR 28), [], []⟩,
  ⟨("is_day", none), "is_day", "is_day", defArgs (topR 31), defBody (topR 31), defScope (topR 31), [], []⟩,
  ⟨("is_person", none), "is_person", "is_person", defArgs (topR 41), defBody (topR 41), defScope (topR 41), [], []⟩,
  ⟨("check_people", none), "check_people", "check_people", defArgs (topR 43), defBody (topR 43), defScope (topR 43), [], []⟩,
  ⟨("check_goods", none), "check_goods", "check_goods", defArgs (topR 44), defBody (topR 44), defScope (topR 44), [], []⟩,
  ⟨("is_death", none), "is_death", "is_death", defArgs (topR 65), defBody (topR 65), defScope (topR 65), [], []⟩,
  ⟨("check_deaths", none), "check_deaths", "check_deaths", defArgs (topR 66), defBody (topR 66), defScope (topR 66), [], []⟩,
  ⟨("is_lives", none), "is_lives", "is_lives", defArgs (topR 55), defBody (topR 55), defScope (topR 55), [], []⟩,
  ⟨("is_formed", none), "is_formed", "is_formed", defArgs (topR 56), defBody (topR 56), defScope (topR 56), [], []⟩]
def defs1 : List He.DefD := [
  ⟨("leaves", none), "leaves", "leaves", defArgs (topR 57), defBody (topR 57), defScope (topR 57), [], []⟩,
  ⟨("is_cond", none), "is_cond", "is_cond", defArgs (topR 59), defBody (topR 59), defScope (topR 59), [], []⟩,
  ⟨("is_cond_or_none", none), "is_cond_or_none", "is_cond_or_none", defArgs (topR 60), defBody (topR 60), defScope (topR 60), [], []⟩,
  ⟨("_law_pool", none), "_law_pool", "_law_pool", defArgs (topR 70), defBody (topR 70), defScope (topR 70), [], []⟩,
  ⟨("_law_take", none), "_law_take", "_law_take", defArgs (topR 71), defBody (topR 71), defScope (topR 71), [], []⟩,
  ⟨("_law_words", none), "_law_words", "_law_words", defArgs (topR 72), defBody (topR 72), defScope (topR 72), [], []⟩,
  ⟨("_law_people", none), "_law_people", "_law_people", defArgs (topR 73), defBody (topR 73), defScope (topR 73), [], []⟩,
  ⟨("_law_deaths", none), "_law_deaths", "_law_deaths", defArgs (topR 74), defBody (topR 74), defScope (topR 74), [], []⟩,
  ⟨("_law_cond", none), "_law_cond", "_law_cond", defArgs (topR 75), defBody (topR 75), defScope (topR 75), [], []⟩,
  ⟨("_law_sort", none), "_law_sort", "_law_sort", defArgs (topR 77), defBody (topR 77), defScope (topR 77), [], []⟩,
  ⟨("_law_is_name", none), "_law_is_name", "_law_is_name", defArgs (topR 79), defBody (topR 79), defScope (topR 79), [], []⟩,
  ⟨("_law_is_day", none), "_law_is_day", "_law_is_day", defArgs (topR 80), defBody (topR 80), defScope (topR 80), [], []⟩]
def defs2 : List He.DefD := [
  ⟨("_law_count", none), "_law_count", "_law_count", defArgs (topR 81), defBody (topR 81), defScope (topR 81), [], []⟩,
  ⟨("_law_odd", none), "_law_odd", "_law_odd", defArgs (topR 82), defBody (topR 82), defScope (topR 82), [], []⟩,
  ⟨("_law_bent", none), "_law_bent", "_law_bent", defArgs (topR 83), defBody (topR 83), defScope (topR 83), [], []⟩,
  ⟨("_law_bounds", none), "_law_bounds", "_law_bounds", defArgs (topR 84), defBody (topR 84), defScope (topR 84), [], []⟩,
  ⟨("_law_refused", none), "_law_refused", "_law_refused", defArgs (topR 85), defBody (topR 85), defScope (topR 85), [], []⟩,
  ⟨("_law_right", none), "_law_right", "_law_right", defArgs (topR 86), defBody (topR 86), defScope (topR 86), [], []⟩,
  ⟨("law", none), "law", "law", defArgs (topR 87), defBody (topR 87), defScope (topR 87), [], []⟩,
  ⟨("NoDay", some "__init__"), "__init__", "NoDay.__init__", defArgs (inClass (topR 11) 0), defBody (inClass (topR 11) 0), defScope (inClass (topR 11) 0), [], []⟩,
  ⟨("House", some "__init__"), "__init__", "House.__init__", defArgs (inClass (topR 47) 0), defBody (inClass (topR 47) 0), defScope (inClass (topR 47) 0), [.non, .int 0, .int 0], []⟩,
  ⟨("Story", some "__init__"), "__init__", "Story.__init__", defArgs (inClass (topR 68) 0), defBody (inClass (topR 68) 0), defScope (inClass (topR 68) 0), [.non], []⟩,
  ⟨("comes", none), "comes", "comes", defArgs (topR 62), defBody (topR 62), defScope (topR 62), [.int 0], []⟩]
def defsN : List He.DefD := defs0 ++ defs1 ++ defs2
abbrev hkN : PySem.W.Hook := hookW 4 asksN defsN
def obN (s : PySem.W.SharedT) : He.AlD := obsWG 4 asksN defsN (HandSHeadRun.getT s)
theorem obN_eq (s : PySem.W.SharedT) : obN s = hkN.obs s.abs := obsWG_eq (HandSHeadRun.getT_eq s)
theorem runA (w : World) : LkEq (PySem.W.OpenLaw.row PySem.Challenge.rw_willdealt_k13_what_conditions_are) 12000 w := by
  intro os
  kernel_rfl
theorem runB (w : World) : SnEq (PySem.W.OpenLaw.row PySem.Challenge.rw_willdealt_k13_what_conditions_are) (PySem.W.view (PySem.W.OpenLaw.row PySem.Challenge.rw_willdealt_k13_what_conditions_are).prog [87]) 12000 looseN w := by
  intro os
  kernel_rfl
theorem runP0 (w : World) : ObEq (PySem.W.OpenLaw.row PySem.Challenge.rw_willdealt_k13_what_conditions_are) 4 12000 asks0 defs0 w := by
  intro os
  kernel_rfl
theorem runP1 (w : World) : ObEq (PySem.W.OpenLaw.row PySem.Challenge.rw_willdealt_k13_what_conditions_are) 4 12000 asks1 defs1 w := by
  intro os
  kernel_rfl
theorem runP2 (w : World) : ObEq (PySem.W.OpenLaw.row PySem.Challenge.rw_willdealt_k13_what_conditions_are) 4 12000 asks2 defs2 w := by
  intro os
  kernel_rfl
theorem runN (w : World) : HandSHeadRun.RunEq (PySem.W.OpenLaw.row PySem.Challenge.rw_willdealt_k13_what_conditions_are) (PySem.W.view (PySem.W.OpenLaw.row PySem.Challenge.rw_willdealt_k13_what_conditions_are).prog [87]) hkN obN 12000 looseN w := run_of3 (runA w) (runB w) (ob_app (ob_app (runP0 w) (runP1 w)) (runP2 w))
end WdQ

set_option Elab.async false
set_option linter.all false
set_option maxRecDepth 100000
set_option maxHeartbeats 4000000
namespace Wd
open PySem PySem.Spec PyProof.Rows L2
/-! ### zip of a list or tuple with a list or tuple: one rule for the four mixes. A feed is what zip draws from. -/
inductive Feed where
  | li
  | tu
namespace Feed
def sq : Feed → PySem.W.Frag → Hp → Addr → List V → Prop
  | .li => SqL
  | .tu => SqT
def stands : Feed → Heap → Addr → Array Value → Prop
  | .li => Heap.IsList
  | .tu => Heap.IsTuple
def at_ : Feed → Heap → Addr → Addr → Nat → Prop
  | .li => Heap.IsListIter
  | .tu => Heap.IsTupleIter
def head : Feed → Addr → Obj
  | .li, a => { cls := .type "list_iterator", data := .fields #[.ref a, .int 0 0] }
  | .tu, a => { cls := .type "tuple_iterator", data := .fields #[.ref a, .int 0 0] }
variable (k : Feed)
theorem begins (a : Addr) (its : Array Value) : Begins (.ref a) (k.head a) fun h => k.stands h a its := by
  cases k
  · exact begins_list a its
  · exact begins_tuple a its
theorem draws {prog : Program} {w : World} {A : Around} (hA : A.handled = none) {it a : Addr} (ne : a ≠ it) (its : Array Value) : Draws prog w A it [it, a] its.size (fun i v => its[i]? = some v) (fun i h => k.at_ h it a i ∧ k.stands h a its) := by
  cases k
  · exact Draws.list hA it a ne its
  · exact Draws.tuple hA it a ne its
theorem first {h : Heap} {it a : Addr} (e : h.get? it = some (k.head a)) : k.at_ h it a 0 := by
  cases k <;> exact ⟨_, e, rfl, rfl⟩
theorem lives {h : Heap} {it a : Addr} {i : Nat} (e : k.at_ h it a i) : ∃ o, h.get? it = some o ∧ ∀ v, o.data ≠ .cell v := by
  cases k
  all_goals
    obtain ⟨o, e1, _, e2⟩ := e
    exact ⟨o, e1, fun v z => by rw [e2] at z; cases z⟩
theorem moved {h h' : Heap} {it a : Addr} {i : Nat} (e : k.at_ h it a i) (m : ∀ o, h.get? it = some o → h'.get? it = some o) : k.at_ h' it a i := by
  cases k
  · exact Heap.IsListIter.at e m
  · exact Heap.IsTupleIter.at e m
theorem known {X : Cx} {pins : List (Addr × Obj)} {σ : L2.St} {H : Hp} {s : Shared} {a : Addr} {xs : List V} (I : Inv X pins σ H s) (e : k.sq X.K H a xs) : ∃ its : List Value, Vals xs its ∧ k.stands s.heap a its.toArray ∧ a < s.heap.objs.size := by
  cases k
  · obtain ⟨its, v, p, _⟩ := I.list e
    exact ⟨its, v, p.isList, p.lt⟩
  · obtain ⟨its, v, p, _⟩ := I.tuple e
    obtain ⟨o, e1, _⟩ := id p
    exact ⟨its, v, p, Heap.lt_size e1⟩
theorem one {X : Cx} {pins : List (Addr × Obj)} {σ : L2.St} {H : Hp} {s : Shared} {a : Addr} {xs ys : List V} (I : Inv X pins σ H s) (e : k.sq X.K H a xs) (e' : k.sq X.K H a ys) : xs = ys := by
  cases k
  · exact I.list_inj e e'
  · exact I.tuple_inj e e'
end Feed
/-- the walk over zip of two feeds of one length -/
def ItZ (K : PySem.W.Frag) (k m : Feed) (a b : Addr) : It where
  go i H := ∃ xs ys x y, k.sq K H a xs ∧ m.sq K H b ys ∧ xs[i]? = some x ∧ ys[i]? = some y
  yld i H v H' := ∃ T x y, v = .ref T ∧ H T = none ∧ H' = upd H T (.tup [x, y]) ∧ (∀ xs, k.sq K H a xs → xs[i]? = some x) ∧ ∀ ys, m.sq K H b ys → ys[i]? = some y
  stop i H := ∃ xs ys, k.sq K H a xs ∧ m.sq K H b ys ∧ xs.length = i ∧ ys.length = i
theorem walkZ {K : PySem.W.Frag} {k m : Feed} {a b : Addr} {xs ys : List V} (hl : xs.length = ys.length) : Walk (ItZ K k m a b) xs.length (fun H => k.sq K H a xs ∧ m.sq K H b ys) (YPair (fun i => xs[i]?) fun i => ys[i]?) where
  goes := fun i H hi g => ⟨xs, ys, xs[i], ys[i]'(hl ▸ hi), g.1, g.2, List.getElem?_eq_getElem hi, List.getElem?_eq_getElem (hl ▸ hi)⟩
  stops := fun H g => ⟨xs, ys, g.1, g.2, rfl, hl.symm⟩
  yields := fun i H v H' _ g ⟨T, x, y, e1, e2, e3, e4, e5⟩ => ⟨T, x, y, e1, e2, e3, e4 xs g.1, e5 ys g.2⟩
/-- what holds of each of five cells holds of any of them -/
theorem of_five {z p q i j c : Addr} {R : Addr → Prop} (hc : c ∈ [z, p, q, i, j]) (hz : R z) (hp : R p) (hq : R q) (hi : R i) (hj : R j) : R c := by
  simp only [List.mem_cons, List.not_mem_nil, or_false] at hc
  rcases hc with e | e | e | e | e <;> (rw [e]; assumption)
theorem turnZ {P : Program} {w : World} {K : PySem.W.Frag} {elts : List Expr} {kk : Nat} {tpos : Pos} {k m : Feed} {a b z p q i1 i2 : Addr} (S : ZipSep2 z p q i1 i2 [i1, a] [i2, b]) (na : a ≠ i1) (nb : b ≠ i2) :
    Turn P w K (.Tuple elts kk tpos) (ItZ K k m a b) [z, p, q, i1, i2] z fun i h => IsZip h z p q .none ∧ IsTupOf2 h p (.ref i1) (.ref i2) ∧ (∃ x y, IsTupOf2 h q x y) ∧ k.at_ h i1 a i ∧ m.at_ h i2 b i where
  mem := List.mem_cons_self
  obj := by
    rintro i h ⟨gz, gp, ⟨x, y, gq⟩, g1, g2⟩ c hc
    exact of_five (R := fun c => ∃ o, h.get? c = some o ∧ ∀ v, o.data ≠ .cell v) hc ⟨_, gz, fun _ e => nomatch e⟩ ⟨_, gp, fun _ e => nomatch e⟩ ⟨_, gq, fun _ e => nomatch e⟩ (k.lives g1) (m.lives g2)
  keep := by
    rintro i h h' ⟨gz, gp, ⟨x, y, gq⟩, g1, g2⟩ same
    exact ⟨same _ (by simp) _ gz, same _ (by simp) _ gp, ⟨x, y, same _ (by simp) _ gq⟩, k.moved g1 (same _ (by simp)), m.moved g2 (same _ (by simp))⟩
  item := by
    rintro X rfl rfl rfl calm i pins s σ H E I free ⟨gz, gp, ⟨x0, y0, gq⟩, g1, g2⟩ ⟨xs, ys, x, y, hxs, hys, hx, hy⟩
    obtain ⟨us, rel1, st1, _⟩ := k.known I hxs
    obtain ⟨vs, rel2, st2, _⟩ := m.known I hys
    obtain ⟨u, hu, ru⟩ := rel1.get hx
    obtain ⟨v, hv, rv⟩ := rel2.get hy
    have hA : X.A.in1.handled = none := I.ok.hd calm
    have zlt := Heap.lt_size gz
    have n1 : i < us.toArray.size := by
      rw [List.size_toArray]
      exact (List.getElem?_eq_some_iff.mp hu).1
    have n2 : i < vs.toArray.size := by
      rw [List.size_toArray]
      exact (List.getElem?_eq_some_iff.mp hv).1
    refine wpAny_pyNext_zipD2_item S (k.draws hA na _) (m.draws hA nb _) gz gp gq ⟨g1, st1⟩ ⟨g2, st2⟩ n1 n2 ?_
    rintro u' v' h1 t1 eu ev gz1 gq1 ⟨d1, _⟩ ⟨d2, _⟩ gT _ same
    obtain rfl : u = u' := Option.some.inj (hu.symm.trans (by simpa using eu))
    obtain rfl : v = v' := Option.some.inj (hv.symm.trans (by simpa using ev))
    refine ⟨_, rfl, wpAny_letOwnedTupleGo_zip (s := { s with heap := h1, toks := t1 }) gz1 fun h2 gz2 sb => ?_⟩
    have all : ∀ c o, c ∉ [z, p, q, i1, i2] → s.heap.get? c = some o → h2.get? c = some o := fun c o hc e => by
      simp only [List.mem_cons, List.not_mem_nil, or_false, not_or] at hc
      rw [sb.2 c hc.1]
      exact same c o hc.1 hc.2.2.1 hc.2.2.2.1 hc.2.2.2.2 e
    have pair : h2.get? s.heap.objs.size = some { cls := .type "tuple", data := .seq #[u, v] } := (sb.2 _ (Nat.ne_of_gt zlt)).trans gT
    have made : ObjOk X.prog X.w (upd H s.heap.objs.size (.tup [x, y])) h2 s.heap.objs.size (.tup [x, y]) := ⟨by show 2 ≤ sizeLine; decide, [u, v], .cons ru (.cons rv .nil), _, pair, rfl, _, rfl⟩
    refine ⟨.ref s.heap.objs.size, _, I.turnedNew (t' := t1) all free (Nat.le_refl _) made, rfl, ?_, ?_, ?_⟩
    · exact ⟨_, x, y, rfl, I.hok.fresh (Nat.le_refl _), rfl, fun l e => k.one I e hxs ▸ hx, fun l e => m.one I e hys ▸ hy⟩
    · exact ⟨gz2, (sb.2 _ S.TIz).trans (same _ _ S.TIz S.TITO S.TIi1 S.TIi2 gp), ⟨u, v, (sb.2 _ S.TOz).trans gq1⟩, k.moved d1 fun o e => (sb.2 _ S.zi1.symm).trans e, m.moved d2 fun o e => (sb.2 _ S.zi2.symm).trans e⟩
    · intro c hc
      have old : c < s.heap.objs.size := by
        obtain ⟨o1, e1, _⟩ := k.lives g1
        obtain ⟨o2, e2, _⟩ := m.lives g2
        exact of_five (R := fun c => c < s.heap.objs.size) hc zlt (Heap.lt_size gp) (Heap.lt_size gq) (Heap.lt_size e1) (Heap.lt_size e2)
      rw [upd_ne (Nat.ne_of_lt old)]
      exact (free c hc).1
  done := by
    rintro X rfl rfl rfl calm i pins s σ H E I free ⟨gz, gp, ⟨x0, y0, gq⟩, g1, g2⟩ ⟨xs, ys, hxs, hys, n1, n2⟩
    obtain ⟨us, rel1, st1, _⟩ := k.known I hxs
    obtain ⟨vs, rel2, st2, _⟩ := m.known I hys
    have hA : X.A.in1.handled = none := I.ok.hd calm
    have z1 : us.toArray.size = i := by rw [List.size_toArray, ← rel1.length, n1]
    have z2 : vs.toArray.size = i := by rw [List.size_toArray, ← rel2.length, n2]
    refine wpAny_pyNext_zipD2_end S (k.draws hA na _) (m.draws hA nb _) gz gp gq ⟨g1, st1⟩ ⟨g2, st2⟩ (by omega) (by omega) (by omega) fun h1 t1 same => ⟨rfl, I.turnedL (t' := t1) (fun c o hc e => ?_) free⟩
    simp only [List.mem_cons, List.not_mem_nil, or_false, not_or] at hc
    exact same c o hc.1 hc.2.2.1 hc.2.2.2.1 hc.2.2.2.2 e
  self := fun _ _ _ _ _ g e => wpAny_pyIter_zip g.1 e
def iZ (K : PySem.W.Frag) (k m : Feed) (ta : TA) : TI := fun σ H R => ta σ H fun vs H1 => ∃ a b xs ys, vs = [.ref a, .ref b] ∧ k.sq K H1 a xs ∧ m.sq K H1 b ys ∧ R (ItZ K k m a b) H1
theorem pi_Z {X : Cx} {e e2 : Expr} {ta : TA} {pz pos tpos : Pos} {elts : List Expr} {kk : Nat} (k m : Feed) (hg : Gl X "zip") (hm : X.mg "zip" = none) (ha : PA X [e, e2] ta)
    (star : starEach [e, e2] X.env = (false, eval e X.env) :: starEach [e2] X.env := by rfl) (plain : (backTo pos (starEach [e2] X.env)).any (·.1) = false := by rfl) :
    PI X (.Tuple elts kk tpos) (.Call (.Name "zip" pz) [e, e2] [] pos) (iZ X.K k m ta) where
  run := by
    intro pins s σ H R I h
    refine Call_ (ld_blt I hg hm PyProof.Rows.boot_zip (PyProof.Rows.callWith_type1 (thn (ha.run pos pins s σ H _ I h) ?_) star plain))
    rintro us s1 ⟨vs, H1, I1, rel, a, b, xs, ys, rfl, hxs, hys, r⟩
    obtain ⟨ua, ub, rfl, ra, rb⟩ := vals2 rel
    cases ra
    cases rb
    obtain ⟨its1, _, st1, la⟩ := k.known I1 hxs
    obtain ⟨its2, _, st2, lb⟩ := m.known I1 hys
    have S : ZipSep2 (s1.heap.objs.size + 4) (s1.heap.objs.size + 2) (s1.heap.objs.size + 3) s1.heap.objs.size (s1.heap.objs.size + 1) [s1.heap.objs.size, a] [s1.heap.objs.size + 1, b] :=
      zip_sep2 (fun c hc => by rw [List.mem_singleton.mp hc]; exact la) (fun c hc => by rw [List.mem_singleton.mp hc]; exact lb)
    have far : ∀ c, s1.heap.objs.size ≤ c → FpOk X pins H1 c := fun c hc => I1.fpOk hc (I1.hok.fresh hc)
    refine zip_begins2 (k.begins a _) (m.begins b _) st1 st2 fun h1 gz gp gq f1 f2 _ same => wpAny_pyIter_zip gz ?_
    refine ⟨_, _, _, _, H1, rfl, I1.kept (t' := s1.toks) same, turnZ S (Nat.ne_of_lt la) (Nat.ne_of_lt (Nat.lt_succ_of_lt lb)), ⟨gz, gp, ⟨_, _, gq⟩, k.first f1, m.first f2⟩, fun c hc => ?_, r⟩
    exact of_five hc (far _ (Nat.le_add_right _ _)) (far _ (Nat.le_add_right _ _)) (far _ (Nat.le_add_right _ _)) (far _ (Nat.le_refl _)) (far _ (Nat.le_add_right _ _))
/-! ### sum of a tuple of ints -/
def rSumT (K : PySem.W.Frag) : List V → Hp → VK → Prop := fun vs H Q => ∃ (t : Addr) (ns : List Int), vs = [V.ref t] ∧ SqT K H t (ns.map V.int) ∧ Q (.int ns.sum) H
theorem cr_sumT {X : Cx} (calm : X.calm = true) : CallR X (.builtin "sum") (rSumT X.K) := by
  rintro pins s σ H vs us Q I rel ⟨t, ns, rfl, hs, want⟩
  obtain ⟨its, vals, tup, _⟩ := I.tuple hs
  rw [Vals.ref1 rel]
  have aI : IntsAre its ns := vals.ints
  obtain ⟨zs, ez⟩ := aI.allInts.items
  have sum_is : preSum (numAt zs) zs.size = ns.sum := by
    rw [preSum_eq, List.take_of_length_le (by simp), ← nums_intItems, ← ez]
    exact congrArg List.sum aI.numsOf
  have tup2 : s.heap.IsTuple t (intItems zs) := ez ▸ tup
  refine PySem.W.ktm_sumG (I.ok.hd calm) tup2 fun h1 k1 t1 same => ?_
  rw [sum_is]
  exact ⟨.int _, H, I.kept same, ⟨_, rfl⟩, want⟩
/-! ### xs[i] read by values, for xs[i] += e -/
def rGetL (K : PySem.W.Frag) : V → V → Hp → VK → Prop := fun x y H Q => ∃ p xs i v, x = .ref p ∧ y = .int i ∧ 0 ≤ i ∧ SqL K H p xs ∧ atI xs i = some v ∧ Q v H
theorem get_list {X : Cx} : PGet X (rGetL X.K) := by
  rintro pins s σ H _ _ ov iv Q I ro ri ⟨p, xs, i, v, rfl, rfl, i0, hxs, hat, want⟩
  cases ro
  obtain ⟨t, rfl⟩ := ri
  obtain ⟨its, vals, plain, small⟩ := I.list hxs
  obtain ⟨j, sj, gj, _, _, hi⟩ := atI_get hat
  obtain ⟨u, gu, ru⟩ := vals.get gj
  have ej : i.toNat = j := Option.some.inj ((seqIndex_of i0 hi).symm.trans sj)
  have line := line63
  exact wpAny_getItem_list plain.isList i0 (by omega) (by rw [ej]; simpa using gu) ⟨v, H, I, ru, want⟩
/-! ### f(k = v, ..), keywords alone -/
def tCallN0 (m : Nat) (sp : Sp) (gV : List V → List V → List V) (E : XK) (tk : TA) : TE := fun σ H Q => tk σ H fun zs H2 => zs.length = m ∧ sp (gV [] zs) H2 Q E
theorem pe_callN0 {X : Cx} {CX : CXT} {k : Nat} {f : Addr} {fd : FuncData} {ps ks : List Str} {sp : Sp} {E : XK} {x : Str} {p pos : Pos} {kws : List Keyword} {tk : TA} {g : List Value → List Value → List Value} {gV : List V → List V → List V}
    (F : FnOk X.prog X.w X.K X.mg X.base CX k f fd ps sp) (room : Room k X.A) (glob : Gl X x) (is : X.mg x = some (.ref f)) (kp : PySem.W.keepIn X.K (.ref f) = true) (bind : KBn X.K fd ps 0 ks g gV) (pass : Passes CX X E) (args : PK X kws tk)
    (named : (backToKw pos (keywordEach kws X.env)).all (·.1.isSome) = true := by rfl) (names : (backToKw pos (keywordEach kws X.env)).filterMap (·.1) = ks := by rfl)
    (nodebug : (x == ("__debug__" : Str)) = false := by decide) (plain : ((backTo pos (starEach [] X.env)).any (·.1) || (backToKw pos (keywordEach kws X.env)).any (·.1.isNone)) = false := by rfl) :
    PE X (.Call (.Name x p) [] kws pos) (tCallN0 ks.length sp gV E tk) where
  run := by
    intro pins s σ H Q I h
    refine wpAny_Call_Name_kw (ld_glob I glob is (PySem.W.callWith_KW0 (h₀ := X.base) I.ok.mod.kin kp named (thn (args.run pos pins s σ H _ I h) ?_) plain) nodebug)
    rintro ws s2 ⟨zs, H2, I2, rel, len, want⟩
    rw [names]
    exact ⟨I2.kIn, run_fnN F room bind pass I2 .nil rel rfl len want⟩
/-! ### t[::-1] of a tuple -/
section
variable {prog : Program} {w : World} {A : Around} {E : Value → Shared → Prop} {s : Shared}
theorem back_parts {sl : Addr} {v0 v1 v2 : Value} {n : Nat} {R : Int × Int × Nat → Shared → Prop} (cut : s.heap.IsSliceOf sl v0 v1 v2) (p0 : IsPart v0 none) (p1 : IsPart v1 none) (p2 : IsPart v2 (some (-1))) (want : R ((n : Int) - 1, -1, n) s) :
    wpAny (model prog w) A (Builtin.Slice.sliceApplied (.ref sl) (pure (n : Int))) R E s := by
  obtain ⟨o, eo, _, eds⟩ := cut
  have num : Builtin.Slice.slicePlaces ((n : Int) - 1) (-1) (-1) = n := by
    show (if (-1 : Int) > 0 then _ else if (n : Int) - 1 > -1 then ((n : Int) - 1 - -1 - 1) / (- -1) + 1 else 0).toNat = n
    rw [if_neg (by decide)]
    by_cases some : (n : Int) - 1 > -1
    · rw [if_pos some, show (- -1 : Int) = 1 by decide, Int.ediv_one]
      omega
    · rw [if_neg some]
      omega
  show wpAny _ _ (Builtin.Slice.sliceFields (.ref sl) >>= _) _ _ _
  refine wpAny_bind (wpAny_bind (wpAny_field eo eds (x := v0) rfl (wpAny_bind (wpAny_field eo eds (x := v1) rfl (wpAny_bind (wpAny_field eo eds (x := v2) rfl (wpAny_pure (wpAny_bind (HT.slicePart_ p2 ?_)))))))))
  show wpAny _ _ (if ((-1 : Int) == 0) = true then _ else _) _ _ _
  rw [if_neg (by decide)]
  refine wpAny_bind (HT.slicePart_ p0 (wpAny_bind (HT.slicePart_ p1 (wpAny_bind (wpAny_pure (wpAny_pure ?_))))))
  show R ((n : Int) - 1, -1, Builtin.Slice.slicePlaces ((n : Int) - 1) (-1) (-1)) s
  rw [num]
  exact want
theorem back_items (xs : Array Value) : ((List.range xs.size).filterMap fun (m : Nat) => xs[(((xs.size : Nat) : Int) - 1 + (m : Int) * (-1)).toNat]?).toArray = xs.toList.reverse.toArray := by
  have e : (fun (m : Nat) => xs[(((xs.size : Nat) : Int) - 1 + (m : Int) * (-1)).toNat]?) = (xs[·]?) ∘ fun m => xs.size - 1 - m := funext fun m => by
    show xs[(((xs.size : Nat) : Int) - 1 + (m : Int) * (-1)).toNat]? = xs[xs.size - 1 - m]?
    congr 1
    omega
  rw [e, ← List.filterMap_map, PySem.W.krv_range, List.filterMap_reverse, PySem.W.krv_all xs]
theorem tuple_back {t sl : Addr} {its : Array Value} {v0 v1 v2 : Value} {R : Value → Shared → Prop} (tup : IsTup s.heap t its) (cut : s.heap.IsSliceOf sl v0 v1 v2) (p0 : IsPart v0 none) (p1 : IsPart v1 none) (p2 : IsPart v2 (some (-1))) (small : its.size ≤ sizeLine)
    (want : R (.ref s.heap.objs.size) { s with heap := s.heap.push { cls := .type "tuple", data := .seq its.toList.reverse.toArray } }) : wpAny (model prog w) A (getItem (.ref t) (.ref sl)) R E s := by
  obtain ⟨o, eo, ecs, _⟩ := id cut
  have isSl : s.TypeIs (.ref sl) "slice" := ⟨o, eo, ecs⟩
  have fits : sizeOk (.seq its.toList.reverse.toArray) := by
    show its.toList.reverse.toArray.size ≤ sizeLine
    simpa using small
  unfold getItem
  (try with_reducible refine wpAny_holding ?_); (first | refine wpAny_bind (wpAny_pure ?_) | skip)
  refine wpAny_bind (wpAny_sequenceKey tup.typeIs (by decide) (wpAny_bind (wpAny_callSpecial?_slot (name := Str.ofString "__getitem__") tup.typeIs PyProof.Rows.slot_tuple_getitem (wpAny_call_entry PyProof.Rows.slot_tuple_getitem tup.typeIs entry_tuple_getitem ?_ (args_tuple_getitem _ _)))))
  refine wpAny_bind (m := Builtin.Tuple.tupleItemsOf (.ref t)) (tupleItemsOf_ tup (wpAny_bind (wpAny_typeOf isSl ?_)))
  rw [if_pos (by decide)]
  refine wpAny_bind (back_parts cut p0 p1 p2 ?_)
  show wpAny _ _ (if ((((its.size : Int) - 1) == 0 && (-1 : Int) == 1 && its.size == its.size) = true) then _ else _) _ _ _
  rw [if_neg (by simp), back_items]
  first
    | exact wpAny_bind (m := Builtin.Tuple.tupleExact _) (wpAny_newObj_type (wpAny_pure ⟨_, rfl, wpAny_pure want⟩) fits)
    | exact wpAny_bind (m := Builtin.Tuple.tupleExact _) (wpAny_newObj_type (wpAny_bind (wpAny_pure (wpAny_pure ⟨_, rfl, wpAny_pure want⟩))) fits)
end
def tRevT (K : PySem.W.Frag) (te : TE) : TE := fun σ H Q => te σ H fun x H1 => ∃ t xs, x = .ref t ∧ SqT K H1 t xs ∧ ∀ p, H1 p = none → Q (.ref p) (upd H1 p (.tup xs.reverse))
theorem pe_revT {X : Cx} {e : Expr} {te : TE} {k : Nat} {q1 q2 q3 pos : Pos} (he : PE X e te) : PE X (.Subscript e (.Slice none none (some (.UnaryOp .USub (.Constant (.int 1) k q1) q2)) q3) pos) (tRevT X.K te) where
  run := by
    intro pins s σ H Q I h
    have minus : PO X (some (.UnaryOp .USub (.Constant (.int 1) k q1) q2)) (tPart (tUn (rU fun i => .int (-i)) (tC (.int 1)))) := po_some (pe_un un_neg pe_int)
    refine Subscript_ (thn (he.run pins s σ H _ I h) ?_)
    rintro _ s1 ⟨_, H1, I1, rel, t, xs, rfl, hxs, want⟩
    cases rel
    refine wpAny_Slice (thn (po_none.run pins s1 σ H1 (fun o G => o = none ∧ G = H1) I1 ⟨rfl, rfl⟩) ?_)
    rintro v0 s2 ⟨_, _, I2, p0, rfl, rfl⟩
    refine thn (po_none.run pins s2 σ _ (fun o G => o = none ∧ G = _) I2 ⟨rfl, rfl⟩) ?_
    rintro v1 s3 ⟨_, _, I3, p1, rfl, rfl⟩
    refine thn (minus.run pins s3 σ _ (fun o G => o = some (-1) ∧ G = _) I3 ⟨1, rfl, -1, rfl, rfl, rfl⟩) ?_
    rintro v2 s4 ⟨_, _, I4, p2, rfl, rfl⟩
    have I5 := I4.kept (h' := s4.heap.push { cls := .type "slice", data := .fields #[v0, v1, v2] }) (t' := s4.toks) fun c o g => Heap.get?_push_of_some _ g
    obtain ⟨its, vals, tup, small⟩ := I5.tuple hxs
    refine tail_any (ops := [.ref t, .ref s4.heap.objs.size]) tup.typeIs PyProof.Rows.slot_tuple_getitem.lookup (tuple_back tup (Heap.IsSliceOf.new _ v0 v1 v2) p0 p1 p2 (by rw [List.size_toArray, ← vals.length]; exact small) ?_) (by with_unfolding_all rfl)
    exact ⟨.ref _, _, I5.laid (t' := s4.toks) (o := .tup xs.reverse) (fun c o g => Heap.get?_push_of_some _ g) (Nat.le_refl _) ⟨by rw [List.length_reverse]; exact small, _, vals.reverse, IsTup.new _ _⟩, rfl, want _ (I5.hok.fresh (Nat.le_refl _))⟩
end Wd

set_option linter.all false
namespace WdM
/-! ### pennies by weights -/
def deal (a T : Int) : Int → List Int → List Int
  | _, [] => []
  | k, w :: ws => if 0 < k ∧ a * w % T ≠ 0 then (a * w / T + 1) :: deal a T (k - 1) ws else a * w / T :: deal a T k ws
def bases (a T : Int) (ws : List Int) : List Int := ws.map fun w => a * w / T
def cnt (a T : Int) : List Int → Int
  | [] => 0
  | w :: ws => (if a * w % T ≠ 0 then 1 else 0) + cnt a T ws
def dealt (a : Int) (ws : List Int) : List Int := deal a ws.sum (a - (bases a ws.sum ws).sum) ws

theorem deal_len (a T : Int) : ∀ (k : Int) (ws : List Int), (deal a T k ws).length = ws.length
  | _, [] => rfl
  | k, w :: ws => by
    unfold deal
    split
    · rw [List.length_cons, deal_len a T (k - 1) ws, List.length_cons]
    · rw [List.length_cons, deal_len a T k ws, List.length_cons]
theorem dealt_len (a : Int) (ws : List Int) : (dealt a ws).length = ws.length := deal_len _ _ _ _
theorem cnt_cons (a T w : Int) (ws : List Int) : cnt a T (w :: ws) = (if a * w % T ≠ 0 then 1 else 0) + cnt a T ws := rfl
theorem cnt_nonneg (a T : Int) : ∀ ws, 0 ≤ cnt a T ws
  | [] => Int.le_refl 0
  | w :: ws => by
    have := cnt_nonneg a T ws
    unfold cnt
    split <;> omega
theorem deal_sum (a T : Int) : ∀ (k : Int) (ws : List Int), 0 ≤ k → (deal a T k ws).sum = (bases a T ws).sum + min k (cnt a T ws)
  | k, [], hk => by
    show (0 : Int) = 0 + min k 0
    omega
  | k, w :: ws, hk => by
    have hb : (bases a T (w :: ws)).sum = a * w / T + (bases a T ws).sum := by unfold bases; rw [List.map_cons, List.sum_cons]
    have hc := cnt_nonneg a T ws
    unfold deal
    split
    · rename_i h
      have ih := deal_sum a T (k - 1) ws (by omega)
      rw [List.sum_cons, ih, hb]
      rw [cnt_cons, if_pos h.2]
      generalize a * w / T = q
      omega
    · rename_i h
      have ih := deal_sum a T k ws hk
      rw [List.sum_cons, ih, hb]
      rw [cnt_cons]
      generalize a * w / T = q
      by_cases hz : a * w % T ≠ 0
      · have : ¬ 0 < k := fun z => h ⟨z, hz⟩
        rw [if_pos hz]
        omega
      · rw [if_neg hz]
        omega
def rems (a T : Int) (ws : List Int) : List Int := ws.map fun w => a * w % T
theorem bases_rems (a T : Int) : ∀ ws : List Int, T * (bases a T ws).sum + (rems a T ws).sum = a * ws.sum
  | [] => by
    show T * 0 + 0 = a * 0
    simp
  | w :: ws => by
    have ih := bases_rems a T ws
    have e : T * (a * w / T) + a * w % T = a * w := Int.mul_ediv_add_emod (a * w) T
    unfold bases rems at *
    rw [List.map_cons, List.map_cons, List.sum_cons, List.sum_cons, List.sum_cons, Int.mul_add, Int.mul_add]
    omega
theorem rems_bound (a T : Int) (hT : 0 < T) : ∀ ws : List Int, 0 ≤ (rems a T ws).sum ∧ (rems a T ws).sum ≤ (T - 1) * cnt a T ws
  | [] => by
    constructor
    · exact Int.le_refl 0
    · show (0 : Int) ≤ (T - 1) * 0
      simp
  | w :: ws => by
    have ih := rems_bound a T hT ws
    have h0 := Int.emod_nonneg (a * w) (show T ≠ 0 by omega)
    have h1 := Int.emod_lt_of_pos (a * w) hT
    unfold rems at *
    rw [List.map_cons, List.sum_cons]
    rw [cnt_cons]
    generalize hr : a * w % T = r at *
    by_cases hz : r ≠ 0
    · rw [if_pos hz, Int.mul_add, Int.mul_one]
      omega
    · rw [if_neg hz]
      have : r = 0 := by omega
      subst this
      rw [Int.zero_add, Int.zero_add]
      omega
theorem lack_bounds (a : Int) (ws : List Int) (hT : 0 < ws.sum) : 0 ≤ a - (bases a ws.sum ws).sum ∧ a - (bases a ws.sum ws).sum ≤ cnt a ws.sum ws := by
  have h1 := bases_rems a ws.sum ws
  have ⟨h2, h3⟩ := rems_bound a ws.sum hT ws
  have hc := cnt_nonneg a ws.sum ws
  generalize ws.sum = T at *
  generalize (bases a T ws).sum = B at *
  generalize (rems a T ws).sum = R at *
  generalize cnt a T ws = c at *
  have e : T * (a - B) = R := by
    rw [Int.mul_sub]
    have : a * T = T * a := Int.mul_comm _ _
    omega
  constructor
  · rcases Int.lt_or_le (a - B) 0 with h | h
    · have : T * (a - B) < 0 := Int.mul_neg_of_pos_of_neg hT h
      omega
    · exact h
  · rcases Int.lt_or_le c (a - B) with h | h
    · have h4 : T * (c + 1) ≤ T * (a - B) := Int.mul_le_mul_of_nonneg_left (by omega) (by omega)
      have h5 : (T - 1) * c = T * c - c := by rw [Int.sub_mul, Int.one_mul]
      rw [Int.mul_add, Int.mul_one] at h4
      omega
    · exact h
theorem dealt_sum (a : Int) (ws : List Int) (hT : 0 < ws.sum) : (dealt a ws).sum = a := by
  have ⟨h1, h2⟩ := lack_bounds a ws hT
  unfold dealt
  rw [deal_sum _ _ _ _ h1]
  omega
/-- each is its exact part, rounded down or up -/
theorem deal_get (a T : Int) : ∀ (k : Int) (ws : List Int) (i : Nat) (v : Int), (deal a T k ws)[i]? = some v → ∃ w, ws[i]? = some w ∧ (v = a * w / T ∨ v = a * w / T + 1)
  | _, [], i, v, h => by unfold deal at h; simp at h
  | k, w :: ws, i, v, h => by
    unfold deal at h
    split at h
    · cases i with
      | zero => exact ⟨w, rfl, .inr (by simpa using h.symm)⟩
      | succ i => exact deal_get a T _ ws i v (by simpa using h)
    · cases i with
      | zero => exact ⟨w, rfl, .inl (by simpa using h.symm)⟩
      | succ i => exact deal_get a T _ ws i v (by simpa using h)
/-! ### the same by other numbers of the same shares -/
theorem sum_scale (p : Int) : ∀ ws : List Int, (ws.map (p * ·)).sum = p * ws.sum
  | [] => by simp
  | w :: ws => by rw [List.map_cons, List.sum_cons, List.sum_cons, sum_scale p ws, Int.mul_add]
theorem part_scale {a T w p : Int} (hp : 0 < p) : a * (p * w) / (p * T) = a * w / T := by
  rw [show a * (p * w) = p * (a * w) by rw [← Int.mul_assoc, Int.mul_comm a p, Int.mul_assoc]]
  exact Int.mul_ediv_mul_of_pos _ _ hp
theorem rem_scale {a T w p : Int} (hp : 0 < p) : (a * (p * w) % (p * T) ≠ 0) ↔ (a * w % T ≠ 0) := by
  rw [show a * (p * w) = p * (a * w) by rw [← Int.mul_assoc, Int.mul_comm a p, Int.mul_assoc], Int.mul_emod_mul_of_pos _ _ hp]
  constructor
  · intro h z
    exact h (by rw [z, Int.mul_zero])
  · intro h z
    rcases Int.mul_eq_zero.mp z with q | q
    · omega
    · exact h q
theorem deal_scale {a T p : Int} (hp : 0 < p) : ∀ (k : Int) (ws : List Int), deal a (p * T) k (ws.map (p * ·)) = deal a T k ws
  | _, [] => rfl
  | k, w :: ws => by
    rw [List.map_cons]
    unfold deal
    rw [part_scale hp]
    by_cases h : 0 < k ∧ a * w % T ≠ 0
    · rw [if_pos h, if_pos ⟨h.1, (rem_scale hp).mpr h.2⟩, deal_scale hp (k - 1) ws]
    · rw [if_neg h, if_neg (fun z => h ⟨z.1, (rem_scale hp).mp z.2⟩), deal_scale hp k ws]
theorem bases_scale {a T p : Int} (hp : 0 < p) (ws : List Int) : bases a (p * T) (ws.map (p * ·)) = bases a T ws := by
  unfold bases
  rw [List.map_map]
  apply List.map_congr_left
  intro w _
  exact part_scale hp
theorem dealt_scale {a p : Int} (hp : 0 < p) (ws : List Int) : dealt a (ws.map (p * ·)) = dealt a ws := by
  unfold dealt
  rw [sum_scale, bases_scale hp, deal_scale hp]
theorem dealt_like {a p q : Int} (hp : 0 < p) (hq : 0 < q) {ws ws' : List Int} (h : ws.map (p * ·) = ws'.map (q * ·)) : dealt a ws = dealt a ws' := by
  rw [← dealt_scale hp ws, h, dealt_scale hq]
/-! ### weights of fractions -/
def lcmF : Int → List (Int × Int) → Int
  | b, [] => b
  | b, f :: fs => lcmF (b / (Int.gcd b f.2 : Int) * f.2) fs
def wts (L : Int) (fs : List (Int × Int)) : List Int := fs.map fun f => f.1 * (L / f.2)
def wtsOf (fs : List (Int × Int)) : List Int := wts (lcmF 1 fs) fs
structure Lcm (b L : Int) (fs : List (Int × Int)) : Prop where
  pos : 0 < L
  dvd : b ∣ L
  all : ∀ f ∈ fs, f.2 ∣ L
theorem step_lcm {b d : Int} (hb : 0 < b) (hd : 0 < d) : 0 < b / (Int.gcd b d : Int) * d ∧ b ∣ b / (Int.gcd b d : Int) * d ∧ d ∣ b / (Int.gcd b d : Int) * d := by
  have g0 : (0 : Int) < (Int.gcd b d : Int) := by
    have : Int.gcd b d ≠ 0 := fun z => by
      have := (Int.gcd_eq_zero_iff.mp z).1
      omega
    omega
  obtain ⟨x, hx⟩ := Int.gcd_dvd_left b d
  obtain ⟨y, hy⟩ := Int.gcd_dvd_right b d
  generalize hg : (Int.gcd b d : Int) = g at *
  have e : b / g = x := by rw [hx]; exact Int.mul_ediv_cancel_left x (by omega)
  have xp : 0 < x := by
    rcases Int.lt_or_le 0 x with h | h
    · exact h
    · have : g * x ≤ 0 := Int.mul_nonpos_of_nonneg_of_nonpos (by omega) h
      omega
  rw [e]
  refine ⟨Int.mul_pos xp hd, ⟨y, ?_⟩, ⟨x, Int.mul_comm _ _⟩⟩
  rw [hy, hx, ← Int.mul_assoc, Int.mul_comm x g]
theorem lcm_is : ∀ (fs : List (Int × Int)) (b : Int), 0 < b → (∀ f ∈ fs, 0 < f.2) → Lcm b (lcmF b fs) fs
  | [], b, hb, _ => ⟨hb, Int.dvd_refl b, fun f h => by cases h⟩
  | f :: fs, b, hb, h => by
    have hd := h f List.mem_cons_self
    have ⟨s1, s2, s3⟩ := step_lcm hb hd
    have ih := lcm_is fs _ s1 (fun g hg => h g (List.mem_cons_of_mem _ hg))
    refine ⟨ih.pos, Int.dvd_trans s2 ih.dvd, fun g hg => ?_⟩
    rcases List.mem_cons.mp hg with rfl | hg
    · exact Int.dvd_trans s3 ih.dvd
    · exact ih.all g hg
theorem wt_eq {L t d : Int} (h : d ∣ L) : t * (L / d) * d = t * L := by
  rw [Int.mul_assoc, Int.ediv_mul_cancel h]
/-- two rows of fractions that stand as B to A -/
theorem wts_like {A B L L' : Int} (hA : 0 < A) (hB : 0 < B) : ∀ (fs fs' : List (Int × Int)), fs.length = fs'.length → (∀ f ∈ fs, 0 < f.2 ∧ f.2 ∣ L) → (∀ f ∈ fs', 0 < f.2 ∧ f.2 ∣ L') →
    (∀ (i : Nat) (f f' : Int × Int), fs[i]? = some f → fs'[i]? = some f' → f'.1 * f.2 * B = f.1 * A * f'.2) → (wts L fs).map (A * L' * ·) = (wts L' fs').map (B * L * ·)
  | [], [], _, _, _, _ => rfl
  | f :: fs, f' :: fs', hl, h1, h2, h3 => by
    have ih := wts_like (L := L) (L' := L') hA hB fs fs' (by simpa using hl) (fun g hg => h1 g (List.mem_cons_of_mem _ hg)) (fun g hg => h2 g (List.mem_cons_of_mem _ hg)) (fun i g g' a b => h3 (i + 1) g g' (by simpa using a) (by simpa using b))
    have e := h3 0 f f' rfl rfl
    have ⟨p1, d1⟩ := h1 f List.mem_cons_self
    have ⟨p2, d2⟩ := h2 f' List.mem_cons_self
    unfold wts at *
    rw [List.map_cons, List.map_cons, List.map_cons, List.map_cons, ih]
    congr 1
    have w1 := wt_eq (t := f.1) d1
    have w2 := wt_eq (t := f'.1) d2
    generalize f.1 * (L / f.2) = w at *
    generalize f'.1 * (L' / f'.2) = w' at *
    have ne : f.2 * f'.2 ≠ 0 := Int.ne_of_gt (Int.mul_pos p1 p2)
    apply Int.eq_of_mul_eq_mul_right ne
    have l1 : A * L' * w * (f.2 * f'.2) = (w * f.2) * (A * L' * f'.2) := by
      ac_rfl
    have l2 : B * L * w' * (f.2 * f'.2) = (w' * f'.2) * (B * L * f.2) := by
      ac_rfl
    rw [l1, l2, w1, w2]
    have l3 : f.1 * L * (A * L' * f'.2) = (f.1 * A * f'.2) * (L * L') := by ac_rfl
    have l4 : f'.1 * L' * (B * L * f.2) = (f'.1 * f.2 * B) * (L * L') := by ac_rfl
    rw [l3, l4, e]
theorem dealt_frac {a A B : Int} (hA : 0 < A) (hB : 0 < B) {fs fs' : List (Int × Int)} (hl : fs.length = fs'.length) (h1 : ∀ f ∈ fs, 0 < f.2) (h2 : ∀ f ∈ fs', 0 < f.2)
    (h3 : ∀ (i : Nat) (f f' : Int × Int), fs[i]? = some f → fs'[i]? = some f' → f'.1 * f.2 * B = f.1 * A * f'.2) : dealt a (wtsOf fs) = dealt a (wtsOf fs') := by
  have c1 := lcm_is fs 1 (by decide) h1
  have c2 := lcm_is fs' 1 (by decide) h2
  exact dealt_like (Int.mul_pos hA c2.pos) (Int.mul_pos hB c1.pos) (wts_like hA hB fs fs' hl (fun f hf => ⟨h1 f hf, c1.all f hf⟩) (fun f hf => ⟨h2 f hf, c2.all f hf⟩) h3)
theorem wtsOf_sum_pos {fs : List (Int × Int)} (h1 : ∀ f ∈ fs, 0 ≤ f.1 ∧ 0 < f.2) (h2 : ∃ f ∈ fs, 0 < f.1) : 0 < (wtsOf fs).sum ∧ ∀ w ∈ wtsOf fs, 0 ≤ w := by
  have c := lcm_is fs 1 (by decide) (fun f hf => (h1 f hf).2)
  unfold wtsOf
  generalize lcmF 1 fs = L at *
  have q : ∀ f ∈ fs, 0 < L / f.2 := fun f hf => Int.ediv_pos_of_pos_of_dvd c.pos (Int.le_of_lt (h1 f hf).2) (c.all f hf)
  clear c
  have nn : ∀ w ∈ wts L fs, 0 ≤ w := fun w hw => by
    unfold wts at hw
    obtain ⟨f, hf, rfl⟩ := List.mem_map.mp hw
    exact Int.mul_nonneg (h1 f hf).1 (Int.le_of_lt (q f hf))
  refine ⟨?_, nn⟩
  induction fs with
  | nil => obtain ⟨f, hf, _⟩ := h2; cases hf
  | cons g fs ih =>
    unfold wts
    rw [List.map_cons, List.sum_cons]
    have g0 : 0 ≤ g.1 * (L / g.2) := nn _ (by unfold wts; rw [List.map_cons]; exact List.mem_cons_self)
    have rest : ∀ (xs : List Int), (∀ w ∈ xs, 0 ≤ w) → 0 ≤ xs.sum := fun xs => by
      induction xs with
      | nil => intro _; exact Int.le_refl 0
      | cons x xs ihx =>
        intro hx
        rw [List.sum_cons]
        have a := hx x List.mem_cons_self
        have b := ihx (fun w hw => hx w (List.mem_cons_of_mem _ hw))
        omega
    have r0 : 0 ≤ (fs.map fun f => f.1 * (L / f.2)).sum := rest _ (fun w hw => nn w (by unfold wts; rw [List.map_cons]; exact List.mem_cons_of_mem _ hw))
    obtain ⟨f, hf, hp⟩ := h2
    rcases List.mem_cons.mp hf with rfl | hf
    · have := Int.mul_pos hp (q f List.mem_cons_self)
      omega
    · have ih2 := ih (fun f hf => h1 f (List.mem_cons_of_mem _ hf)) ⟨f, hf, hp⟩ (fun f hf => q f (List.mem_cons_of_mem _ hf)) (fun w hw => nn w (by unfold wts at *; rw [List.map_cons]; exact List.mem_cons_of_mem _ hw))
      unfold wts at ih2
      omega
theorem wtsOf_len (fs : List (Int × Int)) : (wtsOf fs).length = fs.length := by unfold wtsOf wts; rw [List.length_map]
/-! ### whole shares -/
theorem lcm_whole : ∀ fs : List (Int × Int), (∀ f ∈ fs, f.2 = 1) → lcmF 1 fs = 1
  | [], _ => rfl
  | f :: fs, h => by
    unfold lcmF
    rw [h f List.mem_cons_self]
    show lcmF (1 / (Int.gcd 1 1 : Int) * 1) fs = 1
    rw [show (1 : Int) / (Int.gcd 1 1 : Int) * 1 = 1 by decide]
    exact lcm_whole fs (fun g hg => h g (List.mem_cons_of_mem _ hg))
theorem wtsOf_whole (ts : List Int) : wtsOf (ts.map fun t => (t, 1)) = ts := by
  unfold wtsOf
  rw [lcm_whole _ (fun f hf => by obtain ⟨t, _, rfl⟩ := List.mem_map.mp hf; rfl)]
  unfold wts
  rw [List.map_map]
  have e : ((fun f : Int × Int => f.1 * (1 / f.2)) ∘ fun t : Int => (t, (1 : Int))) = id := by
    funext t
    show t * (1 / 1) = t
    rw [show (1 : Int) / 1 = 1 by decide, Int.mul_one]
  rw [e, List.map_id]
theorem deal_self {T : Int} (hT : 0 < T) : ∀ (k : Int) (ws : List Int), deal T T k ws = ws
  | _, [] => rfl
  | k, w :: ws => by
    unfold deal
    have e : T * w % T = 0 := Int.mul_emod_right T w
    rw [if_neg (fun z => z.2 e), Int.mul_ediv_cancel_left w (by omega), deal_self hT k ws]
theorem dealt_self {ws : List Int} (hT : 0 < ws.sum) : dealt ws.sum ws = ws := deal_self hT _ _
theorem deal_more {a T t : Int} (hT : 0 < T) : ∀ (k : Int) (ws : List Int), deal (a + t * T) T k ws = List.zipWith (fun p w => p + t * w) (deal a T k ws) ws
  | _, [] => rfl
  | k, w :: ws => by
    have e : (a + t * T) * w = a * w + T * (t * w) := by
      rw [Int.add_mul]
      congr 1
      ac_rfl
    have e1 : (a + t * T) * w / T = a * w / T + t * w := by
      rw [e, Int.add_mul_ediv_left _ _ (by omega)]
    have e2 : (a + t * T) * w % T = a * w % T := by
      rw [e, Int.add_mul_emod_self_left]
    unfold deal
    rw [e1, e2]
    by_cases h : 0 < k ∧ a * w % T ≠ 0
    · rw [if_pos h, if_pos h, deal_more hT (k - 1) ws, List.zipWith_cons_cons]
      congr 1
      omega
    · rw [if_neg h, if_neg h, deal_more hT k ws, List.zipWith_cons_cons]
theorem bases_more {a T t : Int} (hT : 0 < T) : ∀ ws : List Int, (bases (a + t * T) T ws).sum = (bases a T ws).sum + t * ws.sum
  | [] => by
    show (0 : Int) = 0 + t * 0
    simp
  | w :: ws => by
    have ih := bases_more (a := a) (t := t) hT ws
    have e : (a + t * T) * w = a * w + T * (t * w) := by
      rw [Int.add_mul]
      congr 1
      ac_rfl
    have e1 : (a + t * T) * w / T = a * w / T + t * w := by
      rw [e, Int.add_mul_ediv_left _ _ (by omega)]
    unfold bases at *
    rw [List.map_cons, List.map_cons, List.sum_cons, List.sum_cons, List.sum_cons, ih, e1, Int.mul_add]
    omega
theorem dealt_more {a t : Int} {ws : List Int} (hT : 0 < ws.sum) : dealt (a + t * ws.sum) ws = List.zipWith (fun p w => p + t * w) (dealt a ws) ws := by
  unfold dealt
  rw [bases_more hT, deal_more hT]
  congr 2
  omega
/-! ### noughts between -/
def trues : Nat → List Bool → List Nat
  | _, [] => []
  | n, true :: r => n :: trues (n + 1) r
  | n, false :: r => trues (n + 1) r
theorem trues_append : ∀ (a b : List Bool) (n : Nat), trues n (a ++ b) = trues n a ++ trues (n + a.length) b
  | [], b, n => by simp [trues]
  | true :: a, b, n => by
    have := trues_append a b (n + 1)
    simp only [List.cons_append, trues, this, List.length_cons]
    rw [show n + 1 + a.length = n + (a.length + 1) by omega]
  | false :: a, b, n => by
    have := trues_append a b (n + 1)
    simp only [List.cons_append, trues, this, List.length_cons]
    rw [show n + 1 + a.length = n + (a.length + 1) by omega]
theorem trues_false : ∀ (z n : Nat), trues n (List.replicate z false) = []
  | 0, n => rfl
  | z + 1, n => by rw [List.replicate_succ]; exact trues_false z (n + 1)
theorem trues_mem : ∀ (m : List Bool) (n q : Nat), q ∈ trues n m ↔ n ≤ q ∧ m[q - n]? = some true
  | [], n, q => by simp [trues]
  | true :: m, n, q => by
    have ih := trues_mem m (n + 1) q
    simp only [trues, List.mem_cons, ih]
    constructor
    · rintro (rfl | ⟨h1, h2⟩)
      · simp
      · refine ⟨by omega, ?_⟩
        rw [show q - n = (q - (n + 1)) + 1 by omega]
        simpa using h2
    · rintro ⟨h1, h2⟩
      by_cases e : q = n
      · exact .inl e
      · right
        refine ⟨by omega, ?_⟩
        rw [show q - n = (q - (n + 1)) + 1 by omega] at h2
        simpa using h2
  | false :: m, n, q => by
    have ih := trues_mem m (n + 1) q
    simp only [trues, ih]
    constructor
    · rintro ⟨h1, h2⟩
      refine ⟨by omega, ?_⟩
      rw [show q - n = (q - (n + 1)) + 1 by omega]
      simpa using h2
    · rintro ⟨h1, h2⟩
      by_cases e : q = n
      · subst e
        simp at h2
      · refine ⟨by omega, ?_⟩
        rw [show q - n = (q - (n + 1)) + 1 by omega] at h2
        simpa using h2
theorem trues_lt {m : List Bool} {q : Nat} (h : q ∈ trues 0 m) : q < m.length := by
  have := ((trues_mem m 0 q).mp h).2
  rw [Nat.sub_zero] at this
  exact (List.getElem?_eq_some_iff.mp this).1
/-- what stands at the marked places -/
theorem trues_pick : ∀ (m : List (Bool × Int)) (pre : List Int), (trues pre.length (m.map (·.1))).map (fun p => (pre ++ m.map (·.2)).getD p 0) = (m.filter (·.1)).map (·.2)
  | [], pre => rfl
  | (true, v) :: m, pre => by
    have ih := trues_pick m (pre ++ [v])
    simp only [List.length_append, List.length_cons, List.length_nil, List.append_assoc, List.cons_append, List.nil_append] at ih
    simp only [List.map_cons, trues, List.filter_cons, if_true]
    rw [show pre.length + 1 = pre.length + (0 + 1) by omega, ih]
    congr 1
    simp [List.getD]
  | (false, v) :: m, pre => by
    have ih := trues_pick m (pre ++ [v])
    simp only [List.length_append, List.length_cons, List.length_nil, List.append_assoc, List.cons_append, List.nil_append] at ih
    simp only [List.map_cons, trues, List.filter_cons]
    rw [show pre.length + 1 = pre.length + (0 + 1) by omega, ih]
    simp
def Naught (m : List (Bool × Int)) : Prop := ∀ x ∈ m, x.1 = false → x.2 = 0
theorem sum_naught : ∀ m : List (Bool × Int), Naught m → (m.map (·.2)).sum = ((m.filter (·.1)).map (·.2)).sum
  | [], _ => rfl
  | (true, v) :: m, h => by
    have ih := sum_naught m (fun x hx => h x (List.mem_cons_of_mem _ hx))
    simp only [List.map_cons, List.sum_cons, List.filter_cons, if_true, ih]
  | (false, v) :: m, h => by
    have ih := sum_naught m (fun x hx => h x (List.mem_cons_of_mem _ hx))
    have e : v = 0 := h _ List.mem_cons_self rfl
    subst e
    simp only [List.map_cons, List.sum_cons, List.filter_cons, ih]
    simp
/-- the pennies with their marks -/
def marked (a T : Int) : Int → List (Bool × Int) → List (Bool × Int)
  | _, [] => []
  | k, (b, w) :: m => if 0 < k ∧ a * w % T ≠ 0 then (b, a * w / T + 1) :: marked a T (k - 1) m else (b, a * w / T) :: marked a T k m
theorem marked_snd (a T : Int) : ∀ (k : Int) (m : List (Bool × Int)), (marked a T k m).map (·.2) = deal a T k (m.map (·.2))
  | _, [] => rfl
  | k, (b, w) :: m => by
    unfold marked
    rw [List.map_cons]
    unfold deal
    split
    · rw [List.map_cons, marked_snd a T (k - 1) m]
    · rw [List.map_cons, marked_snd a T k m]
theorem marked_fst (a T : Int) : ∀ (k : Int) (m : List (Bool × Int)), (marked a T k m).map (·.1) = m.map (·.1)
  | _, [] => rfl
  | k, (b, w) :: m => by
    unfold marked
    rw [List.map_cons]
    split
    · rw [List.map_cons, marked_fst a T (k - 1) m]
    · rw [List.map_cons, marked_fst a T k m]
theorem marked_pick (a T : Int) : ∀ (k : Int) (m : List (Bool × Int)), Naught m → ((marked a T k m).filter (·.1)).map (·.2) = deal a T k ((m.filter (·.1)).map (·.2))
  | _, [], _ => rfl
  | k, (true, w) :: m, h => by
    have ih := fun k => marked_pick a T k m (fun x hx => h x (List.mem_cons_of_mem _ hx))
    unfold marked
    simp only [List.filter_cons, if_true, List.map_cons]
    unfold deal
    split
    · simp only [List.filter_cons, if_true, List.map_cons, ih]
    · simp only [List.filter_cons, if_true, List.map_cons, ih]
  | k, (false, w) :: m, h => by
    have ih := fun k => marked_pick a T k m (fun x hx => h x (List.mem_cons_of_mem _ hx))
    have e : w = 0 := h _ List.mem_cons_self rfl
    subst e
    unfold marked
    have e0 : a * 0 % T = 0 := by rw [Int.mul_zero, Int.zero_emod]
    rw [if_neg (fun z => z.2 e0)]
    simp [List.filter_cons, ih]
theorem marked_naught (a T : Int) : ∀ (k : Int) (m : List (Bool × Int)), Naught m → Naught (marked a T k m)
  | _, [], _ => fun x hx => by cases hx
  | k, (b, w) :: m, h => by
    have ih := fun k => marked_naught a T k m (fun x hx => h x (List.mem_cons_of_mem _ hx))
    have h0 := h _ List.mem_cons_self
    unfold marked
    split
    · rename_i hc
      intro x hx hf
      rcases List.mem_cons.mp hx with rfl | hx
      · have e : w = 0 := h0 hf
        subst e
        exact absurd (by rw [Int.mul_zero, Int.zero_emod]) hc.2
      · exact ih _ x hx hf
    · intro x hx hf
      rcases List.mem_cons.mp hx with rfl | hx
      · have e : w = 0 := h0 hf
        subst e
        show a * 0 / T = 0
        rw [Int.mul_zero, Int.zero_ediv]
      · exact ih _ x hx hf
theorem bases_naught (a T : Int) (m : List (Bool × Int)) (h : Naught m) : (bases a T (m.map (·.2))).sum = (bases a T ((m.filter (·.1)).map (·.2))).sum := by
  have e := sum_naught (m.map fun x => (x.1, a * x.2 / T)) (fun x hx hf => by
    obtain ⟨y, hy, rfl⟩ := List.mem_map.mp hx
    have : y.2 = 0 := h y hy hf
    show a * y.2 / T = 0
    rw [this, Int.mul_zero, Int.zero_ediv])
  unfold bases
  simp only [List.map_map, List.filter_map] at *
  exact e
/-- the pennies of a row with noughts between -/
theorem dealt_naught (a : Int) (m : List (Bool × Int)) (h : Naught m) : ∃ m' : List (Bool × Int), m'.map (·.2) = dealt a (m.map (·.2)) ∧ m'.map (·.1) = m.map (·.1) ∧ Naught m' ∧ (m'.filter (·.1)).map (·.2) = dealt a ((m.filter (·.1)).map (·.2)) := by
  refine ⟨marked a (m.map (·.2)).sum (a - (bases a (m.map (·.2)).sum (m.map (·.2))).sum) m, marked_snd .., marked_fst .., marked_naught _ _ _ _ h, ?_⟩
  rw [marked_pick _ _ _ _ h, bases_naught _ _ _ h, sum_naught m h]
  rfl
end WdM

set_option Elab.async false
set_option linter.all false
set_option maxRecDepth 100000
set_option maxHeartbeats 4000000
namespace Wd
open PySem PySem.Spec PyProof.Rows L2 WdM
/-! ### heaps: all but some addresses stand -/
def Bt (S : List Addr) (H H' : Hp) : Prop := ∀ b o, b ∉ S → H b = some o → H' b = some o
theorem Bt.refl {S : List Addr} (H : Hp) : Bt S H H := fun _ _ _ h => h
theorem Bt.trans {S : List Addr} {H H1 H2 : Hp} (a : Bt S H H1) (b : Bt S H1 H2) : Bt S H H2 := fun c o n h => b c o n (a c o n h)
theorem Bt.of_same {S : List Addr} {H H' : Hp} (e : Same H H') : Bt S H H' := fun b o _ h => e b o h
theorem Bt.same {H H' : Hp} (e : Bt [] H H') : Same H H' := fun b o h => e b o (by simp) h
theorem Bt.wide {S T : List Addr} {H H' : Hp} (h : ∀ a ∈ S, a ∈ T) (e : Bt S H H') : Bt T H H' := fun b o n q => e b o (fun z => n (h b z)) q
theorem Bt.new {S : List Addr} {H H1 : Hp} {p : Addr} {o : HO} (e : Bt S H H1) (h : H1 p = none) : Bt S H (upd H1 p o) := fun b x n q => by
  have q1 := e b x n q
  rw [upd_ne (ne_of_none q1 h)]
  exact q1
theorem Bt.upd0 {S : List Addr} {H H1 : Hp} {p : Addr} {o : HO} (e : Bt S H H1) (h : H p = none) : Bt S H (upd H1 p o) := fun b x n q => by
  rw [upd_ne (ne_of_none q h)]
  exact e b x n q
theorem Bt.upd1 {S : List Addr} {H H1 : Hp} {p : Addr} {o : HO} (e : Bt S H H1) (h : p ∈ S) : Bt S H (upd H1 p o) := fun b x n q => by
  rw [upd_ne (fun z => n (by rw [z]; exact h))]
  exact e b x n q
theorem Bt.none {S : List Addr} {H H' : Hp} (e : Bt S H H') {p : Addr} (hS : p ∉ S) (h : H' p = none) : H p = none := by
  cases q : H p with
  | none => rfl
  | some o => rw [e p o hS q] at h; cases h
/-! ### tuples stand where lists change -/
def Tk (H H' : Hp) : Prop := ∀ a xs, Rd H a (.tup xs) → Rd H' a (.tup xs)
theorem Tk.refl (H : Hp) : Tk H H := fun _ _ h => h
theorem Tk.trans {H H1 H2 : Hp} (a : Tk H H1) (b : Tk H1 H2) : Tk H H2 := fun c xs h => b c xs (a c xs h)
theorem Tk.sq {K : PySem.W.Frag} {H H' : Hp} {a : Addr} {xs : List V} (t : Tk H H') (h : SqT K H a xs) : SqT K H' a xs := by
  rcases h with h | h
  · exact .inl (t _ _ h)
  · exact .inr h
theorem Bt.tk {S : List Addr} {H H' : Hp} (e : Bt S H H') (h : ∀ l ∈ S, ∃ zs, H l = some (.lst zs)) : Tk H H' := fun a xs r => by
  rcases r with r | ⟨o, r⟩
  · refine .inl (e a _ (fun z => ?_) r)
    obtain ⟨zs, q⟩ := h a z
    rw [q] at r; cases r
  · refine .inr ⟨o, e a _ (fun z => ?_) r⟩
    obtain ⟨zs, q⟩ := h a z
    rw [q] at r; cases r
theorem tk_same {H H' : Hp} (e : Same H H') : Tk H H' := (Bt.of_same (S := []) e).tk (fun l h => by cases h)
theorem tk_new {H : Hp} {p : Addr} {o : HO} (h : H p = none) : Tk H (upd H p o) := tk_same ((Bt.refl (S := []) H).new h).same
theorem tk_lst {H : Hp} {p : Addr} {zs : List V} {o : HO} (h : H p = some (.lst zs)) : Tk H (upd H p o) := ((Bt.refl (S := [p]) H).upd1 (by simp)).tk (fun l hl => by
  rw [List.mem_singleton.mp hl]; exact ⟨zs, h⟩)
theorem sqT {K : PySem.W.Frag} {H : Hp} {a : Addr} {xs : List V} (h : H a = some (.tup xs)) : SqT K H a xs := .inl (.inl h)
theorem sqL {K : PySem.W.Frag} {H : Hp} {a : Addr} {xs : List V} (h : H a = some (.lst xs)) : SqL K H a xs := .inl (.inl h)
theorem same_new {H : Hp} {p : Addr} {o : HO} (h : H p = none) : Same H (upd H p o) := ((Bt.refl (S := []) H).new h).same
/-! ### fractions in the heap -/
def Fr (K : PySem.W.Frag) (H : Hp) (v : V) (f : Int × Int) : Prop := ∃ a, v = .ref a ∧ SqT K H a [.int f.1, .int f.2]
def FrAll (K : PySem.W.Frag) (H : Hp) (xs : List V) (fs : List (Int × Int)) : Prop := xs.length = fs.length ∧ ∀ (i : Nat) (x : V) (f : Int × Int), xs[i]? = some x → fs[i]? = some f → Fr K H x f
def Sh (K : PySem.W.Frag) (H : Hp) (v : V) (fs : List (Int × Int)) : Prop := ∃ a xs, v = .ref a ∧ SqT K H a xs ∧ FrAll K H xs fs
theorem Fr.tk {K : PySem.W.Frag} {H H' : Hp} {v : V} {f : Int × Int} (t : Tk H H') (h : Fr K H v f) : Fr K H' v f := by
  obtain ⟨a, e, s⟩ := h
  exact ⟨a, e, t.sq s⟩
theorem FrAll.tk {K : PySem.W.Frag} {H H' : Hp} {xs : List V} {fs : List (Int × Int)} (t : Tk H H') (h : FrAll K H xs fs) : FrAll K H' xs fs := ⟨h.1, fun i x f a b => (h.2 i x f a b).tk t⟩
theorem Sh.tk {K : PySem.W.Frag} {H H' : Hp} {v : V} {fs : List (Int × Int)} (t : Tk H H') (h : Sh K H v fs) : Sh K H' v fs := by
  obtain ⟨a, xs, e, s, q⟩ := h
  exact ⟨a, xs, e, t.sq s, q.tk t⟩
theorem FrAll.nil {K : PySem.W.Frag} {H : Hp} : FrAll K H [] [] := ⟨rfl, fun i x f a _ => by simp at a⟩
theorem FrAll.append {K : PySem.W.Frag} {H : Hp} {xs ys : List V} {fs gs : List (Int × Int)} (h : FrAll K H xs fs) (h' : FrAll K H ys gs) : FrAll K H (xs ++ ys) (fs ++ gs) := by
  refine ⟨by rw [List.length_append, List.length_append, h.1, h'.1], fun i x f a b => ?_⟩
  by_cases hi : i < xs.length
  · rw [List.getElem?_append_left hi] at a
    rw [List.getElem?_append_left (by rw [← h.1]; exact hi)] at b
    exact h.2 i x f a b
  · rw [List.getElem?_append_right (by omega)] at a
    rw [List.getElem?_append_right (by rw [← h.1]; omega)] at b
    exact h'.2 (i - xs.length) x f a (by rw [h.1]; exact b)
theorem FrAll.one {K : PySem.W.Frag} {H : Hp} {x : V} {f : Int × Int} (h : Fr K H x f) : FrAll K H [x] [f] := ⟨rfl, fun i y g a b => by
  cases i with
  | zero => cases a; cases b; exact h
  | succ i => simp at a⟩
theorem FrAll.snoc {K : PySem.W.Frag} {H : Hp} {xs : List V} {fs : List (Int × Int)} {x : V} {f : Int × Int} (h : FrAll K H xs fs) (h' : Fr K H x f) : FrAll K H (xs ++ [x]) (fs ++ [f]) := h.append (.one h')
theorem FrAll.reverse {K : PySem.W.Frag} {H : Hp} {xs : List V} {fs : List (Int × Int)} (h : FrAll K H xs fs) : FrAll K H xs.reverse fs.reverse := by
  refine ⟨by rw [List.length_reverse, List.length_reverse, h.1], fun i x f a b => ?_⟩
  have hi : i < xs.length := by
    have := (List.getElem?_eq_some_iff.mp a).1
    rwa [List.length_reverse] at this
  rw [List.getElem?_reverse hi] at a
  rw [List.getElem?_reverse (by rw [← h.1]; exact hi), ← h.1] at b
  exact h.2 _ x f a b
theorem FrAll.drop {K : PySem.W.Frag} {H : Hp} {xs : List V} {fs : List (Int × Int)} (n : Nat) (h : FrAll K H xs fs) : FrAll K H (xs.drop n) (fs.drop n) := by
  refine ⟨by rw [List.length_drop, List.length_drop, h.1], fun i x f a b => ?_⟩
  rw [List.getElem?_drop] at a b
  exact h.2 _ x f a b
theorem FrAll.get {K : PySem.W.Frag} {H : Hp} {xs : List V} {fs : List (Int × Int)} {i : Nat} {x : V} (h : FrAll K H xs fs) (e : xs[i]? = some x) : ∃ f p, fs[i]? = some f ∧ x = .ref p ∧ SqT K H p [.int f.1, .int f.2] := by
  have hi : i < fs.length := by
    rw [← h.1]
    exact (List.getElem?_eq_some_iff.mp e).1
  obtain ⟨p, rfl, s⟩ := h.2 i x _ e (List.getElem?_eq_getElem hi)
  exact ⟨_, p, List.getElem?_eq_getElem hi, rfl, s⟩
/-! ### ints of lists by place -/
theorem ints_get {ns : List Int} {i : Nat} {x : V} (h : (ns.map V.int)[i]? = some x) : ∃ n, ns[i]? = some n ∧ x = .int n := by
  rw [List.getElem?_map] at h
  cases e : ns[i]? with
  | none => rw [e] at h; cases h
  | some n => rw [e] at h; exact ⟨n, rfl, (Option.some.inj h).symm⟩
theorem take_more {α : Type} {l : List α} {i : Nat} {x : α} (h : l[i]? = some x) : l.take (i + 1) = l.take i ++ [x] := by
  rw [List.take_add_one, h]
  rfl
theorem lt_get {α : Type} {l : List α} {i : Nat} {x : α} (h : l[i]? = some x) : i < l.length := (List.getElem?_eq_some_iff.mp h).1
theorem small_line {n m : Nat} (h : n ≤ m) (hm : m ≤ 1000 := by decide) : n ≤ sizeLine := Nat.le_of_lt (small1000 (Nat.le_trans h hm))
/-! ### Euclid -/
theorem gcd_step {a b : Int} (ha : 0 ≤ a) (hb : 0 ≤ b) : Int.gcd b (a % b) = Int.gcd a b := by
  obtain ⟨m, rfl⟩ := Int.eq_ofNat_of_zero_le ha
  obtain ⟨n, rfl⟩ := Int.eq_ofNat_of_zero_le hb
  show Nat.gcd n (((m : Int) % (n : Int))).natAbs = Nat.gcd m n
  rw [← Int.natCast_emod, Int.natAbs_natCast, Nat.gcd_comm n, ← Nat.gcd_rec, Nat.gcd_comm]
theorem gcd_end {a : Int} (ha : 0 ≤ a) : (Int.gcd a 0 : Int) = a := by
  rw [Int.gcd_zero_right]
  omega
theorem canLay_ints : ∀ ns : List Int, PyData.canLayAll0 (ns.map .int) = true
  | [] => by simp [PyData.canLayAll0]
  | n :: ns => by
    rw [List.map_cons]
    unfold PyData.canLayAll0
    rw [canLay_ints ns]
    simp [PyData.canLay0]
theorem depth_ints : ∀ ns : List Int, PyData.depthAll (ns.map .int) = 0
  | [] => by simp [PyData.depthAll]
  | n :: ns => by
    rw [List.map_cons]
    unfold PyData.depthAll
    rw [depth_ints ns]
    simp [PyData.depth]
theorem eqv_ints : ∀ ns : List Int, PyData.eqvAll (ns.map .int) (ns.map .int) = true
  | [] => by simp [PyData.eqvAll]
  | n :: ns => by
    rw [List.map_cons]
    unfold PyData.eqvAll
    rw [eqv_ints ns]
    simp [PyData.eqv]
theorem shT (ns : List Int) : SeqAt.shaped (.tuple (ns.map .int)) = true := by
  unfold SeqAt.shaped PyData.canLay0 PyData.depth
  rw [canLay_ints, depth_ints]
  rfl
theorem shL (ns : List Int) : SeqAt.shaped (.list (ns.map .int)) = true := by
  unfold SeqAt.shaped PyData.canLay0 PyData.depth
  rw [canLay_ints, depth_ints]
  rfl
theorem eqvT (ns : List Int) : PyData.eqv (.tuple (ns.map .int)) (.tuple (ns.map .int)) = true := by
  unfold PyData.eqv
  exact eqv_ints ns
theorem eqvL (ns : List Int) : PyData.eqv (.list (ns.map .int)) (.list (ns.map .int)) = true := by
  unfold PyData.eqv
  exact eqv_ints ns
theorem dInts {K : PySem.W.Frag} {H : Hp} : ∀ ns : List Int, DpAll K H (ns.map V.int) (ns.map PyData.int)
  | [] => .nil
  | n :: ns => .cons (.int n) (dInts ns)
theorem dT {K : PySem.W.Frag} {H : Hp} {a : Addr} {ns : List Int} (h : SqT K H a (ns.map V.int)) : Dp K H (.ref a) (.tuple (ns.map .int)) := .tup h (dInts ns)
theorem dL {K : PySem.W.Frag} {H : Hp} {a : Addr} {ns : List Int} (h : SqL K H a (ns.map V.int)) : Dp K H (.ref a) (.list (ns.map .int)) := .lst h (dInts ns)
theorem tyT {K : PySem.W.Frag} {H : Hp} {a : Addr} {xs : List V} (h : SqT K H a xs) : TyX K H (.ref a) (.type "tuple") := by
  rcases h with (h | ⟨o, h⟩) | ⟨o, its, n, e, c, _⟩
  · exact .base (.tup h)
  · exact .fTuple h
  · exact .kTuple e c
/-! ### sizes -/
theorem lcm_snoc : ∀ (fs : List (Int × Int)) (b : Int) (f : Int × Int), lcmF b (fs ++ [f]) = lcmF b fs / (Int.gcd (lcmF b fs) f.2 : Int) * f.2
  | [], b, f => rfl
  | g :: fs, b, f => lcm_snoc fs _ f
theorem gcd_pos {a b : Int} (h : 0 < b) : (0 : Int) < (Int.gcd a b : Int) := by
  have : Int.gcd a b ≠ 0 := fun z => by
    have := (Int.gcd_eq_zero_iff.mp z).2
    omega
  omega
theorem gcd_le {a b : Int} (h : 0 < b) : (Int.gcd a b : Int) ≤ b := Int.le_of_dvd h (Int.gcd_dvd_right a b)
theorem lcm_bound : ∀ (fs : List (Int × Int)) (b : Int) (m : Nat), 0 < b → b.natAbs < 2 ^ m → (∀ f ∈ fs, 0 < f.2 ∧ f.2.natAbs < 2 ^ 64) → (lcmF b fs).natAbs < 2 ^ (m + 64 * fs.length)
  | [], b, m, _, h, _ => h
  | f :: fs, b, m, hb, h, hf => by
    have ⟨f1, f2⟩ := hf f List.mem_cons_self
    have g0 := gcd_pos (a := b) f1
    have s := step_lcm hb f1
    have q : (b / (Int.gcd b f.2 : Int) * f.2).natAbs < 2 ^ (m + 64) := wide_lt (wide_le (Int.ediv_nonneg (Int.le_of_lt hb) (Int.le_of_lt g0)) (Int.ediv_le_self _ (Int.le_of_lt hb)) h) f2
    have ih := lcm_bound fs _ _ s.1 q (fun g hg => hf g (List.mem_cons_of_mem _ hg))
    rw [List.length_cons, show m + 64 * (fs.length + 1) = m + 64 + 64 * fs.length by omega]
    exact ih
theorem pow_le {a b : Nat} (h : a ≤ b) : 2 ^ a ≤ 2 ^ b := Nat.pow_le_pow_right (by decide) h
/-- shares that can be parted by -/
structure Good (fs : List (Int × Int)) : Prop where
  len0 : 1 ≤ fs.length
  len1 : fs.length ≤ 64
  each : ∀ f ∈ fs, 0 ≤ f.1 ∧ 0 < f.2 ∧ f.1.natAbs < 2 ^ 64 ∧ f.2.natAbs < 2 ^ 64 ∧ Int.gcd f.1 f.2 = 1
  some : ∃ f ∈ fs, 0 < f.1
theorem Good.pos {fs : List (Int × Int)} (g : Good fs) : ∀ f ∈ fs, 0 < f.2 := fun f hf => (g.each f hf).2.1
theorem Good.lcm {fs : List (Int × Int)} (g : Good fs) : Lcm 1 (lcmF 1 fs) fs := lcm_is fs 1 (by decide) g.pos
theorem Good.sum {fs : List (Int × Int)} (g : Good fs) : 0 < (wtsOf fs).sum ∧ ∀ w ∈ wtsOf fs, 0 ≤ w := wtsOf_sum_pos (fun f hf => ⟨(g.each f hf).1, (g.each f hf).2.1⟩) g.some
theorem Good.lcmB {fs : List (Int × Int)} (g : Good fs) : (lcmF 1 fs).natAbs < 2 ^ 4097 :=
  Nat.lt_of_lt_of_le (lcm_bound fs 1 1 (by decide) (by decide) (fun f hf => ⟨(g.each f hf).2.1, (g.each f hf).2.2.2.1⟩)) (pow_le (by have := g.len1; omega))
theorem Good.quo {fs : List (Int × Int)} (g : Good fs) : ∀ f ∈ fs, 0 ≤ lcmF 1 fs / f.2 ∧ (lcmF 1 fs / f.2).natAbs < 2 ^ 4097 := fun f hf => by
  have h0 : 0 ≤ lcmF 1 fs / f.2 := Int.ediv_nonneg (Int.le_of_lt g.lcm.pos) (Int.le_of_lt (g.pos f hf))
  exact ⟨h0, wide_le h0 (Int.ediv_le_self _ (Int.le_of_lt g.lcm.pos)) g.lcmB⟩
theorem Good.wB {fs : List (Int × Int)} (g : Good fs) : ∀ w ∈ wtsOf fs, w.natAbs < 2 ^ 4161 := fun w hw => by
  unfold wtsOf wts at hw
  obtain ⟨f, hf, rfl⟩ := List.mem_map.mp hw
  exact wide_lt (a := 64) (b := 4097) (g.each f hf).2.2.1 (g.quo f hf).2
theorem sum_abs {B : Nat} : ∀ ws : List Int, (∀ w ∈ ws, w.natAbs < B) → ws.sum.natAbs ≤ ws.length * B
  | [], _ => by simp
  | w :: ws, h => by
    have ih := sum_abs ws (fun x hx => h x (List.mem_cons_of_mem _ hx))
    have h0 := h w List.mem_cons_self
    rw [List.sum_cons, List.length_cons, Nat.add_mul, Nat.one_mul]
    have := Int.natAbs_add_le w ws.sum
    omega
theorem Good.sumB {fs : List (Int × Int)} (g : Good fs) : (wtsOf fs).sum.natAbs < 2 ^ 4168 := by
  have h := sum_abs (wtsOf fs) g.wB
  rw [wtsOf_len] at h
  have h1 := g.len1
  have h2 : fs.length * 2 ^ 4161 ≤ 64 * 2 ^ 4161 := Nat.mul_le_mul_right _ h1
  have h3 : 64 * 2 ^ 4161 < 2 ^ 4168 := by
    rw [show (4168 : Nat) = 7 + 4161 by rfl, Nat.pow_add]
    exact Nat.mul_lt_mul_of_pos_right (by decide) (Nat.pow_pos (by decide))
  exact Nat.lt_of_le_of_lt h (Nat.lt_of_le_of_lt h2 h3)
/-! ### a def of the text -/
structure Df (K : PySem.W.Frag) (mg : Str → Option Value) (name : Str) (st : Stmt) (f : Addr) (fd : FuncData) (ps : List Str) : Prop where
  fn : Fun K name name st f fd
  mg : mg name = some (.ref f)
  bd : Binds K fd ps []
end Wd

set_option Elab.async false
set_option linter.all false
set_option maxRecDepth 100000
set_option maxHeartbeats 4000000
namespace Wd
open PySem PySem.Spec PyProof.Rows L2 WdM
/-! ### an exception that was caught and is kept: tracked from then on -/
def ExT (a : Addr) (cls : Value) (d : Option Addr) : HO := .ext fun h => ∃ oe vs, h.get? a = some oe ∧ Zc cls d oe ∧ oe.data = .fields vs
theorem exT_ok {P : Program} {w : World} {H : Hp} {h : Heap} {a : Addr} {cls : Value} {d : Option Addr} {oe : Obj} {vs : Array Value} (g : h.get? a = some oe) (z : Zc cls d oe) (f : oe.data = .fields vs) : ObjOk P w H h a (ExT a cls d) :=
  ⟨⟨oe, vs, g, z, f⟩, ⟨oe, g⟩, fun _ _ ⟨oe, vs, e, r⟩ k => ⟨oe, vs, k _ e, r⟩⟩
theorem exT_at {P : Program} {w : World} {H : Hp} {h : Heap} {a : Addr} {cls : Value} {d : Option Addr} (ok : HOk P w H h) (e : H a = some (ExT a cls d)) : ∃ oe vs, h.get? a = some oe ∧ Zc cls d oe ∧ oe.data = .fields vs := by
  have x : ObjOk P w H h a (.ext fun h => ∃ oe vs, h.get? a = some oe ∧ Zc cls d oe ∧ oe.data = .fields vs) := ok a _ e
  exact x.1
section
variable {X : Cx} {pins : List (Addr × Obj)} {σ : L2.St} {H : Hp} {s : Shared}
theorem track {a : Addr} {oe : Obj} {vs : Array Value} {cls : Value} {d : Option Addr} (I : Inv X ((a, oe) :: pins) σ H s) (hx : X.ex = []) (n0 : X.s_0.heap.get? a = none) (np : ∀ p ∈ X.pn ++ pins, p.1 ≠ a) (z : Zc cls d oe) (f : oe.data = .fields vs) :
    Inv X pins σ (upd H a (ExT a cls d)) s := by
  obtain ⟨ga, na, nl, nf, nc⟩ := I.pin (a, oe) (List.mem_append_right _ List.mem_cons_self)
  have far : ∀ {b : Addr} {u : HO}, H b = some u → b ≠ a := fun {b u} e z => by rw [z, na] at e; cases e
  refine { ok := I.ok, os := I.os, bare := I.bare, loc := I.loc, cell := I.cell, len := I.len, base := ?_, free := ?_, freeC := ?_, pin := ?_, hok := ?_ }
  · exact { keep := I.base.keep, slot := I.base.slot, there := I.base.there,
            free := fun b o e n k => by
              rw [upd_ne (fun z => by rw [z, n0] at e; cases e)]
              exact I.base.free b o e n k
            tups := fun b xs e => by
              have q := I.base.tups b xs e
              rw [upd_ne (far q)]
              exact q
            frzs := fun b o u e => by
              have q := I.base.frzs b o u e
              rw [upd_ne (far q)]
              exact q
            tbls := fun b ps e => by
              obtain ⟨m, q⟩ := I.base.tbls b ps e
              exact ⟨m, by rw [upd_ne (far q)]; exact q⟩ }
  · rw [upd_ne (Ne.symm nl)]
    exact I.free
  · intro x c e
    rw [upd_ne (fun z => by
      obtain ⟨v, o, go, eo⟩ := I.cell x c e
      rw [z, ga] at go
      cases go
      exact nc _ eo)]
    exact I.freeC x c e
  · intro p hp
    obtain ⟨e1, e2, e3⟩ := I.pin p (by
      rcases List.mem_append.mp hp with h | h
      · exact List.mem_append_left _ h
      · exact List.mem_append_right _ (List.mem_cons_of_mem _ h))
    exact ⟨e1, by rw [upd_ne (np p hp)]; exact e2, e3⟩
  · intro b u e
    by_cases hb : b = a
    · subst hb
      rw [upd_same] at e
      cases e
      exact exT_ok ga z f
    · rw [upd_ne hb] at e
      exact (I.hok b u e).stay (fun _ _ _ q => q) (fun c q => by rw [upd_ne (far q)]; exact q) fun c xs q => by rw [upd_ne (far q)]; exact q
end
/-- what «except x as n» wishes, where what was caught is looked at behind the suite: all that is raised is of x, and the suite runs to its end -/
def wGot (K : PySem.W.Frag) (c : Value) (i : Nat) (ts : Addr → Value → Option Addr → TS) (D : Ends) : WX := fun cls d σ H =>
  PySem.W.exmOne K cls c = some true ∧ ∀ a, H a = none → ts a cls d { nx := fun σ' H' => D.nx (σ'.set i none) (upd H' a (ExT a cls d)), rt := fun _ _ => False, bk := fun _ _ => False, ct := fun _ _ => False } (σ.set i (some (.ref a))) H
section
variable {X : Cx} {x n : Str} {c : Value} {i : Nat} {body suite : List Stmt} {b0 : Stmt} {np pos pos' : Pos} {tb : WX → TS} {ts : Addr → Value → Option Addr → TS}
theorem ps_try_got (top : X.stack = X.env :: X.outer) (fr : X.env.frame = some X.env.locals) (hex : X.ex = []) (nd : X.N.Nodup) (hi : X.N[i]? = some n) (loc : X.env.kindOf n = some .local) (hc : Names X x c)
    (runs : ∀ (W : WX) (pn : List (Addr × Obj)) (xe : Value → Shared → Prop), Takes (X.tr pn xe) W → PassesOwn (model X.prog X.w) X.A X.env xe → PSs (X.tr pn xe) body (tb W))
    (hsu : ∀ (a : Addr) (oe : Obj) (cls : Value) (d : Option Addr) (pn : List (Addr × Obj)), Zc cls d oe → (∃ vs, oe.data = .fields vs) → PSs (X.suite a ((a, oe) :: pn)) (b0 :: suite) (ts a cls d)) :
    PS X (.Try body [.ExceptHandler (some (.Name x np)) (some n) (b0 :: suite) pos'] [] [] pos) (fun D σ H => tb (wGot X.K c i ts D) D σ H) where
  run := by
    intro pins s σ H D I h
    have ok := I.ok
    have frames : X.A.frames = some (X.env :: X.outer) := by rw [ok.frames, top]
    refine wpAny_Try_except (wpAny_mono ((runs (wGot X.K c i ts D) (X.pn ++ pins) (fun e s₁ => wpAny (model X.prog X.w) X.A (noteFrame e X.env) (fun _ s₂ => wpAny (model X.prog X.w) X.A (setFlight e none) (fun _ s₃ =>
      wpAny (model X.prog X.w) X.A (handleBy e X.env [.ExceptHandler (some (.Name x np)) (some n) (b0 :: suite) pos']) (SP X pins D) X.xe s₃) X.xe s₂) X.xe s₁) ?_ PassesOwn.looking).run [] s σ H D (I.toTry _) h) ?_ (fun e s1 he => he))
    · rintro _ s' ⟨a, B, sI, pins', σ', H', cls, d, rfl, J0, nb, up, sky, na, os, ag, is, go⟩
      have J : Inv X pins σ' H' sI := J0.ofTry ok
      show wpAny (model X.prog X.w) X.A (noteFrame (Value.ref a) X.env) _ _ _
      refine Sky.land Zc.steady frames fr (top ▸ sky) fun h3 fl3 up3 => ?_
      have J3 : Inv X pins σ' H' { s' with heap := h3 } := Inv.landed J nb fl3.1 (up.trans up3) os ag
      obtain ⟨oe3, vs3, g3, z3, d3⟩ := fl3.there
      have gone : B.get? a = none := fl3.2.1
      have out : a ∉ frs (X.env :: X.outer) := fun m => by
        obtain ⟨_, o, e, no⟩ := fl3.2.2.1.mem m
        rw [g3] at e
        cases e
        exact no _ d3
      have nL : a ≠ X.env.locals := fun z => out (List.mem_filterMap.mpr ⟨X.env, List.mem_cons_self, by rw [fr, z]⟩)
      have nF : a ∉ X.fs := fun m => by
        obtain ⟨e, he, q⟩ := List.mem_filterMap.mp m
        exact out (List.mem_filterMap.mpr ⟨e, List.mem_cons_of_mem _ he, q⟩)
      have fresh : ∀ b o, sI.heap.get? b = some o → b ∉ frs X.stack → b ≠ a := fun b o e m z => by
        have q := nb b o e m
        rw [z, gone] at q
        cases q
      have n0 : X.s_0.heap.get? a = Option.none := by
        cases e : Heap.get? X.s_0.heap a with
        | none => rfl
        | some o =>
          obtain ⟨o', e'⟩ := J.base.there a o e (by rw [hex]; exact fun z => nomatch z)
          exact absurd rfl (fresh a o' e' (by rw [top]; exact out))
      have npin : ∀ p ∈ X.pn ++ pins, p.1 ≠ a := fun p hp => by
        obtain ⟨e1, _, e3, e4, _⟩ := J.pin p hp
        refine fresh p.1 p.2 e1 (fun m => ?_)
        rw [top] at m
        obtain ⟨e, he, q⟩ := List.mem_filterMap.mp m
        rcases List.mem_cons.mp he with rfl | he
        · rw [fr] at q
          exact e3 (Option.some.inj q).symm
        · exact e4 (List.mem_filterMap.mpr ⟨e, he, q⟩)
      have S3 := J3.suite g3 d3 na nL nF
      refine wpAny_handleBy_cons (codeAny_handlers_test ?_) (fun z => by cases z)
      have isCls : PySem.W.Looks (model X.prog X.w) h3 (typeOf (.ref a)) cls := fun A Q E s k q => wpAny_typeOf_ref (k _ _ g3) (by rw [z3.1]; exact q)
      have matches_ := PySem.W.exm_one (M := model X.prog X.w) J3.kIn isCls is
      have named : ∀ {Q : Value → Shared → Prop} {E : Value → Shared → Prop}, Q c { s' with heap := h3 } → wpAny (model X.prog X.w) (X.A.mark (some (.ref a))) (eval (.Name x np) X.env) Q E { s' with heap := h3 } := fun {Q E} q => by
        rcases hc with ⟨gl, nb2, own | ⟨no, blt, nn⟩⟩
        · exact ld_glob (X := X.suite a ((a, oe3) :: (X.pn ++ pins))) S3 gl own q nb2
        · exact ld_blt (X := X.suite a ((a, oe3) :: (X.pn ++ pins))) S3 gl no blt q nn nb2
      refine named (matches_.here (codeAny_handlers_suite_as (HandSPX.lands_againZ fl3 fun h4 fl4 up4 => ?_)))
      have J4 : Inv X pins σ' H' { s' with heap := h4 } := Inv.landed J nb fl4.1 ((up.trans up3).trans up4) os ag
      obtain ⟨oe4, vs4, g4, z4, d4⟩ := fl4.there
      refine store_ok (X := X.suite a ((a, oe4) :: (X.pn ++ pins))) (v := .ref a) (J4.suite g4 d4 na nL nF) nd hi (.inl loc) rfl (fun s5 S5 => ?_) (.inr loc)
      refine wpAny_mono ((hsu a oe4 cls d (X.pn ++ pins) z4 ⟨_, d4⟩).run [] s5 _ H' _ S5 (go a na)) (fun f s6 ends => ?_) (fun _ _ z => False.elim z)
      cases f with
      | next =>
        obtain ⟨σ6, H6, S6, q6⟩ := ends
        have K6 : Inv X ((a, oe4) :: pins) σ6 H6 s6 := { ok := ok, os := S6.os, bare := S6.bare, base := S6.base, loc := S6.loc, cell := S6.cell, free := S6.free, freeC := S6.freeC, hok := S6.hok, len := S6.len, pin := fun p hp => S6.pin p (by
          rw [List.append_nil]
          rcases List.mem_append.mp hp with h | h
          · exact List.mem_cons_of_mem _ (List.mem_append_left _ h)
          · rcases List.mem_cons.mp h with rfl | h
            · exact List.mem_cons_self
            · exact List.mem_cons_of_mem _ (List.mem_append_right _ h)) }
        exact gone_ok K6 nd hi loc fun s7 K7 => ⟨_, _, track K7 hex n0 npin z4 d4, q6⟩
      | brk => exact ends.elim fun _ e => e.elim fun _ e => e.2.elim
      | cont => exact ends.elim fun _ e => e.elim fun _ e => e.2.elim
      | ret u => exact ends.elim fun _ e => e.elim fun _ e => e.elim fun _ e => e.2.2.elim
    · intro f s1 ends
      cases f with
      | next => exact ends.elim fun σ' e => e.elim fun H' e => wpAny_execs_nil ⟨σ', H', e.1.ofTry ok, e.2⟩
      | brk => exact ends.elim fun σ' e => e.elim fun H' e => ⟨σ', H', e.1.ofTry ok, e.2⟩
      | cont => exact ends.elim fun σ' e => e.elim fun H' e => ⟨σ', H', e.1.ofTry ok, e.2⟩
      | ret u => exact ends.elim fun v e => e.elim fun σ' e => e.elim fun H' e => ⟨v, σ', H', e.1.ofTry ok, e.2⟩
end
/-! ### what is asked of a kept error -/
/-- isinstance(e, c) -/
def rIsT (K : PySem.W.Frag) : List V → Hp → VK → Prop := fun xs H Q => ∃ (a D : Addr) (d : Option Addr) (c : V) (cv : Value) (b : Bool), xs = [.ref a, c] ∧ H a = some (ExT a (.ref D) d) ∧ (∀ dx, d = some dx → ∃ fs, H dx = some (.xd fs)) ∧ ExcC K D ∧ ClsV c cv ∧ PySem.W.kitOne K (.ref D) cv = some b ∧ Q (.bl b) H
theorem instT {P : Program} {w : World} {H : Hp} {h : Heap} {a D : Addr} {d : Option Addr} (ok : HOk P w H h) (e : H a = some (ExT a (.ref D) d)) (xd : ∀ dx, d = some dx → ∃ fs, H dx = some (.xd fs)) : ∃ oe od, PySem.W.InstAt h a oe D od := by
  obtain ⟨oe, vs, g, ⟨z1, z2⟩, f⟩ := exT_at ok e
  cases d with
  | none => exact ⟨oe, none, g, z1, by unfold PySem.W.notCls; rw [f], by rw [z2]; trivial⟩
  | some dx =>
    obtain ⟨fs, ed⟩ := xd dx rfl
    have at_ : ObjOk P w H h dx (.xd fs) := ok dx _ ed
    obtain ⟨m, ns, _⟩ := at_
    obtain ⟨od, ho, _⟩ := lookIn_ns ns
    exact ⟨oe, some od, g, z1, by unfold PySem.W.notCls; rw [f], by rw [z2]; exact ho⟩
theorem call_isT {X : Cx} : CallR X (.builtin "isinstance") (rIsT X.K) := by
  rintro pins s σ H _ us Q I rel ⟨a, D, d, c, cv, b, rfl, e, xd, C, cls, ans, want⟩
  obtain ⟨u1, u2, rfl, r1, r2⟩ := vals2 rel
  cases r1
  obtain rfl := cls.eq r2
  obtain ⟨oe, od, J⟩ := instT I.hok e xd
  have some_ : (PySem.W.clsIn X.K D).isSome = true := by
    obtain ⟨cd, hc, _⟩ := PySem.W.any_some C.hd
    rw [hc]
    rfl
  exact PySem.W.kia_one (PySem.W.kitx_exc some_ C.hg C.hk C.hs C.ha C.hn C.ht C.hm) I.kIn J ans (fun z => nomatch z) fun tk => ⟨.bl b, H, I.tok tk, rfl, want⟩
/-- e.n -/
def tXt (K : PySem.W.Frag) (n : Str) (te : TE) : TE := fun σ H Q => te σ H fun x H1 => ∃ (a C dd : Addr) (fs : List (Str × V)) (v : V), x = .ref a ∧ H1 a = some (ExT a (.ref C) (some dd)) ∧ XfC K C ∧ PySem.W.findIn K (.ref C) n = some none ∧ H1 dd = some (.xd fs) ∧ fs.lookup n = some v ∧ Q v H1
theorem pe_xt {X : Cx} {e : Expr} {te : TE} {pos : Pos} {n : Str} (he : PE X e te) (plain : attributeBase e n X.env (eval e X.env) = eval e X.env := by rfl) : PE X (.Attribute e n pos) (tXt X.K n te) where
  run := by
    intro pins s σ H Q I h
    refine attr_of plain (thn (he.run pins s σ H _ I h) ?_)
    rintro _ s1 ⟨_, H1, I1, rel, a, C, dd, fs, v, rfl, e1, T, no, e2, has, want⟩
    cases rel
    obtain ⟨oe, vs, g, ⟨z1, z2⟩, f⟩ := exT_at I1.hok e1
    have at_ : ObjOk X.prog X.w H1 s1.heap dd (.xd fs) := I1.hok dd _ e2
    obtain ⟨m, ns, rels⟩ := at_
    obtain ⟨od, ho, hl⟩ := lookIn_ns ns
    obtain ⟨u, hu, ru⟩ := RelO.some_of (v := v) (o := m n) (has ▸ rels n)
    have J : PySem.W.InstAt s1.heap a oe C (some od) := ⟨g, z1, by unfold PySem.W.notCls; rw [f], by rw [z2]; exact ho⟩
    exact HandSPX.exc_get I1.kIn J T.ga T.gg T.exC (PySem.W.findObj_own T.hdC no rfl (by rw [hl, hu])) (handed_of ru) ⟨v, H1, I1.tok _, ru, want⟩
/-- X(), an own error without an __init__ of its own -/
theorem pmk_own0 {X : Cx} {C : Addr} {bmB : List Value} {B newId initId : String} {x : Str} {p pos : Pos} (F : ExcBaseFacts B newId initId bmB) (q : PySem.W.excIn X.K C bmB newId = true) (is : X.mg x = some (.ref C)) (kp : PySem.W.keepIn X.K (.ref C) = true) (r : Raises X (.ref C)) (glob : Gl X x)
    (nodebug : (x == ("__debug__" : Str)) = false := by decide) : PMk X (.Call (.Name x p) [] [] pos) (fun _ H Q => Q (.ref C) none H) := by
  intro pins s σ H Q I want
  refine wpAny_Call_Name_kw (ld_glob I glob is ?_ nodebug)
  refine PySem.W.callWith_KW0 (kws := []) (h₀ := X.base) I.ok.mod.kin kp rfl (wpAny_pure ⟨I.kIn, ?_⟩) rfl
  obtain ⟨bm, N, nm, qn, bs, hdct, sn, sub, ab, col, dd, k0, k1, k2, k3, k5, mN, hC, hN, hni, T⟩ := exc_obj I.kIn q
  exact wpAny_call_exc_subT F T hC hN hni (fun h' e made => mk_of I made r want (I.hok.gone made.new)) (Nat.zero_le _)
/-! ### how often a flat value stands in a list -/
def rCnt (K : PySem.W.Frag) : V → List V → Hp → VK → Prop := fun x xs H Q => ∃ p ys y, x = .ref p ∧ xs = [y] ∧ SqL K H p ys ∧ flatV y = true ∧ ys.all flatV = true ∧ Q (.int (ys.countP (fun z => eqV z y) : Nat)) H
theorem count_eqU {y : V} : ∀ {ys : List V} {us : List Value}, Vals ys us → ys.all flatV = true → us.countP (eqU y) = ys.countP fun z => eqV z y
  | _, _, .nil, _ => rfl
  | z :: ys, u :: us, .cons r t, f => by
    simp only [List.all_cons, Bool.and_eq_true] at f
    simp only [List.countP_cons, eqU_of r f.1, count_eqU t f.2]
theorem mt_cnt {X : Cx} : MtR X "list.count" (rCnt X.K) := by
  rintro pins s σ H _ _ v us Q I rx rxs ⟨p, ys, y, rfl, rfl, hs, fy, fys, want⟩
  cases rx
  obtain ⟨u, rfl, ru⟩ := rxs.one
  obtain ⟨its, vals, ⟨⟨cls, dd, data, sl⟩, n, ho, hc, hdn, hd⟩, small⟩ := I.list hs
  dsimp only at hc hd
  subst hc hd
  refine call_meets PySem.F.slot_list_count ⟨_, ho, rfl⟩ PySem.F.entry_list_count (PySem.F.args_list_count_2 _ _) (SeqAt.list_countAt p its.toArray n dd sl u (eqU y)) ⟨ho, fun z hz => mem_eqAt ru fy vals fys z (by simpa using hz), ?_⟩
  refine ⟨.int (ys.countP (fun z => eqV z y) : Nat), H, I.tok _, ⟨s.toks, ?_⟩, want⟩
  rw [← count_eqU vals fys]
/-! ### repr of data -/
inductive Seen (K : PySem.W.Frag) (H : Hp) : V → PyData → Prop
  | dp {x : V} {d : PyData} (h : Dp K H x d) (nd : d.hasDict = false) : Seen K H x d
  | nod {a : Addr} (h : H a = some (.dK [])) : Seen K H (.ref a) (.dict [])
def rRepr (K : PySem.W.Frag) : List V → Hp → VK → Prop := fun xs H Q => ∃ x d, xs = [x] ∧ Seen K H x d ∧ PyData.showable d = true ∧ d.depth ≤ 8 ∧ d.shown.length ≤ sizeLine ∧ Q (.str d.shown) H
theorem reads_nod {P : Program} {w : World} {H : Hp} {h : Heap} {a : Addr} (ok : HOk P w H h) (e : H a = some (.dK [])) : Reads h (.ref a) (.dict []) [a] ∧ sysModules ∉ [a] := by
  have at_ : ObjOk P w H h a (.dK []) := ok a _ e
  obtain ⟨_, ns, vs, kv, o, es, ep, g, ex, d, _, el, _⟩ := at_
  cases kv
  have z : es.toList = [] := List.eq_nil_of_length_eq_zero el.length
  have r0 : ReadsAll h (es.toList.map (·.key)) (([] : List (PyData × PyData)).map (·.1)) [] := by rw [z]; exact .nil
  have r1 : ReadsAll h (es.toList.map (·.val)) (([] : List (PyData × PyData)).map (·.2)) [] := by rw [z]; exact .nil
  exact ⟨.dict g ex.1 d r0 r1, fun m => by rw [List.mem_singleton.mp m] at ns; simp at ns⟩
theorem call_reprD {X : Cx} (gs : X.A.guards = some []) (hu : X.A.units + 64 < cLine) : CallR X (.builtin "repr") (rRepr X.K) := by
  rintro pins s σ H _ us Q I rel ⟨x, d, rfl, seen, sh, dep, len, want⟩
  cases rel with
  | cons ru rn =>
    cases rn
    rename_i u
    have boxed : ∀ (a : Addr) (as : List Addr), Reads s.heap (.ref a) d as → (d.hasDict = true → sysModules ∉ as) → wpAny (model X.prog X.w) X.A (call (.builtin "repr") [.ref a]) (EP X pins σ Q) X.xe s := fun a as r sm =>
      repr_of_reads' r sh sm gs (by omega) (fun _ _ e => e) (fun h' _ tk same => ⟨.str d.shown, H, I.kept (t' := tk) same, ⟨_, rfl⟩, want⟩) len
    cases seen with
    | nod h =>
      cases ru
      obtain ⟨r, n⟩ := reads_nod I.hok h
      exact boxed _ _ r fun _ => n
    | dp h nd =>
      obtain ⟨as, r⟩ := Dp.reads I d _ u h ru
      have no : d.hasDict = true → sysModules ∉ as := fun z => by rw [nd] at z; cases z
      have fin : ∀ {z : Str} {t k : Tok}, z = d.shown → EP X pins σ Q (.str z t) { s with toks := k } := fun {z t k} e => ⟨.str z, H, I.tok k, ⟨_, rfl⟩, e ▸ want⟩
      cases h with
      | non => cases ru; exact PySem.P.repr_of_none (fin (by simp [PyData.shown]))
      | bl b => cases ru; exact PySem.P.repr_of_bool (fin (by simp [PyData.shown]))
      | int i =>
        obtain ⟨t, rfl⟩ := ru
        exact PySem.P.repr_of_int (by simpa [PyData.showable] using sh) (fin (by simp [PyData.shown]))
      | str z =>
        obtain ⟨t, rfl⟩ := ru
        exact PySem.P.repr_of_str (fin (by simp [PyData.shown])) (by simpa [PyData.shown] using len)
      | lst _ _ => cases ru; exact boxed _ _ r no
      | tup _ _ => cases ru; exact boxed _ _ r no
end Wd

set_option Elab.async false
set_option linter.all false
set_option maxRecDepth 100000
set_option maxHeartbeats 4000000
namespace Wd
open PySem PySem.Spec PyProof.Rows L2 WdM
/-! ### defs whose promise wants that no repr is under way around the call -/
structure FnG (P : Program) (w : World) (K : PySem.W.Frag) (mg : Str → Option Value) (base : Heap) (k : Nat) (f : Addr) (fd : FuncData) (ps : List Str) (sp : Sp) : Prop where
  len : ∀ vs H Q E, sp vs H Q E → vs.length = ps.length
  run : ∀ (A : Around) (outer : List Env) (s : Shared) (H : Hp) (args : Args) (us : List Value) (vs : List V) (Q : VK) (E : XK), A.guards = some [] → Room k A → Env0 P w K mg base A outer s H → BindsTo s fd args (ps.zip us) → Vals vs us → sp vs H Q E →
    codeAny (model P w) A (.call (.ref f) args) (CR CX0 outer P w H s Q E) s
section
variable {P : Program} {w : World} {K : PySem.W.Frag} {mg : Str → Option Value} {base : Heap}
theorem okG {x qual : Str} {st : Stmt} {f : Addr} {fd : FuncData} {N ps : List Str} {k : Nat} {sp : Sp} (F : Fun K x qual st f fd) (S : FnScope N ps (defScope st)) (len : ∀ vs H Q E, sp vs H Q E → vs.length = ps.length)
    (body : ∀ (cdv : Value) (A : Around) (outer : List Env) (s : Shared) (H : Hp) (vs : List V) (Q : VK) (E : XK), A.guards = some [] → Room k (A.deeper (envOfC qual (defScope st) s.heap.objs.size f cdv)) → sp vs H Q E →
      ∃ t, PSs (cxOf CX0 P w K mg base N qual (defScope st) f cdv A outer s H E).nox (defBody st) t ∧ t { nx := fun _ H' => Q .non H', rt := Q } (start N vs) H) : FnG P w K mg base (k + 1) f fd ps sp where
  len := len
  run := by
    intro A outer s H args us vs Q E gs room e0 binds rel want
    obtain ⟨oc, od, kV, doc, pm, an, cdv, ct, osl, rfl, at_, code⟩ := F.ex
    have kin : K.In s.heap := e0.mod.kin.keeps fun b o e => (e0.bs b o e).1
    have kinds : ∀ y ∈ ps.zip us, (defScope st).names.lookup y.1 = some .local ∨ ((defScope st).names.lookup y.1 = some .cell ∧ ((cellsFrom (s.heap.objs.size + 1) (defScope st).names []).lookup y.1).isSome = true) := by
      rintro ⟨n, v⟩ hy
      exact (S.par n (List.of_mem_zip hy).1).imp id fun q => ⟨q, PySem.W.cellsFrom_some _ _ _ (.inl q)⟩
    refine codeAny_call_function room.depth (kin _ _ at_) rfl S.co S.gen rfl (PySem.W.codeRec_of kin code) (binds _ _ _ _ (wpAny_newFunctionEnv_cells S.kind kinds ?_))
    rintro env rfl s1 inside
    refine ⟨(e0.mod.nolimit.keeps fun b o e => (e0.bs b o e).1).keeps inside.toInCall.keep, codeAny_func ?_⟩
    obtain ⟨t, ht, good⟩ := body cdv A outer s H vs Q E gs (room.deeper _) want
    refine wpAny_mono (ht.nox.run [] s1 (start N vs) H _ (inv_start S room.hd e0 (len _ _ _ _ want) rel inside) good) (fun fl s' ends => ?_) fun _ _ z => z
    cases fl with
    | ret u => exact ends.elim fun v e => e.elim fun σ' e => e.elim fun H' ⟨J, rv, q⟩ => ⟨v, H', J.os, J.bare, J.base, J.hok, rv, q⟩
    | next => exact ends.elim fun σ' e => e.elim fun H' ⟨J, q⟩ => ⟨.non, H', J.os, J.bare, J.base, J.hok, rfl, q⟩
    | brk => exact ends.elim fun _ e => e.elim fun _ e => e.2.elim
    | cont => exact ends.elim fun _ e => e.elim fun _ e => e.2.elim
end
section
variable {X : Cx} {k : Nat} {f : Addr} {fd : FuncData} {ps : List Str} {sp : Sp} {x : Str} {p pos : Pos} {e : Expr} {es : List Expr} {t : TA}
theorem pe_callG (F : FnG X.prog X.w X.K X.mg X.base k f fd ps sp) (gs : X.A.guards = some []) (room : Room k X.A) (glob : Gl X x) (is : X.mg x = some (.ref f)) (kp : PySem.W.keepIn X.K (.ref f) = true) (bd : Binds X.K fd ps []) (args : PA X (e :: es) t)
    (nodebug : (x == ("__debug__" : Str)) = false := by decide) (star : starEach (e :: es) X.env = (false, eval e X.env) :: starEach es X.env := by rfl) (plain : (backTo pos (starEach es X.env)).any (·.1) = false := by rfl) :
    PE X (.Call (.Name x p) (e :: es) [] pos) (tCall sp [] E0 t) where
  run := by
    intro pins s σ H Q I h
    refine wpAny_Call_Name_kw (ld_glob I glob is (PySem.W.callWith_K (h₀ := X.base) I.ok.mod.kin kp (thn (args.run pos pins s σ H _ I h) ?_) star plain) nodebug)
    rintro us s1 ⟨vs, H1, I1, rel, want⟩
    have rel2 : Vals (vs ++ []) (us ++ []) := rel.append .nil
    refine ⟨I1.kIn, wpAny_call (codeAny_mono (F.run X.A X.stack s1 H1 ⟨us, []⟩ (us ++ []) (vs ++ []) Q E0 gs room I1.env0 (bd s1 us I1.kIn (by rw [← rel2.length]; exact F.len _ _ _ _ want)) rel2 want) fun r s' res => ?_)⟩
    cases r with
    | error er => exact False.elim res
    | ok fl =>
      cases fl with
      | ret u => exact I1.after res
      | next => exact False.elim res
      | brk => exact False.elim res
      | cont => exact False.elim res
end
/-! ### the law's own call -/
theorem law_callG {P : Program} {w : World} {K : PySem.W.Frag} {mg mb : Str → Option Value} {k : Nat} {fa a : Addr} {fd : FuncData} {x : Str} {sp : Sp} {s1 : Shared} {vs : List Value} {ns : List Int}
    (kin : K.In s1.heap) (globs : s1.heap.Ns mainGlobals mg) (blts : s1.heap.Ns builtinsNs mb) (boot : ∀ x : Str, x ≠ "__name__" → mb x = bootBuiltins x) (lim : s1.heap.NoLimit) (nogens : s1.gens = #[])
    (at_ : s1.heap.get? a = some { cls := .type "list", data := .seq vs.toArray }) (its : IntsAre vs ns) (small : ns.length ≤ sizeLine) (room : Room k callerA)
    (F : ∀ base : Heap, K.In base → base.Ns mainGlobals mg → FnG P w K mg base k fa fd [x] sp) (binds : ∀ (s : Shared) (u : Value), BindsTo s fd ⟨[u], []⟩ [(x, u)])
    (good : ∀ H : Hp, SqL K H a (ns.map V.int) → sp [.ref a] H (fun v _ => v = .bl true) fun _ _ _ => False) :
    codeAny (model P w) callerA (.call (.ref fa) ⟨[.ref a], []⟩) (fun r s' => r = .ok (.ret (.bool true)) ∧ OldK s1.heap s'.heap ∧ s'.os = s1.os ∧ AllBare s'.gens) s1 := by
  have go : ∀ H : Hp, (∀ b, H b = none ∨ (b = a ∧ K.lookup a = none ∧ ∃ o u, H b = some (.frz o u))) → SqL K H a (ns.map V.int) → HOk P w H s1.heap →
      codeAny (model P w) callerA (.call (.ref fa) ⟨[.ref a], []⟩) (fun r s' => r = .ok (.ret (.bool true)) ∧ OldK s1.heap s'.heap ∧ s'.os = s1.os ∧ AllBare s'.gens) s1 := by
    intro H only hS hok
    have free : ∀ b o, K.lookup b = some o → H b = none := fun b o e => by
      rcases only b with z | ⟨rfl, z, _⟩
      · exact z
      · rw [z] at e; cases e
    have dicts : ∀ {b : Addr} {m : Str → Option Value}, s1.heap.Ns b m → (hidT s1.heap H).Ns b m := by
      rintro b m ⟨o, es, ep, g, d, r⟩
      refine ⟨o, es, ep, hidT_get g ?_, d, r⟩
      rcases only b with z | ⟨rfl, _, _⟩
      · exact z
      · rw [at_] at g
        cases g
        exact absurd (show Data.seq vs.toArray _ = Data.dict es ep from d) (fun z => by cases z)
    have kb : K.In (hidT s1.heap H) := fun b o e => hidT_get (kin b o e) (free b o e)
    obtain ⟨mc, l1, l2⟩ := lim
    have md : Mod K mg (hidT s1.heap H) := ⟨kb, dicts globs, ⟨mb, dicts blts, boot⟩, mc, dicts l1, l2⟩
    have e0 : Env0 P w K mg (hidT s1.heap H) callerA [] s1 H := ⟨rfl, md, fun b o e => of_hidT e, Nat.le_of_eq (hidT_size _ _), trivial, fun b hb => (by cases hb), hok, .of_eq nogens⟩
    refine codeAny_mono ((F _ kb (dicts globs)).run callerA [] s1 H ⟨[.ref a], []⟩ [.ref a] [.ref a] _ _ rfl room e0 (binds s1 (.ref a)) (.cons rfl .nil) (good H hS)) fun r s' res => ?_
    cases r with
    | error er => exact False.elim res
    | ok fl =>
      cases fl with
      | next => exact False.elim res
      | brk => exact False.elim res
      | cont => exact False.elim res
      | ret u =>
        obtain ⟨v, H', os, bare, un, hok', rv, rfl⟩ := res
        obtain rfl : u = Value.bool true := rv
        refine ⟨rfl, .of_keep fun b o e => ?_, os, bare⟩
        rcases only b with z | ⟨rfl, _, ob, u, z⟩
        · exact un.keep b o e z (fun m => by cases m) (fun m => by cases m)
        · have was := (hok _ _ z).1
          rw [e] at was
          cases was
          exact (hok' _ _ (un.frzs _ _ _ z)).1
  cases own : K.lookup a with
  | some o =>
    have e := kin a o own
    rw [at_] at e
    cases e
    exact go (fun _ => none) (fun _ => .inl rfl) (.inr ⟨_, vs.toArray, _, own, rfl, rfl, rfl, by rw [List.size_toArray, its.length]; exact small, by simpa using vals_ints its⟩) fun b u z => by cases z
  | none =>
    refine go (fun b => if b = a then some (.frz { cls := .type "list", data := .seq vs.toArray } (.lst (ns.map V.int))) else none) (fun b => ?_) (.inl (.inr ⟨_, if_pos rfl⟩)) (fun b u z => ?_)
    · by_cases hb : b = a
      · exact .inr ⟨hb, own, _, _, if_pos hb⟩
      · exact .inl (if_neg hb)
    · by_cases hb : b = a
      · subst hb
        cases (if_pos rfl).symm.trans z
        exact ⟨at_, by rw [List.length_map]; exact small, vs, _, vals_ints its, at_⟩
      · cases (if_neg hb).symm.trans z
theorem walk_G {l : PySem.W.OpenLaw} {n k : Nat} {q : Program} {loose : List Str} {XP : (Str → Option Value) → Heap → Prop} {YP : World → Heap → Prop} {d : DefRec} {K : Params → PySem.W.Frag} {sp : World → Sp} {x : Str}
    (most : l.most = some n) (small : n ≤ sizeLine) (plain : d.params.defaults = []) (room : Room k callerA) (hY : ∀ (w : World) (h : Heap), YP w h → (K w.params).In h)
    (F : ∀ (w : World) (mg : Str → Option Value) (fa : Addr) (h : Heap), (K w.params).In h → h.Ns mainGlobals mg → mg d.name = some (.ref fa) → ∃ fd : FuncData, (∀ (s : Shared) (u : Value), BindsTo s fd ⟨[u], []⟩ [(x, u)]) ∧ ∀ base : Heap, (K w.params).In base → base.Ns mainGlobals mg → FnG l.prog w (K w.params) mg base k fa fd [x] (sp w))
    (good : ∀ (w : World) (H : Hp) (a : Addr) (ns : List Int), ns.length ≤ n → SqL (K w.params) H a (ns.map V.int) → sp w [.ref a] H (fun v _ => v = .bl true) fun _ _ _ => False) :
    PySem.W.WalkO q loose XP YP l.row.toRowW d [] (fun f vs => PySem.call f vs) := by
  refine Att.attach_call most plain fun w s0 s1 mg mb fa o pm cd doc a vs ns G Y _ _ _ is at_ its len gens => ?_
  obtain ⟨fd, binds, promise⟩ := F w mg fa _ (hY w _ Y) G.T.g is
  exact law_callG (hY w _ Y) G.T.g G.T.b G.T.builtins G.T.nolimit gens at_ its (Nat.le_trans len small) room promise binds fun H hS => good w H a ns len hS
end Wd

set_option Elab.async false
set_option linter.all false
set_option maxRecDepth 100000
set_option maxHeartbeats 4000000
namespace Wd
open PySem PySem.Spec PyProof.Rows L2 WdM
/-! ### C(e, ..) where __init__ may raise, what is raised wished for at the caller's slots -/
section
variable {X : Cx} {CX : CXT} {k : Nat} {f C : Addr} {fd : FuncData} {ps : List Str} {sp : Sp} {dvs : List V} {ds : List Value} {E : L2.St → XK} {x : Str} {p pos : Pos} {e : Expr} {es : List Expr} {t : TA}
def tMakeS (C : Addr) (sp : Sp) (dvs : List V) (E : L2.St → XK) (t : TA) : TE := fun σ H Q => t σ H fun vs G => ∀ o d, G o = none → G d = none → d ≠ o → sp (.ref o :: (vs ++ dvs)) (upd (upd G d (.own o)) o (.ins C d [])) (fun v G' => v = .non ∧ Q (.ref o) G') (E σ)
theorem run_makeS {pins : List (Addr × Obj)} {σ : L2.St} {H : Hp} {s : Shared} {Q : VK} {us : List Value} {vs : List V} (M : Mk X.K C f) (F : FnOk X.prog X.w X.K X.mg X.base CX k f fd ps sp) (room : Room (k + 1) X.A) (bd : Binds X.K fd ps ds) (rd : Vals dvs ds) (out : PassesAt CX X σ (E σ)) (I : Inv X pins σ H s) (rel : Vals vs us)
    (want : ∀ o d, H o = none → H d = none → d ≠ o → sp (.ref o :: (vs ++ dvs)) (upd (upd H d (.own o)) o (.ins C d [])) (fun v G' => v = .non ∧ Q (.ref o) G') (E σ)) :
    wpAny (model X.prog X.w) X.A (call (.ref C) us) (EP X pins σ Q) X.xe s := by
  have good := want (s.heap.objs.size + 1) s.heap.objs.size (I.hok.fresh (Nat.le_succ _)) (I.hok.fresh (Nat.le_refl _)) (Nat.ne_of_lt (Nat.lt_succ_self _))
  have J := Inv.made (C := C) I
  have full : Vals (V.ref (s.heap.objs.size + 1) :: (vs ++ dvs)) (Value.ref (s.heap.objs.size + 1) :: (us ++ ds)) := .cons rfl (rel.append rd)
  have many : (Value.ref (s.heap.objs.size + 1) :: us ++ ds).length = ps.length := full.length.symm.trans (F.len _ _ _ _ good)
  refine wpAny_call (make_map (f := f) I.kIn M.makes M.init (beq_iff_eq.mp M.fn) (codeAny_mono (F.run _ X.stack _ _ ⟨Value.ref (s.heap.objs.size + 1) :: us, []⟩ (Value.ref (s.heap.objs.size + 1) :: (us ++ ds)) _ _ (E σ) (room.make C us []) (J.env0.make C us []) (bd _ (Value.ref (s.heap.objs.size + 1) :: us) J.kIn many) full good) fun r s' res => ?_))
  cases r with
  | error er => exact out pins _ _ er s' J res
  | ok fl =>
    cases fl with
    | next => exact False.elim res
    | brk => exact False.elim res
    | cont => exact False.elim res
    | ret u =>
      obtain ⟨v, G, J3, rv, ev, q⟩ := J.after res
      subst ev
      exact ⟨rv, .ref (s.heap.objs.size + 1), G, J3, rfl, q⟩
theorem pe_makeS (M : Mk X.K C f) (F : FnOk X.prog X.w X.K X.mg X.base CX k f fd ps sp) (room : Room (k + 1) X.A) (glob : Gl X x) (is : X.mg x = some (.ref C)) (bd : Binds X.K fd ps ds) (rd : Vals dvs ds) (out : ∀ σ, PassesAt CX X σ (E σ)) (args : PA X (e :: es) t)
    (nodebug : (x == ("__debug__" : Str)) = false := by decide) (star : starEach (e :: es) X.env = (false, eval e X.env) :: starEach es X.env := by rfl) (plain : (backTo pos (starEach es X.env)).any (·.1) = false := by rfl) :
    PE X (.Call (.Name x p) (e :: es) [] pos) (tMakeS C sp dvs E t) where
  run := by
    intro pins s σ H Q I h
    refine wpAny_Call_Name_kw (ld_glob I glob is (PySem.W.callWith_K (h₀ := X.base) I.ok.mod.kin M.kp (thn (args.run pos pins s σ H _ I h) ?_) star plain) nodebug)
    rintro us s1 ⟨vs, H1, I1, rel, want⟩
    exact ⟨I1.kIn, run_makeS M F room bd rd (out σ) I1 rel want⟩
end
/-! ### what is never reached -/
theorem pe_no {X : Cx} {e : Expr} : PE X e (fun _ _ _ => False) := ⟨fun _ _ _ _ _ _ h => h.elim⟩
theorem pt_no {X : Cx} {e : Expr} : PT X e (fun _ _ _ => False) := ⟨fun _ _ _ _ _ _ h => h.elim⟩
theorem ps_no {X : Cx} {st : Stmt} : PS X st (fun _ _ _ => False) := ⟨fun _ _ _ _ _ _ h => h.elim⟩
theorem pss_no {X : Cx} {st : List Stmt} : PSs X st (fun _ _ _ => False) := ⟨fun _ _ _ _ _ _ h => h.elim⟩
/-! ### enumerate of a list or tuple -/
theorem enum_new {v : Value} {o : Obj} {G : Heap → Prop} (B : Begins v o G) :
    Meets (Builtin.«enumerate.__new__» ⟨[.type "enumerate", v], []⟩) (fun _ R s => G s.heap ∧ R (.ok (.ret (.ref (s.heap.push o).objs.size))) { s with heap := (s.heap.push o).push { cls := .type "enumerate", data := .fields #[.none, .bool false, .ref s.heap.objs.size, rawInt 0, .none, .none] } }) :=
  .of_wp fun prog w A R s h => by
    obtain ⟨hp, gs, ds, tk, os⟩ := s
    obtain ⟨g0, fin⟩ := h
    have sub := sub_enumerate
    have iter : ∀ {A' : Around} {E : Value → Shared → Prop} {Q : Value → Shared → Prop}, Q (.ref hp.objs.size) ⟨hp.push o, gs, ds, tk, os⟩ → wpAny (model prog w) A' (pyIter v) Q E ⟨hp, gs, ds, tk, os⟩ := fun q => B.iter prog w _ _ _ _ g0 q
    wp_walk using iter
    refine wpAny_stack_any fun st => wpAny_pure ?_
    split
    · rename_i c _ _ _ _ _
      cases c == Value.type "enumerate" <;> (wp_walk using iter) <;> exact ⟨_, rfl, fin⟩
    · wp_walk using iter
      exact ⟨_, rfl, fin⟩
theorem enum_made {prog : Program} {w : World} {A : Around} {E : Value → Shared → Prop} {s : Shared} {v : Value} {o : Obj} {G : Heap → Prop} {Q : Value → Shared → Prop} (B : Begins v o G) (g0 : G s.heap)
    (want : ∀ h1, IsEnum h1 (s.heap.objs.size + 1) s.heap.objs.size 0 .none → h1.get? s.heap.objs.size = some o → (∀ b o, s.heap.get? b = some o → h1.get? b = some o) → Q (.ref (s.heap.objs.size + 1)) { s with heap := h1 }) :
    wpAny (model prog w) A (call (.type "enumerate") [v]) Q E s := by
  refine callType_new F.called_enumerate (by decide) (F.typeCall_enumerate_1 _) (F.newCall_enumerate_1 _) (fun obj => F.args_object_init_2 obj _) F.entry_enumerate_new (enum_new B) ⟨g0, ?_⟩
  have size1 : (s.heap.push o).objs.size = s.heap.objs.size + 1 := Heap.size_push ..
  have made := Heap.get?_push_size (s.heap.push o) (o := { cls := .type "enumerate", data := .fields #[.none, .bool false, .ref s.heap.objs.size, rawInt 0, .none, .none] }) rfl
  show _ ∧ _
  rw [size1] at made ⊢
  exact ⟨⟨_, made, rfl⟩, want _ made (Heap.get?_push_of_some _ (Heap.get?_push_size _ B.free)) fun b o g => Heap.get?_push_of_some _ (Heap.get?_push_of_some _ g)⟩
def ItE (K : PySem.W.Frag) (k : Feed) (a : Addr) : It where
  go i H := ∃ xs x, k.sq K H a xs ∧ xs[i]? = some x
  yld i H v H' := ∃ T x, v = .ref T ∧ H T = none ∧ H' = upd H T (.tup [.int (i : Nat), x]) ∧ ∀ xs, k.sq K H a xs → xs[i]? = some x
  stop i H := ∃ xs, k.sq K H a xs ∧ xs.length = i
theorem walkE {K : PySem.W.Frag} {k : Feed} {a : Addr} {xs : List V} : Walk (ItE K k a) xs.length (fun H => k.sq K H a xs) (YPair (fun i => some (.int (i : Nat))) fun i => xs[i]?) where
  goes := fun i H hi g => ⟨xs, xs[i], g, List.getElem?_eq_getElem hi⟩
  stops := fun H g => ⟨xs, g, rfl⟩
  yields := fun i H v H' _ g ⟨T, x, e1, e2, e3, e4⟩ => ⟨T, .int (i : Nat), x, e1, e2, e3, rfl, e4 xs g⟩
theorem turnE {P : Program} {w : World} {K : PySem.W.Frag} {elts : List Expr} {kk : Nat} {tpos : Pos} {k : Feed} {a e it : Addr} (na : a ≠ it) (ea : e ≠ a) (ei : e ≠ it) :
    Turn P w K (.Tuple elts kk tpos) (ItE K k a) [e, it] e fun i h => (∃ old, IsEnum h e it ((i : Nat) : Int) old) ∧ k.at_ h it a i where
  mem := List.mem_cons_self
  obj := by
    rintro i h ⟨⟨old, ge⟩, gi⟩ c hc
    rcases List.mem_cons.mp hc with rfl | hc
    · exact ⟨_, ge, fun _ z => nomatch z⟩
    · rw [List.mem_singleton.mp hc]
      exact k.lives gi
  keep := by
    rintro i h h' ⟨⟨old, ge⟩, gi⟩ same
    exact ⟨⟨old, same _ (by simp) _ ge⟩, k.moved gi (same _ (by simp))⟩
  item := by
    rintro X rfl rfl rfl calm i pins s σ H E I free ⟨⟨old, ge⟩, gi⟩ ⟨xs, x, hxs, hx⟩
    obtain ⟨us, rel, st, _⟩ := k.known I hxs
    obtain ⟨u, hu, ru⟩ := rel.get hx
    have hA : X.A.in1.handled = none := I.ok.hd calm
    have el := Heap.lt_size ge
    have n1 : i < us.toArray.size := by
      rw [List.size_toArray]
      exact (List.getElem?_eq_some_iff.mp hu).1
    refine wpAny_pyNext_enum_itemD (k.draws hA na _) ge ⟨gi, st⟩ n1 ei (by simp [ei, ea]) ?_
    rintro u' h1 t1 eu out ⟨d1, _⟩ gT _ same
    obtain rfl : u = u' := Option.some.inj (hu.symm.trans (by simpa using eu))
    refine ⟨_, rfl, wpAny_letOwnedTupleGo_enum (s := { s with heap := h1, toks := t1 + 1 }) out fun h2 ge2 sb => ?_⟩
    have all : ∀ c o, c ∉ [e, it] → s.heap.get? c = some o → h2.get? c = some o := fun c o hc g => by
      simp only [List.mem_cons, List.not_mem_nil, or_false, not_or] at hc
      exact (sb.2 c hc.1).trans (same c o hc.1 hc.2 g)
    have pair : h2.get? s.heap.objs.size = some { cls := .type "tuple", data := .seq #[.int i t1, u] } := (sb.2 _ (Nat.ne_of_gt el)).trans gT
    have made : ObjOk X.prog X.w (upd H s.heap.objs.size (.tup [.int (i : Nat), x])) h2 s.heap.objs.size (.tup [.int (i : Nat), x]) := ⟨by show 2 ≤ sizeLine; decide, [.int i t1, u], .cons ⟨_, rfl⟩ (.cons ru .nil), _, pair, rfl, _, rfl⟩
    refine ⟨.ref s.heap.objs.size, _, I.turnedNew (t' := t1 + 1) all free (Nat.le_refl _) made, rfl, ?_, ?_, ?_⟩
    · exact ⟨_, x, rfl, I.hok.fresh (Nat.le_refl _), rfl, fun l g => k.one I g hxs ▸ hx⟩
    · refine ⟨⟨u, ?_⟩, k.moved d1 fun o g => (sb.2 _ ei.symm).trans g⟩
      rw [show ((i + 1 : Nat) : Int) = (i : Int) + 1 by omega]
      exact ge2
    · intro c hc
      have old : c < s.heap.objs.size := by
        rcases List.mem_cons.mp hc with rfl | hc
        · exact el
        · rw [List.mem_singleton.mp hc]
          obtain ⟨o1, e1, _⟩ := k.lives gi
          exact Heap.lt_size e1
      rw [upd_ne (Nat.ne_of_lt old)]
      exact (free c hc).1
  done := by
    rintro X rfl rfl rfl calm i pins s σ H E I free ⟨⟨old, ge⟩, gi⟩ ⟨xs, hxs, n⟩
    obtain ⟨us, rel, st, _⟩ := k.known I hxs
    have hA : X.A.in1.handled = none := I.ok.hd calm
    have z : us.toArray.size = i := by rw [List.size_toArray, ← rel.length, n]
    refine wpAny_pyNext_enum_endD (k.draws hA na us.toArray) ge ⟨z ▸ gi, st⟩ fun h1 same => ⟨rfl, I.turnedL (t' := s.toks) (fun c o hc g => ?_) free⟩
    simp only [List.mem_cons, List.not_mem_nil, or_false, not_or] at hc
    exact same c o hc.2 g
  self := fun _ _ _ _ _ g q => g.1.elim fun _ ge => wpAny_pyIter_enum ge q
def iE (K : PySem.W.Frag) (k : Feed) (ta : TA) : TI := fun σ H R => ta σ H fun vs H1 => ∃ a xs, vs = [.ref a] ∧ k.sq K H1 a xs ∧ R (ItE K k a) H1
theorem pi_E {X : Cx} {e : Expr} {ta : TA} {p pos tpos : Pos} {elts : List Expr} {kk : Nat} (k : Feed) (hg : Gl X "enumerate") (hm : X.mg "enumerate" = none) (ha : PA X [e] ta) (star : starEach [e] X.env = [(false, eval e X.env)] := by rfl) :
    PI X (.Tuple elts kk tpos) (.Call (.Name "enumerate" p) [e] [] pos) (iE X.K k ta) where
  run := by
    intro pins s σ H R I h
    refine Call_ (ld_blt I hg hm boot_enumerate (PyProof.Rows.callWith_type1 (thn (ha.run pos pins s σ H _ I h) ?_) star rfl))
    rintro us s1 ⟨vs, H1, I1, rel, a, xs, rfl, hxs, r⟩
    rw [Vals.ref1 rel]
    obtain ⟨its, _, st, la⟩ := k.known I1 hxs
    refine enum_made (k.begins a its.toArray) st fun h1 ge gi same => wpAny_pyIter_enum ge ?_
    have I2 : Inv X pins σ H1 { s1 with heap := h1 } := I1.kept (t' := s1.toks) same
    have na : a ≠ s1.heap.objs.size := Nat.ne_of_lt la
    have ea : s1.heap.objs.size + 1 ≠ a := fun z => absurd la (by rw [← z]; exact Nat.not_lt.mpr (Nat.le_succ _))
    refine ⟨s1.heap.objs.size + 1, [s1.heap.objs.size + 1, s1.heap.objs.size], _, _, H1, rfl, I2, turnE na ea (Nat.succ_ne_self _), ⟨⟨.none, ge⟩, k.first gi⟩, fun b hb => ?_, r⟩
    have le : s1.heap.objs.size ≤ b := by
      rcases List.mem_cons.mp hb with rfl | hb
      · exact Nat.le_succ _
      · exact Nat.le_of_eq (List.mem_singleton.mp hb).symm
    exact I1.fpOk le (I1.hok.fresh le)
end Wd

set_option Elab.async false
set_option linter.all false
set_option maxRecDepth 100000
set_option maxHeartbeats 4000000
namespace Wd
open PySem PySem.Spec PyProof.Rows L2 WdM
/-! ### readings may be weakened -/
theorem PE.wk {X : Cx} {e : Expr} {t t' : TE} (h : PE X e t) (w : ∀ σ H Q, t' σ H Q → t σ H Q) : PE X e t' := ⟨fun pins s σ H Q I hw => h.run pins s σ H Q I (w _ _ _ hw)⟩
theorem PA.wk {X : Cx} {es : List Expr} {t t' : TA} (h : PA X es t) (w : ∀ σ H Q, t' σ H Q → t σ H Q) : PA X es t' := ⟨fun pos pins s σ H Q I hw => h.run pos pins s σ H Q I (w _ _ _ hw)⟩
theorem PT.wk {X : Cx} {e : Expr} {t t' : TT} (h : PT X e t) (w : ∀ σ H Q, t' σ H Q → t σ H Q) : PT X e t' := ⟨fun pins s σ H Q I hw => h.run pins s σ H Q I (w _ _ _ hw)⟩
theorem PS.wk {X : Cx} {st : Stmt} {t t' : TS} (h : PS X st t) (w : ∀ D σ H, t' D σ H → t D σ H) : PS X st t' := ⟨fun pins s σ H D I hw => h.run pins s σ H D I (w _ _ _ hw)⟩
theorem PSs.wk {X : Cx} {st : List Stmt} {t t' : TS} (h : PSs X st t) (w : ∀ D σ H, t' D σ H → t D σ H) : PSs X st t' := ⟨fun pins s σ H D I hw => h.run pins s σ H D I (w _ _ _ hw)⟩
theorem tyes {σ : L2.St} {H : Hp} {f : Bool → Hp → Prop} (h : f true H) : tYes σ H f := h
theorem bt_same1 {l : Addr} {H H' : Hp} (e : Bt [l] H H') (h : H l = none) : Same H H' := fun b o q => e b o (by simp [ne_of_none q h]) q
/-- the built-ins' names, which the top leaves alone -/
structure Bi (mg : Str → Option Value) : Prop where
  isi : mg "isinstance" = none
  int : mg "int" = none
  bool : mg "bool" = none
  str : mg "str" = none
  tuple : mg "tuple" = none
  list : mg "list" = none
  len : mg "len" = none
  abs : mg "abs" = none
  all : mg "all" = none
  any : mg "any" = none
  sum : mg "sum" = none
  enum : mg "enumerate" = none
  divmod : mg "divmod" = none
  range : mg "range" = none
  max : mg "max" = none
  min : mg "min" = none
  zip : mg "zip" = none
  repr : mg "repr" = none
section
variable {K : PySem.W.Frag}
/-! ### things of any kind -/
inductive Th (K : PySem.W.Frag) (H : Hp) : V → PyData → Prop
  | dp {x : V} {d : PyData} (h : Dp K H x d) : Th K H x d
  | nod {a : Addr} (h : H a = some (.dK [])) : Th K H (.ref a) (.dict [])
mutual
theorem dp_same {H H' : Hp} (e : Same H H') : ∀ {v : V} {d : PyData}, Dp K H v d → Dp K H' v d
  | _, _, .non => .non
  | _, _, .bl b => .bl b
  | _, _, .int i => .int i
  | _, _, .str x => .str x
  | _, _, .lst h a => .lst (e.seq h) (dpAll_same e a)
  | _, _, .tup h a => .tup ((tk_same e).sq h) (dpAll_same e a)
theorem dpAll_same {H H' : Hp} (e : Same H H') : ∀ {vs : List V} {ds : List PyData}, DpAll K H vs ds → DpAll K H' vs ds
  | _, _, .nil => .nil
  | _, _, .cons h t => .cons (dp_same e h) (dpAll_same e t)
end
theorem Th.same {H H' : Hp} {v : V} {d : PyData} (e : Same H H') (h : Th K H v d) : Th K H' v d := by
  cases h with
  | dp h => exact .dp (dp_same e h)
  | nod h => exact .nod (e _ _ h)
def tyN : PyData → String
  | .none => "NoneType"
  | .bool _ => "bool"
  | .int _ => "int"
  | .str _ => "str"
  | .list _ => "list"
  | .tuple _ => "tuple"
  | .dict _ => "dict"
theorem Th.ty {H : Hp} {v : V} {d : PyData} (h : Th K H v d) : TyX K H v (.type (tyN d)) := by
  cases h with
  | nod h => exact .base (.dK h)
  | dp h =>
    cases h with
    | non => exact .base .non
    | bl b => exact .base (.bl b)
    | int i => exact .base (.int i)
    | str x => exact .base (.str x)
    | lst h _ =>
      rcases h with (h | ⟨o, h⟩) | ⟨o, its, n, e, c, _⟩
      · exact .base (.lst h)
      · exact .base (.frz h)
      · exact .kList e c
    | tup h _ => exact tyT h
/-- whether a thing is an instance of a built-in class -/
def isaB (T : String) : PyData → Bool
  | .none => T == "NoneType"
  | .bool _ => T == "bool" || T == "int"
  | .int _ => T == "int"
  | .str _ => T == "str"
  | .list _ => T == "list"
  | .tuple _ => T == "tuple"
  | .dict _ => T == "dict"
theorem kit_all : ∀ T ∈ ["int", "bool", "str", "tuple", "list"], kitB "NoneType" T = some (T == "NoneType") ∧ kitB "bool" T = some (T == "bool" || T == "int") ∧ kitB "int" T = some (T == "int") ∧ kitB "str" T = some (T == "str") ∧ kitB "list" T = some (T == "list") ∧ kitB "tuple" T = some (T == "tuple") ∧ kitB "dict" T = some (T == "dict") := by
  decide +kernel
theorem kit_isa {T : String} (h : T ∈ ["int", "bool", "str", "tuple", "list"]) (d : PyData) : PySem.W.kitOne K (.type (tyN d)) (.type T) = some (isaB T d) := by
  obtain ⟨a0, a1, a2, a3, a4, a5, a6⟩ := kit_all T h
  cases d
  · exact kit_ty a0
  · exact kit_ty a1
  · exact kit_ty a2
  · exact kit_ty a3
  · exact kit_ty a4
  · exact kit_ty a5
  · exact kit_ty a6
def strB : PyData → Bool
  | .str _ => true
  | _ => false
def tupB : PyData → Bool
  | .tuple _ => true
  | _ => false
def wholeB : PyData → Bool
  | .int _ => true
  | _ => false
theorem kit_str (d : PyData) : PySem.W.kitOne K (.type (tyN d)) (.type "str") = some (strB d) := by
  rw [kit_isa (by decide) d]
  cases d <;> rfl
theorem kit_tup (d : PyData) : PySem.W.kitOne K (.type (tyN d)) (.type "tuple") = some (tupB d) := by
  rw [kit_isa (by decide) d]
  cases d <;> rfl
theorem kit_whole (d : PyData) : ∃ b1 b2, PySem.W.kitOne K (.type (tyN d)) (.type "int") = some b1 ∧ PySem.W.kitOne K (.type (tyN d)) (.type "bool") = some b2 ∧ (b1 && !b2) = wholeB d := by
  refine ⟨_, _, kit_isa (by decide) d, kit_isa (by decide) d, ?_⟩
  cases d <;> rfl
theorem str_of {d : PyData} (h : strB d = true) : ∃ z, d = .str z := by
  cases d with
  | str z => exact ⟨z, rfl⟩
  | _ => cases h
theorem tup_of {d : PyData} (h : tupB d = true) : ∃ ds, d = .tuple ds := by
  cases d with
  | tuple ds => exact ⟨ds, rfl⟩
  | _ => cases h
theorem whole_of {d : PyData} (h : wholeB d = true) : ∃ i, d = .int i := by
  cases d with
  | int i => exact ⟨i, rfl⟩
  | _ => cases h
theorem th_str {H : Hp} {v : V} {z : Str} (h : Th K H v (.str z)) : v = .str z := by
  cases h with
  | dp h => cases h; rfl
theorem th_tup {H : Hp} {v : V} {ds : List PyData} (h : Th K H v (.tuple ds)) : ∃ a xs, v = .ref a ∧ SqT K H a xs ∧ DpAll K H xs ds := by
  cases h with
  | dp h => cases h with | tup hs hd => exact ⟨_, _, rfl, hs, hd⟩
theorem dpAll_len {H : Hp} : ∀ {xs : List V} {ds : List PyData}, DpAll K H xs ds → xs.length = ds.length
  | _, _, .nil => rfl
  | _, _, .cons _ t => congrArg (· + 1) (dpAll_len t)
end
/-! ### names -/
def lettersS : Str := "abcdefghijklmnopqrstuvwxyz"
def noNames : List V := [.str "all", .str "and", .str "children", .str "childless", .str "crown", .str "else", .str "if", .str "lives", .str "not", .str "of", .str "or", .str "stock", .str "to"]
def letB (c : Nat) : Bool := decide (c ∈ lettersS.cps.toList)
def nmB (z : Str) : Bool := decide (1 ≤ z.length ∧ z.length ≤ 8) && !inV (.str z) noNames && z.cps.toList.all letB
def nameB : PyData → Bool
  | .str z => nmB z
  | _ => false
theorem name_no {d : PyData} (h : strB d = false) : nameB d = false := by
  cases d <;> first | rfl | cases h
/-- texts that are not too long -/
def Short (d : PyData) : Prop := ∀ z, d = .str z → z.length ≤ 1000
theorem ixN_nat {n i : Nat} (h : i < n) : ixN n (i : Int) = some i := by
  unfold ixN
  rw [if_pos (by omega), if_pos (by omega)]
  rfl
theorem small_len {n : Nat} (h : n ≤ 1000) : n ≤ sizeLine := Nat.le_trans h (by decide)
end Wd

set_option Elab.async false
set_option linter.all false
set_option maxRecDepth 100000
set_option maxHeartbeats 4000000
namespace Wd
open PySem PySem.Spec PyProof.Rows L2 WdM
/-! ### displays of values that are all of one sort -/
section
variable {X : Cx} {R : L2.St → Hp → Prop} {Bd : Hp → V → Prop} {e : Expr} {es : List Expr} {n : Nat}
/-- where R holds, a value that is Bd -/
def tB (R : L2.St → Hp → Prop) (Bd : Hp → V → Prop) : TE := fun σ H Q => R σ H ∧ ∀ v H', Same H H' → Bd H' v → Q v H'
def taB (R : L2.St → Hp → Prop) (Bd : Hp → V → Prop) (n : Nat) : TA := fun σ H Q => R σ H ∧ ∀ xs H', Same H H' → xs.length = n → (∀ x ∈ xs, Bd H' x) → Q xs H'
def tlB (R : L2.St → Hp → Prop) (Bd : Hp → V → Prop) (n : Nat) : TE := fun σ H Q => R σ H ∧ ∀ p xs H', Same H H' → H' p = none → xs.length = n → (∀ x ∈ xs, Bd H' x) → Q (.ref p) (upd H' p (.lst xs))
/-- kept where the heap grows -/
structure Kp (R : L2.St → Hp → Prop) (Bd : Hp → V → Prop) : Prop where
  r : ∀ σ H H', Same H H' → R σ H → R σ H'
  b : ∀ H H' v, Same H H' → Bd H v → Bd H' v
theorem paB_nil : PA X [] (taB R Bd 0) := PA.wk pa_nil fun σ H Q ⟨_, q⟩ => q [] H (Same.refl H) rfl (fun x hx => nomatch hx)
theorem paB_cons (k : Kp R Bd) (h : PE X e (tB R Bd)) (t : PA X es (taB R Bd n)) (hs : starEach (e :: es) X.env = (false, eval e X.env) :: starEach es X.env := by rfl) : PA X (e :: es) (taB R Bd (n + 1)) :=
  PA.wk (pa_cons h t hs) fun σ H Q ⟨r, q⟩ => ⟨r, fun v H1 s1 b1 => ⟨k.r _ _ _ s1 r, fun xs H2 s2 l2 b2 => q (v :: xs) H2 (s1.trans s2) (by rw [List.length_cons, l2]) (fun x hx => by
    rcases List.mem_cons.mp hx with rfl | hx
    · exact k.b _ _ _ s2 b1
    · exact b2 x hx)⟩⟩
theorem peB_lst {pos : Pos} (t : PA X es (taB R Bd n)) (hn : n ≤ sizeLine) : PE X (.List es pos) (tlB R Bd n) :=
  PE.wk (pe_lst t) fun σ H Q ⟨r, q⟩ => ⟨r, fun xs H1 s1 l1 b1 => ⟨by rw [l1]; exact hn, fun p np => q p xs _ s1 np l1 b1⟩⟩
end
def RT : L2.St → Hp → Prop := fun _ _ => True
section
variable {K : PySem.W.Frag} {X : Cx}
/-- a thing whose texts aren't too long -/
def ThS (K : PySem.W.Frag) (H : Hp) (v : V) : Prop := ∃ d, Th K H v d ∧ Short d
theorem kpS : Kp RT (ThS K) := ⟨fun _ _ _ _ _ => trivial, fun _ _ _ e ⟨d, th, n⟩ => ⟨d, th.same e, n⟩⟩
theorem short_of {d : PyData} (h : strB d = false) : Short d := fun z e => by rw [e] at h; cases h
/-- texts of at most b signs -/
def StrL (b : Nat) (v : V) : Prop := ∃ z : Str, v = .str z ∧ z.length ≤ b
theorem StrL.th {b : Nat} {v : V} {H : Hp} (h : StrL b v) (hb : b ≤ 1000) : ThS K H v := by
  obtain ⟨z, rfl, l⟩ := h
  exact ⟨.str z, .dp (.str z), fun y e => by cases e; omega⟩
theorem at_of {P : V → Prop} {xs : List V} {d : Int} (h : ∀ x ∈ xs, P x) (d0 : 0 ≤ d) (d1 : d < xs.length) : ∃ v, atI xs d = some v ∧ P v := by
  obtain ⟨n, rfl⟩ := Int.eq_ofNat_of_zero_le d0
  have hn : n < xs.length := by omega
  exact ⟨xs[n], atI_nat (List.getElem?_eq_getElem hn), h _ (List.getElem_mem hn)⟩
end
end Wd

set_option Elab.async false
set_option linter.all false
set_option maxRecDepth 100000
set_option maxHeartbeats 4000000
namespace Wd
open PySem PySem.Spec PyProof.Rows L2 WdM
/-- what is never reached, by a name -/
def tsNo : TS := fun _ _ _ => False
theorem pss_noS {X : Cx} {st : List Stmt} : PSs X st tsNo := ⟨fun _ _ _ _ _ _ h => h.elim⟩
/-! ### data with empty dicts in it; its lists and dicts aren't at the places S -/
mutual
inductive Dz (S : List Addr) (K : PySem.W.Frag) (H : Hp) : V → PyData → Prop
  | non : Dz S K H .non .none
  | bl (b : Bool) : Dz S K H (.bl b) (.bool b)
  | int (i : Int) : Dz S K H (.int i) (.int i)
  | str (x : Str) : Dz S K H (.str x) (.str x)
  | lst {a : Addr} {xs : List V} {ds : List PyData} (n : a ∉ S) (h : SqL K H a xs) (t : DzAll S K H xs ds) : Dz S K H (.ref a) (.list ds)
  | tup {a : Addr} {xs : List V} {ds : List PyData} (h : SqT K H a xs) (t : DzAll S K H xs ds) : Dz S K H (.ref a) (.tuple ds)
  | nod {a : Addr} (n : a ∉ S) (h : H a = some (.dK [])) : Dz S K H (.ref a) (.dict [])
inductive DzAll (S : List Addr) (K : PySem.W.Frag) (H : Hp) : List V → List PyData → Prop
  | nil : DzAll S K H [] []
  | cons {v : V} {vs : List V} {d : PyData} {ds : List PyData} (h : Dz S K H v d) (t : DzAll S K H vs ds) : DzAll S K H (v :: vs) (d :: ds)
end
section
variable {S : List Addr} {K : PySem.W.Frag}
structure Stay (S : List Addr) (K : PySem.W.Frag) (H H' : Hp) : Prop where
  l : ∀ a xs, a ∉ S → SqL K H a xs → SqL K H' a xs
  t : ∀ a xs, SqT K H a xs → SqT K H' a xs
  d : ∀ a, a ∉ S → H a = some (.dK []) → H' a = some (.dK [])
mutual
theorem dz_stay {H H' : Hp} (e : Stay S K H H') : ∀ {v : V} {d : PyData}, Dz S K H v d → Dz S K H' v d
  | _, _, .non => .non
  | _, _, .bl b => .bl b
  | _, _, .int i => .int i
  | _, _, .str x => .str x
  | _, _, .lst n h a => .lst n (e.l _ _ n h) (dzAll_stay e a)
  | _, _, .tup h a => .tup (e.t _ _ h) (dzAll_stay e a)
  | _, _, .nod n h => .nod n (e.d _ n h)
theorem dzAll_stay {H H' : Hp} (e : Stay S K H H') : ∀ {vs : List V} {ds : List PyData}, DzAll S K H vs ds → DzAll S K H' vs ds
  | _, _, .nil => .nil
  | _, _, .cons h t => .cons (dz_stay e h) (dzAll_stay e t)
end
theorem stay_same {H H' : Hp} (e : Same H H') : Stay S K H H' := ⟨fun a xs _ h => e.seq h, fun a xs h => (tk_same e).sq h, fun a _ h => e _ _ h⟩
theorem stay_bt {H H' : Hp} (e : Bt S H H') (hl : ∀ a ∈ S, ∃ zs, H a = some (.lst zs)) : Stay S K H H' := ⟨fun a xs n h => by
  rcases h with (h | ⟨o, h⟩) | h
  · exact .inl (.inl (e _ _ n h))
  · exact .inl (.inr ⟨o, e _ _ n h⟩)
  · exact .inr h, fun a xs h => (e.tk hl).sq h, fun a n h => e _ _ n h⟩
theorem Dz.same {H H' : Hp} {v : V} {d : PyData} (h : Dz S K H v d) (e : Same H H') : Dz S K H' v d := dz_stay (stay_same e) h
theorem DzAll.same {H H' : Hp} {v : List V} {d : List PyData} (h : DzAll S K H v d) (e : Same H H') : DzAll S K H' v d := dzAll_stay (stay_same e) h
mutual
theorem Dz.less {H : Hp} : ∀ {v : V} {d : PyData}, Dz S K H v d → Dz [] K H v d
  | _, _, .non => .non
  | _, _, .bl b => .bl b
  | _, _, .int i => .int i
  | _, _, .str x => .str x
  | _, _, .lst n h a => .lst (by simp) h a.less
  | _, _, .tup h a => .tup h a.less
  | _, _, .nod n h => .nod (by simp) h
theorem DzAll.less {H : Hp} : ∀ {vs : List V} {ds : List PyData}, DzAll S K H vs ds → DzAll [] K H vs ds
  | _, _, .nil => .nil
  | _, _, .cons h t => .cons h.less t.less
end
theorem Dz.ty {H : Hp} {v : V} {d : PyData} (h : Dz S K H v d) : TyX K H v (.type (tyN d)) := by
  cases h with
  | non => exact .base .non
  | bl b => exact .base (.bl b)
  | int i => exact .base (.int i)
  | str x => exact .base (.str x)
  | lst _ h _ =>
    rcases h with (h | ⟨o, h⟩) | ⟨o, its, n, e, c, _⟩
    · exact .base (.lst h)
    · exact .base (.frz h)
    · exact .kList e c
  | tup h _ => exact tyT h
  | nod _ h => exact .base (.dK h)
theorem dz_str {H : Hp} {v : V} {z : Str} (h : Dz S K H v (.str z)) : v = .str z := by cases h; rfl
theorem dz_tup {H : Hp} {v : V} {ds : List PyData} (h : Dz S K H v (.tuple ds)) : ∃ a xs, v = .ref a ∧ SqT K H a xs ∧ DzAll S K H xs ds := by
  cases h with
  | tup h t => exact ⟨_, _, rfl, h, t⟩
theorem DzAll.len {H : Hp} : ∀ {xs : List V} {ds : List PyData}, DzAll S K H xs ds → xs.length = ds.length
  | _, _, .nil => rfl
  | _, _, .cons _ t => congrArg (· + 1) t.len
theorem DzAll.get {H : Hp} : ∀ {xs : List V} {ds : List PyData} {i : Nat} {x : V}, DzAll S K H xs ds → xs[i]? = some x → ∃ d, ds[i]? = some d ∧ Dz S K H x d
  | _, _, 0, _, .cons h t, e => by cases e; exact ⟨_, rfl, h⟩
  | _, _, i + 1, _, .cons h t, e => t.get (i := i) e
  | _, _, 0, _, .nil, e => by cases e
  | _, _, i + 1, _, .nil, e => by cases e
theorem DzAll.app {H : Hp} : ∀ {xs ys : List V} {ds es : List PyData}, DzAll S K H xs ds → DzAll S K H ys es → DzAll S K H (xs ++ ys) (ds ++ es)
  | _, _, _, _, .nil, q => q
  | _, _, _, _, .cons h t, q => .cons h (t.app q)
theorem DzAll.take {H : Hp} : ∀ {xs : List V} {ds : List PyData} (n : Nat), DzAll S K H xs ds → DzAll S K H (xs.take n) (ds.take n)
  | _, _, 0, _ => by simp only [List.take_zero]; exact .nil
  | _, _, n + 1, .nil => .nil
  | _, _, n + 1, .cons h t => .cons h (t.take n)
theorem DzAll.drop {H : Hp} : ∀ {xs : List V} {ds : List PyData} (n : Nat), DzAll S K H xs ds → DzAll S K H (xs.drop n) (ds.drop n)
  | _, _, 0, h => h
  | _, _, n + 1, .nil => .nil
  | _, _, n + 1, .cons h t => t.drop n
theorem DzAll.rev {H : Hp} : ∀ {xs : List V} {ds : List PyData}, DzAll S K H xs ds → DzAll S K H xs.reverse ds.reverse
  | _, _, .nil => .nil
  | _, _, .cons h t => by simp only [List.reverse_cons]; exact t.rev.app (.cons h .nil)
theorem DzAll.two {H : Hp} {xs : List V} {ds : List PyData} (h : DzAll S K H xs ds) (l : xs.length = 2) : ∃ x1 x2 d1 d2, xs = [x1, x2] ∧ ds = [d1, d2] ∧ Dz S K H x1 d1 ∧ Dz S K H x2 d2 := by
  cases h with
  | nil => cases l
  | cons h1 t =>
    cases t with
    | nil => cases l
    | cons h2 t =>
      cases t with
      | nil => exact ⟨_, _, _, _, rfl, rfl, h1, h2⟩
      | cons _ _ => simp only [List.length_cons] at l; omega
end
/-- what is asked of a thing at the door -/
structure Is (K : PySem.W.Frag) (H : Hp) (v : V) (d : PyData) : Prop where
  ty0 : ∀ H', Same H H' → TyX K H' v (.type (tyN d))
  str : ∀ z, d = .str z → v = .str z
theorem Is.ty {K : PySem.W.Frag} {H : Hp} {v : V} {d : PyData} (h : Is K H v d) : TyX K H v (.type (tyN d)) := h.ty0 H (Same.refl H)
theorem Dz.is {S : List Addr} {K : PySem.W.Frag} {H : Hp} {v : V} {d : PyData} (h : Dz S K H v d) : Is K H v d := ⟨fun _ e => (h.same e).ty, fun z e => by subst e; exact dz_str h⟩
theorem Th.is {K : PySem.W.Frag} {H : Hp} {v : V} {d : PyData} (h : Th K H v d) : Is K H v d := ⟨fun _ e => (h.same e).ty, fun z e => by subst e; exact th_str h⟩
/-! ### data that is small: depth n, b: lists, no dicts; else dicts, no lists -/
def okS (x : Str) : Prop := ∀ c ∈ x.cps.toList, c < 1114112
def Fine (b : Bool) : Nat → PyData → Prop
  | _, .none => True
  | _, .bool _ => True
  | _, .int i => -1 ≤ i ∧ i ≤ 1
  | _, .str x => okS x ∧ x.length ≤ 30
  | 0, .list _ => False
  | 0, .tuple _ => False
  | 0, .dict _ => False
  | n + 1, .list ds => b = true ∧ ds.length ≤ 8 ∧ ∀ d ∈ ds, Fine b n d
  | n + 1, .tuple ds => ds.length ≤ 8 ∧ ∀ d ∈ ds, Fine b n d
  | _ + 1, .dict [] => b = false
  | _ + 1, .dict (_ :: _) => False
theorem Fine.up {b : Bool} : ∀ {n : Nat} {d : PyData}, Fine b n d → Fine b (n + 1) d
  | n, .none, _ => trivial
  | n, .bool _, _ => trivial
  | n, .int _, h => by cases n <;> exact h
  | n, .str _, h => by cases n <;> exact h
  | n + 1, .list ds, h => ⟨h.1, h.2.1, fun d hd => (h.2.2 d hd).up⟩
  | n + 1, .tuple ds, h => ⟨h.1, fun d hd => (h.2 d hd).up⟩
  | n + 1, .dict [], h => h
  | n + 1, .dict (_ :: _), h => h.elim
theorem Fine.mono {b : Bool} {n : Nat} {d : PyData} (h : Fine b n d) : ∀ {m : Nat}, n ≤ m → Fine b m d := by
  intro m hm
  induction hm with
  | refl => exact h
  | step _ ih => exact ih.up
theorem Fine.short {b : Bool} {n : Nat} {d : PyData} (h : Fine b n d) : Short d := fun z e => by
  subst e
  have h : okS z ∧ z.length ≤ 30 := by cases n <;> exact h
  omega
theorem Fine.mem {b : Bool} {n : Nat} {ds : List PyData} {d : PyData} (h : Fine b n (.tuple ds)) (m : d ∈ ds) : ∃ n, Fine b n d := by
  cases n with
  | zero => exact h.elim
  | succ n => exact ⟨n, h.2 d m⟩
/-- small, in either way -/
def Fin (d : PyData) : Prop := ∃ b n, Fine b n d
theorem Fin.short {d : PyData} (h : Fin d) : Short d := h.elim fun _ h => h.elim fun _ h => h.short
theorem Fin.mem {ds : List PyData} {d : PyData} (h : Fin (.tuple ds)) (m : d ∈ ds) : Fin d := by
  obtain ⟨b, n, h⟩ := h
  exact ⟨b, h.mem m⟩
theorem Fin.len {ds : List PyData} (h : Fin (.tuple ds)) : ds.length ≤ 8 := by
  obtain ⟨b, n, h⟩ := h
  cases n with
  | zero => exact h.elim
  | succ n => exact h.1
def LL : Nat → Nat
  | 0 => 302
  | n + 1 => 8 * (LL n + 2) + 3
theorem LL_up (n : Nat) : LL n ≤ LL (n + 1) := by
  show LL n ≤ 8 * (LL n + 2) + 3
  omega
theorem piled_le {B : Nat} : ∀ {ts : List Str}, (∀ t ∈ ts, t.length ≤ B) → piled ts ≤ ts.length * (B + 2)
  | [], _ => by simp [piled]
  | t :: ts, h => by
    rw [piled_cons, List.length_cons, Nat.succ_mul]
    have h1 := h t List.mem_cons_self
    have h2 := piled_le (ts := ts) fun x hx => h x (List.mem_cons_of_mem _ hx)
    omega
theorem from_le : ∀ (ts : List Str) (k : Nat) (acc : Str), (textFrom k acc ts).length ≤ acc.length + piled ts
  | [], k, acc => by simp [textFrom, piled]
  | t :: ts, k, acc => by
    have ih := from_le ts (k + 1) (acc ++ (if k > 0 then ", " else "" : String) ++ t)
    rw [piled_cons]
    have e : (acc ++ (if k > 0 then ", " else "" : String) ++ t).length ≤ acc.length + (2 + t.length) := by
      rw [strLen_append, strLen_append]
      have : (((if k > 0 then ", " else "" : String) : Str)).length ≤ 2 := by
        split <;> decide
      omega
    show (textFrom (k + 1) _ ts).length ≤ _
    omega
theorem list_le {B : Nat} {ts : List Str} (h : ∀ t ∈ ts, t.length ≤ B) (l : ts.length ≤ 8) : (listText ts).length ≤ 8 * (B + 2) + 3 := by
  unfold listText
  rw [strLen_append]
  have a := from_le ts 0 "["
  have b := piled_le h
  have c : ts.length * (B + 2) ≤ 8 * (B + 2) := Nat.mul_le_mul_right _ l
  have d : ("[" : Str).length = 1 := by decide
  have e : ("]" : Str).length = 1 := by decide
  omega
theorem tuple_le {B : Nat} {ts : List Str} (h : ∀ t ∈ ts, t.length ≤ B) (l : ts.length ≤ 8) : (tupleText ts).length ≤ 8 * (B + 2) + 3 := by
  unfold tupleText
  rw [strLen_append, strLen_append]
  have b := piled_le h
  have c : ts.length * (B + 2) ≤ 8 * (B + 2) := Nat.mul_le_mul_right _ l
  have d : ("(" : Str).length = 1 := by decide
  have e : (((if ts.length == 1 then ",)" else ")" : String) : Str)).length ≤ 2 := by split <;> decide
  by_cases z : ts = []
  · subst z
    have : (Str.join ", " []).length = 0 := by decide
    omega
  · have := join_length_add ts z
    omega
theorem shownAll_eq : ∀ ds : List PyData, PyData.shownAll ds = ds.map PyData.shown
  | [] => by simp [PyData.shownAll]
  | d :: ds => by simp only [PyData.shownAll, List.map_cons, shownAll_eq ds]
theorem showableAll_eq : ∀ {ds : List PyData}, (∀ d ∈ ds, PyData.showable d = true) → PyData.showableAll ds = true
  | [], _ => by simp [PyData.showableAll]
  | d :: ds, h => by
    simp only [PyData.showableAll, h d List.mem_cons_self, Bool.true_and]
    exact showableAll_eq fun x hx => h x (List.mem_cons_of_mem _ hx)
theorem depthAll_le {n : Nat} : ∀ {ds : List PyData}, (∀ d ∈ ds, PyData.depth d ≤ n) → PyData.depthAll ds ≤ n
  | [], _ => by simp [PyData.depthAll]
  | d :: ds, h => by
    simp only [PyData.depthAll]
    exact Nat.max_le.mpr ⟨h d List.mem_cons_self, depthAll_le fun x hx => h x (List.mem_cons_of_mem _ hx)⟩
theorem hasDictAll_no : ∀ {ds : List PyData}, (∀ d ∈ ds, PyData.hasDict d = false) → PyData.hasDictAll ds = false
  | [], _ => by simp [PyData.hasDictAll]
  | d :: ds, h => by
    simp only [PyData.hasDictAll, h d List.mem_cons_self, Bool.false_or]
    exact hasDictAll_no fun x hx => h x (List.mem_cons_of_mem _ hx)
theorem Fine.shown {b : Bool} : ∀ {n : Nat} {d : PyData}, Fine b n d → (PyData.shown d).length ≤ LL n ∧ PyData.showable d = true ∧ PyData.depth d ≤ n ∧ (b = true → PyData.hasDict d = false) := by
  have l0 : ∀ n, 302 ≤ LL n := fun n => by
    induction n with
    | zero => exact Nat.le_refl _
    | succ n ih => exact Nat.le_trans ih (LL_up n)
  intro n
  induction n with
  | zero =>
    intro d h
    cases d with
    | none => exact ⟨by simp only [PyData.shown]; decide, by simp [PyData.showable], by simp [PyData.depth], fun _ => by simp [PyData.hasDict]⟩
    | bool c => exact ⟨by simp only [PyData.shown]; cases c <;> decide, by simp [PyData.showable], by simp [PyData.depth], fun _ => by simp [PyData.hasDict]⟩
    | int i =>
      have h : -1 ≤ i ∧ i ≤ 1 := h
      have : i = -1 ∨ i = 0 ∨ i = 1 := by omega
      rcases this with rfl | rfl | rfl <;> exact ⟨by simp only [PyData.shown]; decide, by simp only [PyData.showable]; decide, by simp [PyData.depth], fun _ => by simp [PyData.hasDict]⟩
    | str x =>
      have h : okS x ∧ x.length ≤ 30 := h
      refine ⟨?_, by simp [PyData.showable], by simp [PyData.depth], fun _ => by simp [PyData.hasDict]⟩
      simp only [PyData.shown]
      have := StrLaws.reprText_len x (fun c hc => Nat.lt_of_lt_of_le (h.1 c hc) (by decide))
      show _ ≤ 302
      omega
    | list ds => exact h.elim
    | tuple ds => exact h.elim
    | dict ds => exact h.elim
  | succ n ih =>
    intro d h
    cases d with
    | none => exact ⟨Nat.le_trans (by simp only [PyData.shown]; decide) (l0 _), by simp [PyData.showable], by simp [PyData.depth], fun _ => by simp [PyData.hasDict]⟩
    | bool c => exact ⟨Nat.le_trans (by simp only [PyData.shown]; cases c <;> decide) (l0 _), by simp [PyData.showable], by simp [PyData.depth], fun _ => by simp [PyData.hasDict]⟩
    | int i =>
      have h : -1 ≤ i ∧ i ≤ 1 := h
      have : i = -1 ∨ i = 0 ∨ i = 1 := by omega
      rcases this with rfl | rfl | rfl <;> exact ⟨Nat.le_trans (by simp only [PyData.shown]; decide) (l0 _), by simp only [PyData.showable]; decide, by simp [PyData.depth], fun _ => by simp [PyData.hasDict]⟩
    | str x =>
      have h : okS x ∧ x.length ≤ 30 := h
      refine ⟨?_, by simp [PyData.showable], by simp [PyData.depth], fun _ => by simp [PyData.hasDict]⟩
      simp only [PyData.shown]
      have := StrLaws.reprText_len x (fun c hc => Nat.lt_of_lt_of_le (h.1 c hc) (by decide))
      have := l0 (n + 1)
      omega
    | list ds =>
      have h : b = true ∧ ds.length ≤ 8 ∧ ∀ d ∈ ds, Fine b n d := h
      refine ⟨?_, ?_, ?_, fun hb => ?_⟩
      · simp only [PyData.shown, shownAll_eq]
        exact list_le (fun t ht => by obtain ⟨d, hd, rfl⟩ := List.mem_map.mp ht; exact (ih (h.2.2 d hd)).1) (by rw [List.length_map]; exact h.2.1)
      · simp only [PyData.showable]
        exact showableAll_eq fun d hd => (ih (h.2.2 d hd)).2.1
      · simp only [PyData.depth]
        have := depthAll_le fun d hd => (ih (h.2.2 d hd)).2.2.1
        omega
      · simp only [PyData.hasDict]
        exact hasDictAll_no fun d hd => (ih (h.2.2 d hd)).2.2.2 hb
    | tuple ds =>
      have h : ds.length ≤ 8 ∧ ∀ d ∈ ds, Fine b n d := h
      refine ⟨?_, ?_, ?_, fun hb => ?_⟩
      · simp only [PyData.shown, shownAll_eq]
        exact tuple_le (fun t ht => by obtain ⟨d, hd, rfl⟩ := List.mem_map.mp ht; exact (ih (h.2 d hd)).1) (by rw [List.length_map]; exact h.1)
      · simp only [PyData.showable]
        exact showableAll_eq fun d hd => (ih (h.2 d hd)).2.1
      · simp only [PyData.depth]
        have := depthAll_le fun d hd => (ih (h.2 d hd)).2.2.1
        omega
      · simp only [PyData.hasDict]
        exact hasDictAll_no fun d hd => (ih (h.2 d hd)).2.2.2 hb
    | dict kvs =>
      cases kvs with
      | nil =>
        have h : b = false := h
        refine ⟨Nat.le_trans ?_ (l0 _), by simp [PyData.showable, PyData.showableKv], by simp [PyData.depth, PyData.depthKv], fun hb => by rw [h] at hb; cases hb⟩
        simp only [PyData.shown, PyData.shownKv]
        decide
      | cons kv r => exact h.elim
theorem LL5 : LL 5 ≤ sizeLine := by decide
/-! ### such data in the machine's heap -/
section
variable {S : List Addr} {X : Cx} {pins : List (Addr × Obj)} {σ : L2.St} {H : Hp} {s : Shared}
mutual
theorem Dz.reads (I : Inv X pins σ H s) : ∀ (d : PyData) (v : V) (u : Value), Dz S X.K H v d → RelV v u → ∃ as, Reads s.heap u d as ∧ ∀ n, Fine false n d → sysModules ∉ as
  | .none, _, _, h, r => by
    cases h; cases r
    exact ⟨_, .none, fun _ _ => by simp⟩
  | .bool b, _, _, h, r => by
    cases h; cases r
    exact ⟨_, .bool b, fun _ _ => by simp⟩
  | .int i, _, _, h, r => by
    cases h
    obtain ⟨t, rfl⟩ := r
    exact ⟨_, .int i t, fun _ _ => by simp⟩
  | .str x, _, _, h, r => by
    cases h
    obtain ⟨t, rfl⟩ := r
    exact ⟨_, .str x t, fun _ _ => by simp⟩
  | .list ds, _, _, h, r => by
    cases h with
    | lst _ hs ha =>
      cases r
      obtain ⟨its, rv, ⟨o, n, ho, hc, _, hd⟩, _⟩ := I.list hs
      obtain ⟨as, hr, _⟩ := Dz.readsAll I ds _ its ha rv
      refine ⟨_, .list ho hc hd hr, fun n f => ?_⟩
      cases n with
      | zero => exact f.elim
      | succ n => exact nomatch f.1
  | .tuple ds, _, _, h, r => by
    cases h with
    | tup hs ha =>
      cases r
      obtain ⟨its, rv, ⟨o, ho, hc, n, hd⟩, _⟩ := I.tuple hs
      obtain ⟨as, hr, no⟩ := Dz.readsAll I ds _ its ha rv
      refine ⟨_, .tuple ho hc hd hr, fun n f => ?_⟩
      cases n with
      | zero => exact f.elim
      | succ n => exact no n f.2
  | .dict kvs, _, _, h, r => by
    cases h with
    | nod _ h =>
      cases r
      obtain ⟨q, n⟩ := reads_nod I.hok h
      exact ⟨_, q, fun _ _ => n⟩
theorem Dz.readsAll (I : Inv X pins σ H s) : ∀ (ds : List PyData) (vs : List V) (us : List Value), DzAll S X.K H vs ds → Vals vs us → ∃ as, ReadsAll s.heap us ds as ∧ ∀ n, (∀ d ∈ ds, Fine false n d) → sysModules ∉ as
  | [], _, _, h, r => by
    cases h; cases r
    exact ⟨_, .nil, fun _ _ => by simp⟩
  | d :: ds, _, _, h, r => by
    cases h with
    | cons h1 h2 =>
      cases r with
      | cons r1 r2 =>
        obtain ⟨as, q1, n1⟩ := Dz.reads I d _ _ h1 r1
        obtain ⟨bs, q2, n2⟩ := Dz.readsAll I ds _ _ h2 r2
        exact ⟨_, .cons q1 q2, fun n f m => (List.mem_append.mp m).elim (n1 n (f d List.mem_cons_self)) (n2 n fun x hx => f x (List.mem_cons_of_mem _ hx))⟩
end
end
def rReprZ (K : PySem.W.Frag) : List V → Hp → VK → Prop := fun xs H Q => ∃ x d b, xs = [x] ∧ Dz [] K H x d ∧ Fine b 5 d ∧ Q (.str d.shown) H
theorem call_reprZ {X : Cx} (gs : X.A.guards = some []) (hu : X.A.units + 64 < cLine) : CallR X (.builtin "repr") (rReprZ X.K) := by
  rintro pins s σ H _ us Q I rel ⟨x, d, b, rfl, dz, fine, want⟩
  obtain ⟨len, sh, dep, nd⟩ := fine.shown
  have len : d.shown.length ≤ sizeLine := Nat.le_trans len LL5
  cases rel with
  | cons ru rn =>
    cases rn
    rename_i u
    obtain ⟨as, r, sm⟩ := Dz.reads I d _ u dz ru
    have sm : d.hasDict = true → sysModules ∉ as := fun h => by
      cases b with
      | true => rw [nd rfl] at h; cases h
      | false => exact sm 5 fine
    have boxed : ∀ a : Addr, Reads s.heap (.ref a) d as → wpAny (model X.prog X.w) X.A (call (.builtin "repr") [.ref a]) (EP X pins σ Q) X.xe s := fun a r =>
      repr_of_reads' r sh sm gs (by omega) (fun _ _ e => e) (fun h' _ tk same => ⟨.str d.shown, H, I.kept (t' := tk) same, ⟨_, rfl⟩, want⟩) len
    have fin : ∀ {z : Str} {t k : Tok}, z = d.shown → EP X pins σ Q (.str z t) { s with toks := k } := fun {z t k} e => ⟨.str z, H, I.tok k, ⟨_, rfl⟩, e ▸ want⟩
    cases dz with
    | non => cases ru; exact PySem.P.repr_of_none (fin (by simp [PyData.shown]))
    | bl b => cases ru; exact PySem.P.repr_of_bool (fin (by simp [PyData.shown]))
    | int i =>
      obtain ⟨t, rfl⟩ := ru
      exact PySem.P.repr_of_int (by simpa [PyData.showable] using sh) (fin (by simp [PyData.shown]))
    | str z =>
      obtain ⟨t, rfl⟩ := ru
      exact PySem.P.repr_of_str (fin (by simp [PyData.shown])) (by simpa [PyData.shown] using len)
    | lst _ _ _ => cases ru; exact boxed _ r
    | tup _ _ => cases ru; exact boxed _ r
    | nod _ _ => cases ru; exact boxed _ r
end Wd

set_option Elab.async false
set_option linter.all false
set_option maxRecDepth 100000
set_option maxHeartbeats 4000000
set_option exponentiation.threshold 5000
namespace WdQ
open PySem PySem.Spec PyProof.Rows L2 WdM Wd
def topS (i : Nat) : Stmt := PySem.Challenge.pw_willdealt_k13_what_conditions_are.main.body.getD i (.Pass ⟨0, 0, 0, 0⟩)
abbrev sName : Stmt := topS 37
theorem scName : FnScope ["thing", "sign"] ["thing"] (defScope sName) := ⟨rfl, rfl, rfl, by decide +kernel, rfl, by decide +kernel, by decide +kernel⟩
/-- what the top holds for names -/
structure NmF (K : PySem.W.Frag) (mg : Str → Option Value) (aW : Addr) : Prop where
  gL : ∃ t, mg "LETTERS" = some (.str lettersS t)
  gN : ∃ t, mg "LONGEST" = some (.int 8 t)
  gW : mg "WORDS" = some (.ref aW)
  tW : ∀ H, SqT K H aW noNames
section
variable {P : Program} {w : World} {K : PySem.W.Frag} {mg : Str → Option Value} {base : Heap}
def spName (K : PySem.W.Frag) : Sp := fun vs H Q _ => ∃ (v : V) (d : PyData), vs = [v] ∧ Is K H v d ∧ Short d ∧ ∀ H', Same H H' → Q (.bl (nameB d)) H'
theorem ok_name {f : Addr} {fd : FuncData} {k : Nat} {aW : Addr} (B : Bi mg) (T : NmF K mg aW) (D : Df K mg "is_name" sName f fd ["thing"]) : FnOk P w K mg base CX0 (k + 1) f fd ["thing"] (spName K) := by
  refine D.fn.ok scName (fun vs H Q E h => ?_) (fun cdv A outer s H vs Q E hr h => ?_)
  · obtain ⟨v, d, rfl, _⟩ := h
    rfl
  · obtain ⟨v, d, rfl, th, sk, q⟩ := h
    obtain ⟨tL, gL⟩ := T.gL
    obtain ⟨tN, gN⟩ := T.gN
    refine ⟨_, pss_cons (ps_if (PW.pt (pw_or (pt_not (pt_val (pe_callB call_isi (by rfl) B.isi boot_isinstance (pa_cons (pv 0) (pa_cons (pe_bltn (v := .ty "str") (by rfl) B.str boot_str rfl) pa_nil)))))
          (pw_or1 (pt_not (pt_chain op_le op_le pe_int (pe_callB call_len_str (by rfl) B.len PySem.boot_len (pa_cons (pv 0) pa_nil)) (pe_glob (v := .int 8) (by rfl) gN ⟨_, rfl⟩)))))) (pss_one (ps_ret pe_bl)) pss_nil)
      (pss_one (ps_ret (pe_and (pe_cmpR op_notIn_seq (pv 0) (pe_glob (v := .ref aW) (by rfl) T.gW rfl) (by rfl)) (pe_one (pe_callB (cr_all rfl) (by rfl) B.all (by decide +kernel) (pa_cons
          (pe_lc (own := [("sign", 1)]) (g := gName 1) (tt := tYes) rfl scName.nd (pi_str (pv 0)) (blkOk_by (own := [("sign", 1)]) (N := ["thing", "sign"]) (sc := defScope sName) (by decide +kernel))
            (fun _ _ _ _ _ => pg_name (i := 1) scName.nd rfl (Or.inl rfl)) (fun _ _ _ _ _ => pts_nil)
            (fun _ _ _ _ _ => pe_cmpR op_in_sign (pv 1) (pe_glob (v := .str lettersS) (by rfl) gL ⟨_, rfl⟩) (by rfl))) pa_nil)))))), ?_⟩
    refine ⟨_, rfl, _, .ty "str", _, .type "str", _, rfl, .ty _, th.ty, kit_str d, _, rfl, ?_⟩
    by_cases hs : strB d = true
    · rw [hs]
      obtain ⟨z, rfl⟩ := str_of hs
      obtain rfl := th.str z rfl
      have zl := sk z rfl
      have no : ¬ (1 ≤ z.length ∧ z.length ≤ 8) → nameB (.str z) = false := fun e => by
        show (decide _ && _ && _) = false
        rw [decide_eq_false e]
        rfl
      refine iteF ⟨_, rfl, z, rfl, small_len zl, 1, _, rfl, rfl, _, rfl, ?_⟩
      by_cases l0 : 1 ≤ z.length
      · rw [decide_eq_true (show (1 : Int) ≤ (z.length : Int) by omega)]
        refine iteT ⟨_, 8, rfl, rfl, _, rfl, ?_⟩
        by_cases l1 : z.length ≤ 8
        · rw [decide_eq_true (show (z.length : Int) ≤ 8 by omega)]
          refine iteF ⟨_, rfl, aW, noNames, rfl, .inr (T.tW H), rfl, rfl, _, rfl, ?_⟩
          have yes : nameB (.str z) = (!inV (.str z) noNames && z.cps.toList.all letB) := by
            show (decide _ && _ && _) = _
            rw [decide_eq_true ⟨l0, l1⟩]
            rfl
          rw [yes] at q
          by_cases hi : inV (.str z) noNames = true
          · rw [hi] at q ⊢
            exact iteF (q H (Same.refl H))
          · have hi' : inV (.str z) noNames = false := by simpa using hi
            rw [hi'] at q ⊢
            refine iteT ⟨_, rfl, z, rfl, fun L nL => lc_it walk_str (fun i H' => H' L = some (.lst (((z.cps.toList.take i).map letB).map V.bl)) ∧ Same H H') ⟨upd_same, same_new nL⟩ (fun _ _ _ _ => trivial) ?_ ?_⟩
            · rintro i x H1 H' hx ⟨hL, sm⟩ ⟨rfl, c, hc, rfl⟩
              refine ⟨rfl, tyes (iteT ⟨_, rfl, c, lettersS, rfl, rfl, ?_⟩)⟩
              have hc' : z.cps.toList[i]? = some c := by simpa using hc
              refine ⟨_, hL, ?_, ?_, ?_⟩
              · rw [List.length_map, List.length_map, List.length_take]
                exact small1000 (by have := lt_get hc'; have : z.cps.toList.length = z.length := by simp [Str.length]
                                    omega)
              · rw [upd_same, take_more hc', List.map_append, List.map_append]
                rfl
              · exact ((Bt.of_same (S := []) sm).upd0 nL).same
            · rintro H' ⟨hL, sm⟩
              have e : z.cps.toList.take z.cps.size = z.cps.toList := List.take_of_length_le (by simp)
              rw [e] at hL
              refine ⟨L, _, rfl, sqL hL, ?_⟩
              have e2 : (z.cps.toList.map letB).all id = z.cps.toList.all letB := by rw [List.all_map]; rfl
              rw [e2]
              exact q H' sm
        · rw [decide_eq_false (show ¬ (z.length : Int) ≤ 8 by omega)]
          rw [no (fun e => l1 e.2)] at q
          exact iteT (q H (Same.refl H))
      · rw [decide_eq_false (show ¬ (1 : Int) ≤ (z.length : Int) by omega)]
        rw [no (fun e => l0 e.1)] at q
        exact iteF ⟨_, rfl, iteT (q H (Same.refl H))⟩
    · have hs' : strB d = false := by simpa using hs
      rw [hs']
      rw [name_no hs'] at q
      exact iteT (iteT (q H (Same.refl H)))
end
end WdQ

set_option Elab.async false
set_option linter.all false
set_option maxRecDepth 100000
set_option maxHeartbeats 4000000
set_option exponentiation.threshold 5000
namespace WdQ
open PySem PySem.Spec PyProof.Rows L2 WdM Wd
abbrev sPool : Stmt := topS 70
abbrev sTake : Stmt := topS 71
theorem scPool : FnScope ["_law_script", "_law_k", "_law_cell", "_law_more", "_law_wide", "_law_found", "_law_turn"] ["_law_script", "_law_k"] (defScope sPool) := ⟨rfl, rfl, rfl, by decide +kernel, rfl, by decide +kernel, by decide +kernel⟩
theorem scTake : FnScope ["_law_pool_here", "_law_many", "_law_digit"] ["_law_pool_here", "_law_many"] (defScope sTake) := ⟨rfl, rfl, rfl, by decide +kernel, rfl, by decide +kernel, by decide +kernel⟩
def PoolAt (H : Hp) (l : Addr) : Prop := ∃ n m : Int, H l = some (.lst [.int n, .int m]) ∧ 0 ≤ n ∧ n.natAbs < 2 ^ 1300 ∧ 0 ≤ m ∧ m < 999999999989
theorem PoolAt.lst {H : Hp} {l : Addr} (h : PoolAt H l) : ∀ a ∈ [l], ∃ zs, H a = some (.lst zs) := fun a ha => by
  obtain ⟨n, m, e, _⟩ := h
  rw [List.mem_singleton.mp ha]
  exact ⟨_, e⟩
theorem PoolAt.same {H H' : Hp} {l : Addr} (h : PoolAt H l) (e : Same H H') : PoolAt H' l := by
  obtain ⟨n, m, a, b⟩ := h
  exact ⟨n, m, e _ _ a, b⟩
theorem PoolAt.ne {H : Hp} {l p : Addr} (h : PoolAt H l) (e : H p = none) : l ≠ p := by
  obtain ⟨n, m, a, b⟩ := h
  exact ne_of_none a e
theorem PoolAt.upd {H : Hp} {l p : Addr} {o : HO} (h : PoolAt H l) (e : l ≠ p) : PoolAt (upd H p o) l := by
  obtain ⟨n, m, a, b⟩ := h
  exact ⟨n, m, by rw [upd_ne e]; exact a, b⟩
theorem kept {S : List Addr} {H H' : Hp} {b : Addr} {o : HO} (e : Bt S H H') (h : H b = some o) (n : b ∉ S) : H' b = some o := e b o n h
theorem lst_ne {H : Hp} {l p : Addr} {ws : List V} (h : PoolAt H l) (e : H p = some (.lst ws)) (n : ws.length ≠ 2) : p ≠ l := fun z => by
  obtain ⟨m, m2, q, _⟩ := h
  rw [← z, e] at q
  exact n (congrArg (fun o : Option HO => match o with | some (.lst xs) => xs.length | _ => 0) q)
section
variable {P : Program} {w : World} {K : PySem.W.Frag} {mg : Str → Option Value} {base : Heap}
def spTake : Sp := fun vs H Q _ => ∃ (l : Addr) (m : Int), vs = [.ref l, .int m] ∧ PoolAt H l ∧ 0 < m ∧ ∀ H' d, Bt [l] H H' → PoolAt H' l → 0 ≤ d → d < m → Q (.int d) H'
theorem ok_take {f : Addr} {fd : FuncData} {k : Nat} (B : Bi mg) (D : Df K mg "_law_take" sTake f fd ["_law_pool_here", "_law_many"]) : FnOk P w K mg base CX0 (k + 1) f fd ["_law_pool_here", "_law_many"] spTake := by
  refine D.fn.ok scTake (fun vs H Q E h => ?_) (fun cdv A outer s H vs Q E hr h => ?_)
  · obtain ⟨l, m, rfl, _⟩ := h
    rfl
  · obtain ⟨l, m, rfl, ⟨n, y, hl, n0, nB, y0, y1⟩, m0, q⟩ := h
    refine ⟨_, pss_cons (ps_if (pt_cmpR op_gt (pe_ix (r := rIxL K) ix_list (pv 0) pe_int (fun _ _ => rfl)) pe_int (nomark _))
        (pss_cons (ps_asg (pe_callB call_divmodW (by rfl) B.divmod (by decide +kernel) (pa_cons (pe_ix (r := rIxL K) ix_list (pv 0) pe_int (fun _ _ => rfl)) (pa_cons (pv 1) pa_nil)))
          (pg_tup rfl (pgs_cons (pg_sub (pv 0) pe_int set_list) (pgs_cons (pg_name (i := 2) scTake.nd rfl (.inl rfl)) pgs_nil))))
        (pss_one (ps_ret (pv 2)))) pss_nil)
      (pss_cons (ps_asg (pe_op op_mod (pe_op op_add (pe_op op_mul (pe_ix (r := rIxL K) ix_list (pv 0) pe_int (fun _ _ => rfl)) pe_int) pe_int) pe_int) (pg_sub (pv 0) pe_int set_list))
      (pss_one (ps_ret (pe_op op_mod (pe_op op_fdiv (pe_ix (r := rIxL K) ix_list (pv 0) pe_int (fun _ _ => rfl)) pe_int) (pv 1))))), ?_⟩
    refine ⟨_, rfl, l, _, 0, .int n, rfl, rfl, sqL hl, atI_nat (j := 0) rfl, n, 0, rfl, rfl, _, rfl, ?_⟩
    by_cases np : 0 < n
    · rw [decide_eq_true np]
      refine iteT ⟨_, rfl, l, _, 0, .int n, rfl, rfl, sqL hl, atI_nat (j := 0) rfl, _, rfl, n, m, rfl, divp_ok m0 ?_, fun p hp => ?_⟩
      · have := PyProof.Rows.intBits_le nB
        omega
      · have nlp : l ≠ p := ne_of_none hl hp
        have hl2 : (upd H p (.tup [.int (n / m), .int (n % m)])) l = some (.lst [.int n, .int y]) := by rw [upd_ne nlp]; exact hl
        refine ⟨p, _, rfl, sqT upd_same, rfl, _, _, rfl, _, rfl, l, _, 0, 0, rfl, rfl, hl2, ixN_nat (n := 2) (i := 0) (by decide), _, _, rfl, rfl, ?_⟩
        refine ⟨_, rfl, q _ _ (((Bt.refl H).new hp).upd1 (by simp)) ⟨n / m, y, upd_same, Int.ediv_nonneg n0 (Int.le_of_lt m0), ?_, y0, y1⟩ (Int.emod_nonneg n (by omega)) (Int.emod_lt_of_pos n m0)⟩
        exact wide_le (Int.ediv_nonneg n0 (Int.le_of_lt m0)) (Int.ediv_le_self _ n0) nB
    · rw [decide_eq_false np]
      have z0 := Int.emod_nonneg (y * 69621 + 40503) (show (999999999989 : Int) ≠ 0 by decide)
      have z1 := Int.emod_lt_of_pos (y * 69621 + 40503) (show (0 : Int) < 999999999989 by decide)
      refine iteF ⟨_, rfl, l, _, 1, .int y, rfl, rfl, sqL hl, atI_nat (j := 1) rfl, y, 69621, rfl, rfl, .inr ⟨by decide, by decide⟩, _, 40503, rfl, rfl, _, 999999999989, rfl, rfl, by show (0 : Int) < 999999999989; decide, ?_⟩
      refine ⟨_, rfl, l, _, 1, 1, rfl, rfl, hl, ixN_nat (n := 2) (i := 1) (by decide), ?_⟩
      refine ⟨_, rfl, l, _, 1, .int ((y * 69621 + 40503) % 999999999989), rfl, rfl, sqL upd_same, rfl, _, 4099, rfl, rfl, ⟨by decide, by decide⟩, _, rfl, _, m, rfl, rfl, m0, ?_⟩
      exact q _ _ ((Bt.refl H).upd1 (by simp)) ⟨n, _, upd_same, n0, nB, z0, z1⟩ (Int.emod_nonneg _ (by omega)) (Int.emod_lt_of_pos _ m0)
def spPool (K : PySem.W.Frag) : Sp := fun vs H Q _ => ∃ (a : Addr) (ns : List Int) (i : Int), vs = [.ref a, .int i] ∧ SqL K H a (ns.map V.int) ∧ 0 ≤ i ∧ i < 64 ∧ ∀ H' l, Same H H' → H l = none → PoolAt H' l → Q (.ref l) H'
theorem found_step {f x : Int} {m : Nat} (h0 : 0 ≤ f) (h1 : f.natAbs < 2 ^ m) (h2 : 0 ≤ x) (h3 : x < 99999999977) : 0 ≤ f * 100000000000 + x ∧ (f * 100000000000 + x).natAbs < 2 ^ (m + 37) := by
  rw [Nat.pow_add]
  generalize 2 ^ m = B at *
  rw [show (2 : Nat) ^ 37 = 137438953472 by decide]
  omega
theorem cut_ints (ns : List Int) (lo hi : Option Int) : ∃ ms : List Int, cutV (ns.map V.int) lo hi = ms.map V.int := by
  unfold cutV
  exact ⟨(ns.drop _).take _, by rw [List.map_take, List.map_drop]⟩
def tHuge : TS := fun D σ H => ∃ (y0 y1 : Option V) (c mo : Int), σ = [y0, y1, some (.int c), some (.int mo), none, none, none] ∧ ∀ l n m, H l = none → 0 ≤ n → n.natAbs < 2 ^ 1300 → 0 ≤ m → m < 999999999989 → D.rt (.ref l) (upd H l (.lst [.int n, .int m]))
theorem ok_pool {f : Addr} {fd : FuncData} {k : Nat} (B : Bi mg) (D : Df K mg "_law_pool" sPool f fd ["_law_script", "_law_k"]) : FnOk P w K mg base CX0 (k + 1) f fd ["_law_script", "_law_k"] (spPool K) := by
  refine D.fn.ok scPool (fun vs H Q E h => ?_) (fun cdv A outer s H vs Q E hr h => ?_)
  · obtain ⟨l, m, i, rfl, _⟩ := h
    rfl
  · obtain ⟨a, ns, i, rfl, hs, i0, i1, q⟩ := h
    refine ⟨_, pss_cons (ps_set (i := 2) scPool.nd rfl (.inl rfl) (pe_callB (cr_sum rfl) (by rfl) B.sum (by decide +kernel) (pa_cons (pe_slice sl_list (pv 0) (po_some (pv 1)) (po_some (pe_op op_add (pv 1) pe_int))) pa_nil)))
      (pss_cons (ps_set (i := 3) scPool.nd rfl (.inl rfl) (pe_op op_add (pe_op op_add (pe_op op_mul (pv 2) pe_int) (pe_op op_mul (pe_op op_mul pe_int (pv 1)) (pv 1))) pe_int))
      (pss_cons (ps_if (PW.pt (pw_or (pt_cmpR op_lt (pv 2) pe_int (nomark _)) (pw_or1 (pt_cmpR op_ge (pv 2) (pe_op op_pow pe_int pe_int) (nomark _)))))
        (PSs.wk (t' := tHuge) (pss_cons (ps_set (i := 4) scPool.nd rfl (.inl rfl) (pe_op op_mulW (pe_op op_mulW (pe_op op_pow pe_int pe_int) (pe_op op_pow pe_int pe_int)) (pe_op op_pow pe_int pe_int)))
        (pss_one (ps_ret (pe_lst (pa_cons (pe_op op_mod (pe_callB call_abs (by rfl) B.abs (by decide +kernel) (pa_cons (pv 2) pa_nil)) (pe_op op_mulW (pv 4) (pv 4))) (pa_cons (pe_op op_mod (pv 3) pe_int) pa_nil)))))) (by
          rintro D σ H ⟨y0, y1, c, mo, rfl, q⟩
          have cp : CPow 10 64 := ⟨by decide, by decide, by decide⟩
          have t0 : ((10 : Int) ^ (64 : Int).toNat).natAbs < 2 ^ 213 := by decide
          have b0 : (0 : Int) < (10 : Int) ^ (64 : Int).toNat := by decide
          generalize he : (10 : Int) ^ (64 : Int).toNat = t at t0 b0
          have t1 := wide_lt t0 t0
          have t2 := wide_lt t1 t0
          have t5 := wide_lt t2 t2
          have b2 : 0 < t * t * t := Int.mul_pos (Int.mul_pos b0 b0) b0
          have b5 : 0 < t * t * t * (t * t * t) := Int.mul_pos b2 b2
          have hv := congrArg V.int he
          refine ⟨10, 64, rfl, rfl, cp, 10, 64, rfl, rfl, cp, t, t, hv, hv, wide_mul t0 t0 (by decide) (by decide) (by decide), 10, 64, rfl, rfl, cp, t * t, t, rfl, hv, wide_mul t1 t0 (by decide) (by decide) (by decide), ?_⟩
          refine ⟨_, rfl, c, rfl, _, rfl, _, rfl, t * t * t, t * t * t, rfl, rfl, wide_mul t2 t2 (by decide) (by decide) (by decide), _, _, rfl, rfl, b5, _, rfl, mo, 999999999989, rfl, rfl, by show (0 : Int) < 999999999989; decide, by show 2 ≤ sizeLine; decide, fun l hl => q l _ _ hl (Int.emod_nonneg _ (by omega)) ?_ (Int.emod_nonneg _ (by decide)) (Int.emod_lt_of_pos _ (by decide))⟩
          have := Int.emod_lt_of_pos (if c < 0 then -c else c) b5
          exact Nat.lt_of_lt_of_le (wide_le (Int.emod_nonneg _ (by omega)) (Int.le_of_lt this) t5) (pow_le (by decide)))) pss_nil)
      (pss_cons (ps_set (i := 5) scPool.nd rfl (.inl rfl) pe_int)
      (pss_cons (ps_for PassesOwn.never rfl (pi_range1 (by rfl) B.range (pa_cons pe_int pa_nil)) (pg_name (i := 6) scPool.nd rfl (.inl rfl))
        (pss_cons (ps_set (i := 3) scPool.nd rfl (.inl rfl) (pe_op op_mod (pe_op op_add (pe_op op_add (pe_op op_mul (pe_op op_mod (pv 3) pe_int) pe_int) (pe_op op_mul pe_int (pv 6))) pe_int) pe_int))
        (pss_one (ps_set (i := 5) scPool.nd rfl (.inl rfl) (pe_op op_add (pe_op op_mulW (pv 5) (pe_op op_pow pe_int pe_int)) (pe_op op_mod (pe_op op_mul (pv 3) (pe_op op_add (pe_op op_mod (pv 3) pe_int) pe_int)) pe_int))))))
      (pss_one (ps_ret (pe_lst (pa_cons (pv 5) (pa_cons (pv 3) pa_nil))))))))), ?_⟩
    refine ⟨_, rfl, _, rfl, i, rfl, _, rfl, i, 1, rfl, rfl, i + 1, rfl, a, _, rfl, hs, fun p hp => ?_⟩
    obtain ⟨ms, em⟩ := cut_ints ns (some i) (some (i + 1))
    have sm : Same H (upd H p (.lst (cutV (ns.map V.int) (some i) (some (i + 1))))) := same_new hp
    refine ⟨p, ms, rfl, sqL (by rw [upd_same, em]), ?_⟩
    generalize ms.sum = c
    revert sm
    generalize upd H p (.lst (cutV (ns.map V.int) (some i) (some (i + 1)))) = H1
    intro sm
    refine ⟨_, rfl, c, 48271, rfl, rfl, .inr ⟨by decide, by decide⟩, _, rfl, 977, i, rfl, rfl, .inl ⟨by decide, by decide⟩, _, rfl, _, i, rfl, rfl, .inr ⟨by omega, by omega⟩, _, _, rfl, rfl, _, 13, rfl, rfl, ?_⟩
    refine ⟨_, rfl, c, 0, rfl, rfl, _, rfl, ?_⟩
    have q2 : ∀ (l : Addr) (n m : Int), H1 l = none → 0 ≤ n → n.natAbs < 2 ^ 1300 → 0 ≤ m → m < 999999999989 → Q (.ref l) (upd H1 l (.lst [.int n, .int m])) := fun l n m hl h0 hB m0 m1 => q _ l (sm.trans (same_new hl)) (sm.free hl) ⟨n, m, upd_same, h0, hB, m0, m1⟩
    have huge : ∀ D : Ends, D.rt = Q → tHuge D [some (.ref a), some (.int i), some (.int c), some (.int (c * 48271 + 977 * i * i + 13)), none, none, none] H1 := fun D e => ⟨_, _, c, _, rfl, fun l n m h1 h2 h3 h4 h5 => by rw [e]; exact q2 l n m h1 h2 h3 h4 h5⟩
    by_cases hneg : c < 0
    · rw [decide_eq_true hneg]
      exact iteT (iteT (huge _ rfl))
    · rw [decide_eq_false hneg]
      refine iteF ⟨_, rfl, 10, 18, rfl, rfl, ⟨by decide, by decide, by decide⟩, c, _, rfl, rfl, _, rfl, ?_⟩
      by_cases hbig : (10 : Int) ^ (18 : Int).toNat ≤ c
      · rw [decide_eq_true hbig]
        exact iteT (huge _ rfl)
      · rw [decide_eq_false hbig]
        refine iteF ?_
        refine ⟨27, rfl, by decide, by decide, for_range (lo := 0) (n := 27) (fun j σ H' => ∃ (mm ff : Int) (y : Option V), σ = [some (.ref a), some (.int i), some (.int c), some (.int mm), none, some (.int ff), y] ∧ (1 ≤ j → 0 ≤ mm ∧ mm < 999999999989) ∧ 0 ≤ ff ∧ ff.natAbs < 2 ^ (37 * j) ∧ H' = H1)
          ⟨_, 0, none, rfl, (fun z => absurd z (by decide)), Int.le_refl 0, by decide, rfl⟩ ?_ ?_⟩
        · rintro j σ H' hj ⟨mm, ff, y, rfl, g1, g2, g3, rfl⟩
          have r0 := Int.emod_nonneg mm (show (999999999989 : Int) ≠ 0 by decide)
          have r1 := Int.emod_lt_of_pos mm (show (0 : Int) < 999999999989 by decide)
          refine ⟨_, rfl, mm, 999999999989, rfl, rfl, by show (0 : Int) < 999999999989; decide, _, 69621, rfl, rfl, .inr ⟨by decide, by decide⟩, _, rfl, 40503, _, rfl, rfl, .inl ⟨by decide, by decide⟩, _, _, rfl, rfl, _, 271, rfl, rfl, _, 999999999989, rfl, rfl, by show (0 : Int) < 999999999989; decide, ?_⟩
          have s0 := Int.emod_nonneg (mm % 999999999989 * 69621 + 40503 * (0 + (j : Int)) + 271) (show (999999999989 : Int) ≠ 0 by decide)
          have s1 := Int.emod_lt_of_pos (mm % 999999999989 * 69621 + 40503 * (0 + (j : Int)) + 271) (show (0 : Int) < 999999999989 by decide)
          have fB : ff.natAbs < 2 ^ 1000 := Nat.lt_of_lt_of_le g3 (pow_le (by omega))
          refine ⟨_, rfl, 10, 11, rfl, rfl, ⟨by decide, by decide, by decide⟩, ff, _, rfl, rfl, wide_mul fB (show ((10 : Int) ^ (11 : Int).toNat).natAbs < 2 ^ 64 by decide) (by decide) (by decide) (by decide), _, rfl, _, rfl, _, 65537, rfl, rfl, by show (0 : Int) < 65537; decide, _, 3, rfl, rfl, _, _, rfl, rfl, .inl ⟨Int.lt_of_lt_of_le (by decide) s0, Int.lt_trans s1 (by decide)⟩, _, 99999999977, rfl, rfl, by show (0 : Int) < 99999999977; decide, _, _, rfl, rfl, ?_⟩
          refine ⟨_, _, _, rfl, fun _ => ⟨s0, s1⟩, ?_, ?_, rfl⟩
          · exact (found_step g2 g3 (Int.emod_nonneg _ (by decide)) (Int.emod_lt_of_pos _ (by decide))).1
          · exact (found_step g2 g3 (Int.emod_nonneg _ (by decide)) (Int.emod_lt_of_pos _ (by decide))).2
        · rintro σ H' ⟨mm, ff, y, rfl, g1, g2, g3, rfl⟩
          obtain ⟨m0, m1⟩ := g1 (by decide)
          exact ⟨_, rfl, _, rfl, by show 2 ≤ sizeLine; decide, fun l hl => q2 l ff mm hl g2 (Nat.lt_of_lt_of_le g3 (pow_le (by decide))) m0 m1⟩
end
end WdQ

set_option Elab.async false
set_option linter.all false
set_option maxRecDepth 100000
set_option maxHeartbeats 4000000
namespace Wd
open PySem PySem.Spec PyProof.Rows L2 WdM
/-! ### clean data: tuples of small letters -/
def okL (x : Str) : Prop := ∀ c ∈ x.cps.toList, letB c = true
def Cl : Nat → PyData → Prop
  | _, .none => False
  | _, .bool _ => False
  | _, .int _ => False
  | _, .str x => okL x ∧ x.length ≤ 9
  | _, .list _ => False
  | 0, .tuple _ => False
  | n + 1, .tuple ds => ds.length ≤ 7 ∧ ∀ d ∈ ds, Cl n d
  | _, .dict _ => False
theorem let_lt : ∀ c ∈ lettersS.cps.toList, c < 128 := by decide +kernel
theorem okL.ok {x : Str} (h : okL x) : okS x := fun c hc => Nat.lt_trans (let_lt c (of_decide_eq_true (h c hc))) (by decide)
theorem Cl.str {n : Nat} {x : Str} (h : Cl n (.str x)) : okL x ∧ x.length ≤ 9 := by cases n <;> exact h
theorem Cl.of_str {n : Nat} {x : Str} (h : okL x ∧ x.length ≤ 9) : Cl n (.str x) := by cases n <;> exact h
theorem Cl.fine {b : Bool} : ∀ {n : Nat} {d : PyData}, Cl n d → Fine b n d
  | n, .none, h => by cases n <;> exact h.elim
  | n, .bool _, h => by cases n <;> exact h.elim
  | n, .int _, h => by cases n <;> exact h.elim
  | n, .str x, h => by
    have := h.str
    have : okS x ∧ x.length ≤ 30 := ⟨this.1.ok, by omega⟩
    cases n <;> exact this
  | n, .list _, h => by cases n <;> exact h.elim
  | n, .dict _, h => by cases n <;> exact h.elim
  | 0, .tuple _, h => h.elim
  | n + 1, .tuple ds, h => ⟨by have := h.1; omega, fun d hd => (h.2 d hd).fine⟩
/-- a clean value -/
def Cz (K : PySem.W.Frag) (n : Nat) (H : Hp) (v : V) : Prop := ∃ d, Dz [] K H v d ∧ Cl n d
section
variable {K : PySem.W.Frag} {S S' : List Addr}
theorem cl_tk {H H' : Hp} (e : Tk H H') : ∀ {n : Nat} {v : V} {d : PyData}, Cl n d → Dz S K H v d → Dz S' K H' v d := by
  intro n
  induction n with
  | zero =>
    intro v d c h
    cases h with
    | str x => exact .str x
    | _ => exact c.elim
  | succ n ih =>
    intro v d c h
    have all : ∀ {xs : List V} {ds : List PyData}, (∀ d ∈ ds, Cl n d) → DzAll S K H xs ds → DzAll S' K H' xs ds := by
      intro xs
      induction xs with
      | nil =>
        intro ds _ h
        cases h
        exact .nil
      | cons x xs ih2 =>
        intro ds hc h
        cases h with
        | cons h t => exact .cons (ih (hc _ List.mem_cons_self) h) (ih2 (fun d hd => hc d (List.mem_cons_of_mem _ hd)) t)
    cases h with
    | str x => exact .str x
    | tup h t => exact .tup (e.sq h) (all c.2 t)
    | _ => exact c.elim
theorem Cz.tk {H H' : Hp} {n : Nat} {v : V} (h : Cz K n H v) (e : Tk H H') : Cz K n H' v := by
  obtain ⟨d, h, c⟩ := h
  exact ⟨d, cl_tk e c h, c⟩
/-- a value of small data: lists where b, else dicts -/
def Bz (K : PySem.W.Frag) (S : List Addr) (b : Bool) (n : Nat) (H : Hp) (v : V) : Prop := ∃ d, Dz S K H v d ∧ Fine b n d
theorem Cz.bz {H : Hp} {n : Nat} {v : V} {b : Bool} (h : Cz K n H v) : Bz K S b n H v := by
  obtain ⟨d, h, c⟩ := h
  exact ⟨d, cl_tk (Tk.refl H) c h, c.fine⟩
theorem Bz.same {H H' : Hp} {n : Nat} {v : V} {b : Bool} (h : Bz K S b n H v) (e : Same H H') : Bz K S b n H' v := by
  obtain ⟨d, h, c⟩ := h
  exact ⟨d, h.same e, c⟩
theorem Bz.mono {H : Hp} {n m : Nat} {v : V} {b : Bool} (h : Bz K S b n H v) (l : n ≤ m) : Bz K S b m H v := by
  obtain ⟨d, h, c⟩ := h
  exact ⟨d, h, c.mono l⟩
theorem Bz.bt {H H' : Hp} {n : Nat} {v : V} {b : Bool} (h : Bz K S b n H v) (e : Bt S H H') (hl : ∀ a ∈ S, ∃ zs, H a = some (.lst zs)) : Bz K S b n H' v := by
  obtain ⟨d, h, c⟩ := h
  exact ⟨d, dz_stay (stay_bt e hl) h, c⟩
theorem Bz.less {H : Hp} {n : Nat} {v : V} {b : Bool} (h : Bz K S b n H v) : Bz K [] b n H v := by
  obtain ⟨d, h, c⟩ := h
  exact ⟨d, h.less, c⟩
theorem bz_all {H : Hp} {n : Nat} {b : Bool} : ∀ {xs : List V}, (∀ x ∈ xs, Bz K S b n H x) → ∃ ds, DzAll S K H xs ds ∧ ∀ d ∈ ds, Fine b n d
  | [], _ => ⟨[], .nil, fun _ h => nomatch h⟩
  | x :: xs, h => by
    obtain ⟨d, h1, f1⟩ := h x List.mem_cons_self
    obtain ⟨ds, h2, f2⟩ := bz_all (xs := xs) fun y hy => h y (List.mem_cons_of_mem _ hy)
    exact ⟨d :: ds, .cons h1 h2, fun e he => (List.mem_cons.mp he).elim (fun z => z ▸ f1) (f2 e)⟩
theorem bz_tup {H : Hp} {n : Nat} {b : Bool} {a : Addr} {xs : List V} (h : SqT K H a xs) (l : xs.length ≤ 8) (e : ∀ x ∈ xs, Bz K S b n H x) : Bz K S b (n + 1) H (.ref a) := by
  obtain ⟨ds, h1, f1⟩ := bz_all e
  exact ⟨.tuple ds, .tup h h1, by rw [← h1.len]; exact l, f1⟩
theorem bz_lst {H : Hp} {n : Nat} {a : Addr} {xs : List V} (na : a ∉ S) (h : SqL K H a xs) (l : xs.length ≤ 8) (e : ∀ x ∈ xs, Bz K S true n H x) : Bz K S true (n + 1) H (.ref a) := by
  obtain ⟨ds, h1, f1⟩ := bz_all e
  exact ⟨.list ds, .lst na h h1, rfl, by rw [← h1.len]; exact l, f1⟩
theorem cz_all {H : Hp} {n : Nat} : ∀ {xs : List V}, (∀ x ∈ xs, Cz K n H x) → ∃ ds, DzAll [] K H xs ds ∧ ∀ d ∈ ds, Cl n d
  | [], _ => ⟨[], .nil, fun _ h => nomatch h⟩
  | x :: xs, h => by
    obtain ⟨d, h1, f1⟩ := h x List.mem_cons_self
    obtain ⟨ds, h2, f2⟩ := cz_all (xs := xs) fun y hy => h y (List.mem_cons_of_mem _ hy)
    exact ⟨d :: ds, .cons h1 h2, fun e he => (List.mem_cons.mp he).elim (fun z => z ▸ f1) (f2 e)⟩
theorem cz_tup {H : Hp} {n : Nat} {a : Addr} {xs : List V} (h : SqT K H a xs) (l : xs.length ≤ 7) (e : ∀ x ∈ xs, Cz K n H x) : Cz K (n + 1) H (.ref a) := by
  obtain ⟨ds, h1, f1⟩ := cz_all e
  exact ⟨.tuple ds, .tup h h1, by rw [← h1.len]; exact l, f1⟩
theorem cz_str {H : Hp} {n : Nat} {z : Str} (h : okL z ∧ z.length ≤ 9) : Cz K n H (.str z) := ⟨.str z, .str z, Cl.of_str h⟩
/-- a clean value is a text or a tuple of clean ones -/
theorem cz_cases {H : Hp} {n : Nat} {v : V} (h : Cz K n H v) : (∃ z, v = .str z ∧ okL z ∧ z.length ≤ 9) ∨ ∃ (m : Nat) (a : Addr) (xs : List V), n = m + 1 ∧ v = .ref a ∧ SqT K H a xs ∧ xs.length ≤ 7 ∧ ∀ x ∈ xs, Cz K m H x := by
  obtain ⟨d, h, c⟩ := h
  cases h with
  | str x => exact .inl ⟨x, rfl, c.str⟩
  | tup h t =>
    cases n with
    | zero => exact c.elim
    | succ m =>
      refine .inr ⟨m, _, _, rfl, rfl, h, by rw [t.len]; exact c.1, fun x hx => ?_⟩
      obtain ⟨i, hi⟩ := List.mem_iff_getElem?.mp hx
      obtain ⟨e, he, q⟩ := t.get hi
      exact ⟨e, q, c.2 e (List.mem_of_getElem? he)⟩
  | non => cases n <;> exact c.elim
  | bl => cases n <;> exact c.elim
  | int => cases n <;> exact c.elim
  | lst => cases n <;> exact c.elim
  | nod => cases n <;> exact c.elim
theorem cl_dp {H : Hp} : ∀ {n : Nat} {v : V} {d : PyData}, Cl n d → Dz S K H v d → Dp K H v d := by
  intro n
  induction n with
  | zero =>
    intro v d c h
    cases h with
    | str x => exact .str x
    | _ => exact c.elim
  | succ n ih =>
    intro v d c h
    have all : ∀ {xs : List V} {ds : List PyData}, (∀ d ∈ ds, Cl n d) → DzAll S K H xs ds → DpAll K H xs ds := by
      intro xs
      induction xs with
      | nil =>
        intro ds _ h
        cases h
        exact .nil
      | cons x xs ih2 =>
        intro ds hc h
        cases h with
        | cons h t => exact .cons (ih (hc _ List.mem_cons_self) h) (ih2 (fun d hd => hc d (List.mem_cons_of_mem _ hd)) t)
    cases h with
    | str x => exact .str x
    | tup h t => exact .tup h (all c.2 t)
    | _ => exact c.elim
end
theorem strOk_of {x : Str} (h : okS x) : PyData.strOk x = true := by
  unfold PyData.strOk
  rw [Array.all_eq_true']
  intro c hc
  exact decide_eq_true (h c (Array.mem_toList_iff.mpr hc))
theorem canLayAll_of : ∀ {ds : List PyData}, (∀ d ∈ ds, PyData.canLay0 d = true) → PyData.canLayAll0 ds = true
  | [], _ => by simp [PyData.canLayAll0]
  | d :: ds, h => by
    simp only [PyData.canLayAll0, h d List.mem_cons_self, Bool.true_and]
    exact canLayAll_of fun x hx => h x (List.mem_cons_of_mem _ hx)
theorem cl_lay : ∀ {n : Nat} {d : PyData}, Cl n d → PyData.canLay0 d = true := by
  intro n
  induction n with
  | zero =>
    intro d c
    cases d with
    | str x => simp only [PyData.canLay0]; exact strOk_of c.1.ok
    | _ => exact c.elim
  | succ n ih =>
    intro d c
    cases d with
    | str x => simp only [PyData.canLay0]; exact strOk_of c.1.ok
    | tuple ds => simp only [PyData.canLay0]; exact canLayAll_of fun d hd => ih (c.2 d hd)
    | _ => exact c.elim
theorem cl_shaped {n : Nat} {d : PyData} (c : Cl n d) (hn : n ≤ 64) : SeqAt.shaped d = true := by
  unfold SeqAt.shaped
  rw [cl_lay c, decide_eq_true (Nat.le_trans (c.fine (b := true)).shown.2.2.1 hn)]
  rfl
/-! ### great letters -/
theorem up_lt : ∀ c ∈ lettersS.cps.toList, ∀ e ∈ Unicode.upperOf c, e < 1114112 := by decide +kernel
theorem up_ok {x : Str} (h : okL x) : okS (Txt.upper x) := by
  intro e he
  have he : e ∈ (Txt.upper x).cps := Array.mem_toList_iff.mp he
  unfold Txt.upper placed at he
  obtain ⟨ys, hy, hm⟩ := Array.mem_flatten.mp he
  obtain ⟨i, hi, rfl⟩ := Array.mem_mapIdx.mp hy
  exact up_lt _ (of_decide_eq_true (h _ (Array.mem_toList_iff.mpr (Array.getElem_mem hi)))) e (by simpa using hm)
/-! ### cuts of a list -/
theorem cut_front {xs : List V} {k : Nat} (h : k ≤ xs.length) : cutV xs none (some (k : Int)) = xs.take k := by
  unfold cutV
  rw [HT.sIx_none, HT.sIx_nat, Nat.min_eq_left h]
  simp
theorem cut_back {xs : List V} {k : Nat} (h : k ≤ xs.length) : cutV xs (some (k : Int)) none = xs.drop k := by
  unfold cutV
  rw [HT.sIx_none, HT.sIx_nat, Nat.min_eq_left h]
  rw [List.take_of_length_le (by rw [List.length_drop]; omega)]
theorem cut_mem {xs : List V} {lo hi : Option Int} {x : V} (h : x ∈ cutV xs lo hi) : x ∈ xs := by
  unfold cutV at h
  exact List.mem_of_mem_drop (List.mem_of_mem_take h)
end Wd

set_option Elab.async false
set_option linter.all false
set_option maxRecDepth 100000
set_option maxHeartbeats 4000000
namespace Wd
open PySem PySem.Spec PyProof.Rows L2 WdM
/-! ### unlike names -/
/-- a text of letters, not too long -/
def wdB (n : Nat) (z : Str) : Prop := okL z ∧ 1 ≤ z.length ∧ z.length ≤ n
/-- a drawn name -/
def Nm (z : Str) : Prop := wdB 6 z ∧ inV (.str z) noNames = false
theorem Nm.name {z : Str} (h : Nm z) : nmB z = true := by
  unfold nmB
  rw [h.2, decide_eq_true (show 1 ≤ z.length ∧ z.length ≤ 8 from ⟨h.1.2.1, by have := h.1.2.2; omega⟩)]
  rw [show z.cps.toList.all letB = true from List.all_eq_true.mpr h.1.1]
  rfl
theorem app_cps (x y : Str) : (x ++ y).cps.toList = x.cps.toList ++ y.cps.toList := by
  show (x.cps ++ y.cps).toList = _
  exact Array.toList_append
theorem str_ext {x y : Str} (h : x.cps.toList = y.cps.toList) : x = y := by
  cases x; cases y
  have := Array.toList_inj.mp h
  simp only at this
  rw [this]
theorem app_len (x y : Str) : (x ++ y).length = x.length + y.length := by
  show (x.cps ++ y.cps).size = _
  rw [Array.size_append]
  rfl
theorem okL_app {x y : Str} (hx : okL x) (hy : okL y) : okL (x ++ y) := fun c hc => by
  rw [app_cps] at hc
  rcases List.mem_append.mp hc with h | h
  · exact hx c h
  · exact hy c h
theorem cut_sub {z : Str} {lo hi : Option Int} {c : Nat} (h : c ∈ (cutS z lo hi).cps.toList) : c ∈ z.cps.toList := by
  unfold cutS at h
  exact List.mem_of_mem_drop (List.mem_of_mem_take h)
/-- word[:4] + letter + "x" -/
def cand (z : Str) (c : Nat) : Str := cutS z none (some 4) ++ ⟨#[c]⟩ ++ "x"
theorem cand_cps (z : Str) (c : Nat) : (cand z c).cps.toList = (cutS z none (some 4)).cps.toList ++ [c, 120] := by
  unfold cand
  rw [app_cps, app_cps, List.append_assoc]
  rfl
theorem cand_inj {z : Str} {c d : Nat} (h : cand z c = cand z d) : c = d := by
  have := congrArg (fun s : Str => s.cps.toList) h
  simp only [cand_cps] at this
  have := List.append_cancel_left this
  exact (List.cons.inj this).1
theorem eqV_str {a b : Str} (h : eqV (.str a) (.str b) = true) : a = b := by
  have h : (a == b) = true := h
  exact eq_of_beq h
theorem inV_str {z : Str} {ws : List Str} : inV (.str z) (ws.map V.str) = true ↔ z ∈ ws := by
  unfold inV
  rw [List.any_map, List.any_eq_true]
  constructor
  · rintro ⟨x, hx, e⟩
    rw [← eqV_str e]
    exact hx
  · intro h
    exact ⟨z, h, by show (z == z) = true; exact beq_self_eq_true z⟩
def noS : List Str := ["all", "and", "children", "childless", "crown", "else", "if", "lives", "not", "of", "or", "stock", "to"]
theorem noNames_eq : noNames = noS.map V.str := rfl
theorem no_last : ∀ z ∈ noS, z.cps.toList.getLast? ≠ some 120 := by decide +kernel
theorem cand_no {z : Str} {c : Nat} : inV (.str (cand z c)) noNames = false := by
  rw [Bool.eq_false_iff, noNames_eq]
  intro h
  have := no_last _ (inV_str.mp h)
  rw [cand_cps] at this
  exact this (by simp)
theorem cand_wd {z : Str} {c : Nat} (h : okL z) (hc : letB c = true) : wdB 6 (cand z c) := by
  refine ⟨?_, ?_, ?_⟩
  · intro x hx
    rw [cand_cps] at hx
    rcases List.mem_append.mp hx with h1 | h1
    · exact h x (cut_sub h1)
    · simp only [List.mem_cons, List.not_mem_nil, or_false] at h1
      rcases h1 with rfl | rfl
      · exact hc
      · decide
  · unfold cand
    rw [app_len]
    show 1 ≤ _ + 1
    omega
  · unfold cand
    rw [app_len, app_len]
    have : (cutS z none (some 4)).length ≤ 4 := by
      show (((z.cps.toList.drop (HT.sIx z.length 0 none)).take (HT.sIx z.length z.length (some 4) - HT.sIx z.length 0 none)).toArray).size ≤ 4
      rw [List.size_toArray, List.length_take, List.length_drop]
      have : HT.sIx z.length z.length (some 4) ≤ 4 := by
        unfold HT.sIx
        simp
        omega
      omega
    show _ + 1 + 1 ≤ 6
    omega
theorem pick {f : Nat → Str} (inj : ∀ c d, f c = f d → c = d) : ∀ (cs : List Nat) (found : List Str), cs.Nodup → (∀ c ∈ cs, f c ∈ found) → cs.length ≤ found.length
  | [], _, _, _ => Nat.zero_le _
  | c :: cs, found, nd, h => by
    have h0 := h c List.mem_cons_self
    have nd' := List.nodup_cons.mp nd
    have := pick inj cs (found.erase (f c)) nd'.2 (fun d hd => by
      refine (List.mem_erase_of_ne (fun e => ?_)).mpr (h d (List.mem_cons_of_mem _ hd))
      exact nd'.1 (inj _ _ e ▸ hd))
    rw [List.length_erase_of_mem h0] at this
    have := List.length_pos_of_mem h0
    rw [List.length_cons]
    omega
theorem letters_nodup : lettersS.cps.toList.Nodup := by decide +kernel
/-- the candidates of a word, and those that may be taken -/
def cands (z : Str) : List Str := z :: lettersS.cps.toList.map (cand z)
def freeB (found : List Str) (z : Str) : Bool := !inV (.str z) (found.map V.str) && !inV (.str z) noNames
theorem some_free {z : Str} {found : List Str} (h : found.length < 26) : ∃ y ys, (cands z).filter (freeB found) = y :: ys := by
  cases e : (cands z).filter (freeB found) with
  | cons y ys => exact ⟨y, ys, rfl⟩
  | nil =>
    exfalso
    have all : ∀ c ∈ lettersS.cps.toList, cand z c ∈ found := fun c hc => by
      have := List.filter_eq_nil_iff.mp e (cand z c) (List.mem_cons_of_mem _ (List.mem_map_of_mem hc))
      unfold freeB at this
      rw [cand_no] at this
      apply inV_str.mp
      cases h2 : inV (.str (cand z c)) (found.map V.str) with
      | true => rfl
      | false => rw [h2] at this; exact absurd rfl this
    have := pick (f := cand z) (fun _ _ => cand_inj) _ _ letters_nodup all
    have : lettersS.cps.toList.length = 26 := by decide +kernel
    omega
theorem free_nm {z y : Str} {found : List Str} (hz : wdB 6 z) (h : y ∈ (cands z).filter (freeB found)) : Nm y ∧ y ∉ found := by
  obtain ⟨h1, h2⟩ := List.mem_filter.mp h
  obtain ⟨a, b⟩ := Bool.and_eq_true_iff.mp h2
  have b : inV (.str y) noNames = false := by simpa using b
  have a : inV (.str y) (found.map V.str) = false := by simpa using a
  refine ⟨⟨?_, b⟩, fun m => by rw [inV_str.mpr m] at a; cases a⟩
  rcases List.mem_cons.mp h1 with rfl | h1
  · exact hz
  · obtain ⟨c, hc, rfl⟩ := List.mem_map.mp h1
    exact cand_wd hz.1 (decide_eq_true hc)
/-! ### texts in their order -/
def LtS (a b : Str) : Prop := a.cps.toList < b.cps.toList
theorem LtS.trans {a b c : Str} (h : LtS a b) (h2 : LtS b c) : LtS a c := List.lt_trans h h2
theorem lt_of_not {a b : Str} (h : ltCps b.cps.toList a.cps.toList = false) (n : a ≠ b) : LtS a b := by
  rw [ltCps_eq] at h
  have h := of_decide_eq_false h
  have h1 := List.not_lt.mp h
  apply Classical.byContradiction
  intro h2
  exact n (str_ext (List.le_antisymm h1 (List.not_lt.mp h2)))
theorem rising_pw : ∀ (p : Str) (l : List Str), risingS p l = true → (p :: l).Nodup → (p :: l).Pairwise LtS
  | p, [], _, _ => List.pairwise_singleton _ _
  | p, x :: r, h, nd => by
    obtain ⟨h1, h2⟩ := Bool.and_eq_true_iff.mp (show (!ltCps x.cps.toList p.cps.toList && risingS x r) = true from h)
    have h1 : ltCps x.cps.toList p.cps.toList = false := by simpa using h1
    have nd' := List.nodup_cons.mp nd
    have ih := rising_pw x r h2 nd'.2
    have px : LtS p x := lt_of_not h1 (fun e => nd'.1 (e ▸ List.mem_cons_self))
    refine List.pairwise_cons.mpr ⟨fun y hy => ?_, ih⟩
    rcases List.mem_cons.mp hy with rfl | hy
    · exact px
    · exact px.trans ((List.pairwise_cons.mp ih).1 y hy)
theorem sorted_pw {l : List Str} (h : sortedS l = true) (nd : l.Nodup) : l.Pairwise LtS := by
  cases l with
  | nil => exact List.Pairwise.nil
  | cons x r => exact rising_pw x r h nd
theorem pw_next : ∀ {l : List Str} {i : Nat} {a b : Str}, l.Pairwise LtS → l[i]? = some a → l[i + 1]? = some b → LtS a b
  | [], i, a, b, _, h, _ => by cases h
  | x :: l, 0, a, b, p, h, h2 => by
    cases h
    exact (List.pairwise_cons.mp p).1 b (List.mem_of_getElem? (show l[0]? = some b from h2))
  | x :: l, i + 1, a, b, p, h, h2 => pw_next (List.pairwise_cons.mp p).2 (show l[i]? = some a from h) (show l[i + 1]? = some b from h2)
end Wd

set_option Elab.async false
set_option linter.all false
set_option maxRecDepth 100000
set_option maxHeartbeats 4000000
set_option exponentiation.threshold 5000
namespace WdQ
open PySem PySem.Spec PyProof.Rows L2 WdM Wd
abbrev sWords : Stmt := topS 72
def nWords : List Str := ["_law_pool_here", "_law_many", "_law_own", "_law_letters", "_law_found", "_law_odd_here", "_law_turn", "_law_word", "_law_place", "_law_letter", "_law_some", "_law_one"]
theorem scWords : FnScope nWords ["_law_pool_here", "_law_many"] (defScope sWords) := ⟨rfl, rfl, rfl, by decide +kernel, rfl, by decide +kernel, by decide +kernel⟩
def ownS : List Str := ["give", "pay", "rest", "wait", "ranks", "sums", "names", "kinds", "person", "thing", "none", "deal"]
def ownW : List V := ownS.map V.str
theorem own_wd : ∀ z ∈ ownS, wdB 6 z := by
  have : ∀ z ∈ ownS, z.cps.toList.all letB = true ∧ 1 ≤ z.length ∧ z.length ≤ 6 := by decide +kernel
  exact fun z hz => ⟨fun c hc => List.all_eq_true.mp (this z hz).1 c hc, (this z hz).2⟩
def tWsN (ws : List V) : TE := fun σ H Q => ∀ p H', Same H H' → H p = none → H' p = some (.lst ws) → Q (.ref p) H'
/-- one word is drawn -/
def tIfW : TS := fun D σ H => ∃ (l : Addr) (y1 y2 y4 y5 y6 y10 : Option V) (z : Str), σ = [some (.ref l), y1, y2, some (.str lettersS), y4, y5, y6, some (.str z), none, none, y10, none] ∧ PoolAt H l ∧ wdB 6 z ∧ ∀ H' z', Bt [l] H H' → PoolAt H' l → wdB 6 z' → D.nx [some (.ref l), y1, y2, some (.str lettersS), y4, y5, y6, some (.str z'), none, none, y10, none] H'
theorem at_letters {d : Int} (d0 : 0 ≤ d) (d1 : d < 26) : ∃ c, atI lettersS.cps.toList d = some c ∧ letB c = true := by
  obtain ⟨n, rfl⟩ := Int.eq_ofNat_of_zero_le d0
  have hn : n < lettersS.cps.toList.length := by
    show n < 26
    omega
  exact ⟨_, atI_nat (List.getElem?_eq_getElem hn), decide_eq_true (List.getElem_mem hn)⟩
theorem ones_sum : ∀ cs : List Nat, ((cs.map fun c => (⟨#[c]⟩ : Str)).map (·.length)).sum = cs.length
  | [] => rfl
  | c :: cs => by
    rw [List.map_cons, List.map_cons, List.sum_cons, ones_sum cs, List.length_cons]
    show 1 + _ = _
    omega
theorem flat_strs (zs : List Str) : (zs.map V.str).all flatV = true := by
  rw [List.all_map, List.all_eq_true]
  exact fun _ _ => rfl
theorem joinL_one : ∀ cs : List Nat, TL.joinL [] (cs.map fun c => [c]) = cs
  | [] => rfl
  | [_] => rfl
  | c :: d :: cs => by
    have := joinL_one (d :: cs)
    show [c] ++ ([] ++ TL.joinL [] ((d :: cs).map fun c => [c])) = _
    rw [this]
    rfl
theorem join_letters : ∀ {cs : List Nat}, (∀ c ∈ cs, letB c = true) → okL (Txt.join "" (cs.map fun c => (⟨#[c]⟩ : Str))) ∧ (Txt.join "" (cs.map fun c => (⟨#[c]⟩ : Str))).length = cs.length := by
  intro cs h
  have e : Txt.join "" (cs.map fun c => (⟨#[c]⟩ : Str)) = ⟨cs.toArray⟩ := by
    rw [TL.join_eq]
    refine TL.ext_tl ?_
    rw [TL.tl_join, List.map_map]
    have := joinL_one cs
    exact this.trans (by show cs = cs.toArray.toList; simp)
  rw [e]
  exact ⟨fun c hc => h c (by simpa using hc), by show cs.toArray.size = _; simp⟩
section
variable {P : Program} {w : World} {K : PySem.W.Frag} {mg : Str → Option Value} {base : Heap}
def spWords : Sp := fun vs H Q _ => ∃ (l : Addr) (m : Nat), vs = [.ref l, .int (m : Nat)] ∧ PoolAt H l ∧ m ≤ 20 ∧ ∀ (H' : Hp) (p : Addr) (zs : List Str), Bt [l] H H' → PoolAt H' l → H p = none → H' p = some (.lst (zs.map V.str)) → zs.length = m → zs.Nodup → (∀ z ∈ zs, Nm z) → Q (.ref p) H'
theorem ok_words {f fT : Addr} {fd fdT : FuncData} {k : Nat} (B : Bi mg) (D : Df K mg "_law_words" sWords f fd ["_law_pool_here", "_law_many"]) (DT : Df K mg "_law_take" sTake fT fdT ["_law_pool_here", "_law_many"]) (GT : FnOk P w K mg base CX0 (k + 1) fT fdT ["_law_pool_here", "_law_many"] spTake) : FnOk P w K mg base CX0 (k + 2) f fd ["_law_pool_here", "_law_many"] spWords := by
  refine D.fn.ok scWords (fun vs H Q E h => ?_) (fun cdv A outer s H vs Q E hr h => ?_)
  · obtain ⟨l, m, rfl, _⟩ := h
    rfl
  · obtain ⟨l, m, rfl, pool, m20, q⟩ := h
    refine ⟨_, pss_cons (ps_set (i := 2) scWords.nd rfl (.inl rfl) (PE.wk (t' := tWsN ownW) (pe_lst (pa_cons pe_str (pa_cons pe_str (pa_cons pe_str (pa_cons pe_str (pa_cons pe_str (pa_cons pe_str (pa_cons pe_str (pa_cons pe_str (pa_cons pe_str (pa_cons pe_str (pa_cons pe_str (pa_cons pe_str pa_nil))))))))))))) (by intro σ H Q q; exact ⟨by show ownW.length ≤ sizeLine; decide, fun p n => q p _ (same_new n) n upd_same⟩)))
      (pss_cons (ps_asg (pe_tup (pa_cons pe_str (pa_cons (pe_lst pa_nil) pa_nil))) (pg_tup rfl (pgs_cons (pg_name (i := 3) scWords.nd rfl (.inr rfl)) (pgs_cons (pg_name (i := 4) scWords.nd rfl (.inr rfl)) pgs_nil))))
      (pss_cons (ps_set (i := 5) scWords.nd rfl (.inr rfl) (PE.wk (t' := tWsN noNames) (pe_lst (pa_cons pe_str (pa_cons pe_str (pa_cons pe_str (pa_cons pe_str (pa_cons pe_str (pa_cons pe_str (pa_cons pe_str (pa_cons pe_str (pa_cons pe_str (pa_cons pe_str (pa_cons pe_str (pa_cons pe_str (pa_cons pe_str pa_nil)))))))))))))) (by intro σ H Q q; exact ⟨by show noNames.length ≤ sizeLine; decide, fun p n => q p _ (same_new n) n upd_same⟩)))
      (pss_cons (ps_for PassesOwn.never rfl (pi_range1 (by rfl) B.range (pa_cons (pv 1) pa_nil)) (pg_name (i := 6) scWords.nd rfl (.inl rfl))
        (pss_cons (ps_set (i := 7) scWords.nd rfl (.inr rfl) (pe_ix (r := rIxL K) ix_list (pv 2) (pe_call GT hr (by rfl) DT.mg DT.fn.kp DT.bd .nil pass0 (pa_cons (pv 0) (pa_cons pe_int pa_nil))) (fun _ _ => rfl)))
        (pss_cons (PS.wk (t' := tIfW) (ps_if (pt_cmpR op_gt (pe_call GT hr (by rfl) DT.mg DT.fn.kp DT.bd .nil pass0 (pa_cons (pv 0) (pa_cons pe_int pa_nil))) pe_int (nomark _))
          (pss_one (ps_set (i := 7) scWords.nd rfl (.inr rfl) (pe_join pe_str (pe_lc (own := [("_law_place", 8)]) (g := gName 8) (tt := tYes) rfl scWords.nd (pi_range1 (by rfl) B.range (pa_cons (pe_op op_add pe_int (pe_call GT hr (by rfl) DT.mg DT.fn.kp DT.bd .nil pass0 (pa_cons (pv 0) (pa_cons pe_int pa_nil)))) pa_nil)) (blkOk_by (own := [("_law_place", 8)]) (N := nWords) (sc := defScope sWords) (by decide +kernel))
            (fun _ _ _ _ _ => pg_name (i := 8) scWords.nd rfl (Or.inl rfl)) (fun _ _ _ _ _ => pts_nil)
            (fun _ _ _ _ _ => pe_ix (r := rIxS) ix_str (pv 3) (pe_call GT hr (by rfl) DT.mg DT.fn.kp DT.bd .nil pass0 (pa_cons (pv 0) (pa_cons pe_int pa_nil))) (fun _ _ => rfl)))))) pss_nil) (by
          rintro D σ H ⟨l, y1, y2, y4, y5, y6, y10, z, rfl, pool, wz, q⟩
          refine ⟨_, rfl, l, 4, rfl, pool, by decide, fun H6 d6 b6 pool6 d60 d61 => ⟨d6, 0, rfl, rfl, _, rfl, ?_⟩⟩
          by_cases dp : (0 : Int) < d6
          rotate_left
          · rw [decide_eq_false dp]
            exact iteF (q H6 z b6 pool6 wz)
          rw [decide_eq_true dp]
          refine iteT ⟨⟨_, rfl⟩, _, rfl, l, 5, rfl, pool6, by decide, fun H7 d7 b7 pool7 d70 d71 => ⟨1, d7, rfl, rfl, 1 + d7, rfl, by omega, by omega, fun L nL => ?_⟩⟩
          have nlL : l ≠ L := pool7.ne nL
          refine lc_range (lo := 0) (n := (1 + d7).toNat) (fun j H' => ∃ cs : List Nat, H' L = some (.lst ((cs.map fun c => (⟨#[c]⟩ : Str)).map V.str)) ∧ cs.length = j ∧ (∀ c ∈ cs, letB c = true) ∧ PoolAt H' l ∧ Bt [l] H7 H') ⟨[], upd_same, rfl, (fun x hx => nomatch hx), pool7.upd nlL, (Bt.refl H7).new nL⟩ ?_ ?_
          · rintro j H8 hj ⟨cs, hL, cl, lt, pool8, b8⟩
            refine ⟨rfl, tyes (iteT ⟨_, rfl, _, rfl, l, 26, rfl, pool8, by decide, fun H9 d9 b9 pool9 d90 d91 => ?_⟩)⟩
            obtain ⟨c, hc, lc⟩ := at_letters d90 d91
            refine ⟨lettersS, d9, c, rfl, rfl, by show 26 ≤ sizeLine; decide, hc, _, kept b9 hL (by simp [nlL.symm]), ?_, cs ++ [c], ?_, ?_, ?_, pool9.upd nlL, (b8.trans b9).upd0 nL⟩
            · rw [List.length_map, List.length_map, cl]
              exact Nat.lt_of_lt_of_le (show j < 8 by omega) (by decide)
            · rw [upd_same, List.map_append, List.map_append]
              rfl
            · rw [List.length_append, cl]
              rfl
            · intro x hx
              rcases List.mem_append.mp hx with h | h
              · exact lt x h
              · rw [List.mem_singleton.mp h]
                exact lc
          · rintro H8 ⟨cs, hL, cl, lt, pool8, b8⟩
            obtain ⟨k1, k2⟩ := join_letters lt
            refine ⟨_, L, cs.map fun c => (⟨#[c]⟩ : Str), rfl, rfl, .inl (sqL hL), ?_, ?_⟩
            · rw [ones_sum, List.length_map]
              show cs.length + cs.length * 0 ≤ 16777216
              omega
            · exact q H8 _ ((b6.trans b7).trans b8) pool8 ⟨k1, by omega, by omega⟩))
        (pss_cons (ps_set (i := 10) scWords.nd rfl (.inl rfl) (pe_op op_cat (pe_lst (pa_cons (pv 7) pa_nil)) (pe_lc (own := [("_law_letter", 9)]) (g := gName 9) (tt := tYes) rfl scWords.nd (pi_str (pv 3)) (blkOk_by (own := [("_law_letter", 9)]) (N := nWords) (sc := defScope sWords) (by decide +kernel))
            (fun _ _ _ _ _ => pg_name (i := 9) scWords.nd rfl (Or.inl rfl)) (fun _ _ _ _ _ => pts_nil)
            (fun _ _ _ _ _ => pe_op op_add_str (pe_op op_add_str (pe_slice (r := rSlS) sl_str (pv 7) po_none (po_some pe_int)) (pv 9)) pe_str))))
        (pss_one (ps_expr (pe_bm PySem.F.plainAttrs_list PySem.F.slot_list_append PySem.F.type_list_append mt_append (pv 4) (pa_cons (pe_ix (r := rIxL K) ix_list (pe_lc (own := [("_law_one", 11)]) (g := gName 11) rfl scWords.nd (pi_list (pv 10)) (blkOk_by (own := [("_law_one", 11)]) (N := nWords) (sc := defScope sWords) (by decide +kernel))
            (fun _ _ _ _ _ => pg_name (i := 11) scWords.nd rfl (Or.inl rfl)) (fun _ _ _ _ _ => pts_one (PW.pt (pw_and (pt_cmpR (r := rIn K true) op_notIn_seq (pv 11) (pv 4) (by rfl)) (pw_and1 (pt_cmpR (r := rIn K true) op_notIn_seq (pv 11) (pv 5) (by rfl))))))
            (fun _ _ _ _ _ => pv 11)) pe_int (fun _ _ => rfl)) pa_nil))))))))
      (pss_one (ps_ret (pv 4)))))), ?_⟩
    intro aO H1 s1 nO hO
    refine ⟨by show 0 ≤ sizeLine; decide, fun aF nF => ?_⟩
    have pool2 := (pool.same s1).upd (o := .lst []) ((pool.same s1).ne nF)
    have hO2 : (upd H1 aF (.lst [])) aO = some (.lst ownW) := by rw [upd_ne (ne_of_none hO nF)]; exact hO
    have s2 : Same H (upd H1 aF (.lst [])) := s1.trans (same_new nF)
    have hF2 : (upd H1 aF (.lst [])) aF = some (.lst []) := upd_same
    revert pool2 hO2 s2 hF2
    generalize upd H1 aF (.lst []) = H2
    intro pool2 hO2 s2 hF2
    refine ⟨by show 2 ≤ sizeLine; decide, fun tp ntp => ⟨tp, _, rfl, sqT upd_same, rfl, _, _, rfl, _, _, rfl, rfl, ?_⟩⟩
    intro aD H3 s3 nD hD
    have s23 : Same H2 H3 := (same_new ntp).trans s3
    have pool3 := pool2.same s23
    have b3 : Bt [l] H H3 := Bt.of_same (s2.trans s23)
    have hO3 := s23 _ _ hO2
    have hF3 := s23 _ _ hF2
    have nlO : aO ≠ l := lst_ne pool3 hO3 (by decide)
    have nlF : aF ≠ l := lst_ne pool3 hF3 (by decide)
    have nlD : aD ≠ l := lst_ne pool3 hD (by decide)
    have nFO : aO ≠ aF := fun e => by
      rw [e, hF3] at hO3
      cases hO3
    have nFD : aD ≠ aF := fun e => by
      rw [e, hF3] at hD
      cases hD
    have fF : H aF = none := s1.free nF
    refine ⟨_, rfl, (m : Int), rfl, by omega, by omega, for_range (lo := 0) (n := ((m : Nat) : Int).toNat) (fun i σ H' => (∃ y6 y7 y10 : Option V, σ = [some (.ref l), some (.int (m : Nat)), some (.ref aO), some (.str lettersS), some (.ref aF), some (.ref aD), y6, y7, none, none, y10, none]) ∧ H' aO = some (.lst ownW) ∧ H' aD = some (.lst noNames) ∧ (∃ zs : List Str, H' aF = some (.lst (zs.map V.str)) ∧ zs.length = i ∧ zs.Nodup ∧ ∀ z ∈ zs, Nm z) ∧ Bt [l] H H' ∧ PoolAt H' l) ⟨⟨none, none, none, rfl⟩, hO3, hD, ⟨[], hF3, rfl, List.nodup_nil, fun z hz => nomatch hz⟩, b3, pool3⟩ ?_ ?_⟩
    · rintro i σ H4 hi ⟨⟨y6, y7, y10, rfl⟩, hO4, hD4, ⟨zs, hF4, zl, nd, nm⟩, b4, pool4⟩
      refine ⟨_, rfl, _, rfl, l, 12, rfl, pool4, by decide, fun H5 d5 b5 pool5 d50 d51 => ?_⟩
      obtain ⟨v5, e5, z5, rfl, w5⟩ := at_of (P := fun v => ∃ z, v = .str z ∧ wdB 6 z) (xs := ownW) (d := d5) (fun x hx => by
        obtain ⟨z, hz, rfl⟩ := List.mem_map.mp hx
        exact ⟨z, rfl, own_wd z hz⟩) d50 (by show d5 < 12; omega)
      have hO5 := kept b5 hO4 (by simp [nlO])
      refine ⟨aO, _, d5, _, rfl, rfl, sqL hO5, e5, ?_⟩
      refine ⟨l, _, _, _, _, _, _, z5, rfl, pool5, w5, fun H6 z6 b6 pool6 w6 => ?_⟩
      have b46 := b5.trans b6
      have hO6 := kept b46 hO4 (by simp [nlO])
      have hD6 := kept b46 hD4 (by simp [nlD])
      have hF6 := kept b46 hF4 (by simp [nlF])
      have b06 := b4.trans b46
      have z66 := w6.2.2
      refine ⟨_, rfl, by show 1 ≤ sizeLine; decide, fun p7 n7 => ⟨_, rfl, lettersS, rfl, fun L nL => ?_⟩⟩
      have h7 : (upd H6 p7 (.lst [.str z6])) p7 = some (.lst [.str z6]) := upd_same
      have s7 : Same H6 (upd H6 p7 (.lst [.str z6])) := same_new n7
      revert h7 s7 nL
      generalize upd H6 p7 (.lst [.str z6]) = H7
      intro nL h7 s7
      refine lc_it walk_str (fun i H' => H' L = some (.lst (((lettersS.cps.toList.take i).map (cand z6)).map V.str)) ∧ Same H7 H') ⟨upd_same, same_new nL⟩ (fun _ _ _ _ => trivial) ?_ ?_
      · rintro i x H8 H' hx ⟨hL, sm⟩ ⟨rfl, c, hc, rfl⟩
        have hc' : lettersS.cps.toList[i]? = some c := by simpa using hc
        refine ⟨rfl, tyes (iteT ⟨_, rfl, 4, rfl, z6, rfl, ?_, _, rfl, cutS z6 none (some 4), ⟨#[c]⟩, rfl, rfl, ?_, cutS z6 none (some 4) ++ ⟨#[c]⟩, "x", rfl, rfl, ?_, _, hL, ?_, ?_, ?_⟩)⟩
        · exact Nat.le_trans z66 (by decide)
        · have := cutS_length z6 none (some 4)
          show _ + 1 ≤ sizeLine
          exact Nat.le_trans (show _ ≤ 8 by omega) (by decide)
        · have := cutS_length z6 none (some 4)
          rw [app_len]
          show _ + 1 + 1 ≤ sizeLine
          exact Nat.le_trans (show _ ≤ 8 by omega) (by decide)
        · rw [List.length_map, List.length_map, List.length_take]
          exact Nat.lt_of_lt_of_le (show _ < 26 by have := lt_get hc'; have : lettersS.cps.toList.length = 26 := by decide +kernel
                                                   omega) (by decide)
        · rw [upd_same, take_more hc', List.map_append, List.map_append]
          rfl
        · exact ((Bt.of_same (S := []) sm).upd0 nL).same
      · rintro H8 ⟨hL, s8⟩
        have e : lettersS.cps.toList.take lettersS.cps.size = lettersS.cps.toList := List.take_of_length_le (by simp)
        rw [e] at hL
        refine ⟨p7, L, _, _, rfl, rfl, s8 _ _ h7, hL, ?_, fun p9 n9 => ?_⟩
        · rw [List.length_map, List.length_map]
          show 1 + 26 ≤ sizeLine
          decide
        have h9 : (upd H8 p9 (.lst ([.str z6] ++ ((lettersS.cps.toList.map (cand z6)).map V.str)))) p9 = some (.lst ((cands z6).map V.str)) := upd_same
        have s9 : Same H6 (upd H8 p9 (.lst ([.str z6] ++ ((lettersS.cps.toList.map (cand z6)).map V.str)))) := (s7.trans s8).trans (same_new n9)
        revert h9 s9
        generalize upd H8 p9 (.lst ([.str z6] ++ ((lettersS.cps.toList.map (cand z6)).map V.str))) = H9
        intro h9 s9
        have hF9 := s9 _ _ hF6
        have hD9 := s9 _ _ hD6
        refine ⟨_, rfl, .inl ⟨rfl, _, sqL hF9⟩, _, rfl, p9, rfl, ⟨_, sqL h9⟩, fun L2 nL2 => lc_list (K := K) (a := p9) (xs := (cands z6).map V.str) (fun i H' => H' L2 = some (.lst ((((cands z6).take i).filter (freeB zs)).map V.str)) ∧ Same H9 H') ⟨upd_same, same_new nL2⟩ (fun i H' _ h => sqL (h.2 _ _ h9)) ?_ ?_⟩
        · rintro i x H' hx ⟨hL2, sm⟩
          obtain ⟨y, hy, rfl⟩ : ∃ y, (cands z6)[i]? = some y ∧ x = .str y := by
            rw [List.getElem?_map] at hx
            cases hc : (cands z6)[i]? with
            | none => rw [hc] at hx; cases hx
            | some y => rw [hc] at hx; cases hx; exact ⟨y, rfl, rfl⟩
          have no : freeB zs y = false → ((cands z6).take (i + 1)).filter (freeB zs) = ((cands z6).take i).filter (freeB zs) := fun e => by
            rw [take_more hy, List.filter_append, List.filter_cons, e]
            simp
          have yes : freeB zs y = true → ((cands z6).take (i + 1)).filter (freeB zs) = ((cands z6).take i).filter (freeB zs) ++ [y] := fun e => by
            rw [take_more hy, List.filter_append, List.filter_cons, e]
            simp
          refine ⟨rfl, ⟨_, rfl, _, rfl, aF, _, rfl, .inl (sqL (sm _ _ hF9)), rfl, flat_strs zs, _, rfl, ?_⟩⟩
          cases c1 : inV (.str y) (zs.map V.str) with
          | true =>
            refine iteF (iteF ⟨?_, sm⟩)
            rw [no (by unfold freeB; rw [c1]; rfl)]
            exact hL2
          | false =>
            refine iteT ⟨_, rfl, _, rfl, aD, _, rfl, .inl (sqL (sm _ _ hD9)), rfl, rfl, _, rfl, ?_⟩
            cases c2 : inV (.str y) noNames with
            | true =>
              refine iteF ⟨?_, sm⟩
              rw [no (by unfold freeB; rw [c1, c2]; rfl)]
              exact hL2
            | false =>
              refine iteT ⟨_, rfl, _, hL2, ?_, ?_, ((Bt.of_same (S := []) sm).upd0 nL2).same⟩
              · rw [List.length_map]
                refine Nat.lt_of_le_of_lt (List.length_filter_le _ _) ?_
                rw [List.length_take]
                refine Nat.lt_of_le_of_lt (Nat.min_le_right _ _) ?_
                show 27 < sizeLine
                decide
              · rw [upd_same, yes (by unfold freeB; rw [c1, c2]; rfl), List.map_append]
                rfl
        · rintro H' ⟨hL2, sm⟩
          rw [List.length_map, List.take_length] at hL2
          obtain ⟨y, ys, ey⟩ := some_free (z := z6) (found := zs) (by omega)
          obtain ⟨ny, nf⟩ := free_nm (found := zs) w6 (show y ∈ _ by rw [ey]; exact List.mem_cons_self)
          rw [ey] at hL2
          have hF' := sm _ _ hF9
          have s0 := s9.trans sm
          have bH : Bt [l] H H' := b06.trans (Bt.of_same s0)
          have nL2F : aF ≠ l := nlF
          refine ⟨L2, _, 0, .str y, rfl, rfl, sqL hL2, atI_nat (j := 0) rfl, aF, _, .str y, rfl, rfl, hF', ?_, ?_⟩
          · rw [List.length_map, zl]
            exact Nat.lt_of_lt_of_le (show i < 20 by omega) (by decide)
          refine ⟨⟨_, _, _, rfl⟩, ?_, ?_, ⟨zs ++ [y], ?_, ?_, ?_, ?_⟩, bH.upd0 fF, (pool6.same s0).upd nlF.symm⟩
          · rw [upd_ne nFO]
            exact s0 _ _ hO6
          · rw [upd_ne nFD]
            exact sm _ _ hD9
          · rw [upd_same, List.map_append]
            rfl
          · rw [List.length_append, zl]
            rfl
          · rw [List.nodup_append]
            refine ⟨nd, by simp, fun a ha b hb e => ?_⟩
            rw [List.mem_singleton.mp hb] at e
            exact nf (e ▸ ha)
          · intro z hz
            rcases List.mem_append.mp hz with h | h
            · exact nm z h
            · rw [List.mem_singleton.mp h]
              exact ny
    · rintro σ H4 ⟨⟨y6, y7, y10, rfl⟩, hO4, hD4, ⟨zs, hF4, zl, nd, nm⟩, b4, pool4⟩
      exact ⟨_, rfl, q H4 aF zs b4 pool4 fF hF4 (by omega) nd nm⟩
end
end WdQ

set_option Elab.async false
set_option linter.all false
set_option maxRecDepth 100000
set_option maxHeartbeats 4000000
namespace Wd
open PySem PySem.Spec PyProof.Rows L2 WdM
/-! ### data whose texts and tuples aren't too long -/
def Sm : Nat → PyData → Prop
  | _, .none => True
  | _, .bool _ => True
  | _, .int _ => True
  | _, .str x => x.length ≤ 100
  | 0, .list _ => False
  | 0, .tuple _ => False
  | 0, .dict _ => False
  | n + 1, .list ds => ∀ d ∈ ds, Sm n d
  | n + 1, .tuple ds => ds.length ≤ 100 ∧ ∀ d ∈ ds, Sm n d
  | _ + 1, .dict _ => True
def Sml (d : PyData) : Prop := ∃ n, Sm n d
theorem Sml.short {d : PyData} (h : Sml d) : Short d := fun z e => by
  subst e
  obtain ⟨n, h⟩ := h
  have h : z.length ≤ 100 := by cases n <;> exact h
  omega
theorem Sml.mem {ds : List PyData} {d : PyData} (h : Sml (.tuple ds)) (m : d ∈ ds) : Sml d := by
  obtain ⟨n, h⟩ := h
  cases n with
  | zero => exact h.elim
  | succ n => exact ⟨n, h.2 d m⟩
theorem Sml.len {ds : List PyData} (h : Sml (.tuple ds)) : ds.length ≤ 100 := by
  obtain ⟨n, h⟩ := h
  cases n with
  | zero => exact h.elim
  | succ n => exact h.1
theorem sm_up {n : Nat} : ∀ {d : PyData}, Sm n d → Sm (n + 1) d := by
  induction n with
  | zero =>
    intro d h
    cases d with
    | none => trivial
    | bool _ => trivial
    | int _ => trivial
    | str _ => exact h
    | _ => exact h.elim
  | succ n ih =>
    intro d h
    cases d with
    | none => trivial
    | bool _ => trivial
    | int _ => trivial
    | str _ => exact h
    | list ds => exact fun d hd => ih (h d hd)
    | tuple ds => exact ⟨h.1, fun d hd => ih (h.2 d hd)⟩
    | dict _ => trivial
theorem sm_mono {n m : Nat} {d : PyData} (h : Sm n d) (l : n ≤ m) : Sm m d := by
  induction l with
  | refl => exact h
  | step _ ih => exact sm_up ih
theorem dz_int {S : List Addr} {K : PySem.W.Frag} {H : Hp} {v : V} {i : Int} (h : Dz S K H v (.int i)) : v = .int i := by cases h; rfl
/-! ### t == (), whatever t holds -/
def rEqNil (K : PySem.W.Frag) : R2 := fun x y H Q => ∃ a b xs, x = .ref a ∧ y = .ref b ∧ SqT K H a xs ∧ SqT K H b [] ∧ Q (.bl (decide (xs = []))) H
theorem op_eqNil {X : Cx} (hu : X.A.units + 64 < cLine) : OpR X (compareOp .Eq) (rEqNil X.K) := by
  rintro pins s σ H _ _ v u Q I rx ry ⟨a, b, xs, rfl, rfl, ha, hb, q⟩
  cases rx
  cases ry
  obtain ⟨i1, r1, p1, _⟩ := I.tuple ha
  obtain ⟨i2, r2, p2, _⟩ := I.tuple hb
  cases r2
  refine SeqAt.eq_tupleAt (e := fun _ => true) p1 p2 (by omega) (fun j _ h2 => absurd h2 (by simp)) ⟨.bl (decide (xs = [])), H, I, ?_, q⟩
  show Value.bool _ = Value.bool _
  have e := r1.length
  congr 1
  cases xs with
  | nil =>
    cases r1
    simp
  | cons x xs =>
    cases r1
    simp
/-! ### t[1:] -/
theorem cut_tup1 {K : PySem.W.Frag} {σ : L2.St} {H : Hp} {a : Addr} {xs : List V} {Q : VK} (ha : SqT K H a xs) (l : 1 ≤ xs.length) (q : ∀ p H', Same H H' → SqT K H' p (xs.drop 1) → Q (.ref p) H') : tNoPart σ H fun u H3 => rSlA K (.ref a) (some 1) u H3 Q := by
  have e : cutV xs (some 1) none = xs.drop 1 := cut_back (k := 1) l
  refine ⟨a, xs, rfl, ha, fun ⟨e1, _⟩ => ?_, fun _ p np => q p _ (same_new np) (by rw [← e]; exact sqT upd_same)⟩
  have e2 : HT.sIx xs.length 0 (some ((1 : Nat) : Int)) = 0 := e1
  rw [HT.sIx_nat] at e2
  omega
/-! ### two sources in one comprehension -/
section
variable {J J1 : It} {n : Nat} {G : Hp → Prop} {Y : Nat → Hp → V → Hp → Prop}
theorem lc_outer (w : Walk J n G Y) {g : TG} {tt : TT} {B : (Hp → Prop) → L2.St → Hp → Prop} {vs : List Nat} {σ : L2.St} {H1 : Hp} {D : Addr} {Qd : Hp → Prop} (Pv : Nat → Hp → Prop) (h0 : Pv 0 (upd H1 D (.lst []))) (hG : ∀ i H, i ≤ n → Pv i H → G H)
    (hs : ∀ i x H H', i < n → Pv i H → Y i H x H' → g x (wipe σ vs) H' fun σ2 H2 => wipe σ2 vs = wipe σ vs ∧ tt σ2 H2 fun b H3 => if b = true then B (Pv (i + 1)) σ2 H3 else Pv (i + 1) H3) (hd : ∀ H, Pv n H → Qd H) :
    ∃ W : Nat → Nat → Hp → Prop, (∃ m, W 0 m (upd H1 D (.lst []))) ∧ ∀ i m H, W i m H → (J.stop i H ∧ Qd H) ∨ (J.go i H ∧ ∃ Nx : Hp → Prop, (∀ H', Nx H' → ∃ m', m' < m ∧ W (i + 1) m' H') ∧ ∀ x H', J.yld i H x H' → g x (wipe σ vs) H' fun σ2 H2 => wipe σ2 vs = wipe σ vs ∧ tt σ2 H2 fun b H3 => if b = true then B Nx σ2 H3 else Nx H3) := by
  refine ⟨fun i m H => m = n - i ∧ i ≤ n ∧ Pv i H, ⟨n, rfl, Nat.zero_le _, h0⟩, ?_⟩
  rintro i _ H ⟨rfl, hi, p⟩
  have g0 := hG i H hi p
  by_cases hlt : i < n
  · exact .inr ⟨w.goes i H hlt g0, Pv (i + 1), fun H' p' => ⟨n - (i + 1), by omega, rfl, hlt, p'⟩, fun x H' y => hs i x H H' hlt p (w.yields i H x H' hlt g0 y)⟩
  · obtain rfl : i = n := by omega
    exact .inl ⟨w.stops H g0, hd H p⟩
theorem lc_inner (w : Walk J n G Y) {g : TG} {tt : TT} {te : TE} {vs : List Nat} {σ : L2.St} {H1 : Hp} {D : Addr} {Nx : Hp → Prop} (Pv : Nat → Hp → Prop) (h0 : Pv 0 H1) (hG : ∀ i H, i ≤ n → Pv i H → G H)
    (hs : ∀ i x H H', i < n → Pv i H → Y i H x H' → g x (wipe σ vs) H' fun σ3 H5 => wipe σ3 vs = wipe σ vs ∧ tt σ3 H5 fun b H6 => if b = true then te σ3 H6 fun y H7 => ∃ acc, H7 D = some (.lst acc) ∧ acc.length < sizeLine ∧ Pv (i + 1) (upd H7 D (.lst (acc ++ [y]))) else Pv (i + 1) H6) (hd : ∀ H, Pv n H → Nx H) :
    ∃ W1 : Nat → Nat → Hp → Prop, (∃ m, W1 0 m H1) ∧ ∀ j k H, W1 j k H → (J.stop j H ∧ Nx H) ∨ (J.go j H ∧ ∃ Nx1 : Hp → Prop, (∀ H', Nx1 H' → ∃ k', k' < k ∧ W1 (j + 1) k' H') ∧ ∀ x H', J.yld j H x H' → g x (wipe σ vs) H' fun σ3 H5 => wipe σ3 vs = wipe σ vs ∧ tt σ3 H5 fun b H6 => if b = true then te σ3 H6 fun y H7 => ∃ acc, H7 D = some (.lst acc) ∧ acc.length < sizeLine ∧ Nx1 (upd H7 D (.lst (acc ++ [y]))) else Nx1 H6) := by
  refine ⟨fun i m H => m = n - i ∧ i ≤ n ∧ Pv i H, ⟨n, rfl, Nat.zero_le _, h0⟩, ?_⟩
  rintro i _ H ⟨rfl, hi, p⟩
  have g0 := hG i H hi p
  by_cases hlt : i < n
  · exact .inr ⟨w.goes i H hlt g0, Pv (i + 1), fun H' p' => ⟨n - (i + 1), by omega, rfl, hlt, p'⟩, fun x H' y => hs i x H H' hlt p (w.yields i H x H' hlt g0 y)⟩
  · obtain rfl : i = n := by omega
    exact .inl ⟨w.stops H g0, hd H p⟩
end
end Wd

set_option Elab.async false
set_option linter.all false
set_option maxRecDepth 100000
set_option maxHeartbeats 4000000
set_option exponentiation.threshold 5000
namespace WdQ
open PySem PySem.Spec PyProof.Rows L2 WdM Wd
abbrev sWord : Stmt := topS 36
abbrev sWhole : Stmt := topS 27
abbrev sDay : Stmt := topS 31
theorem scWord : FnScope ["thing", "words"] ["thing", "words"] (defScope sWord) := ⟨rfl, rfl, rfl, by decide +kernel, rfl, by decide +kernel, by decide +kernel⟩
theorem scWhole : FnScope ["thing"] ["thing"] (defScope sWhole) := ⟨rfl, rfl, rfl, by decide +kernel, rfl, by decide +kernel, by decide +kernel⟩
theorem scDay : FnScope ["thing"] ["thing"] (defScope sDay) := ⟨rfl, rfl, rfl, by decide +kernel, rfl, by decide +kernel, by decide +kernel⟩
def wordB (ws : List V) : PyData → Bool
  | .str z => inV (.str z) ws
  | _ => false
theorem word_no {ws : List V} {d : PyData} (h : strB d = false) : wordB ws d = false := by cases d <;> first | rfl | cases h
def dayB : PyData → Bool
  | .int i => decide (-9999 ≤ i ∧ i ≤ 9999)
  | _ => false
theorem day_no {d : PyData} (h : wholeB d = false) : dayB d = false := by cases d <;> first | rfl | cases h
section
variable {P : Program} {w : World} {K : PySem.W.Frag} {mg : Str → Option Value} {base : Heap}
def spWord (K : PySem.W.Frag) : Sp := fun vs H Q _ => ∃ (v : V) (d : PyData) (a : Addr) (ws : List V), vs = [v, .ref a] ∧ Is K H v d ∧ (SqL K H a ws ∨ SqT K H a ws) ∧ ws.all flatV = true ∧ Q (.bl (wordB ws d)) H
theorem ok_word {f : Addr} {fd : FuncData} {k : Nat} (B : Bi mg) (D : Df K mg "is_word" sWord f fd ["thing", "words"]) : FnOk P w K mg base CX0 (k + 1) f fd ["thing", "words"] (spWord K) := by
  refine D.fn.ok scWord (fun vs H Q E h => ?_) (fun cdv A outer s H vs Q E hr h => ?_)
  · obtain ⟨v, d, a, ws, rfl, _⟩ := h
    rfl
  · obtain ⟨v, d, a, ws, rfl, th, hw, fl, q⟩ := h
    refine ⟨_, pss_one (ps_ret (pe_and (pe_callB call_isi (by rfl) B.isi boot_isinstance (pa_cons (pv 0) (pa_cons (pe_bltn (v := .ty "str") (by rfl) B.str boot_str rfl) pa_nil))) (pe_one (pe_cmpR op_in_seq (pv 0) (pv 1) (by rfl))))), ?_⟩
    refine ⟨_, rfl, _, .ty "str", _, .type "str", _, rfl, .ty _, th.ty, kit_str d, _, rfl, ?_⟩
    by_cases hs : strB d = true
    · rw [hs]
      obtain ⟨z, rfl⟩ := str_of hs
      obtain rfl := th.str z rfl
      exact iteT ⟨_, rfl, _, rfl, a, ws, rfl, hw, rfl, fl, q⟩
    · have hs' : strB d = false := by simpa using hs
      rw [hs']
      rw [word_no hs'] at q
      exact iteF q
def spWhole (K : PySem.W.Frag) : Sp := fun vs H Q _ => ∃ (x : V) (d : PyData), vs = [x] ∧ Is K H x d ∧ Q (.bl (wholeB d)) H
theorem ok_whole {f : Addr} {fd : FuncData} {k : Nat} (B : Bi mg) (D : Df K mg "is_whole" sWhole f fd ["thing"]) : FnOk P w K mg base CX0 (k + 1) f fd ["thing"] (spWhole K) := by
  refine D.fn.ok scWhole (fun vs H Q E h => ?_) (fun cdv A outer s H vs Q E hr h => ?_)
  · obtain ⟨x, d, rfl, _⟩ := h
    rfl
  · obtain ⟨x, d, rfl, th, q⟩ := h
    obtain ⟨b1, b2, k1, k2, e⟩ := kit_whole (K := K) d
    rw [← e] at q
    refine ⟨_, pss_one (ps_ret (pe_and (pe_callB call_isi (by rfl) B.isi boot_isinstance (pa_cons (pv 0) (pa_cons (pe_bltn (v := .ty "int") (by rfl) B.int boot_int rfl) pa_nil)))
      (pe_one (pe_not (pe_callB call_isi (by rfl) B.isi boot_isinstance (pa_cons (pv 0) (pa_cons (pe_bltn (v := .ty "bool") (by rfl) B.bool boot_bool rfl) pa_nil))))))), ?_⟩
    refine ⟨x, rfl, x, .ty "int", _, _, b1, rfl, .ty _, th.ty, k1, b1, rfl, ?_⟩
    cases b1 with
    | false => exact iteF q
    | true => exact iteT ⟨x, rfl, x, .ty "bool", _, _, b2, rfl, .ty _, th.ty, k2, b2, rfl, q⟩
def spDay (K : PySem.W.Frag) : Sp := fun vs H Q _ => ∃ (S : List Addr) (v : V) (d : PyData), vs = [v] ∧ Dz S K H v d ∧ Q (.bl (dayB d)) H
theorem ok_day {f fW : Addr} {fd fdW : FuncData} {k : Nat} {tS : Tok} (B : Bi mg) (gS : mg "LAST_DAY" = some (.int 9999 tS)) (D : Df K mg "is_day" sDay f fd ["thing"]) (DW : Df K mg "is_whole" sWhole fW fdW ["thing"]) : FnOk P w K mg base CX0 (k + 2) f fd ["thing"] (spDay K) := by
  have GW : FnOk P w K mg base CX0 (k + 1) fW fdW ["thing"] (spWhole K) := ok_whole B DW
  refine D.fn.ok scDay (fun vs H Q E h => ?_) (fun cdv A outer s H vs Q E hr h => ?_)
  · obtain ⟨S, v, d, rfl, _⟩ := h
    rfl
  · obtain ⟨S, v, d, rfl, dz, q⟩ := h
    refine ⟨_, pss_one (ps_ret (pe_and (pe_call GW hr (by rfl) DW.mg DW.fn.kp DW.bd .nil pass0 (pa_cons (pv 0) pa_nil)) (pe_one (pe_chain op_le op_le (pe_un un_neg (pe_glob (v := .int 9999) (by rfl) gS ⟨_, rfl⟩)) (pv 0) (pe_glob (v := .int 9999) (by rfl) gS ⟨_, rfl⟩))))), ?_⟩
    refine ⟨_, rfl, v, d, rfl, dz.is, _, rfl, ?_⟩
    by_cases hw : wholeB d = true
    · rw [hw]
      obtain ⟨i, rfl⟩ := whole_of hw
      obtain rfl := dz_int dz
      have q : Q (.bl (decide (-9999 ≤ i ∧ i ≤ 9999))) H := q
      refine iteT ⟨9999, rfl, _, rfl, -9999, i, rfl, rfl, _, rfl, ?_⟩
      by_cases l0 : -9999 ≤ i
      · rw [decide_eq_true l0]
        refine iteT ⟨i, 9999, rfl, rfl, ?_⟩
        rw [show decide (-9999 ≤ i ∧ i ≤ 9999) = decide (i ≤ 9999) by simp [l0]] at q
        exact q
      · rw [decide_eq_false l0]
        rw [show decide (-9999 ≤ i ∧ i ≤ 9999) = false by simp [l0]] at q
        exact iteF q
    · have hw' : wholeB d = false := by simpa using hw
      rw [hw']
      rw [day_no hw'] at q
      exact iteF q
end
end WdQ

set_option Elab.async false
set_option linter.all false
set_option maxRecDepth 100000
set_option maxHeartbeats 4000000
namespace Wd
open PySem PySem.Spec PyProof.Rows L2 WdM
/-- what the top has written of an own error with one field: the class x at C, its __init__ at fI; CW its family -/
structure ErC (K : PySem.W.Frag) (mg : Str → Option Value) (x fld : Str) (C fI CW : Addr) : Prop where
  o : OexC K C
  no : PySem.W.findIn K (.ref C) fld = some none
  i : PySem.W.findIn K (.ref C) "__init__" = some (some (.ref fI))
  t : PySem.W.typeIn K (.ref fI) = some (.type "function")
  g : mg x = some (.ref C)
  m : PySem.W.exmOne K (.ref C) (.ref CW) = some true
  c : ExcC K C
  f : XfC K C
def spInitE (C : Addr) (fld : Str) : Sp := fun vs H Q _ => ∃ (a : Addr) (y : V), vs = [.ref a, y] ∧ H a = some (exo a C none) ∧ ∀ dx, H dx = none → dx ≠ a → Q .non (upd (upd H dx (exd dx [(fld, y)])) a (exo a C (some dx)))
theorem heap_made {H : Hp} {a dx : Addr} {o1 o2 o3 o4 : HO} (ha : H a = none) (ne : dx ≠ a) : upd (del (upd (upd (upd H a o1) dx o2) a o3) a) dx o4 = upd H dx o4 := by
  funext b
  by_cases h1 : b = dx
  · rw [h1, upd_same, upd_same]
  · rw [upd_ne h1, upd_ne h1]
    by_cases h2 : b = a
    · rw [h2, del_same, ha]
    · rw [del_ne h2, upd_ne h2, upd_ne h1, upd_ne h2]
theorem raise_var {C : Addr} {fld : Str} {i : Nat} {x : V} {H : Hp} {σ : L2.St} {R : XK} (h0 : σ[i]? = some (some x)) (hq : ∀ dd, H dd = none → R (.ref C) (some dd) (upd H dd (.xd [(fld, x)]))) : tMkO C (spInitE C fld) [] (tCons (tVar i) tNil) σ H R :=
  ⟨x, h0, by show 1 ≤ 1000; decide, fun e ne => ⟨e, x, rfl, upd_same, fun dx h1 h2 => ⟨rfl, dx, [(fld, x)], upd_same, by rw [upd_ne h2, upd_same], by rw [upd_ne h2] at h1; exact h1, by
    rw [heap_made ne h2]
    exact hq dx (by rw [upd_ne h2] at h1; exact h1)⟩⟩⟩
/-- an own error without a field: the class x at C, CW its family -/
structure ErN (K : PySem.W.Frag) (mg : Str → Option Value) (x : Str) (C CW : Addr) : Prop where
  x_ : PySem.W.excIn K C [.type "ValueError", .type "Exception", .type "BaseException", .type "object"] "ValueError.__new__" = true
  g : mg x = some (.ref C)
  k : PySem.W.keepIn K (.ref C) = true
  b : PySem.W.subIn K (.ref C) (.type "BaseException") = some true
  t : PySem.W.typeIn K (.ref C) = some (.type "type")
  m : PySem.W.exmOne K (.ref C) (.ref CW) = some true
  c : ExcC K C
  i : PySem.W.kitOne K (.ref C) (.ref C) = some true
end Wd

set_option Elab.async false
set_option linter.all false
set_option maxRecDepth 100000
set_option maxHeartbeats 4000000
set_option exponentiation.threshold 5000
namespace WdQ
open PySem PySem.Spec PyProof.Rows L2 WdM Wd
abbrev sSum : Stmt := topS 28
abbrev sPerson : Stmt := topS 41
abbrev sChkP : Stmt := topS 43
abbrev sChkG : Stmt := topS 44
abbrev sHouse : Stmt := topS 47
abbrev sHI : Stmt := inClass sHouse 0
abbrev sDeath : Stmt := topS 65
abbrev sChkD : Stmt := topS 66
abbrev sStory : Stmt := topS 68
abbrev sSI : Stmt := inClass sStory 0
theorem scSum : FnScope ["thing"] ["thing"] (defScope sSum) := ⟨rfl, rfl, rfl, by decide +kernel, rfl, by decide +kernel, by decide +kernel⟩
theorem scPerson : FnScope ["thing", "ahead", "name", "parent"] ["thing", "ahead"] (defScope sPerson) := ⟨rfl, rfl, rfl, by decide +kernel, rfl, by decide +kernel, by decide +kernel⟩
theorem scDeath : FnScope ["thing", "ahead", "name", "day"] ["thing", "ahead"] (defScope sDeath) := ⟨rfl, rfl, rfl, by decide +kernel, rfl, by decide +kernel, by decide +kernel⟩
theorem scChkP : FnScope ["people", "ahead", "number", "person"] ["people"] (defScope sChkP) := ⟨rfl, rfl, rfl, by decide +kernel, rfl, by decide +kernel, by decide +kernel⟩
theorem scChkG : FnScope ["goods", "ahead", "number", "good"] ["goods"] (defScope sChkG) := ⟨rfl, rfl, rfl, by decide +kernel, rfl, by decide +kernel, by decide +kernel⟩
theorem scChkD : FnScope ["deaths", "ahead", "number", "death"] ["deaths"] (defScope sChkD) := ⟨rfl, rfl, rfl, by decide +kernel, rfl, by decide +kernel, by decide +kernel⟩
theorem scHI : FnScope ["self", "people", "goods", "purse", "debts", "things", "amount"] ["self", "people", "goods", "purse", "debts"] (defScope sHI) := ⟨rfl, rfl, rfl, by decide +kernel, rfl, by decide +kernel, by decide +kernel⟩
theorem scSI : FnScope ["self", "deaths", "rows"] ["self", "deaths"] (defScope sSI) := ⟨rfl, rfl, rfl, by decide +kernel, rfl, by decide +kernel, by decide +kernel⟩
/-! ### rows of people and of deaths -/
def parV : Option Str → V
  | none => .non
  | some y => .str y
/-- rows that a house is made of -/
structure GoodF (rows : List (Str × Option Str)) : Prop where
  l1 : 1 ≤ rows.length
  l8 : rows.length ≤ 8
  nd : (rows.map Prod.fst).Nodup
  nm : ∀ r ∈ rows, Nm r.1
  pr : ∀ (i : Nat) (r : Str × Option Str) (y : Str), rows[i]? = some r → r.2 = some y → y ∈ (rows.take i).map Prod.fst
structure GoodD (rows : List (Str × Int)) : Prop where
  l8 : rows.length ≤ 8
  nm : ∀ r ∈ rows, nmB r.1 = true ∧ r.1.length ≤ 1000
  dy : ∀ r ∈ rows, -9999 ≤ r.2 ∧ r.2 ≤ 9999
  up : ∀ (i : Nat) (r s : Str × Int), rows[i]? = some r → rows[i + 1]? = some s → r.1.cps.toList < s.1.cps.toList
def FolkAt (K : PySem.W.Frag) (H : Hp) (v : V) (rows : List (Str × Option Str)) : Prop := ∃ (t : Addr) (xs : List V), v = .ref t ∧ SqT K H t xs ∧ xs.length = rows.length ∧ ∀ (i : Nat) (x : V), xs[i]? = some x → ∃ (a : Addr) (r : Str × Option Str), x = .ref a ∧ rows[i]? = some r ∧ SqT K H a [.str r.1, parV r.2]
def DeathsAt (K : PySem.W.Frag) (H : Hp) (v : V) (rows : List (Str × Int)) : Prop := ∃ (t : Addr) (xs : List V), v = .ref t ∧ SqT K H t xs ∧ xs.length = rows.length ∧ ∀ (i : Nat) (x : V), xs[i]? = some x → ∃ (a : Addr) (r : Str × Int), x = .ref a ∧ rows[i]? = some r ∧ SqT K H a [.str r.1, .int r.2]
section
variable {P : Program} {w : World} {K : PySem.W.Frag} {mg : Str → Option Value} {base : Heap} {CH CY : Addr}
theorem FolkAt.tk {H H' : Hp} {v : V} {rows : List (Str × Option Str)} (h : FolkAt K H v rows) (e : Tk H H') : FolkAt K H' v rows := by
  obtain ⟨t, xs, rfl, hs, l, hx⟩ := h
  exact ⟨t, xs, rfl, e.sq hs, l, fun i x hi => by obtain ⟨a, r, e1, e2, e3⟩ := hx i x hi; exact ⟨a, r, e1, e2, e.sq e3⟩⟩
theorem DeathsAt.tk {H H' : Hp} {v : V} {rows : List (Str × Int)} (h : DeathsAt K H v rows) (e : Tk H H') : DeathsAt K H' v rows := by
  obtain ⟨t, xs, rfl, hs, l, hx⟩ := h
  exact ⟨t, xs, rfl, e.sq hs, l, fun i x hi => by obtain ⟨a, r, e1, e2, e3⟩ := hx i x hi; exact ⟨a, r, e1, e2, e.sq e3⟩⟩
def spZero : Sp := fun vs H Q _ => vs = [.int 0] ∧ Q (.bl true) H
theorem ok_zero {f fW : Addr} {fd fdW : FuncData} {k : Nat} {tS : Tok} (B : Bi mg) (gS : mg "MOST_SUM" = some (.int 1000000000 tS)) (D : Df K mg "is_sum" sSum f fd ["thing"]) (DW : Df K mg "is_whole" sWhole fW fdW ["thing"]) : FnOk P w K mg base CX0 (k + 2) f fd ["thing"] spZero := by
  have GW : FnOk P w K mg base CX0 (k + 1) fW fdW ["thing"] (spWhole K) := ok_whole B DW
  refine D.fn.ok scSum (fun vs H Q E h => ?_) (fun cdv A outer s H vs Q E hr h => ?_)
  · obtain ⟨rfl, _⟩ := h
    rfl
  · obtain ⟨rfl, q⟩ := h
    refine ⟨_, pss_one (ps_ret (pe_and (pe_call GW hr (by rfl) DW.mg DW.fn.kp DW.bd .nil pass0 (pa_cons (pv 0) pa_nil)) (pe_one (pe_chain op_le op_le pe_int (pv 0) (pe_glob (v := .int 1000000000) (by rfl) gS ⟨_, rfl⟩))))), ?_⟩
    exact ⟨_, rfl, .int 0, .int 0, rfl, (Th.dp (.int 0)).is, true, rfl, iteT ⟨_, rfl, 0, 0, rfl, rfl, true, rfl, iteT ⟨0, _, rfl, rfl, q⟩⟩⟩
/-! ### one of the people -/
def spPerson (K : PySem.W.Frag) : Sp := fun vs H Q _ => ∃ (t l : Addr) (z : Str) (o : Option Str) (ns : List Str), vs = [.ref t, .ref l] ∧ SqT K H t [.str z, parV o] ∧ H l = some (.lst (ns.map V.str)) ∧ nmB z = true ∧ z.length ≤ 1000 ∧ z ∉ ns ∧ (∀ y, o = some y → y ∈ ns) ∧ ∀ H', Same H H' → Q (.bl true) H'
theorem flatS (zs : List Str) : (zs.map V.str).all flatV = true := by
  rw [List.all_map, List.all_eq_true]
  exact fun _ _ => rfl
theorem ok_person {f fN fW : Addr} {fd fdN fdW : FuncData} {k : Nat} (B : Bi mg) (GN : FnOk P w K mg base CX0 (k + 1) fN fdN ["thing"] (spName K)) (GW : FnOk P w K mg base CX0 (k + 1) fW fdW ["thing", "words"] (spWord K)) (D : Df K mg "is_person" sPerson f fd ["thing", "ahead"]) (DN : Df K mg "is_name" sName fN fdN ["thing"]) (DW : Df K mg "is_word" sWord fW fdW ["thing", "words"]) :
    FnOk P w K mg base CX0 (k + 2) f fd ["thing", "ahead"] (spPerson K) := by
  refine D.fn.ok scPerson (fun vs H Q E h => ?_) (fun cdv A outer s H vs Q E hr h => ?_)
  · obtain ⟨t, l, z, o, ns, rfl, _⟩ := h
    rfl
  · obtain ⟨t, l, z, o, ns, rfl, hs, hl, nm, zl, nn, po, q⟩ := h
    refine ⟨_, pss_cons (ps_if (PW.pt (pw_or (pt_not (pt_val (pe_callB call_isi (by rfl) B.isi boot_isinstance (pa_cons (pv 0) (pa_cons (pe_bltn (v := .ty "tuple") (by rfl) B.tuple boot_tuple rfl) pa_nil)))))
          (pw_or1 (pt_cmpR op_ne (pe_callB call_len_seq (by rfl) B.len PySem.boot_len (pa_cons (pv 0) pa_nil)) pe_int (nomark _))))) (pss_one (ps_ret pe_bl)) pss_nil)
      (pss_cons (ps_asg (pv 0) (pg_tup rfl (pgs_cons (pg_name (i := 2) scPerson.nd rfl (.inl rfl)) (pgs_cons (pg_name (i := 3) scPerson.nd rfl (.inl rfl)) pgs_nil))))
      (pss_cons (ps_if (PW.pt (pw_or (pt_not (pt_val (pe_call GN hr (by rfl) DN.mg DN.fn.kp DN.bd .nil pass0 (pa_cons (pv 2) pa_nil)))) (pw_or1 (pt_cmpR op_in_seq (pv 2) (pv 1) (by rfl))))) (pss_one (ps_ret pe_bl)) pss_nil)
      (pss_one (ps_ret (pe_or (pe_cmpR op_isN (pv 3) pe_non (nomark _)) (pe_one (pe_call GW hr (by rfl) DW.mg DW.fn.kp DW.bd .nil pass0 (pa_cons (pv 3) (pa_cons (pv 1) pa_nil))))))))), ?_⟩
    refine ⟨_, rfl, _, .ty "tuple", _, .type "tuple", true, rfl, .ty _, tyT hs, kit_ty (by decide +kernel), true, rfl, iteF ⟨_, rfl, t, _, rfl, .inr hs, rfl, _, rfl, iteF ?_⟩⟩
    refine ⟨_, rfl, t, _, rfl, hs, rfl, _, _, rfl, _, _, rfl, rfl, ?_⟩
    refine ⟨_, rfl, .str z, .str z, rfl, (Th.dp (.str z)).is, (fun y e => by cases e; exact zl), fun H1 sm => ?_⟩
    rw [show nameB (.str z) = true from nm]
    have nin : inV (.str z) (ns.map V.str) = false := by
      rw [Bool.eq_false_iff]
      exact fun e => nn (inV_str.mp e)
    refine ⟨true, rfl, iteF ⟨_, rfl, _, rfl, l, _, rfl, .inl (sqL (sm _ _ hl)), rfl, flatS ns, _, rfl, ?_⟩⟩
    show if inV (.str z) (ns.map V.str) = true then _ else _
    rw [nin]
    cases o with
    | none => exact iteF ⟨_, rfl, rfl, true, rfl, iteT (q H1 sm)⟩
    | some y =>
      refine iteF ⟨_, rfl, rfl, false, rfl, iteF ⟨_, rfl, _, rfl, .str y, .str y, l, _, rfl, (Th.dp (.str y)).is, .inl (sqL (sm _ _ hl)), flatS ns, ?_⟩⟩
      rw [show wordB (ns.map V.str) (.str y) = true from inV_str.mpr (po y rfl)]
      exact q H1 sm
def spChkP (K : PySem.W.Frag) : Sp := fun vs H Q _ => ∃ (v : V) (rows : List (Str × Option Str)), vs = [v] ∧ FolkAt K H v rows ∧ GoodF rows ∧ ∀ H', Same H H' → Q .non H'
theorem fst_new {α : Type} : ∀ {rows : List (Str × α)} {i : Nat} {r : Str × α}, (rows.map Prod.fst).Nodup → rows[i]? = some r → r.1 ∉ (rows.take i).map Prod.fst
  | [], i, r, _, h => by cases h
  | s :: rows, 0, r, nd, h => by simp
  | s :: rows, i + 1, r, nd, h => by
    rw [List.map_cons, List.nodup_cons] at nd
    have h : rows[i]? = some r := h
    rw [List.take_succ_cons, List.map_cons, List.mem_cons]
    rintro (e | e)
    · exact nd.1 (e ▸ List.mem_map_of_mem (List.mem_of_getElem? h))
    · exact fst_new nd.2 h e
theorem ok_chkP {f fD : Addr} {fd fdD : FuncData} {tM : Tok} {k : Nat} (B : Bi mg) (gM : mg "MOST_PEOPLE" = some (.int 8 tM))
    (GD : FnOk P w K mg base CX0 (k + 2) fD fdD ["thing", "ahead"] (spPerson K)) (D : Df K mg "check_people" sChkP f fd ["people"]) (DD : Df K mg "is_person" sPerson fD fdD ["thing", "ahead"]) : FnOk P w K mg base (L2.CX P w) (k + 3) f fd ["people"] (spChkP K) := by
  refine D.fn.okX scChkP (fun vs H Q E h => ?_) (fun cdv A outer s H vs Q E hr h => ?_)
  · obtain ⟨v, rows, rfl, _⟩ := h
    rfl
  · obtain ⟨v, rows, rfl, ⟨t, xs, rfl, ht, xl, hx⟩, gf, q⟩ := h
    refine ⟨_, pss_cons (ps_if (PW.pt (pw_or (pt_not (pt_val (pe_callB call_isi (by rfl) B.isi boot_isinstance (pa_cons (pv 0) (pa_cons (pe_bltn (v := .ty "tuple") (by rfl) B.tuple boot_tuple rfl) pa_nil)))))
          (pw_or1 (pt_not (pt_chain op_le op_le pe_int (pe_callB call_len_seq (by rfl) B.len PySem.boot_len (pa_cons (pv 0) pa_nil)) (pe_glob (v := .int 8) (by rfl) gM ⟨_, rfl⟩)))))) (pss_one ps_no) pss_nil)
      (pss_cons (ps_set (i := 1) scChkP.nd rfl (.inl rfl) (pe_lst pa_nil))
      (pss_one (ps_for (passes_of rfl) rfl (pi_E .tu (by rfl) B.enum (pa_cons (pv 0) pa_nil)) (pg_tup rfl (pgs_cons (pg_name (i := 2) scChkP.nd rfl (.inl rfl)) (pgs_cons (pg_name (i := 3) scChkP.nd rfl (.inl rfl)) pgs_nil)))
        (pss_cons (ps_if (pt_not (pt_val (pe_call GD hr (by rfl) DD.mg DD.fn.kp DD.bd .nil pass0 (pa_cons (pv 3) (pa_cons (pv 1) pa_nil))))) (pss_one ps_no) pss_nil)
        (pss_one (ps_expr (pe_bm PySem.F.plainAttrs_list PySem.F.slot_list_append PySem.F.type_list_append mt_append (pv 1) (pa_cons (pe_ix (r := rIxT K) ix_tup (pv 3) pe_int (fun _ _ => rfl)) pa_nil)))))))), ?_⟩
    have l1 := gf.l1
    have l8 := gf.l8
    refine ⟨_, rfl, _, .ty "tuple", _, .type "tuple", true, rfl, .ty _, tyT ht, kit_ty (by decide +kernel), true, rfl, iteF ⟨_, rfl, t, _, rfl, .inr ht, 1, _, rfl, rfl, _, rfl, ?_⟩⟩
    rw [decide_eq_true (show (1 : Int) ≤ ((xs.length : Nat) : Int) by omega)]
    refine iteT ⟨_, 8, rfl, rfl, _, rfl, ?_⟩
    rw [decide_eq_true (show ((xs.length : Nat) : Int) ≤ 8 by omega)]
    refine iteF ?_
    refine ⟨by show 0 ≤ sizeLine; decide, fun l nl => ?_⟩
    have sm0 : Same H (upd H l (.lst [])) := same_new nl
    have hl0 : (upd H l (.lst [])) l = some (.lst []) := upd_same
    revert sm0 hl0
    generalize upd H l (.lst []) = H1
    intro sm0 hl0
    have ht1 := (tk_same sm0).sq ht
    refine ⟨_, rfl, t, _, rfl, ht1, for_it (walkE (K := K) (k := .tu) (a := t) (xs := xs)) (fun i σ H' => ∃ y2 y3, σ = [some (.ref t), some (.ref l), y2, y3] ∧ Same H H' ∧ H' l = some (.lst (((rows.take i).map Prod.fst).map V.str))) ⟨none, none, rfl, sm0, hl0⟩ (fun i σ H' _ ⟨_, _, _, s, _⟩ => (tk_same s).sq ht) ?_ ?_⟩
    · rintro i _ σ H4 _ i1 ⟨y2, y3, rfl, s4, hl4⟩ ⟨T1, _, y, rfl, nT, rfl, ei, hy⟩
      cases ei
      obtain ⟨a, r, rfl, hr, ha⟩ := hx i y hy
      have s5 : Same H4 (upd H4 T1 (.tup [.int (i : Nat), .ref a])) := same_new nT
      have g5 : (upd H4 T1 (.tup [.int (i : Nat), .ref a])) T1 = some (.tup [.int (i : Nat), .ref a]) := upd_same
      revert s5 g5
      generalize upd H4 T1 (.tup [.int (i : Nat), .ref a]) = H5
      intro s5 g5
      refine ⟨T1, _, rfl, sqT g5, rfl, _, _, rfl, _, _, rfl, rfl, ?_⟩
      have h25 := (tk_same (s4.trans s5)).sq ha
      have nm := gf.nm r (List.mem_of_getElem? hr)
      refine ⟨_, rfl, _, rfl, a, l, r.1, r.2, _, rfl, h25, s5 _ _ hl4, nm.name, by have := nm.1.2.2; omega, fst_new gf.nd hr, fun z e => gf.pr i r z hr e, fun H6 s6 => ⟨true, rfl, iteF ?_⟩⟩
      have hl6 := s6 _ _ (s5 _ _ hl4)
      refine ⟨_, rfl, .inl ⟨rfl, _, sqL hl6⟩, _, rfl, a, _, 0, .str r.1, rfl, rfl, (tk_same s6).sq h25, atI_nat (j := 0) rfl, l, _, _, rfl, rfl, hl6, ?_, ?_⟩
      · rw [List.length_map, List.length_map, List.length_take]
        exact Nat.lt_of_lt_of_le (show _ < 9 by omega) (by decide)
      refine ⟨_, _, rfl, ((Bt.of_same (S := []) (s4.trans (s5.trans s6))).upd0 nl).same, ?_⟩
      rw [upd_same, take_more hr, List.map_append, List.map_append]
      rfl
    · rintro σ H4 ⟨y2, y3, rfl, s4, _⟩
      exact q H4 s4
def spChk0 (K : PySem.W.Frag) : Sp := fun vs H Q _ => ∃ t, vs = [.ref t] ∧ SqT K H t [] ∧ ∀ H', Same H H' → Q .non H'
theorem ok_chkG0 {f : Addr} {fd : FuncData} {tM : Tok} {k : Nat} (B : Bi mg) (gM : mg "MOST_GOODS" = some (.int 8 tM)) (D : Df K mg "check_goods" sChkG f fd ["goods"]) : FnOk P w K mg base (L2.CX P w) (k + 1) f fd ["goods"] (spChk0 K) := by
  refine D.fn.okX scChkG (fun vs H Q E h => ?_) (fun cdv A outer s H vs Q E hr h => ?_)
  · obtain ⟨t, rfl, _⟩ := h
    rfl
  · obtain ⟨t, rfl, ht, q⟩ := h
    refine ⟨_, pss_cons (ps_if (PW.pt (pw_or (pt_not (pt_val (pe_callB call_isi (by rfl) B.isi boot_isinstance (pa_cons (pv 0) (pa_cons (pe_bltn (v := .ty "tuple") (by rfl) B.tuple boot_tuple rfl) pa_nil)))))
          (pw_or1 (pt_cmpR op_gt (pe_callB call_len_seq (by rfl) B.len PySem.boot_len (pa_cons (pv 0) pa_nil)) (pe_glob (v := .int 8) (by rfl) gM ⟨_, rfl⟩) (nomark _))))) (pss_one ps_no) pss_nil)
      (pss_cons (ps_set (i := 1) scChkG.nd rfl (.inl rfl) (pe_lst pa_nil))
      (pss_one (ps_for (passes_of rfl) rfl (pi_E .tu (by rfl) B.enum (pa_cons (pv 0) pa_nil)) (pg_tup rfl (pgs_cons (pg_name (i := 2) scChkG.nd rfl (.inl rfl)) (pgs_cons (pg_name (i := 3) scChkG.nd rfl (.inl rfl)) pgs_nil))) pss_noS))), ?_⟩
    refine ⟨_, rfl, _, .ty "tuple", _, .type "tuple", true, rfl, .ty _, tyT ht, kit_ty (by decide +kernel), true, rfl, iteF ⟨_, rfl, t, _, rfl, .inr ht, _, 8, rfl, rfl, _, rfl, iteF ?_⟩⟩
    refine ⟨by show 0 ≤ sizeLine; decide, fun l nl => ?_⟩
    have sm0 : Same H (upd H l (.lst [])) := same_new nl
    revert sm0
    generalize upd H l (.lst []) = H1
    intro sm0
    refine ⟨_, rfl, t, _, rfl, (tk_same sm0).sq ht, for_it (walkE (K := K) (k := .tu) (a := t) (xs := [])) (fun i σ H' => Same H H') sm0 (fun i σ H' _ s => (tk_same s).sq ht) ?_ ?_⟩
    · intro i x σ H3 H4 hi
      exact absurd hi (Nat.not_lt_zero _)
    · intro σ H' s
      exact q H' s
/-! ### House -/
structure HsF (K : PySem.W.Frag) (C : Addr) : Prop where
  cl : Cls K C
  n1 : NoAttr K C "folk"
  n2 : NoAttr K C "things"
  n3 : NoAttr K C "purse"
  n4 : NoAttr K C "debts"
/-- a house of people without goods, purse and debts -/
def HouseAt (K : PySem.W.Frag) (CH : Addr) (H : Hp) (o : Addr) (v : V) : Prop := ∃ (dx t : Addr), H o = some (.ins CH dx [("folk", v), ("things", .ref t), ("purse", .int 0), ("debts", .int 0)]) ∧ SqT K H t []
def spHI (K : PySem.W.Frag) (CH : Addr) : Sp := fun vs H Q _ => ∃ (o dx : Addr) (v : V) (rows : List (Str × Option Str)), vs = [.ref o, v, .non, .int 0, .int 0] ∧ H o = some (.ins CH dx []) ∧ FolkAt K H v rows ∧ GoodF rows ∧ ∀ H', Bt [o] H H' → Q .non H'
theorem ok_HI {f fC fG fS : Addr} {fd fdC fdG fdS : FuncData} {k : Nat} (B : Bi mg) (T : HsF K CH) (F : FunD K "__init__" "House.__init__" (defArgs sHI) (defBody sHI) (defScope sHI) [.non, .int 0, .int 0] [] f fd) (GC : FnOk P w K mg base (L2.CX P w) (k + 3) fC fdC ["people"] (spChkP K)) (DC : Df K mg "check_people" sChkP fC fdC ["people"])
    (GG : FnOk P w K mg base (L2.CX P w) (k + 1) fG fdG ["goods"] (spChk0 K)) (DG : Df K mg "check_goods" sChkG fG fdG ["goods"]) (GS : FnOk P w K mg base CX0 (k + 2) fS fdS ["thing"] spZero) (DS : Df K mg "is_sum" sSum fS fdS ["thing"]) :
    FnOk P w K mg base (L2.CX P w) (k + 4) f fd ["self", "people", "goods", "purse", "debts"] (spHI K CH) := by
  refine F.ok scHI (fun vs H Q E h => ?_) (fun cdv A outer s H vs Q E hr h => ?_)
  · obtain ⟨o, dx, v, rows, rfl, _⟩ := h
    rfl
  · obtain ⟨o, dx, v, rows, rfl, ho, hv, gf, q⟩ := h
    have r1 : Room (k + 1) _ := hr.mono (by omega)
    have r2 : Room (k + 2) _ := hr.mono (by omega)
    refine ⟨_, pss_cons (ps_expr (pe_callS GC hr (by rfl) DC.mg DC.fn.kp DC.bd (fun σ => passAt (takes_of rfl rfl rfl rfl) σ) (pa_cons (pv 1) pa_nil)))
      (pss_cons (ps_set (i := 5) scHI.nd rfl (.inl rfl) (pe_ifExp (pt_cmpR op_isN (pv 2) pe_non (nomark _)) (pe_tup pa_nil) pe_no))
      (pss_cons (ps_expr (pe_callS GG r1 (by rfl) DG.mg DG.fn.kp DG.bd (fun σ => passAt (takes_of rfl rfl rfl rfl) σ) (pa_cons (pv 5) pa_nil)))
      (pss_cons (ps_for (passes_of rfl) rfl (pi_tup (pe_tup (pa_cons (pv 3) (pa_cons (pv 4) pa_nil)))) (pg_name (i := 6) scHI.nd rfl (.inl rfl))
        (pss_one (ps_if (pt_not (pt_val (pe_call GS r2 (by rfl) DS.mg DS.fn.kp DS.bd .nil pass0 (pa_cons (pv 6) pa_nil)))) (pss_one ps_no) pss_nil)))
      (pss_cons (ps_fld (pv 0) (pv 1) rfl) (pss_cons (ps_fld (pv 0) (pv 5) rfl) (pss_cons (ps_fld (pv 0) (pv 3) rfl) (pss_one (ps_fld (pv 0) (pv 4) rfl)))))))), ?_⟩
    refine ⟨_, rfl, v, rows, rfl, hv, gf, fun H1 s1 => ?_⟩
    refine ⟨_, rfl, rfl, _, rfl, iteT ⟨by show 0 ≤ sizeLine; decide, fun t nt => ?_⟩⟩
    refine ⟨_, rfl, t, rfl, sqT upd_same, fun H2 s2 => ?_⟩
    have s12 : Same H H2 := s1.trans ((same_new nt).trans s2)
    refine ⟨_, rfl, _, rfl, by show 2 ≤ sizeLine; decide, fun t2 nt2 => ⟨t2, rfl, ⟨_, sqT upd_same⟩, ?_⟩⟩
    have s3 : Same H (upd H2 t2 (.tup [.int 0, .int 0])) := s12.trans (same_new nt2)
    have g3 : (upd H2 t2 (.tup [.int 0, .int 0])) t2 = some (.tup [.int 0, .int 0]) := upd_same
    revert s3 g3
    generalize upd H2 t2 (.tup [.int 0, .int 0]) = H3
    intro s3 g3
    refine for_tup (K := K) (a := t2) (xs := [.int 0, .int 0]) (fun i σ H' => (∃ y, σ = [some (.ref o), some v, some .non, some (.int 0), some (.int 0), some (.ref t), y]) ∧ H' = H3) ⟨⟨_, rfl⟩, rfl⟩ (fun i σ H' _ h => h.2 ▸ sqT g3) ?_ ?_
    · rintro i x σ H4 hx ⟨⟨y, rfl⟩, rfl⟩
      have : x = .int 0 := by
        match i, hx with
        | 0, hx => cases hx; rfl
        | 1, hx => cases hx; rfl
        | i + 2, hx => cases hx
      subst this
      exact ⟨_, rfl, rfl, true, rfl, iteF ⟨⟨_, rfl⟩, rfl⟩⟩
    · rintro σ H4 ⟨⟨y, rfl⟩, rfl⟩
      refine ⟨_, rfl, _, rfl, o, CH, dx, _, rfl, s3 _ _ ho, T.cl, T.n1, by show 0 < 1000; decide, ?_⟩
      refine ⟨_, rfl, _, rfl, o, CH, dx, _, rfl, upd_same, T.cl, T.n2, by show 1 < 1000; decide, ?_⟩
      refine ⟨_, rfl, _, rfl, o, CH, dx, _, rfl, upd_same, T.cl, T.n3, by show 2 < 1000; decide, ?_⟩
      refine ⟨_, rfl, _, rfl, o, CH, dx, _, rfl, upd_same, T.cl, T.n4, by show 3 < 1000; decide, ?_⟩
      exact q _ (((((Bt.of_same s3).upd1 (by simp)).upd1 (by simp)).upd1 (by simp)).upd1 (by simp))
/-! ### one of the deaths -/
def ahV : Option Str → V
  | none => .non
  | some y => .str y
def spDeath (K : PySem.W.Frag) : Sp := fun vs H Q _ => ∃ (t : Addr) (z : Str) (d : Int) (o : Option Str), vs = [.ref t, ahV o] ∧ SqT K H t [.str z, .int d] ∧ nmB z = true ∧ z.length ≤ 1000 ∧ -9999 ≤ d ∧ d ≤ 9999 ∧ (∀ y, o = some y → y.cps.toList < z.cps.toList) ∧ ∀ H', Same H H' → Q (.bl true) H'
theorem ok_death {f fN fY : Addr} {fd fdN fdY : FuncData} {k : Nat} (B : Bi mg) (GN : FnOk P w K mg base CX0 (k + 2) fN fdN ["thing"] (spName K)) (GY : FnOk P w K mg base CX0 (k + 2) fY fdY ["thing"] (spDay K)) (D : Df K mg "is_death" sDeath f fd ["thing", "ahead"]) (DN : Df K mg "is_name" sName fN fdN ["thing"]) (DY : Df K mg "is_day" sDay fY fdY ["thing"]) :
    FnOk P w K mg base CX0 (k + 3) f fd ["thing", "ahead"] (spDeath K) := by
  refine D.fn.ok scDeath (fun vs H Q E h => ?_) (fun cdv A outer s H vs Q E hr h => ?_)
  · obtain ⟨t, z, d, o, rfl, _⟩ := h
    rfl
  · obtain ⟨t, z, d, o, rfl, hs, nm, zl, d0, d1, po, q⟩ := h
    refine ⟨_, pss_cons (ps_if (PW.pt (pw_or (pt_not (pt_val (pe_callB call_isi (by rfl) B.isi boot_isinstance (pa_cons (pv 0) (pa_cons (pe_bltn (v := .ty "tuple") (by rfl) B.tuple boot_tuple rfl) pa_nil)))))
          (pw_or1 (pt_cmpR op_ne (pe_callB call_len_seq (by rfl) B.len PySem.boot_len (pa_cons (pv 0) pa_nil)) pe_int (nomark _))))) (pss_one (ps_ret pe_bl)) pss_nil)
      (pss_cons (ps_asg (pv 0) (pg_tup rfl (pgs_cons (pg_name (i := 2) scDeath.nd rfl (.inl rfl)) (pgs_cons (pg_name (i := 3) scDeath.nd rfl (.inl rfl)) pgs_nil))))
      (pss_cons (ps_if (PW.pt (pw_or (pt_not (pt_val (pe_call GN hr (by rfl) DN.mg DN.fn.kp DN.bd .nil pass0 (pa_cons (pv 2) pa_nil)))) (pw_or1 (pt_not (pt_val (pe_call GY hr (by rfl) DY.mg DY.fn.kp DY.bd .nil pass0 (pa_cons (pv 3) pa_nil))))))) (pss_one (ps_ret pe_bl)) pss_nil)
      (pss_one (ps_ret (pe_or (pe_cmpR op_isN (pv 1) pe_non (nomark _)) (pe_one (pe_cmpR op_gt_str (pv 2) (pv 1) (nomark _)))))))), ?_⟩
    refine ⟨_, rfl, _, .ty "tuple", _, .type "tuple", true, rfl, .ty _, tyT hs, kit_ty (by decide +kernel), true, rfl, iteF ⟨_, rfl, t, _, rfl, .inr hs, rfl, _, rfl, iteF ?_⟩⟩
    refine ⟨_, rfl, t, _, rfl, hs, rfl, _, _, rfl, _, _, rfl, rfl, ?_⟩
    refine ⟨_, rfl, .str z, .str z, rfl, (Th.dp (.str z)).is, (fun y e => by cases e; exact zl), fun H1 sm => ?_⟩
    rw [show nameB (.str z) = true from nm]
    refine ⟨true, rfl, iteF ⟨_, rfl, [], .int d, .int d, rfl, .int d, ?_⟩⟩
    rw [show dayB (.int d) = true from decide_eq_true ⟨d0, d1⟩]
    refine ⟨true, rfl, iteF ⟨_, rfl, rfl, _, rfl, ?_⟩⟩
    cases o with
    | none => exact iteT (q H1 sm)
    | some y =>
      refine iteF ⟨_, rfl, _, rfl, z, y, rfl, rfl, ?_⟩
      rw [decide_eq_true (po y rfl)]
      exact q H1 sm
def spChkD (K : PySem.W.Frag) : Sp := fun vs H Q _ => ∃ (v : V) (rows : List (Str × Int)), vs = [v] ∧ DeathsAt K H v rows ∧ GoodD rows ∧ ∀ H', Same H H' → Q .non H'
def lastN (rows : List (Str × Int)) : Nat → Option Str
  | 0 => none
  | i + 1 => rows[i]?.map Prod.fst
theorem ok_chkD {f fD : Addr} {fd fdD : FuncData} {tM : Tok} {k : Nat} (B : Bi mg) (gM : mg "MOST_DEATHS" = some (.int 8 tM))
    (GD : FnOk P w K mg base CX0 (k + 3) fD fdD ["thing", "ahead"] (spDeath K)) (D : Df K mg "check_deaths" sChkD f fd ["deaths"]) (DD : Df K mg "is_death" sDeath fD fdD ["thing", "ahead"]) : FnOk P w K mg base (L2.CX P w) (k + 4) f fd ["deaths"] (spChkD K) := by
  refine D.fn.okX scChkD (fun vs H Q E h => ?_) (fun cdv A outer s H vs Q E hr h => ?_)
  · obtain ⟨v, rows, rfl, _⟩ := h
    rfl
  · obtain ⟨v, rows, rfl, ⟨t, xs, rfl, ht, xl, hx⟩, gf, q⟩ := h
    refine ⟨_, pss_cons (ps_if (PW.pt (pw_or (pt_not (pt_val (pe_callB call_isi (by rfl) B.isi boot_isinstance (pa_cons (pv 0) (pa_cons (pe_bltn (v := .ty "tuple") (by rfl) B.tuple boot_tuple rfl) pa_nil)))))
          (pw_or1 (pt_cmpR op_gt (pe_callB call_len_seq (by rfl) B.len PySem.boot_len (pa_cons (pv 0) pa_nil)) (pe_glob (v := .int 8) (by rfl) gM ⟨_, rfl⟩) (nomark _))))) (pss_one ps_no) pss_nil)
      (pss_cons (ps_set (i := 1) scChkD.nd rfl (.inl rfl) pe_non)
      (pss_one (ps_for (passes_of rfl) rfl (pi_E .tu (by rfl) B.enum (pa_cons (pv 0) pa_nil)) (pg_tup rfl (pgs_cons (pg_name (i := 2) scChkD.nd rfl (.inl rfl)) (pgs_cons (pg_name (i := 3) scChkD.nd rfl (.inl rfl)) pgs_nil)))
        (pss_cons (ps_if (pt_not (pt_val (pe_call GD hr (by rfl) DD.mg DD.fn.kp DD.bd .nil pass0 (pa_cons (pv 3) (pa_cons (pv 1) pa_nil))))) (pss_one ps_no) pss_nil)
        (pss_one (ps_set (i := 1) scChkD.nd rfl (.inl rfl) (pe_ix (r := rIxT K) ix_tup (pv 3) pe_int (fun _ _ => rfl)))))))), ?_⟩
    have l8 := gf.l8
    refine ⟨_, rfl, _, .ty "tuple", _, .type "tuple", true, rfl, .ty _, tyT ht, kit_ty (by decide +kernel), true, rfl, iteF ⟨_, rfl, t, _, rfl, .inr ht, _, 8, rfl, rfl, _, rfl, ?_⟩⟩
    rw [decide_eq_false (show ¬ (8 : Int) < ((xs.length : Nat) : Int) by omega)]
    refine iteF ?_
    refine ⟨_, rfl, t, _, rfl, ht, for_it (walkE (K := K) (k := .tu) (a := t) (xs := xs)) (fun i σ H' => ∃ y2 y3, σ = [some (.ref t), some (ahV (lastN rows i)), y2, y3] ∧ Same H H') ⟨none, none, rfl, Same.refl H⟩ (fun i σ H' _ ⟨_, _, _, s⟩ => (tk_same s).sq ht) ?_ ?_⟩
    · rintro i _ σ H4 _ i1 ⟨y2, y3, rfl, s4⟩ ⟨T1, _, y, rfl, nT, rfl, ei, hy⟩
      cases ei
      obtain ⟨a, r, rfl, hr, ha⟩ := hx i y hy
      have s5 : Same H4 (upd H4 T1 (.tup [.int (i : Nat), .ref a])) := same_new nT
      have g5 : (upd H4 T1 (.tup [.int (i : Nat), .ref a])) T1 = some (.tup [.int (i : Nat), .ref a]) := upd_same
      revert s5 g5
      generalize upd H4 T1 (.tup [.int (i : Nat), .ref a]) = H5
      intro s5 g5
      refine ⟨T1, _, rfl, sqT g5, rfl, _, _, rfl, _, _, rfl, rfl, ?_⟩
      have h25 := (tk_same (s4.trans s5)).sq ha
      have m := List.mem_of_getElem? hr
      have nm := gf.nm r m
      have dy := gf.dy r m
      refine ⟨_, rfl, _, rfl, a, r.1, r.2, lastN rows i, rfl, h25, nm.1, nm.2, dy.1, dy.2, ?_, fun H6 s6 => ⟨true, rfl, iteF ?_⟩⟩
      · intro z e
        cases i with
        | zero => cases e
        | succ j =>
          have e : rows[j]?.map Prod.fst = some z := e
          cases hj : rows[j]? with
          | none => rw [hj] at e; cases e
          | some r0 =>
            rw [hj] at e
            cases e
            exact gf.up j r0 r hj hr
      refine ⟨_, rfl, a, _, 0, .str r.1, rfl, rfl, (tk_same s6).sq h25, atI_nat (j := 0) rfl, ?_⟩
      refine ⟨some (.int (i : Nat)), some (.ref a), ?_, s4.trans (s5.trans s6)⟩
      show [some (.ref t), some (V.str r.1), some (.int (i : Nat)), some (.ref a)] = [some (.ref t), some (ahV (rows[i]?.map Prod.fst)), some (.int (i : Nat)), some (.ref a)]
      rw [hr]
      rfl
    · rintro σ H4 ⟨y2, y3, rfl, s4⟩
      exact q H4 s4
structure SyF (K : PySem.W.Frag) (C : Addr) : Prop where
  cl : Cls K C
  n1 : NoAttr K C "deaths"
def spSI (K : PySem.W.Frag) (CY : Addr) : Sp := fun vs H Q _ => ∃ (o dx : Addr) (v : V) (rows : List (Str × Int)), vs = [.ref o, v] ∧ H o = some (.ins CY dx []) ∧ DeathsAt K H v rows ∧ GoodD rows ∧ ∀ H', Bt [o] H H' → H' o = some (.ins CY dx [("deaths", v)]) → Q .non H'
theorem ok_SI {f fC : Addr} {fd fdC : FuncData} {k : Nat} (T : SyF K CY) (F : FunD K "__init__" "Story.__init__" (defArgs sSI) (defBody sSI) (defScope sSI) [.non] [] f fd) (GC : FnOk P w K mg base (L2.CX P w) (k + 4) fC fdC ["deaths"] (spChkD K)) (DC : Df K mg "check_deaths" sChkD fC fdC ["deaths"]) :
    FnOk P w K mg base (L2.CX P w) (k + 5) f fd ["self", "deaths"] (spSI K CY) := by
  refine F.ok scSI (fun vs H Q E h => ?_) (fun cdv A outer s H vs Q E hr h => ?_)
  · obtain ⟨o, dx, v, rows, rfl, _⟩ := h
    rfl
  · obtain ⟨o, dx, v, rows, rfl, ho, hv, gd, q⟩ := h
    refine ⟨_, pss_cons (ps_set (i := 2) scSI.nd rfl (.inl rfl) (pe_ifExp (pt_cmpR op_isN (pv 1) pe_non (nomark _)) pe_no (pv 1)))
      (pss_cons (ps_expr (pe_callS GC hr (by rfl) DC.mg DC.fn.kp DC.bd (fun σ => passAt (takes_of rfl rfl rfl rfl) σ) (pa_cons (pv 2) pa_nil)))
      (pss_one (ps_fld (pv 0) (pv 2) rfl))), ?_⟩
    obtain ⟨t, xs, rfl, hs, xl, hx⟩ := hv
    refine ⟨_, rfl, rfl, _, rfl, iteF ⟨_, rfl, _, rfl, .ref t, rows, rfl, ⟨t, xs, rfl, hs, xl, hx⟩, gd, fun H1 s1 => ?_⟩⟩
    refine ⟨_, rfl, _, rfl, o, CY, dx, _, rfl, s1 _ _ ho, T.cl, T.n1, by show 0 < 1000; decide, ?_⟩
    exact q _ ((Bt.of_same s1).upd1 (by simp)) upd_same
end
end WdQ

set_option Elab.async false
set_option linter.all false
set_option maxRecDepth 100000
set_option maxHeartbeats 4000000
set_option exponentiation.threshold 5000
namespace WdQ
open PySem PySem.Spec PyProof.Rows L2 WdM Wd
abbrev sPeople : Stmt := topS 73
def nPeople : List Str := ["_law_pool_here", "_law_many", "_law_folk", "_law_found", "_law_k", "_law_at"]
theorem scPeople : FnScope nPeople ["_law_pool_here", "_law_many"] (defScope sPeople) := ⟨rfl, rfl, rfl, by decide +kernel, rfl, by decide +kernel, by decide +kernel⟩
section
variable {P : Program} {w : World} {K : PySem.W.Frag} {mg : Str → Option Value} {base : Heap}
theorem rows_snoc {α : Type} {f : α → List V} {H : Hp} {xs : List V} {rows : List α} {b : Addr} {r0 : α} (l : xs.length = rows.length) (h : ∀ (i : Nat) (x : V), xs[i]? = some x → ∃ (a : Addr) (r : α), x = .ref a ∧ rows[i]? = some r ∧ SqT K H a (f r)) (hb : SqT K H b (f r0)) :
    ∀ (i : Nat) (x : V), (xs ++ [V.ref b])[i]? = some x → ∃ (a : Addr) (r : α), x = .ref a ∧ (rows ++ [r0])[i]? = some r ∧ SqT K H a (f r) := by
  intro i x hx
  by_cases hi : i < xs.length
  · rw [List.getElem?_append_left hi] at hx
    obtain ⟨a, r, e1, e2, e3⟩ := h i x hx
    exact ⟨a, r, e1, by rw [List.getElem?_append_left (by omega)]; exact e2, e3⟩
  · have hi2 : i = xs.length := by
      have := lt_get hx
      rw [List.length_append] at this
      simp only [List.length_cons, List.length_nil] at this
      omega
    subst hi2
    rw [List.getElem?_append_right (Nat.le_refl _), Nat.sub_self] at hx
    cases hx
    exact ⟨b, r0, rfl, by rw [l, List.getElem?_append_right (Nat.le_refl _), Nat.sub_self]; rfl, hb⟩
theorem rows_tk {α : Type} {f : α → List V} {H H' : Hp} {xs : List V} {rows : List α} (e : Tk H H') (h : ∀ (i : Nat) (x : V), xs[i]? = some x → ∃ (a : Addr) (r : α), x = .ref a ∧ rows[i]? = some r ∧ SqT K H a (f r)) :
    ∀ (i : Nat) (x : V), xs[i]? = some x → ∃ (a : Addr) (r : α), x = .ref a ∧ rows[i]? = some r ∧ SqT K H' a (f r) := fun i x hx => by
  obtain ⟨a, r, e1, e2, e3⟩ := h i x hx
  exact ⟨a, r, e1, e2, e.sq e3⟩
def rowF (r : Str × Option Str) : List V := [.str r.1, parV r.2]
def spPeople (K : PySem.W.Frag) : Sp := fun vs H Q _ => ∃ (l : Addr) (m : Nat), vs = [.ref l, .int (m : Nat)] ∧ PoolAt H l ∧ 1 ≤ m ∧ m ≤ 8 ∧ ∀ (H' : Hp) (p : Addr) (rows : List (Str × Option Str)), Bt [l] H H' → PoolAt H' l → FolkAt K H' (.ref p) rows → GoodF rows → rows.length = m → Q (.ref p) H'
theorem ok_people {f fT fW : Addr} {fd fdT fdW : FuncData} {k : Nat} (B : Bi mg) (D : Df K mg "_law_people" sPeople f fd ["_law_pool_here", "_law_many"]) (DT : Df K mg "_law_take" sTake fT fdT ["_law_pool_here", "_law_many"]) (DW : Df K mg "_law_words" sWords fW fdW ["_law_pool_here", "_law_many"])
    (GT : FnOk P w K mg base CX0 (k + 1) fT fdT ["_law_pool_here", "_law_many"] spTake) (GW : FnOk P w K mg base CX0 (k + 2) fW fdW ["_law_pool_here", "_law_many"] spWords) : FnOk P w K mg base CX0 (k + 3) f fd ["_law_pool_here", "_law_many"] (spPeople K) := by
  refine D.fn.ok scPeople (fun vs H Q E h => ?_) (fun cdv A outer s H vs Q E hr h => ?_)
  · obtain ⟨l, m, rfl, _⟩ := h
    rfl
  · obtain ⟨l, m, rfl, pool, m1, m8, q⟩ := h
    have r1 : Room (k + 1) _ := hr.mono (by omega)
    refine ⟨_, pss_cons (ps_par (i := 2) (j := 3) rfl scPeople.nd rfl rfl (by decide) rfl rfl (pa_cons (pe_call GW hr (by rfl) DW.mg DW.fn.kp DW.bd .nil pass0 (pa_cons (pv 0) (pa_cons (pv 1) pa_nil))) (pa_cons (pe_lst pa_nil) pa_nil)) (by rfl))
      (pss_cons (ps_for PassesOwn.never rfl (pi_range1 (by rfl) B.range (pa_cons (pv 1) pa_nil)) (pg_name (i := 4) scPeople.nd rfl (.inl rfl))
        (pss_cons (ps_set (i := 5) scPeople.nd rfl (.inl rfl) (pe_call GT r1 (by rfl) DT.mg DT.fn.kp DT.bd .nil pass0 (pa_cons (pv 0) (pa_cons (pe_op op_add (pv 4) pe_int) pa_nil))))
        (pss_one (ps_expr (pe_bm PySem.F.plainAttrs_list PySem.F.slot_list_append PySem.F.type_list_append mt_append (pv 3) (pa_cons (pe_tup (pa_cons (pe_ix (r := rIxL K) ix_list (pv 2) (pv 4) (fun _ _ => rfl)) (pa_cons (pe_ifExp (pt_cmpR op_ge (pv 5) (pv 4) (nomark _)) pe_non (pe_ix (r := rIxL K) ix_list (pv 2) (pv 5) (fun _ _ => rfl))) pa_nil))) pa_nil))))))
      (pss_one (ps_ret (pe_callTy call_tuple_of (by rfl) B.tuple boot_tuple (pa_cons (pv 3) pa_nil))))), ?_⟩
    refine ⟨_, rfl, _, rfl, l, m, rfl, pool, by omega, fun H1 aW zs b1 pool1 nW hW zl nd nm => ?_⟩
    refine ⟨by show 0 ≤ sizeLine; decide, fun aF nF => ⟨_, _, rfl, ?_⟩⟩
    have nlF : l ≠ aF := pool1.ne nF
    have nWF : aW ≠ aF := ne_of_none hW nF
    have nlW : aW ≠ l := fun e => pool.ne nW e.symm
    have fF : H aF = none := by
      cases e : H aF with
      | none => rfl
      | some o =>
        have := b1 aF o (by simp [nlF.symm]) e
        rw [nF] at this
        cases this
    refine ⟨_, rfl, (m : Int), rfl, by omega, by omega, for_range (lo := 0) (n := ((m : Nat) : Int).toNat) (fun i σ H' => (∃ y4 y5 : Option V, σ = [some (.ref l), some (.int (m : Nat)), some (.ref aW), some (.ref aF), y4, y5]) ∧ H' aW = some (.lst (zs.map V.str)) ∧ (∃ (xs : List V) (rows : List (Str × Option Str)), H' aF = some (.lst xs) ∧ xs.length = i ∧ rows.length = i ∧ rows.map Prod.fst = zs.take i ∧ (∀ (j : Nat) (x : V), xs[j]? = some x → ∃ (a : Addr) (r : Str × Option Str), x = .ref a ∧ rows[j]? = some r ∧ SqT K H' a (rowF r)) ∧ (∀ (j : Nat) (r : Str × Option Str) (y : Str), rows[j]? = some r → r.2 = some y → y ∈ zs.take j)) ∧ Bt [l] H H' ∧ PoolAt H' l)
      ⟨⟨none, none, rfl⟩, ?_, ⟨[], [], upd_same, rfl, rfl, rfl, (fun j x hx => nomatch hx), (fun j r y hr => nomatch hr)⟩, b1.new nF, pool1.upd nlF⟩ ?_ ?_⟩
    · rw [upd_ne nWF]
      exact hW
    · rintro i σ H4 hi ⟨⟨y4, y5, rfl⟩, hW4, ⟨xs, rows, hF4, xl, rl, rz, hx, pr⟩, b4, pool4⟩
      refine ⟨_, rfl, _, rfl, _, 2, rfl, rfl, l, _, rfl, pool4, by omega, fun H5 d b5 pool5 d0 d1 => ?_⟩
      have hW5 := kept b5 hW4 (by simp [nlW])
      have hF5 := kept b5 hF4 (by simp [nlF.symm])
      have tk5 : Tk H4 H5 := b5.tk pool4.lst
      obtain ⟨z, hz⟩ : ∃ z, zs[i]? = some z := ⟨zs[i], List.getElem?_eq_getElem (by omega)⟩
      have hzV : (zs.map V.str)[i]? = some (.str z) := by rw [List.getElem?_map, hz]; rfl
      have add : ∀ (o : Option Str), (∀ y, o = some y → y ∈ zs.take i) → ∀ tp, H5 tp = none → ∃ (l_1 : Addr) (xs_1 : List V) (y : V), V.ref aF = V.ref l_1 ∧ [V.ref tp] = [y] ∧ (upd H5 tp (.tup [.str z, parV o])) l_1 = some (.lst xs_1) ∧ xs_1.length < sizeLine ∧ ((∃ y4 y5 : Option V, [some (V.ref l), some (V.int (m : Nat)), some (.ref aW), some (.ref aF), some (V.int (0 + (i : Nat))), some (V.int d)] = [some (.ref l), some (.int (m : Nat)), some (.ref aW), some (.ref aF), y4, y5]) ∧ (upd (upd H5 tp (.tup [.str z, parV o])) l_1 (.lst (xs_1 ++ [y]))) aW = some (.lst (zs.map V.str)) ∧ (∃ (xs : List V) (rows : List (Str × Option Str)), (upd (upd H5 tp (.tup [.str z, parV o])) l_1 (.lst (xs_1 ++ [y]))) aF = some (.lst xs) ∧ xs.length = i + 1 ∧ rows.length = i + 1 ∧ rows.map Prod.fst = zs.take (i + 1) ∧ (∀ (j : Nat) (x : V), xs[j]? = some x → ∃ (a : Addr) (r : Str × Option Str), x = .ref a ∧ rows[j]? = some r ∧ SqT K (upd (upd H5 tp (.tup [.str z, parV o])) l_1 (.lst (xs_1 ++ [y]))) a (rowF r)) ∧ (∀ (j : Nat) (r : Str × Option Str) (y : Str), rows[j]? = some r → r.2 = some y → y ∈ zs.take j)) ∧ Bt [l] H (upd (upd H5 tp (.tup [.str z, parV o])) l_1 (.lst (xs_1 ++ [y]))) ∧ PoolAt (upd (upd H5 tp (.tup [.str z, parV o])) l_1 (.lst (xs_1 ++ [y]))) l) := by
        intro o ho tp ntp
        have nlt : l ≠ tp := pool5.ne ntp
        have hF6 : (upd H5 tp (.tup [.str z, parV o])) aF = some (.lst xs) := by rw [upd_ne (ne_of_none hF5 ntp)]; exact hF5
        have hW6 : (upd H5 tp (.tup [.str z, parV o])) aW = some (.lst (zs.map V.str)) := by rw [upd_ne (ne_of_none hW5 ntp)]; exact hW5
        have tk6 : Tk H4 (upd H5 tp (.tup [.str z, parV o])) := tk5.trans (tk_new ntp)
        have sN : SqT K (upd H5 tp (.tup [.str z, parV o])) tp (rowF (z, o)) := sqT upd_same
        have b6 : Bt [l] H (upd H5 tp (.tup [.str z, parV o])) := (b4.trans b5).new ntp
        have pool6 := pool5.upd (o := .tup [.str z, parV o]) nlt
        revert hF6 hW6 tk6 sN b6 pool6
        generalize upd H5 tp (.tup [.str z, parV o]) = H6
        intro hF6 hW6 tk6 sN b6 pool6
        have tk7 : Tk H6 (upd H6 aF (.lst (xs ++ [.ref tp]))) := tk_lst hF6
        refine ⟨aF, xs, .ref tp, rfl, rfl, hF6, by rw [xl]; exact Nat.lt_of_lt_of_le (show i < 8 by omega) (by decide), ⟨_, _, rfl⟩, ?_, ⟨xs ++ [.ref tp], rows ++ [(z, o)], upd_same, ?_, ?_, ?_, ?_, ?_⟩, b6.upd0 fF, pool6.upd nlF⟩
        · rw [upd_ne nWF]
          exact hW6
        · rw [List.length_append, xl]
          rfl
        · rw [List.length_append, rl]
          rfl
        · rw [List.map_append, rz, take_more hz]
          rfl
        · exact rows_tk tk7 (rows_snoc (f := rowF) (by omega) (rows_tk tk6 hx) sN)
        · intro j r y hr e
          by_cases hj : j < rows.length
          · rw [List.getElem?_append_left hj] at hr
            exact pr j r y hr e
          · have hj2 : j = rows.length := by
              have := lt_get hr
              rw [List.length_append] at this
              simp only [List.length_cons, List.length_nil] at this
              omega
            subst hj2
            rw [List.getElem?_append_right (Nat.le_refl _), Nat.sub_self] at hr
            cases hr
            rw [rl]
            exact ho y e
      have hat : atI (zs.map V.str) (0 + (i : Nat)) = some (.str z) := by
        rw [Int.zero_add]
        exact atI_nat hzV
      refine ⟨_, rfl, .inl ⟨rfl, _, sqL hF5⟩, _, rfl, _, rfl, aW, _, _, .str z, rfl, rfl, sqL hW5, hat, ?_⟩
      refine ⟨_, rfl, _, rfl, d, _, rfl, rfl, _, rfl, ?_⟩
      by_cases dc : (0 : Int) + (i : Nat) ≤ d
      · rw [decide_eq_true dc]
        exact iteT ⟨by show 2 ≤ sizeLine; decide, fun tp ntp => add none (fun y e => nomatch e) tp ntp⟩
      · rw [decide_eq_false dc]
        obtain ⟨n, rfl⟩ := Int.eq_ofNat_of_zero_le d0
        have nl : n < zs.length := by omega
        have hy : zs[n]? = some zs[n] := List.getElem?_eq_getElem nl
        have hyV : (zs.map V.str)[n]? = some (.str zs[n]) := by rw [List.getElem?_map, hy]; rfl
        refine iteF ⟨_, rfl, _, rfl, aW, _, _, .str zs[n], rfl, rfl, sqL hW5, atI_nat hyV, by show 2 ≤ sizeLine; decide, fun tp ntp => add (some zs[n]) (fun y e => ?_) tp ntp⟩
        cases e
        exact List.mem_of_getElem? (i := n) (by rw [List.getElem?_take_of_lt (by omega)]; exact hy)
    · rintro σ H4 ⟨⟨y4, y5, rfl⟩, hW4, ⟨xs, rows, hF4, xl, rl, rz, hx, pr⟩, b4, pool4⟩
      have rm : rows.length = m := by omega
      have rz2 : rows.map Prod.fst = zs := by rw [rz]; exact List.take_of_length_le (by omega)
      refine ⟨_, rfl, aF, xs, rfl, .inl ⟨sqL hF4, fun tp ntp => q _ _ rows (b4.new ntp) (pool4.upd (pool4.ne ntp)) ⟨tp, xs, rfl, sqT upd_same, by omega, rows_tk (tk_new ntp) hx⟩ ⟨by omega, by omega, rz2 ▸ nd, fun r hr => nm r.1 (rz2 ▸ List.mem_map_of_mem hr), fun j r y hr e => ?_⟩ rm⟩⟩
      have := pr j r y hr e
      rw [List.map_take, rz2]
      exact this
end
end WdQ

set_option Elab.async false
set_option linter.all false
set_option maxRecDepth 100000
set_option maxHeartbeats 4000000
set_option exponentiation.threshold 5000
namespace WdQ
open PySem PySem.Spec PyProof.Rows L2 WdM Wd
abbrev sDeaths : Stmt := topS 74
def nDeaths : List Str := ["_law_pool_here", "_law_folk", "_law_days", "_law_found", "_law_one", "_law_near", "_law_at"]
theorem scDeaths : FnScope nDeaths ["_law_pool_here", "_law_folk", "_law_days"] (defScope sDeaths) := ⟨rfl, rfl, rfl, by decide +kernel, rfl, by decide +kernel, by decide +kernel⟩
section
variable {P : Program} {w : World} {K : PySem.W.Frag} {mg : Str → Option Value} {base : Heap}
def rowD (r : Str × Int) : List V := [.str r.1, .int r.2]
def spDeaths (K : PySem.W.Frag) : Sp := fun vs H Q _ => ∃ (l aN aD : Addr) (zs : List Str) (ds : List Int), vs = [.ref l, .ref aN, .ref aD] ∧ PoolAt H l ∧ H aN = some (.lst (zs.map V.str)) ∧ H aD = some (.lst (ds.map V.int)) ∧ aD ≠ l ∧ zs.Nodup ∧ (∀ z ∈ zs, Nm z) ∧ zs.length ≤ 8 ∧ 1 ≤ ds.length ∧ ds.length ≤ 100 ∧
  ∀ (H' : Hp) (p : Addr) (rows : List (Str × Int)), Bt [l] H H' → PoolAt H' l → DeathsAt K H' (.ref p) rows → GoodD rows → Q (.ref p) H'
theorem ok_deaths {f fT : Addr} {fd fdT : FuncData} {k : Nat} (B : Bi mg) (nS : mg "sorted" = none) (D : Df K mg "_law_deaths" sDeaths f fd ["_law_pool_here", "_law_folk", "_law_days"]) (DT : Df K mg "_law_take" sTake fT fdT ["_law_pool_here", "_law_many"])
    (GT : FnOk P w K mg base CX0 (k + 1) fT fdT ["_law_pool_here", "_law_many"] spTake) : FnOk P w K mg base CX0 (k + 2) f fd ["_law_pool_here", "_law_folk", "_law_days"] (spDeaths K) := by
  refine D.fn.ok scDeaths (fun vs H Q E h => ?_) (fun cdv A outer s H vs Q E hr h => ?_)
  · obtain ⟨l, aN, aD, zs, ds, rfl, _⟩ := h
    rfl
  · obtain ⟨l, aN, aD, zs, ds, rfl, pool, hN, hD, nDl, nd, nm, z8, d1, d100, q⟩ := h
    refine ⟨_, pss_cons (ps_set (i := 3) scDeaths.nd rfl (.inl rfl) (pe_lst pa_nil))
      (pss_cons (ps_for PassesOwn.never rfl (pi_list (pe_callB cr_sortedS (by rfl) nS (by decide +kernel) (pa_cons (pv 1) pa_nil))) (pg_name (i := 4) scDeaths.nd rfl (.inl rfl))
        (pss_cons (ps_set (i := 5) scDeaths.nd rfl (.inl rfl) (pe_op op_sub (pe_op op_add (pe_ix (r := rIxL K) ix_list (pv 2) (pe_call GT hr (by rfl) DT.mg DT.fn.kp DT.bd .nil pass0 (pa_cons (pv 0) (pa_cons (pe_callB call_len_seq (by rfl) B.len PySem.boot_len (pa_cons (pv 2) pa_nil)) pa_nil))) (fun _ _ => rfl)) (pe_call GT hr (by rfl) DT.mg DT.fn.kp DT.bd .nil pass0 (pa_cons (pv 0) (pa_cons pe_int pa_nil)))) pe_int))
        (pss_cons (ps_set (i := 6) scDeaths.nd rfl (.inl rfl) (pe_ix (r := rIxL K) ix_list (pe_lst (pa_cons (pv 5) (pa_cons (pv 5) (pa_cons (pe_op op_sub (pe_call GT hr (by rfl) DT.mg DT.fn.kp DT.bd .nil pass0 (pa_cons (pv 0) (pa_cons pe_int pa_nil))) pe_int) pa_nil)))) (pe_call GT hr (by rfl) DT.mg DT.fn.kp DT.bd .nil pass0 (pa_cons (pv 0) (pa_cons pe_int pa_nil))) (fun _ _ => rfl)))
        (pss_one (ps_if (pt_cmpR op_gt (pe_call GT hr (by rfl) DT.mg DT.fn.kp DT.bd .nil pass0 (pa_cons (pv 0) (pa_cons pe_int pa_nil))) pe_int (nomark _))
          (pss_one (ps_expr (pe_bm PySem.F.plainAttrs_list PySem.F.slot_list_append PySem.F.type_list_append mt_append (pv 3) (pa_cons (pe_tup (pa_cons (pv 4) (pa_cons (pe_callB (call_max2 rfl) (by rfl) B.max (by decide +kernel) (pa_cons (pe_op op_sub pe_int pe_int) (pa_cons (pe_callB (call_min2 rfl) (by rfl) B.min (by decide +kernel) (pa_cons pe_int (pa_cons (pv 6) pa_nil))) pa_nil))) pa_nil))) pa_nil)))) pss_nil)))))
      (pss_one (ps_ret (pe_callTy call_tuple_of (by rfl) B.tuple boot_tuple (pa_cons (pv 3) pa_nil))))), ?_⟩
    refine ⟨by show 0 ≤ sizeLine; decide, fun aF nF => ?_⟩
    have hN1 : (upd H aF (.lst [])) aN = some (.lst (zs.map V.str)) := by rw [upd_ne (ne_of_none hN nF)]; exact hN
    refine ⟨_, rfl, aN, zs, rfl, sqL hN1, by omega, fun ys p perm srt np => ?_⟩
    have ny : ys.Nodup := perm.nodup_iff.mpr nd
    have pw := sorted_pw srt ny
    have y8 : ys.length ≤ 8 := by rw [perm.length_eq]; exact z8
    have nmy : ∀ z ∈ ys, Nm z := fun z hz => nm z (perm.mem_iff.mp hz)
    have npF : aF ≠ p := ne_of_none upd_same np
    have nFl : aF ≠ l := fun e => pool.ne nF e.symm
    have s1 : Same H (upd (upd H aF (.lst [])) p (.lst (ys.map V.str))) := (same_new nF).trans (same_new np)
    have hp2 : (upd (upd H aF (.lst [])) p (.lst (ys.map V.str))) p = some (.lst (ys.map V.str)) := upd_same
    have hF2 : (upd (upd H aF (.lst [])) p (.lst (ys.map V.str))) aF = some (.lst []) := by rw [upd_ne npF]; exact upd_same
    have npl : p ≠ l := fun e => by
      have := (pool.same (same_new nF)).ne np
      exact this e.symm
    revert s1 hp2 hF2
    generalize upd (upd H aF (.lst [])) p (.lst (ys.map V.str)) = H2
    intro s1 hp2 hF2
    have pool2 := pool.same s1
    have hD2 := s1 _ _ hD
    refine ⟨p, rfl, ⟨_, sqL hp2⟩, for_list (K := K) (a := p) (xs := ys.map V.str) (fun i σ H' => (∃ y4 y5 y6 : Option V, σ = [some (.ref l), some (.ref aN), some (.ref aD), some (.ref aF), y4, y5, y6]) ∧ H' aD = some (.lst (ds.map V.int)) ∧ H' p = some (.lst (ys.map V.str)) ∧ (∃ (xs : List V) (rows : List (Str × Int)), H' aF = some (.lst xs) ∧ xs.length = rows.length ∧ (rows.map Prod.fst).Sublist (ys.take i) ∧ (∀ r ∈ rows, -9999 ≤ r.2 ∧ r.2 ≤ 9999) ∧ (∀ (j : Nat) (x : V), xs[j]? = some x → ∃ (a : Addr) (r : Str × Int), x = .ref a ∧ rows[j]? = some r ∧ SqT K H' a (rowD r))) ∧ Bt [l] H H' ∧ PoolAt H' l)
      ⟨⟨none, none, none, rfl⟩, hD2, hp2, ⟨[], [], hF2, rfl, List.Sublist.refl _, (fun r hr => nomatch hr), (fun j x hx => nomatch hx)⟩, Bt.of_same s1, pool2⟩ (fun i σ H' _ h => sqL h.2.2.1) ?_ ?_⟩
    · rintro i x σ H4 hx ⟨⟨y4, y5, y6, rfl⟩, hD4, hp4, ⟨xs, rows, hF4, xl, sub, dy, hrow⟩, b4, pool4⟩
      obtain ⟨z, hz, rfl⟩ : ∃ z, ys[i]? = some z ∧ x = .str z := by
        rw [List.getElem?_map] at hx
        cases hc : ys[i]? with
        | none => rw [hc] at hx; cases hx
        | some y => rw [hc] at hx; cases hx; exact ⟨y, rfl, rfl⟩
      have r8 : rows.length ≤ 8 := by
        have := sub.length_le
        rw [List.length_map, List.length_take] at this
        omega
      refine ⟨_, rfl, _, rfl, _, rfl, aD, _, rfl, .inl (sqL hD4), l, _, rfl, pool4, by rw [List.length_map]; omega, fun H5 d5 b5 pool5 d50 d51 => ?_⟩
      rw [List.length_map] at d51
      obtain ⟨v5, e5, i5, rfl⟩ := at_of (P := fun v => ∃ i, v = .int i) (xs := ds.map V.int) (d := d5) (fun x hx => by
        obtain ⟨z, hz, rfl⟩ := List.mem_map.mp hx
        exact ⟨z, rfl⟩) d50 (by rw [List.length_map]; exact d51)
      have hD5 := kept b5 hD4 (by simp [nDl])
      refine ⟨aD, _, d5, _, rfl, rfl, sqL hD5, e5, ?_⟩
      refine ⟨_, rfl, l, 3, rfl, pool5, by decide, fun H6 d6 b6 pool6 d60 d61 => ⟨i5, d6, rfl, rfl, _, 1, rfl, rfl, ?_⟩⟩
      refine ⟨_, rfl, _, rfl, _, rfl, l, 19999, rfl, pool6, by decide, fun H7 d7 b7 pool7 d70 d71 => ⟨d7, 9999, rfl, rfl, by show 3 ≤ sizeLine; decide, fun pL nL => ?_⟩⟩
      have nlL : l ≠ pL := pool7.ne nL
      refine ⟨_, rfl, l, 3, rfl, pool7.upd nlL, by decide, fun H8 d8 b8 pool8 d80 d81 => ?_⟩
      obtain ⟨v8, e8, i8, rfl⟩ := at_of (P := fun v => ∃ i, v = .int i) (xs := [.int (i5 + d6 - 1), .int (i5 + d6 - 1), .int (d7 - 9999)]) (d := d8) (fun x hx => by
        simp only [List.mem_cons, List.not_mem_nil, or_false] at hx
        rcases hx with rfl | rfl | rfl <;> exact ⟨_, rfl⟩) d80 (by show d8 < 3; omega)
      refine ⟨pL, _, d8, _, rfl, rfl, sqL (kept b8 upd_same (by simp [nlL.symm])), e8, ?_⟩
      have b48 : Bt [l] H4 H8 := ((b5.trans (b6.trans b7)).new nL).trans b8
      refine ⟨_, rfl, l, 3, rfl, pool8, by decide, fun H9 d9 b9 pool9 d90 d91 => ⟨d9, 0, rfl, rfl, _, rfl, ?_⟩⟩
      have b49 := b48.trans b9
      have tk9 : Tk H4 H9 := b49.tk pool4.lst
      have hD9 := kept b49 hD4 (by simp [nDl])
      have hp9 := kept b49 hp4 (by simp [npl])
      have hF9 := kept b49 hF4 (by simp [nFl])
      have more : (ys.take i).Sublist (ys.take (i + 1)) := by
        rw [take_more hz]
        exact List.sublist_append_left _ _
      by_cases dp : (0 : Int) < d9
      rotate_left
      · rw [decide_eq_false dp]
        exact iteF ⟨⟨_, _, _, rfl⟩, hD9, hp9, ⟨xs, rows, hF9, xl, sub.trans more, dy, rows_tk tk9 hrow⟩, b4.trans b49, pool9⟩
      rw [decide_eq_true dp]
      refine iteT ⟨_, rfl, .inl ⟨rfl, _, sqL hF9⟩, _, rfl, 0, 9999, rfl, rfl, _, rfl, 9999, i8, rfl, 0 - 9999, _, rfl, by show 2 ≤ sizeLine; decide, fun tp ntp => ?_⟩
      have dd : ∃ e : Int, (if (if i8 < 9999 then i8 else 9999) > 0 - 9999 then (if i8 < 9999 then i8 else 9999) else 0 - 9999) = e ∧ -9999 ≤ e ∧ e ≤ 9999 := ⟨_, rfl, by split <;> split at * <;> omega, by split <;> split at * <;> omega⟩
      obtain ⟨e, ee, e0, e1⟩ := dd
      rw [ee]
      have nlt : l ≠ tp := pool9.ne ntp
      have hF6 : (upd H9 tp (.tup [.str z, .int e])) aF = some (.lst xs) := by rw [upd_ne (ne_of_none hF9 ntp)]; exact hF9
      have hD6 : (upd H9 tp (.tup [.str z, .int e])) aD = some (.lst (ds.map V.int)) := by rw [upd_ne (ne_of_none hD9 ntp)]; exact hD9
      have hp6 : (upd H9 tp (.tup [.str z, .int e])) p = some (.lst (ys.map V.str)) := by rw [upd_ne (ne_of_none hp9 ntp)]; exact hp9
      have tk6 : Tk H4 (upd H9 tp (.tup [.str z, .int e])) := tk9.trans (tk_new ntp)
      have sN : SqT K (upd H9 tp (.tup [.str z, .int e])) tp (rowD (z, e)) := sqT upd_same
      have bb : Bt [l] H (upd H9 tp (.tup [.str z, .int e])) := (b4.trans b49).new ntp
      have pool10 := pool9.upd (o := .tup [.str z, .int e]) nlt
      revert hF6 hD6 hp6 tk6 sN bb pool10
      generalize upd H9 tp (.tup [.str z, .int e]) = H10
      intro hF6 hD6 hp6 tk6 sN bb pool10
      have tk7 : Tk H10 (upd H10 aF (.lst (xs ++ [.ref tp]))) := tk_lst hF6
      refine ⟨aF, xs, .ref tp, rfl, rfl, hF6, by rw [xl]; exact Nat.lt_of_lt_of_le (show rows.length < 9 by omega) (by decide), ⟨_, _, _, rfl⟩, ?_, ?_, ⟨xs ++ [.ref tp], rows ++ [(z, e)], upd_same, ?_, ?_, ?_, ?_⟩, bb.upd0 nF, pool10.upd nFl.symm⟩
      · rw [upd_ne (ne_of_none hD nF)]
        exact hD6
      · rw [upd_ne npF.symm]
        exact hp6
      · rw [List.length_append, List.length_append, xl]
        rfl
      · rw [List.map_append, take_more hz]
        exact List.Sublist.append sub (List.Sublist.refl _)
      · intro r hr
        rcases List.mem_append.mp hr with h | h
        · exact dy r h
        · rw [List.mem_singleton.mp h]
          exact ⟨e0, e1⟩
      · exact rows_tk tk7 (rows_snoc (f := rowD) xl (rows_tk tk6 hrow) sN)
    · rintro σ H4 ⟨⟨y4, y5, y6, rfl⟩, hD4, hp4, ⟨xs, rows, hF4, xl, sub, dy, hrow⟩, b4, pool4⟩
      have sub : (rows.map Prod.fst).Sublist ys := sub.trans (List.take_sublist _ _)
      have r8 : rows.length ≤ 8 := by
        have := sub.length_le
        rw [List.length_map] at this
        omega
      refine ⟨_, rfl, aF, xs, rfl, .inl ⟨sqL hF4, fun tp ntp => q _ _ rows (b4.new ntp) (pool4.upd (pool4.ne ntp)) ⟨tp, xs, rfl, sqT upd_same, xl, rows_tk (tk_new ntp) hrow⟩ ⟨r8, fun r hr => ?_, dy, fun j r s h1 h2 => ?_⟩⟩⟩
      · have := nmy r.1 (sub.subset (List.mem_map_of_mem hr))
        exact ⟨this.name, by have := this.1.2.2; omega⟩
      · exact pw_next (pw.sublist sub) (by rw [List.getElem?_map, h1]; rfl) (by rw [List.getElem?_map, h2]; rfl)
end
end WdQ

set_option Elab.async false
set_option linter.all false
set_option maxRecDepth 100000
set_option maxHeartbeats 4000000
set_option exponentiation.threshold 5000
namespace WdQ
open PySem PySem.Spec PyProof.Rows L2 WdM Wd
abbrev sLives : Stmt := topS 55
abbrev sForm : Stmt := topS 56
abbrev sLeav : Stmt := topS 57
abbrev sCond : Stmt := topS 59
abbrev sCondN : Stmt := topS 60
theorem scLives : FnScope ["thing"] ["thing"] (defScope sLives) := ⟨rfl, rfl, rfl, by decide +kernel, rfl, by decide +kernel, by decide +kernel⟩
theorem scForm : FnScope ["thing", "room", "word", "terms", "term"] ["thing", "room"] (defScope sForm) := ⟨rfl, rfl, rfl, by decide +kernel, rfl, by decide +kernel, by decide +kernel⟩
theorem scLeav : FnScope ["cond", "term", "leaf"] ["cond"] (defScope sLeav) := ⟨rfl, rfl, rfl, by decide +kernel, rfl, by decide +kernel, by decide +kernel⟩
theorem scCond : FnScope ["thing"] ["thing"] (defScope sCond) := ⟨rfl, rfl, rfl, by decide +kernel, rfl, by decide +kernel, by decide +kernel⟩
theorem scCondN : FnScope ["thing"] ["thing"] (defScope sCondN) := ⟨rfl, rfl, rfl, by decide +kernel, rfl, by decide +kernel, by decide +kernel⟩
def condW : List V := [.str "lives", .str "childless", .str "not", .str "and", .str "or"]
def eqW (w x : Str) : Bool := decide (V.str w = V.str x)
def livesB : List PyData → Bool
  | [_, n, d] => nameB n && dayB d
  | [_, n] => nameB n
  | _ => false
/-- formed as a condition, of so many within one another; the first one is the word -/
def formL (f : PyData → Bool) (w : Str) (t : PyData) (ts : List PyData) : Bool :=
  if inV (.str w) condW = true then
    if eqW w "lives" = true then livesB (.str w :: t :: ts) else if eqW w "childless" = true then ts.isEmpty && nameB t else if eqW w "not" = true then ts.isEmpty && f t else decide (2 ≤ (t :: ts).length ∧ (t :: ts).length ≤ 6) && (t :: ts).all f
  else false
def formB : Nat → PyData → Bool
  | 0, _ => false
  | r + 1, .tuple (.str w :: t :: ts) => formL (formB r) w t ts
  | _ + 1, _ => false
def leafL (f : PyData → Nat) (w : Str) (ts : List PyData) : Nat := if (eqW w "lives" || eqW w "childless") = true then 1 else (ts.map f).sum
def leafN : Nat → PyData → Nat
  | 0, _ => 0
  | r + 1, .tuple (.str w :: ts) => leafL (leafN r) w ts
  | _ + 1, _ => 0
def condB (d : PyData) : Bool := formB 6 d && decide (leafN 6 d ≤ 12)
theorem form_no {r : Nat} {d : PyData} (h : tupB d = false) : formB r d = false := by
  cases r with
  | zero => rfl
  | succ r => cases d <;> first | rfl | cases h
theorem form_short {r : Nat} {ds : List PyData} (h : ds.length < 2) : formB r (.tuple ds) = false := by
  cases r with
  | zero => rfl
  | succ r =>
    match ds with
    | [] => rfl
    | [d] => cases d <;> rfl
    | _ :: _ :: _ => simp at h; omega
theorem form_word {r : Nat} {d t : PyData} {ts : List PyData} (h : strB d = false) : formB r (.tuple (d :: t :: ts)) = false := by
  cases r with
  | zero => rfl
  | succ r => cases d <;> first | rfl | cases h
/-- what the top holds for conditions -/
structure CoF (K : PySem.W.Frag) (mg : Str → Option Value) (aC : Addr) : Prop where
  gW : mg "COND_WORDS" = some (.ref aC)
  tW : ∀ H, SqT K H aC condW
  gD : ∃ t, mg "MOST_DEEP" = some (.int 6 t)
  g2 : ∃ t, mg "FEWEST_TERMS" = some (.int 2 t)
  g6 : ∃ t, mg "MOST_TERMS" = some (.int 6 t)
  gN : ∃ t, mg "MOST_NAMES" = some (.int 12 t)
section
variable {P : Program} {w : World} {K : PySem.W.Frag} {mg : Str → Option Value} {base : Heap}
theorem dz_cons2 {S : List Addr} {H : Hp} {xs : List V} {ds : List PyData} (h : DzAll S K H xs ds) (l : 2 ≤ ds.length) : ∃ x1 x2 ys d1 d2 es, xs = x1 :: x2 :: ys ∧ ds = d1 :: d2 :: es ∧ Dz S K H x1 d1 ∧ Dz S K H x2 d2 ∧ DzAll S K H ys es := by
  cases h with
  | nil => simp at l
  | cons h1 t =>
    cases t with
    | nil => simp at l
    | cons h2 t => exact ⟨_, _, _, _, _, _, rfl, rfl, h1, h2, t⟩
def spLives (K : PySem.W.Frag) : Sp := fun vs H Q _ => ∃ (S : List Addr) (v : V) (ds : List PyData), vs = [v] ∧ Dz S K H v (.tuple ds) ∧ Sml (.tuple ds) ∧ 2 ≤ ds.length ∧ ∀ H', Same H H' → Q (.bl (livesB ds)) H'
theorem ok_lives {f fN fD : Addr} {fd fdN fdD : FuncData} {k : Nat} (B : Bi mg) (D : Df K mg "is_lives" sLives f fd ["thing"]) (DN : Df K mg "is_name" sName fN fdN ["thing"]) (DD : Df K mg "is_day" sDay fD fdD ["thing"])
    (GN : FnOk P w K mg base CX0 (k + 2) fN fdN ["thing"] (spName K)) (GD : FnOk P w K mg base CX0 (k + 2) fD fdD ["thing"] (spDay K)) : FnOk P w K mg base CX0 (k + 3) f fd ["thing"] (spLives K) := by
  refine D.fn.ok scLives (fun vs H Q E h => ?_) (fun cdv A outer s H vs Q E hr h => ?_)
  · obtain ⟨S, v, ds, rfl, _⟩ := h
    rfl
  · obtain ⟨S, v, ds, rfl, dz, sm, l2, q⟩ := h
    refine ⟨_, pss_cons (ps_if (pt_cmpR op_eq (pe_callB call_len_seq (by rfl) B.len PySem.boot_len (pa_cons (pv 0) pa_nil)) pe_int (nomark _))
          (pss_one (ps_ret (pe_and (pe_call GN hr (by rfl) DN.mg DN.fn.kp DN.bd .nil pass0 (pa_cons (pe_ix (r := rIxT K) ix_tup (pv 0) pe_int (fun _ _ => rfl)) pa_nil)) (pe_one (pe_call GD hr (by rfl) DD.mg DD.fn.kp DD.bd .nil pass0 (pa_cons (pe_ix (r := rIxT K) ix_tup (pv 0) pe_int (fun _ _ => rfl)) pa_nil)))))) pss_nil)
      (pss_one (ps_ret (pe_and (pe_cmpR op_eq (pe_callB call_len_seq (by rfl) B.len PySem.boot_len (pa_cons (pv 0) pa_nil)) pe_int (nomark _)) (pe_one (pe_call GN hr (by rfl) DN.mg DN.fn.kp DN.bd .nil pass0 (pa_cons (pe_ix (r := rIxT K) ix_tup (pv 0) pe_int (fun _ _ => rfl)) pa_nil)))))), ?_⟩
    obtain ⟨a, xs, rfl, hs, hd⟩ := dz_tup dz
    have hl := hd.len
    obtain ⟨x1, x2, ys, d1, d2, es, rfl, rfl, h1, h2, ht⟩ := dz_cons2 hd l2
    refine ⟨_, rfl, a, _, rfl, .inr hs, rfl, _, rfl, ?_⟩
    have sh2 := (sm.mem (show d2 ∈ d1 :: d2 :: es by simp)).short
    cases ht with
    | nil =>
      refine iteF ⟨_, rfl, a, _, rfl, .inr hs, rfl, true, rfl, iteT ?_⟩
      exact ⟨_, rfl, a, _, 1, x2, rfl, rfl, hs, atI_nat (j := 1) rfl, x2, d2, rfl, h2.is, sh2, fun H1 s1 => q H1 s1⟩
    | cons h3 ht =>
      cases ht with
      | nil =>
        rename_i x3 d3
        refine iteT ⟨_, rfl, a, _, 1, x2, rfl, rfl, hs, atI_nat (j := 1) rfl, x2, d2, rfl, h2.is, sh2, fun H1 s1 => ⟨_, rfl, ?_⟩⟩
        have q : ∀ H', Same H H' → Q (.bl (nameB d2 && dayB d3)) H' := q
        by_cases nm : nameB d2 = true
        · rw [nm] at q ⊢
          have hs1 := (tk_same s1).sq hs
          exact iteT ⟨_, rfl, a, _, 2, x3, rfl, rfl, hs1, atI_nat (j := 2) rfl, S, x3, d3, rfl, h3.same s1, q H1 s1⟩
        · have nm' : nameB d2 = false := by simpa using nm
          rw [nm'] at q ⊢
          exact iteF (q H1 s1)
      | cons h4 ht =>
        rename_i x3 d3 x4 zs d4 fs
        have e3 : decide (V.int ((x1 :: x2 :: x3 :: x4 :: zs).length : Nat) = V.int 3) = false := by
          have : ((x1 :: x2 :: x3 :: x4 :: zs).length : Int) ≠ 3 := by simp only [List.length_cons]; omega
          simpa using this
        have e2 : decide (V.int ((x1 :: x2 :: x3 :: x4 :: zs).length : Nat) = V.int 2) = false := by
          have : ((x1 :: x2 :: x3 :: x4 :: zs).length : Int) ≠ 2 := by simp only [List.length_cons]; omega
          simpa using this
        rw [e3]
        refine iteF ⟨_, rfl, a, _, rfl, .inr hs, rfl, false, congrArg V.bl e2, iteF ?_⟩
        exact q H (Same.refl H)
/-! ### formed as conditions are -/
def spForm (K : PySem.W.Frag) (r : Nat) : Sp := fun vs H Q _ => ∃ (S : List Addr) (v : V) (d : PyData), vs = [v, .int (r : Nat)] ∧ Dz S K H v d ∧ Sml d ∧ ∀ H', Same H H' → Q (.bl (formB r d)) H'
def spFormR (K : PySem.W.Frag) : Nat → Sp
  | 0 => fun _ _ _ _ => False
  | r + 1 => spForm K r
theorem form_step {f fN fL fW aC : Addr} {fd fdN fdL fdW : FuncData} {k r : Nat} (B : Bi mg) (T : CoF K mg aC) (D : Df K mg "is_formed" sForm f fd ["thing", "room"]) (DN : Df K mg "is_name" sName fN fdN ["thing"]) (DL : Df K mg "is_lives" sLives fL fdL ["thing"]) (DW : Df K mg "is_word" sWord fW fdW ["thing", "words"])
    (GN : FnOk P w K mg base CX0 (k + 2) fN fdN ["thing"] (spName K)) (GL : FnOk P w K mg base CX0 (k + 3) fL fdL ["thing"] (spLives K)) (GW : FnOk P w K mg base CX0 (k + 1) fW fdW ["thing", "words"] (spWord K))
    (GB : FnOk P w K mg base CX0 (k + 3 + r) f fd ["thing", "room"] (spFormR K r)) : FnOk P w K mg base CX0 (k + 4 + r) f fd ["thing", "room"] (spForm K r) := by
  obtain ⟨t2, g2⟩ := T.g2
  obtain ⟨t6, g6⟩ := T.g6
  have e : k + 4 + r = (k + 3 + r) + 1 := by omega
  rw [e]
  refine D.fn.ok scForm (fun vs H Q E h => ?_) (fun cdv A outer s H vs Q E hr h => ?_)
  · obtain ⟨S, v, d, rfl, _⟩ := h
    rfl
  · obtain ⟨S, v, d, rfl, dz, sm, q⟩ := h
    have r1 : Room (k + 1) _ := hr.mono (by omega)
    have r2 : Room (k + 2) _ := hr.mono (by omega)
    have r3 : Room (k + 3) _ := hr.mono (by omega)
    refine ⟨_, pss_cons (ps_if (PW.pt (pw_or (pt_cmpR op_eq (pv 1) pe_int (nomark _)) (pw_or (pt_not (pt_val (pe_callB call_isi (by rfl) B.isi boot_isinstance (pa_cons (pv 0) (pa_cons (pe_bltn (v := .ty "tuple") (by rfl) B.tuple boot_tuple rfl) pa_nil)))))
          (pw_or1 (pt_cmpR op_lt (pe_callB call_len_seq (by rfl) B.len PySem.boot_len (pa_cons (pv 0) pa_nil)) pe_int (nomark _)))))) (pss_one (ps_ret pe_bl)) pss_nil)
      (pss_cons (ps_set (i := 2) scForm.nd rfl (.inl rfl) (pe_ix (r := rIxT K) ix_tup (pv 0) pe_int (fun _ _ => rfl)))
      (pss_cons (ps_if (pt_not (pt_val (pe_call GW r1 (by rfl) DW.mg DW.fn.kp DW.bd .nil pass0 (pa_cons (pv 2) (pa_cons (pe_glob (v := .ref aC) (by rfl) T.gW rfl) pa_nil))))) (pss_one (ps_ret pe_bl)) pss_nil)
      (pss_cons (ps_if (pt_cmpR op_eq (pv 2) pe_str (nomark _)) (pss_one (ps_ret (pe_call GL r3 (by rfl) DL.mg DL.fn.kp DL.bd .nil pass0 (pa_cons (pv 0) pa_nil)))) pss_nil)
      (pss_cons (ps_if (pt_cmpR op_eq (pv 2) pe_str (nomark _)) (pss_one (ps_ret (pe_and (pe_cmpR op_eq (pe_callB call_len_seq (by rfl) B.len PySem.boot_len (pa_cons (pv 0) pa_nil)) pe_int (nomark _)) (pe_one (pe_call GN r2 (by rfl) DN.mg DN.fn.kp DN.bd .nil pass0 (pa_cons (pe_ix (r := rIxT K) ix_tup (pv 0) pe_int (fun _ _ => rfl)) pa_nil)))))) pss_nil)
      (pss_cons (ps_if (pt_cmpR op_eq (pv 2) pe_str (nomark _)) (pss_one (ps_ret (pe_and (pe_cmpR op_eq (pe_callB call_len_seq (by rfl) B.len PySem.boot_len (pa_cons (pv 0) pa_nil)) pe_int (nomark _)) (pe_one (pe_call GB hr (by rfl) D.mg D.fn.kp D.bd .nil pass0 (pa_cons (pe_ix (r := rIxT K) ix_tup (pv 0) pe_int (fun _ _ => rfl)) (pa_cons (pe_op op_sub (pv 1) pe_int) pa_nil))))))) pss_nil)
      (pss_cons (ps_set (i := 3) scForm.nd rfl (.inl rfl) (pe_slice sl_tupA (pv 0) (po_some pe_int) po_none))
      (pss_cons (ps_if (pt_not (pt_chain op_le op_le (pe_glob (v := .int 2) (by rfl) g2 ⟨_, rfl⟩) (pe_callB call_len_seq (by rfl) B.len PySem.boot_len (pa_cons (pv 3) pa_nil)) (pe_glob (v := .int 6) (by rfl) g6 ⟨_, rfl⟩))) (pss_one (ps_ret pe_bl)) pss_nil)
      (pss_one (ps_ret (pe_callB (cr_all rfl) (by rfl) B.all (by decide +kernel) (pa_cons
          (pe_lc (own := [("term", 4)]) (g := gName 4) (tt := tYes) rfl scForm.nd (pi_tup (pv 3)) (blkOk_by (own := [("term", 4)]) (N := ["thing", "room", "word", "terms", "term"]) (sc := defScope sForm) (by decide +kernel))
            (fun _ _ _ _ _ => pg_name (i := 4) scForm.nd rfl (Or.inl rfl)) (fun _ _ _ _ _ => pts_nil)
            (fun _ _ _ _ _ => pe_call GB hr (by rfl) D.mg D.fn.kp D.bd .nil pass0 (pa_cons (pv 4) (pa_cons (pe_op op_sub (pv 1) pe_int) pa_nil)))) pa_nil))))))))))), ?_⟩
    refine ⟨_, rfl, rfl, _, rfl, ?_⟩
    cases r with
    | zero => exact iteT (iteT (q H (Same.refl H)))
    | succ r =>
      rw [show decide (V.int ((r + 1 : Nat) : Int) = V.int 0) = false by simp; omega]
      refine iteF ⟨_, rfl, _, .ty "tuple", _, .type "tuple", _, rfl, .ty _, dz.ty, kit_tup d, _, rfl, ?_⟩
      by_cases ht : tupB d = true
      rotate_left
      · have ht' : tupB d = false := by simpa using ht
        rw [ht']
        rw [form_no ht'] at q
        exact iteT (iteT (q H (Same.refl H)))
      rw [ht]
      obtain ⟨ds, rfl⟩ := tup_of ht
      obtain ⟨a, xs, rfl, hs, hd⟩ := dz_tup dz
      have hl := hd.len
      refine iteF ⟨_, rfl, a, _, rfl, .inr hs, _, 2, rfl, rfl, _, rfl, ?_⟩
      by_cases l2 : ds.length < 2
      · rw [decide_eq_true (show (xs.length : Int) < 2 by omega)]
        rw [form_short l2] at q
        exact iteT (q H (Same.refl H))
      rw [decide_eq_false (show ¬ (xs.length : Int) < 2 by omega)]
      obtain ⟨x1, x2, ys, d1, d2, es, rfl, rfl, h1, h2, hts⟩ := dz_cons2 hd (by omega)
      refine iteF ⟨_, rfl, a, _, 0, x1, rfl, rfl, hs, atI_nat (j := 0) rfl, ?_⟩
      refine ⟨_, rfl, x1, d1, aC, condW, rfl, h1.is, .inr (T.tW H), rfl, _, rfl, ?_⟩
      by_cases s1 : strB d1 = true
      rotate_left
      · have s1' : strB d1 = false := by simpa using s1
        rw [word_no s1']
        rw [form_word s1'] at q
        exact iteT (q H (Same.refl H))
      obtain ⟨wd, rfl⟩ := str_of s1
      obtain rfl := dz_str h1
      have q : ∀ H', Same H H' → Q (.bl (formL (formB r) wd d2 es)) H' := q
      unfold formL at q
      show if (!inV (.str wd) condW) = true then _ else _
      by_cases iw : inV (.str wd) condW = true
      rotate_left
      · have iw' : inV (.str wd) condW = false := by simpa using iw
        rw [iw'] at q ⊢
        exact iteT (q H (Same.refl H))
      rw [iw] at q ⊢
      rw [if_pos rfl] at q
      refine iteF ⟨_, rfl, rfl, _, rfl, ?_⟩
      show if eqW wd "lives" = true then _ else _
      by_cases c1 : eqW wd "lives" = true
      · rw [c1] at q ⊢
        rw [if_pos rfl] at q
        exact iteT ⟨_, rfl, S, _, _, rfl, dz, sm, by simp, fun H1 s1 => q H1 s1⟩
      have c1' : eqW wd "lives" = false := by simpa using c1
      rw [c1'] at q ⊢
      rw [if_neg (by decide)] at q
      refine iteF ⟨_, rfl, rfl, _, rfl, ?_⟩
      show if eqW wd "childless" = true then _ else _
      have lenE : ∀ b, b = es.isEmpty → decide (V.int ((V.str wd :: x2 :: ys).length : Nat) = V.int 2) = b := fun b hb => by
        subst hb
        have : ys.length = es.length := by
          have := hl
          simp only [List.length_cons] at this
          omega
        cases es with
        | nil =>
          cases ys with
          | nil => rfl
          | cons _ _ => simp at this
        | cons e es =>
          cases ys with
          | nil => simp at this
          | cons y ys =>
            have : ((V.str wd :: x2 :: y :: ys).length : Int) ≠ 2 := by simp only [List.length_cons]; omega
            simpa using this
      by_cases c2 : eqW wd "childless" = true
      · rw [c2] at q ⊢
        rw [if_pos rfl] at q
        refine iteT ⟨_, rfl, a, _, rfl, .inr hs, rfl, _, rfl, ?_⟩
        rw [lenE _ rfl]
        by_cases em : es.isEmpty = true
        · rw [em] at q ⊢
          exact iteT ⟨_, rfl, a, _, 1, x2, rfl, rfl, hs, atI_nat (j := 1) rfl, x2, d2, rfl, h2.is, (sm.mem (by simp)).short, fun H1 s1 => q H1 s1⟩
        · have em' : es.isEmpty = false := by simpa using em
          rw [em'] at q ⊢
          exact iteF (q H (Same.refl H))
      have c2' : eqW wd "childless" = false := by simpa using c2
      rw [c2'] at q ⊢
      rw [if_neg (by decide)] at q
      refine iteF ⟨_, rfl, rfl, _, rfl, ?_⟩
      show if eqW wd "not" = true then _ else _
      by_cases c3 : eqW wd "not" = true
      · rw [c3] at q ⊢
        rw [if_pos rfl] at q
        refine iteT ⟨_, rfl, a, _, rfl, .inr hs, rfl, _, rfl, ?_⟩
        rw [lenE _ rfl]
        by_cases em : es.isEmpty = true
        · rw [em] at q ⊢
          refine iteT ⟨_, rfl, a, _, 1, x2, rfl, rfl, hs, atI_nat (j := 1) rfl, _, rfl, _, 1, rfl, rfl, S, x2, d2, ?_, h2, sm.mem (by simp), fun H1 s1 => q H1 s1⟩
          show [x2, V.int (((r + 1 : Nat) : Int) - 1)] = _
          rw [show (((r + 1 : Nat) : Int) - 1) = (r : Int) by omega]
        · have em' : es.isEmpty = false := by simpa using em
          rw [em'] at q ⊢
          exact iteF (q H (Same.refl H))
      have c3' : eqW wd "not" = false := by simpa using c3
      rw [c3'] at q ⊢
      rw [if_neg (by decide)] at q
      refine iteF ⟨_, rfl, 1, rfl, ?_⟩
      refine (show tNoPart _ H _ from cut_tup1 hs (by show 1 ≤ _; simp) (fun p H1 s1 sq => ?_))
      have sq : SqT K H1 p (x2 :: ys) := sq
      have ht1 : DzAll S K H1 (x2 :: ys) (d2 :: es) := (DzAll.cons h2 hts).same s1
      have hl2 := ht1.len
      refine ⟨_, rfl, p, _, rfl, .inr sq, 2, _, rfl, rfl, _, rfl, ?_⟩
      by_cases m2 : 2 ≤ (d2 :: es).length
      rotate_left
      · rw [decide_eq_false (show ¬ (2 : Int) ≤ ((x2 :: ys).length : Int) by omega)]
        rw [decide_eq_false (show ¬ (2 ≤ (d2 :: es).length ∧ (d2 :: es).length ≤ 6) from fun z => m2 z.1)] at q
        exact iteF ⟨_, rfl, iteT (q H1 s1)⟩
      rw [decide_eq_true (show (2 : Int) ≤ ((x2 :: ys).length : Int) by omega)]
      refine iteT ⟨_, 6, rfl, rfl, _, rfl, ?_⟩
      by_cases m6 : (d2 :: es).length ≤ 6
      rotate_left
      · rw [decide_eq_false (show ¬ ((x2 :: ys).length : Int) ≤ 6 by omega)]
        rw [decide_eq_false (show ¬ (2 ≤ (d2 :: es).length ∧ (d2 :: es).length ≤ 6) from fun z => m6 z.2)] at q
        exact iteT (q H1 s1)
      rw [decide_eq_true (show ((x2 :: ys).length : Int) ≤ 6 by omega)]
      rw [decide_eq_true (show 2 ≤ (d2 :: es).length ∧ (d2 :: es).length ≤ 6 from ⟨m2, m6⟩), Bool.true_and] at q
      have smt : ∀ e ∈ d2 :: es, Sml e := fun e he => sm.mem (List.mem_cons_of_mem _ he)
      revert sq ht1 hl2 q smt m6
      generalize x2 :: ys = zs
      generalize d2 :: es = fs
      intro q sq ht1 hl2 m6 smt
      refine iteF ⟨_, rfl, p, rfl, ⟨zs, sq⟩, fun L nL => lc_tup (K := K) (a := p) (xs := zs) (fun i H' => H' L = some (.lst (((fs.take i).map (formB r)).map V.bl)) ∧ Same H1 H') ⟨upd_same, same_new nL⟩ (fun i H' _ h => tk_same h.2 |>.sq sq) ?_ ?_⟩
      · rintro i x H2 hx ⟨hL, s2⟩
        obtain ⟨e, he, dx⟩ := ht1.get hx
        have il := lt_get hx
        refine ⟨rfl, tyes (iteT ⟨_, rfl, _, rfl, _, 1, rfl, rfl, S, x, e, ?_, dx.same s2, smt e (List.mem_of_getElem? he), fun H3 s3 => ?_⟩)⟩
        · show [x, V.int (((r + 1 : Nat) : Int) - 1)] = _
          rw [show (((r + 1 : Nat) : Int) - 1) = (r : Int) by omega]
        refine ⟨_, s3 _ _ hL, ?_, ?_, ?_⟩
        · rw [List.length_map, List.length_map, List.length_take]
          exact small1000 (by omega)
        · rw [upd_same, take_more he, List.map_append, List.map_append]
          rfl
        · exact ((Bt.of_same (S := []) (s2.trans s3)).upd0 nL).same
      · rintro H2 ⟨hL, s2⟩
        rw [hl2, List.take_length] at hL
        refine ⟨L, _, rfl, sqL hL, ?_⟩
        rw [show (fs.map (formB r)).all id = fs.all (formB r) by rw [List.all_map]; rfl]
        exact q H2 (s1.trans s2)
theorem ok_form {f fN fL fW aC : Addr} {fd fdN fdL fdW : FuncData} {k : Nat} (B : Bi mg) (T : CoF K mg aC) (D : Df K mg "is_formed" sForm f fd ["thing", "room"]) (DN : Df K mg "is_name" sName fN fdN ["thing"]) (DL : Df K mg "is_lives" sLives fL fdL ["thing"]) (DW : Df K mg "is_word" sWord fW fdW ["thing", "words"])
    (GN : FnOk P w K mg base CX0 (k + 2) fN fdN ["thing"] (spName K)) (GL : FnOk P w K mg base CX0 (k + 3) fL fdL ["thing"] (spLives K)) (GW : FnOk P w K mg base CX0 (k + 1) fW fdW ["thing", "words"] (spWord K)) : ∀ r, FnOk P w K mg base CX0 (k + 4 + r) f fd ["thing", "room"] (spForm K r)
  | 0 => form_step B T D DN DL DW GN GL GW ⟨fun _ _ _ _ h => h.elim, fun _ _ _ _ _ _ _ _ _ _ _ _ _ h => h.elim⟩
  | r + 1 => form_step (r := r + 1) B T D DN DL DW GN GL GW (by
    have := ok_form B T D DN DL DW GN GL GW r
    have e : k + 3 + (r + 1) = k + 4 + r := by omega
    rw [e]
    exact this)
end
end WdQ

set_option Elab.async false
set_option linter.all false
set_option maxRecDepth 100000
set_option maxHeartbeats 4000000
set_option exponentiation.threshold 5000
namespace WdQ
open PySem PySem.Spec PyProof.Rows L2 WdM Wd
abbrev sComes : Stmt := topS 62
abbrev sEDay : Stmt := inClass (topS 11) 0
theorem scComes : FnScope ["house", "cond", "story", "wait"] ["house", "cond", "story", "wait"] (defScope sComes) := ⟨rfl, rfl, rfl, by decide +kernel, rfl, by decide +kernel, by decide +kernel⟩
theorem scEDay : FnScope ["self", "thing"] ["self", "thing"] (defScope sEDay) := ⟨rfl, rfl, rfl, by decide +kernel, rfl, by decide +kernel, by decide +kernel⟩
theorem sum_le {f : PyData → Nat} {b : Nat} : ∀ {ds : List PyData}, (∀ d ∈ ds, f d ≤ b) → (ds.map f).sum ≤ ds.length * b
  | [], _ => by simp
  | d :: ds, h => by
    rw [List.map_cons, List.sum_cons, List.length_cons, Nat.succ_mul]
    have h1 := h d List.mem_cons_self
    have h2 := sum_le (ds := ds) fun x hx => h x (List.mem_cons_of_mem _ hx)
    omega
/-- the ways in which something is formed -/
theorem form_ways {f : PyData → Bool} {w : Str} {t : PyData} {ts : List PyData} (h : formL f w t ts = true) :
    ((eqW w "lives" || eqW w "childless") = true) ∨ ((eqW w "lives" || eqW w "childless") = false ∧ (t :: ts).length ≤ 6 ∧ ∀ d ∈ t :: ts, f d = true) := by
  unfold formL at h
  by_cases c1 : eqW w "lives" = true
  · exact .inl (by rw [c1]; rfl)
  by_cases c2 : eqW w "childless" = true
  · exact .inl (by rw [c2]; exact Bool.or_true _)
  have c1' : eqW w "lives" = false := by simpa using c1
  have c2' : eqW w "childless" = false := by simpa using c2
  refine .inr ⟨by rw [c1', c2']; rfl, ?_⟩
  by_cases iw : inV (.str w) condW = true
  · rw [if_pos iw, if_neg c1, if_neg c2] at h
    by_cases c3 : eqW w "not" = true
    · rw [if_pos c3] at h
      obtain ⟨e1, e2⟩ := Bool.and_eq_true_iff.mp h
      have e1 : ts = [] := by simpa using e1
      subst e1
      exact ⟨by simp, fun d hd => by rw [List.mem_singleton.mp hd]; exact e2⟩
    · rw [if_neg c3] at h
      obtain ⟨e1, e2⟩ := Bool.and_eq_true_iff.mp h
      exact ⟨(of_decide_eq_true e1).2, fun d hd => List.all_eq_true.mp e2 d hd⟩
  · rw [if_neg iw] at h
    cases h
theorem form_shape {r : Nat} {d : PyData} (h : formB r d = true) : ∃ q w t ts, r = q + 1 ∧ d = .tuple (.str w :: t :: ts) ∧ formL (formB q) w t ts = true := by
  cases r with
  | zero => cases h
  | succ q =>
    cases d with
    | tuple ds =>
      match ds with
      | [] => cases h
      | [e] => cases e <;> cases h
      | e :: t :: ts =>
        cases e with
        | str w => exact ⟨q, w, t, ts, rfl, rfl, h⟩
        | _ => cases h
    | _ => cases h
theorem leaf_le : ∀ {r : Nat} {d : PyData}, formB r d = true → leafN r d ≤ 6 ^ r := by
  intro r
  induction r with
  | zero => intro d h; cases h
  | succ r ih =>
    intro d h
    obtain ⟨q, w, t, ts, e, rfl, hf⟩ := form_shape h
    obtain rfl : r = q := by omega
    show leafL (leafN r) w (t :: ts) ≤ _
    unfold leafL
    have p : 0 < 6 ^ r := Nat.pow_pos (by decide)
    rw [Nat.pow_succ]
    rcases form_ways hf with hw | ⟨hw, l6, all⟩
    · rw [if_pos hw]
      omega
    · rw [if_neg (by rw [hw]; decide)]
      have := sum_le (f := leafN r) (b := 6 ^ r) (ds := t :: ts) fun d hd => ih (all d hd)
      have := Nat.mul_le_mul_right (6 ^ r) l6
      omega
section
variable {P : Program} {w : World} {K : PySem.W.Frag} {mg : Str → Option Value} {base : Heap} {CC CD fE CW : Addr}
def spLeav (K : PySem.W.Frag) (r : Nat) : Sp := fun vs H Q _ => ∃ (S : List Addr) (v : V) (d : PyData), vs = [v] ∧ Dz S K H v d ∧ formB r d = true ∧ ∀ H' p xs, Same H H' → H p = none → H' p = some (.lst xs) → xs.length = leafN r d → Q (.ref p) H'
def spLeavR (K : PySem.W.Frag) : Nat → Sp
  | 0 => fun _ _ _ _ => False
  | r + 1 => spLeav K r
theorem leav_step {f : Addr} {fd : FuncData} {k r : Nat} (r6 : r ≤ 6) (B : Bi mg) (D : Df K mg "leaves" sLeav f fd ["cond"]) (GB : FnOk P w K mg base CX0 (k + r) f fd ["cond"] (spLeavR K r)) : FnOk P w K mg base CX0 (k + r + 1) f fd ["cond"] (spLeav K r) := by
  refine D.fn.ok scLeav (fun vs H Q E h => ?_) (fun cdv A outer s H vs Q E hr h => ?_)
  · obtain ⟨S, v, d, rfl, _⟩ := h
    rfl
  · obtain ⟨S, v, d, rfl, dz, fm, q⟩ := h
    refine ⟨_, pss_cons (ps_if (pt_cmpR op_isN (pv 0) pe_non (nomark _)) (pss_one ps_no) pss_nil)
      (pss_cons (ps_if (PW.pt (pw_or (pt_cmpR op_eq (pe_ix (r := rIxT K) ix_tup (pv 0) pe_int (fun _ _ => rfl)) pe_str (nomark _)) (pw_or1 (pt_cmpR op_eq (pe_ix (r := rIxT K) ix_tup (pv 0) pe_int (fun _ _ => rfl)) pe_str (nomark _))))) (pss_one (ps_ret (pe_lst (pa_cons (pv 0) pa_nil)))) pss_nil)
      (pss_one (ps_ret (pe_lc2 (own := [("term", 1), ("leaf", 2)]) (vs1 := [2]) (g := gName 1) (g1 := gName 2) (tt := tYes) (tt1 := tYes) (wi1 := iList K (tCall (spLeavR K r) [] E0 (tCons (tVar 1) tNil))) rfl scLeav.nd (pi_tup (pe_slice sl_tupA (pv 0) (po_some pe_int) po_none))
          (blkOk_by (own := [("term", 1), ("leaf", 2)]) (N := ["cond", "term", "leaf"]) (sc := defScope sLeav) (by decide +kernel)) (by decide)
          (fun _ _ _ _ _ => pg_name (i := 1) scLeav.nd rfl (Or.inl rfl)) (fun _ _ _ _ _ => pts_nil)
          (fun _ _ _ _ _ => pi_list (pe_call GB hr (by rfl) D.mg D.fn.kp D.bd .nil pass0 (pa_cons (pv 1) pa_nil)))
          (fun _ _ _ _ _ => pg_name (i := 2) scLeav.nd rfl (Or.inl rfl)) (fun _ _ _ _ _ => pts_nil)
          (fun _ _ _ _ _ => pv 2))))), ?_⟩
    obtain ⟨n, wd, t, ts, rfl, rfl, hf⟩ := form_shape fm
    obtain ⟨a, xs, rfl, hs, hd⟩ := dz_tup dz
    obtain ⟨x1, x2, ys, d1, d2, es, rfl, e, h1, h2, hts⟩ := dz_cons2 hd (by simp)
    cases e
    obtain rfl := dz_str h1
    have q : ∀ H' p zs, Same H H' → H p = none → H' p = some (.lst zs) → zs.length = leafL (leafN n) wd (t :: ts) → Q (.ref p) H' := q
    unfold leafL at q
    refine ⟨_, rfl, rfl, false, rfl, iteF ?_⟩
    refine ⟨_, rfl, a, _, 0, _, rfl, rfl, hs, atI_nat (j := 0) rfl, rfl, _, rfl, ?_⟩
    show if eqW wd "lives" = true then _ else _
    have one : (eqW wd "lives" || eqW wd "childless") = true → ∀ p, H p = none → Q (.ref p) (upd H p (.lst [.ref a])) := fun hw p np => by
      refine q _ p _ (same_new np) np upd_same ?_
      rw [if_pos hw]
      rfl
    by_cases c1 : eqW wd "lives" = true
    · rw [c1]
      exact iteT (iteT ⟨_, rfl, by show 1 ≤ sizeLine; decide, fun p np => one (by rw [c1]; rfl) p np⟩)
    have c1' : eqW wd "lives" = false := by simpa using c1
    rw [c1']
    refine iteF ⟨_, rfl, a, _, 0, _, rfl, rfl, hs, atI_nat (j := 0) rfl, rfl, _, rfl, ?_⟩
    show if eqW wd "childless" = true then _ else _
    by_cases c2 : eqW wd "childless" = true
    · rw [c2]
      exact iteT ⟨_, rfl, by show 1 ≤ sizeLine; decide, fun p np => one (by rw [c2]; exact Bool.or_true _) p np⟩
    have c2' : eqW wd "childless" = false := by simpa using c2
    rw [c2']
    rcases form_ways hf with hw | ⟨hw, l6, all⟩
    · rw [c1', c2'] at hw
      cases hw
    rw [if_neg (by rw [hw]; decide)] at q
    refine iteF ⟨_, rfl, 1, rfl, ?_⟩
    refine (show tNoPart _ H _ from cut_tup1 hs (by show 1 ≤ _; simp) (fun p H1 s1 sq => ?_))
    have sq : SqT K H1 p (x2 :: ys) := sq
    have ht1 : DzAll S K H1 (x2 :: ys) (t :: ts) := (DzAll.cons h2 hts).same s1
    have hl := ht1.len
    have lf : ∀ e ∈ t :: ts, leafN n e ≤ 6 ^ 5 := fun e he => Nat.le_trans (leaf_le (all e he)) (Nat.pow_le_pow_right (by decide) (by omega))
    revert sq ht1 hl q all l6 lf
    generalize x2 :: ys = zs
    generalize t :: ts = fs
    intro q l6 all sq ht1 hl lf
    refine ⟨p, rfl, ⟨zs, sq⟩, fun L nL => ?_⟩
    have part : ∀ i, i ≤ zs.length → ((fs.take i).map (leafN n)).sum ≤ 46656 := fun i hi => by
      have := sum_le (f := leafN n) (b := 6 ^ 5) (ds := fs.take i) fun d hd => lf d (List.mem_of_mem_take hd)
      have : (fs.take i).length ≤ 6 := by rw [List.length_take]; omega
      have := Nat.mul_le_mul_right (6 ^ 5) this
      omega
    refine lc_outer (walk_tup (K := K) (a := p) (xs := zs)) (fun i H' => ∃ acc, H' L = some (.lst acc) ∧ acc.length = ((fs.take i).map (leafN n)).sum ∧ Same H1 H') ⟨[], upd_same, rfl, same_new nL⟩ (fun i H' _ ⟨_, _, _, s⟩ => (tk_same s).sq sq) ?_ ?_
    · rintro i x H2 _ hi ⟨acc, hL, al, s2⟩ ⟨rfl, hx⟩
      obtain ⟨e, he, dx⟩ := ht1.get hx
      have fe := all e (List.mem_of_getElem? he)
      refine ⟨rfl, tyes (iteT ⟨_, rfl, S, x, e, rfl, dx.same s2, fe, fun H3 p3 ws s3 n3 h3 wl => ⟨p3, rfl, ⟨_, sqL h3⟩, ?_⟩⟩)⟩
      have n3L : p3 ≠ L := (ne_of_none hL n3).symm
      refine lc_inner (walk_list (K := K) (a := p3) (xs := ws)) (fun j H' => ∃ acc', H' L = some (.lst acc') ∧ acc'.length = acc.length + j ∧ H' p3 = some (.lst ws) ∧ Same H1 H') ⟨acc, s3 _ _ hL, rfl, h3, s2.trans s3⟩ (fun j H' _ ⟨_, _, _, h, _⟩ => sqL h) ?_ ?_
      · rintro j y H4 _ hj ⟨acc', hL4, al4, h34, s4⟩ ⟨rfl, hy⟩
        have t1 := part (i + 1) (by omega)
        rw [take_more he, List.map_append, List.sum_append] at t1
        simp only [List.map_cons, List.map_nil, List.sum_cons, List.sum_nil] at t1
        refine ⟨rfl, tyes (iteT ⟨_, rfl, acc', hL4, Nat.lt_of_lt_of_le (show acc'.length < 50000 by omega) (by decide), acc' ++ [y], upd_same, by rw [List.length_append, al4]; show _ + 1 = _; omega, by rw [upd_ne n3L]; exact h34, ((Bt.of_same (S := []) s4).upd0 nL).same⟩)⟩
      · rintro H4 ⟨acc', hL4, al4, h34, s4⟩
        refine ⟨acc', hL4, ?_, s4⟩
        rw [al4, al, wl, take_more he, List.map_append, List.sum_append]
        simp
    · rintro H2 ⟨acc, hL, al, s2⟩
      rw [hl, List.take_length] at al
      exact q H2 L acc (s1.trans s2) (s1.free nL) hL al
theorem ok_leav {f : Addr} {fd : FuncData} {k : Nat} (B : Bi mg) (D : Df K mg "leaves" sLeav f fd ["cond"]) : ∀ r, r ≤ 6 → FnOk P w K mg base CX0 (k + r + 1) f fd ["cond"] (spLeav K r)
  | 0, h => leav_step h B D ⟨fun _ _ _ _ h => h.elim, fun _ _ _ _ _ _ _ _ _ _ _ _ _ h => h.elim⟩
  | r + 1, h => leav_step (r := r + 1) h B D (ok_leav B D r (by omega))
def spB (K : PySem.W.Frag) (f : PyData → Bool) : Sp := fun vs H Q _ => ∃ (S : List Addr) (v : V) (d : PyData), vs = [v] ∧ Dz S K H v d ∧ Sml d ∧ ∀ H', Same H H' → Q (.bl (f d)) H'
theorem ok_cond {f fF fL aC : Addr} {fd fdF fdL : FuncData} {k : Nat} (B : Bi mg) (T : CoF K mg aC) (D : Df K mg "is_cond" sCond f fd ["thing"]) (DF : Df K mg "is_formed" sForm fF fdF ["thing", "room"]) (DL : Df K mg "leaves" sLeav fL fdL ["cond"])
    (GF : FnOk P w K mg base CX0 (k + 10) fF fdF ["thing", "room"] (spForm K 6)) : FnOk P w K mg base CX0 (k + 11) f fd ["thing"] (spB K condB) := by
  have GL : FnOk P w K mg base CX0 (k + 10) fL fdL ["cond"] (spLeav K 6) := ok_leav (k := k + 3) B DL 6 (by decide)
  obtain ⟨tD, gD⟩ := T.gD
  obtain ⟨tN, gN⟩ := T.gN
  refine D.fn.ok scCond (fun vs H Q E h => ?_) (fun cdv A outer s H vs Q E hr h => ?_)
  · obtain ⟨S, v, d, rfl, _⟩ := h
    rfl
  · obtain ⟨S, v, d, rfl, dz, sm, q⟩ := h
    refine ⟨_, pss_one (ps_ret (pe_and (pe_call GF hr (by rfl) DF.mg DF.fn.kp DF.bd .nil pass0 (pa_cons (pv 0) (pa_cons (pe_glob (v := .int 6) (by rfl) gD ⟨_, rfl⟩) pa_nil)))
      (pe_one (pe_cmpR op_le (pe_callB call_len_seq (by rfl) B.len PySem.boot_len (pa_cons (pe_call GL hr (by rfl) DL.mg DL.fn.kp DL.bd .nil pass0 (pa_cons (pv 0) pa_nil)) pa_nil)) (pe_glob (v := .int 12) (by rfl) gN ⟨_, rfl⟩) (nomark _))))), ?_⟩
    refine ⟨_, rfl, S, v, d, rfl, dz, sm, fun H1 s1 => ⟨_, rfl, ?_⟩⟩
    have q : ∀ H', Same H H' → Q (.bl (formB 6 d && decide (leafN 6 d ≤ 12))) H' := q
    by_cases fm : formB 6 d = true
    · rw [fm] at q ⊢
      refine iteT ⟨_, rfl, S, v, d, rfl, dz.same s1, fm, fun H2 p xs s2 _ hp xl => ⟨p, _, rfl, .inl (sqL hp), _, 12, rfl, rfl, ?_⟩⟩
      have := q H2 (s1.trans s2)
      show Q (.bl (decide ((xs.length : Int) ≤ 12))) H2
      rw [show decide ((xs.length : Int) ≤ 12) = (true && decide (leafN 6 d ≤ 12)) by rw [Bool.true_and, xl]; congr 1; exact propext ⟨fun h => by omega, fun h => by omega⟩]
      exact this
    · have fm' : formB 6 d = false := by simpa using fm
      rw [fm'] at q ⊢
      exact iteF (q H1 s1)
def condNB (d : PyData) : Bool := match d with | .none => true | d => condB d
theorem ok_condN {f fC : Addr} {fd fdC : FuncData} {k : Nat} (D : Df K mg "is_cond_or_none" sCondN f fd ["thing"]) (DC : Df K mg "is_cond" sCond fC fdC ["thing"]) (GC : FnOk P w K mg base CX0 (k + 11) fC fdC ["thing"] (spB K condB)) : FnOk P w K mg base CX0 (k + 12) f fd ["thing"] (spB K condNB) := by
  refine D.fn.ok scCondN (fun vs H Q E h => ?_) (fun cdv A outer s H vs Q E hr h => ?_)
  · obtain ⟨S, v, d, rfl, _⟩ := h
    rfl
  · obtain ⟨S, v, d, rfl, dz, sm, q⟩ := h
    refine ⟨_, pss_one (ps_ret (pe_or (pe_cmpR op_isN (pv 0) pe_non (nomark _)) (pe_one (pe_call GC hr (by rfl) DC.mg DC.fn.kp DC.bd .nil pass0 (pa_cons (pv 0) pa_nil))))), ?_⟩
    refine ⟨_, rfl, rfl, _, rfl, ?_⟩
    cases dz with
    | non => exact iteT (q H (Same.refl H))
    | bl b => exact iteF ⟨_, rfl, S, _, _, rfl, .bl b, sm, q⟩
    | int b => exact iteF ⟨_, rfl, S, _, _, rfl, .int b, sm, q⟩
    | str b => exact iteF ⟨_, rfl, S, _, _, rfl, .str b, sm, q⟩
    | lst n h t => exact iteF ⟨_, rfl, S, _, _, rfl, .lst n h t, sm, q⟩
    | tup h t => exact iteF ⟨_, rfl, S, _, _, rfl, .tup h t, sm, q⟩
    | nod n h => exact iteF ⟨_, rfl, S, _, _, rfl, .nod n h, sm, q⟩
/-! ### refused -/
theorem ok_eDay {fd : FuncData} {k : Nat} (T : ErC K mg "NoDay" "thing" CD fE CW) (F : Fun K "__init__" "NoDay.__init__" sEDay fE fd) : FnOk P w K mg base CX0 (k + 1) fE fd ["self", "thing"] (spInitE CD "thing") := by
  refine F.ok scEDay (fun vs H Q E h => ?_) (fun cdv A outer s H vs Q E hr h => ?_)
  · obtain ⟨a, y, rfl, _⟩ := h
    rfl
  · obtain ⟨a, y, rfl, ha, q⟩ := h
    exact ⟨_, pss_one (ps_ost (pv 0) (pv 1)), y, rfl, .ref a, rfl, a, CD, rfl, T.o, T.no, .inl ⟨ha, fun dx h1 h2 => q dx h1 h2⟩⟩
def spComes0 (K : PySem.W.Frag) (CC CD : Addr) : Sp := fun vs H _ E => ∃ (S : List Addr) (h v st x : V) (d e : PyData), vs = [h, v, st, x] ∧ Dz S K H v d ∧ Sml d ∧ Dz S K H x e ∧
  ((condNB d = false ∧ ∀ H', Same H H' → E (.ref CC) none H') ∨ (condNB d = true ∧ dayB e = false ∧ ∀ H' dd, Same H H' → H' dd = none → E (.ref CD) (some dd) (upd H' dd (.xd [("thing", x)]))))
theorem ok_comes0 {f fC fD : Addr} {fd fdC fdD fdI : FuncData} (TC : ErN K mg "NoCond" CC CW) (TD : ErC K mg "NoDay" "thing" CD fE CW) (FI : Fun K "__init__" "NoDay.__init__" sEDay fE fdI) (bI : Binds K fdI ["self", "thing"] []) (F : FunD K "comes" "comes" (defArgs sComes) (defBody sComes) (defScope sComes) [.int 0] [] f fd)
    (GC : FnOk P w K mg base CX0 12 fC fdC ["thing"] (spB K condNB)) (DC : Df K mg "is_cond_or_none" sCondN fC fdC ["thing"]) (GD : FnOk P w K mg base CX0 2 fD fdD ["thing"] (spDay K)) (DD : Df K mg "is_day" sDay fD fdD ["thing"]) :
    FnOk P w K mg base (L2.CX P w) 13 f fd ["house", "cond", "story", "wait"] (spComes0 K CC CD) := by
  have GI : FnOk P w K mg base CX0 1 fE fdI ["self", "thing"] (spInitE CD "thing") := ok_eDay (k := 0) TD FI
  refine F.ok scComes (fun vs H Q E h => ?_) (fun cdv A outer s H vs Q E hr h => ?_)
  · obtain ⟨S, h, v, st, x, d, e, rfl, _⟩ := h
    rfl
  · obtain ⟨S, h, v, st, x, d, e, rfl, dz, sm, dx, hc⟩ := h
    have r2 : Room 2 _ := hr.mono (by omega)
    refine ⟨_, pss_cons (ps_if (pt_not (pt_val (pe_call GC hr (by rfl) DC.mg DC.fn.kp DC.bd .nil pass0 (pa_cons (pv 1) pa_nil))))
          (pss_one (ps_raise rfl (takes_of rfl rfl rfl rfl) (pmk_own0 PySem.F.excBase_ValueError TC.x_ TC.g TC.k (raises_own TC.b TC.t) (by rfl)))) pss_nil)
      (pss_cons (ps_if (pt_not (pt_val (pe_call GD r2 (by rfl) DD.mg DD.fn.kp DD.bd .nil pass0 (pa_cons (pv 3) pa_nil))))
          (pss_one (ps_raise rfl (takes_of rfl rfl rfl rfl) (pmk_oex TD.o TD.i TD.t GI r2 bI .nil pass0 (by rfl) TD.g (pa_cons (pv 3) pa_nil)))) pss_nil) pss_no), ?_⟩
    refine ⟨_, rfl, S, v, d, rfl, dz, sm, fun H1 s1 => ⟨_, rfl, ?_⟩⟩
    rcases hc with ⟨bad, q⟩ | ⟨good, bad, q⟩
    · rw [bad]
      exact iteT (q H1 s1)
    · rw [good]
      refine iteF ⟨_, rfl, S, x, e, rfl, dx.same s1, _, rfl, ?_⟩
      rw [bad]
      exact iteT (raise_var rfl fun dd h => q H1 dd s1 h)
end
end WdQ

set_option Elab.async false
set_option linter.all false
set_option maxRecDepth 100000
set_option maxHeartbeats 4000000
set_option exponentiation.threshold 5000
namespace WdQ
open PySem PySem.Spec PyProof.Rows L2 WdM Wd
abbrev sLN : Stmt := topS 79
abbrev sLD : Stmt := topS 80
theorem scLN : FnScope ["_law_thing", "_law_odd_here", "_law_sign"] ["_law_thing"] (defScope sLN) := ⟨rfl, rfl, rfl, by decide +kernel, rfl, by decide +kernel, by decide +kernel⟩
theorem scLD : FnScope ["_law_thing"] ["_law_thing"] (defScope sLD) := ⟨rfl, rfl, rfl, by decide +kernel, rfl, by decide +kernel, by decide +kernel⟩
section
variable {P : Program} {w : World} {K : PySem.W.Frag} {mg : Str → Option Value} {base : Heap}
theorem ok_lname {f : Addr} {fd : FuncData} {k : Nat} (B : Bi mg) (D : Df K mg "_law_is_name" sLN f fd ["_law_thing"]) : FnOk P w K mg base CX0 (k + 1) f fd ["_law_thing"] (spName K) := by
  refine D.fn.ok scLN (fun vs H Q E h => ?_) (fun cdv A outer s H vs Q E hr h => ?_)
  · obtain ⟨v, d, rfl, _⟩ := h
    rfl
  · obtain ⟨v, d, rfl, th, sk, q⟩ := h
    refine ⟨_, pss_cons (ps_set (i := 1) scLN.nd rfl (.inl rfl) (PE.wk (t' := tWsN noNames) (pe_lst (pa_cons pe_str (pa_cons pe_str (pa_cons pe_str (pa_cons pe_str (pa_cons pe_str (pa_cons pe_str (pa_cons pe_str (pa_cons pe_str (pa_cons pe_str (pa_cons pe_str (pa_cons pe_str (pa_cons pe_str (pa_cons pe_str pa_nil)))))))))))))) (by intro σ H Q q; exact ⟨by show noNames.length ≤ sizeLine; decide, fun p n => q p _ (same_new n) n upd_same⟩)))
      (pss_cons (ps_if (PW.pt (pw_or (pt_not (pt_val (pe_callB call_isi (by rfl) B.isi boot_isinstance (pa_cons (pv 0) (pa_cons (pe_bltn (v := .ty "str") (by rfl) B.str boot_str rfl) pa_nil)))))
          (pw_or (pt_cmpR op_in_seq (pv 0) (pv 1) (by rfl))
          (pw_or1 (pt_not (pt_chain op_le op_le pe_int (pe_callB call_len_str (by rfl) B.len PySem.boot_len (pa_cons (pv 0) pa_nil)) pe_int)))))) (pss_one (ps_ret pe_bl)) pss_nil)
      (pss_one (ps_ret (pe_callB (cr_all rfl) (by rfl) B.all (by decide +kernel) (pa_cons
          (pe_lc (own := [("_law_sign", 2)]) (g := gName 2) (tt := tYes) rfl scLN.nd (pi_str (pv 0)) (blkOk_by (own := [("_law_sign", 2)]) (N := ["_law_thing", "_law_odd_here", "_law_sign"]) (sc := defScope sLN) (by decide +kernel))
            (fun _ _ _ _ _ => pg_name (i := 2) scLN.nd rfl (Or.inl rfl)) (fun _ _ _ _ _ => pts_nil)
            (fun _ _ _ _ _ => pe_cmpR op_in_sign (pv 2) pe_str (by rfl))) pa_nil))))), ?_⟩
    intro p0 H0 s0 _ l0
    have q : ∀ H', Same H0 H' → Q (.bl (nameB d)) H' := fun H' e => q H' (s0.trans e)
    have ty : TyX K H0 v (.type (tyN d)) := th.ty0 H0 s0
    clear s0
    refine ⟨_, rfl, _, .ty "str", _, .type "str", _, rfl, .ty _, ty, kit_str d, _, rfl, ?_⟩
    by_cases hs : strB d = true
    rotate_left
    · have hs' : strB d = false := by simpa using hs
      rw [hs']
      rw [name_no hs'] at q
      exact iteT (iteT (q H0 (Same.refl H0)))
    rw [hs]
    obtain ⟨z, rfl⟩ := str_of hs
    obtain rfl := th.str z rfl
    have zl := sk z rfl
    have no : ¬ (1 ≤ z.length ∧ z.length ≤ 8) → nameB (.str z) = false := fun e => by
      show (decide _ && _ && _) = false
      rw [decide_eq_false e]
      rfl
    refine iteF ⟨_, rfl, _, rfl, p0, noNames, rfl, .inl (sqL l0), rfl, rfl, _, rfl, ?_⟩
    show if inV (.str z) noNames = true then _ else _
    by_cases hi : inV (.str z) noNames = true
    · rw [hi]
      have : nameB (.str z) = false := by
        show (_ && !inV (.str z) noNames && _) = false
        rw [hi]
        simp
      rw [this] at q
      exact iteT (iteT (q H0 (Same.refl H0)))
    have hi' : inV (.str z) noNames = false := by simpa using hi
    rw [hi']
    refine iteF ⟨_, rfl, z, rfl, small_len zl, 1, _, rfl, rfl, _, rfl, ?_⟩
    by_cases g0 : 1 ≤ z.length
    rotate_left
    · rw [decide_eq_false (show ¬ (1 : Int) ≤ (z.length : Int) by omega)]
      rw [no (fun z => g0 z.1)] at q
      exact iteF ⟨_, rfl, iteT (q H0 (Same.refl H0))⟩
    rw [decide_eq_true (show (1 : Int) ≤ (z.length : Int) by omega)]
    refine iteT ⟨_, 8, rfl, rfl, _, rfl, ?_⟩
    by_cases g1 : z.length ≤ 8
    rotate_left
    · rw [decide_eq_false (show ¬ (z.length : Int) ≤ 8 by omega)]
      rw [no (fun z => g1 z.2)] at q
      exact iteT (q H0 (Same.refl H0))
    rw [decide_eq_true (show (z.length : Int) ≤ 8 by omega)]
    have yes : nameB (.str z) = z.cps.toList.all letB := by
      show (decide _ && !inV (.str z) noNames && _) = _
      rw [decide_eq_true ⟨g0, g1⟩, hi']
      rfl
    rw [yes] at q
    refine iteF ⟨_, rfl, z, rfl, fun L nL => lc_it walk_str (fun i H' => H' L = some (.lst (((z.cps.toList.take i).map letB).map V.bl)) ∧ Same H0 H') ⟨upd_same, same_new nL⟩ (fun _ _ _ _ => trivial) ?_ ?_⟩
    · rintro i x H1 H' hx ⟨hL, sm⟩ ⟨rfl, c, hc, rfl⟩
      refine ⟨rfl, tyes (iteT ⟨_, rfl, c, lettersS, rfl, rfl, ?_⟩)⟩
      have hc' : z.cps.toList[i]? = some c := by simpa using hc
      refine ⟨_, hL, ?_, ?_, ?_⟩
      · rw [List.length_map, List.length_map, List.length_take]
        exact small1000 (by have := lt_get hc'; have : z.cps.toList.length = z.length := by simp [Str.length]
                            omega)
      · rw [upd_same, take_more hc', List.map_append, List.map_append]
        rfl
      · exact ((Bt.of_same (S := []) sm).upd0 nL).same
    · rintro H' ⟨hL, sm⟩
      have e : z.cps.toList.take z.cps.size = z.cps.toList := List.take_of_length_le (by simp)
      rw [e] at hL
      refine ⟨L, _, rfl, sqL hL, ?_⟩
      have e2 : (z.cps.toList.map letB).all id = z.cps.toList.all letB := by rw [List.all_map]; rfl
      rw [e2]
      exact q H' sm
theorem ok_lday {f : Addr} {fd : FuncData} {k : Nat} (B : Bi mg) (D : Df K mg "_law_is_day" sLD f fd ["_law_thing"]) : FnOk P w K mg base CX0 (k + 1) f fd ["_law_thing"] (spDay K) := by
  refine D.fn.ok scLD (fun vs H Q E h => ?_) (fun cdv A outer s H vs Q E hr h => ?_)
  · obtain ⟨S, v, d, rfl, _⟩ := h
    rfl
  · obtain ⟨S, x, d, rfl, th, q⟩ := h
    obtain ⟨b1, b2, k1, k2, e⟩ := kit_whole (K := K) d
    refine ⟨_, pss_one (ps_ret (pe_and (pe_callB call_isi (by rfl) B.isi boot_isinstance (pa_cons (pv 0) (pa_cons (pe_bltn (v := .ty "int") (by rfl) B.int boot_int rfl) pa_nil)))
      (pe_and (pe_not (pe_callB call_isi (by rfl) B.isi boot_isinstance (pa_cons (pv 0) (pa_cons (pe_bltn (v := .ty "bool") (by rfl) B.bool boot_bool rfl) pa_nil))))
      (pe_one (pe_chain op_le op_le (pe_op op_sub pe_int pe_int) (pv 0) pe_int))))), ?_⟩
    refine ⟨x, rfl, x, .ty "int", _, _, b1, rfl, .ty _, th.ty, k1, b1, rfl, ?_⟩
    by_cases wb : wholeB d = true
    rotate_left
    · have wb' : wholeB d = false := by simpa using wb
      rw [day_no wb'] at q
      rw [wb'] at e
      cases b1 with
      | false => exact iteF q
      | true =>
        refine iteT ⟨x, rfl, x, .ty "bool", _, _, b2, rfl, .ty _, th.ty, k2, b2, rfl, _, rfl, ?_⟩
        cases b2 with
        | false => cases e
        | true => exact iteF q
    rw [wb] at e
    obtain ⟨i, rfl⟩ := whole_of wb
    obtain rfl := dz_int th
    cases b1 with
    | false => cases e
    | true =>
      cases b2 with
      | true => cases e
      | false =>
        refine iteT ⟨_, rfl, _, .ty "bool", _, _, false, rfl, .ty _, th.ty, k2, false, rfl, true, rfl, iteT ⟨0, 9999, rfl, rfl, _, rfl, _, i, rfl, rfl, _, rfl, ?_⟩⟩
        have q : Q (.bl (decide (-9999 ≤ i ∧ i ≤ 9999))) H := q
        by_cases c1 : (0 : Int) - 9999 ≤ i
        · rw [decide_eq_true c1]
          refine iteT ⟨i, 9999, rfl, rfl, ?_⟩
          have : decide (-9999 ≤ i ∧ i ≤ 9999) = decide (i ≤ 9999) := by
            congr 1
            exact propext ⟨fun z => z.2, fun z => ⟨by omega, z⟩⟩
          rw [this] at q
          exact q
        · rw [decide_eq_false c1]
          rw [decide_eq_false (fun z => c1 (by have := z.1; omega))] at q
          exact iteF q
end
end WdQ

set_option Elab.async false
set_option linter.all false
set_option maxRecDepth 100000
set_option maxHeartbeats 4000000
set_option exponentiation.threshold 5000
namespace WdQ
open PySem PySem.Spec PyProof.Rows L2 WdM Wd
abbrev sCnt : Stmt := topS 81
def nCnt : List Str := ["_law_thing", "_law_deep", "_law_parts", "_law_good", "_law_part"]
theorem scCnt : FnScope nCnt ["_law_thing", "_law_deep"] (defScope sCnt) := ⟨rfl, rfl, rfl, by decide +kernel, rfl, by decide +kernel, by decide +kernel⟩
def leafW : List V := [.str "lives", .str "childless"]
def rowW : List V := [.str "and", .str "or"]
/-- how many names, 100 and more for what is none -/
def leafGood (w : Str) (ts : List PyData) : Bool := match ts with
  | [t] => nameB t
  | [t, u] => eqW w "lives" && dayB u && nameB t
  | _ => false
def cntL (f : PyData → Nat) (w : Str) (ts : List PyData) : Nat :=
  if inV (.str w) leafW = true then (if leafGood w ts = true then 1 else 100)
  else if (eqW w "not" && decide (ts.length = 1)) = true then (ts.map f).sum
  else if (inV (.str w) rowW && decide (2 ≤ ts.length ∧ ts.length ≤ 6)) = true then (ts.map f).sum else 100
def cntN : Nat → PyData → Nat
  | 0, _ => 100
  | n + 1, .tuple (.str w :: ts) => cntL (cntN n) w ts
  | _ + 1, _ => 100
theorem in_leafW (w : Str) : inV (.str w) leafW = (eqW w "lives" || eqW w "childless") := by
  show (("lives" : Str) == w || (("childless" : Str) == w || false)) = _
  unfold eqW
  have e : ∀ a : Str, (a == w) = decide (V.str w = V.str a) := fun a => by
    by_cases h : a = w
    · subst h; simp
    · have h2 : ¬ V.str w = V.str a := fun z => h (by cases z; rfl)
      rw [decide_eq_false h2]
      simpa using h
  rw [e, e, Bool.or_false]
theorem in_rowW (w : Str) : inV (.str w) rowW = (eqW w "and" || eqW w "or") := by
  show (("and" : Str) == w || (("or" : Str) == w || false)) = _
  unfold eqW
  have e : ∀ a : Str, (a == w) = decide (V.str w = V.str a) := fun a => by
    by_cases h : a = w
    · subst h; simp
    · have h2 : ¬ V.str w = V.str a := fun z => h (by cases z; rfl)
      rw [decide_eq_false h2]
      simpa using h
  rw [e, e, Bool.or_false]
theorem sum_cast : ∀ ns : List Nat, ((ns.map fun n => ((n : Nat) : Int)).sum) = ((ns.sum : Nat) : Int)
  | [] => rfl
  | n :: ns => by
    rw [List.map_cons, List.sum_cons, List.sum_cons, sum_cast ns]
    omega
theorem not_row {w : Str} (h : eqW w "not" = true) : inV (.str w) rowW = false := by
  have : w = "not" := by
    have := of_decide_eq_true h
    cases this
    rfl
  subst this
  decide
section
variable {P : Program} {w : World} {K : PySem.W.Frag} {mg : Str → Option Value} {base : Heap}
def spCnt (K : PySem.W.Frag) (n : Nat) : Sp := fun vs H Q _ => ∃ (S : List Addr) (v : V) (d : PyData), vs = [v, .int (n : Nat)] ∧ Dz S K H v d ∧ Sml d ∧ ∀ H', Same H H' → Q (.int (cntN n d : Nat)) H'
def spCntR (K : PySem.W.Frag) : Nat → Sp
  | 0 => fun _ _ _ _ => False
  | r + 1 => spCnt K r
theorem cnt_step {f fN fD : Addr} {fd fdN fdD : FuncData} {k r : Nat} (r6 : r ≤ 6) (B : Bi mg) (D : Df K mg "_law_count" sCnt f fd ["_law_thing", "_law_deep"]) (DN : Df K mg "_law_is_name" sLN fN fdN ["_law_thing"]) (DD : Df K mg "_law_is_day" sLD fD fdD ["_law_thing"])
    (GN : FnOk P w K mg base CX0 (k + 1) fN fdN ["_law_thing"] (spName K)) (GD : FnOk P w K mg base CX0 (k + 1) fD fdD ["_law_thing"] (spDay K)) (GB : FnOk P w K mg base CX0 (k + 1 + r) f fd ["_law_thing", "_law_deep"] (spCntR K r)) : FnOk P w K mg base CX0 (k + 2 + r) f fd ["_law_thing", "_law_deep"] (spCnt K r) := by
  have e : k + 2 + r = (k + 1 + r) + 1 := by omega
  rw [e]
  refine D.fn.ok scCnt (fun vs H Q E h => ?_) (fun cdv A outer s H vs Q E hr h => ?_)
  · obtain ⟨S, v, d, rfl, _⟩ := h
    rfl
  · obtain ⟨S, v, d, rfl, dz, sm, q⟩ := h
    have hu := hr.units
    have r1 : Room (k + 1) _ := hr.mono (by omega)
    refine ⟨_, pss_cons (ps_if (PW.pt (pw_or (pt_not (pt_val (pe_callB call_isi (by rfl) B.isi boot_isinstance (pa_cons (pv 0) (pa_cons (pe_bltn (v := .ty "tuple") (by rfl) B.tuple boot_tuple rfl) pa_nil)))))
          (pw_or (pt_cmpR (op_eqNil hu) (pv 0) (pe_tup pa_nil) (nomark _))
          (pw_or (pt_not (pt_val (pe_callB call_isi (by rfl) B.isi boot_isinstance (pa_cons (pe_ix (r := rIxT K) ix_tup (pv 0) pe_int (fun _ _ => rfl)) (pa_cons (pe_bltn (v := .ty "str") (by rfl) B.str boot_str rfl) pa_nil)))))
          (pw_or1 (pt_cmpR op_eq (pv 1) pe_int (nomark _))))))) (pss_one (ps_ret pe_int)) pss_nil)
      (pss_cons (ps_set (i := 2) scCnt.nd rfl (.inl rfl) (pe_slice sl_tupA (pv 0) (po_some pe_int) po_none))
      (pss_cons (ps_if (pt_cmpR op_in_seq (pe_ix (r := rIxT K) ix_tup (pv 0) pe_int (fun _ _ => rfl)) (PE.wk (t' := tWsN leafW) (pe_lst (pa_cons pe_str (pa_cons pe_str pa_nil))) (by intro σ H Q q; exact ⟨by show leafW.length ≤ sizeLine; decide, fun p n => q p _ (same_new n) n upd_same⟩)) (by rfl))
        (pss_cons (ps_set (i := 3) scCnt.nd rfl (.inl rfl) (pe_or (pe_cmpR op_eq (pe_callB call_len_seq (by rfl) B.len PySem.boot_len (pa_cons (pv 2) pa_nil)) pe_int (nomark _))
            (pe_one (pe_and (pe_cmpR op_eq (pe_callB call_len_seq (by rfl) B.len PySem.boot_len (pa_cons (pv 2) pa_nil)) pe_int (nomark _)) (pe_and (pe_cmpR op_eq (pe_ix (r := rIxT K) ix_tup (pv 0) pe_int (fun _ _ => rfl)) pe_str (nomark _)) (pe_one (pe_call GD r1 (by rfl) DD.mg DD.fn.kp DD.bd .nil pass0 (pa_cons (pe_ix (r := rIxT K) ix_tup (pv 2) pe_int (fun _ _ => rfl)) pa_nil))))))))
        (pss_one (ps_ret (pe_ifExp (PW.pt (pw_and (pt_val (pv 3)) (pw_and1 (pt_val (pe_call GN r1 (by rfl) DN.mg DN.fn.kp DN.bd .nil pass0 (pa_cons (pe_ix (r := rIxT K) ix_tup (pv 2) pe_int (fun _ _ => rfl)) pa_nil)))))) pe_int pe_int)))) pss_nil)
      (pss_cons (ps_if (PW.pt (pw_and (pt_cmpR op_eq (pe_ix (r := rIxT K) ix_tup (pv 0) pe_int (fun _ _ => rfl)) pe_str (nomark _)) (pw_and1 (pt_cmpR op_eq (pe_callB call_len_seq (by rfl) B.len PySem.boot_len (pa_cons (pv 2) pa_nil)) pe_int (nomark _)))))
        (pss_one (ps_ret (pe_call GB hr (by rfl) D.mg D.fn.kp D.bd .nil pass0 (pa_cons (pe_ix (r := rIxT K) ix_tup (pv 2) pe_int (fun _ _ => rfl)) (pa_cons (pe_op op_sub (pv 1) pe_int) pa_nil))))) pss_nil)
      (pss_cons (ps_if (PW.pt (pw_or (pt_cmpR op_notIn_seq (pe_ix (r := rIxT K) ix_tup (pv 0) pe_int (fun _ _ => rfl)) (PE.wk (t' := tWsN rowW) (pe_lst (pa_cons pe_str (pa_cons pe_str pa_nil))) (by intro σ H Q q; exact ⟨by show rowW.length ≤ sizeLine; decide, fun p n => q p _ (same_new n) n upd_same⟩)) (by rfl)) (pw_or1 (pt_not (pt_chain op_le op_le pe_int (pe_callB call_len_seq (by rfl) B.len PySem.boot_len (pa_cons (pv 2) pa_nil)) pe_int)))))
        (pss_one (ps_ret pe_int)) pss_nil)
      (pss_one (ps_ret (pe_callB (cr_sum rfl) (by rfl) B.sum (by decide +kernel) (pa_cons
          (pe_lc (own := [("_law_part", 4)]) (g := gName 4) (tt := tYes) rfl scCnt.nd (pi_tup (pv 2)) (blkOk_by (own := [("_law_part", 4)]) (N := nCnt) (sc := defScope sCnt) (by decide +kernel))
            (fun _ _ _ _ _ => pg_name (i := 4) scCnt.nd rfl (Or.inl rfl)) (fun _ _ _ _ _ => pts_nil)
            (fun _ _ _ _ _ => pe_call GB hr (by rfl) D.mg D.fn.kp D.bd .nil pass0 (pa_cons (pv 4) (pa_cons (pe_op op_sub (pv 1) pe_int) pa_nil)))) pa_nil)))))))), ?_⟩
    have i100 : ∀ H', Same H H' → cntN r d = 100 → Q (.int 100) H' := fun H' e c => by
      have := q H' e
      rw [c] at this
      exact this
    refine ⟨_, rfl, _, .ty "tuple", _, .type "tuple", _, rfl, .ty _, dz.ty, kit_tup d, _, rfl, ?_⟩
    by_cases ht : tupB d = true
    rotate_left
    · have ht' : tupB d = false := by simpa using ht
      rw [ht']
      refine iteT (iteT (i100 H (Same.refl H) ?_))
      cases r with
      | zero => rfl
      | succ r => cases d <;> first | rfl | cases ht'
    rw [ht]
    obtain ⟨ds, rfl⟩ := tup_of ht
    obtain ⟨a, xs, rfl, hs, hd⟩ := dz_tup dz
    have hl := hd.len
    refine iteF ⟨_, rfl, by show 0 ≤ sizeLine; decide, fun tn ntn => ⟨a, tn, xs, rfl, rfl, (tk_new ntn).sq hs, sqT upd_same, _, rfl, ?_⟩⟩
    have s1 : Same H (upd H tn (.tup [])) := same_new ntn
    revert s1
    generalize upd H tn (.tup []) = H1
    intro s1
    cases hd with
    | nil =>
      refine iteT (iteT (i100 H1 s1 ?_))
      cases r <;> rfl
    | cons h1 hts =>
    rename_i x1 ys d1 es
    have hs1 := (tk_same s1).sq hs
    refine iteF ⟨_, rfl, a, _, 0, x1, rfl, rfl, hs1, atI_nat (j := 0) rfl, _, .ty "str", _, .type "str", _, rfl, .ty _, (h1.same s1).ty, kit_str d1, _, rfl, ?_⟩
    by_cases sb : strB d1 = true
    rotate_left
    · have sb' : strB d1 = false := by simpa using sb
      rw [sb']
      refine iteT (iteT (i100 H1 s1 ?_))
      cases r with
      | zero => rfl
      | succ r => cases d1 <;> first | rfl | cases sb'
    rw [sb]
    obtain ⟨wd, rfl⟩ := str_of sb
    obtain rfl := dz_str h1
    refine iteF ⟨_, rfl, rfl, _, rfl, ?_⟩
    cases r with
    | zero => exact iteT (i100 H1 s1 rfl)
    | succ r =>
    rw [show decide (V.int ((r + 1 : Nat) : Int) = V.int 0) = false by simp; omega]
    refine iteF ⟨_, rfl, 1, rfl, ?_⟩
    refine (show tNoPart _ H1 _ from cut_tup1 hs1 (by show 1 ≤ _; simp) (fun p H2 s2 sq => ?_))
    replace sq : SqT K H2 p ys := sq
    have s12 := s1.trans s2
    have hts2 : DzAll S K H2 ys es := hts.same s12
    have hl2 : ys.length = es.length := hts2.len
    have hs2 := (tk_same s12).sq hs
    replace q : ∀ H', Same H H' → Q (.int (cntL (cntN r) wd es : Nat)) H' := q
    unfold cntL at q
    refine ⟨_, rfl, a, _, 0, _, rfl, rfl, hs2, atI_nat (j := 0) rfl, fun pL H3 s3 nL hL => ⟨pL, leafW, rfl, .inl (sqL hL), rfl, rfl, _, rfl, ?_⟩⟩
    show if inV (.str wd) leafW = true then _ else _
    have s13 := s12.trans s3
    have sq3 := (tk_same s3).sq sq
    have hs3 := (tk_same s13).sq hs
    have hts3 : DzAll S K H3 ys es := hts.same s13
    by_cases c1 : inV (.str wd) leafW = true
    · rw [c1] at q ⊢
      rw [if_pos rfl] at q
      refine iteT ⟨_, rfl, p, _, rfl, .inr sq3, rfl, _, rfl, ?_⟩
      have smn : ∀ e ∈ es, Sml e := fun e he => sm.mem (List.mem_cons_of_mem _ he)
      cases hts3 with
      | nil =>
        exact iteF ⟨_, rfl, p, _, rfl, .inr sq3, rfl, false, rfl, iteF ⟨_, rfl, false, rfl, iteF (iteF (q H3 s13))⟩⟩
      | cons h4 ht4 =>
        rename_i x4 zs d4 fs
        have sh4 := (smn d4 (by simp)).short
        cases ht4 with
        | nil =>
          refine iteT ⟨_, rfl, true, rfl, iteT ⟨_, rfl, p, _, 0, x4, rfl, rfl, sq3, atI_nat (j := 0) rfl, x4, d4, rfl, h4.is, sh4, fun H5 s5 => ?_⟩⟩
          have q : ∀ H', Same H H' → Q (.int ((if nameB d4 = true then 1 else 100 : Nat) : Nat)) H' := q
          refine ⟨_, rfl, ?_⟩
          cases nb : nameB d4 with
          | true => rw [nb] at q; exact iteT (q H5 (s13.trans s5))
          | false => rw [nb] at q; exact iteF (q H5 (s13.trans s5))
        | cons h5 ht5 =>
          rename_i x5 zs5 d5 fs5
          cases ht5 with
          | nil =>
            refine iteF ⟨_, rfl, p, _, rfl, .inr sq3, rfl, true, rfl, iteT ⟨_, rfl, a, _, 0, _, rfl, rfl, hs3, atI_nat (j := 0) rfl, rfl, _, rfl, ?_⟩⟩
            show if eqW wd "lives" = true then _ else _
            have q : ∀ H', Same H H' → Q (.int ((if (eqW wd "lives" && dayB d5 && nameB d4) = true then 1 else 100 : Nat) : Nat)) H' := q
            cases c2 : eqW wd "lives" with
            | false =>
              rw [c2] at q
              exact iteF ⟨_, rfl, false, rfl, iteF (iteF (q H3 s13))⟩
            | true =>
              rw [c2] at q
              refine iteT ⟨_, rfl, p, _, 1, x5, rfl, rfl, sq3, atI_nat (j := 1) rfl, S, x5, d5, rfl, h5, ?_⟩
              cases c3 : dayB d5 with
              | false =>
                rw [c3] at q
                exact ⟨_, rfl, false, rfl, iteF (iteF (q H3 s13))⟩
              | true =>
                rw [c3] at q
                refine ⟨_, rfl, true, rfl, iteT ⟨_, rfl, p, _, 0, x4, rfl, rfl, sq3, atI_nat (j := 0) rfl, x4, d4, rfl, h4.is, sh4, fun H5 s5 => ?_⟩⟩
                refine ⟨_, rfl, ?_⟩
                cases nb : nameB d4 with
                | true => rw [nb] at q; exact iteT (q H5 (s13.trans s5))
                | false => rw [nb] at q; exact iteF (q H5 (s13.trans s5))
          | cons h6 ht6 =>
            rename_i x6 zs6 d6 fs6
            have e1 : decide (V.int ((x4 :: x5 :: x6 :: zs6).length : Nat) = V.int 1) = false := by
              have : ((x4 :: x5 :: x6 :: zs6).length : Int) ≠ 1 := by simp only [List.length_cons]; omega
              simpa using this
            have e2 : decide (V.int ((x4 :: x5 :: x6 :: zs6).length : Nat) = V.int 2) = false := by
              have : ((x4 :: x5 :: x6 :: zs6).length : Int) ≠ 2 := by simp only [List.length_cons]; omega
              simpa using this
            rw [e1]
            exact iteF ⟨_, rfl, p, _, rfl, .inr sq3, rfl, false, congrArg V.bl e2, iteF ⟨_, rfl, false, rfl, iteF (iteF (q H3 s13))⟩⟩
    have c1' : inV (.str wd) leafW = false := by simpa using c1
    rw [c1'] at q ⊢
    rw [if_neg (by decide)] at q
    have smn : ∀ e ∈ es, Sml e := fun e he => sm.mem (List.mem_cons_of_mem _ he)
    refine iteF ⟨_, rfl, a, _, 0, _, rfl, rfl, hs3, atI_nat (j := 0) rfl, rfl, _, rfl, ?_⟩
    show if eqW wd "not" = true then _ else _
    by_cases c2 : eqW wd "not" = true
    · rw [c2] at q ⊢
      refine iteT ⟨_, rfl, p, _, rfl, .inr sq3, rfl, _, rfl, ?_⟩
      by_cases l1 : es.length = 1
      · rw [decide_eq_true l1] at q
        rw [if_pos (show (true && true) = true from rfl)] at q
        cases hts3 with
        | nil => cases l1
        | cons h4 ht4 =>
          cases ht4 with
          | cons h5 ht5 => simp only [List.length_cons] at l1; omega
          | nil =>
            rename_i x4 d4
            refine iteT ⟨_, rfl, p, _, 0, x4, rfl, rfl, sq3, atI_nat (j := 0) rfl, _, rfl, _, 1, rfl, rfl, S, x4, d4, ?_, h4, smn d4 (by simp), fun H5 s5 => q H5 (s13.trans s5)⟩
            show [x4, V.int (((r + 1 : Nat) : Int) - 1)] = _
            rw [show (((r + 1 : Nat) : Int) - 1) = (r : Int) by omega]
      · rw [decide_eq_false l1, not_row c2] at q
        rw [show decide (V.int (ys.length : Nat) = V.int 1) = false by simp; omega]
        refine iteF ⟨_, rfl, a, _, 0, _, rfl, rfl, hs3, atI_nat (j := 0) rfl, fun pR H4 s4 nR hR => ⟨pR, rowW, rfl, .inl (sqL hR), rfl, rfl, _, rfl, ?_⟩⟩
        show if (!inV (.str wd) rowW) = true then _ else _
        rw [not_row c2]
        exact iteT (iteT (q H4 (s13.trans s4)))
    have c2' : eqW wd "not" = false := by simpa using c2
    rw [c2'] at q ⊢
    rw [if_neg (by simp)] at q
    refine iteF (iteF ⟨_, rfl, a, _, 0, _, rfl, rfl, hs3, atI_nat (j := 0) rfl, fun pR H4 s4 nR hR => ⟨pR, rowW, rfl, .inl (sqL hR), rfl, rfl, _, rfl, ?_⟩⟩)
    show if (!inV (.str wd) rowW) = true then _ else _
    have s14 := s13.trans s4
    have sq4 := (tk_same s4).sq sq3
    have hts4 : DzAll S K H4 ys es := hts.same s14
    by_cases c3 : inV (.str wd) rowW = true
    rotate_left
    · have c3' : inV (.str wd) rowW = false := by simpa using c3
      rw [c3'] at q ⊢
      exact iteT (iteT (q H4 s14))
    rw [c3] at q ⊢
    refine iteF ⟨_, rfl, p, _, rfl, .inr sq4, 2, _, rfl, rfl, _, rfl, ?_⟩
    by_cases m2 : 2 ≤ es.length
    rotate_left
    · rw [decide_eq_false (show ¬ (2 : Int) ≤ (ys.length : Int) by omega)]
      rw [decide_eq_false (show ¬ (2 ≤ es.length ∧ es.length ≤ 6) from fun z => m2 z.1)] at q
      exact iteF ⟨_, rfl, iteT (q H4 s14)⟩
    rw [decide_eq_true (show (2 : Int) ≤ (ys.length : Int) by omega)]
    refine iteT ⟨_, 6, rfl, rfl, _, rfl, ?_⟩
    by_cases m6 : es.length ≤ 6
    rotate_left
    · rw [decide_eq_false (show ¬ (ys.length : Int) ≤ 6 by omega)]
      rw [decide_eq_false (show ¬ (2 ≤ es.length ∧ es.length ≤ 6) from fun z => m6 z.2)] at q
      exact iteT (q H4 s14)
    rw [decide_eq_true (show (ys.length : Int) ≤ 6 by omega)]
    rw [decide_eq_true (show 2 ≤ es.length ∧ es.length ≤ 6 from ⟨m2, m6⟩)] at q
    rw [if_pos (show (true && true) = true from rfl)] at q
    refine iteF ⟨_, rfl, p, rfl, ⟨ys, sq4⟩, fun L nL => lc_tup (K := K) (a := p) (xs := ys) (fun i H' => H' L = some (.lst ((((es.take i).map (cntN r)).map fun n => ((n : Nat) : Int)).map V.int)) ∧ Same H4 H') ⟨upd_same, same_new nL⟩ (fun i H' _ h => tk_same h.2 |>.sq sq4) ?_ ?_⟩
    · rintro i x H5 hx ⟨hL, s5⟩
      obtain ⟨e, he, dx⟩ := hts4.get hx
      have il := lt_get hx
      refine ⟨rfl, tyes (iteT ⟨_, rfl, _, rfl, _, 1, rfl, rfl, S, x, e, ?_, dx.same s5, smn e (List.mem_of_getElem? he), fun H6 s6 => ?_⟩)⟩
      · show [x, V.int (((r + 1 : Nat) : Int) - 1)] = _
        rw [show (((r + 1 : Nat) : Int) - 1) = (r : Int) by omega]
      refine ⟨_, s6 _ _ hL, ?_, ?_, ?_⟩
      · rw [List.length_map, List.length_map, List.length_map, List.length_take]
        exact small1000 (by omega)
      · rw [upd_same, take_more he, List.map_append, List.map_append, List.map_append]
        rfl
      · exact ((Bt.of_same (S := []) (s5.trans s6)).upd0 nL).same
    · rintro H5 ⟨hL, s5⟩
      rw [hl2, List.take_length] at hL
      refine ⟨L, _, rfl, sqL hL, ?_⟩
      rw [sum_cast]
      exact q H5 (s14.trans s5)
theorem ok_cnt {f fN fD : Addr} {fd fdN fdD : FuncData} {k : Nat} (B : Bi mg) (D : Df K mg "_law_count" sCnt f fd ["_law_thing", "_law_deep"]) (DN : Df K mg "_law_is_name" sLN fN fdN ["_law_thing"]) (DD : Df K mg "_law_is_day" sLD fD fdD ["_law_thing"])
    (GN : FnOk P w K mg base CX0 (k + 1) fN fdN ["_law_thing"] (spName K)) (GD : FnOk P w K mg base CX0 (k + 1) fD fdD ["_law_thing"] (spDay K)) : ∀ r, r ≤ 6 → FnOk P w K mg base CX0 (k + 2 + r) f fd ["_law_thing", "_law_deep"] (spCnt K r)
  | 0, h => cnt_step h B D DN DD GN GD ⟨fun _ _ _ _ h => h.elim, fun _ _ _ _ _ _ _ _ _ _ _ _ _ h => h.elim⟩
  | r + 1, h => cnt_step (r := r + 1) h B D DN DD GN GD (by
    have := ok_cnt B D DN DD GN GD r (by omega)
    have e : k + 1 + (r + 1) = k + 2 + r := by omega
    rw [e]
    exact this)
end
end WdQ

set_option Elab.async false
set_option linter.all false
set_option maxRecDepth 100000
set_option maxHeartbeats 4000000
namespace WdQ
open PySem PySem.Spec PyProof.Rows L2 WdM Wd
theorem eqW_of {w x : Str} (h : eqW w x = true) : w = x := by
  have := of_decide_eq_true h
  cases this
  rfl
theorem eqS (a w : Str) : (a == w) = eqW w a := by
  unfold eqW
  by_cases h : a = w
  · subst h; simp
  · have h2 : ¬ V.str w = V.str a := fun z => h (by cases z; rfl)
    rw [decide_eq_false h2]
    simpa using h
theorem in_condW (w : Str) : inV (.str w) condW = (eqW w "lives" || (eqW w "childless" || (eqW w "not" || (eqW w "and" || eqW w "or")))) := by
  show (("lives" : Str) == w || (("childless" : Str) == w || (("not" : Str) == w || (("and" : Str) == w || (("or" : Str) == w || false))))) = _
  rw [eqS, eqS, eqS, eqS, eqS, Bool.or_false]
theorem sum_eq {f g : PyData → Nat} : ∀ {ds : List PyData}, (∀ d ∈ ds, f d = g d) → (ds.map f).sum = (ds.map g).sum
  | [], _ => rfl
  | d :: ds, h => by
    rw [List.map_cons, List.map_cons, List.sum_cons, List.sum_cons, h d List.mem_cons_self, sum_eq fun x hx => h x (List.mem_cons_of_mem _ hx)]
theorem sum_big {f : PyData → Nat} {b : Nat} : ∀ {ds : List PyData} {d : PyData}, d ∈ ds → b ≤ f d → b ≤ (ds.map f).sum
  | e :: ds, d, m, h => by
    rw [List.map_cons, List.sum_cons]
    rcases List.mem_cons.mp m with rfl | m
    · omega
    · have := sum_big m h
      omega
def CF (r : Nat) (d : PyData) : Prop := (formB r d = true → cntN r d = leafN r d) ∧ (formB r d = false → 100 ≤ cntN r d)
theorem CF.no {r : Nat} {d : PyData} (h : formB r d = false) (h2 : 100 ≤ cntN r d) : CF r d := ⟨fun e => absurd (h.symm.trans e) (by decide), fun _ => h2⟩
theorem CF.yes {r : Nat} {d : PyData} (h : formB r d = true) (h2 : cntN r d = leafN r d) : CF r d := ⟨fun _ => h2, fun e => absurd (h.symm.trans e) (by decide)⟩
theorem cf_step {r : Nat} (ih : ∀ d, CF r d) (w : Str) (t : PyData) (ts : List PyData) : CF (r + 1) (.tuple (.str w :: t :: ts)) := by
  have fe : formB (r + 1) (.tuple (.str w :: t :: ts)) = formL (formB r) w t ts := rfl
  have ce : cntN (r + 1) (.tuple (.str w :: t :: ts)) = cntL (cntN r) w (t :: ts) := rfl
  have le : leafN (r + 1) (.tuple (.str w :: t :: ts)) = leafL (leafN r) w (t :: ts) := rfl
  have go : ∀ b, formL (formB r) w t ts = b → (b = true → cntL (cntN r) w (t :: ts) = leafL (leafN r) w (t :: ts)) → (b = false → 100 ≤ cntL (cntN r) w (t :: ts)) → CF (r + 1) (.tuple (.str w :: t :: ts)) := fun b hb h1 h2 => by
    cases b with
    | true => exact .yes (fe.trans hb) (by rw [ce, le]; exact h1 rfl)
    | false => exact .no (fe.trans hb) (by rw [ce]; exact h2 rfl)
  have leaf : inV (.str w) leafW = true → ∀ b, leafGood w (t :: ts) = b → formL (formB r) w t ts = b → CF (r + 1) (.tuple (.str w :: t :: ts)) := fun hl b hb hf => by
    refine go b hf (fun e => ?_) (fun e => ?_)
    · unfold cntL leafL
      rw [if_pos hl, hb, e, if_pos rfl]
      rw [in_leafW] at hl
      rw [if_pos hl]
    · unfold cntL
      rw [if_pos hl, hb, e]
      exact Nat.le_refl _
  by_cases c1 : eqW w "lives" = true
  · obtain rfl := eqW_of c1
    refine leaf (by decide) _ rfl ?_
    show (if _ then if _ then livesB _ else _ else _) = _
    rw [if_pos (by decide), if_pos (by decide)]
    match ts with
    | [] => rfl
    | [u] =>
      show (nameB t && dayB u) = (eqW "lives" "lives" && dayB u && nameB t)
      rw [show eqW "lives" "lives" = true by decide, Bool.true_and, Bool.and_comm]
    | u :: v :: us => rfl
  by_cases c2 : eqW w "childless" = true
  · obtain rfl := eqW_of c2
    refine leaf (by decide) _ rfl ?_
    show (if _ then if _ then _ else if _ then ts.isEmpty && nameB t else _ else _) = _
    rw [if_pos (by decide), if_neg (by decide), if_pos (by decide)]
    match ts with
    | [] => rfl
    | [u] =>
      show (false && nameB t) = (eqW "childless" "lives" && dayB u && nameB t)
      rw [show eqW "childless" "lives" = false by decide]
      rfl
    | u :: v :: us => rfl
  have c1' : eqW w "lives" = false := by simpa using c1
  have c2' : eqW w "childless" = false := by simpa using c2
  have nl : inV (.str w) leafW = false := by rw [in_leafW, c1', c2']; rfl
  have ll : leafL (leafN r) w (t :: ts) = ((t :: ts).map (leafN r)).sum := by
    unfold leafL
    rw [c1', c2', if_neg (by decide)]
  by_cases c3 : eqW w "not" = true
  · have fl : formL (formB r) w t ts = (ts.isEmpty && formB r t) := by
      unfold formL
      rw [if_pos (by rw [in_condW, c3]; simp), if_neg c1, if_neg c2, if_pos c3]
    cases ts with
    | nil =>
      have cl : cntL (cntN r) w [t] = ([t].map (cntN r)).sum := by
        unfold cntL
        rw [nl, if_neg (by decide), c3]
        rfl
      refine go _ fl (fun e => ?_) (fun e => ?_)
      · rw [cl, ll]
        exact sum_eq fun d hd => by rw [List.mem_singleton.mp hd]; exact (ih t).1 e
      · rw [cl]
        exact sum_big List.mem_cons_self ((ih t).2 e)
    | cons u us =>
      have cl : cntL (cntN r) w (t :: u :: us) = 100 := by
        unfold cntL
        rw [nl, if_neg (by decide), c3, not_row c3, decide_eq_false (show ¬ (t :: u :: us).length = 1 by simp)]
        rfl
      exact go _ fl (fun e => by cases e) (fun _ => by rw [cl]; exact Nat.le_refl _)
  have c3' : eqW w "not" = false := by simpa using c3
  have cl : cntL (cntN r) w (t :: ts) = if (inV (.str w) rowW && decide (2 ≤ (t :: ts).length ∧ (t :: ts).length ≤ 6)) = true then ((t :: ts).map (cntN r)).sum else 100 := by
    unfold cntL
    rw [nl, if_neg (by decide), c3', Bool.false_and, if_neg (by decide)]
  by_cases c4 : inV (.str w) rowW = true
  rotate_left
  · have c4' : inV (.str w) rowW = false := by simpa using c4
    have : inV (.str w) condW = false := by
      rw [in_rowW] at c4'
      rw [in_condW, c1', c2', c3', c4']
      rfl
    refine go false ?_ (fun e => by cases e) (fun _ => by rw [cl, c4']; exact Nat.le_refl _)
    unfold formL
    rw [this]
    rfl
  have ic : inV (.str w) condW = true := by
    rw [in_rowW] at c4
    rw [in_condW, c4]
    simp
  have fl : formL (formB r) w t ts = (decide (2 ≤ (t :: ts).length ∧ (t :: ts).length ≤ 6) && (t :: ts).all (formB r)) := by
    unfold formL
    rw [if_pos ic, if_neg c1, if_neg c2, if_neg c3]
  rw [c4, Bool.true_and] at cl
  by_cases l : 2 ≤ (t :: ts).length ∧ (t :: ts).length ≤ 6
  · rw [decide_eq_true l, if_pos rfl] at cl
    rw [decide_eq_true l, Bool.true_and] at fl
    refine go _ fl (fun e => ?_) (fun e => ?_)
    · rw [cl, ll]
      exact sum_eq fun d hd => (ih d).1 (List.all_eq_true.mp e d hd)
    · rw [cl]
      obtain ⟨d, hd, hn⟩ := List.all_eq_false.mp e
      exact sum_big hd ((ih d).2 (by simpa using hn))
  · rw [decide_eq_false l] at cl
    rw [decide_eq_false l] at fl
    exact go _ fl (fun e => by cases e) (fun _ => by rw [cl]; exact Nat.le_refl _)
theorem cf_one {r : Nat} (w : Str) : CF (r + 1) (.tuple [.str w]) := by
  refine .no rfl ?_
  show 100 ≤ cntL (cntN r) w []
  unfold cntL
  have : leafGood w [] = false := rfl
  rw [this]
  simp
theorem cf_all : ∀ (r : Nat) (d : PyData), CF r d
  | 0, d => .no rfl (Nat.le_refl _)
  | r + 1, d => by
    cases d with
    | tuple ds =>
      match ds with
      | [] => exact .no rfl (Nat.le_refl _)
      | [.str w] => exact cf_one w
      | .str w :: t :: ts => exact cf_step (cf_all r) w t ts
      | .none :: ts => exact .no (by cases ts <;> rfl) (Nat.le_refl _)
      | .bool _ :: ts => exact .no (by cases ts <;> rfl) (Nat.le_refl _)
      | .int _ :: ts => exact .no (by cases ts <;> rfl) (Nat.le_refl _)
      | .list _ :: ts => exact .no (by cases ts <;> rfl) (Nat.le_refl _)
      | .tuple _ :: ts => exact .no (by cases ts <;> rfl) (Nat.le_refl _)
      | .dict _ :: ts => exact .no (by cases ts <;> rfl) (Nat.le_refl _)
    | none => exact .no rfl (Nat.le_refl _)
    | bool _ => exact .no rfl (Nat.le_refl _)
    | int _ => exact .no rfl (Nat.le_refl _)
    | str _ => exact .no rfl (Nat.le_refl _)
    | list _ => exact .no rfl (Nat.le_refl _)
    | dict _ => exact .no rfl (Nat.le_refl _)
/-- what the law counts is what a condition is -/
theorem cnt_cond (d : PyData) : decide (((cntN 6 d : Nat) : Int) ≤ 12) = condB d := by
  obtain ⟨h1, h2⟩ := cf_all 6 d
  unfold condB
  cases hf : formB 6 d with
  | true =>
    rw [h1 hf, Bool.true_and]
    congr 1
    exact propext ⟨fun z => by omega, fun z => by omega⟩
  | false =>
    rw [Bool.false_and]
    have := h2 hf
    exact decide_eq_false (by omega)
end WdQ

set_option Elab.async false
set_option linter.all false
set_option maxRecDepth 100000
set_option maxHeartbeats 4000000
namespace Wd
open PySem PySem.Spec PyProof.Rows L2 WdM
/-! ### clean data: tuples of small letters and of days -/
def Cd : Nat → PyData → Prop
  | _, .none => False
  | _, .bool _ => False
  | _, .int i => -9999 ≤ i ∧ i ≤ 9999
  | _, .str x => okL x ∧ x.length ≤ 9
  | _, .list _ => False
  | 0, .tuple _ => False
  | n + 1, .tuple ds => 1 ≤ ds.length ∧ ds.length ≤ 7 ∧ ∀ d ∈ ds, Cd n d
  | _, .dict _ => False
theorem Cd.str {n : Nat} {x : Str} (h : Cd n (.str x)) : okL x ∧ x.length ≤ 9 := by cases n <;> exact h
theorem Cd.of_str {n : Nat} {x : Str} (h : okL x ∧ x.length ≤ 9) : Cd n (.str x) := by cases n <;> exact h
theorem Cd.int {n : Nat} {i : Int} (h : Cd n (.int i)) : -9999 ≤ i ∧ i ≤ 9999 := by cases n <;> exact h
theorem Cd.of_int {n : Nat} {i : Int} (h : -9999 ≤ i ∧ i ≤ 9999) : Cd n (.int i) := by cases n <;> exact h
theorem Cd.sm : ∀ {n : Nat} {d : PyData}, Cd n d → Sm n d := by
  intro n
  induction n with
  | zero =>
    intro d c
    cases d with
    | str x => exact Nat.le_trans c.str.2 (by decide)
    | int i => exact trivial
    | _ => exact c.elim
  | succ n ih =>
    intro d c
    cases d with
    | str x => exact Nat.le_trans c.str.2 (by decide)
    | int i => exact trivial
    | tuple ds => exact ⟨Nat.le_trans c.2.1 (by decide), fun d hd => ih (c.2.2 d hd)⟩
    | _ => exact c.elim
theorem Cd.up : ∀ {n : Nat} {d : PyData}, Cd n d → Cd (n + 1) d := by
  intro n
  induction n with
  | zero =>
    intro d c
    cases d with
    | str x => exact c
    | int i => exact c
    | _ => exact c.elim
  | succ n ih =>
    intro d c
    cases d with
    | str x => exact c
    | int i => exact c
    | tuple ds => exact ⟨c.1, c.2.1, fun d hd => ih (c.2.2 d hd)⟩
    | _ => exact c.elim
theorem Cd.mono {n m : Nat} {d : PyData} (h : Cd n d) (l : n ≤ m) : Cd m d := by
  induction l with
  | refl => exact h
  | step _ ih => exact ih.up
/-- a clean value -/
def Cq (K : PySem.W.Frag) (n : Nat) (H : Hp) (v : V) : Prop := ∃ d, Dz [] K H v d ∧ Cd n d
section
variable {K : PySem.W.Frag} {S S' : List Addr}
theorem cd_tk {H H' : Hp} (e : Tk H H') : ∀ {n : Nat} {v : V} {d : PyData}, Cd n d → Dz S K H v d → Dz S' K H' v d := by
  intro n
  induction n with
  | zero =>
    intro v d c h
    cases h with
    | str x => exact .str x
    | int i => exact .int i
    | _ => exact c.elim
  | succ n ih =>
    intro v d c h
    have all : ∀ {xs : List V} {ds : List PyData}, (∀ d ∈ ds, Cd n d) → DzAll S K H xs ds → DzAll S' K H' xs ds := by
      intro xs
      induction xs with
      | nil =>
        intro ds _ h
        cases h
        exact .nil
      | cons x xs ih2 =>
        intro ds hc h
        cases h with
        | cons h t => exact .cons (ih (hc _ List.mem_cons_self) h) (ih2 (fun d hd => hc d (List.mem_cons_of_mem _ hd)) t)
    cases h with
    | str x => exact .str x
    | int i => exact .int i
    | tup h t => exact .tup (e.sq h) (all c.2.2 t)
    | _ => exact c.elim
theorem Cq.tk {H H' : Hp} {n : Nat} {v : V} (h : Cq K n H v) (e : Tk H H') : Cq K n H' v := by
  obtain ⟨d, h, c⟩ := h
  exact ⟨d, cd_tk e c h, c⟩
theorem Cq.mono {H : Hp} {n m : Nat} {v : V} (h : Cq K n H v) (l : n ≤ m) : Cq K m H v := by
  obtain ⟨d, h, c⟩ := h
  exact ⟨d, h, c.mono l⟩
theorem cq_all {H : Hp} {n : Nat} : ∀ {xs : List V}, (∀ x ∈ xs, Cq K n H x) → ∃ ds, DzAll [] K H xs ds ∧ ∀ d ∈ ds, Cd n d
  | [], _ => ⟨[], .nil, fun _ h => nomatch h⟩
  | x :: xs, h => by
    obtain ⟨d, h1, f1⟩ := h x List.mem_cons_self
    obtain ⟨ds, h2, f2⟩ := cq_all (xs := xs) fun y hy => h y (List.mem_cons_of_mem _ hy)
    exact ⟨d :: ds, .cons h1 h2, fun e he => (List.mem_cons.mp he).elim (fun z => z ▸ f1) (f2 e)⟩
theorem cq_tup {H : Hp} {n : Nat} {a : Addr} {xs : List V} (h : SqT K H a xs) (l1 : 1 ≤ xs.length) (l : xs.length ≤ 7) (e : ∀ x ∈ xs, Cq K n H x) : Cq K (n + 1) H (.ref a) := by
  obtain ⟨ds, h1, f1⟩ := cq_all e
  exact ⟨.tuple ds, .tup h h1, by rw [← h1.len]; exact l1, by rw [← h1.len]; exact l, f1⟩
theorem cq_str {H : Hp} {n : Nat} {z : Str} (h : okL z ∧ z.length ≤ 9) : Cq K n H (.str z) := ⟨.str z, .str z, Cd.of_str h⟩
theorem cq_int {H : Hp} {n : Nat} {i : Int} (h : -9999 ≤ i ∧ i ≤ 9999) : Cq K n H (.int i) := ⟨.int i, .int i, Cd.of_int h⟩
/-- a clean value is a text, a day or a tuple of clean ones -/
theorem cq_cases {H : Hp} {n : Nat} {v : V} (h : Cq K n H v) : (∃ z, v = .str z ∧ okL z ∧ z.length ≤ 9) ∨ (∃ i, v = .int i ∧ -9999 ≤ i ∧ i ≤ 9999) ∨ ∃ (m : Nat) (a : Addr) (xs : List V), n = m + 1 ∧ v = .ref a ∧ SqT K H a xs ∧ 1 ≤ xs.length ∧ xs.length ≤ 7 ∧ ∀ x ∈ xs, Cq K m H x := by
  obtain ⟨d, h, c⟩ := h
  cases h with
  | str x => exact .inl ⟨x, rfl, c.str⟩
  | int i => exact .inr (.inl ⟨i, rfl, c.int⟩)
  | tup h t =>
    cases n with
    | zero => exact c.elim
    | succ m =>
      refine .inr (.inr ⟨m, _, _, rfl, rfl, h, by rw [t.len]; exact c.1, by rw [t.len]; exact c.2.1, fun x hx => ?_⟩)
      obtain ⟨i, hi⟩ := List.mem_iff_getElem?.mp hx
      obtain ⟨e, he, q⟩ := t.get hi
      exact ⟨e, q, c.2.2 e (List.mem_of_getElem? he)⟩
  | non => cases n <;> exact c.elim
  | bl => cases n <;> exact c.elim
  | lst => cases n <;> exact c.elim
  | nod => cases n <;> exact c.elim
end
end Wd

set_option Elab.async false
set_option linter.all false
set_option maxRecDepth 100000
set_option maxHeartbeats 4000000
set_option exponentiation.threshold 5000
namespace WdQ
open PySem PySem.Spec PyProof.Rows L2 WdM Wd
abbrev sLc : Stmt := topS 75
def nLc : List Str := ["_law_pool_here", "_law_folk", "_law_days", "_law_deep", "_law_way", "_law_one", "_law_some", "_law_found", "_law_turn"]
theorem scLc : FnScope nLc ["_law_pool_here", "_law_folk", "_law_days", "_law_deep"] (defScope sLc) := ⟨rfl, rfl, rfl, by decide +kernel, rfl, by decide +kernel, by decide +kernel⟩
def tens4 : List V := [.int 0, .int 0, .int 1, .int 4]
section
variable {P : Program} {w : World} {K : PySem.W.Frag} {mg : Str → Option Value} {base : Heap}
def tLeafs (K : PySem.W.Frag) : TS := fun D σ H => ∃ (l aD : Addr) (y1 y3 y4 : Option V) (z : Str) (ds : List Int), σ = [some (.ref l), y1, some (.ref aD), y3, y4, some (.str z), none, none, none] ∧ PoolAt H l ∧ H aD = some (.lst (ds.map V.int)) ∧ aD ≠ l ∧ (okL z ∧ z.length ≤ 9) ∧ (∀ i ∈ ds, -9999 ≤ i ∧ i ≤ 9999) ∧ 1 ≤ ds.length ∧ ∀ (H' : Hp) (v : V), Bt [l] H H' → PoolAt H' l → Cq K 1 H' v → D.rt v H'
theorem lives_ok : okL "lives" ∧ ("lives" : Str).length ≤ 9 := ⟨fun c hc => by revert c; decide +kernel, by decide⟩
theorem childless_ok : okL "childless" ∧ ("childless" : Str).length ≤ 9 := ⟨fun c hc => by revert c; decide +kernel, by decide⟩
theorem not_ok : okL "not" ∧ ("not" : Str).length ≤ 9 := ⟨fun c hc => by revert c; decide +kernel, by decide⟩
theorem row_ok : ∀ v ∈ rowW, ∃ z, v = .str z ∧ okL z ∧ z.length ≤ 9 := by
  intro v hv
  simp only [rowW, List.mem_cons, List.not_mem_nil, or_false] at hv
  rcases hv with rfl | rfl
  · exact ⟨_, rfl, fun c hc => by revert c; decide +kernel, by decide⟩
  · exact ⟨_, rfl, fun c hc => by revert c; decide +kernel, by decide⟩
def spLc (K : PySem.W.Frag) (n : Nat) : Sp := fun vs H Q _ => ∃ (l aN aD : Addr) (m : Nat) (zs : List Str) (ds : List Int), vs = [.ref l, .ref aN, .ref aD, .int (m : Nat)] ∧ 1 ≤ m ∧ m ≤ n ∧ PoolAt H l ∧ H aN = some (.lst (zs.map V.str)) ∧ H aD = some (.lst (ds.map V.int)) ∧ aN ≠ l ∧ aD ≠ l ∧ (∀ z ∈ zs, okL z ∧ z.length ≤ 9) ∧ (∀ i ∈ ds, -9999 ≤ i ∧ i ≤ 9999) ∧ 1 ≤ zs.length ∧ 1 ≤ ds.length ∧
  ∀ (H' : Hp) (v : V), Bt [l] H H' → PoolAt H' l → Cq K m H' v → Q v H'
theorem lc_step {f fT : Addr} {fd fdT : FuncData} {k n : Nat} (B : Bi mg) (D : Df K mg "_law_cond" sLc f fd ["_law_pool_here", "_law_folk", "_law_days", "_law_deep"]) (DT : Df K mg "_law_take" sTake fT fdT ["_law_pool_here", "_law_many"])
    (GT : FnOk P w K mg base CX0 (k + 1) fT fdT ["_law_pool_here", "_law_many"] spTake) (GB : FnOk P w K mg base CX0 (k + 1 + n) f fd ["_law_pool_here", "_law_folk", "_law_days", "_law_deep"] (spLc K n)) : FnOk P w K mg base CX0 (k + 2 + n) f fd ["_law_pool_here", "_law_folk", "_law_days", "_law_deep"] (spLc K (n + 1)) := by
  have e : k + 2 + n = (k + 1 + n) + 1 := by omega
  rw [e]
  refine D.fn.ok scLc (fun vs H Q E h => ?_) (fun cdv A outer s H vs Q E hr h => ?_)
  · obtain ⟨l, aN, aD, m, zs, ds, rfl, _⟩ := h
    rfl
  · obtain ⟨l, aN, aD, m, zs, ds, rfl, m1, mn, pool, hN, hD, nN, nD, oz, od, z1, d1, q⟩ := h
    have r1 : Room (k + 1) _ := hr.mono (by omega)
    refine ⟨_, pss_cons (ps_set (i := 4) scLc.nd rfl (.inl rfl) (pe_call GT r1 (by rfl) DT.mg DT.fn.kp DT.bd .nil pass0 (pa_cons (pv 0) (pa_cons pe_int pa_nil))))
      (pss_cons (ps_set (i := 5) scLc.nd rfl (.inl rfl) (pe_ix (r := rIxL K) ix_list (pv 1) (pe_call GT r1 (by rfl) DT.mg DT.fn.kp DT.bd .nil pass0 (pa_cons (pv 0) (pa_cons (pe_callB call_len_seq (by rfl) B.len PySem.boot_len (pa_cons (pv 1) pa_nil)) pa_nil))) (fun _ _ => rfl)))
      (pss_cons (ps_if (PW.pt (pw_or (pt_cmpR op_lt (pv 4) pe_int (nomark _)) (pw_or1 (pt_cmpR op_eq (pv 3) pe_int (nomark _)))))
        (PSs.wk (t' := tLeafs K) (pss_cons (ps_set (i := 6) scLc.nd rfl (.inl rfl) (pe_lst (pa_cons (pe_tup (pa_cons pe_str (pa_cons (pv 5) pa_nil))) (pa_cons (pe_tup (pa_cons pe_str (pa_cons (pv 5) (pa_cons (pe_ix (r := rIxL K) ix_list (pv 2) (pe_call GT r1 (by rfl) DT.mg DT.fn.kp DT.bd .nil pass0 (pa_cons (pv 0) (pa_cons (pe_callB call_len_seq (by rfl) B.len PySem.boot_len (pa_cons (pv 2) pa_nil)) pa_nil))) (fun _ _ => rfl)) pa_nil)))) (pa_cons (pe_tup (pa_cons pe_str (pa_cons (pv 5) pa_nil))) pa_nil)))))
        (pss_one (ps_ret (pe_ix (r := rIxL K) ix_list (pv 6) (pe_call GT r1 (by rfl) DT.mg DT.fn.kp DT.bd .nil pass0 (pa_cons (pv 0) (pa_cons pe_int pa_nil))) (fun _ _ => rfl))))) (by
          rintro D σ H ⟨l, aD, y1, y3, y4, z, ds, rfl, pool, hD, nD, oz, od, d1, q⟩
          refine ⟨_, rfl, by show 2 ≤ sizeLine; decide, fun t1 n1 => ?_⟩
          have pool1 := pool.upd (o := .tup [.str "lives", .str z]) (pool.ne n1)
          have hD1 : (upd H t1 (.tup [.str "lives", .str z])) aD = some (.lst (ds.map V.int)) := by rw [upd_ne (ne_of_none hD n1)]; exact hD
          have c1 : Cq K 1 (upd H t1 (.tup [.str "lives", .str z])) (.ref t1) := cq_tup (sqT upd_same) (Nat.le_of_ble_eq_true rfl) (Nat.le_of_ble_eq_true rfl) (fun x hx => by
            simp only [List.mem_cons, List.not_mem_nil, or_false] at hx
            rcases hx with rfl | rfl
            · exact cq_str lives_ok
            · exact cq_str oz)
          have b1 : Bt [l] H (upd H t1 (.tup [.str "lives", .str z])) := (Bt.refl H).new n1
          revert pool1 hD1 c1 b1
          generalize upd H t1 (.tup [.str "lives", .str z]) = H1
          intro pool1 hD1 c1 b1
          refine ⟨_, rfl, _, rfl, _, rfl, _, rfl, aD, _, rfl, .inl (sqL hD1), l, _, rfl, pool1, by rw [List.length_map]; omega, fun H2 e2 b2 pool2 e20 e21 => ?_⟩
          rw [List.length_map] at e21
          obtain ⟨v2, at2, i2, rfl, o2⟩ := at_of (P := fun v => ∃ i : Int, v = .int i ∧ -9999 ≤ i ∧ i ≤ 9999) (xs := ds.map V.int) (d := e2) (fun x hx => by
            obtain ⟨z, hz, rfl⟩ := List.mem_map.mp hx
            exact ⟨z, rfl, od z hz⟩) e20 (by rw [List.length_map]; exact e21)
          refine ⟨aD, _, e2, _, rfl, rfl, sqL (kept b2 hD1 (by simp [nD])), at2, by show 3 ≤ sizeLine; decide, fun t2 n2 => ?_⟩
          have tk2 : Tk H1 (upd H2 t2 (.tup [.str "lives", .str z, .int i2])) := (b2.tk pool1.lst).trans (tk_new n2)
          have c1 := c1.tk tk2
          have pool3 := pool2.upd (o := .tup [.str "lives", .str z, .int i2]) (pool2.ne n2)
          have c2 : Cq K 1 (upd H2 t2 (.tup [.str "lives", .str z, .int i2])) (.ref t2) := cq_tup (sqT upd_same) (Nat.le_of_ble_eq_true rfl) (Nat.le_of_ble_eq_true rfl) (fun x hx => by
            simp only [List.mem_cons, List.not_mem_nil, or_false] at hx
            rcases hx with rfl | rfl | rfl
            · exact cq_str lives_ok
            · exact cq_str oz
            · exact cq_int o2)
          have b3 : Bt [l] H (upd H2 t2 (.tup [.str "lives", .str z, .int i2])) := (b1.trans b2).new n2
          clear tk2
          revert c1 pool3 c2 b3
          generalize upd H2 t2 (.tup [.str "lives", .str z, .int i2]) = H3
          intro c1 pool3 c2 b3
          refine ⟨_, rfl, by show 2 ≤ sizeLine; decide, fun t3 n3 => ?_⟩
          have c1 := c1.tk (tk_new (o := .tup [.str "childless", .str z]) n3)
          have c2 := c2.tk (tk_new (o := .tup [.str "childless", .str z]) n3)
          have pool4 := pool3.upd (o := .tup [.str "childless", .str z]) (pool3.ne n3)
          have c3 : Cq K 1 (upd H3 t3 (.tup [.str "childless", .str z])) (.ref t3) := cq_tup (sqT upd_same) (Nat.le_of_ble_eq_true rfl) (Nat.le_of_ble_eq_true rfl) (fun x hx => by
            simp only [List.mem_cons, List.not_mem_nil, or_false] at hx
            rcases hx with rfl | rfl
            · exact cq_str childless_ok
            · exact cq_str oz)
          have b4 : Bt [l] H (upd H3 t3 (.tup [.str "childless", .str z])) := b3.new n3
          revert c1 c2 pool4 c3 b4
          generalize upd H3 t3 (.tup [.str "childless", .str z]) = H4
          intro c1 c2 pool4 c3 b4
          refine ⟨by show 3 ≤ sizeLine; decide, fun pL nL => ?_⟩
          have nlL := pool4.ne nL
          refine ⟨_, rfl, _, rfl, l, 3, rfl, pool4.upd nlL, by decide, fun H5 e5 b5 pool5 e50 e51 => ?_⟩
          have tk5 : Tk H4 H5 := (tk_new nL).trans (b5.tk (pool4.upd nlL).lst)
          obtain ⟨v5, at5, cv⟩ := at_of (P := fun v => Cq K 1 H5 v) (xs := [.ref t1, .ref t2, .ref t3]) (d := e5) (fun x hx => by
            simp only [List.mem_cons, List.not_mem_nil, or_false] at hx
            rcases hx with rfl | rfl | rfl
            · exact c1.tk tk5
            · exact c2.tk tk5
            · exact c3.tk tk5) e50 (by show e5 < 3; omega)
          exact ⟨pL, _, e5, _, rfl, rfl, sqL (kept b5 upd_same (by simp [nlL.symm])), at5, q H5 v5 ((b4.new nL).trans b5) pool5 cv⟩)) pss_nil)
      (pss_cons (ps_if (pt_cmpR op_lt (pv 4) pe_int (nomark _)) (pss_one (ps_ret (pe_tup (pa_cons pe_str (pa_cons (pe_call GB hr (by rfl) D.mg D.fn.kp D.bd .nil pass0 (pa_cons (pv 0) (pa_cons (pv 1) (pa_cons (pv 2) (pa_cons (pe_op op_sub (pv 3) pe_int) pa_nil))))) pa_nil))))) pss_nil)
      (pss_cons (ps_set (i := 7) scLc.nd rfl (.inl rfl) (pe_lst (pa_cons (pe_ix (r := rIxL K) ix_list (PE.wk (t' := tWsN rowW) (pe_lst (pa_cons pe_str (pa_cons pe_str pa_nil))) (by intro σ H Q q; exact ⟨by show rowW.length ≤ sizeLine; decide, fun p n => q p _ (same_new n) n upd_same⟩)) (pe_op op_mod (pv 4) pe_int) (fun _ _ => rfl)) pa_nil)))
      (pss_cons (ps_for PassesOwn.never rfl (pi_range1 (by rfl) B.range (pa_cons (pe_op op_add pe_int (pe_ix (r := rIxL K) ix_list (PE.wk (t' := tWsN tens4) (pe_lst (pa_cons pe_int (pa_cons pe_int (pa_cons pe_int (pa_cons pe_int pa_nil))))) (by intro σ H Q q; exact ⟨by show tens4.length ≤ sizeLine; decide, fun p n => q p _ (same_new n) n upd_same⟩)) (pe_call GT r1 (by rfl) DT.mg DT.fn.kp DT.bd .nil pass0 (pa_cons (pv 0) (pa_cons pe_int pa_nil))) (fun _ _ => rfl))) pa_nil)) (pg_name (i := 8) scLc.nd rfl (.inl rfl))
        (pss_one (ps_expr (pe_bm PySem.F.plainAttrs_list PySem.F.slot_list_append PySem.F.type_list_append mt_append (pv 7) (pa_cons (pe_call GB hr (by rfl) D.mg D.fn.kp D.bd .nil pass0 (pa_cons (pv 0) (pa_cons (pv 1) (pa_cons (pv 2) (pa_cons (pe_op op_sub (pe_op op_sub (pv 3) pe_int) (pe_call GT r1 (by rfl) DT.mg DT.fn.kp DT.bd .nil pass0 (pa_cons (pv 0) (pa_cons (pe_op op_sub (pv 3) pe_int) pa_nil)))) pa_nil))))) pa_nil)))))
      (pss_one (ps_ret (pe_callTy call_tuple_of (by rfl) B.tuple boot_tuple (pa_cons (pv 7) pa_nil))))))))), ?_⟩
    refine ⟨_, rfl, l, 8, rfl, pool, by decide, fun H1 way b1 pool1 w0 w8 => ?_⟩
    have hN1 := kept b1 hN (by simp [nN])
    refine ⟨_, rfl, _, rfl, _, rfl, aN, _, rfl, .inl (sqL hN1), l, _, rfl, pool1, by rw [List.length_map]; omega, fun H2 e2 b2 pool2 e20 e21 => ?_⟩
    rw [List.length_map] at e21
    obtain ⟨v2, at2, z2, rfl, o2⟩ := at_of (P := fun v => ∃ z, v = .str z ∧ okL z ∧ z.length ≤ 9) (xs := zs.map V.str) (d := e2) (fun x hx => by
      obtain ⟨z, hz, rfl⟩ := List.mem_map.mp hx
      exact ⟨z, rfl, oz z hz⟩) e20 (by rw [List.length_map]; exact e21)
    have b02 := b1.trans b2
    have hN2 := kept b02 hN (by simp [nN])
    have hD2 := kept b02 hD (by simp [nD])
    refine ⟨aN, _, e2, _, rfl, rfl, sqL hN2, at2, ?_⟩
    have leafs : ∀ D : Ends, D.rt = Q → tLeafs K D [some (.ref l), some (.ref aN), some (.ref aD), some (.int (m : Nat)), some (.int way), some (.str z2), none, none, none] H2 := fun D e => ⟨l, aD, _, _, _, z2, ds, rfl, pool2, hD2, nD, o2, od, d1, fun H' v b p c => by rw [e]; exact q H' v (b02.trans b) p (c.mono m1)⟩
    refine ⟨_, rfl, way, 2, rfl, rfl, _, rfl, ?_⟩
    by_cases w2 : way < 2
    · rw [decide_eq_true w2]
      exact iteT (iteT (leafs _ rfl))
    rw [decide_eq_false w2]
    refine iteF ⟨_, rfl, rfl, _, rfl, ?_⟩
    by_cases mm : m = 1
    · subst mm
      exact iteT (leafs _ rfl)
    rw [show decide (V.int ((m : Nat) : Int) = V.int 1) = false by simp; omega]
    refine iteF ⟨_, rfl, way, 4, rfl, rfl, _, rfl, ?_⟩
    obtain ⟨j, rfl⟩ : ∃ j, m = j + 1 := ⟨m - 1, by omega⟩
    by_cases w4 : way < 4
    · rw [decide_eq_true w4]
      refine iteT ⟨_, rfl, _, rfl, _, rfl, _, rfl, _, 1, rfl, rfl, l, aN, aD, j, zs, ds, ?_, by omega, by omega, pool2, hN2, hD2, nN, nD, oz, od, z1, d1, fun H3 v3 b3 pool3 c3 => ⟨by show 2 ≤ sizeLine; decide, fun t n => q _ _ ((b02.trans b3).new n) (pool3.upd (pool3.ne n)) (cq_tup (sqT upd_same) (Nat.le_of_ble_eq_true rfl) (Nat.le_of_ble_eq_true rfl) fun x hx => ?_)⟩⟩
      · show [V.ref l, V.ref aN, V.ref aD, V.int (((j + 1 : Nat) : Int) - 1)] = _
        rw [show (((j + 1 : Nat) : Int) - 1) = (j : Int) by omega]
      · simp only [List.mem_cons, List.not_mem_nil, or_false] at hx
        rcases hx with rfl | rfl
        · exact cq_str not_ok
        · exact c3.tk (tk_new n)
    rw [decide_eq_false w4]
    refine iteF (fun pR H3 s3 nR hR => ⟨_, rfl, way, 2, rfl, rfl, by show (0 : Int) < 2; decide, ?_⟩)
    obtain ⟨v3, at3, z3, rfl, o3⟩ := at_of (d := way % 2) row_ok (Int.emod_nonneg _ (by decide)) (by show way % 2 < 2; exact Int.emod_lt_of_pos _ (by decide))
    refine ⟨pR, _, _, _, rfl, rfl, sqL hR, at3, by show 1 ≤ sizeLine; decide, fun aF nF => ?_⟩
    have pool3 := pool2.same s3
    have nlF : l ≠ aF := pool3.ne nF
    have b04 : Bt [l] H (upd H3 aF (.lst [.str z3])) := (b02.trans (.of_same s3)).new nF
    have fF : H aF = none := by
      cases e : H aF with
      | none => rfl
      | some o =>
        have := (b02.trans (.of_same s3)) aF o (by simp [nlF.symm]) e
        rw [nF] at this
        cases this
    have hF4 : (upd H3 aF (.lst [.str z3])) aF = some (.lst [.str z3]) := upd_same
    have pool4 := pool3.upd (o := .lst [.str z3]) nlF
    revert b04 hF4 pool4
    generalize upd H3 aF (.lst [.str z3]) = H4
    intro b04 hF4 pool4
    intro pT H5 s5 nT hT
    refine ⟨_, rfl, l, 4, rfl, pool4.same s5, by decide, fun H6 e6 b6 pool6 e60 e61 => ?_⟩
    have nTl : pT ≠ l := fun e => pool4.ne nT e.symm
    obtain ⟨v6, at6, i6, rfl, o60, o61⟩ := at_of (P := fun v => ∃ i : Int, v = .int i ∧ 0 ≤ i ∧ i ≤ 4) (xs := tens4) (d := e6) (fun x hx => by
      simp only [tens4, List.mem_cons, List.not_mem_nil, or_false] at hx
      rcases hx with rfl | rfl | rfl | rfl <;> exact ⟨_, rfl, by decide, by decide⟩) e60 (by show e6 < 4; omega)
    refine ⟨pT, _, e6, _, rfl, rfl, sqL (kept b6 hT (by simp [nTl])), at6, 2, i6, rfl, rfl, 2 + i6, rfl, by omega, by omega, ?_⟩
    have b06 : Bt [l] H H6 := (b04.trans (.of_same s5)).trans b6
    have hF6 := kept b6 (s5 _ _ hF4) (by simp [nlF.symm])
    refine for_range (lo := 0) (n := (2 + i6).toNat) (fun i σ H' => (∃ y8 : Option V, σ = [some (.ref l), some (.ref aN), some (.ref aD), some (.int ((j + 1 : Nat) : Int)), some (.int way), some (.str z2), none, some (.ref aF), y8]) ∧ (∃ xs, H' aF = some (.lst xs) ∧ xs.length = i + 1 ∧ ∀ x ∈ xs, Cq K j H' x) ∧ Bt [l] H H' ∧ PoolAt H' l)
      ⟨⟨_, rfl⟩, ⟨_, hF6, rfl, fun x hx => by rw [List.mem_singleton.mp hx]; exact cq_str o3⟩, b06, pool6⟩ ?_ ?_
    · rintro i σ H7 hi ⟨⟨y8, rfl⟩, ⟨xs, hF7, xl, cx⟩, b7, pool7⟩
      refine ⟨_, rfl, .inl ⟨rfl, _, sqL hF7⟩, _, rfl, _, rfl, _, rfl, _, rfl, _, 1, rfl, rfl, _, rfl, _, rfl, _, 1, rfl, rfl, l, ((j + 1 : Nat) : Int) - 1, rfl, pool7, by omega, fun H8 e8 b8 pool8 e80 e81 => ⟨_, e8, rfl, rfl, ?_⟩⟩
      have b08 := b7.trans b8
      obtain ⟨t, ht⟩ : ∃ t : Nat, ((j + 1 : Nat) : Int) - 1 - e8 = (t : Nat) := ⟨(((j + 1 : Nat) : Int) - 1 - e8).toNat, by omega⟩
      have hF8 := kept b8 hF7 (by simp [nlF.symm])
      refine ⟨l, aN, aD, t, zs, ds, ?_, by omega, by omega, pool8, kept b08 hN (by simp [nN]), kept b08 hD (by simp [nD]), nN, nD, oz, od, z1, d1, fun H9 v9 b9 pool9 c9 => ?_⟩
      · show [V.ref l, V.ref aN, V.ref aD, V.int (((j + 1 : Nat) : Int) - 1 - e8)] = _
        rw [ht]
      have hF9 := kept b9 hF8 (by simp [nlF.symm])
      have tk9 : Tk H7 H9 := (b8.trans b9).tk pool7.lst
      have tkA : Tk H9 (upd H9 aF (.lst (xs ++ [v9]))) := tk_lst hF9
      refine ⟨aF, xs, v9, rfl, rfl, hF9, by rw [xl]; exact Nat.lt_of_lt_of_le (show i + 1 < 9 by omega) (by decide), ⟨_, rfl⟩, ⟨_, upd_same, by rw [List.length_append, xl]; rfl, fun x hx => ?_⟩, (b08.trans b9).upd0 fF, pool9.upd nlF⟩
      rcases List.mem_append.mp hx with h | h
      · exact ((cx x h).tk tk9).tk tkA
      · rw [List.mem_singleton.mp h]
        exact (c9.mono (by omega)).tk tkA
    · rintro σ H7 ⟨⟨y8, rfl⟩, ⟨xs, hF7, xl, cx⟩, b7, pool7⟩
      exact ⟨_, rfl, aF, xs, rfl, .inl ⟨sqL hF7, fun tp ntp => q _ _ (b7.new ntp) (pool7.upd (pool7.ne ntp)) (cq_tup (sqT upd_same) (by omega) (by omega) fun x hx => (cx x hx).tk (tk_new ntp))⟩⟩
theorem ok_lc {f fT : Addr} {fd fdT : FuncData} {k : Nat} (B : Bi mg) (D : Df K mg "_law_cond" sLc f fd ["_law_pool_here", "_law_folk", "_law_days", "_law_deep"]) (DT : Df K mg "_law_take" sTake fT fdT ["_law_pool_here", "_law_many"])
    (GT : FnOk P w K mg base CX0 (k + 1) fT fdT ["_law_pool_here", "_law_many"] spTake) : ∀ n, FnOk P w K mg base CX0 (k + 1 + n) f fd ["_law_pool_here", "_law_folk", "_law_days", "_law_deep"] (spLc K n)
  | 0 => ⟨fun _ _ _ _ h => by obtain ⟨_, _, _, m, _, _, _, h1, h2, _⟩ := h; omega, fun _ _ _ _ _ _ _ _ _ _ _ _ _ h => by obtain ⟨_, _, _, m, _, _, _, h1, h2, _⟩ := h; omega⟩
  | n + 1 => by
    have := lc_step B D DT GT (ok_lc B D DT GT n)
    have e : k + 1 + (n + 1) = k + 2 + n := by omega
    rw [e]
    exact this
end
end WdQ

set_option Elab.async false
set_option linter.all false
set_option maxRecDepth 100000
set_option maxHeartbeats 4000000
set_option exponentiation.threshold 5000
namespace WdQ
open PySem PySem.Spec PyProof.Rows L2 WdM Wd
abbrev sOdd : Stmt := topS 82
theorem scOdd : FnScope ["_law_pool_here", "_law_thing", "_law_some"] ["_law_pool_here", "_law_thing"] (defScope sOdd) := ⟨rfl, rfl, rfl, by decide +kernel, rfl, by decide +kernel, by decide +kernel⟩
theorem log_day {i : Int} (h0 : -9999 ≤ i) (h1 : i ≤ 9999) : i.natAbs.log2 < 1920 := by
  by_cases z : i.natAbs = 0
  · rw [z]; decide
  · exact Nat.lt_of_lt_of_le ((Nat.log2_lt z).mpr (show i.natAbs < 2 ^ 14 by omega)) (by decide)
theorem day_text {i : Int} (h0 : -9999 ≤ i) (h1 : i ≤ 9999) : (Str.ofString (toString i)).length ≤ 100 := by
  have e : (toString i).length ≤ 4 + 1 := int_text_length_le10 (k := 4) (by decide) (by omega)
  rw [PySem.ofString_length]
  omega
theorem len_app (x y : Str) : (x ++ y).length = x.length + y.length := strLen_append x y
section
variable {P : Program} {w : World} {K : PySem.W.Frag} {mg : Str → Option Value} {base : Heap} {l : Addr} {S : List Addr} {H : Hp}
/-- a small thing that stays where the pool changes -/
def Bs (K : PySem.W.Frag) (S : List Addr) (H : Hp) (v : V) : Prop := ∃ d, Dz S K H v d ∧ Sml d
theorem bs_str {x : Str} (h : x.length ≤ 100) : Bs K S H (.str x) := ⟨.str x, .str x, ⟨0, h⟩⟩
theorem bs_int {i : Int} : Bs K S H (.int i) := ⟨.int i, .int i, ⟨0, trivial⟩⟩
theorem bs_bl {b : Bool} : Bs K S H (.bl b) := ⟨.bool b, .bl b, ⟨0, trivial⟩⟩
theorem bs_non : Bs K S H .non := ⟨.none, .non, ⟨0, trivial⟩⟩
theorem sml_all : ∀ {ds : List PyData}, (∀ d ∈ ds, Sml d) → ∃ n, ∀ d ∈ ds, Sm n d
  | [], _ => ⟨0, fun _ h => nomatch h⟩
  | d :: ds, h => by
    obtain ⟨n, hn⟩ := h d List.mem_cons_self
    obtain ⟨m, hm⟩ := sml_all (ds := ds) fun e he => h e (List.mem_cons_of_mem _ he)
    refine ⟨n + m, fun e he => ?_⟩
    rcases List.mem_cons.mp he with rfl | he
    · exact sm_mono hn (by omega)
    · exact sm_mono (hm e he) (by omega)
theorem bs_all : ∀ {xs : List V}, (∀ x ∈ xs, Bs K S H x) → ∃ ds, DzAll S K H xs ds ∧ ∀ d ∈ ds, Sml d
  | [], _ => ⟨[], .nil, fun _ h => nomatch h⟩
  | x :: xs, h => by
    obtain ⟨d, h1, f1⟩ := h x List.mem_cons_self
    obtain ⟨ds, h2, f2⟩ := bs_all (xs := xs) fun y hy => h y (List.mem_cons_of_mem _ hy)
    exact ⟨d :: ds, .cons h1 h2, fun e he => (List.mem_cons.mp he).elim (fun z => z ▸ f1) (f2 e)⟩
theorem bs_tup {a : Addr} {xs : List V} (h : SqT K H a xs) (ln : xs.length ≤ 100) (e : ∀ x ∈ xs, Bs K S H x) : Bs K S H (.ref a) := by
  obtain ⟨ds, h1, f1⟩ := bs_all e
  obtain ⟨n, hn⟩ := sml_all f1
  exact ⟨.tuple ds, .tup h h1, ⟨n + 1, by rw [← h1.len]; exact ln, hn⟩⟩
theorem bs_lst {a : Addr} {xs : List V} (na : a ∉ S) (h : SqL K H a xs) (e : ∀ x ∈ xs, Bs K S H x) : Bs K S H (.ref a) := by
  obtain ⟨ds, h1, f1⟩ := bs_all e
  obtain ⟨n, hn⟩ := sml_all f1
  exact ⟨.list ds, .lst na h h1, ⟨n + 1, hn⟩⟩
theorem _root_.Wd.Cq.bs {n : Nat} {v : V} (h : Cq K n H v) : Bs K S H v := by
  obtain ⟨d, h, c⟩ := h
  exact ⟨d, cd_tk (Tk.refl H) c h, ⟨n, c.sm⟩⟩
theorem Bs.same {H' : Hp} {v : V} (h : Bs K S H v) (e : Same H H') : Bs K S H' v := by
  obtain ⟨d, h, c⟩ := h
  exact ⟨d, h.same e, c⟩
def LsAt (S : List Addr) (H : Hp) : Prop := ∀ a ∈ S, ∃ zs, H a = some (.lst zs)
theorem nin {p : Addr} (hS : LsAt S H) (n : H p = none) : p ∉ S := fun h => by
  obtain ⟨zs, e⟩ := hS p h
  rw [n] at e
  cases e
theorem LsAt.same {H' : Hp} (hS : LsAt S H) (e : Same H H') : LsAt S H' := fun a h => (hS a h).imp fun zs q => e _ _ q
theorem bt_more {H' : Hp} (e : Bt [l] H H') (lS : l ∈ S) : Bt S H H' := fun b o n q => e b o (by
  intro h
  rw [List.mem_singleton.mp h] at n
  exact n lS) q
theorem Bs.bt {H' : Hp} {v : V} (h : Bs K S H v) (e : Bt S H H') (hl : LsAt S H) : Bs K S H' v := by
  obtain ⟨d, h, c⟩ := h
  exact ⟨d, dz_stay (stay_bt e hl) h, c⟩
def RI (l : Addr) (S : List Addr) : L2.St → Hp → Prop := fun σ H => σ[0]? = some (some (.ref l)) ∧ PoolAt H l ∧ LsAt S H ∧ ∃ i : Int, σ[1]? = some (some (.int i)) ∧ -9999 ≤ i ∧ i ≤ 9999
def RS (l : Addr) (S : List Addr) : L2.St → Hp → Prop := fun σ H => σ[0]? = some (some (.ref l)) ∧ PoolAt H l ∧ LsAt S H ∧ ∃ z, σ[1]? = some (some (.str z)) ∧ okL z ∧ z.length ≤ 9
def RU (K : PySem.W.Frag) (l : Addr) (S : List Addr) (m : Nat) : L2.St → Hp → Prop := fun σ H => σ[0]? = some (some (.ref l)) ∧ PoolAt H l ∧ LsAt S H ∧ ∃ (k : Nat) (a : Addr) (xs : List V), m = k + 1 ∧ σ[1]? = some (some (.ref a)) ∧ SqT K H a xs ∧ 1 ≤ xs.length ∧ xs.length ≤ 7 ∧ ∀ x ∈ xs, Cq K k H x
theorem kpRI : Kp (RI l S) (Bs K S) := ⟨fun _ _ _ e ⟨h0, p, hS, r⟩ => ⟨h0, p.same e, hS.same e, r⟩, fun _ _ _ e h => h.same e⟩
theorem kpRS : Kp (RS l S) (Bs K S) := ⟨fun _ _ _ e ⟨h0, p, hS, r⟩ => ⟨h0, p.same e, hS.same e, r⟩, fun _ _ _ e h => h.same e⟩
theorem kpRU {m : Nat} : Kp (RU K l S m) (Bs K S) := ⟨fun _ _ _ e ⟨h0, p, hS, k, a, xs, em, h1, hs, x1, xl, cx⟩ => ⟨h0, p.same e, hS.same e, k, a, xs, em, h1, (tk_same e).sq hs, x1, xl, fun x hx => (cx x hx).tk (tk_same e)⟩, fun _ _ _ e h => h.same e⟩
theorem cat_tup {a b : Addr} {xs ys : List V} {Q : VK} (ha : SqT K H a xs) (hb : SqT K H b ys) (l : xs.length + ys.length ≤ 100) (q : ∀ p H', Same H H' → SqT K H' p (xs ++ ys) → Q (.ref p) H') : rCatA K (.ref a) (.ref b) H Q :=
  ⟨a, b, xs, ys, rfl, rfl, ha, hb, Nat.le_trans l (by decide), fun e => q b H (Same.refl H) (by rw [e]; exact hb), fun _ e => q a H (Same.refl H) (by rw [e, List.append_nil]; exact ha), fun _ _ p np => q p _ (same_new np) (sqT upd_same)⟩
theorem cut_tup {a : Addr} {xs : List V} {lo hi : Option Int} {Q : VK} (ha : SqT K H a xs) (q : ∀ p H', Same H H' → SqT K H' p (cutV xs lo hi) → Q (.ref p) H') : rSlA K (.ref a) lo hi H Q :=
  ⟨a, xs, rfl, ha, fun ⟨e1, e2⟩ => q a H (Same.refl H) (by unfold cutV; rw [e1, e2]; simpa using ha), fun _ p np => q p _ (same_new np) (sqT upd_same)⟩
theorem cut_tupN {σ : L2.St} {a : Addr} {xs : List V} {lo : Option Int} {Q : VK} (ha : SqT K H a xs) (q : ∀ p H', Same H H' → SqT K H' p (cutV xs lo none) → Q (.ref p) H') : tNoPart σ H fun u H3 => rSlA K (.ref a) lo u H3 Q := cut_tup ha q
def spOdd (K : PySem.W.Frag) : Sp := fun vs H Q _ => ∃ (S : List Addr) (l : Addr) (v : V) (m : Nat), vs = [.ref l, v] ∧ PoolAt H l ∧ l ∈ S ∧ LsAt S H ∧ Cq K m H v ∧ ∀ H' v', Bt [l] H H' → PoolAt H' l → Bs K S H' v' → Q v' H'
theorem ok_odd {f fT : Addr} {fd fdT : FuncData} {k : Nat} (B : Bi mg) (D : Df K mg "_law_odd" sOdd f fd ["_law_pool_here", "_law_thing"]) (DT : Df K mg "_law_take" sTake fT fdT ["_law_pool_here", "_law_many"])
    (GT : FnOk P w K mg base CX0 (k + 1) fT fdT ["_law_pool_here", "_law_many"] spTake) : FnOk P w K mg base CX0 (k + 2) f fd ["_law_pool_here", "_law_thing"] (spOdd K) := by
  refine D.fn.ok scOdd (fun vs H Q E h => ?_) (fun cdv A outer s H vs Q E hr h => ?_)
  · obtain ⟨S, l, v, m, rfl, _⟩ := h
    rfl
  · obtain ⟨S, l, v, m, rfl, pool, lS, hS, cz, q⟩ := h
    refine ⟨_, pss_cons (ps_if (pt_val (pe_callB call_isi (by rfl) B.isi boot_isinstance (pa_cons (pv 1) (pa_cons (pe_bltn (v := .ty "int") (by rfl) B.int boot_int rfl) pa_nil))))
        (pss_cons (ps_set (i := 2) scOdd.nd rfl (.inl rfl) (peB_lst (paB_cons kpRI (PE.wk (t' := tB (RI l S) (Bs K S)) (pe_op op_add (pv 1) pe_int) (by rintro σ H Q ⟨⟨h0, pool, hS, i, h1, i0, i1⟩, q⟩; exact ⟨_, h1, _, _, rfl, rfl, q _ _ (Same.refl H) bs_int⟩))
          (paB_cons kpRI (PE.wk (t' := tB (RI l S) (Bs K S)) (pe_op op_sub (pv 1) pe_int) (by rintro σ H Q ⟨⟨h0, pool, hS, i, h1, i0, i1⟩, q⟩; exact ⟨_, h1, _, _, rfl, rfl, q _ _ (Same.refl H) bs_int⟩))
          (paB_cons kpRI (PE.wk (t' := tB (RI l S) (Bs K S)) pe_int (by rintro σ H Q ⟨⟨h0, pool, hS, i, h1, i0, i1⟩, q⟩; exact q _ _ (Same.refl H) bs_int))
          (paB_cons kpRI (PE.wk (t' := tB (RI l S) (Bs K S)) pe_int (by rintro σ H Q ⟨⟨h0, pool, hS, i, h1, i0, i1⟩, q⟩; exact q _ _ (Same.refl H) bs_int))
          (paB_cons kpRI (PE.wk (t' := tB (RI l S) (Bs K S)) (pe_op op_sub pe_int pe_int) (by rintro σ H Q ⟨⟨h0, pool, hS, i, h1, i0, i1⟩, q⟩; exact ⟨_, _, rfl, rfl, q _ _ (Same.refl H) bs_int⟩))
          (paB_cons kpRI (PE.wk (t' := tB (RI l S) (Bs K S)) (pe_op op_sub pe_int pe_int) (by rintro σ H Q ⟨⟨h0, pool, hS, i, h1, i0, i1⟩, q⟩; exact ⟨_, _, rfl, rfl, q _ _ (Same.refl H) bs_int⟩))
          (paB_cons kpRI (PE.wk (t' := tB (RI l S) (Bs K S)) pe_bl (by rintro σ H Q ⟨⟨h0, pool, hS, i, h1, i0, i1⟩, q⟩; exact q _ _ (Same.refl H) bs_bl))
          (paB_cons kpRI (PE.wk (t' := tB (RI l S) (Bs K S)) pe_bl (by rintro σ H Q ⟨⟨h0, pool, hS, i, h1, i0, i1⟩, q⟩; exact q _ _ (Same.refl H) bs_bl))
          (paB_cons kpRI (PE.wk (t' := tB (RI l S) (Bs K S)) pe_non (by rintro σ H Q ⟨⟨h0, pool, hS, i, h1, i0, i1⟩, q⟩; exact q _ _ (Same.refl H) bs_non))
          (paB_cons kpRI (PE.wk (t' := tB (RI l S) (Bs K S)) (pe_callTy call_str_int (by rfl) B.str boot_str (pa_cons (pv 1) pa_nil)) (by rintro σ H Q ⟨⟨h0, pool, hS, i, h1, i0, i1⟩, q⟩; exact ⟨_, h1, i, rfl, log_day i0 i1, q _ _ (Same.refl H) (bs_str (day_text i0 i1))⟩))
          (paB_cons kpRI (PE.wk (t' := tB (RI l S) (Bs K S)) (pe_tup (pa_cons (pv 1) pa_nil)) (by rintro σ H Q ⟨⟨h0, pool, hS, i, h1, i0, i1⟩, q⟩; exact ⟨_, h1, by show 1 ≤ sizeLine; decide, fun p n => q _ _ (same_new n) (bs_tup (sqT upd_same) (by show 1 ≤ 100; decide) (fun x hx => by rw [List.mem_singleton.mp hx]; exact bs_int))⟩))
          paB_nil))))))))))) (by decide)))
        (pss_one (ps_ret (pe_ix (r := rIxL K) ix_list (pe_op op_cat (pv 2) (peB_lst (paB_cons kpRI (PE.wk (t' := tB (RI l S) (Bs K S)) (pe_lst (pa_cons (pv 1) pa_nil)) (by rintro σ H Q ⟨⟨h0, pool, hS, i, h1, i0, i1⟩, q⟩; exact ⟨_, h1, by show 1 ≤ sizeLine; decide, fun p n => q _ _ (same_new n) (bs_lst (nin hS n) (sqL upd_same) (fun x hx => by rw [List.mem_singleton.mp hx]; exact bs_int))⟩))
          (paB_cons kpRI (PE.wk (t' := tB (RI l S) (Bs K S)) pe_dnewK (by rintro σ H Q ⟨⟨h0, pool, hS, i, h1, i0, i1⟩, q⟩; exact fun p n => q _ _ (same_new n) ⟨.dict [], .nod (nin hS n) upd_same, ⟨1, trivial⟩⟩))
          (paB_cons kpRI (PE.wk (t' := tB (RI l S) (Bs K S)) (pe_tup (pa_cons (pe_lst (pa_cons (pv 1) pa_nil)) pa_nil)) (by rintro σ H Q ⟨⟨h0, pool, hS, i, h1, i0, i1⟩, q⟩; exact ⟨_, h1, by show 1 ≤ sizeLine; decide, fun p1 n1 => ⟨by show 1 ≤ sizeLine; decide, fun p n => q _ _ ((same_new n1).trans (same_new n)) (bs_tup (sqT upd_same) (by show 1 ≤ 100; decide) (fun x hx => by rw [List.mem_singleton.mp hx]; exact bs_lst (nin hS n1) (sqL (same_new n _ _ upd_same)) (fun x hx => by rw [List.mem_singleton.mp hx]; exact bs_int)))⟩⟩))
          (paB_cons kpRI (PE.wk (t' := tB (RI l S) (Bs K S)) pe_int (by rintro σ H Q ⟨⟨h0, pool, hS, i, h1, i0, i1⟩, q⟩; exact q _ _ (Same.refl H) bs_int))
          (paB_cons kpRI (PE.wk (t' := tB (RI l S) (Bs K S)) pe_str (by rintro σ H Q ⟨⟨h0, pool, hS, i, h1, i0, i1⟩, q⟩; exact q _ _ (Same.refl H) (bs_str (by decide))))
          paB_nil))))) (by decide))) (pe_call GT hr (by rfl) DT.mg DT.fn.kp DT.bd .nil pass0 (pa_cons (pv 0) (pa_cons pe_int pa_nil))) (fun _ _ => rfl))))) pss_nil)
      (pss_cons (ps_if (pt_val (pe_callB call_isi (by rfl) B.isi boot_isinstance (pa_cons (pv 1) (pa_cons (pe_bltn (v := .ty "str") (by rfl) B.str boot_str rfl) pa_nil))))
        (pss_cons (ps_set (i := 2) scOdd.nd rfl (.inl rfl) (peB_lst (paB_cons kpRS (PE.wk (t' := tB (RS l S) (Bs K S)) (pe_upper (pv 1)) (by rintro σ H Q ⟨⟨h0, pool, hS, z, h1, zk, zl⟩, q⟩; exact ⟨_, h1, ⟨z, rfl⟩, z, rfl, rfl, by omega, q _ _ (Same.refl H) (bs_str (by have := PyProof.Rows.len_upper z; omega))⟩))
          (paB_cons kpRS (PE.wk (t' := tB (RS l S) (Bs K S)) (pe_op op_add_str (pv 1) pe_str) (by rintro σ H Q ⟨⟨h0, pool, hS, z, h1, zk, zl⟩, q⟩; exact ⟨_, h1, z, _, rfl, rfl, small_len (Nat.le_trans (Nat.add_le_add zl (show _ ≤ 1 by decide)) (by decide)), q _ _ (Same.refl H) (bs_str (by rw [len_app]; exact Nat.le_trans (Nat.add_le_add zl (show _ ≤ 1 by decide)) (by decide)))⟩))
          (paB_cons kpRS (PE.wk (t' := tB (RS l S) (Bs K S)) pe_str (by rintro σ H Q ⟨⟨h0, pool, hS, z, h1, zk, zl⟩, q⟩; exact q _ _ (Same.refl H) (bs_str (by decide))))
          (paB_cons kpRS (PE.wk (t' := tB (RS l S) (Bs K S)) (pe_op op_add_str (pv 1) pe_str) (by rintro σ H Q ⟨⟨h0, pool, hS, z, h1, zk, zl⟩, q⟩; exact ⟨_, h1, z, _, rfl, rfl, small_len (Nat.le_trans (Nat.add_le_add zl (show _ ≤ 1 by decide)) (by decide)), q _ _ (Same.refl H) (bs_str (by rw [len_app]; exact Nat.le_trans (Nat.add_le_add zl (show _ ≤ 1 by decide)) (by decide)))⟩))
          (paB_cons kpRS (PE.wk (t' := tB (RS l S) (Bs K S)) (pe_op op_add_str (pv 1) pe_str) (by rintro σ H Q ⟨⟨h0, pool, hS, z, h1, zk, zl⟩, q⟩; exact ⟨_, h1, z, _, rfl, rfl, small_len (Nat.le_trans (Nat.add_le_add zl (show _ ≤ 1 by decide)) (by decide)), q _ _ (Same.refl H) (bs_str (by rw [len_app]; exact Nat.le_trans (Nat.add_le_add zl (show _ ≤ 1 by decide)) (by decide)))⟩))
          (paB_cons kpRS (PE.wk (t' := tB (RS l S) (Bs K S)) pe_str (by rintro σ H Q ⟨⟨h0, pool, hS, z, h1, zk, zl⟩, q⟩; exact q _ _ (Same.refl H) (bs_str (by decide))))
          (paB_cons kpRS (PE.wk (t' := tB (RS l S) (Bs K S)) pe_str (by rintro σ H Q ⟨⟨h0, pool, hS, z, h1, zk, zl⟩, q⟩; exact q _ _ (Same.refl H) (bs_str (by decide))))
          (paB_cons kpRS (PE.wk (t' := tB (RS l S) (Bs K S)) pe_str (by rintro σ H Q ⟨⟨h0, pool, hS, z, h1, zk, zl⟩, q⟩; exact q _ _ (Same.refl H) (bs_str (by decide))))
          (paB_cons kpRS (PE.wk (t' := tB (RS l S) (Bs K S)) pe_str (by rintro σ H Q ⟨⟨h0, pool, hS, z, h1, zk, zl⟩, q⟩; exact q _ _ (Same.refl H) (bs_str (by decide))))
          (paB_cons kpRS (PE.wk (t' := tB (RS l S) (Bs K S)) pe_str (by rintro σ H Q ⟨⟨h0, pool, hS, z, h1, zk, zl⟩, q⟩; exact q _ _ (Same.refl H) (bs_str (by decide))))
          paB_nil)))))))))) (by decide)))
        (pss_cons (ps_set (i := 2) scOdd.nd rfl (.inl rfl) (pe_op op_cat (pv 2) (peB_lst (paB_cons kpRS (PE.wk (t' := tB (RS l S) (Bs K S)) pe_str (by rintro σ H Q ⟨⟨h0, pool, hS, z, h1, zk, zl⟩, q⟩; exact q _ _ (Same.refl H) (bs_str (by decide))))
          (paB_cons kpRS (PE.wk (t' := tB (RS l S) (Bs K S)) pe_str (by rintro σ H Q ⟨⟨h0, pool, hS, z, h1, zk, zl⟩, q⟩; exact q _ _ (Same.refl H) (bs_str (by decide))))
          (paB_cons kpRS (PE.wk (t' := tB (RS l S) (Bs K S)) pe_str (by rintro σ H Q ⟨⟨h0, pool, hS, z, h1, zk, zl⟩, q⟩; exact q _ _ (Same.refl H) (bs_str (by decide))))
          (paB_cons kpRS (PE.wk (t' := tB (RS l S) (Bs K S)) pe_non (by rintro σ H Q ⟨⟨h0, pool, hS, z, h1, zk, zl⟩, q⟩; exact q _ _ (Same.refl H) bs_non))
          (paB_cons kpRS (PE.wk (t' := tB (RS l S) (Bs K S)) pe_int (by rintro σ H Q ⟨⟨h0, pool, hS, z, h1, zk, zl⟩, q⟩; exact q _ _ (Same.refl H) bs_int))
          (paB_cons kpRS (PE.wk (t' := tB (RS l S) (Bs K S)) pe_bl (by rintro σ H Q ⟨⟨h0, pool, hS, z, h1, zk, zl⟩, q⟩; exact q _ _ (Same.refl H) bs_bl))
          (paB_cons kpRS (PE.wk (t' := tB (RS l S) (Bs K S)) (pe_tup (pa_cons (pv 1) pa_nil)) (by rintro σ H Q ⟨⟨h0, pool, hS, z, h1, zk, zl⟩, q⟩; exact ⟨_, h1, by show 1 ≤ sizeLine; decide, fun p n => q _ _ (same_new n) (bs_tup (sqT upd_same) (by show 1 ≤ 100; decide) (fun x hx => by rw [List.mem_singleton.mp hx]; exact (bs_str (by omega))))⟩))
          (paB_cons kpRS (PE.wk (t' := tB (RS l S) (Bs K S)) (pe_lst (pa_cons (pv 1) pa_nil)) (by rintro σ H Q ⟨⟨h0, pool, hS, z, h1, zk, zl⟩, q⟩; exact ⟨_, h1, by show 1 ≤ sizeLine; decide, fun p n => q _ _ (same_new n) (bs_lst (nin hS n) (sqL upd_same) (fun x hx => by rw [List.mem_singleton.mp hx]; exact (bs_str (by omega))))⟩))
          (paB_cons kpRS (PE.wk (t' := tB (RS l S) (Bs K S)) pe_dnewK (by rintro σ H Q ⟨⟨h0, pool, hS, z, h1, zk, zl⟩, q⟩; exact fun p n => q _ _ (same_new n) ⟨.dict [], .nod (nin hS n) upd_same, ⟨1, trivial⟩⟩))
          (paB_cons kpRS (PE.wk (t' := tB (RS l S) (Bs K S)) (pe_tup (pa_cons (pe_lst (pa_cons (pv 1) pa_nil)) pa_nil)) (by rintro σ H Q ⟨⟨h0, pool, hS, z, h1, zk, zl⟩, q⟩; exact ⟨_, h1, by show 1 ≤ sizeLine; decide, fun p1 n1 => ⟨by show 1 ≤ sizeLine; decide, fun p n => q _ _ ((same_new n1).trans (same_new n)) (bs_tup (sqT upd_same) (by show 1 ≤ 100; decide) (fun x hx => by rw [List.mem_singleton.mp hx]; exact bs_lst (nin hS n1) (sqL (same_new n _ _ upd_same)) (fun x hx => by rw [List.mem_singleton.mp hx]; exact (bs_str (by omega)))))⟩⟩))
          paB_nil)))))))))) (by decide))))
        (pss_one (ps_ret (pe_ix (r := rIxL K) ix_list (pe_op op_cat (pv 2) (peB_lst (paB_cons kpRS (PE.wk (t' := tB (RS l S) (Bs K S)) pe_str (by rintro σ H Q ⟨⟨h0, pool, hS, z, h1, zk, zl⟩, q⟩; exact q _ _ (Same.refl H) (bs_str (by decide))))
          (paB_cons kpRS (PE.wk (t' := tB (RS l S) (Bs K S)) pe_str (by rintro σ H Q ⟨⟨h0, pool, hS, z, h1, zk, zl⟩, q⟩; exact q _ _ (Same.refl H) (bs_str (by decide))))
          (paB_cons kpRS (PE.wk (t' := tB (RS l S) (Bs K S)) pe_str (by rintro σ H Q ⟨⟨h0, pool, hS, z, h1, zk, zl⟩, q⟩; exact q _ _ (Same.refl H) (bs_str (by decide))))
          (paB_cons kpRS (PE.wk (t' := tB (RS l S) (Bs K S)) pe_str (by rintro σ H Q ⟨⟨h0, pool, hS, z, h1, zk, zl⟩, q⟩; exact q _ _ (Same.refl H) (bs_str (by decide))))
          paB_nil)))) (by decide))) (pe_call GT hr (by rfl) DT.mg DT.fn.kp DT.bd .nil pass0 (pa_cons (pv 0) (pa_cons pe_int pa_nil))) (fun _ _ => rfl)))))) pss_nil)
      (pss_cons (ps_set (i := 2) scOdd.nd rfl (.inl rfl) (peB_lst (paB_cons kpRU (PE.wk (t' := tB (RU K l S m) (Bs K S)) (pe_callTy call_list_of (by rfl) B.list boot_list (pa_cons (pv 1) pa_nil)) (by rintro σ H Q ⟨⟨h0, pool, hS, k, a, xs, em, h1, hs, x1, xl, cx⟩, q⟩; exact ⟨_, h1, a, xs, rfl, .inr hs, fun p n => q _ _ (same_new n) (bs_lst (nin hS n) (sqL upd_same) (fun x hx => ((cx x hx).tk (tk_new n)).bs))⟩))
          (paB_cons kpRU (PE.wk (t' := tB (RU K l S m) (Bs K S)) (pe_op op_catA (pv 1) (pe_tup (pa_cons pe_int pa_nil))) (by rintro σ H Q ⟨⟨h0, pool, hS, k, a, xs, em, h1, hs, x1, xl, cx⟩, q⟩; exact ⟨_, h1, by show 1 ≤ sizeLine; decide, fun t nt => cat_tup ((tk_new nt).sq hs) (sqT upd_same) (by show xs.length + 1 ≤ 100; omega) (fun p H' s sq => q _ _ ((same_new nt).trans s) (bs_tup sq (by rw [List.length_append]; show xs.length + 1 ≤ 100; omega) (fun x hx => (List.mem_append.mp hx).elim (fun h => (((cx x h).tk (tk_new nt)).tk (tk_same s)).bs) (fun h => by rw [List.mem_singleton.mp h]; exact bs_int))))⟩))
          (paB_cons kpRU (PE.wk (t' := tB (RU K l S m) (Bs K S)) (pe_slice sl_tupA (pv 1) po_none (po_some pe_int)) (by rintro σ H Q ⟨⟨h0, pool, hS, k, a, xs, em, h1, hs, x1, xl, cx⟩, q⟩; exact ⟨_, h1, 1, rfl, cut_tup hs (fun p H' s sq => q _ _ s (bs_tup sq (by have := cutV_length xs none (some 1); omega) (fun x hx => ((cx x (cut_mem hx)).tk (tk_same s)).bs)))⟩))
          (paB_cons kpRU (PE.wk (t' := tB (RU K l S m) (Bs K S)) (pe_tup pa_nil) (by rintro σ H Q ⟨⟨h0, pool, hS, k, a, xs, em, h1, hs, x1, xl, cx⟩, q⟩; exact ⟨by show 0 ≤ sizeLine; decide, fun p n => q _ _ (same_new n) (bs_tup (sqT upd_same) (by show 0 ≤ 100; decide) (fun x hx => nomatch hx))⟩))
          (paB_cons kpRU (PE.wk (t' := tB (RU K l S m) (Bs K S)) (pe_lst pa_nil) (by rintro σ H Q ⟨⟨h0, pool, hS, k, a, xs, em, h1, hs, x1, xl, cx⟩, q⟩; exact ⟨by show 0 ≤ sizeLine; decide, fun p n => q _ _ (same_new n) (bs_lst (nin hS n) (sqL upd_same) (fun x hx => nomatch hx))⟩))
          (paB_cons kpRU (PE.wk (t' := tB (RU K l S m) (Bs K S)) pe_non (by rintro σ H Q ⟨⟨h0, pool, hS, k, a, xs, em, h1, hs, x1, xl, cx⟩, q⟩; exact q _ _ (Same.refl H) bs_non))
          (paB_cons kpRU (PE.wk (t' := tB (RU K l S m) (Bs K S)) pe_int (by rintro σ H Q ⟨⟨h0, pool, hS, k, a, xs, em, h1, hs, x1, xl, cx⟩, q⟩; exact q _ _ (Same.refl H) bs_int))
          (paB_cons kpRU (PE.wk (t' := tB (RU K l S m) (Bs K S)) pe_str (by rintro σ H Q ⟨⟨h0, pool, hS, k, a, xs, em, h1, hs, x1, xl, cx⟩, q⟩; exact q _ _ (Same.refl H) (bs_str (by decide))))
          (paB_cons kpRU (PE.wk (t' := tB (RU K l S m) (Bs K S)) pe_dnewK (by rintro σ H Q ⟨⟨h0, pool, hS, k, a, xs, em, h1, hs, x1, xl, cx⟩, q⟩; exact fun p n => q _ _ (same_new n) ⟨.dict [], .nod (nin hS n) upd_same, ⟨1, trivial⟩⟩))
          (paB_cons kpRU (PE.wk (t' := tB (RU K l S m) (Bs K S)) (pe_revT (pv 1)) (by rintro σ H Q ⟨⟨h0, pool, hS, k, a, xs, em, h1, hs, x1, xl, cx⟩, q⟩; exact ⟨_, h1, a, xs, rfl, hs, fun p n => q _ _ (same_new n) (bs_tup (sqT upd_same) (by rw [List.length_reverse]; omega) (fun x hx => ((cx x (List.mem_reverse.mp hx)).tk (tk_new n)).bs))⟩))
          (paB_cons kpRU (PE.wk (t' := tB (RU K l S m) (Bs K S)) (pe_tup (pa_cons (pv 1) pa_nil)) (by rintro σ H Q ⟨⟨h0, pool, hS, k, a, xs, em, h1, hs, x1, xl, cx⟩, q⟩; exact ⟨_, h1, by show 1 ≤ sizeLine; decide, fun p n => q _ _ (same_new n) (bs_tup (sqT upd_same) (by show 1 ≤ 100; decide) (fun x hx => by rw [List.mem_singleton.mp hx]; exact bs_tup ((tk_new n).sq hs) (by omega) (fun x hx => ((cx x hx).tk (tk_new n)).bs)))⟩))
          (paB_cons kpRU (PE.wk (t' := tB (RU K l S m) (Bs K S)) pe_bl (by rintro σ H Q ⟨⟨h0, pool, hS, k, a, xs, em, h1, hs, x1, xl, cx⟩, q⟩; exact q _ _ (Same.refl H) bs_bl))
          paB_nil)))))))))))) (by decide)))
      (pss_one (ps_ret (pe_ix (r := rIxL K) ix_list (pe_op op_cat (pv 2) (peB_lst (paB_cons kpRU (PE.wk (t' := tB (RU K l S m) (Bs K S)) (pe_op op_catA (pv 1) (pe_slice sl_tupA (pv 1) (po_some (pe_un un_neg pe_int)) po_none)) (by rintro σ H Q ⟨⟨h0, pool, hS, k, a, xs, em, h1, hs, x1, xl, cx⟩, q⟩; exact ⟨_, h1, _, h1, 1, rfl, -1, rfl, cut_tupN hs (fun p H' s sq => cat_tup ((tk_same s).sq hs) sq (by have := cutV_length xs (some (-1)) none; omega) (fun p2 H2 s2 sq2 => q _ _ (s.trans s2) (bs_tup sq2 (by rw [List.length_append]; have := cutV_length xs (some (-1)) none; omega) (fun x hx => (((cx x ((List.mem_append.mp hx).elim id cut_mem)).tk (tk_same s)).tk (tk_same s2)).bs))))⟩))
          paB_nil) (by decide))) (pe_call GT hr (by rfl) DT.mg DT.fn.kp DT.bd .nil pass0 (pa_cons (pv 0) (pa_cons pe_int pa_nil))) (fun _ _ => rfl)))))), ?_⟩
    rcases cq_cases cz with ⟨z, rfl, zk, zl⟩ | ⟨i, rfl, i0, i1⟩ | ⟨j, a, zs, rfl, rfl, hs, z1, xl, cx⟩
    · refine ⟨_, rfl, _, .ty "int", .type "str", .type "int", false, rfl, .ty _, .base (.str z), kit_ty (by decide +kernel), false, rfl, iteF ?_⟩
      refine ⟨_, rfl, _, .ty "str", .type "str", .type "str", true, rfl, .ty _, .base (.str z), kit_ty (by decide +kernel), true, rfl, iteT ?_⟩
      refine ⟨⟨rfl, pool, hS, z, rfl, zk, zl⟩, fun p1 xs1 H1 s1 n1 x1 a1 => ?_⟩
      have pl1 := (pool.same s1).upd (o := .lst xs1) ((pool.same s1).ne n1)
      have l1 : (upd H1 p1 (.lst xs1)) p1 = some (.lst xs1) := upd_same
      have t1 : Same H (upd H1 p1 (.lst xs1)) := s1.trans (same_new n1)
      have b1 : ∀ x ∈ xs1, Bs K S (upd H1 p1 (.lst xs1)) x := fun x hx => (a1 x hx).same (same_new n1)
      revert pl1 l1 t1 b1
      generalize upd H1 p1 (.lst xs1) = G1
      clear a1 n1 s1
      intro pl1 l1 t1 b1
      refine ⟨_, rfl, ⟨rfl, pl1, hS.same t1, z, rfl, zk, zl⟩, fun r2 ys2 H2 s2 n2 y2 c2 => ?_⟩
      refine ⟨p1, r2, xs1, ys2, rfl, rfl, same_new n2 _ _ (s2 _ _ l1), upd_same, by rw [x1, y2]; decide, fun p2 m2 => ?_⟩
      have sA : Same G1 (upd (upd H2 r2 (.lst ys2)) p2 (.lst (xs1 ++ ys2))) := s2.trans ((same_new n2).trans (same_new m2))
      have sB : Same H2 (upd (upd H2 r2 (.lst ys2)) p2 (.lst (xs1 ++ ys2))) := (same_new n2).trans (same_new m2)
      have l2 : (upd (upd H2 r2 (.lst ys2)) p2 (.lst (xs1 ++ ys2))) p2 = some (.lst (xs1 ++ ys2)) := upd_same
      have b2 : ∀ x ∈ xs1 ++ ys2, Bs K S (upd (upd H2 r2 (.lst ys2)) p2 (.lst (xs1 ++ ys2))) x := fun x hx => (List.mem_append.mp hx).elim (fun h => (b1 x h).same sA) (fun h => (c2 x h).same sB)
      have x2 := (List.length_append (as := xs1) (bs := ys2)).trans (congr (congrArg HAdd.hAdd x1) y2)
      have t2 := t1.trans sA
      have pl2 := pl1.same sA
      clear sB n2 m2 y2 c2 s2
      revert sA l2 b2 x2 t2 pl2
      generalize upd (upd H2 r2 (.lst ys2)) p2 (.lst (xs1 ++ ys2)) = G2
      generalize xs1 ++ ys2 = xs2
      intro sA l2 b2 x2 t2 pl2
      clear sA
      refine ⟨_, rfl, ⟨rfl, pl2, hS.same t2, z, rfl, zk, zl⟩, fun r3 ys3 H3 s3 n3 y3 c3 => ?_⟩
      refine ⟨p2, r3, xs2, ys3, rfl, rfl, same_new n3 _ _ (s3 _ _ l2), upd_same, by rw [x2, y3]; decide, fun p3 m3 => ?_⟩
      have sA : Same G2 (upd (upd H3 r3 (.lst ys3)) p3 (.lst (xs2 ++ ys3))) := s3.trans ((same_new n3).trans (same_new m3))
      have sB : Same H3 (upd (upd H3 r3 (.lst ys3)) p3 (.lst (xs2 ++ ys3))) := (same_new n3).trans (same_new m3)
      have l3 : (upd (upd H3 r3 (.lst ys3)) p3 (.lst (xs2 ++ ys3))) p3 = some (.lst (xs2 ++ ys3)) := upd_same
      have b3 : ∀ x ∈ xs2 ++ ys3, Bs K S (upd (upd H3 r3 (.lst ys3)) p3 (.lst (xs2 ++ ys3))) x := fun x hx => (List.mem_append.mp hx).elim (fun h => (b2 x h).same sA) (fun h => (c3 x h).same sB)
      have x3 := (List.length_append (as := xs2) (bs := ys3)).trans (congr (congrArg HAdd.hAdd x2) y3)
      have t3 := t2.trans sA
      have pl3 := pl2.same sA
      clear sB n3 m3 y3 c3 s3
      revert sA l3 b3 x3 t3 pl3
      generalize upd (upd H3 r3 (.lst ys3)) p3 (.lst (xs2 ++ ys3)) = G3
      generalize xs2 ++ ys3 = xs3
      intro sA l3 b3 x3 t3 pl3
      clear sA
      have np : p3 ≠ l := lst_ne pl3 l3 (by rw [x3]; decide)
      refine ⟨_, rfl, l, 24, rfl, pl3, by decide, fun H9 d9 b9 pool9 d90 d91 => ?_⟩
      obtain ⟨v9, e9, c9⟩ := at_of (P := Bs K S G3) (xs := xs3) (d := d9) b3 d90 (by rw [x3]; omega)
      exact ⟨p3, _, d9, v9, rfl, rfl, sqL (kept b9 l3 (by simp [np])), e9, q H9 v9 ((Bt.of_same t3).trans b9) pool9 (c9.bt (bt_more b9 lS) (hS.same t3))⟩
    · refine ⟨_, rfl, _, .ty "int", .type "int", .type "int", true, rfl, .ty _, .base (.int i), kit_ty (by decide +kernel), true, rfl, iteT ?_⟩
      refine ⟨⟨rfl, pool, hS, i, rfl, i0, i1⟩, fun p1 xs1 H1 s1 n1 x1 a1 => ?_⟩
      have pl1 := (pool.same s1).upd (o := .lst xs1) ((pool.same s1).ne n1)
      have l1 : (upd H1 p1 (.lst xs1)) p1 = some (.lst xs1) := upd_same
      have t1 : Same H (upd H1 p1 (.lst xs1)) := s1.trans (same_new n1)
      have b1 : ∀ x ∈ xs1, Bs K S (upd H1 p1 (.lst xs1)) x := fun x hx => (a1 x hx).same (same_new n1)
      revert pl1 l1 t1 b1
      generalize upd H1 p1 (.lst xs1) = G1
      clear a1 n1 s1
      intro pl1 l1 t1 b1
      refine ⟨_, rfl, ⟨rfl, pl1, hS.same t1, i, rfl, i0, i1⟩, fun r2 ys2 H2 s2 n2 y2 c2 => ?_⟩
      refine ⟨p1, r2, xs1, ys2, rfl, rfl, same_new n2 _ _ (s2 _ _ l1), upd_same, by rw [x1, y2]; decide, fun p2 m2 => ?_⟩
      have sA : Same G1 (upd (upd H2 r2 (.lst ys2)) p2 (.lst (xs1 ++ ys2))) := s2.trans ((same_new n2).trans (same_new m2))
      have sB : Same H2 (upd (upd H2 r2 (.lst ys2)) p2 (.lst (xs1 ++ ys2))) := (same_new n2).trans (same_new m2)
      have l2 : (upd (upd H2 r2 (.lst ys2)) p2 (.lst (xs1 ++ ys2))) p2 = some (.lst (xs1 ++ ys2)) := upd_same
      have b2 : ∀ x ∈ xs1 ++ ys2, Bs K S (upd (upd H2 r2 (.lst ys2)) p2 (.lst (xs1 ++ ys2))) x := fun x hx => (List.mem_append.mp hx).elim (fun h => (b1 x h).same sA) (fun h => (c2 x h).same sB)
      have x2 := (List.length_append (as := xs1) (bs := ys2)).trans (congr (congrArg HAdd.hAdd x1) y2)
      have t2 := t1.trans sA
      have pl2 := pl1.same sA
      clear sB n2 m2 y2 c2 s2
      revert sA l2 b2 x2 t2 pl2
      generalize upd (upd H2 r2 (.lst ys2)) p2 (.lst (xs1 ++ ys2)) = G2
      generalize xs1 ++ ys2 = xs2
      intro sA l2 b2 x2 t2 pl2
      clear sA
      have np : p2 ≠ l := lst_ne pl2 l2 (by rw [x2]; decide)
      refine ⟨_, rfl, l, 16, rfl, pl2, by decide, fun H9 d9 b9 pool9 d90 d91 => ?_⟩
      obtain ⟨v9, e9, c9⟩ := at_of (P := Bs K S G2) (xs := xs2) (d := d9) b2 d90 (by rw [x2]; omega)
      exact ⟨p2, _, d9, v9, rfl, rfl, sqL (kept b9 l2 (by simp [np])), e9, q H9 v9 ((Bt.of_same t2).trans b9) pool9 (c9.bt (bt_more b9 lS) (hS.same t2))⟩
    · refine ⟨_, rfl, _, .ty "int", .type "tuple", .type "int", false, rfl, .ty _, tyT hs, kit_ty (by decide +kernel), false, rfl, iteF ?_⟩
      refine ⟨_, rfl, _, .ty "str", .type "tuple", .type "str", false, rfl, .ty _, tyT hs, kit_ty (by decide +kernel), false, rfl, iteF ?_⟩
      refine ⟨⟨rfl, pool, hS, j, a, zs, rfl, rfl, hs, z1, xl, cx⟩, fun p1 xs1 H1 s1 n1 x1 a1 => ?_⟩
      have pl1 := (pool.same s1).upd (o := .lst xs1) ((pool.same s1).ne n1)
      have l1 : (upd H1 p1 (.lst xs1)) p1 = some (.lst xs1) := upd_same
      have t1 : Same H (upd H1 p1 (.lst xs1)) := s1.trans (same_new n1)
      have b1 : ∀ x ∈ xs1, Bs K S (upd H1 p1 (.lst xs1)) x := fun x hx => (a1 x hx).same (same_new n1)
      revert pl1 l1 t1 b1
      generalize upd H1 p1 (.lst xs1) = G1
      clear a1 n1 s1
      intro pl1 l1 t1 b1
      refine ⟨_, rfl, ⟨rfl, pl1, hS.same t1, j, a, zs, rfl, rfl, (tk_same t1).sq hs, z1, xl, fun x hx => (cx x hx).tk (tk_same t1)⟩, fun r2 ys2 H2 s2 n2 y2 c2 => ?_⟩
      refine ⟨p1, r2, xs1, ys2, rfl, rfl, same_new n2 _ _ (s2 _ _ l1), upd_same, by rw [x1, y2]; decide, fun p2 m2 => ?_⟩
      have sA : Same G1 (upd (upd H2 r2 (.lst ys2)) p2 (.lst (xs1 ++ ys2))) := s2.trans ((same_new n2).trans (same_new m2))
      have sB : Same H2 (upd (upd H2 r2 (.lst ys2)) p2 (.lst (xs1 ++ ys2))) := (same_new n2).trans (same_new m2)
      have l2 : (upd (upd H2 r2 (.lst ys2)) p2 (.lst (xs1 ++ ys2))) p2 = some (.lst (xs1 ++ ys2)) := upd_same
      have b2 : ∀ x ∈ xs1 ++ ys2, Bs K S (upd (upd H2 r2 (.lst ys2)) p2 (.lst (xs1 ++ ys2))) x := fun x hx => (List.mem_append.mp hx).elim (fun h => (b1 x h).same sA) (fun h => (c2 x h).same sB)
      have x2 := (List.length_append (as := xs1) (bs := ys2)).trans (congr (congrArg HAdd.hAdd x1) y2)
      have t2 := t1.trans sA
      have pl2 := pl1.same sA
      clear sB n2 m2 y2 c2 s2
      revert sA l2 b2 x2 t2 pl2
      generalize upd (upd H2 r2 (.lst ys2)) p2 (.lst (xs1 ++ ys2)) = G2
      generalize xs1 ++ ys2 = xs2
      intro sA l2 b2 x2 t2 pl2
      clear sA
      have np : p2 ≠ l := lst_ne pl2 l2 (by rw [x2]; decide)
      refine ⟨_, rfl, l, 13, rfl, pl2, by decide, fun H9 d9 b9 pool9 d90 d91 => ?_⟩
      obtain ⟨v9, e9, c9⟩ := at_of (P := Bs K S G2) (xs := xs2) (d := d9) b2 d90 (by rw [x2]; omega)
      exact ⟨p2, _, d9, v9, rfl, rfl, sqL (kept b9 l2 (by simp [np])), e9, q H9 v9 ((Bt.of_same t2).trans b9) pool9 (c9.bt (bt_more b9 lS) (hS.same t2))⟩
end
end WdQ

set_option Elab.async false
set_option linter.all false
set_option maxRecDepth 100000
set_option maxHeartbeats 4000000
set_option exponentiation.threshold 5000
namespace WdQ
open PySem PySem.Spec PyProof.Rows L2 WdM Wd
abbrev sBent : Stmt := topS 83
theorem scBent : FnScope ["_law_pool_here", "_law_thing", "_law_at", "_law_way"] ["_law_pool_here", "_law_thing"] (defScope sBent) := ⟨rfl, rfl, rfl, by decide +kernel, rfl, by decide +kernel, by decide +kernel⟩
section
variable {P : Program} {w : World} {K : PySem.W.Frag} {mg : Str → Option Value} {base : Heap}
def spBent (K : PySem.W.Frag) (n : Nat) : Sp := fun vs H Q _ => ∃ (S : List Addr) (l : Addr) (v : V) (m : Nat), vs = [.ref l, v] ∧ PoolAt H l ∧ l ∈ S ∧ LsAt S H ∧ Cq K m H v ∧ m < n ∧ ∀ H' v', Bt [l] H H' → PoolAt H' l → LsAt S H' → Bs K S H' v' → Q v' H'
theorem bent_step {f fO fT : Addr} {fd fdO fdT : FuncData} {k n : Nat} (B : Bi mg) (D : Df K mg "_law_bent" sBent f fd ["_law_pool_here", "_law_thing"]) (DO : Df K mg "_law_odd" sOdd fO fdO ["_law_pool_here", "_law_thing"]) (DT : Df K mg "_law_take" sTake fT fdT ["_law_pool_here", "_law_many"])
    (GT : FnOk P w K mg base CX0 (k + 1) fT fdT ["_law_pool_here", "_law_many"] spTake) (GO : FnOk P w K mg base CX0 (k + 2) fO fdO ["_law_pool_here", "_law_thing"] (spOdd K)) (GB : FnOk P w K mg base CX0 (k + 2 + n) f fd ["_law_pool_here", "_law_thing"] (spBent K n)) : FnOk P w K mg base CX0 (k + 3 + n) f fd ["_law_pool_here", "_law_thing"] (spBent K (n + 1)) := by
  have e : k + 3 + n = (k + 2 + n) + 1 := by omega
  rw [e]
  refine D.fn.ok scBent (fun vs H Q E h => ?_) (fun cdv A outer s H vs Q E hr h => ?_)
  · obtain ⟨S, l, v, m, rfl, _⟩ := h
    rfl
  · obtain ⟨S, l, v, m, rfl, pool, lS, hS, cz, mn, q⟩ := h
    have lk : ∀ H', Bt [l] H H' → PoolAt H' l → LsAt S H' := fun H' b p a ha => by
      by_cases e : a = l
      · rw [e]; exact p.lst l (by simp)
      · obtain ⟨zs, h⟩ := hS a ha; exact ⟨zs, kept b h (by simp [e])⟩
    have hu := hr.units
    have r1 : Room (k + 1) _ := hr.mono (by omega)
    have r2 : Room (k + 2) _ := hr.mono (by omega)
    refine ⟨_, pss_cons (ps_if (PW.pt (pw_or (pt_not (pt_val (pe_callB call_isi (by rfl) B.isi boot_isinstance (pa_cons (pv 1) (pa_cons (pe_bltn (v := .ty "tuple") (by rfl) B.tuple boot_tuple rfl) pa_nil)))))
          (pw_or (pt_cmpR (op_eqNil hu) (pv 1) (pe_tup pa_nil) (nomark _))
          (pw_or1 (pt_cmpR op_eq (pe_call GT r1 (by rfl) DT.mg DT.fn.kp DT.bd .nil pass0 (pa_cons (pv 0) (pa_cons pe_int pa_nil))) pe_int (nomark _))))))
          (pss_one (ps_ret (pe_call GO r2 (by rfl) DO.mg DO.fn.kp DO.bd .nil pass0 (pa_cons (pv 0) (pa_cons (pv 1) pa_nil))))) pss_nil)
      (pss_cons (ps_par (i := 2) (j := 3) rfl scBent.nd rfl rfl (by decide) rfl rfl (pa_cons (pe_call GT r1 (by rfl) DT.mg DT.fn.kp DT.bd .nil pass0 (pa_cons (pv 0) (pa_cons (pe_callB call_len_seq (by rfl) B.len PySem.boot_len (pa_cons (pv 1) pa_nil)) pa_nil))) (pa_cons (pe_call GT r1 (by rfl) DT.mg DT.fn.kp DT.bd .nil pass0 (pa_cons (pv 0) (pa_cons pe_int pa_nil))) pa_nil)) (by rfl))
      (pss_cons (ps_if (pt_cmpR op_eq (pv 3) pe_int (nomark _)) (pss_one (ps_ret (pe_op op_catA (pe_slice sl_tupA (pv 1) po_none (po_some (pv 2))) (pe_slice sl_tupA (pv 1) (po_some (pe_op op_add (pv 2) pe_int)) po_none)))) pss_nil)
      (pss_cons (ps_if (pt_cmpR op_eq (pv 3) pe_int (nomark _)) (pss_one (ps_ret (pe_op op_catA (pe_slice sl_tupA (pv 1) po_none (po_some (pe_op op_add (pv 2) pe_int))) (pe_slice sl_tupA (pv 1) (po_some (pv 2)) po_none)))) pss_nil)
      (pss_one (ps_ret (pe_op op_catA (pe_op op_catA (pe_slice sl_tupA (pv 1) po_none (po_some (pv 2))) (pe_tup (pa_cons (pe_call GB hr (by rfl) D.mg D.fn.kp D.bd .nil pass0 (pa_cons (pv 0) (pa_cons (pe_ix (r := rIxT K) ix_tup (pv 1) (pv 2) (fun _ _ => rfl)) pa_nil))) pa_nil))) (pe_slice sl_tupA (pv 1) (po_some (pe_op op_add (pv 2) pe_int)) po_none))))))), ?_⟩
    have odd : ∀ H1, Bt [l] H H1 → PoolAt H1 l → Cq K m H1 v → spOdd K [.ref l, v] H1 Q E0 := fun H1 b1 pool1 cz1 => ⟨S, l, v, m, rfl, pool1, lS, lk H1 b1 pool1, cz1, fun H' v' b p h => q H' v' (b1.trans b) p (lk H' (b1.trans b) p) h⟩
    rcases cq_cases cz with ⟨z, rfl, zk, zl⟩ | ⟨i, rfl, i0, i1⟩ | ⟨j, a, xs, rfl, rfl, hs, x1, xl, cx⟩
    · exact ⟨_, rfl, _, .ty "tuple", .type "str", .type "tuple", false, rfl, .ty _, .base (.str z), kit_ty (by decide +kernel), false, rfl, iteT (iteT ⟨_, rfl, _, rfl, odd H (Bt.refl H) pool cz⟩)⟩
    · exact ⟨_, rfl, _, .ty "tuple", .type "int", .type "tuple", false, rfl, .ty _, .base (.int i), kit_ty (by decide +kernel), false, rfl, iteT (iteT ⟨_, rfl, _, rfl, odd H (Bt.refl H) pool cz⟩)⟩
    refine ⟨_, rfl, _, .ty "tuple", .type "tuple", .type "tuple", true, rfl, .ty _, tyT hs, kit_ty (by decide +kernel), true, rfl, iteF ?_⟩
    refine ⟨_, rfl, by show 0 ≤ sizeLine; decide, fun t0 nt0 => ?_⟩
    have s0 : Same H (upd H t0 (.tup [])) := same_new nt0
    have g0 : (upd H t0 (.tup [])) t0 = some (.tup []) := upd_same
    revert s0 g0
    generalize upd H t0 (.tup []) = H0
    intro s0 g0
    have pool0 := pool.same s0
    have cz0 := cz.tk (tk_same s0)
    refine ⟨a, t0, xs, rfl, rfl, (tk_same s0).sq hs, sqT g0, _, rfl, ?_⟩
    rw [show decide (xs = []) = false from decide_eq_false (fun e => by rw [e] at x1; exact absurd x1 (by decide))]
    refine iteF ⟨_, rfl, l, 6, rfl, pool0, by decide, fun H1 d1 b1 pool1 d10 d11 => ⟨rfl, _, rfl, ?_⟩⟩
    have bt1 : Bt [l] H H1 := (Bt.of_same s0).trans b1
    have cz1 := cz0.tk (b1.tk pool0.lst)
    by_cases z1 : d1 = 0
    · subst z1
      exact iteT ⟨_, rfl, _, rfl, odd H1 bt1 pool1 cz1⟩
    rw [show decide (V.int d1 = V.int 0) = false by simp [z1]]
    have tk1 : Tk H H1 := bt1.tk pool.lst
    have hs1 := tk1.sq hs
    refine iteF ⟨_, rfl, _, rfl, a, _, rfl, .inr hs1, l, _, rfl, pool1, by omega, fun H2 d2 b2 pool2 d20 d21 => ⟨_, rfl, l, 9, rfl, pool2, by decide, fun H3 d3 b3 pool3 d30 d31 => ⟨_, _, rfl, ?_⟩⟩⟩
    have bt3 : Bt [l] H H3 := bt1.trans (b2.trans b3)
    have tk3 : Tk H H3 := bt3.tk pool.lst
    have hs3 := tk3.sq hs
    have cx3 : ∀ x ∈ xs, Cq K j H3 x := fun x hx => (cx x hx).tk tk3
    obtain ⟨i, rfl⟩ := Int.eq_ofNat_of_zero_le d20
    have ix : i < xs.length := by omega
    have fr : ∀ (t : Nat) (z : Int), z = t → t ≤ xs.length → ∀ (p : Addr) (H' : Hp), SqT K H' p (cutV xs none (some z)) → SqT K H' p (xs.take t) := fun t z ez ht p H' h => by rw [ez, cut_front ht] at h; exact h
    have bk : ∀ (t : Nat) (z : Int), z = t → t ≤ xs.length → ∀ (p : Addr) (H' : Hp), SqT K H' p (cutV xs (some z) none) → SqT K H' p (xs.drop t) := fun t z ez ht p H' h => by rw [ez, cut_back ht] at h; exact h
    have sc : ((i : Int) + 1) = ((i + 1 : Nat) : Int) := by omega
    clear b1 b2 b3 bt1 tk1 hs1 cz1 pool1 pool2 cz0 pool0 g0 s0 hs cx
    refine ⟨_, rfl, rfl, _, rfl, ?_⟩
    have good : ∀ (H' : Hp) (p : Addr) (ys : List V), Same H3 H' → SqT K H' p ys → ys.length ≤ 8 → (∀ y ∈ ys, y ∈ xs) → Q (.ref p) H' := fun H' p ys s sq yl ym => q H' _ (bt3.trans (.of_same s)) (pool3.same s) (lk H' (bt3.trans (.of_same s)) (pool3.same s)) (bs_tup sq (by omega) (fun y hy => ((cx3 y (ym y hy)).tk (tk_same s)).bs))
    by_cases w0 : d3 = 0
    · subst w0
      refine iteT ⟨_, rfl, _, rfl, (i : Int), rfl, cut_tup hs3 (fun p1 H4 s4 sq4 => ?_)⟩
      have sq4 := fr i _ rfl (by omega) _ _ sq4
      refine ⟨_, rfl, _, rfl, (i : Int), 1, rfl, rfl, (i : Int) + 1, rfl, cut_tupN ((tk_same s4).sq hs3) (fun p2 H5 s5 sq5 => ?_)⟩
      have sq5 := bk (i + 1) _ sc (by omega) _ _ sq5
      refine cat_tup ((tk_same s5).sq sq4) sq5 (by rw [List.length_take, List.length_drop]; omega) (fun p H6 s6 sq6 => good H6 p _ (s4.trans (s5.trans s6)) sq6 (by rw [List.length_append, List.length_take, List.length_drop]; omega) (fun y hy => (List.mem_append.mp hy).elim List.mem_of_mem_take List.mem_of_mem_drop))
    rw [show decide (V.int d3 = V.int 0) = false by simp [w0]]
    refine iteF ⟨_, rfl, rfl, _, rfl, ?_⟩
    by_cases w1 : d3 = 1
    · subst w1
      refine iteT ⟨_, rfl, _, rfl, (i : Int), 1, rfl, rfl, (i : Int) + 1, rfl, cut_tup hs3 (fun p1 H4 s4 sq4 => ?_)⟩
      have sq4 := fr (i + 1) _ sc (by omega) _ _ sq4
      refine ⟨_, rfl, _, rfl, (i : Int), rfl, cut_tupN ((tk_same s4).sq hs3) (fun p2 H5 s5 sq5 => ?_)⟩
      have sq5 := bk i _ rfl (by omega) _ _ sq5
      refine cat_tup ((tk_same s5).sq sq4) sq5 (by rw [List.length_take, List.length_drop]; omega) (fun p H6 s6 sq6 => good H6 p _ (s4.trans (s5.trans s6)) sq6 (by rw [List.length_append, List.length_take, List.length_drop]; omega) (fun y hy => (List.mem_append.mp hy).elim List.mem_of_mem_take List.mem_of_mem_drop))
    rw [show decide (V.int d3 = V.int 1) = false by simp [w1]]
    refine iteF ⟨_, rfl, _, rfl, (i : Int), rfl, cut_tup hs3 (fun p1 H4 s4 sq4 => ?_)⟩
    have sq4 := fr i _ rfl (by omega) _ _ sq4
    have hs4 := (tk_same s4).sq hs3
    have pool4 := pool3.same s4
    have xi : xs[i]? = some xs[i] := List.getElem?_eq_getElem ix
    refine ⟨_, rfl, _, rfl, _, rfl, a, xs, (i : Int), xs[i], rfl, rfl, hs4, atI_nat xi, ?_⟩
    refine ⟨S, l, xs[i], j, rfl, pool4, lS, lk H4 (bt3.trans (.of_same s4)) pool4, (cx3 _ (List.getElem_mem ix)).tk (tk_same s4), by omega, fun H5 v5 b5 pool5 ls5 bz5 => ?_⟩
    have tk5 : Tk H4 H5 := b5.tk pool4.lst
    refine ⟨by show 1 ≤ sizeLine; decide, fun t6 nt6 => ?_⟩
    have s6 : Same H5 (upd H5 t6 (.tup [v5])) := same_new nt6
    have g6 : (upd H5 t6 (.tup [v5])) t6 = some (.tup [v5]) := upd_same
    revert s6 g6
    generalize upd H5 t6 (.tup [v5]) = H6
    intro s6 g6
    have tk6 : Tk H4 H6 := tk5.trans (tk_same s6)
    refine cat_tup (tk6.sq sq4) (sqT g6) (by rw [List.length_take]; show _ + 1 ≤ 100; omega) (fun p7 H7 s7 sq7 => ?_)
    have tk7 : Tk H3 H7 := (tk_same s4).trans (tk6.trans (tk_same s7))
    refine ⟨_, rfl, _, rfl, (i : Int), 1, rfl, rfl, (i : Int) + 1, rfl, cut_tupN (tk7.sq hs3) (fun p8 H8 s8 sq8 => ?_)⟩
    have sq8 := bk (i + 1) _ sc (by omega) _ _ sq8
    refine cat_tup ((tk_same s8).sq sq7) sq8 (by rw [List.length_append, List.length_take, List.length_drop]; show _ + 1 + _ ≤ 100; omega) (fun p9 H9 s9 sq9 => ?_)
    have s59 : Same H5 H9 := s6.trans (s7.trans (s8.trans s9))
    have tk9 : Tk H3 H9 := tk7.trans ((tk_same s8).trans (tk_same s9))
    refine q H9 _ ((bt3.trans (.of_same s4)).trans (b5.trans (.of_same s59))) (pool5.same s59) (ls5.same s59) (bs_tup sq9 ?_ ?_)
    · rw [List.length_append, List.length_append, List.length_take, List.length_drop]
      show _ + 1 + _ ≤ 100
      omega
    · intro y hy
      rcases List.mem_append.mp hy with hy | hy
      · rcases List.mem_append.mp hy with hy | hy
        · exact ((cx3 y (List.mem_of_mem_take hy)).tk tk9).bs
        · rw [List.mem_singleton.mp hy]
          exact bz5.same s59
      · exact ((cx3 y (List.mem_of_mem_drop hy)).tk tk9).bs
theorem ok_bent {f fO fT : Addr} {fd fdO fdT : FuncData} {k : Nat} (B : Bi mg) (D : Df K mg "_law_bent" sBent f fd ["_law_pool_here", "_law_thing"]) (DO : Df K mg "_law_odd" sOdd fO fdO ["_law_pool_here", "_law_thing"]) (DT : Df K mg "_law_take" sTake fT fdT ["_law_pool_here", "_law_many"])
    (GT : FnOk P w K mg base CX0 (k + 1) fT fdT ["_law_pool_here", "_law_many"] spTake) (GO : FnOk P w K mg base CX0 (k + 2) fO fdO ["_law_pool_here", "_law_thing"] (spOdd K)) :
    ∀ n : Nat, FnOk P w K mg base CX0 (k + 2 + n) f fd ["_law_pool_here", "_law_thing"] (spBent K n)
  | 0 => ⟨fun _ _ _ _ h => by obtain ⟨_, _, _, m, _, _, _, _, _, h1, _⟩ := h; omega, fun _ _ _ _ _ _ _ _ _ _ _ _ _ h => by obtain ⟨_, _, _, m, _, _, _, _, _, h1, _⟩ := h; omega⟩
  | n + 1 => by
    have := bent_step B D DO DT GT GO (ok_bent (k := k) B D DO DT GT GO n)
    have e : k + 2 + (n + 1) = k + 3 + n := by omega
    rw [e]
    exact this
end
end WdQ

set_option Elab.async false
set_option linter.all false
set_option maxRecDepth 100000
set_option maxHeartbeats 4000000
namespace Wd
open PySem PySem.Spec PyProof.Rows L2 WdM
/-! ### data of tuples alone, none too long -/
def Ct : Nat → PyData → Prop
  | _, .none => True
  | _, .bool _ => True
  | _, .int _ => True
  | _, .str x => x.length ≤ 100
  | _, .list _ => False
  | 0, .tuple _ => False
  | n + 1, .tuple ds => ds.length ≤ 100 ∧ ∀ d ∈ ds, Ct n d
  | _, .dict _ => False
theorem Ct.str {n : Nat} {x : Str} (h : Ct n (.str x)) : x.length ≤ 100 := by cases n <;> exact h
theorem Ct.of_str {n : Nat} {x : Str} (h : x.length ≤ 100) : Ct n (.str x) := by cases n <;> exact h
theorem Ct.of_int {n : Nat} {i : Int} : Ct n (.int i) := by cases n <;> trivial
theorem Ct.of_non {n : Nat} : Ct n .none := by cases n <;> trivial
theorem Ct.of_bl {n : Nat} {b : Bool} : Ct n (.bool b) := by cases n <;> trivial
theorem Ct.sm : ∀ {n : Nat} {d : PyData}, Ct n d → Sm n d := by
  intro n
  induction n with
  | zero =>
    intro d c
    cases d with
    | none => trivial
    | bool _ => trivial
    | int _ => trivial
    | str x => exact c
    | _ => exact c.elim
  | succ n ih =>
    intro d c
    cases d with
    | none => trivial
    | bool _ => trivial
    | int _ => trivial
    | str x => exact c
    | tuple ds => exact ⟨c.1, fun d hd => ih (c.2 d hd)⟩
    | _ => exact c.elim
theorem Ct.up : ∀ {n : Nat} {d : PyData}, Ct n d → Ct (n + 1) d := by
  intro n
  induction n with
  | zero =>
    intro d c
    cases d with
    | none => trivial
    | bool _ => trivial
    | int _ => trivial
    | str x => exact c
    | _ => exact c.elim
  | succ n ih =>
    intro d c
    cases d with
    | none => trivial
    | bool _ => trivial
    | int _ => trivial
    | str x => exact c
    | tuple ds => exact ⟨c.1, fun d hd => ih (c.2 d hd)⟩
    | _ => exact c.elim
theorem Ct.mono {n m : Nat} {d : PyData} (h : Ct n d) (l : n ≤ m) : Ct m d := by
  induction l with
  | refl => exact h
  | step _ ih => exact ih.up
/-- a value of tuples alone -/
def Tq (K : PySem.W.Frag) (n : Nat) (H : Hp) (v : V) : Prop := ∃ d, Dz [] K H v d ∧ Ct n d
section
variable {K : PySem.W.Frag} {S S' : List Addr}
theorem ct_tk {H H' : Hp} (e : Tk H H') : ∀ {n : Nat} {v : V} {d : PyData}, Ct n d → Dz S K H v d → Dz S' K H' v d := by
  intro n
  induction n with
  | zero =>
    intro v d c h
    cases h with
    | non => exact .non
    | bl b => exact .bl b
    | str x => exact .str x
    | int i => exact .int i
    | _ => exact c.elim
  | succ n ih =>
    intro v d c h
    have all : ∀ {xs : List V} {ds : List PyData}, (∀ d ∈ ds, Ct n d) → DzAll S K H xs ds → DzAll S' K H' xs ds := by
      intro xs
      induction xs with
      | nil =>
        intro ds _ h
        cases h
        exact .nil
      | cons x xs ih2 =>
        intro ds hc h
        cases h with
        | cons h t => exact .cons (ih (hc _ List.mem_cons_self) h) (ih2 (fun d hd => hc d (List.mem_cons_of_mem _ hd)) t)
    cases h with
    | non => exact .non
    | bl b => exact .bl b
    | str x => exact .str x
    | int i => exact .int i
    | tup h t => exact .tup (e.sq h) (all c.2 t)
    | _ => exact c.elim
theorem Tq.tk {H H' : Hp} {n : Nat} {v : V} (h : Tq K n H v) (e : Tk H H') : Tq K n H' v := by
  obtain ⟨d, h, c⟩ := h
  exact ⟨d, ct_tk e c h, c⟩
theorem Tq.mono {H : Hp} {n m : Nat} {v : V} (h : Tq K n H v) (l : n ≤ m) : Tq K m H v := by
  obtain ⟨d, h, c⟩ := h
  exact ⟨d, h, c.mono l⟩
theorem tq_all {H : Hp} {n : Nat} : ∀ {xs : List V}, (∀ x ∈ xs, Tq K n H x) → ∃ ds, DzAll [] K H xs ds ∧ ∀ d ∈ ds, Ct n d
  | [], _ => ⟨[], .nil, fun _ h => nomatch h⟩
  | x :: xs, h => by
    obtain ⟨d, h1, f1⟩ := h x List.mem_cons_self
    obtain ⟨ds, h2, f2⟩ := tq_all (xs := xs) fun y hy => h y (List.mem_cons_of_mem _ hy)
    exact ⟨d :: ds, .cons h1 h2, fun e he => (List.mem_cons.mp he).elim (fun z => z ▸ f1) (f2 e)⟩
theorem tq_tup {H : Hp} {n : Nat} {a : Addr} {xs : List V} (h : SqT K H a xs) (l : xs.length ≤ 100) (e : ∀ x ∈ xs, Tq K n H x) : Tq K (n + 1) H (.ref a) := by
  obtain ⟨ds, h1, f1⟩ := tq_all e
  exact ⟨.tuple ds, .tup h h1, by rw [← h1.len]; exact l, f1⟩
theorem tq_str {H : Hp} {n : Nat} {z : Str} (h : z.length ≤ 100) : Tq K n H (.str z) := ⟨.str z, .str z, Ct.of_str h⟩
theorem tq_int {H : Hp} {n : Nat} {i : Int} : Tq K n H (.int i) := ⟨.int i, .int i, Ct.of_int⟩
theorem tq_non {H : Hp} {n : Nat} : Tq K n H .non := ⟨.none, .non, Ct.of_non⟩
theorem tq_bl {H : Hp} {n : Nat} {b : Bool} : Tq K n H (.bl b) := ⟨.bool b, .bl b, Ct.of_bl⟩
end
end Wd

set_option Elab.async false
set_option linter.all false
set_option maxRecDepth 100000
set_option maxHeartbeats 4000000
set_option exponentiation.threshold 5000
namespace WdQ
open PySem PySem.Spec PyProof.Rows L2 WdM Wd
abbrev sBd : Stmt := topS 84
def nBd : List Str := ["_law_one", "_law_found", "_law_deep", "_law_turn", "_law_rows", "_law_many"]
theorem scBd : FnScope nBd ["_law_one"] (defScope sBd) := ⟨rfl, rfl, rfl, by decide +kernel, rfl, by decide +kernel, by decide +kernel⟩
section
variable {P : Program} {w : World} {K : PySem.W.Frag} {mg : Str → Option Value} {base : Heap}
def RB (K : PySem.W.Frag) : L2.St → Hp → Prop := fun σ H => ∃ (aR : Addr) (xs : List V), σ[4]? = some (some (.ref aR)) ∧ H aR = some (.lst xs) ∧ xs.length ≤ 7 ∧ (∀ x ∈ xs, Tq K 1 H x) ∧ ∃ n : Int, σ[5]? = some (some (.int n))
theorem row_of {H : Hp} {wd : Str} {aR : Addr} {xs : List V} {hi : Option Int} {Q : VK} (wl : wd.length ≤ 100) (hR : H aR = some (.lst xs)) (xl : xs.length ≤ 7) (cx : ∀ x ∈ xs, Tq K 1 H x) (q : ∀ v H', Same H H' → Tq K 2 H' v → Q v H') :
    ∀ t1, H t1 = none → rSlL K (.ref aR) none hi (upd H t1 (.tup [.str wd])) (fun v1 H1 => ∃ p ys, [v1] = [V.ref p] ∧ ((SqL K H1 p ys ∧ ∀ l, H1 l = none → rCatA K (.ref t1) (.ref l) (upd H1 l (.tup ys)) Q) ∨ (SqT K H1 p ys ∧ rCatA K (.ref t1) (.ref p) H1 Q))) := by
  intro t1 n1
  refine ⟨aR, xs, rfl, sqL (same_new n1 _ _ hR), fun p2 n2 => ⟨p2, _, rfl, .inl ⟨sqL upd_same, fun p3 n3 => ?_⟩⟩⟩
  have s3 : Same H _ := (same_new (o := .tup [.str wd]) n1).trans ((same_new (o := .lst (cutV xs none hi)) n2).trans (same_new (o := .tup (cutV xs none hi)) n3))
  have cl := cutV_length xs none hi
  refine cat_tup (sqT (same_new n3 _ _ (same_new n2 _ _ upd_same))) (sqT upd_same) (by show 1 + _ ≤ 100; omega) (fun p4 H4 s4 sq => q _ _ (s3.trans s4) (tq_tup sq (by rw [List.length_append]; show 1 + _ ≤ 100; omega) (fun x hx => ?_)))
  rcases List.mem_append.mp hx with hx | hx
  · rw [List.mem_singleton.mp hx]
    exact tq_str wl
  · exact (cx x (cut_mem hx)).tk (tk_same (s3.trans s4))
def spBd (K : PySem.W.Frag) : Sp := fun vs H Q _ => ∃ z : Str, vs = [.str z] ∧ z.length ≤ 9 ∧ ∀ H' p xs, Same H H' → H p = none → H' p = some (.lst xs) → xs.length ≤ 50 → (∀ x ∈ xs, Tq K 8 H' x) → Q (.ref p) H'
theorem ok_bd {f : Addr} {fd : FuncData} {k : Nat} (B : Bi mg) (D : Df K mg "_law_bounds" sBd f fd ["_law_one"]) : FnOk P w K mg base CX0 (k + 1) f fd ["_law_one"] (spBd K) := by
  refine D.fn.ok scBd (fun vs H Q E h => ?_) (fun cdv A outer s H vs Q E hr h => ?_)
  · obtain ⟨z, rfl, _⟩ := h
    rfl
  · obtain ⟨z, rfl, zl, q⟩ := h
    refine ⟨_, pss_cons (ps_par (i := 1) (j := 2) rfl scBd.nd rfl rfl (by decide) rfl rfl (pa_cons (pe_lst pa_nil) (pa_cons (pe_tup (pa_cons pe_str (pa_cons (pv 0) pa_nil))) pa_nil)) (by rfl))
      (pss_cons (ps_for PassesOwn.never rfl (pi_range1 (by rfl) B.range (pa_cons pe_int pa_nil)) (pg_name (i := 3) scBd.nd rfl (.inl rfl))
        (pss_cons (ps_set (i := 2) scBd.nd rfl (.inl rfl) (pe_tup (pa_cons pe_str (pa_cons (pv 2) pa_nil))))
        (pss_one (ps_expr (pe_bm PySem.F.plainAttrs_list PySem.F.slot_list_append PySem.F.type_list_append mt_append (pv 1) (pa_cons (pv 2) pa_nil))))))
      (pss_cons (ps_set (i := 4) scBd.nd rfl (.inr rfl) (pe_op op_rep (pe_lst (pa_cons (pe_tup (pa_cons pe_str (pa_cons (pv 0) (pa_cons pe_int pa_nil)))) pa_nil)) pe_int))
      (pss_cons (ps_set (i := 1) scBd.nd rfl (.inl rfl) (pe_op op_cat (pv 1) (pe_lc (own := [("_law_many", 5)]) (g := gName 5) (tt := tYes) rfl scBd.nd (pi_range1 (by rfl) B.range (pa_cons pe_int pa_nil)) (blkOk_by (own := [("_law_many", 5)]) (N := nBd) (sc := defScope sBd) (by decide +kernel))
            (fun _ _ _ _ _ => pg_name (i := 5) scBd.nd rfl (Or.inl rfl)) (fun _ _ _ _ _ => pts_nil)
            (fun _ _ _ _ _ => PE.wk (t' := tB (RB K) (Tq K 2)) (pe_op op_catA (pe_tup (pa_cons pe_str pa_nil)) (pe_callTy call_tuple_of (by rfl) B.tuple boot_tuple (pa_cons (pe_slice sl_list (pv 4) po_none (po_some (pv 5))) pa_nil))) (by
              rintro σ H Q ⟨⟨aR, xs, h4, hR, xl, cx, n, h5⟩, q⟩
              exact ⟨by show 1 ≤ sizeLine; decide, fun t1 n1 => ⟨_, h4, _, h5, n, rfl, row_of (by decide) hR xl cx q t1 n1⟩⟩)))))
      (pss_cons (ps_for PassesOwn.never rfl (pi_list (pe_lst (pa_cons pe_int (pa_cons pe_int pa_nil)))) (pg_name (i := 5) scBd.nd rfl (.inl rfl))
        (pss_cons (ps_expr (pe_bm PySem.F.plainAttrs_list PySem.F.slot_list_append PySem.F.type_list_append mt_append (pv 1) (pa_cons (pe_tup (pa_cons pe_str
            (pa_cons (PE.wk (t' := tB (RB K) (Tq K 2)) (pe_op op_catA (pe_tup (pa_cons pe_str pa_nil)) (pe_callTy call_tuple_of (by rfl) B.tuple boot_tuple (pa_cons (pe_slice sl_list (pv 4) po_none (po_some pe_int)) pa_nil))) (by
              rintro σ H Q ⟨⟨aR, xs, h4, hR, xl, cx, n, h5⟩, q⟩
              exact ⟨by show 1 ≤ sizeLine; decide, fun t1 n1 => ⟨_, h4, 6, rfl, row_of (by decide) hR xl cx q t1 n1⟩⟩))
            (pa_cons (PE.wk (t' := tB (RB K) (Tq K 2)) (pe_op op_catA (pe_tup (pa_cons pe_str pa_nil)) (pe_callTy call_tuple_of (by rfl) B.tuple boot_tuple (pa_cons (pe_slice sl_list (pv 4) po_none (po_some (pv 5))) pa_nil))) (by
              rintro σ H Q ⟨⟨aR, xs, h4, hR, xl, cx, n, h5⟩, q⟩
              exact ⟨by show 1 ≤ sizeLine; decide, fun t1 n1 => ⟨_, h4, _, h5, n, rfl, row_of (by decide) hR xl cx q t1 n1⟩⟩))
            (pa_cons (pe_tup (pa_cons pe_str (pa_cons (pv 0) pa_nil))) pa_nil))))) pa_nil)))
        (pss_one (ps_expr (pe_bm PySem.F.plainAttrs_list PySem.F.slot_list_append PySem.F.type_list_append mt_append (pv 1) (pa_cons (pe_tup (pa_cons pe_str
            (pa_cons (PE.wk (t' := tB (RB K) (Tq K 2)) (pe_op op_catA (pe_tup (pa_cons pe_str pa_nil)) (pe_callTy call_tuple_of (by rfl) B.tuple boot_tuple (pa_cons (pe_slice sl_list (pv 4) po_none (po_some pe_int)) pa_nil))) (by
              rintro σ H Q ⟨⟨aR, xs, h4, hR, xl, cx, n, h5⟩, q⟩
              exact ⟨by show 1 ≤ sizeLine; decide, fun t1 n1 => ⟨_, h4, 6, rfl, row_of (by decide) hR xl cx q t1 n1⟩⟩))
            (pa_cons (PE.wk (t' := tB (RB K) (Tq K 2)) (pe_op op_catA (pe_tup (pa_cons pe_str pa_nil)) (pe_callTy call_tuple_of (by rfl) B.tuple boot_tuple (pa_cons (pe_slice sl_list (pv 4) po_none (po_some (pv 5))) pa_nil))) (by
              rintro σ H Q ⟨⟨aR, xs, h4, hR, xl, cx, n, h5⟩, q⟩
              exact ⟨by show 1 ≤ sizeLine; decide, fun t1 n1 => ⟨_, h4, _, h5, n, rfl, row_of (by decide) hR xl cx q t1 n1⟩⟩)) pa_nil)))) pa_nil))))))
      (pss_one (ps_ret (pv 1))))))), ?_⟩
    refine ⟨by show 0 ≤ sizeLine; decide, fun aF nF => ⟨_, rfl, by show 2 ≤ sizeLine; decide, fun t0 n0 => ⟨_, _, rfl, ?_⟩⟩⟩
    have s0 : Same H (upd (upd H aF (.lst [])) t0 (.tup [.str "lives", .str z])) := (same_new nF).trans (same_new n0)
    have hF0 : (upd (upd H aF (.lst [])) t0 (.tup [.str "lives", .str z])) aF = some (.lst []) := same_new n0 _ _ upd_same
    have c0 : Tq K 1 (upd (upd H aF (.lst [])) t0 (.tup [.str "lives", .str z])) (.ref t0) := tq_tup (sqT upd_same) (by show 2 ≤ 100; decide) (fun x hx => by
      simp only [List.mem_cons, List.not_mem_nil, or_false] at hx
      rcases hx with rfl | rfl
      · exact tq_str (by decide)
      · exact tq_str (by omega))
    revert s0 hF0 c0
    generalize upd (upd H aF (.lst [])) t0 (.tup [.str "lives", .str z]) = H0
    intro s0 hF0 c0
    refine ⟨7, rfl, by decide, by decide, for_range (lo := 0) (n := 7) (fun i σ H' => (∃ (v : V) (y3 : Option V), σ = [some (.str z), some (.ref aF), some v, y3, none, none] ∧ Tq K (i + 1) H' v) ∧ (∃ xs, H' aF = some (.lst xs) ∧ xs.length = i ∧ ∀ x ∈ xs, Tq K 8 H' x) ∧ Same H H') ⟨⟨_, _, rfl, c0⟩, ⟨_, hF0, rfl, fun x hx => nomatch hx⟩, s0⟩ ?_ ?_⟩
    · rintro i σ H1 hi ⟨⟨v, y3, rfl, cv⟩, ⟨xs, hF1, xl, cx⟩, s1⟩
      refine ⟨_, rfl, by show 2 ≤ sizeLine; decide, fun t nt => ?_⟩
      have tkt : Tk H1 (upd H1 t (.tup [.str "not", v])) := tk_new nt
      have ct : Tq K (i + 1 + 1) (upd H1 t (.tup [.str "not", v])) (.ref t) := tq_tup (sqT upd_same) (by show 2 ≤ 100; decide) (fun x hx => by
        simp only [List.mem_cons, List.not_mem_nil, or_false] at hx
        rcases hx with rfl | rfl
        · exact tq_str (by decide)
        · exact cv.tk tkt)
      have hF2 : (upd H1 t (.tup [.str "not", v])) aF = some (.lst xs) := same_new nt _ _ hF1
      have s2 : Same H (upd H1 t (.tup [.str "not", v])) := s1.trans (same_new nt)
      revert tkt ct hF2 s2
      generalize upd H1 t (.tup [.str "not", v]) = H2
      intro tkt ct hF2 s2
      have tkA : Tk H2 (upd H2 aF (.lst (xs ++ [.ref t]))) := tk_lst hF2
      refine ⟨_, rfl, .inl ⟨rfl, _, sqL hF2⟩, _, rfl, aF, xs, .ref t, rfl, rfl, hF2, by rw [xl]; exact Nat.lt_of_lt_of_le (show i < 9 by omega) (by decide), ⟨_, _, rfl, ct.tk tkA⟩, ⟨_, upd_same, by rw [List.length_append, xl]; rfl, fun x hx => ?_⟩, ((Bt.of_same (S := []) s2).upd0 nF).same⟩
      rcases List.mem_append.mp hx with h | h
      · exact ((cx x h).tk tkt).tk tkA
      · rw [List.mem_singleton.mp h]
        exact (ct.mono (by omega)).tk tkA
    · rintro σ H1 ⟨⟨v, y3, rfl, cv⟩, ⟨xs, hF1, xl, cx⟩, s1⟩
      refine ⟨_, rfl, by show 3 ≤ sizeLine; decide, fun tR nR => ⟨by show 1 ≤ sizeLine; decide, fun l1 nl1 => ⟨l1, 7, [.ref tR], rfl, rfl, upd_same, by decide, by decide, by show 1 * 7 ≤ sizeLine; decide, fun aR naR => ?_⟩⟩⟩
      have s2 : Same H1 (upd (upd (upd H1 tR (.tup [.str "lives", .str z, .int 0])) l1 (.lst [.ref tR])) aR (.lst (List.replicate (7 : Int).toNat [V.ref tR]).flatten)) := (same_new nR).trans ((same_new nl1).trans (same_new naR))
      have hR2 : (upd (upd (upd H1 tR (.tup [.str "lives", .str z, .int 0])) l1 (.lst [.ref tR])) aR (.lst (List.replicate (7 : Int).toNat [V.ref tR]).flatten)) aR = some (.lst (List.replicate (7 : Int).toNat [V.ref tR]).flatten) := upd_same
      have c2 : Tq K 1 (upd (upd (upd H1 tR (.tup [.str "lives", .str z, .int 0])) l1 (.lst [.ref tR])) aR (.lst (List.replicate (7 : Int).toNat [V.ref tR]).flatten)) (.ref tR) := tq_tup (sqT (same_new naR _ _ (same_new nl1 _ _ upd_same))) (by show 3 ≤ 100; decide) (fun x hx => by
        simp only [List.mem_cons, List.not_mem_nil, or_false] at hx
        rcases hx with rfl | rfl | rfl
        · exact tq_str (by decide)
        · exact tq_str (by omega)
        · exact tq_int)
      have r7 : ∀ x ∈ (List.replicate (7 : Int).toNat [V.ref tR]).flatten, x = .ref tR := fun x hx => by
        obtain ⟨y, hy, hx⟩ := List.mem_flatten.mp hx
        rw [(List.mem_replicate.mp hy).2] at hx
        exact List.mem_singleton.mp hx
      have l7 : ((List.replicate (7 : Int).toNat [V.ref tR]).flatten).length ≤ 7 := by show (7 : Nat) ≤ 7; decide
      revert s2 hR2 c2 r7 l7
      generalize upd (upd (upd H1 tR (.tup [.str "lives", .str z, .int 0])) l1 (.lst [.ref tR])) aR (.lst (List.replicate (7 : Int).toNat [V.ref tR]).flatten) = H2
      generalize (List.replicate (7 : Int).toNat [V.ref tR]).flatten = rs
      intro s2 hR2 c2 r7 l7
      have cr : ∀ H', Same H2 H' → ∀ x ∈ rs, Tq K 1 H' x := fun H' e x hx => by rw [r7 x hx]; exact c2.tk (tk_same e)
      have hF2 := s2 _ _ hF1
      refine ⟨_, rfl, 8, rfl, by decide, by decide, fun L nL => lc_range (lo := 0) (n := 8) (fun j H' => (∃ ys, H' L = some (.lst ys) ∧ ys.length = j ∧ ∀ y ∈ ys, Tq K 2 H' y) ∧ Same H2 H') ⟨⟨[], upd_same, rfl, fun y hy => nomatch hy⟩, same_new nL⟩ ?_ ?_⟩
      · rintro j H3 hj ⟨⟨ys, hL, yl, cy⟩, s3⟩
        refine ⟨rfl, tyes (iteT ⟨⟨aR, rs, rfl, s3 _ _ hR2, l7, cr H3 s3, _, rfl⟩, fun v4 H4 s4 c4 => ?_⟩)⟩
        have hL4 := s4 _ _ hL
        have tkA : Tk H4 (upd H4 L (.lst (ys ++ [v4]))) := tk_lst hL4
        refine ⟨_, hL4, by rw [yl]; exact Nat.lt_of_lt_of_le (show j < 9 by omega) (by decide), ⟨_, upd_same, by rw [List.length_append, yl]; rfl, fun y hy => ?_⟩, ((Bt.of_same (S := []) (s3.trans s4)).upd0 nL).same⟩
        rcases List.mem_append.mp hy with h | h
        · exact ((cy y h).tk (tk_same s4)).tk tkA
        · rw [List.mem_singleton.mp h]
          exact c4.tk tkA
      · rintro H3 ⟨⟨ys, hL, yl, cy⟩, s3⟩
        refine ⟨aF, L, xs, ys, rfl, rfl, s3 _ _ hF2, hL, by rw [xl, yl]; decide, fun p2 n2 => ?_⟩
        have s13 := s1.trans (s2.trans s3)
        have s4 : Same H3 (upd H3 p2 (.lst (xs ++ ys))) := same_new n2
        have h4 : (upd H3 p2 (.lst (xs ++ ys))) p2 = some (.lst (xs ++ ys)) := upd_same
        have f2 : H p2 = none := by
          cases e : H p2 with
          | none => rfl
          | some o =>
            have := s13 _ _ e
            rw [n2] at this
            cases this
        have f22 : H2 p2 = none := by
          cases e : H2 p2 with
          | none => rfl
          | some o =>
            have := s3 _ _ e
            rw [n2] at this
            cases this
        have l4 : (xs ++ ys).length = 15 := by rw [List.length_append, xl, yl]
        have c4 : ∀ x ∈ xs ++ ys, Tq K 8 (upd H3 p2 (.lst (xs ++ ys))) x := fun x hx => (List.mem_append.mp hx).elim (fun h => (cx x h).tk (tk_same (s2.trans (s3.trans s4)))) (fun h => ((cy x h).mono (by decide)).tk (tk_same s4))
        revert s4 h4 l4 c4
        generalize upd H3 p2 (.lst (xs ++ ys)) = H4
        generalize xs ++ ys = us
        intro s4 h4 l4 c4
        have s24 := s3.trans s4
        have s04 := s13.trans s4
        clear cx cy hF1 hF2 hL xl yl s1 s2 s3 s13 s4
        refine ⟨by show 2 ≤ sizeLine; decide, fun a5 n5 => ⟨a5, rfl, ⟨_, sqL upd_same⟩, for_list (K := K) (a := a5) (xs := [.int 5, .int 6]) (fun i σ H' => (∃ y5 : Option V, σ = [some (.str z), some (.ref p2), some v, y3, some (.ref aR), y5]) ∧ (∃ us, H' p2 = some (.lst us) ∧ us.length = 15 + 2 * i ∧ ∀ x ∈ us, Tq K 8 H' x) ∧ H' a5 = some (.lst [.int 5, .int 6]) ∧ Same H2 H' ∧ Same H H') ⟨⟨_, rfl⟩, ⟨us, same_new n5 _ _ h4, l4, fun x hx => (c4 x hx).tk (tk_new n5)⟩, upd_same, s24.trans (same_new n5), s04.trans (same_new n5)⟩ (fun i σ H' _ h => sqL h.2.2.1) ?_ ?_⟩⟩
        · have n52 : a5 ≠ p2 := fun e => by rw [e, h4] at n5; cases n5
          rintro i x σ H5 hx ⟨⟨y5, rfl⟩, ⟨us5, hU5, ul5, cu5⟩, hA5, s25, s05⟩
          have il : i < 2 := lt_get hx
          have fr5 : ∃ n : Int, x = .int n := by
            have hm := List.mem_of_getElem? hx
            simp only [List.mem_cons, List.not_mem_nil, or_false] at hm
            rcases hm with rfl | rfl <;> exact ⟨_, rfl⟩
          obtain ⟨n, rfl⟩ := fr5
          refine ⟨_, rfl, .inl ⟨rfl, _, sqL hU5⟩, ⟨aR, rs, rfl, s25 _ _ hR2, l7, cr H5 s25, _, rfl⟩, fun v6 H6 s6 c6 => ⟨⟨aR, rs, rfl, s6 _ _ (s25 _ _ hR2), l7, cr H6 (s25.trans s6), _, rfl⟩, fun v7 H7 s7 c7 => ⟨_, rfl, by show 2 ≤ sizeLine; decide, fun t8 n8 => ⟨by show 4 ≤ sizeLine; decide, fun t9 n9 => ?_⟩⟩⟩⟩
          have s9 : Same H7 (upd (upd H7 t8 (.tup [.str "childless", .str z])) t9 (.tup [.str "or", v6, v7, .ref t8])) := (same_new n8).trans (same_new n9)
          have c8 : Tq K 1 (upd (upd H7 t8 (.tup [.str "childless", .str z])) t9 (.tup [.str "or", v6, v7, .ref t8])) (.ref t8) := tq_tup (sqT (same_new n9 _ _ upd_same)) (by show 2 ≤ 100; decide) (fun x hx => by
            simp only [List.mem_cons, List.not_mem_nil, or_false] at hx
            rcases hx with rfl | rfl
            · exact tq_str (by decide)
            · exact tq_str (by omega))
          have c9 : Tq K 3 (upd (upd H7 t8 (.tup [.str "childless", .str z])) t9 (.tup [.str "or", v6, v7, .ref t8])) (.ref t9) := tq_tup (sqT upd_same) (by show 4 ≤ 100; decide) (fun x hx => by
            simp only [List.mem_cons, List.not_mem_nil, or_false] at hx
            rcases hx with rfl | rfl | rfl | rfl
            · exact tq_str (by decide)
            · exact c6.tk (tk_same (s7.trans s9))
            · exact c7.tk (tk_same s9)
            · exact c8.mono (by decide))
          revert s9 c9
          generalize upd (upd H7 t8 (.tup [.str "childless", .str z])) t9 (.tup [.str "or", v6, v7, .ref t8]) = H9 at c8 ⊢
          intro s9 c9
          have s59 := s6.trans (s7.trans s9)
          have hU9 := s59 _ _ hU5
          have tkA : Tk H9 (upd H9 p2 (.lst (us5 ++ [.ref t9]))) := tk_lst hU9
          refine ⟨p2, us5, .ref t9, rfl, rfl, hU9, by rw [ul5]; exact Nat.lt_of_lt_of_le (show 15 + 2 * i < 30 by omega) (by decide), ?_⟩
          have hUA : (upd H9 p2 (.lst (us5 ++ [.ref t9]))) p2 = some (.lst (us5 ++ [.ref t9])) := upd_same
          have cA : ∀ x ∈ us5 ++ [V.ref t9], Tq K 8 (upd H9 p2 (.lst (us5 ++ [.ref t9]))) x := fun x hx => (List.mem_append.mp hx).elim (fun h => ((cu5 x h).tk (tk_same s59)).tk tkA) (fun h => by rw [List.mem_singleton.mp h]; exact (c9.mono (by decide)).tk tkA)
          have hAA : (upd H9 p2 (.lst (us5 ++ [.ref t9]))) a5 = some (.lst [.int 5, .int 6]) := by rw [upd_ne n52]; exact s59 _ _ hA5
          have s2A : Same H2 (upd H9 p2 (.lst (us5 ++ [.ref t9]))) := ((Bt.of_same (S := []) (s25.trans s59)).upd0 f22).same
          have s0A : Same H (upd H9 p2 (.lst (us5 ++ [.ref t9]))) := ((Bt.of_same (S := []) (s05.trans s59)).upd0 f2).same
          have lA : (us5 ++ [V.ref t9]).length = 16 + 2 * i := by rw [List.length_append, ul5]; show 15 + 2 * i + 1 = _; omega
          clear tkA
          revert hUA cA hAA s2A s0A lA
          generalize upd H9 p2 (.lst (us5 ++ [.ref t9])) = HA
          generalize us5 ++ [V.ref t9] = usA
          intro hUA cA hAA s2A s0A lA
          clear s59 hU9 s9 c9 c8 s6 s7 c6 c7 cu5 hU5 ul5
          refine ⟨_, rfl, .inl ⟨rfl, _, sqL hUA⟩, ⟨aR, rs, rfl, s2A _ _ hR2, l7, cr HA s2A, _, rfl⟩, fun v6 H6 s6 c6 => ⟨⟨aR, rs, rfl, s6 _ _ (s2A _ _ hR2), l7, cr H6 (s2A.trans s6), _, rfl⟩, fun v7 H7 s7 c7 => ⟨by show 3 ≤ sizeLine; decide, fun t9 n9 => ?_⟩⟩⟩
          have s9 : Same H7 (upd H7 t9 (.tup [.str "or", v6, v7])) := same_new n9
          have c9 : Tq K 3 (upd H7 t9 (.tup [.str "or", v6, v7])) (.ref t9) := tq_tup (sqT upd_same) (by show 3 ≤ 100; decide) (fun x hx => by
            simp only [List.mem_cons, List.not_mem_nil, or_false] at hx
            rcases hx with rfl | rfl | rfl
            · exact tq_str (by decide)
            · exact c6.tk (tk_same (s7.trans s9))
            · exact c7.tk (tk_same s9))
          revert s9 c9
          generalize upd H7 t9 (.tup [.str "or", v6, v7]) = H9
          intro s9 c9
          have s59 := s6.trans (s7.trans s9)
          have hU9 := s59 _ _ hUA
          have tkA : Tk H9 (upd H9 p2 (.lst (usA ++ [.ref t9]))) := tk_lst hU9
          refine ⟨p2, usA, .ref t9, rfl, rfl, hU9, by rw [lA]; exact Nat.lt_of_lt_of_le (show 16 + 2 * i < 30 by omega) (by decide), ⟨_, rfl⟩, ⟨_, upd_same, by rw [List.length_append, lA]; show 16 + 2 * i + 1 = _; omega, fun x hx => ?_⟩, by rw [upd_ne n52]; exact s59 _ _ hAA, ((Bt.of_same (S := []) (s2A.trans s59)).upd0 f22).same, ((Bt.of_same (S := []) (s0A.trans s59)).upd0 f2).same⟩
          rcases List.mem_append.mp hx with h | h
          · exact ((cA x h).tk (tk_same s59)).tk tkA
          · rw [List.mem_singleton.mp h]
            exact (c9.mono (by decide)).tk tkA
        · rintro σ H5 ⟨⟨y5, rfl⟩, ⟨us5, hU5, ul5, cu5⟩, hA5, s25, s05⟩
          exact ⟨_, rfl, q H5 p2 us5 s05 f2 hU5 (by rw [ul5]; decide) cu5⟩
end
end WdQ

set_option Elab.async false
set_option linter.all false
set_option maxRecDepth 100000
set_option maxHeartbeats 4000000
set_option exponentiation.threshold 5000
namespace WdQ
open PySem PySem.Spec PyProof.Rows L2 WdM Wd
abbrev sSort : Stmt := topS 77
theorem scSort : FnScope ["_law_caught", "_law_kinds", "_law_families", "_law_own", "_law_at", "_law_words_here"] ["_law_caught"] (defScope sSort) := ⟨rfl, rfl, rfl, by decide +kernel, rfl, by decide +kernel, by decide +kernel⟩
/-- the classes of the errors, by the law's own order; 21, 22, 23: the families -/
structure ClsF (mg : Str → Option Value) (C : Nat → Addr) : Prop where
  g0 : mg "NoName" = some (.ref (C 0))
  g1 : mg "NoSum" = some (.ref (C 1))
  g2 : mg "NoShares" = some (.ref (C 2))
  g3 : mg "NoPeople" = some (.ref (C 3))
  g4 : mg "NoGoods" = some (.ref (C 4))
  g5 : mg "NoText" = some (.ref (C 5))
  g6 : mg "NoStory" = some (.ref (C 6))
  g7 : mg "NoDay" = some (.ref (C 7))
  g8 : mg "NoCond" = some (.ref (C 8))
  g9 : mg "NoWhom" = some (.ref (C 9))
  g10 : mg "NoClause" = some (.ref (C 10))
  g11 : mg "NoReading" = some (.ref (C 11))
  g12 : mg "NoWord" = some (.ref (C 12))
  g13 : mg "LabelStands" = some (.ref (C 13))
  g14 : mg "DayStands" = some (.ref (C 14))
  g15 : mg "NoRow" = some (.ref (C 15))
  g16 : mg "NoPerson" = some (.ref (C 16))
  g17 : mg "NoThing" = some (.ref (C 17))
  g18 : mg "NoLabel" = some (.ref (C 18))
  g19 : mg "NoUndo" = some (.ref (C 19))
  g20 : mg "TooMany" = some (.ref (C 20))
  g21 : mg "WordError" = some (.ref (C 21))
  g22 : mg "LostError" = some (.ref (C 22))
  g23 : mg "RoomError" = some (.ref (C 23))
  bV : mg "ValueError" = none
  bL : mg "LookupError" = none
  bA : mg "ArithmeticError" = none
/-- the family of the n-th class -/
def famN (n : Nat) : Nat := if n < 16 then 0 else if n < 20 then 1 else 2
/-- what an error of the class at D is an instance of: of the n-th one, of its family and Python's own -/
structure KitF (K : PySem.W.Frag) (D : Addr) (C : Nat → Addr) (n : Nat) : Prop where
  kit : ∀ j, j < 21 → PySem.W.kitOne K (.ref D) (.ref (C j)) = some (decide (j = n))
  w : PySem.W.kitOne K (.ref D) (.ref (C 21)) = some (decide (famN n = 0))
  l : PySem.W.kitOne K (.ref D) (.ref (C 22)) = some (decide (famN n = 1))
  r : PySem.W.kitOne K (.ref D) (.ref (C 23)) = some (decide (famN n = 2))
  vV : PySem.W.kitOne K (.ref D) (.type "ValueError") = some (decide (famN n = 0))
  vL : PySem.W.kitOne K (.ref D) (.type "LookupError") = some (decide (famN n = 1))
  vA : PySem.W.kitOne K (.ref D) (.type "ArithmeticError") = some (decide (famN n = 2))
section
variable {P : Program} {w : World} {K : PySem.W.Frag} {mg : Str → Option Value} {base : Heap}
/-- what isinstance wants of a kept error -/
structure Kept (K : PySem.W.Frag) (H : Hp) (a D : Addr) (d : Option Addr) : Prop where
  at_ : H a = some (ExT a (.ref D) d)
  xd : ∀ dx, d = some dx → ∃ fs, H dx = some (.xd fs)
  cls : ExcC K D
theorem Kept.same {H H' : Hp} {a D : Addr} {d : Option Addr} (h : Kept K H a D d) (e : Same H H') : Kept K H' a D d := ⟨e _ _ h.at_, fun dx z => (h.xd dx z).elim fun fs q => ⟨fs, e _ _ q⟩, h.cls⟩
theorem data3 {H : Hp} {z : Addr} {a b c : Bool} (h : H z = some (.lst [.bl a, .bl b, .bl c])) : Dp K H (.ref z) (.list [.bool a, .bool b, .bool c]) := .lst (sqL h) (.cons (.bl _) (.cons (.bl _) (.cons (.bl _) .nil)))
theorem shp3 {a b c : Bool} : SeqAt.shaped (.list [.bool a, .bool b, .bool c]) = true := by cases a <;> cases b <;> cases c <;> decide
theorem eqq3 {a b c : Bool} : (!PyData.eqv (.list [.bool a, .bool b, .bool c]) (.list [.bool a, .bool b, .bool c])) = false := by cases a <;> cases b <;> cases c <;> decide
def sortW (n : Nat) : Str := (if n = 7 then "day" else (if n = 8 then "cond" else "other"))
def spSort (K : PySem.W.Frag) (C : Nat → Addr) : Sp := fun vs H Q _ => ∃ (a D : Addr) (d : Option Addr) (n : Nat), vs = [.ref a] ∧ Kept K H a D d ∧ KitF K D C n ∧ (n = 7 ∨ n = 8) ∧ ∀ H', Same H H' → Q (.str (sortW n)) H'
/-- three questions of a kept error: the answers in a list of its own -/
def tThree (K : PySem.W.Frag) (c0 c1 c2 : Value) : TE := fun σ H Q => ∃ (a D : Addr) (d : Option Addr) (b0 b1 b2 : Bool), σ[0]? = some (some (.ref a)) ∧ Kept K H a D d ∧ PySem.W.kitOne K (.ref D) c0 = some b0 ∧ PySem.W.kitOne K (.ref D) c1 = some b1 ∧ PySem.W.kitOne K (.ref D) c2 = some b2 ∧ ∀ p H', Same H H' → H' p = some (.lst [.bl b0, .bl b1, .bl b2]) → Q (.ref p) H'
def tCat3 (K : PySem.W.Frag) (c0 c1 c2 : Addr) : TE := fun σ H Q => ∃ (a D : Addr) (d : Option Addr) (b0 b1 b2 : Bool) (p : Addr) (xs : List V), σ[0]? = some (some (.ref a)) ∧ Kept K H a D d ∧ PySem.W.kitOne K (.ref D) (.ref c0) = some b0 ∧ PySem.W.kitOne K (.ref D) (.ref c1) = some b1 ∧ PySem.W.kitOne K (.ref D) (.ref c2) = some b2 ∧ σ[1]? = some (some (.ref p)) ∧ H p = some (.lst xs) ∧ (xs.length + 3 ≤ 100) ∧ ∀ p' H', Same H H' → H' p' = some (.lst (xs ++ [.bl b0, .bl b1, .bl b2])) → Q (.ref p') H'
def tWords (ws : List V) : TE := fun σ H Q => ∀ p H', Same H H' → H' p = some (.lst ws) → Q (.ref p) H'
def tCatW (i : Nat) (ws : List V) : TE := fun σ H Q => ∃ p xs, σ[i]? = some (some (.ref p)) ∧ H p = some (.lst xs) ∧ (xs.length + ws.length ≤ 100) ∧ ∀ p' H', Same H H' → H' p' = some (.lst (xs ++ ws)) → Q (.ref p') H'
def wsA : List V := [.str "name", .str "sum", .str "shares", .str "people", .str "goods", .str "text", .str "story", .str "day", .str "cond", .str "whom", .str "clause", .str "reading"]
def wsB : List V := [.str "word", .str "label", .str "days", .str "row", .str "person", .str "thing", .str "lost", .str "undo", .str "many"]
theorem ok_sort {C : Nat → Addr} {f : Addr} {fd : FuncData} {k : Nat} (B : Bi mg) (T : ClsF mg C) (D : Df K mg "_law_sort" sSort f fd ["_law_caught"]) : FnOk P w K mg base CX0 (k + 1) f fd ["_law_caught"] (spSort K C) := by
  refine D.fn.ok scSort (fun vs H Q E h => ?_) (fun cdv A outer s H vs Q E hr h => ?_)
  · obtain ⟨a, D, d, n, rfl, _⟩ := h
    rfl
  · obtain ⟨a, D, d, n, rfl, kp, KF, hn, q⟩ := h
    have hu := hr.units
    refine ⟨_, pss_cons (ps_set (i := 1) scSort.nd rfl (.inl rfl) (PE.wk (t' := tThree K (.ref (C 0)) (.ref (C 1)) (.ref (C 2))) (pe_lst (pa_cons (pe_callB call_isT (by rfl) B.isi boot_isinstance (pa_cons (pv 0) (pa_cons (pe_glob (v := .ref (C 0)) (by rfl) T.g0 rfl) pa_nil))) (pa_cons (pe_callB call_isT (by rfl) B.isi boot_isinstance (pa_cons (pv 0) (pa_cons (pe_glob (v := .ref (C 1)) (by rfl) T.g1 rfl) pa_nil))) (pa_cons (pe_callB call_isT (by rfl) B.isi boot_isinstance (pa_cons (pv 0) (pa_cons (pe_glob (v := .ref (C 2)) (by rfl) T.g2 rfl) pa_nil))) pa_nil)))) (by (rintro σ H Q ⟨a, D, d, b0, b1, b2, h0, kp, e0, e1, e2, q⟩; exact ⟨_, h0, a, D, d, _, _, _, rfl, kp.at_, kp.xd, kp.cls, .own _, e0, _, h0, a, D, d, _, _, _, rfl, kp.at_, kp.xd, kp.cls, .own _, e1, _, h0, a, D, d, _, _, _, rfl, kp.at_, kp.xd, kp.cls, .own _, e2, by show 3 ≤ sizeLine; decide, fun p n => q p _ (same_new n) upd_same⟩))))
      (pss_cons (ps_set (i := 1) scSort.nd rfl (.inl rfl) (PE.wk (t' := tCat3 K (C 3) (C 4) (C 5)) (pe_op op_cat (pv 1) (pe_lst (pa_cons (pe_callB call_isT (by rfl) B.isi boot_isinstance (pa_cons (pv 0) (pa_cons (pe_glob (v := .ref (C 3)) (by rfl) T.g3 rfl) pa_nil))) (pa_cons (pe_callB call_isT (by rfl) B.isi boot_isinstance (pa_cons (pv 0) (pa_cons (pe_glob (v := .ref (C 4)) (by rfl) T.g4 rfl) pa_nil))) (pa_cons (pe_callB call_isT (by rfl) B.isi boot_isinstance (pa_cons (pv 0) (pa_cons (pe_glob (v := .ref (C 5)) (by rfl) T.g5 rfl) pa_nil))) pa_nil))))) (by (rintro σ H Q ⟨a, D, d, b0, b1, b2, p, xs, h0, kp, e0, e1, e2, h1, l, sz, q⟩; exact ⟨_, h1, _, h0, a, D, d, _, _, _, rfl, kp.at_, kp.xd, kp.cls, .own _, e0, _, h0, a, D, d, _, _, _, rfl, kp.at_, kp.xd, kp.cls, .own _, e1, _, h0, a, D, d, _, _, _, rfl, kp.at_, kp.xd, kp.cls, .own _, e2, by show 3 ≤ sizeLine; decide, fun p1 n1 => ⟨p, p1, xs, _, rfl, rfl, same_new n1 _ _ l, upd_same, (by show xs.length + 3 ≤ sizeLine; exact Nat.le_trans sz (by decide)), fun p2 n2 => q p2 _ ((same_new n1).trans (same_new n2)) upd_same⟩⟩))))
      (pss_cons (ps_set (i := 1) scSort.nd rfl (.inl rfl) (PE.wk (t' := tCat3 K (C 6) (C 7) (C 8)) (pe_op op_cat (pv 1) (pe_lst (pa_cons (pe_callB call_isT (by rfl) B.isi boot_isinstance (pa_cons (pv 0) (pa_cons (pe_glob (v := .ref (C 6)) (by rfl) T.g6 rfl) pa_nil))) (pa_cons (pe_callB call_isT (by rfl) B.isi boot_isinstance (pa_cons (pv 0) (pa_cons (pe_glob (v := .ref (C 7)) (by rfl) T.g7 rfl) pa_nil))) (pa_cons (pe_callB call_isT (by rfl) B.isi boot_isinstance (pa_cons (pv 0) (pa_cons (pe_glob (v := .ref (C 8)) (by rfl) T.g8 rfl) pa_nil))) pa_nil))))) (by (rintro σ H Q ⟨a, D, d, b0, b1, b2, p, xs, h0, kp, e0, e1, e2, h1, l, sz, q⟩; exact ⟨_, h1, _, h0, a, D, d, _, _, _, rfl, kp.at_, kp.xd, kp.cls, .own _, e0, _, h0, a, D, d, _, _, _, rfl, kp.at_, kp.xd, kp.cls, .own _, e1, _, h0, a, D, d, _, _, _, rfl, kp.at_, kp.xd, kp.cls, .own _, e2, by show 3 ≤ sizeLine; decide, fun p1 n1 => ⟨p, p1, xs, _, rfl, rfl, same_new n1 _ _ l, upd_same, (by show xs.length + 3 ≤ sizeLine; exact Nat.le_trans sz (by decide)), fun p2 n2 => q p2 _ ((same_new n1).trans (same_new n2)) upd_same⟩⟩))))
      (pss_cons (ps_set (i := 1) scSort.nd rfl (.inl rfl) (PE.wk (t' := tCat3 K (C 9) (C 10) (C 11)) (pe_op op_cat (pv 1) (pe_lst (pa_cons (pe_callB call_isT (by rfl) B.isi boot_isinstance (pa_cons (pv 0) (pa_cons (pe_glob (v := .ref (C 9)) (by rfl) T.g9 rfl) pa_nil))) (pa_cons (pe_callB call_isT (by rfl) B.isi boot_isinstance (pa_cons (pv 0) (pa_cons (pe_glob (v := .ref (C 10)) (by rfl) T.g10 rfl) pa_nil))) (pa_cons (pe_callB call_isT (by rfl) B.isi boot_isinstance (pa_cons (pv 0) (pa_cons (pe_glob (v := .ref (C 11)) (by rfl) T.g11 rfl) pa_nil))) pa_nil))))) (by (rintro σ H Q ⟨a, D, d, b0, b1, b2, p, xs, h0, kp, e0, e1, e2, h1, l, sz, q⟩; exact ⟨_, h1, _, h0, a, D, d, _, _, _, rfl, kp.at_, kp.xd, kp.cls, .own _, e0, _, h0, a, D, d, _, _, _, rfl, kp.at_, kp.xd, kp.cls, .own _, e1, _, h0, a, D, d, _, _, _, rfl, kp.at_, kp.xd, kp.cls, .own _, e2, by show 3 ≤ sizeLine; decide, fun p1 n1 => ⟨p, p1, xs, _, rfl, rfl, same_new n1 _ _ l, upd_same, (by show xs.length + 3 ≤ sizeLine; exact Nat.le_trans sz (by decide)), fun p2 n2 => q p2 _ ((same_new n1).trans (same_new n2)) upd_same⟩⟩))))
      (pss_cons (ps_set (i := 1) scSort.nd rfl (.inl rfl) (PE.wk (t' := tCat3 K (C 12) (C 13) (C 14)) (pe_op op_cat (pv 1) (pe_lst (pa_cons (pe_callB call_isT (by rfl) B.isi boot_isinstance (pa_cons (pv 0) (pa_cons (pe_glob (v := .ref (C 12)) (by rfl) T.g12 rfl) pa_nil))) (pa_cons (pe_callB call_isT (by rfl) B.isi boot_isinstance (pa_cons (pv 0) (pa_cons (pe_glob (v := .ref (C 13)) (by rfl) T.g13 rfl) pa_nil))) (pa_cons (pe_callB call_isT (by rfl) B.isi boot_isinstance (pa_cons (pv 0) (pa_cons (pe_glob (v := .ref (C 14)) (by rfl) T.g14 rfl) pa_nil))) pa_nil))))) (by (rintro σ H Q ⟨a, D, d, b0, b1, b2, p, xs, h0, kp, e0, e1, e2, h1, l, sz, q⟩; exact ⟨_, h1, _, h0, a, D, d, _, _, _, rfl, kp.at_, kp.xd, kp.cls, .own _, e0, _, h0, a, D, d, _, _, _, rfl, kp.at_, kp.xd, kp.cls, .own _, e1, _, h0, a, D, d, _, _, _, rfl, kp.at_, kp.xd, kp.cls, .own _, e2, by show 3 ≤ sizeLine; decide, fun p1 n1 => ⟨p, p1, xs, _, rfl, rfl, same_new n1 _ _ l, upd_same, (by show xs.length + 3 ≤ sizeLine; exact Nat.le_trans sz (by decide)), fun p2 n2 => q p2 _ ((same_new n1).trans (same_new n2)) upd_same⟩⟩))))
      (pss_cons (ps_set (i := 1) scSort.nd rfl (.inl rfl) (PE.wk (t' := tCat3 K (C 15) (C 16) (C 17)) (pe_op op_cat (pv 1) (pe_lst (pa_cons (pe_callB call_isT (by rfl) B.isi boot_isinstance (pa_cons (pv 0) (pa_cons (pe_glob (v := .ref (C 15)) (by rfl) T.g15 rfl) pa_nil))) (pa_cons (pe_callB call_isT (by rfl) B.isi boot_isinstance (pa_cons (pv 0) (pa_cons (pe_glob (v := .ref (C 16)) (by rfl) T.g16 rfl) pa_nil))) (pa_cons (pe_callB call_isT (by rfl) B.isi boot_isinstance (pa_cons (pv 0) (pa_cons (pe_glob (v := .ref (C 17)) (by rfl) T.g17 rfl) pa_nil))) pa_nil))))) (by (rintro σ H Q ⟨a, D, d, b0, b1, b2, p, xs, h0, kp, e0, e1, e2, h1, l, sz, q⟩; exact ⟨_, h1, _, h0, a, D, d, _, _, _, rfl, kp.at_, kp.xd, kp.cls, .own _, e0, _, h0, a, D, d, _, _, _, rfl, kp.at_, kp.xd, kp.cls, .own _, e1, _, h0, a, D, d, _, _, _, rfl, kp.at_, kp.xd, kp.cls, .own _, e2, by show 3 ≤ sizeLine; decide, fun p1 n1 => ⟨p, p1, xs, _, rfl, rfl, same_new n1 _ _ l, upd_same, (by show xs.length + 3 ≤ sizeLine; exact Nat.le_trans sz (by decide)), fun p2 n2 => q p2 _ ((same_new n1).trans (same_new n2)) upd_same⟩⟩))))
      (pss_cons (ps_set (i := 1) scSort.nd rfl (.inl rfl) (PE.wk (t' := tCat3 K (C 18) (C 19) (C 20)) (pe_op op_cat (pv 1) (pe_lst (pa_cons (pe_callB call_isT (by rfl) B.isi boot_isinstance (pa_cons (pv 0) (pa_cons (pe_glob (v := .ref (C 18)) (by rfl) T.g18 rfl) pa_nil))) (pa_cons (pe_callB call_isT (by rfl) B.isi boot_isinstance (pa_cons (pv 0) (pa_cons (pe_glob (v := .ref (C 19)) (by rfl) T.g19 rfl) pa_nil))) (pa_cons (pe_callB call_isT (by rfl) B.isi boot_isinstance (pa_cons (pv 0) (pa_cons (pe_glob (v := .ref (C 20)) (by rfl) T.g20 rfl) pa_nil))) pa_nil))))) (by (rintro σ H Q ⟨a, D, d, b0, b1, b2, p, xs, h0, kp, e0, e1, e2, h1, l, sz, q⟩; exact ⟨_, h1, _, h0, a, D, d, _, _, _, rfl, kp.at_, kp.xd, kp.cls, .own _, e0, _, h0, a, D, d, _, _, _, rfl, kp.at_, kp.xd, kp.cls, .own _, e1, _, h0, a, D, d, _, _, _, rfl, kp.at_, kp.xd, kp.cls, .own _, e2, by show 3 ≤ sizeLine; decide, fun p1 n1 => ⟨p, p1, xs, _, rfl, rfl, same_new n1 _ _ l, upd_same, (by show xs.length + 3 ≤ sizeLine; exact Nat.le_trans sz (by decide)), fun p2 n2 => q p2 _ ((same_new n1).trans (same_new n2)) upd_same⟩⟩))))
      (pss_cons (ps_set (i := 2) scSort.nd rfl (.inl rfl) (PE.wk (t' := tThree K (.ref (C 21)) (.ref (C 22)) (.ref (C 23))) (pe_lst (pa_cons (pe_callB call_isT (by rfl) B.isi boot_isinstance (pa_cons (pv 0) (pa_cons (pe_glob (v := .ref (C 21)) (by rfl) T.g21 rfl) pa_nil))) (pa_cons (pe_callB call_isT (by rfl) B.isi boot_isinstance (pa_cons (pv 0) (pa_cons (pe_glob (v := .ref (C 22)) (by rfl) T.g22 rfl) pa_nil))) (pa_cons (pe_callB call_isT (by rfl) B.isi boot_isinstance (pa_cons (pv 0) (pa_cons (pe_glob (v := .ref (C 23)) (by rfl) T.g23 rfl) pa_nil))) pa_nil)))) (by (rintro σ H Q ⟨a, D, d, b0, b1, b2, h0, kp, e0, e1, e2, q⟩; exact ⟨_, h0, a, D, d, _, _, _, rfl, kp.at_, kp.xd, kp.cls, .own _, e0, _, h0, a, D, d, _, _, _, rfl, kp.at_, kp.xd, kp.cls, .own _, e1, _, h0, a, D, d, _, _, _, rfl, kp.at_, kp.xd, kp.cls, .own _, e2, by show 3 ≤ sizeLine; decide, fun p n => q p _ (same_new n) upd_same⟩))))
      (pss_cons (ps_set (i := 3) scSort.nd rfl (.inl rfl) (PE.wk (t' := tThree K (.type "ValueError") (.type "LookupError") (.type "ArithmeticError")) (pe_lst (pa_cons (pe_callB call_isT (by rfl) B.isi boot_isinstance (pa_cons (pv 0) (pa_cons (pe_bltn (v := .ty "ValueError") (by rfl) T.bV (by decide +kernel) rfl) pa_nil))) (pa_cons (pe_callB call_isT (by rfl) B.isi boot_isinstance (pa_cons (pv 0) (pa_cons (pe_bltn (v := .ty "LookupError") (by rfl) T.bL (by decide +kernel) rfl) pa_nil))) (pa_cons (pe_callB call_isT (by rfl) B.isi boot_isinstance (pa_cons (pv 0) (pa_cons (pe_bltn (v := .ty "ArithmeticError") (by rfl) T.bA (by decide +kernel) rfl) pa_nil))) pa_nil)))) (by (rintro σ H Q ⟨a, D, d, b0, b1, b2, h0, kp, e0, e1, e2, q⟩; exact ⟨_, h0, a, D, d, _, _, _, rfl, kp.at_, kp.xd, kp.cls, .ty _, e0, _, h0, a, D, d, _, _, _, rfl, kp.at_, kp.xd, kp.cls, .ty _, e1, _, h0, a, D, d, _, _, _, rfl, kp.at_, kp.xd, kp.cls, .ty _, e2, by show 3 ≤ sizeLine; decide, fun p n => q p _ (same_new n) upd_same⟩))))
      (pss_cons (ps_if (PW.pt (pw_or (pt_cmpR op_ne (pe_bm PySem.F.plainAttrs_list PySem.F.slot_list_count PySem.F.type_list_count mt_cnt (pv 1) (pa_cons pe_bl pa_nil)) pe_int (nomark _)) (pw_or (pt_cmpR (op_neD hu) (pv 2) (pv 3) (nomark _)) (pw_or1 (pt_cmpR op_ne (pe_bm PySem.F.plainAttrs_list PySem.F.slot_list_count PySem.F.type_list_count mt_cnt (pv 2) (pa_cons pe_bl pa_nil)) pe_int (nomark _)))))) (pss_one (ps_ret pe_str)) pss_nil)
      (pss_cons (ps_set (i := 4) scSort.nd rfl (.inl rfl) (pe_bm PySem.F.plainAttrs_list PySem.F.slot_list_index PySem.F.type_list_index mt_index (pv 1) (pa_cons pe_bl pa_nil)))
      (pss_cons (ps_if (pt_cmpR op_ne (pe_bm PySem.F.plainAttrs_list PySem.F.slot_list_index PySem.F.type_list_index mt_index (pv 2) (pa_cons pe_bl pa_nil)) (pe_op op_add (pe_callTy call_int1 (by rfl) B.int boot_int (pa_cons (pe_cmpR op_gt (pv 4) pe_int (nomark _)) pa_nil)) (pe_callTy call_int1 (by rfl) B.int boot_int (pa_cons (pe_cmpR op_gt (pv 4) pe_int (nomark _)) pa_nil))) (nomark _)) (pss_one (ps_ret pe_str)) pss_nil)
      (pss_cons (ps_set (i := 5) scSort.nd rfl (.inl rfl) (PE.wk (t' := tWords wsA) (pe_lst (pa_cons pe_str (pa_cons pe_str (pa_cons pe_str (pa_cons pe_str (pa_cons pe_str (pa_cons pe_str (pa_cons pe_str (pa_cons pe_str (pa_cons pe_str (pa_cons pe_str (pa_cons pe_str (pa_cons pe_str pa_nil))))))))))))) (by (intro σ H Q q; exact ⟨by show wsA.length ≤ sizeLine; decide, fun p n => q p _ (same_new n) upd_same⟩))))
      (pss_one (ps_ret (pe_ix (r := rIxL K) ix_list (PE.wk (t' := tCatW 5 wsB) (pe_op op_cat (pv 5) (pe_lst (pa_cons pe_str (pa_cons pe_str (pa_cons pe_str (pa_cons pe_str (pa_cons pe_str (pa_cons pe_str (pa_cons pe_str (pa_cons pe_str (pa_cons pe_str pa_nil))))))))))) (by (rintro σ H Q ⟨p, xs, h1, l, sz, q⟩; exact ⟨_, h1, by show 9 ≤ sizeLine; decide, fun p1 n1 => ⟨p, p1, xs, _, rfl, rfl, same_new n1 _ _ l, upd_same, (by show xs.length + 9 ≤ sizeLine; exact Nat.le_trans sz (by decide)), fun p2 n2 => q p2 _ ((same_new n1).trans (same_new n2)) upd_same⟩⟩))) (pv 4) (fun _ _ => rfl)))))))))))))))), ?_⟩
    refine ⟨a, D, d, _, _, _, rfl, kp, KF.kit 0 (by decide), KF.kit 1 (by decide), KF.kit 2 (by decide), fun p0 H0 s0 l0 => ?_⟩
    refine ⟨a, D, d, _, _, _, p0, _, rfl, kp.same s0, KF.kit 3 (by decide), KF.kit 4 (by decide), KF.kit 5 (by decide), rfl, l0, Nat.le_of_ble_eq_true rfl, fun p1 H1 t1 l1 => ?_⟩
    have s1 := s0.trans t1
    refine ⟨a, D, d, _, _, _, p1, _, rfl, kp.same s1, KF.kit 6 (by decide), KF.kit 7 (by decide), KF.kit 8 (by decide), rfl, l1, Nat.le_of_ble_eq_true rfl, fun p2 H2 t2 l2 => ?_⟩
    have s2 := s1.trans t2
    refine ⟨a, D, d, _, _, _, p2, _, rfl, kp.same s2, KF.kit 9 (by decide), KF.kit 10 (by decide), KF.kit 11 (by decide), rfl, l2, Nat.le_of_ble_eq_true rfl, fun p3 H3 t3 l3 => ?_⟩
    have s3 := s2.trans t3
    refine ⟨a, D, d, _, _, _, p3, _, rfl, kp.same s3, KF.kit 12 (by decide), KF.kit 13 (by decide), KF.kit 14 (by decide), rfl, l3, Nat.le_of_ble_eq_true rfl, fun p4 H4 t4 l4 => ?_⟩
    have s4 := s3.trans t4
    refine ⟨a, D, d, _, _, _, p4, _, rfl, kp.same s4, KF.kit 15 (by decide), KF.kit 16 (by decide), KF.kit 17 (by decide), rfl, l4, Nat.le_of_ble_eq_true rfl, fun p5 H5 t5 l5 => ?_⟩
    have s5 := s4.trans t5
    refine ⟨a, D, d, _, _, _, p5, _, rfl, kp.same s5, KF.kit 18 (by decide), KF.kit 19 (by decide), KF.kit 20 (by decide), rfl, l5, Nat.le_of_ble_eq_true rfl, fun p6 H6 t6 l6 => ?_⟩
    have s6 := s5.trans t6
    have k6 := kp.same s6
    refine ⟨a, D, d, _, _, _, rfl, k6, KF.w, KF.l, KF.r, fun f1 H7 t7 lf => ?_⟩
    refine ⟨a, D, d, _, _, _, rfl, k6.same t7, KF.vV, KF.vL, KF.vA, fun f2 H8 t8 lo => ?_⟩
    have l8 := t8 _ _ (t7 _ _ l6)
    have lf := t8 _ _ lf
    have s8 := s6.trans (t7.trans t8)
    clear l0 l1 l2 l3 l4 l5 l6 s0 s1 s2 s3 s4 s5 s6 t1 t2 t3 t4 t5 t6 t7 t8 kp k6
    rcases hn with rfl | rfl
    · refine ⟨_, rfl, .inl ⟨rfl, _, sqL l8⟩, p6, _, _, rfl, rfl, sqL l8, rfl, rfl, rfl, _, rfl, iteF ?_⟩
      refine ⟨_, rfl, _, rfl, _, _, data3 lf, data3 lo, shp3, shp3, _, rfl, ?_⟩
      rw [eqq3]
      refine iteF ⟨_, rfl, .inl ⟨rfl, _, sqL lf⟩, f1, _, _, rfl, rfl, sqL lf, rfl, rfl, rfl, _, rfl, iteF ?_⟩
      refine ⟨_, rfl, .inl ⟨rfl, _, sqL l8⟩, p6, _, _, 7, _, rfl, rfl, sqL l8, rfl, rfl, rfl, rfl, (fun m z hm hz => by
        match m, hm, hz with
        | 0, _, hz => (cases hz; rfl)
        | 1, _, hz => (cases hz; rfl)
        | 2, _, hz => (cases hz; rfl)
        | 3, _, hz => (cases hz; rfl)
        | 4, _, hz => (cases hz; rfl)
        | 5, _, hz => (cases hz; rfl)
        | 6, _, hz => (cases hz; rfl)
        | m + 7, hm, _ => exact absurd hm (by omega)), ?_⟩
      refine ⟨_, rfl, .inl ⟨rfl, _, sqL lf⟩, f1, _, _, 0, _, rfl, rfl, sqL lf, rfl, rfl, rfl, rfl, (fun m z hm hz => by
        match m, hm, hz with
        | m + 0, hm, _ => exact absurd hm (by omega)), ?_⟩
      refine ⟨_, rfl, 7, 15, rfl, rfl, .inr ⟨false, rfl, ?_⟩⟩
      refine ⟨_, rfl, 7, 19, rfl, rfl, .inr ⟨false, rfl, ?_⟩⟩
      refine ⟨_, _, rfl, rfl, rfl, _, rfl, iteF ?_⟩
      intro w1 H9 t9 m1
      refine ⟨w1, _, rfl, m1, Nat.le_of_ble_eq_true rfl, fun w2 H10 t10 m2 => ?_⟩
      exact ⟨_, rfl, w2, _, 7, .str "day", rfl, rfl, sqL m2, rfl, q H10 (s8.trans (t9.trans t10))⟩
    · refine ⟨_, rfl, .inl ⟨rfl, _, sqL l8⟩, p6, _, _, rfl, rfl, sqL l8, rfl, rfl, rfl, _, rfl, iteF ?_⟩
      refine ⟨_, rfl, _, rfl, _, _, data3 lf, data3 lo, shp3, shp3, _, rfl, ?_⟩
      rw [eqq3]
      refine iteF ⟨_, rfl, .inl ⟨rfl, _, sqL lf⟩, f1, _, _, rfl, rfl, sqL lf, rfl, rfl, rfl, _, rfl, iteF ?_⟩
      refine ⟨_, rfl, .inl ⟨rfl, _, sqL l8⟩, p6, _, _, 8, _, rfl, rfl, sqL l8, rfl, rfl, rfl, rfl, (fun m z hm hz => by
        match m, hm, hz with
        | 0, _, hz => (cases hz; rfl)
        | 1, _, hz => (cases hz; rfl)
        | 2, _, hz => (cases hz; rfl)
        | 3, _, hz => (cases hz; rfl)
        | 4, _, hz => (cases hz; rfl)
        | 5, _, hz => (cases hz; rfl)
        | 6, _, hz => (cases hz; rfl)
        | 7, _, hz => (cases hz; rfl)
        | m + 8, hm, _ => exact absurd hm (by omega)), ?_⟩
      refine ⟨_, rfl, .inl ⟨rfl, _, sqL lf⟩, f1, _, _, 0, _, rfl, rfl, sqL lf, rfl, rfl, rfl, rfl, (fun m z hm hz => by
        match m, hm, hz with
        | m + 0, hm, _ => exact absurd hm (by omega)), ?_⟩
      refine ⟨_, rfl, 8, 15, rfl, rfl, .inr ⟨false, rfl, ?_⟩⟩
      refine ⟨_, rfl, 8, 19, rfl, rfl, .inr ⟨false, rfl, ?_⟩⟩
      refine ⟨_, _, rfl, rfl, rfl, _, rfl, iteF ?_⟩
      intro w1 H9 t9 m1
      refine ⟨w1, _, rfl, m1, Nat.le_of_ble_eq_true rfl, fun w2 H10 t10 m2 => ?_⟩
      exact ⟨_, rfl, w2, _, 8, .str "cond", rfl, rfl, sqL m2, rfl, q H10 (s8.trans (t9.trans t10))⟩
end
end WdQ

set_option Elab.async false
set_option linter.all false
set_option maxRecDepth 100000
set_option maxHeartbeats 4000000
namespace Wd
open PySem PySem.Spec PyProof.Rows L2 WdM
/-- as wGot, for several clauses «except x as n», one behind the other -/
def wGotM (K : PySem.W.Frag) (i : Nat) (D : Ends) : List (Value × (Addr → Value → Option Addr → TS)) → WX
  | [] => fun _ _ _ _ => False
  | (c, ts) :: r => fun cls d σ H => ∃ b, PySem.W.exmOne K cls c = some b ∧ (b = true → ∀ a, H a = none → ts a cls d { nx := fun σ' H' => D.nx (σ'.set i none) (upd H' a (ExT a cls d)), rt := fun _ _ => False, bk := fun _ _ => False, ct := fun _ _ => False } (σ.set i (some (.ref a))) H) ∧ (b = false → wGotM K i D r cls d σ H)
inductive HdsGot (X : Cx) (n : Str) : List ExceptHandler → List (Value × (Addr → Value → Option Addr → TS)) → Prop
  | nil : HdsGot X n [] []
  | cons {x : Str} {c : Value} {ts : Addr → Value → Option Addr → TS} {b0 : Stmt} {suite : List Stmt} {np pos' : Pos} {hds : List ExceptHandler} {l : List (Value × (Addr → Value → Option Addr → TS))} (hc : Names X x c)
      (hsu : ∀ (a : Addr) (oe : Obj) (cls : Value) (d : Option Addr) (pn : List (Addr × Obj)), Zc cls d oe → (∃ vs, oe.data = .fields vs) → PSs (X.suite a ((a, oe) :: pn)) (b0 :: suite) (ts a cls d)) (r : HdsGot X n hds l) :
      HdsGot X n (.ExceptHandler (some (.Name x np)) (some n) (b0 :: suite) pos' :: hds) ((c, ts) :: l)
section
variable {X : Cx} {n : Str} {i : Nat} {body : List Stmt} {h0 : ExceptHandler} {hds : List ExceptHandler} {l : List (Value × (Addr → Value → Option Addr → TS))} {pos : Pos} {tb : WX → TS}
theorem ps_try_gotM (top : X.stack = X.env :: X.outer) (fr : X.env.frame = some X.env.locals) (hex : X.ex = []) (nd : X.N.Nodup) (hi : X.N[i]? = some n) (loc : X.env.kindOf n = some .local)
    (runs : ∀ (W : WX) (pn : List (Addr × Obj)) (xe : Value → Shared → Prop), Takes (X.tr pn xe) W → PassesOwn (model X.prog X.w) X.A X.env xe → PSs (X.tr pn xe) body (tb W))
    (hh : HdsGot X n (h0 :: hds) l) :
    PS X (.Try body (h0 :: hds) [] [] pos) (fun D σ H => tb (wGotM X.K i D l) D σ H) where
  run := by
    intro pins s σ H D I h
    have ok := I.ok
    have frames : X.A.frames = some (X.env :: X.outer) := by rw [ok.frames, top]
    refine wpAny_Try_except (wpAny_mono ((runs (wGotM X.K i D l) (X.pn ++ pins) (fun e s₁ => wpAny (model X.prog X.w) X.A (noteFrame e X.env) (fun _ s₂ => wpAny (model X.prog X.w) X.A (setFlight e none) (fun _ s₃ =>
      wpAny (model X.prog X.w) X.A (handleBy e X.env (h0 :: hds)) (SP X pins D) X.xe s₃) X.xe s₂) X.xe s₁) ?_ PassesOwn.looking).run [] s σ H D (I.toTry _) h) ?_ (fun e s1 he => he))
    · rintro _ s' ⟨a, B, sI, pins', σ', H', cls, d, rfl, J0, nb, up, sky, na, os, ag, wish⟩
      have J : Inv X pins σ' H' sI := J0.ofTry ok
      show wpAny (model X.prog X.w) X.A (noteFrame (Value.ref a) X.env) _ _ _
      refine Sky.land Zc.steady frames fr (top ▸ sky) fun h3 fl3 up3 => ?_
      have J3 : Inv X pins σ' H' { s' with heap := h3 } := Inv.landed J nb fl3.1 (up.trans up3) os ag
      obtain ⟨oe3, vs3, g3, z3, d3⟩ := fl3.there
      have gone : B.get? a = none := fl3.2.1
      have out : a ∉ frs (X.env :: X.outer) := fun m => by
        obtain ⟨_, o, e, no⟩ := fl3.2.2.1.mem m
        rw [g3] at e
        cases e
        exact no _ d3
      have nL : a ≠ X.env.locals := fun z => out (List.mem_filterMap.mpr ⟨X.env, List.mem_cons_self, by rw [fr, z]⟩)
      have nF : a ∉ X.fs := fun m => by
        obtain ⟨e, he, q⟩ := List.mem_filterMap.mp m
        exact out (List.mem_filterMap.mpr ⟨e, List.mem_cons_of_mem _ he, q⟩)
      have fresh : ∀ b o, sI.heap.get? b = some o → b ∉ frs X.stack → b ≠ a := fun b o e m z => by
        have q := nb b o e m
        rw [z, gone] at q
        cases q
      have n0 : X.s_0.heap.get? a = Option.none := by
        cases e : Heap.get? X.s_0.heap a with
        | none => rfl
        | some o =>
          obtain ⟨o', e'⟩ := J.base.there a o e (by rw [hex]; exact fun z => nomatch z)
          exact absurd rfl (fresh a o' e' (by rw [top]; exact out))
      have npin : ∀ p ∈ X.pn ++ pins, p.1 ≠ a := fun p hp => by
        obtain ⟨e1, _, e3, e4, _⟩ := J.pin p hp
        refine fresh p.1 p.2 e1 (fun m => ?_)
        rw [top] at m
        obtain ⟨e, he, q⟩ := List.mem_filterMap.mp m
        rcases List.mem_cons.mp he with rfl | he
        · rw [fr] at q
          exact e3 (Option.some.inj q).symm
        · exact e4 (List.mem_filterMap.mpr ⟨e, he, q⟩)
      have S3 := J3.suite g3 d3 na nL nF
      have go : ∀ {hds' : List ExceptHandler} {l' : List (Value × (Addr → Value → Option Addr → TS))}, HdsGot X n hds' l' → wGotM X.K i D l' cls d σ' H' →
          wpAny (model X.prog X.w) X.A (handleBy (.ref a) X.env hds') (SP X pins D) X.xe { s' with heap := h3 } := by
        intro hds' l' hk
        induction hk with
        | nil =>
          intro w
          exact w.elim
        | @cons x c ts b0 suite np pos' hds2 l2 hc hsu r ih =>
          intro w
          obtain ⟨b, is, hyes, hno⟩ := w
          refine wpAny_handleBy_cons (codeAny_handlers_test ?_) (fun z => by cases z)
          have isCls : PySem.W.Looks (model X.prog X.w) h3 (typeOf (.ref a)) cls := fun A Q E s k q => wpAny_typeOf_ref (k _ _ g3) (by rw [z3.1]; exact q)
          have matches_ := PySem.W.exm_one (M := model X.prog X.w) J3.kIn isCls is
          have named : ∀ {Q : Value → Shared → Prop} {E : Value → Shared → Prop}, Q c { s' with heap := h3 } → wpAny (model X.prog X.w) (X.A.mark (some (.ref a))) (eval (.Name x np) X.env) Q E { s' with heap := h3 } := fun {Q E} q => by
            rcases hc with ⟨gl, nb2, own | ⟨no, blt, nn⟩⟩
            · exact ld_glob (X := X.suite a ((a, oe3) :: (X.pn ++ pins))) S3 gl own q nb2
            · exact ld_blt (X := X.suite a ((a, oe3) :: (X.pn ++ pins))) S3 gl no blt q nn nb2
          refine named (matches_.here ?_)
          cases b with
          | false =>
            show wpAny _ X.A (handleBy (.ref a) X.env hds2) _ _ _
            exact ih (hno rfl)
          | true =>
          refine codeAny_handlers_suite_as (HandSPX.lands_againZ fl3 fun h4 fl4 up4 => ?_)
          have J4 : Inv X pins σ' H' { s' with heap := h4 } := Inv.landed J nb fl4.1 ((up.trans up3).trans up4) os ag
          obtain ⟨oe4, vs4, g4, z4, d4⟩ := fl4.there
          refine store_ok (X := X.suite a ((a, oe4) :: (X.pn ++ pins))) (v := .ref a) (J4.suite g4 d4 na nL nF) nd hi (.inl loc) rfl (fun s5 S5 => ?_) (.inr loc)
          refine wpAny_mono ((hsu a oe4 cls d (X.pn ++ pins) z4 ⟨_, d4⟩).run [] s5 _ H' _ S5 (hyes rfl a na)) (fun f s6 ends => ?_) (fun _ _ z => False.elim z)
          cases f with
          | next =>
            obtain ⟨σ6, H6, S6, q6⟩ := ends
            have K6 : Inv X ((a, oe4) :: pins) σ6 H6 s6 := { ok := ok, os := S6.os, bare := S6.bare, base := S6.base, loc := S6.loc, cell := S6.cell, free := S6.free, freeC := S6.freeC, hok := S6.hok, len := S6.len, pin := fun p hp => S6.pin p (by
              rw [List.append_nil]
              rcases List.mem_append.mp hp with h | h
              · exact List.mem_cons_of_mem _ (List.mem_append_left _ h)
              · rcases List.mem_cons.mp h with rfl | h
                · exact List.mem_cons_self
                · exact List.mem_cons_of_mem _ (List.mem_append_right _ h)) }
            exact gone_ok K6 nd hi loc fun s7 K7 => ⟨_, _, track K7 hex n0 npin z4 d4, q6⟩
          | brk => exact ends.elim fun _ e => e.elim fun _ e => e.2.elim
          | cont => exact ends.elim fun _ e => e.elim fun _ e => e.2.elim
          | ret u => exact ends.elim fun _ e => e.elim fun _ e => e.elim fun _ e => e.2.2.elim
      exact go hh wish
    · intro f s1 ends
      cases f with
      | next => exact ends.elim fun σ' e => e.elim fun H' e => wpAny_execs_nil ⟨σ', H', e.1.ofTry ok, e.2⟩
      | brk => exact ends.elim fun σ' e => e.elim fun H' e => ⟨σ', H', e.1.ofTry ok, e.2⟩
      | cont => exact ends.elim fun σ' e => e.elim fun H' e => ⟨σ', H', e.1.ofTry ok, e.2⟩
      | ret u => exact ends.elim fun v e => e.elim fun σ' e => e.elim fun H' e => ⟨v, σ', H', e.1.ofTry ok, e.2⟩
end
end Wd

set_option Elab.async false
set_option linter.all false
set_option maxRecDepth 100000
set_option maxHeartbeats 4000000
set_option exponentiation.threshold 5000
namespace WdQ
open PySem PySem.Spec PyProof.Rows L2 WdM Wd
abbrev sRef : Stmt := topS 85
abbrev sRt : Stmt := topS 86
theorem scRef : FnScope ["_law_parts", "_law_caught", "_law_found", "e"] ["_law_parts"] (defScope sRef) := ⟨rfl, rfl, rfl, by decide +kernel, rfl, by decide +kernel, by decide +kernel⟩
theorem scRt : FnScope ["_law_home", "_law_tale", "_law_thing", "_law_found", "_law_due"] ["_law_home", "_law_tale", "_law_thing"] (defScope sRt) := ⟨rfl, rfl, rfl, by decide +kernel, rfl, by decide +kernel, by decide +kernel⟩
theorem condNB_yes {d : PyData} (h : condB d = true) : condNB d = true := by cases d <;> first | rfl | exact h
theorem condNB_no {d : PyData} (h : condB d = false) (n : d ≠ .none) : condNB d = false := by cases d <;> first | exact absurd rfl n | exact h
section
variable {P : Program} {w : World} {K : PySem.W.Frag} {mg : Str → Option Value} {base : Heap} {CC CD CW CL fE : Addr}
def spRef (K : PySem.W.Frag) : Sp := fun vs H Q _ => ∃ (S : List Addr) (t : Addr) (h v st x : V) (d e : PyData), vs = [.ref t] ∧ SqT K H t [h, v, st, x] ∧ Dz S K H v d ∧ Sml d ∧ Dz S K H x e ∧
  ((condNB d = false ∧ ∀ H', Same H H' → Q (.str "cond") H') ∨ (condNB d = true ∧ dayB e = false ∧ ∀ H', Same H H' → Q (.str "day") H'))
theorem ok_ref {C : Nat → Addr} {f fC fO : Addr} {fd fdC fdO : FuncData} {dC : List Value} (B : Bi mg) (TN : ErN K mg "NoCond" CC CW) (TD : ErC K mg "NoDay" "thing" CD fE CW) (TC : ClsF mg C) (K7 : KitF K CD C 7) (K8 : KitF K CC C 8) (gW : mg "WordError" = some (.ref CW)) (gL : mg "LostError" = some (.ref CL))
    (D : Df K mg "_law_refused" sRef f fd ["_law_parts"]) (DO : Df K mg "_law_sort" sSort fO fdO ["_law_caught"])
    (gC : mg "comes" = some (.ref fC)) (kC : PySem.W.keepIn K (.ref fC) = true) (GC : FnOk P w K mg base (L2.CX P w) 13 fC fdC ["house", "cond", "story", "wait"] (spComes0 K CC CD)) (bC : Binds K fdC ["house", "cond", "story", "wait"] dC) (vC : Vals [] dC) :
    FnOk P w K mg base CX0 14 f fd ["_law_parts"] (spRef K) := by
  have GO : FnOk P w K mg base CX0 1 fO fdO ["_law_caught"] (spSort K C) := ok_sort (k := 0) B TC DO
  refine D.fn.ok scRef (fun vs H Q E h => ?_) (fun cdv A outer s H vs Q E hr h => ?_)
  · obtain ⟨S, t, h, v, st, x, d, e, rfl, _⟩ := h
    rfl
  · obtain ⟨S, t, h, v, st, x, d, e, rfl, ht, dz, sm, dx, hc⟩ := h
    have r1 : Room 1 _ := hr.mono (by omega)
    refine ⟨_, pss_cons (ps_set (i := 1) scRef.nd rfl (.inl rfl) pe_non)
      (pss_cons (ps_set (i := 2) scRef.nd rfl (.inl rfl) pe_non)
      (pss_cons (ps_try_gotM (i := 3) rfl rfl rfl scRef.nd rfl rfl
          (fun W pn xe tk _ => pss_one (ps_set (i := 2) scRef.nd rfl (.inl rfl) (pe_callSD GC hr (by rfl) gC kC bC vC (fun σ => passAt tk σ)
            (pa_cons (pe_ix (r := rIxT K) ix_tup (pv 0) pe_int (fun _ _ => rfl)) (pa_cons (pe_ix (r := rIxT K) ix_tup (pv 0) pe_int (fun _ _ => rfl)) (pa_cons (pe_ix (r := rIxT K) ix_tup (pv 0) pe_int (fun _ _ => rfl)) (pa_cons (pe_ix (r := rIxT K) ix_tup (pv 0) pe_int (fun _ _ => rfl)) pa_nil)))))))
          (.cons (c := .ref CW) ⟨rfl, by decide, .inl gW⟩ (fun a oe cls d pn _ _ => pss_one (ps_set (i := 1) scRef.nd rfl (.inl rfl) (pv 3)))
          (.cons (c := .ref CL) ⟨rfl, by decide, .inl gL⟩ (fun a oe cls d pn _ _ => pss_one (ps_set (i := 1) scRef.nd rfl (.inl rfl) (pv 3))) .nil)))
      (pss_cons (ps_if (pt_cmpR op_isN (pv 1) pe_non (nomark _)) pss_noS pss_nil)
      (pss_one (ps_ret (pe_call GO r1 (by rfl) DO.mg DO.fn.kp DO.bd .nil pass0 (pa_cons (pv 1) pa_nil))))))), ?_⟩
    refine ⟨_, rfl, t, _, 0, h, rfl, rfl, ht, atI_nat (j := 0) rfl, _, rfl, t, _, 1, v, rfl, rfl, ht, atI_nat (j := 1) rfl, _, rfl, t, _, 2, st, rfl, rfl, ht, atI_nat (j := 2) rfl, _, rfl, t, _, 3, x, rfl, rfl, ht, atI_nat (j := 3) rfl, ?_⟩
    refine ⟨S, h, v, st, x, d, e, rfl, dz, sm, dx, ?_⟩
    rcases hc with ⟨bad, q⟩ | ⟨good, bad, q⟩
    · refine .inl ⟨bad, fun H1 s1 => ⟨true, TN.m, fun _ e he => ⟨_, rfl, ?_⟩, fun z => nomatch z⟩⟩
      have s2 : Same H (upd H1 e (ExT e (.ref CC) none)) := s1.trans (same_new he)
      have l2 : (upd H1 e (ExT e (.ref CC) none)) e = some (ExT e (.ref CC) none) := upd_same
      exact ⟨_, rfl, rfl, _, rfl, iteF ⟨_, rfl, e, CC, none, 8, rfl, ⟨l2, fun dx z => (nomatch z), TN.c⟩, K8, .inr rfl, fun H3 s3 => q H3 (s2.trans s3)⟩⟩
    · refine .inr ⟨good, bad, fun H1 dd s1 ndd => ⟨true, TD.m, fun _ e he => ⟨_, rfl, ?_⟩, fun z => nomatch z⟩⟩
      have s2 : Same H (upd (upd H1 dd (.xd [("thing", x)])) e (ExT e (.ref CD) (some dd))) := s1.trans ((same_new ndd).trans (same_new he))
      have l2 : (upd (upd H1 dd (.xd [("thing", x)])) e (ExT e (.ref CD) (some dd))) e = some (ExT e (.ref CD) (some dd)) := upd_same
      have l3 : (upd (upd H1 dd (.xd [("thing", x)])) e (ExT e (.ref CD) (some dd))) dd = some (.xd [("thing", x)]) := same_new he _ _ upd_same
      exact ⟨_, rfl, rfl, _, rfl, iteF ⟨_, rfl, e, CD, some dd, 7, rfl, ⟨l2, fun dx z => (by cases z; exact ⟨_, l3⟩), TD.c⟩, K7, .inl rfl, fun H3 s3 => q H3 (s2.trans s3)⟩⟩
/-! ### right -/
theorem eq_bl (b : Bool) : decide (V.bl b = V.bl b) = true := by simp
theorem neq_bl (b : Bool) : (!decide (V.bl b = V.bl b)) = false := by simp
def spRt (K : PySem.W.Frag) : Sp := fun vs H Q _ => ∃ (S : List Addr) (h st v : V) (d : PyData), vs = [h, st, v] ∧ Dz S K H v d ∧ Sml d ∧ ∀ H', Same H H' → Q (.bl true) H'
theorem ok_rt {f fI fN fR : Addr} {fd fdI fdN fdR : FuncData} (B : Bi mg) (D : Df K mg "_law_right" sRt f fd ["_law_home", "_law_tale", "_law_thing"]) (DI : Df K mg "is_cond" sCond fI fdI ["thing"]) (DN : Df K mg "_law_count" sCnt fN fdN ["_law_thing", "_law_deep"]) (DR : Df K mg "_law_refused" sRef fR fdR ["_law_parts"])
    (GI : FnOk P w K mg base CX0 11 fI fdI ["thing"] (spB K condB)) (GN : FnOk P w K mg base CX0 8 fN fdN ["_law_thing", "_law_deep"] (spCnt K 6)) (GR : FnOk P w K mg base CX0 14 fR fdR ["_law_parts"] (spRef K)) : FnOk P w K mg base CX0 15 f fd ["_law_home", "_law_tale", "_law_thing"] (spRt K) := by
  refine D.fn.ok scRt (fun vs H Q E h => ?_) (fun cdv A outer s H vs Q E hr h => ?_)
  · obtain ⟨S, h, st, v, d, rfl, _⟩ := h
    rfl
  · obtain ⟨S, h, st, v, d, rfl, dz, sm, q⟩ := h
    have r11 : Room 11 _ := hr.mono (by omega)
    have r8 : Room 8 _ := hr.mono (by omega)
    refine ⟨_, pss_cons (ps_par (i := 3) (j := 4) rfl scRt.nd rfl rfl (by decide) rfl rfl (pa_cons (pe_call GI r11 (by rfl) DI.mg DI.fn.kp DI.bd .nil pass0 (pa_cons (pv 2) pa_nil)) (pa_cons (pe_cmpR op_le (pe_call GN r8 (by rfl) DN.mg DN.fn.kp DN.bd .nil pass0 (pa_cons (pv 2) (pa_cons pe_int pa_nil))) pe_int (nomark _)) pa_nil)) (by rfl))
      (pss_cons (ps_if (PW.pt (pw_or (pt_not (pt_val (pe_callB call_isi (by rfl) B.isi boot_isinstance (pa_cons (pv 3) (pa_cons (pe_bltn (v := .ty "bool") (by rfl) B.bool boot_bool rfl) pa_nil))))) (pw_or1 (pt_cmpR op_ne (pv 3) (pv 4) (nomark _))))) (pss_one (ps_ret pe_bl)) pss_nil)
      (pss_cons (ps_if (PW.pt (pw_or (pt_val (pv 4)) (pw_or1 (pt_cmpR op_isN (pv 2) pe_non (nomark _)))))
        (pss_one (ps_ret (pe_cmpR op_eq (pe_call GR hr (by rfl) DR.mg DR.fn.kp DR.bd .nil pass0 (pa_cons (pe_tup (pa_cons (pv 0) (pa_cons (pv 2) (pa_cons (pv 1) (pa_cons pe_int pa_nil))))) pa_nil)) pe_str (nomark _)))) pss_nil)
      (pss_one (ps_ret (pe_and (pe_cmpR op_eq (pe_call GR hr (by rfl) DR.mg DR.fn.kp DR.bd .nil pass0 (pa_cons (pe_tup (pa_cons (pv 0) (pa_cons (pv 2) (pa_cons (pv 1) (pa_cons pe_int pa_nil))))) pa_nil)) pe_str (nomark _))
        (pe_one (pe_cmpR op_eq (pe_call GR hr (by rfl) DR.mg DR.fn.kp DR.bd .nil pass0 (pa_cons (pe_tup (pa_cons (pv 0) (pa_cons (pv 2) (pa_cons (pv 1) (pa_cons pe_non pa_nil))))) pa_nil)) pe_str (nomark _)))))))), ?_⟩
    refine ⟨_, rfl, S, v, d, rfl, dz, sm, fun H1 s1 => ⟨_, rfl, S, v, d, rfl, dz.same s1, sm, fun H2 s2 => ⟨_, 12, rfl, rfl, .bl (condB d), .bl (condB d), congrArg (fun b => [V.bl (condB d), V.bl b]) (cnt_cond d), ?_⟩⟩⟩
    have s12 := s1.trans s2
    refine ⟨_, rfl, _, .ty "bool", .type "bool", .type "bool", true, rfl, .ty _, .base (.bl _), kit_ty (by decide +kernel), true, rfl, iteF ⟨_, rfl, _, rfl, rfl, _, rfl, ?_⟩⟩
    rw [neq_bl]
    have dz2 := dz.same s12
    refine iteF ⟨_, rfl, _, rfl, ?_⟩
    cases cb : condB d with
    | true =>
      refine iteT (iteT ⟨_, rfl, _, rfl, _, rfl, by show 4 ≤ sizeLine; decide, fun t n => ⟨S, t, h, v, st, .int 10000, d, .int 10000, rfl, sqT upd_same, dz2.same (same_new n), sm, .int _, .inr ⟨condNB_yes cb, by decide, fun H' e => ⟨rfl, q H' (s12.trans ((same_new n).trans e))⟩⟩⟩⟩)
    | false =>
      refine iteF ⟨_, rfl, rfl, _, rfl, ?_⟩
      by_cases vn : v = .non
      · subst vn
        have dn : condNB d = true := by cases dz; rfl
        refine iteT ⟨_, rfl, _, rfl, _, rfl, by show 4 ≤ sizeLine; decide, fun t n => ⟨S, t, h, .non, st, .int 10000, d, .int 10000, rfl, sqT upd_same, dz2.same (same_new n), sm, .int _, .inr ⟨dn, by decide, fun H' e => ⟨rfl, q H' (s12.trans ((same_new n).trans e))⟩⟩⟩⟩
      · rw [show decide (v = V.non) = false from decide_eq_false vn]
        have dn : condNB d = false := condNB_no cb (fun e => by subst e; cases dz; exact vn rfl)
        refine iteF ⟨_, rfl, _, rfl, _, rfl, by show 4 ≤ sizeLine; decide, fun t n => ⟨S, t, h, v, st, .int 0, d, .int 0, rfl, sqT upd_same, dz2.same (same_new n), sm, .int _, .inl ⟨dn, fun H3 e3 => ⟨rfl, true, rfl, iteT ⟨_, rfl, _, rfl, _, rfl, by show 4 ≤ sizeLine; decide, fun t2 n2 => ⟨S, t2, h, v, st, .non, d, .none, rfl, sqT upd_same, ((dz2.same (same_new n)).same e3).same (same_new n2), sm, .non, .inl ⟨dn, fun H4 e4 => ⟨rfl, q H4 ((s12.trans ((same_new n).trans e3)).trans ((same_new n2).trans e4))⟩⟩⟩⟩⟩⟩⟩⟩
end
end WdQ

set_option Elab.async false
set_option linter.all false
set_option maxRecDepth 100000
set_option maxHeartbeats 4000000
set_option exponentiation.threshold 5000
namespace WdQ
open PySem PySem.Spec PyProof.Rows L2 WdM Wd
abbrev sLaw : Stmt := topS 87
abbrev nL : List Str := ["_law_script", "_law_k", "_law_pool_here", "_law_people_here", "_law_one", "_law_mate", "_law_folk", "_law_home", "_law_tale", "_law_made", "_law_turn", "_law_things", "_law_thing"]
theorem scLaw : FnScope nL ["_law_script"] (defScope sLaw) := ⟨rfl, rfl, rfl, by decide +kernel, rfl, by decide +kernel, by decide +kernel⟩
theorem passNo {X : Cx} {σ : L2.St} : PassesAt (L2.CX X.prog X.w) X σ E0 := fun _ _ _ _ _ _ h => by
  obtain ⟨_, _, _, _, _, _, _, _, _, _, _, _, h⟩ := h
  exact h.elim
theorem rg2 {j : Int} (h1 : 1 ≤ j) (h2 : j ≤ 10) : RgC 0 j 2 (Builtin.Range.rangeSize 0 j 2).toNat ∧ (Builtin.Range.rangeSize 0 j 2).toNat ≤ 5 := by
  have all : ∀ m : Fin 11, Builtin.Range.small 0 ((m.val : Nat) : Int) 2 = true ∧ 0 ≤ Builtin.Range.rangeSize 0 ((m.val : Nat) : Int) 2 ∧ (Builtin.Range.rangeSize 0 ((m.val : Nat) : Int) 2).toNat ≤ 5 := by decide +kernel
  obtain ⟨m, rfl⟩ := Int.eq_ofNat_of_zero_le (show 0 ≤ j by omega)
  have := all ⟨m, by omega⟩
  exact ⟨⟨by decide, by decide, this.1, (Int.toNat_of_nonneg this.2.1).symm⟩, this.2.2⟩
theorem same_made {G H' : Hp} {o d : Addr} {h1 h2 : HO} (no : G o = none) (nd : G d = none) (b : Bt [o] (upd (upd G d h1) o h2) H') : Same G H' := fun c x e => by
  have c1 : c ≠ o := ne_of_none e no
  have c2 : c ≠ d := ne_of_none e nd
  exact b c x (by simp [c1]) (by rw [upd_ne c1, upd_ne c2]; exact e)
theorem none_back {H H' : Hp} {p : Addr} {S : List Addr} (b : Bt S H H') (n : H' p = none) (np : p ∉ S) : H p = none := by
  cases e : H p with
  | none => rfl
  | some o =>
    have := b p o np e
    rw [n] at this
    cases this
theorem stranger_ok : okL "stranger" ∧ ("stranger" : Str).length ≤ 9 := ⟨fun c hc => by revert c; decide +kernel, by decide⟩
def Ok0 (K : PySem.W.Frag) (H : Hp) (v : V) : Prop := ∃ d, Dz [] K H v d ∧ Sml d
section
variable {P : Program} {w : World} {K : PySem.W.Frag} {mg : Str → Option Value} {base : Heap} {CH CY : Addr}
theorem ok0_same {H H' : Hp} {v : V} (h : Ok0 K H v) (e : Same H H') : Ok0 K H' v := by
  obtain ⟨d, h, c⟩ := h
  exact ⟨d, h.same e, c⟩
theorem kp0 : Kp RT (Ok0 K) := ⟨fun _ _ _ _ _ => trivial, fun _ _ _ e h => ok0_same h e⟩
def spLaw (K : PySem.W.Frag) : Sp := fun vs H Q _ => ∃ (a : Addr) (ns : List Int), vs = [.ref a] ∧ SqL K H a (ns.map V.int) ∧ ns.length ≤ 63 ∧ ∀ H', Q (.bl true) H'
theorem ok_law {f fO fP fDe fLc fBe fBd fR fH fY : Addr} {fd fdO fdP fdDe fdLc fdBe fdBd fdR fdH fdY : FuncData} {dH dY : List Value} (B : Bi mg) (D : Df K mg "law" sLaw f fd ["_law_script"]) (DO : Df K mg "_law_pool" sPool fO fdO ["_law_script", "_law_k"]) (DP : Df K mg "_law_people" sPeople fP fdP ["_law_pool_here", "_law_many"])
    (DDe : Df K mg "_law_deaths" sDeaths fDe fdDe ["_law_pool_here", "_law_folk", "_law_days"]) (DLc : Df K mg "_law_cond" sLc fLc fdLc ["_law_pool_here", "_law_folk", "_law_days", "_law_deep"]) (DBe : Df K mg "_law_bent" sBent fBe fdBe ["_law_pool_here", "_law_thing"]) (DBd : Df K mg "_law_bounds" sBd fBd fdBd ["_law_one"]) (DR : Df K mg "_law_right" sRt fR fdR ["_law_home", "_law_tale", "_law_thing"])
    (GO : FnOk P w K mg base CX0 15 fO fdO ["_law_script", "_law_k"] (spPool K)) (GP : FnOk P w K mg base CX0 15 fP fdP ["_law_pool_here", "_law_many"] (spPeople K)) (GDe : FnOk P w K mg base CX0 15 fDe fdDe ["_law_pool_here", "_law_folk", "_law_days"] (spDeaths K)) (GLc : FnOk P w K mg base CX0 15 fLc fdLc ["_law_pool_here", "_law_folk", "_law_days", "_law_deep"] (spLc K 6))
    (GBe : FnOk P w K mg base CX0 15 fBe fdBe ["_law_pool_here", "_law_thing"] (spBent K 7)) (GBd : FnOk P w K mg base CX0 15 fBd fdBd ["_law_one"] (spBd K)) (GR : FnOk P w K mg base CX0 15 fR fdR ["_law_home", "_law_tale", "_law_thing"] (spRt K))
    (MH : Mk K CH fH) (gH : mg "House" = some (.ref CH)) (GH : FnOk P w K mg base (L2.CX P w) 14 fH fdH ["self", "people", "goods", "purse", "debts"] (spHI K CH)) (bH : Binds K fdH ["self", "people", "goods", "purse", "debts"] dH) (vH : Vals [.non, .int 0, .int 0] dH)
    (MY : Mk K CY fY) (gY : mg "Story" = some (.ref CY)) (GY : FnOk P w K mg base (L2.CX P w) 14 fY fdY ["self", "deaths"] (spSI K CY)) (bY : Binds K fdY ["self", "deaths"] dY) (vY : Vals [] dY) : FnOk P w K mg base CX0 16 f fd ["_law_script"] (spLaw K) := by
  refine D.fn.ok scLaw (fun vs H Q E h => ?_) (fun cdv A outer s H vs Q E hr h => ?_)
  · obtain ⟨a, ns, rfl, _⟩ := h
    rfl
  · obtain ⟨a, ns, rfl, hs, hlen, q⟩ := h
    refine ⟨_, pss_cons (ps_for PassesOwn.never rfl (pi_range3 (by rfl) B.range (pa_cons pe_int (pa_cons (pe_callB (call_max2 rfl) (by rfl) B.max (by decide +kernel) (pa_cons pe_int (pa_cons (pe_callB (call_min2 rfl) (by rfl) B.min (by decide +kernel) (pa_cons (pe_callB call_len_seq (by rfl) B.len PySem.boot_len (pa_cons (pv 0) pa_nil)) (pa_cons pe_int pa_nil))) pa_nil))) (pa_cons pe_int pa_nil)))) (pg_name (i := 1) scLaw.nd rfl (.inl rfl))
        (pss_cons (ps_set (i := 2) scLaw.nd rfl (.inr rfl) (pe_call GO hr (by rfl) DO.mg DO.fn.kp DO.bd .nil pass0 (pa_cons (pv 0) (pa_cons (pe_op op_add (pv 1) pe_int) pa_nil))))
        (pss_cons (ps_set (i := 3) scLaw.nd rfl (.inl rfl) (pe_call GP hr (by rfl) DP.mg DP.fn.kp DP.bd .nil pass0 (pa_cons (pe_call GO hr (by rfl) DO.mg DO.fn.kp DO.bd .nil pass0 (pa_cons (pv 0) (pa_cons (pv 1) pa_nil))) (pa_cons pe_int pa_nil))))
        (pss_cons (ps_setLc (i := 6) (own := [("_law_one", 4), ("_law_mate", 5)]) (g := gTup K 2 (gCons (gName 4) (gCons (gName 5) gNil))) (tt := tYes) rfl scLaw.nd rfl rfl (sw_true rfl rfl rfl (by decide +kernel)) (pi_tup (pv 3))
            (blkOk_by (own := [("_law_one", 4), ("_law_mate", 5)]) (N := nL) (sc := defScope sLaw) (by decide +kernel))
            (fun _ _ _ _ _ => pg_tup rfl (pgs_cons (pg_name (i := 4) scLaw.nd rfl (Or.inl rfl)) (pgs_cons (pg_name (i := 5) scLaw.nd rfl (Or.inl rfl)) pgs_nil))) (fun _ _ _ _ _ => pts_nil) (fun _ _ _ _ _ => pv 4))
        (pss_cons (ps_asg (pe_tup (pa_cons (pe_makeS MH GH hr (by rfl) gH bH vH (fun _ => passNo) (pa_cons (pv 3) pa_nil)) (pa_cons (pe_makeS MY GY hr (by rfl) gY bY vY (fun _ => passNo) (pa_cons (pe_call GDe hr (by rfl) DDe.mg DDe.fn.kp DDe.bd .nil pass0 (pa_cons (pv 2) (pa_cons (pv 6) (pa_cons (pe_lst (pa_cons pe_int (pa_cons pe_int pa_nil))) pa_nil)))) pa_nil)) pa_nil))) (pg_tup rfl (pgs_cons (pg_name (i := 7) scLaw.nd rfl (.inr rfl)) (pgs_cons (pg_name (i := 8) scLaw.nd rfl (.inr rfl)) pgs_nil))))
        (pss_cons (ps_set (i := 9) scLaw.nd rfl (.inr rfl) (pe_call GLc hr (by rfl) DLc.mg DLc.fn.kp DLc.bd .nil pass0 (pa_cons (pv 2) (pa_cons (pe_op op_cat (pv 6) (pe_lst (pa_cons pe_str pa_nil))) (pa_cons (pe_lst (pa_cons pe_int (pa_cons pe_int (pa_cons (pe_op op_sub pe_int pe_int) (pa_cons pe_int pa_nil))))) (pa_cons pe_int pa_nil))))))
        (pss_cons (ps_set (i := 11) scLaw.nd rfl (.inl rfl) (pe_op op_cat (pe_op op_cat (pe_lst (pa_cons (pv 9) pa_nil))
            (pe_lc (own := [("_law_turn", 10)]) (g := gName 10) (tt := tYes) rfl scLaw.nd (pi_range1 (by rfl) B.range (pa_cons pe_int pa_nil)) (blkOk_by (own := [("_law_turn", 10)]) (N := nL) (sc := defScope sLaw) (by decide +kernel))
              (fun _ _ _ _ _ => pg_name (i := 10) scLaw.nd rfl (Or.inl rfl)) (fun _ _ _ _ _ => pts_nil)
              (fun _ _ _ _ _ => pe_call GBe hr (by rfl) DBe.mg DBe.fn.kp DBe.bd .nil pass0 (pa_cons (pv 2) (pa_cons (pv 9) pa_nil)))))
            (pe_call GBd hr (by rfl) DBd.mg DBd.fn.kp DBd.bd .nil pass0 (pa_cons (pe_ix (r := rIxL K) ix_list (pv 6) pe_int (fun _ _ => rfl)) pa_nil))))
        (pss_cons (ps_set (i := 11) scLaw.nd rfl (.inl rfl) (pe_op op_cat (pv 11) (peB_lst
          (paB_cons kp0 (PE.wk (t' := tB RT (Ok0 K)) pe_non (by rintro σ H Q ⟨_, q⟩; exact q _ _ (Same.refl H) ⟨.none, .non, ⟨0, trivial⟩⟩))
          (paB_cons kp0 (PE.wk (t' := tB RT (Ok0 K)) pe_int (by rintro σ H Q ⟨_, q⟩; exact q _ _ (Same.refl H) ⟨.int _, .int _, ⟨0, trivial⟩⟩))
          (paB_cons kp0 (PE.wk (t' := tB RT (Ok0 K)) pe_bl (by rintro σ H Q ⟨_, q⟩; exact q _ _ (Same.refl H) ⟨.bool _, .bl _, ⟨0, trivial⟩⟩))
          (paB_cons kp0 (PE.wk (t' := tB RT (Ok0 K)) pe_str (by rintro σ H Q ⟨_, q⟩; exact q _ _ (Same.refl H) ⟨.str _, .str _, ⟨0, show Str.length _ ≤ 100 by decide⟩⟩))
          (paB_cons kp0 (PE.wk (t' := tB RT (Ok0 K)) pe_str (by rintro σ H Q ⟨_, q⟩; exact q _ _ (Same.refl H) ⟨.str _, .str _, ⟨0, show Str.length _ ≤ 100 by decide⟩⟩))
          (paB_cons kp0 (PE.wk (t' := tB RT (Ok0 K)) (pe_tup (pa_cons pe_str pa_nil)) (by rintro σ H Q ⟨_, q⟩; exact ⟨by show 1 ≤ sizeLine; decide, fun p n => q _ _ (same_new n) ⟨.tuple [.str _], .tup (sqT upd_same) (.cons (.str _) .nil), ⟨1, by show 1 ≤ 100; decide, fun d hd => by rw [List.mem_singleton.mp hd]; show Str.length _ ≤ 100; decide⟩⟩⟩))
          (paB_cons kp0 (PE.wk (t' := tB RT (Ok0 K)) (pe_lst pa_nil) (by rintro σ H Q ⟨_, q⟩; exact ⟨by show 0 ≤ sizeLine; decide, fun p n => q _ _ (same_new n) ⟨.list [], .lst (by simp) (sqL upd_same) .nil, ⟨1, fun d hd => nomatch hd⟩⟩⟩))
          (paB_cons kp0 (PE.wk (t' := tB RT (Ok0 K)) pe_dnewK (by rintro σ H Q ⟨_, q⟩; exact fun p n => q _ _ (same_new n) ⟨.dict [], .nod (by simp) upd_same, ⟨1, trivial⟩⟩))
          (paB_cons kp0 (PE.wk (t' := tB RT (Ok0 K)) (pe_tup pa_nil) (by rintro σ H Q ⟨_, q⟩; exact ⟨by show 0 ≤ sizeLine; decide, fun p n => q _ _ (same_new n) ⟨.tuple [], .tup (sqT upd_same) .nil, ⟨1, by show 0 ≤ 100; decide, fun d hd => nomatch hd⟩⟩⟩))
          (paB_cons kp0 (PE.wk (t' := tB RT (Ok0 K)) (pe_tup (pa_cons (pe_lst (pa_cons pe_str pa_nil)) (pa_cons pe_str pa_nil))) (by rintro σ H Q ⟨_, q⟩; exact ⟨by show 1 ≤ sizeLine; decide, fun p1 n1 => ⟨by show 2 ≤ sizeLine; decide, fun p n => q _ _ ((same_new n1).trans (same_new n)) ⟨.tuple [.list [.str _], .str _], .tup (sqT upd_same) (.cons (.lst (by simp) (sqL (same_new n _ _ upd_same)) (.cons (.str _) .nil)) (.cons (.str _) .nil)), ⟨2, by show 2 ≤ 100; decide, fun d hd => by
              simp only [List.mem_cons, List.not_mem_nil, or_false] at hd
              rcases hd with rfl | rfl
              · exact fun d hd => by rw [List.mem_singleton.mp hd]; show Str.length _ ≤ 100; decide
              · show Str.length _ ≤ 100; decide⟩⟩⟩⟩))
          paB_nil)))))))))) (by decide))))
        (pss_cons (ps_expr (pe_bm PySem.F.plainAttrs_list PySem.F.slot_list_append PySem.F.type_list_append mt_append (pv 11) (pa_cons (pe_tup (pa_cons pe_str (pa_cons (pe_ix (r := rIxL K) ix_list (pv 6) pe_int (fun _ _ => rfl)) (pa_cons pe_bl pa_nil)))) pa_nil)))
        (pss_one (ps_if (pt_not (pt_val (pe_callB (cr_all rfl) (by rfl) B.all (by decide +kernel) (pa_cons
          (pe_lc (own := [("_law_thing", 12)]) (g := gName 12) (tt := tYes) rfl scLaw.nd (pi_list (pv 11)) (blkOk_by (own := [("_law_thing", 12)]) (N := nL) (sc := defScope sLaw) (by decide +kernel))
            (fun _ _ _ _ _ => pg_name (i := 12) scLaw.nd rfl (Or.inl rfl)) (fun _ _ _ _ _ => pts_nil)
            (fun _ _ _ _ _ => pe_call GR hr (by rfl) DR.mg DR.fn.kp DR.bd .nil pass0 (pa_cons (pv 7) (pa_cons (pv 8) (pa_cons (pv 12) pa_nil))))) pa_nil)))) (pss_one (ps_ret pe_bl)) pss_nil)))))))))))
      (pss_one (ps_ret pe_bl)), ?_⟩
    refine ⟨_, rfl, a, _, rfl, .inl hs, _, _, rfl, 1, _, rfl, 0, _, 2, _, rfl, (rg2 ?_ ?_).1, for_rangeC (lo := 0) (c := 2) (n := _) (fun i σ H' => (∃ y1 y2 y3 y6 y7 y8 y9 y11 : Option V, σ = [some (.ref a), y1, y2, y3, none, none, y6, y7, y8, y9, none, y11, none]) ∧ Same H H') ⟨⟨none, none, none, none, none, none, none, none, rfl⟩, Same.refl H⟩ ?_ ?_⟩
    · split <;> (try split) <;> omega
    · rw [List.length_map]
      split <;> (try split) <;> omega
    rotate_left
    · rintro σ H1 ⟨⟨y1, y2, y3, y6, y7, y8, y9, y11, rfl⟩, s1⟩
      exact q H1
    · rintro i σ H1 hi ⟨⟨y1, y2, y3, y6, y7, y8, y9, y11, rfl⟩, s1⟩
      have i5 : i < 5 := by
        refine Nat.lt_of_lt_of_le hi (rg2 ?_ ?_).2
        · split <;> (try split) <;> omega
        · rw [List.length_map]
          split <;> (try split) <;> omega
      refine ⟨_, rfl, _, rfl, _, 1, rfl, rfl, a, ns, _, rfl, s1.seq hs, by omega, by omega, fun H2 l s2 nl pool2 => ?_⟩
      refine ⟨_, rfl, _, rfl, a, ns, _, rfl, (s1.trans s2).seq hs, by omega, by omega, fun H3 l2 s3 nl2 pool3 => ⟨l2, 3, rfl, pool3, by decide, by decide, fun H4 pp rows b4 pool4 fk gf rl => ?_⟩⟩
      have s24 : Same H2 H4 := bt_same1 ((Bt.of_same s3).trans b4) nl2
      have p4 : PoolAt H4 l := pool2.same s24
      have bt4 : Bt [l] H1 H4 := .of_same (s2.trans s24)
      clear b4 pool4 pool3 nl2 s3 s24 pool2 s2
      obtain ⟨t, xs, e, hT, xl, hx⟩ := fk
      cases e
      refine ⟨_, rfl, pp, rfl, ⟨xs, hT⟩, fun L nL => lc_tup (K := K) (a := pp) (xs := xs) (fun j H' => H' L = some (.lst (((rows.take j).map Prod.fst).map V.str)) ∧ Same H4 H') ⟨upd_same, same_new nL⟩ (fun j H' _ h => (tk_same h.2).sq hT) ?_ ?_⟩
      · rintro j x H5 hx5 ⟨hL, s5⟩
        obtain ⟨ra, r, rfl, hr5, hra⟩ := hx j x hx5
        have jl := lt_get hx5
        refine ⟨ra, _, rfl, (tk_same s5).sq hra, rfl, _, _, rfl, _, _, rfl, rfl, rfl, tyes (iteT ⟨_, rfl, _, hL, ?_, ?_, ((Bt.of_same (S := []) s5).upd0 nL).same⟩)⟩
        · rw [List.length_map, List.length_map, List.length_take]
          exact small1000 (by omega)
        · rw [upd_same, take_more hr5, List.map_append, List.map_append]
          rfl
      · rintro H5 ⟨hL, s5⟩
        rw [xl, List.take_length] at hL
        have p5 := p4.same s5
        have bt5 : Bt [l] H1 H5 := bt4.trans (.of_same s5)
        have nLl : L ≠ l := fun e => p4.ne nL e.symm
        have fk5 : FolkAt K H5 (.ref pp) rows := ⟨pp, xs, rfl, (tk_same s5).sq hT, xl, fun j x h => by
          obtain ⟨ra, r, e, hr, hra⟩ := hx j x h
          exact ⟨ra, r, e, hr, (tk_same s5).sq hra⟩⟩
        have nms : ∀ z ∈ rows.map Prod.fst, Nm z := fun z hz => by
          obtain ⟨r, hr, rfl⟩ := List.mem_map.mp hz
          exact gf.nm r hr
        have zl : (rows.map Prod.fst).length = 3 := by rw [List.length_map, rl]
        have znd := gf.nd
        clear hx hT p4 bt4 s5
        revert hL nms zl znd
        generalize rows.map Prod.fst = zs
        intro hL nms zl znd
        obtain ⟨z0, zr, rfl⟩ : ∃ z0 zr, zs = z0 :: zr := by
          cases zs with
          | nil => cases zl
          | cons z0 zr => exact ⟨z0, zr, rfl⟩
        refine ⟨_, rfl, fun o dx no nd ne => ?_⟩
        have sO : Same H5 (upd (upd H5 dx (.own o)) o (.ins CH dx [])) := (same_new nd).trans (same_new (by rw [upd_ne ne.symm]; exact no))
        refine ⟨o, dx, .ref pp, rows, rfl, upd_same, fk5.tk (tk_same sO), gf, fun H6 b6 => ⟨rfl, ?_⟩⟩
        have s6 : Same H5 H6 := same_made no nd b6
        have p6 := p5.same s6
        have hL6 := s6 _ _ hL
        refine ⟨_, rfl, _, rfl, by show 2 ≤ sizeLine; decide, fun aD nD => ⟨l, L, aD, z0 :: zr, [0, 30], rfl, p6.upd (p6.ne nD), same_new nD _ _ hL6, upd_same, (fun e => p6.ne nD e.symm), znd, nms, by rw [zl]; decide, by decide, by decide, fun H7 pd drows b7 p7 da gd => ?_⟩⟩
        have bt7 : Bt [l] H1 H7 := (bt5.trans (.of_same (s6.trans (same_new nD)))).trans b7
        have hL7 := kept b7 (same_new nD _ _ hL6) (by simp [nLl])
        intro o2 dx2 no2 nd2 ne2
        have sO2 : Same H7 (upd (upd H7 dx2 (.own o2)) o2 (.ins CY dx2 [])) := (same_new nd2).trans (same_new (by rw [upd_ne ne2.symm]; exact no2))
        refine ⟨o2, dx2, .ref pd, drows, rfl, upd_same, da.tk (tk_same sO2), gd, fun H8 b8 _ => ⟨rfl, ?_⟩⟩
        have s8 : Same H7 H8 := same_made no2 nd2 b8
        refine ⟨by show 2 ≤ sizeLine; decide, fun tp ntp => ⟨tp, _, rfl, sqT upd_same, rfl, _, _, rfl, _, _, rfl, rfl, ?_⟩⟩
        have s9 : Same H7 (upd H8 tp (.tup [.ref o, .ref o2])) := s8.trans (same_new ntp)
        revert s9
        generalize upd H8 tp (.tup [.ref o, .ref o2]) = H9
        intro s9
        have p9 := p7.same s9
        have hL9 := s9 _ _ hL7
        have bt9 : Bt [l] H1 H9 := bt7.trans (.of_same s9)
        clear b6 b7 b8 s6 s8 p6 p5 p7 hL6 hL7 hL bt5 bt7 sO sO2 fk5 s9 da
        refine ⟨_, rfl, _, rfl, by show 1 ≤ sizeLine; decide, fun q1 m1 => ⟨L, q1, _, _, rfl, rfl, same_new m1 _ _ hL9, upd_same, by rw [List.length_map, zl]; show 3 + 1 ≤ sizeLine; decide, fun q2 m2 => ⟨0, 9999, rfl, rfl, by show 4 ≤ sizeLine; decide, fun q3 m3 => ?_⟩⟩⟩
        have s10 : Same H9 (upd (upd (upd H9 q1 (.lst [.str "stranger"])) q2 (.lst ((z0 :: zr).map V.str ++ [.str "stranger"]))) q3 (.lst [.int 0, .int 30, .int (0 - 9999), .int 9999])) := (same_new m1).trans ((same_new m2).trans (same_new m3))
        have g2 : (upd (upd (upd H9 q1 (.lst [.str "stranger"])) q2 (.lst ((z0 :: zr).map V.str ++ [.str "stranger"]))) q3 (.lst [.int 0, .int 30, .int (0 - 9999), .int 9999])) q2 = some (.lst ((z0 :: zr ++ [("stranger" : Str)]).map V.str)) := by
          rw [List.map_append]
          exact same_new m3 _ _ upd_same
        have g3 : (upd (upd (upd H9 q1 (.lst [.str "stranger"])) q2 (.lst ((z0 :: zr).map V.str ++ [.str "stranger"]))) q3 (.lst [.int 0, .int 30, .int (0 - 9999), .int 9999])) q3 = some (.lst (([0, 30, 0 - 9999, 9999] : List Int).map V.int)) := upd_same
        have n2 : q2 ≠ l := fun e => by rw [e] at m2; obtain ⟨_, _, h, _⟩ := p9; rw [same_new m1 _ _ h] at m2; cases m2
        have n3 : q3 ≠ l := fun e => by rw [e] at m3; obtain ⟨_, _, h, _⟩ := p9; rw [same_new m2 _ _ (same_new m1 _ _ h)] at m3; cases m3
        revert s10 g2 g3
        generalize upd (upd (upd H9 q1 (.lst [.str "stranger"])) q2 (.lst ((z0 :: zr).map V.str ++ [.str "stranger"]))) q3 (.lst [.int 0, .int 30, .int (0 - 9999), .int 9999]) = H10
        intro s10 g2 g3
        clear m1 m2 m3
        refine ⟨l, q2, q3, 6, z0 :: zr ++ [("stranger" : Str)], [0, 30, 0 - 9999, 9999], rfl, by decide, by decide, p9.same s10, g2, g3, n2, n3, (fun z hz => ?_), (fun z hz => ?_), Nat.succ_le_succ (Nat.zero_le _), by decide, fun H11 v b11 p11 cv => ?_⟩
        · rcases List.mem_append.mp hz with h | h
          · have := nms z h
            exact ⟨this.1.1, by have := this.1.2.2; omega⟩
          · rw [List.mem_singleton.mp h]
            exact stranger_ok
        · simp only [List.mem_cons, List.not_mem_nil, or_false] at hz
          rcases hz with rfl | rfl | rfl | rfl <;> exact ⟨by decide, by decide⟩
        have bt11 : Bt [l] H1 H11 := (bt9.trans (.of_same s10)).trans b11
        have hL11 := kept b11 (s10 _ _ hL9) (by simp [nLl])
        clear p9 bt9 s10 g2 g3 b11 hL9
        refine ⟨_, rfl, by show 1 ≤ sizeLine; decide, fun q1 m1 => ?_⟩
        have s12 : Same H11 (upd H11 q1 (.lst [v])) := same_new m1
        have g1 : (upd H11 q1 (.lst [v])) q1 = some (.lst [v]) := upd_same
        have n1 : q1 ≠ l := fun e => p11.ne m1 e.symm
        revert s12 g1
        generalize upd H11 q1 (.lst [v]) = H12
        intro s12 g1
        have p12 := p11.same s12
        have cv12 := cv.tk (tk_same s12)
        have hL12 := s12 _ _ hL11
        have bt12 : Bt [l] H1 H12 := bt11.trans (.of_same s12)
        clear p11 cv hL11 bt11 s12 m1
        refine ⟨8, rfl, by decide, by decide, fun L2 m2 => ?_⟩
        have n2 : l ≠ L2 := p12.ne m2
        refine lc_range (lo := 0) (n := 8) (fun j H' => (∃ ys, H' L2 = some (.lst ys) ∧ ys.length = j ∧ ∀ y ∈ ys, Bs K [l, L2] H' y) ∧ Bt [l] H12 H' ∧ PoolAt H' l) ⟨⟨[], upd_same, rfl, fun y hy => nomatch hy⟩, (Bt.refl H12).new m2, p12.upd n2⟩ ?_ ?_
        · rintro j H13 hj ⟨⟨ys, hY, yl, cy⟩, b13, p13⟩
          have ls13 : LsAt [l, L2] H13 := fun c hc => by
            simp only [List.mem_cons, List.not_mem_nil, or_false] at hc
            rcases hc with rfl | rfl
            · exact p13.lst c (by simp)
            · exact ⟨_, hY⟩
          refine ⟨rfl, tyes (iteT ⟨_, rfl, _, rfl, [l, L2], l, v, 6, rfl, p13, by simp, ls13, cv12.tk (b13.tk p12.lst), by decide, fun H14 v14 b14 p14 ls14 c14 => ?_⟩)⟩
          have hY14 := kept b14 hY (by simp [n2.symm])
          have bA : Bt [l, L2] H14 (upd H14 L2 (.lst (ys ++ [v14]))) := (Bt.refl H14).upd1 (by simp)
          refine ⟨_, hY14, by rw [yl]; exact Nat.lt_of_lt_of_le (show j < 9 by omega) (by decide), ⟨_, upd_same, by rw [List.length_append, yl]; rfl, fun y hy => ?_⟩, (b13.trans b14).upd0 m2, p14.upd n2⟩
          rcases List.mem_append.mp hy with h | h
          · exact ((cy y h).bt (bt_more b14 (by simp)) ls13).bt bA ls14
          · rw [List.mem_singleton.mp h]
            exact c14.bt bA ls14
        · rintro H13 ⟨⟨ys, hY, yl, cy⟩, b13, p13⟩
          have g13 := kept b13 g1 (by simp [n1])
          have hL13 := kept b13 hL12 (by simp [nLl])
          have cv13 := cv12.tk (b13.tk p12.lst)
          have bt13 : Bt [l] H1 H13 := bt12.trans b13
          refine ⟨q1, L2, _, _, rfl, rfl, g13, hY, by rw [yl]; show 1 + 8 ≤ sizeLine; decide, fun q4 m4 => ?_⟩
          have s14 : Same H13 (upd H13 q4 (.lst ([v] ++ ys))) := same_new m4
          have g14 : (upd H13 q4 (.lst ([v] ++ ys))) q4 = some (.lst ([v] ++ ys)) := upd_same
          have a14 : ∀ y ∈ [v] ++ ys, Ok0 K (upd H13 q4 (.lst ([v] ++ ys))) y := fun y hy => (List.mem_append.mp hy).elim (fun h => by
            rw [List.mem_singleton.mp h]
            obtain ⟨d, hd, hc⟩ := cv13
            exact ok0_same ⟨d, hd, ⟨_, hc.sm⟩⟩ s14) (fun h => by
            obtain ⟨d, hd, hc⟩ := cy y h
            exact ok0_same ⟨d, hd.less, hc⟩ s14)
          have l14 : ([v] ++ ys).length = 9 := by rw [List.length_append, yl]; rfl
          revert s14 g14 a14 l14
          generalize upd H13 q4 (.lst ([v] ++ ys)) = H14
          generalize [v] ++ ys = us
          intro s14 g14 a14 l14
          have hL14 := s14 _ _ hL13
          have bt14 : Bt [l] H1 H14 := bt13.trans (.of_same s14)
          clear cy cv12 cv13 hY g13 hL13 hL12 bt12 bt13 s14 b13 p13 p12 m4 yl
          have z08 : z0.length ≤ 9 := by have := (nms z0 (by simp)).1.2.2; omega
          refine ⟨_, rfl, L, _, 0, .str z0, rfl, rfl, sqL hL14, atI_nat (j := 0) rfl, z0, rfl, z08, fun H15 pB xB s15 nB gB lB cB => ⟨q4, pB, _, _, rfl, rfl, s15 _ _ g14, gB, by rw [l14]; exact Nat.le_trans (Nat.add_le_add_left lB 9) (by decide), fun q5 m5 => ?_⟩⟩
          have s16 : Same H15 (upd H15 q5 (.lst (us ++ xB))) := same_new m5
          have g16 : (upd H15 q5 (.lst (us ++ xB))) q5 = some (.lst (us ++ xB)) := upd_same
          have a16 : ∀ y ∈ us ++ xB, Ok0 K (upd H15 q5 (.lst (us ++ xB))) y := fun y hy => (List.mem_append.mp hy).elim (fun h => ok0_same (a14 y h) (s15.trans s16)) (fun h => by
            obtain ⟨d, hd, hc⟩ := cB y h
            exact ok0_same ⟨d, hd, ⟨_, hc.sm⟩⟩ s16)
          have l16 : (us ++ xB).length ≤ 59 := by rw [List.length_append, l14]; omega
          revert s16 g16 a16 l16
          generalize upd H15 q5 (.lst (us ++ xB)) = H16
          generalize us ++ xB = ws
          intro s16 g16 a16 l16
          have hL16 := s16 _ _ (s15 _ _ hL14)
          have bt16 : Bt [l] H1 H16 := bt14.trans (.of_same (s15.trans s16))
          clear a14 g14 cB gB hL14 bt14 s15 s16 m5 nB lB l14
          refine ⟨_, rfl, trivial, fun pE es H17 s17 nE el ae => ⟨q5, pE, _, _, rfl, rfl, same_new nE _ _ (s17 _ _ g16), upd_same, by rw [el]; exact Nat.le_trans (Nat.add_le_add_right l16 _) (by decide), fun q6 m6 => ?_⟩⟩
          have sE : Same H17 (upd H17 pE (.lst es)) := same_new nE
          have aE : ∀ y ∈ ws ++ es, Ok0 K (upd H17 pE (.lst es)) y := fun y hy => (List.mem_append.mp hy).elim (fun h => ok0_same (a16 y h) (s17.trans sE)) (fun h => ok0_same (ae y h) sE)
          have hLE := sE _ _ (s17 _ _ hL16)
          have btE : Bt [l] H1 (upd H17 pE (.lst es)) := bt16.trans (.of_same (s17.trans sE))
          have lE : (ws ++ es).length ≤ 69 := by rw [List.length_append, el]; omega
          revert m6 aE hLE btE lE
          generalize upd H17 pE (.lst es) = HE
          generalize ws ++ es = vs
          clear sE
          intro m6 aE hLE btE lE
          clear a16 ae g16 hL16 bt16 s17 nE el l16
          have s18 : Same HE (upd HE q6 (.lst vs)) := same_new m6
          refine ⟨_, rfl, .inl ⟨rfl, _, sqL upd_same⟩, _, rfl, L, _, 0, .str z0, rfl, rfl, sqL (s18 _ _ hLE), atI_nat (j := 0) rfl, by show 3 ≤ sizeLine; decide, fun tq ntq => ?_⟩
          refine ⟨q6, vs, .ref tq, rfl, rfl, same_new ntq _ _ upd_same, Nat.lt_of_le_of_lt lE (by decide), ?_⟩
          have s19 : Same HE (upd (upd (upd HE q6 (.lst vs)) tq (.tup [.str "lives", .str z0, .bl true])) q6 (.lst (vs ++ [.ref tq]))) := ((Bt.of_same (S := []) (s18.trans (same_new ntq))).upd0 m6).same
          have nq : tq ≠ q6 := fun e => by rw [e, upd_same] at ntq; cases ntq
          have g19 : (upd (upd (upd HE q6 (.lst vs)) tq (.tup [.str "lives", .str z0, .bl true])) q6 (.lst (vs ++ [.ref tq]))) q6 = some (.lst (vs ++ [.ref tq])) := upd_same
          have a19 : ∀ y ∈ vs ++ [.ref tq], Ok0 K (upd (upd (upd HE q6 (.lst vs)) tq (.tup [.str "lives", .str z0, .bl true])) q6 (.lst (vs ++ [.ref tq]))) y := fun y hy => (List.mem_append.mp hy).elim (fun h => ok0_same (aE y h) s19) (fun h => by
            rw [List.mem_singleton.mp h]
            refine ⟨.tuple [.str "lives", .str z0, .bool true], .tup (sqT (by rw [upd_ne nq, upd_same])) (.cons (.str _) (.cons (.str _) (.cons (.bl _) .nil))), ⟨1, by show 3 ≤ 100; decide, fun d hd => ?_⟩⟩
            simp only [List.mem_cons, List.not_mem_nil, or_false] at hd
            rcases hd with rfl | rfl | rfl
            · show Str.length _ ≤ 100; decide
            · show Str.length _ ≤ 100; omega
            · trivial)
          have l19 : (vs ++ [V.ref tq]).length ≤ 70 := by rw [List.length_append]; show _ + 1 ≤ _; omega
          have bt19 : Bt [l] H1 (upd (upd (upd HE q6 (.lst vs)) tq (.tup [.str "lives", .str z0, .bl true])) q6 (.lst (vs ++ [.ref tq]))) := btE.trans (.of_same s19)
          revert g19 a19 l19 bt19
          generalize upd (upd (upd HE q6 (.lst vs)) tq (.tup [.str "lives", .str z0, .bl true])) q6 (.lst (vs ++ [.ref tq])) = H19
          generalize vs ++ [V.ref tq] = qs
          intro g19 a19 l19 bt19
          refine ⟨_, rfl, q6, rfl, ⟨_, sqL g19⟩, fun L3 nL3 => lc_list (K := K) (a := q6) (xs := qs) (fun j H' => H' L3 = some (.lst ((List.replicate j true).map V.bl)) ∧ Same H19 H') ⟨upd_same, same_new nL3⟩ (fun j H' _ h => sqL (h.2 _ _ g19)) ?_ ?_⟩
          · rintro j x H20 hx ⟨hL3, s20⟩
            have jl := lt_get hx
            obtain ⟨d, hd, sm⟩ := a19 x (List.mem_of_getElem? hx)
            refine ⟨rfl, tyes (iteT ⟨_, rfl, _, rfl, _, rfl, [], _, _, x, d, rfl, hd.same s20, sm, fun H21 s21 => ?_⟩)⟩
            refine ⟨_, s21 _ _ hL3, by rw [List.length_map, List.length_replicate]; exact Nat.lt_of_lt_of_le (show j < 100 by omega) (by decide), ?_, ((Bt.of_same (S := []) (s20.trans s21)).upd0 nL3).same⟩
            rw [upd_same, List.replicate_succ', List.map_append]
            rfl
          · rintro H20 ⟨hL3, s20⟩
            refine ⟨L3, _, rfl, sqL hL3, true, congrArg V.bl (by simp), iteF ⟨⟨_, _, _, _, _, _, _, _, rfl⟩, s1.trans (bt_same1 (bt19.trans (.of_same s20)) nl)⟩⟩
end
end WdQ

set_option Elab.async false
set_option linter.all false
set_option maxRecDepth 100000
set_option maxHeartbeats 4000000
namespace WdQ
open PySem PySem.Spec PyProof.Rows L2 WdM Wd
theorem factsN {P : Program} {w : World} {K : PySem.W.Frag} {h : Heap} {mg : Str → Option Value} {f : Addr} (X : K.In h) (G : h.Ns mainGlobals mg) (hfa : mg "law" = some (.ref f)) (c : SaysW asksN defsN K) :
    ∃ fd : FuncData, (∀ (s : Shared) (v : Value), BindsTo s fd ⟨[v], []⟩ [("_law_script", v)]) ∧ ∀ base : Heap, K.In base → base.Ns mainGlobals mg → FnOk P w K mg base CX0 16 f fd ["_law_script"] (spLaw K) := by
  have a1 : PySem.W.nsIn K mainGlobals "is_name" = some (some (.ref (He.ga K "is_name"))) := of_decide_eq_true (c.ask 0 rfl)
  obtain ⟨fd1, FF1⟩ := c.def_ 0 rfl
  have F1 : L2.Fun K "is_name" "is_name" sName (He.ga K "is_name") fd1 := fun_of FF1
  have D1 : Df K mg "is_name" sName (He.ga K "is_name") fd1 ["thing"] := ⟨F1, PySem.W.mg_of X G a1, F1.binds (ps := ["thing"]) fun _ _ _ _ _ _ us hl => match us, hl with | [_], _ => rfl⟩
  have a2 : PySem.W.nsIn K mainGlobals "is_word" = some (some (.ref (He.ga K "is_word"))) := of_decide_eq_true (c.ask 1 rfl)
  obtain ⟨fd2, FF2⟩ := c.def_ 1 rfl
  have F2 : L2.Fun K "is_word" "is_word" sWord (He.ga K "is_word") fd2 := fun_of FF2
  have D2 : Df K mg "is_word" sWord (He.ga K "is_word") fd2 ["thing", "words"] := ⟨F2, PySem.W.mg_of X G a2, F2.binds (ps := ["thing", "words"]) fun _ _ _ _ _ _ us hl => match us, hl with | [_, _], _ => rfl⟩
  have a3 : PySem.W.nsIn K mainGlobals "is_whole" = some (some (.ref (He.ga K "is_whole"))) := of_decide_eq_true (c.ask 2 rfl)
  obtain ⟨fd3, FF3⟩ := c.def_ 2 rfl
  have F3 : L2.Fun K "is_whole" "is_whole" sWhole (He.ga K "is_whole") fd3 := fun_of FF3
  have D3 : Df K mg "is_whole" sWhole (He.ga K "is_whole") fd3 ["thing"] := ⟨F3, PySem.W.mg_of X G a3, F3.binds (ps := ["thing"]) fun _ _ _ _ _ _ us hl => match us, hl with | [_], _ => rfl⟩
  have a4 : PySem.W.nsIn K mainGlobals "is_sum" = some (some (.ref (He.ga K "is_sum"))) := of_decide_eq_true (c.ask 3 rfl)
  obtain ⟨fd4, FF4⟩ := c.def_ 3 rfl
  have F4 : L2.Fun K "is_sum" "is_sum" sSum (He.ga K "is_sum") fd4 := fun_of FF4
  have D4 : Df K mg "is_sum" sSum (He.ga K "is_sum") fd4 ["thing"] := ⟨F4, PySem.W.mg_of X G a4, F4.binds (ps := ["thing"]) fun _ _ _ _ _ _ us hl => match us, hl with | [_], _ => rfl⟩
  have a5 : PySem.W.nsIn K mainGlobals "is_day" = some (some (.ref (He.ga K "is_day"))) := of_decide_eq_true (c.ask 4 rfl)
  obtain ⟨fd5, FF5⟩ := c.def_ 4 rfl
  have F5 : L2.Fun K "is_day" "is_day" sDay (He.ga K "is_day") fd5 := fun_of FF5
  have D5 : Df K mg "is_day" sDay (He.ga K "is_day") fd5 ["thing"] := ⟨F5, PySem.W.mg_of X G a5, F5.binds (ps := ["thing"]) fun _ _ _ _ _ _ us hl => match us, hl with | [_], _ => rfl⟩
  have a6 : PySem.W.nsIn K mainGlobals "is_person" = some (some (.ref (He.ga K "is_person"))) := of_decide_eq_true (c.ask 5 rfl)
  obtain ⟨fd6, FF6⟩ := c.def_ 5 rfl
  have F6 : L2.Fun K "is_person" "is_person" sPerson (He.ga K "is_person") fd6 := fun_of FF6
  have D6 : Df K mg "is_person" sPerson (He.ga K "is_person") fd6 ["thing", "ahead"] := ⟨F6, PySem.W.mg_of X G a6, F6.binds (ps := ["thing", "ahead"]) fun _ _ _ _ _ _ us hl => match us, hl with | [_, _], _ => rfl⟩
  have a7 : PySem.W.nsIn K mainGlobals "check_people" = some (some (.ref (He.ga K "check_people"))) := of_decide_eq_true (c.ask 6 rfl)
  obtain ⟨fd7, FF7⟩ := c.def_ 6 rfl
  have F7 : L2.Fun K "check_people" "check_people" sChkP (He.ga K "check_people") fd7 := fun_of FF7
  have D7 : Df K mg "check_people" sChkP (He.ga K "check_people") fd7 ["people"] := ⟨F7, PySem.W.mg_of X G a7, F7.binds (ps := ["people"]) fun _ _ _ _ _ _ us hl => match us, hl with | [_], _ => rfl⟩
  have a8 : PySem.W.nsIn K mainGlobals "check_goods" = some (some (.ref (He.ga K "check_goods"))) := of_decide_eq_true (c.ask 7 rfl)
  obtain ⟨fd8, FF8⟩ := c.def_ 7 rfl
  have F8 : L2.Fun K "check_goods" "check_goods" sChkG (He.ga K "check_goods") fd8 := fun_of FF8
  have D8 : Df K mg "check_goods" sChkG (He.ga K "check_goods") fd8 ["goods"] := ⟨F8, PySem.W.mg_of X G a8, F8.binds (ps := ["goods"]) fun _ _ _ _ _ _ us hl => match us, hl with | [_], _ => rfl⟩
  have a9 : PySem.W.nsIn K mainGlobals "is_death" = some (some (.ref (He.ga K "is_death"))) := of_decide_eq_true (c.ask 8 rfl)
  obtain ⟨fd9, FF9⟩ := c.def_ 8 rfl
  have F9 : L2.Fun K "is_death" "is_death" sDeath (He.ga K "is_death") fd9 := fun_of FF9
  have D9 : Df K mg "is_death" sDeath (He.ga K "is_death") fd9 ["thing", "ahead"] := ⟨F9, PySem.W.mg_of X G a9, F9.binds (ps := ["thing", "ahead"]) fun _ _ _ _ _ _ us hl => match us, hl with | [_, _], _ => rfl⟩
  have a10 : PySem.W.nsIn K mainGlobals "check_deaths" = some (some (.ref (He.ga K "check_deaths"))) := of_decide_eq_true (c.ask 9 rfl)
  obtain ⟨fd10, FF10⟩ := c.def_ 9 rfl
  have F10 : L2.Fun K "check_deaths" "check_deaths" sChkD (He.ga K "check_deaths") fd10 := fun_of FF10
  have D10 : Df K mg "check_deaths" sChkD (He.ga K "check_deaths") fd10 ["deaths"] := ⟨F10, PySem.W.mg_of X G a10, F10.binds (ps := ["deaths"]) fun _ _ _ _ _ _ us hl => match us, hl with | [_], _ => rfl⟩
  have a11 : PySem.W.nsIn K mainGlobals "is_lives" = some (some (.ref (He.ga K "is_lives"))) := of_decide_eq_true (c.ask 10 rfl)
  obtain ⟨fd11, FF11⟩ := c.def_ 10 rfl
  have F11 : L2.Fun K "is_lives" "is_lives" sLives (He.ga K "is_lives") fd11 := fun_of FF11
  have D11 : Df K mg "is_lives" sLives (He.ga K "is_lives") fd11 ["thing"] := ⟨F11, PySem.W.mg_of X G a11, F11.binds (ps := ["thing"]) fun _ _ _ _ _ _ us hl => match us, hl with | [_], _ => rfl⟩
  have a12 : PySem.W.nsIn K mainGlobals "is_formed" = some (some (.ref (He.ga K "is_formed"))) := of_decide_eq_true (c.ask 11 rfl)
  obtain ⟨fd12, FF12⟩ := c.def_ 11 rfl
  have F12 : L2.Fun K "is_formed" "is_formed" sForm (He.ga K "is_formed") fd12 := fun_of FF12
  have D12 : Df K mg "is_formed" sForm (He.ga K "is_formed") fd12 ["thing", "room"] := ⟨F12, PySem.W.mg_of X G a12, F12.binds (ps := ["thing", "room"]) fun _ _ _ _ _ _ us hl => match us, hl with | [_, _], _ => rfl⟩
  have a13 : PySem.W.nsIn K mainGlobals "leaves" = some (some (.ref (He.ga K "leaves"))) := of_decide_eq_true (c.ask 12 rfl)
  obtain ⟨fd13, FF13⟩ := c.def_ 12 rfl
  have F13 : L2.Fun K "leaves" "leaves" sLeav (He.ga K "leaves") fd13 := fun_of FF13
  have D13 : Df K mg "leaves" sLeav (He.ga K "leaves") fd13 ["cond"] := ⟨F13, PySem.W.mg_of X G a13, F13.binds (ps := ["cond"]) fun _ _ _ _ _ _ us hl => match us, hl with | [_], _ => rfl⟩
  have a14 : PySem.W.nsIn K mainGlobals "is_cond" = some (some (.ref (He.ga K "is_cond"))) := of_decide_eq_true (c.ask 13 rfl)
  obtain ⟨fd14, FF14⟩ := c.def_ 13 rfl
  have F14 : L2.Fun K "is_cond" "is_cond" sCond (He.ga K "is_cond") fd14 := fun_of FF14
  have D14 : Df K mg "is_cond" sCond (He.ga K "is_cond") fd14 ["thing"] := ⟨F14, PySem.W.mg_of X G a14, F14.binds (ps := ["thing"]) fun _ _ _ _ _ _ us hl => match us, hl with | [_], _ => rfl⟩
  have a15 : PySem.W.nsIn K mainGlobals "is_cond_or_none" = some (some (.ref (He.ga K "is_cond_or_none"))) := of_decide_eq_true (c.ask 14 rfl)
  obtain ⟨fd15, FF15⟩ := c.def_ 14 rfl
  have F15 : L2.Fun K "is_cond_or_none" "is_cond_or_none" sCondN (He.ga K "is_cond_or_none") fd15 := fun_of FF15
  have D15 : Df K mg "is_cond_or_none" sCondN (He.ga K "is_cond_or_none") fd15 ["thing"] := ⟨F15, PySem.W.mg_of X G a15, F15.binds (ps := ["thing"]) fun _ _ _ _ _ _ us hl => match us, hl with | [_], _ => rfl⟩
  have a16 : PySem.W.nsIn K mainGlobals "_law_pool" = some (some (.ref (He.ga K "_law_pool"))) := of_decide_eq_true (c.ask 15 rfl)
  obtain ⟨fd16, FF16⟩ := c.def_ 15 rfl
  have F16 : L2.Fun K "_law_pool" "_law_pool" sPool (He.ga K "_law_pool") fd16 := fun_of FF16
  have D16 : Df K mg "_law_pool" sPool (He.ga K "_law_pool") fd16 ["_law_script", "_law_k"] := ⟨F16, PySem.W.mg_of X G a16, F16.binds (ps := ["_law_script", "_law_k"]) fun _ _ _ _ _ _ us hl => match us, hl with | [_, _], _ => rfl⟩
  have a17 : PySem.W.nsIn K mainGlobals "_law_take" = some (some (.ref (He.ga K "_law_take"))) := of_decide_eq_true (c.ask 16 rfl)
  obtain ⟨fd17, FF17⟩ := c.def_ 16 rfl
  have F17 : L2.Fun K "_law_take" "_law_take" sTake (He.ga K "_law_take") fd17 := fun_of FF17
  have D17 : Df K mg "_law_take" sTake (He.ga K "_law_take") fd17 ["_law_pool_here", "_law_many"] := ⟨F17, PySem.W.mg_of X G a17, F17.binds (ps := ["_law_pool_here", "_law_many"]) fun _ _ _ _ _ _ us hl => match us, hl with | [_, _], _ => rfl⟩
  have a18 : PySem.W.nsIn K mainGlobals "_law_words" = some (some (.ref (He.ga K "_law_words"))) := of_decide_eq_true (c.ask 17 rfl)
  obtain ⟨fd18, FF18⟩ := c.def_ 17 rfl
  have F18 : L2.Fun K "_law_words" "_law_words" sWords (He.ga K "_law_words") fd18 := fun_of FF18
  have D18 : Df K mg "_law_words" sWords (He.ga K "_law_words") fd18 ["_law_pool_here", "_law_many"] := ⟨F18, PySem.W.mg_of X G a18, F18.binds (ps := ["_law_pool_here", "_law_many"]) fun _ _ _ _ _ _ us hl => match us, hl with | [_, _], _ => rfl⟩
  have a19 : PySem.W.nsIn K mainGlobals "_law_people" = some (some (.ref (He.ga K "_law_people"))) := of_decide_eq_true (c.ask 18 rfl)
  obtain ⟨fd19, FF19⟩ := c.def_ 18 rfl
  have F19 : L2.Fun K "_law_people" "_law_people" sPeople (He.ga K "_law_people") fd19 := fun_of FF19
  have D19 : Df K mg "_law_people" sPeople (He.ga K "_law_people") fd19 ["_law_pool_here", "_law_many"] := ⟨F19, PySem.W.mg_of X G a19, F19.binds (ps := ["_law_pool_here", "_law_many"]) fun _ _ _ _ _ _ us hl => match us, hl with | [_, _], _ => rfl⟩
  have a20 : PySem.W.nsIn K mainGlobals "_law_deaths" = some (some (.ref (He.ga K "_law_deaths"))) := of_decide_eq_true (c.ask 19 rfl)
  obtain ⟨fd20, FF20⟩ := c.def_ 19 rfl
  have F20 : L2.Fun K "_law_deaths" "_law_deaths" sDeaths (He.ga K "_law_deaths") fd20 := fun_of FF20
  have D20 : Df K mg "_law_deaths" sDeaths (He.ga K "_law_deaths") fd20 ["_law_pool_here", "_law_folk", "_law_days"] := ⟨F20, PySem.W.mg_of X G a20, F20.binds (ps := ["_law_pool_here", "_law_folk", "_law_days"]) fun _ _ _ _ _ _ us hl => match us, hl with | [_, _, _], _ => rfl⟩
  have a21 : PySem.W.nsIn K mainGlobals "_law_cond" = some (some (.ref (He.ga K "_law_cond"))) := of_decide_eq_true (c.ask 20 rfl)
  obtain ⟨fd21, FF21⟩ := c.def_ 20 rfl
  have F21 : L2.Fun K "_law_cond" "_law_cond" sLc (He.ga K "_law_cond") fd21 := fun_of FF21
  have D21 : Df K mg "_law_cond" sLc (He.ga K "_law_cond") fd21 ["_law_pool_here", "_law_folk", "_law_days", "_law_deep"] := ⟨F21, PySem.W.mg_of X G a21, F21.binds (ps := ["_law_pool_here", "_law_folk", "_law_days", "_law_deep"]) fun _ _ _ _ _ _ us hl => match us, hl with | [_, _, _, _], _ => rfl⟩
  have a22 : PySem.W.nsIn K mainGlobals "_law_sort" = some (some (.ref (He.ga K "_law_sort"))) := of_decide_eq_true (c.ask 21 rfl)
  obtain ⟨fd22, FF22⟩ := c.def_ 21 rfl
  have F22 : L2.Fun K "_law_sort" "_law_sort" sSort (He.ga K "_law_sort") fd22 := fun_of FF22
  have D22 : Df K mg "_law_sort" sSort (He.ga K "_law_sort") fd22 ["_law_caught"] := ⟨F22, PySem.W.mg_of X G a22, F22.binds (ps := ["_law_caught"]) fun _ _ _ _ _ _ us hl => match us, hl with | [_], _ => rfl⟩
  have a23 : PySem.W.nsIn K mainGlobals "_law_is_name" = some (some (.ref (He.ga K "_law_is_name"))) := of_decide_eq_true (c.ask 22 rfl)
  obtain ⟨fd23, FF23⟩ := c.def_ 22 rfl
  have F23 : L2.Fun K "_law_is_name" "_law_is_name" sLN (He.ga K "_law_is_name") fd23 := fun_of FF23
  have D23 : Df K mg "_law_is_name" sLN (He.ga K "_law_is_name") fd23 ["_law_thing"] := ⟨F23, PySem.W.mg_of X G a23, F23.binds (ps := ["_law_thing"]) fun _ _ _ _ _ _ us hl => match us, hl with | [_], _ => rfl⟩
  have a24 : PySem.W.nsIn K mainGlobals "_law_is_day" = some (some (.ref (He.ga K "_law_is_day"))) := of_decide_eq_true (c.ask 23 rfl)
  obtain ⟨fd24, FF24⟩ := c.def_ 23 rfl
  have F24 : L2.Fun K "_law_is_day" "_law_is_day" sLD (He.ga K "_law_is_day") fd24 := fun_of FF24
  have D24 : Df K mg "_law_is_day" sLD (He.ga K "_law_is_day") fd24 ["_law_thing"] := ⟨F24, PySem.W.mg_of X G a24, F24.binds (ps := ["_law_thing"]) fun _ _ _ _ _ _ us hl => match us, hl with | [_], _ => rfl⟩
  have a25 : PySem.W.nsIn K mainGlobals "_law_count" = some (some (.ref (He.ga K "_law_count"))) := of_decide_eq_true (c.ask 24 rfl)
  obtain ⟨fd25, FF25⟩ := c.def_ 24 rfl
  have F25 : L2.Fun K "_law_count" "_law_count" sCnt (He.ga K "_law_count") fd25 := fun_of FF25
  have D25 : Df K mg "_law_count" sCnt (He.ga K "_law_count") fd25 ["_law_thing", "_law_deep"] := ⟨F25, PySem.W.mg_of X G a25, F25.binds (ps := ["_law_thing", "_law_deep"]) fun _ _ _ _ _ _ us hl => match us, hl with | [_, _], _ => rfl⟩
  have a26 : PySem.W.nsIn K mainGlobals "_law_odd" = some (some (.ref (He.ga K "_law_odd"))) := of_decide_eq_true (c.ask 25 rfl)
  obtain ⟨fd26, FF26⟩ := c.def_ 25 rfl
  have F26 : L2.Fun K "_law_odd" "_law_odd" sOdd (He.ga K "_law_odd") fd26 := fun_of FF26
  have D26 : Df K mg "_law_odd" sOdd (He.ga K "_law_odd") fd26 ["_law_pool_here", "_law_thing"] := ⟨F26, PySem.W.mg_of X G a26, F26.binds (ps := ["_law_pool_here", "_law_thing"]) fun _ _ _ _ _ _ us hl => match us, hl with | [_, _], _ => rfl⟩
  have a27 : PySem.W.nsIn K mainGlobals "_law_bent" = some (some (.ref (He.ga K "_law_bent"))) := of_decide_eq_true (c.ask 26 rfl)
  obtain ⟨fd27, FF27⟩ := c.def_ 26 rfl
  have F27 : L2.Fun K "_law_bent" "_law_bent" sBent (He.ga K "_law_bent") fd27 := fun_of FF27
  have D27 : Df K mg "_law_bent" sBent (He.ga K "_law_bent") fd27 ["_law_pool_here", "_law_thing"] := ⟨F27, PySem.W.mg_of X G a27, F27.binds (ps := ["_law_pool_here", "_law_thing"]) fun _ _ _ _ _ _ us hl => match us, hl with | [_, _], _ => rfl⟩
  have a28 : PySem.W.nsIn K mainGlobals "_law_bounds" = some (some (.ref (He.ga K "_law_bounds"))) := of_decide_eq_true (c.ask 27 rfl)
  obtain ⟨fd28, FF28⟩ := c.def_ 27 rfl
  have F28 : L2.Fun K "_law_bounds" "_law_bounds" sBd (He.ga K "_law_bounds") fd28 := fun_of FF28
  have D28 : Df K mg "_law_bounds" sBd (He.ga K "_law_bounds") fd28 ["_law_one"] := ⟨F28, PySem.W.mg_of X G a28, F28.binds (ps := ["_law_one"]) fun _ _ _ _ _ _ us hl => match us, hl with | [_], _ => rfl⟩
  have a29 : PySem.W.nsIn K mainGlobals "_law_refused" = some (some (.ref (He.ga K "_law_refused"))) := of_decide_eq_true (c.ask 28 rfl)
  obtain ⟨fd29, FF29⟩ := c.def_ 28 rfl
  have F29 : L2.Fun K "_law_refused" "_law_refused" sRef (He.ga K "_law_refused") fd29 := fun_of FF29
  have D29 : Df K mg "_law_refused" sRef (He.ga K "_law_refused") fd29 ["_law_parts"] := ⟨F29, PySem.W.mg_of X G a29, F29.binds (ps := ["_law_parts"]) fun _ _ _ _ _ _ us hl => match us, hl with | [_], _ => rfl⟩
  have a30 : PySem.W.nsIn K mainGlobals "_law_right" = some (some (.ref (He.ga K "_law_right"))) := of_decide_eq_true (c.ask 29 rfl)
  obtain ⟨fd30, FF30⟩ := c.def_ 29 rfl
  have F30 : L2.Fun K "_law_right" "_law_right" sRt (He.ga K "_law_right") fd30 := fun_of FF30
  have D30 : Df K mg "_law_right" sRt (He.ga K "_law_right") fd30 ["_law_home", "_law_tale", "_law_thing"] := ⟨F30, PySem.W.mg_of X G a30, F30.binds (ps := ["_law_home", "_law_tale", "_law_thing"]) fun _ _ _ _ _ _ us hl => match us, hl with | [_, _, _], _ => rfl⟩
  have a31 : PySem.W.nsIn K mainGlobals "law" = some (some (.ref (He.ga K "law"))) := of_decide_eq_true (c.ask 30 rfl)
  obtain ⟨fd31, FF31⟩ := c.def_ 30 rfl
  have F31 : L2.Fun K "law" "law" sLaw (He.ga K "law") fd31 := fun_of FF31
  have D31 : Df K mg "law" sLaw (He.ga K "law") fd31 ["_law_script"] := ⟨F31, PySem.W.mg_of X G a31, F31.binds (ps := ["_law_script"]) fun _ _ _ _ _ _ us hl => match us, hl with | [_], _ => rfl⟩
  have z_isinstance : PySem.W.nsIn K mainGlobals "isinstance" = some none := of_decide_eq_true (c.ask 31 rfl)
  have z_int : PySem.W.nsIn K mainGlobals "int" = some none := of_decide_eq_true (c.ask 32 rfl)
  have z_bool : PySem.W.nsIn K mainGlobals "bool" = some none := of_decide_eq_true (c.ask 33 rfl)
  have z_str : PySem.W.nsIn K mainGlobals "str" = some none := of_decide_eq_true (c.ask 34 rfl)
  have z_tuple : PySem.W.nsIn K mainGlobals "tuple" = some none := of_decide_eq_true (c.ask 35 rfl)
  have z_list : PySem.W.nsIn K mainGlobals "list" = some none := of_decide_eq_true (c.ask 36 rfl)
  have z_len : PySem.W.nsIn K mainGlobals "len" = some none := of_decide_eq_true (c.ask 37 rfl)
  have z_abs : PySem.W.nsIn K mainGlobals "abs" = some none := of_decide_eq_true (c.ask 38 rfl)
  have z_all : PySem.W.nsIn K mainGlobals "all" = some none := of_decide_eq_true (c.ask 39 rfl)
  have z_any : PySem.W.nsIn K mainGlobals "any" = some none := of_decide_eq_true (c.ask 40 rfl)
  have z_sum : PySem.W.nsIn K mainGlobals "sum" = some none := of_decide_eq_true (c.ask 41 rfl)
  have z_enumerate : PySem.W.nsIn K mainGlobals "enumerate" = some none := of_decide_eq_true (c.ask 42 rfl)
  have z_divmod : PySem.W.nsIn K mainGlobals "divmod" = some none := of_decide_eq_true (c.ask 43 rfl)
  have z_range : PySem.W.nsIn K mainGlobals "range" = some none := of_decide_eq_true (c.ask 44 rfl)
  have z_max : PySem.W.nsIn K mainGlobals "max" = some none := of_decide_eq_true (c.ask 45 rfl)
  have z_min : PySem.W.nsIn K mainGlobals "min" = some none := of_decide_eq_true (c.ask 46 rfl)
  have z_zip : PySem.W.nsIn K mainGlobals "zip" = some none := of_decide_eq_true (c.ask 47 rfl)
  have z_repr : PySem.W.nsIn K mainGlobals "repr" = some none := of_decide_eq_true (c.ask 48 rfl)
  have z_ValueError : PySem.W.nsIn K mainGlobals "ValueError" = some none := of_decide_eq_true (c.ask 49 rfl)
  have z_LookupError : PySem.W.nsIn K mainGlobals "LookupError" = some none := of_decide_eq_true (c.ask 50 rfl)
  have z_ArithmeticError : PySem.W.nsIn K mainGlobals "ArithmeticError" = some none := of_decide_eq_true (c.ask 51 rfl)
  have z_sorted : PySem.W.nsIn K mainGlobals "sorted" = some none := of_decide_eq_true (c.ask 52 rfl)
  have B : Bi mg := ⟨PySem.W.mg_none_of X G z_isinstance, PySem.W.mg_none_of X G z_int, PySem.W.mg_none_of X G z_bool, PySem.W.mg_none_of X G z_str, PySem.W.mg_none_of X G z_tuple, PySem.W.mg_none_of X G z_list, PySem.W.mg_none_of X G z_len, PySem.W.mg_none_of X G z_abs, PySem.W.mg_none_of X G z_all, PySem.W.mg_none_of X G z_any, PySem.W.mg_none_of X G z_sum, PySem.W.mg_none_of X G z_enumerate, PySem.W.mg_none_of X G z_divmod, PySem.W.mg_none_of X G z_range, PySem.W.mg_none_of X G z_max, PySem.W.mg_none_of X G z_min, PySem.W.mg_none_of X G z_zip, PySem.W.mg_none_of X G z_repr⟩
  have e6 : PySem.W.specialIn K (.builtin "object.__class__") "__get__" = some (some (.builtin "getset_descriptor.__get__")) := of_decide_eq_true (c.ask 53 rfl)
  have e7 : PySem.W.takesIn K (.builtin "object.__class__") = some true := of_decide_eq_true (c.ask 54 rfl)
  have g0 : PySem.W.nsIn K mainGlobals "NoName" = some (some (.ref (He.ga K "NoName"))) := of_decide_eq_true (c.ask 55 rfl)
  have g1 : PySem.W.nsIn K mainGlobals "NoSum" = some (some (.ref (He.ga K "NoSum"))) := of_decide_eq_true (c.ask 56 rfl)
  have g2 : PySem.W.nsIn K mainGlobals "NoShares" = some (some (.ref (He.ga K "NoShares"))) := of_decide_eq_true (c.ask 57 rfl)
  have g3 : PySem.W.nsIn K mainGlobals "NoPeople" = some (some (.ref (He.ga K "NoPeople"))) := of_decide_eq_true (c.ask 58 rfl)
  have g4 : PySem.W.nsIn K mainGlobals "NoGoods" = some (some (.ref (He.ga K "NoGoods"))) := of_decide_eq_true (c.ask 59 rfl)
  have g5 : PySem.W.nsIn K mainGlobals "NoText" = some (some (.ref (He.ga K "NoText"))) := of_decide_eq_true (c.ask 60 rfl)
  have g6 : PySem.W.nsIn K mainGlobals "NoStory" = some (some (.ref (He.ga K "NoStory"))) := of_decide_eq_true (c.ask 61 rfl)
  have g7 : PySem.W.nsIn K mainGlobals "NoDay" = some (some (.ref (He.ga K "NoDay"))) := of_decide_eq_true (c.ask 62 rfl)
  have g8 : PySem.W.nsIn K mainGlobals "NoCond" = some (some (.ref (He.ga K "NoCond"))) := of_decide_eq_true (c.ask 63 rfl)
  have g9 : PySem.W.nsIn K mainGlobals "NoWhom" = some (some (.ref (He.ga K "NoWhom"))) := of_decide_eq_true (c.ask 64 rfl)
  have g10 : PySem.W.nsIn K mainGlobals "NoClause" = some (some (.ref (He.ga K "NoClause"))) := of_decide_eq_true (c.ask 65 rfl)
  have g11 : PySem.W.nsIn K mainGlobals "NoReading" = some (some (.ref (He.ga K "NoReading"))) := of_decide_eq_true (c.ask 66 rfl)
  have g12 : PySem.W.nsIn K mainGlobals "NoWord" = some (some (.ref (He.ga K "NoWord"))) := of_decide_eq_true (c.ask 67 rfl)
  have g13 : PySem.W.nsIn K mainGlobals "LabelStands" = some (some (.ref (He.ga K "LabelStands"))) := of_decide_eq_true (c.ask 68 rfl)
  have g14 : PySem.W.nsIn K mainGlobals "DayStands" = some (some (.ref (He.ga K "DayStands"))) := of_decide_eq_true (c.ask 69 rfl)
  have g15 : PySem.W.nsIn K mainGlobals "NoRow" = some (some (.ref (He.ga K "NoRow"))) := of_decide_eq_true (c.ask 70 rfl)
  have g16 : PySem.W.nsIn K mainGlobals "NoPerson" = some (some (.ref (He.ga K "NoPerson"))) := of_decide_eq_true (c.ask 71 rfl)
  have g17 : PySem.W.nsIn K mainGlobals "NoThing" = some (some (.ref (He.ga K "NoThing"))) := of_decide_eq_true (c.ask 72 rfl)
  have g18 : PySem.W.nsIn K mainGlobals "NoLabel" = some (some (.ref (He.ga K "NoLabel"))) := of_decide_eq_true (c.ask 73 rfl)
  have g19 : PySem.W.nsIn K mainGlobals "NoUndo" = some (some (.ref (He.ga K "NoUndo"))) := of_decide_eq_true (c.ask 74 rfl)
  have g20 : PySem.W.nsIn K mainGlobals "TooMany" = some (some (.ref (He.ga K "TooMany"))) := of_decide_eq_true (c.ask 75 rfl)
  have g21 : PySem.W.nsIn K mainGlobals "WordError" = some (some (.ref (He.ga K "WordError"))) := of_decide_eq_true (c.ask 76 rfl)
  have g22 : PySem.W.nsIn K mainGlobals "LostError" = some (some (.ref (He.ga K "LostError"))) := of_decide_eq_true (c.ask 77 rfl)
  have g23 : PySem.W.nsIn K mainGlobals "RoomError" = some (some (.ref (He.ga K "RoomError"))) := of_decide_eq_true (c.ask 78 rfl)
  have TC : ClsF mg (fun i => [(He.ga K "NoName"), (He.ga K "NoSum"), (He.ga K "NoShares"), (He.ga K "NoPeople"), (He.ga K "NoGoods"), (He.ga K "NoText"), (He.ga K "NoStory"), (He.ga K "NoDay"), (He.ga K "NoCond"), (He.ga K "NoWhom"), (He.ga K "NoClause"), (He.ga K "NoReading"), (He.ga K "NoWord"), (He.ga K "LabelStands"), (He.ga K "DayStands"), (He.ga K "NoRow"), (He.ga K "NoPerson"), (He.ga K "NoThing"), (He.ga K "NoLabel"), (He.ga K "NoUndo"), (He.ga K "TooMany"), (He.ga K "WordError"), (He.ga K "LostError"), (He.ga K "RoomError")].getD i 0) := ⟨PySem.W.mg_of X G g0, PySem.W.mg_of X G g1, PySem.W.mg_of X G g2, PySem.W.mg_of X G g3, PySem.W.mg_of X G g4, PySem.W.mg_of X G g5, PySem.W.mg_of X G g6, PySem.W.mg_of X G g7, PySem.W.mg_of X G g8, PySem.W.mg_of X G g9, PySem.W.mg_of X G g10, PySem.W.mg_of X G g11, PySem.W.mg_of X G g12, PySem.W.mg_of X G g13, PySem.W.mg_of X G g14, PySem.W.mg_of X G g15, PySem.W.mg_of X G g16, PySem.W.mg_of X G g17, PySem.W.mg_of X G g18, PySem.W.mg_of X G g19, PySem.W.mg_of X G g20, PySem.W.mg_of X G g21, PySem.W.mg_of X G g22, PySem.W.mg_of X G g23, PySem.W.mg_none_of X G z_ValueError, PySem.W.mg_none_of X G z_LookupError, PySem.W.mg_none_of X G z_ArithmeticError⟩
  have e7_1 : PySem.W.findIn K (.ref (He.ga K "NoDay")) "__getattribute__" = some (some (.builtin "BaseException.__getattribute__")) := of_decide_eq_true (c.ask 79 rfl)
  have e7_2 : PySem.W.findIn K (.ref (He.ga K "NoDay")) "__getattr__" = some none := of_decide_eq_true (c.ask 80 rfl)
  have e7_4 : PySem.W.hasDictIn K (He.ga K "NoDay") = true := of_decide_eq_true (c.ask 81 rfl)
  have e7_5 : PySem.W.findIn K (.ref (He.ga K "NoDay")) "__class__" = some (some (.builtin "object.__class__")) := of_decide_eq_true (c.ask 82 rfl)
  have e7_8 : PySem.W.mroIn K (He.ga K "NoDay") (.type "object") = some true := of_decide_eq_true (c.ask 83 rfl)
  have e7_b : PySem.W.subIn K (.ref (He.ga K "NoDay")) (.type "BaseException") = some true := of_decide_eq_true (c.ask 84 rfl)
  have e7_t : PySem.W.typeIn K (.ref (He.ga K "NoDay")) = some (.type "type") := of_decide_eq_true (c.ask 85 rfl)
  have e7_k : PySem.W.keepIn K (.ref (He.ga K "NoDay")) = true := of_decide_eq_true (c.ask 86 rfl)
  have e7_i : PySem.W.findIn K (.ref (He.ga K "NoDay")) "__init__" = some (some (.ref (He.ma K (He.ga K "NoDay") "__init__"))) := of_decide_eq_true (c.ask 87 rfl)
  have e7_ty : PySem.W.typeIn K (.ref (He.ma K (He.ga K "NoDay") "__init__")) = some (.type "function") := of_decide_eq_true (c.ask 88 rfl)
  have e7_sa : PySem.W.findIn K (.ref (He.ga K "NoDay")) "__setattr__" = some (some (.builtin "object.__setattr__")) := of_decide_eq_true (c.ask 89 rfl)
  have e7_no : PySem.W.findIn K (.ref (He.ga K "NoDay")) "thing" = some none := of_decide_eq_true (c.ask 90 rfl)
  have e7_m : PySem.W.exmOne K (.ref (He.ga K "NoDay")) (.ref (He.ga K "WordError")) = some true := of_decide_eq_true (c.ask 91 rfl)
  obtain ⟨fdE7, FE7⟩ := c.def_ 31 rfl
  have FI7 : L2.Fun K "__init__" "NoDay.__init__" sEDay (He.ma K (He.ga K "NoDay") "__init__") fdE7 := fun_of FE7
  have bI7 : Binds K fdE7 ["self", "thing"] [] := FI7.binds (ps := ["self", "thing"]) fun _ _ _ _ _ _ us hl => match us, hl with | [_, _], _ => rfl
  have T7 : ErC K mg "NoDay" "thing" (He.ga K "NoDay") (He.ma K (He.ga K "NoDay") "__init__") (He.ga K "WordError") := ⟨⟨oexB_ok (c.ask 92 (f := fun K => oexB K (He.ga K "NoDay")) rfl), e7_sa, e7_b, e7_t, e7_k⟩, e7_no, e7_i, e7_ty, PySem.W.mg_of X G g7, e7_m, ⟨e7_1, e7_2, e7_b, e7_4, e7_5, e6, e7, e7_8⟩, ⟨e7_1, e7_2, e7_b, e7_4⟩⟩
  have q7_0 : PySem.W.kitOne K (.ref (He.ga K "NoDay")) (.ref (He.ga K "NoName")) = some false := of_decide_eq_true (c.ask 93 rfl)
  have q7_1 : PySem.W.kitOne K (.ref (He.ga K "NoDay")) (.ref (He.ga K "NoSum")) = some false := of_decide_eq_true (c.ask 94 rfl)
  have q7_2 : PySem.W.kitOne K (.ref (He.ga K "NoDay")) (.ref (He.ga K "NoShares")) = some false := of_decide_eq_true (c.ask 95 rfl)
  have q7_3 : PySem.W.kitOne K (.ref (He.ga K "NoDay")) (.ref (He.ga K "NoPeople")) = some false := of_decide_eq_true (c.ask 96 rfl)
  have q7_4 : PySem.W.kitOne K (.ref (He.ga K "NoDay")) (.ref (He.ga K "NoGoods")) = some false := of_decide_eq_true (c.ask 97 rfl)
  have q7_5 : PySem.W.kitOne K (.ref (He.ga K "NoDay")) (.ref (He.ga K "NoText")) = some false := of_decide_eq_true (c.ask 98 rfl)
  have q7_6 : PySem.W.kitOne K (.ref (He.ga K "NoDay")) (.ref (He.ga K "NoStory")) = some false := of_decide_eq_true (c.ask 99 rfl)
  have q7_7 : PySem.W.kitOne K (.ref (He.ga K "NoDay")) (.ref (He.ga K "NoDay")) = some true := of_decide_eq_true (c.ask 100 rfl)
  have q7_8 : PySem.W.kitOne K (.ref (He.ga K "NoDay")) (.ref (He.ga K "NoCond")) = some false := of_decide_eq_true (c.ask 101 rfl)
  have q7_9 : PySem.W.kitOne K (.ref (He.ga K "NoDay")) (.ref (He.ga K "NoWhom")) = some false := of_decide_eq_true (c.ask 102 rfl)
  have q7_10 : PySem.W.kitOne K (.ref (He.ga K "NoDay")) (.ref (He.ga K "NoClause")) = some false := of_decide_eq_true (c.ask 103 rfl)
  have q7_11 : PySem.W.kitOne K (.ref (He.ga K "NoDay")) (.ref (He.ga K "NoReading")) = some false := of_decide_eq_true (c.ask 104 rfl)
  have q7_12 : PySem.W.kitOne K (.ref (He.ga K "NoDay")) (.ref (He.ga K "NoWord")) = some false := of_decide_eq_true (c.ask 105 rfl)
  have q7_13 : PySem.W.kitOne K (.ref (He.ga K "NoDay")) (.ref (He.ga K "LabelStands")) = some false := of_decide_eq_true (c.ask 106 rfl)
  have q7_14 : PySem.W.kitOne K (.ref (He.ga K "NoDay")) (.ref (He.ga K "DayStands")) = some false := of_decide_eq_true (c.ask 107 rfl)
  have q7_15 : PySem.W.kitOne K (.ref (He.ga K "NoDay")) (.ref (He.ga K "NoRow")) = some false := of_decide_eq_true (c.ask 108 rfl)
  have q7_16 : PySem.W.kitOne K (.ref (He.ga K "NoDay")) (.ref (He.ga K "NoPerson")) = some false := of_decide_eq_true (c.ask 109 rfl)
  have q7_17 : PySem.W.kitOne K (.ref (He.ga K "NoDay")) (.ref (He.ga K "NoThing")) = some false := of_decide_eq_true (c.ask 110 rfl)
  have q7_18 : PySem.W.kitOne K (.ref (He.ga K "NoDay")) (.ref (He.ga K "NoLabel")) = some false := of_decide_eq_true (c.ask 111 rfl)
  have q7_19 : PySem.W.kitOne K (.ref (He.ga K "NoDay")) (.ref (He.ga K "NoUndo")) = some false := of_decide_eq_true (c.ask 112 rfl)
  have q7_20 : PySem.W.kitOne K (.ref (He.ga K "NoDay")) (.ref (He.ga K "TooMany")) = some false := of_decide_eq_true (c.ask 113 rfl)
  have q7_w : PySem.W.kitOne K (.ref (He.ga K "NoDay")) (.ref (He.ga K "WordError")) = some true := of_decide_eq_true (c.ask 114 rfl)
  have q7_l : PySem.W.kitOne K (.ref (He.ga K "NoDay")) (.ref (He.ga K "LostError")) = some false := of_decide_eq_true (c.ask 115 rfl)
  have q7_r : PySem.W.kitOne K (.ref (He.ga K "NoDay")) (.ref (He.ga K "RoomError")) = some false := of_decide_eq_true (c.ask 116 rfl)
  have q7_V : PySem.W.kitOne K (.ref (He.ga K "NoDay")) (.type "ValueError") = some true := of_decide_eq_true (c.ask 117 rfl)
  have q7_L : PySem.W.kitOne K (.ref (He.ga K "NoDay")) (.type "LookupError") = some false := of_decide_eq_true (c.ask 118 rfl)
  have q7_A : PySem.W.kitOne K (.ref (He.ga K "NoDay")) (.type "ArithmeticError") = some false := of_decide_eq_true (c.ask 119 rfl)
  have KS7 : KitF K (He.ga K "NoDay") (fun i => [(He.ga K "NoName"), (He.ga K "NoSum"), (He.ga K "NoShares"), (He.ga K "NoPeople"), (He.ga K "NoGoods"), (He.ga K "NoText"), (He.ga K "NoStory"), (He.ga K "NoDay"), (He.ga K "NoCond"), (He.ga K "NoWhom"), (He.ga K "NoClause"), (He.ga K "NoReading"), (He.ga K "NoWord"), (He.ga K "LabelStands"), (He.ga K "DayStands"), (He.ga K "NoRow"), (He.ga K "NoPerson"), (He.ga K "NoThing"), (He.ga K "NoLabel"), (He.ga K "NoUndo"), (He.ga K "TooMany"), (He.ga K "WordError"), (He.ga K "LostError"), (He.ga K "RoomError")].getD i 0) 7 := by
    refine ⟨fun i hi => ?_, q7_w, q7_l, q7_r, q7_V, q7_L, q7_A⟩
    match i, hi with
    | 0, _ => exact q7_0
    | 1, _ => exact q7_1
    | 2, _ => exact q7_2
    | 3, _ => exact q7_3
    | 4, _ => exact q7_4
    | 5, _ => exact q7_5
    | 6, _ => exact q7_6
    | 7, _ => exact q7_7
    | 8, _ => exact q7_8
    | 9, _ => exact q7_9
    | 10, _ => exact q7_10
    | 11, _ => exact q7_11
    | 12, _ => exact q7_12
    | 13, _ => exact q7_13
    | 14, _ => exact q7_14
    | 15, _ => exact q7_15
    | 16, _ => exact q7_16
    | 17, _ => exact q7_17
    | 18, _ => exact q7_18
    | 19, _ => exact q7_19
    | 20, _ => exact q7_20
    | i + 21, hi => exact absurd hi (by omega)
  have n8_1 : PySem.W.findIn K (.ref (He.ga K "NoCond")) "__getattribute__" = some (some (.builtin "BaseException.__getattribute__")) := of_decide_eq_true (c.ask 120 rfl)
  have n8_2 : PySem.W.findIn K (.ref (He.ga K "NoCond")) "__getattr__" = some none := of_decide_eq_true (c.ask 121 rfl)
  have n8_4 : PySem.W.hasDictIn K (He.ga K "NoCond") = true := of_decide_eq_true (c.ask 122 rfl)
  have n8_5 : PySem.W.findIn K (.ref (He.ga K "NoCond")) "__class__" = some (some (.builtin "object.__class__")) := of_decide_eq_true (c.ask 123 rfl)
  have n8_8 : PySem.W.mroIn K (He.ga K "NoCond") (.type "object") = some true := of_decide_eq_true (c.ask 124 rfl)
  have n8_b : PySem.W.subIn K (.ref (He.ga K "NoCond")) (.type "BaseException") = some true := of_decide_eq_true (c.ask 125 rfl)
  have n8_t : PySem.W.typeIn K (.ref (He.ga K "NoCond")) = some (.type "type") := of_decide_eq_true (c.ask 126 rfl)
  have n8_k : PySem.W.keepIn K (.ref (He.ga K "NoCond")) = true := of_decide_eq_true (c.ask 127 rfl)
  have n8_x : PySem.W.excIn K (He.ga K "NoCond") [.type "ValueError", .type "Exception", .type "BaseException", .type "object"] "ValueError.__new__" = true := of_decide_eq_true (c.ask 128 rfl)
  have n8_m : PySem.W.exmOne K (.ref (He.ga K "NoCond")) (.ref (He.ga K "WordError")) = some true := of_decide_eq_true (c.ask 129 rfl)
  have n8_i : PySem.W.kitOne K (.ref (He.ga K "NoCond")) (.ref (He.ga K "NoCond")) = some true := of_decide_eq_true (c.ask 130 rfl)
  have EN8 : ErN K mg "NoCond" (He.ga K "NoCond") (He.ga K "WordError") := ⟨n8_x, PySem.W.mg_of X G g8, n8_k, n8_b, n8_t, n8_m, ⟨n8_1, n8_2, n8_b, n8_4, n8_5, e6, e7, n8_8⟩, n8_i⟩
  have q8_0 : PySem.W.kitOne K (.ref (He.ga K "NoCond")) (.ref (He.ga K "NoName")) = some false := of_decide_eq_true (c.ask 131 rfl)
  have q8_1 : PySem.W.kitOne K (.ref (He.ga K "NoCond")) (.ref (He.ga K "NoSum")) = some false := of_decide_eq_true (c.ask 132 rfl)
  have q8_2 : PySem.W.kitOne K (.ref (He.ga K "NoCond")) (.ref (He.ga K "NoShares")) = some false := of_decide_eq_true (c.ask 133 rfl)
  have q8_3 : PySem.W.kitOne K (.ref (He.ga K "NoCond")) (.ref (He.ga K "NoPeople")) = some false := of_decide_eq_true (c.ask 134 rfl)
  have q8_4 : PySem.W.kitOne K (.ref (He.ga K "NoCond")) (.ref (He.ga K "NoGoods")) = some false := of_decide_eq_true (c.ask 135 rfl)
  have q8_5 : PySem.W.kitOne K (.ref (He.ga K "NoCond")) (.ref (He.ga K "NoText")) = some false := of_decide_eq_true (c.ask 136 rfl)
  have q8_6 : PySem.W.kitOne K (.ref (He.ga K "NoCond")) (.ref (He.ga K "NoStory")) = some false := of_decide_eq_true (c.ask 137 rfl)
  have q8_7 : PySem.W.kitOne K (.ref (He.ga K "NoCond")) (.ref (He.ga K "NoDay")) = some false := of_decide_eq_true (c.ask 138 rfl)
  have q8_8 : PySem.W.kitOne K (.ref (He.ga K "NoCond")) (.ref (He.ga K "NoCond")) = some true := of_decide_eq_true (c.ask 139 rfl)
  have q8_9 : PySem.W.kitOne K (.ref (He.ga K "NoCond")) (.ref (He.ga K "NoWhom")) = some false := of_decide_eq_true (c.ask 140 rfl)
  have q8_10 : PySem.W.kitOne K (.ref (He.ga K "NoCond")) (.ref (He.ga K "NoClause")) = some false := of_decide_eq_true (c.ask 141 rfl)
  have q8_11 : PySem.W.kitOne K (.ref (He.ga K "NoCond")) (.ref (He.ga K "NoReading")) = some false := of_decide_eq_true (c.ask 142 rfl)
  have q8_12 : PySem.W.kitOne K (.ref (He.ga K "NoCond")) (.ref (He.ga K "NoWord")) = some false := of_decide_eq_true (c.ask 143 rfl)
  have q8_13 : PySem.W.kitOne K (.ref (He.ga K "NoCond")) (.ref (He.ga K "LabelStands")) = some false := of_decide_eq_true (c.ask 144 rfl)
  have q8_14 : PySem.W.kitOne K (.ref (He.ga K "NoCond")) (.ref (He.ga K "DayStands")) = some false := of_decide_eq_true (c.ask 145 rfl)
  have q8_15 : PySem.W.kitOne K (.ref (He.ga K "NoCond")) (.ref (He.ga K "NoRow")) = some false := of_decide_eq_true (c.ask 146 rfl)
  have q8_16 : PySem.W.kitOne K (.ref (He.ga K "NoCond")) (.ref (He.ga K "NoPerson")) = some false := of_decide_eq_true (c.ask 147 rfl)
  have q8_17 : PySem.W.kitOne K (.ref (He.ga K "NoCond")) (.ref (He.ga K "NoThing")) = some false := of_decide_eq_true (c.ask 148 rfl)
  have q8_18 : PySem.W.kitOne K (.ref (He.ga K "NoCond")) (.ref (He.ga K "NoLabel")) = some false := of_decide_eq_true (c.ask 149 rfl)
  have q8_19 : PySem.W.kitOne K (.ref (He.ga K "NoCond")) (.ref (He.ga K "NoUndo")) = some false := of_decide_eq_true (c.ask 150 rfl)
  have q8_20 : PySem.W.kitOne K (.ref (He.ga K "NoCond")) (.ref (He.ga K "TooMany")) = some false := of_decide_eq_true (c.ask 151 rfl)
  have q8_w : PySem.W.kitOne K (.ref (He.ga K "NoCond")) (.ref (He.ga K "WordError")) = some true := of_decide_eq_true (c.ask 152 rfl)
  have q8_l : PySem.W.kitOne K (.ref (He.ga K "NoCond")) (.ref (He.ga K "LostError")) = some false := of_decide_eq_true (c.ask 153 rfl)
  have q8_r : PySem.W.kitOne K (.ref (He.ga K "NoCond")) (.ref (He.ga K "RoomError")) = some false := of_decide_eq_true (c.ask 154 rfl)
  have q8_V : PySem.W.kitOne K (.ref (He.ga K "NoCond")) (.type "ValueError") = some true := of_decide_eq_true (c.ask 155 rfl)
  have q8_L : PySem.W.kitOne K (.ref (He.ga K "NoCond")) (.type "LookupError") = some false := of_decide_eq_true (c.ask 156 rfl)
  have q8_A : PySem.W.kitOne K (.ref (He.ga K "NoCond")) (.type "ArithmeticError") = some false := of_decide_eq_true (c.ask 157 rfl)
  have KS8 : KitF K (He.ga K "NoCond") (fun i => [(He.ga K "NoName"), (He.ga K "NoSum"), (He.ga K "NoShares"), (He.ga K "NoPeople"), (He.ga K "NoGoods"), (He.ga K "NoText"), (He.ga K "NoStory"), (He.ga K "NoDay"), (He.ga K "NoCond"), (He.ga K "NoWhom"), (He.ga K "NoClause"), (He.ga K "NoReading"), (He.ga K "NoWord"), (He.ga K "LabelStands"), (He.ga K "DayStands"), (He.ga K "NoRow"), (He.ga K "NoPerson"), (He.ga K "NoThing"), (He.ga K "NoLabel"), (He.ga K "NoUndo"), (He.ga K "TooMany"), (He.ga K "WordError"), (He.ga K "LostError"), (He.ga K "RoomError")].getD i 0) 8 := by
    refine ⟨fun i hi => ?_, q8_w, q8_l, q8_r, q8_V, q8_L, q8_A⟩
    match i, hi with
    | 0, _ => exact q8_0
    | 1, _ => exact q8_1
    | 2, _ => exact q8_2
    | 3, _ => exact q8_3
    | 4, _ => exact q8_4
    | 5, _ => exact q8_5
    | 6, _ => exact q8_6
    | 7, _ => exact q8_7
    | 8, _ => exact q8_8
    | 9, _ => exact q8_9
    | 10, _ => exact q8_10
    | 11, _ => exact q8_11
    | 12, _ => exact q8_12
    | 13, _ => exact q8_13
    | 14, _ => exact q8_14
    | 15, _ => exact q8_15
    | 16, _ => exact q8_16
    | 17, _ => exact q8_17
    | 18, _ => exact q8_18
    | 19, _ => exact q8_19
    | 20, _ => exact q8_20
    | i + 21, hi => exact absurd hi (by omega)
  have gW : PySem.W.nsIn K mainGlobals "WORDS" = some (some (.ref (He.ga K "WORDS"))) := of_decide_eq_true (c.ask 158 rfl)
  have TN : NmF K mg (He.ga K "WORDS") := ⟨He.str_ok X G (c.ask 159 (f := fun K => (He.Fa.str "LETTERS" "abcdefghijklmnopqrstuvwxyz").ok K) rfl), He.int_ok X G (c.ask 160 (f := fun K => (He.Fa.int "LONGEST" 8).ok K) rfl), PySem.W.mg_of X G gW, fun H => He.tupB_ok (c.ask 161 (f := fun K => He.tupB K "WORDS" [.str "all", .str "and", .str "children", .str "childless", .str "crown", .str "else", .str "if", .str "lives", .str "not", .str "of", .str "or", .str "stock", .str "to"]) rfl) H⟩
  have gC : PySem.W.nsIn K mainGlobals "COND_WORDS" = some (some (.ref (He.ga K "COND_WORDS"))) := of_decide_eq_true (c.ask 162 rfl)
  obtain ⟨t_MOST_DEEP, g_MOST_DEEP⟩ := He.int_ok X G (c.ask 164 (f := fun K => (He.Fa.int "MOST_DEEP" 6).ok K) rfl)
  obtain ⟨t_FEWEST_TERMS, g_FEWEST_TERMS⟩ := He.int_ok X G (c.ask 165 (f := fun K => (He.Fa.int "FEWEST_TERMS" 2).ok K) rfl)
  obtain ⟨t_MOST_TERMS, g_MOST_TERMS⟩ := He.int_ok X G (c.ask 166 (f := fun K => (He.Fa.int "MOST_TERMS" 6).ok K) rfl)
  obtain ⟨t_MOST_NAMES, g_MOST_NAMES⟩ := He.int_ok X G (c.ask 167 (f := fun K => (He.Fa.int "MOST_NAMES" 12).ok K) rfl)
  obtain ⟨t_LAST_DAY, g_LAST_DAY⟩ := He.int_ok X G (c.ask 168 (f := fun K => (He.Fa.int "LAST_DAY" 9999).ok K) rfl)
  obtain ⟨t_MOST_SUM, g_MOST_SUM⟩ := He.int_ok X G (c.ask 169 (f := fun K => (He.Fa.int "MOST_SUM" 1000000000).ok K) rfl)
  obtain ⟨t_MOST_PEOPLE, g_MOST_PEOPLE⟩ := He.int_ok X G (c.ask 170 (f := fun K => (He.Fa.int "MOST_PEOPLE" 8).ok K) rfl)
  obtain ⟨t_MOST_GOODS, g_MOST_GOODS⟩ := He.int_ok X G (c.ask 171 (f := fun K => (He.Fa.int "MOST_GOODS" 8).ok K) rfl)
  obtain ⟨t_MOST_DEATHS, g_MOST_DEATHS⟩ := He.int_ok X G (c.ask 172 (f := fun K => (He.Fa.int "MOST_DEATHS" 8).ok K) rfl)
  have TCo : CoF K mg (He.ga K "COND_WORDS") := ⟨PySem.W.mg_of X G gC, fun H => He.tupB_ok (c.ask 163 (f := fun K => He.tupB K "COND_WORDS" [.str "lives", .str "childless", .str "not", .str "and", .str "or"]) rfl) H, ⟨_, g_MOST_DEEP⟩, ⟨_, g_FEWEST_TERMS⟩, ⟨_, g_MOST_TERMS⟩, ⟨_, g_MOST_NAMES⟩⟩
  have gH : PySem.W.nsIn K mainGlobals "House" = some (some (.ref (He.ga K "House"))) := of_decide_eq_true (c.ask 173 rfl)
  obtain ⟨fdIH, FD0H⟩ := c.def_ 32 rfl
  have FDH : FunD K "__init__" "House.__init__" (defArgs sHI) (defBody sHI) (defScope sHI) [.non, .int 0, .int 0] [] (He.ma K (He.ga K "House") "__init__") fdIH := FD0H
  have MH : Mk K (He.ga K "House") (He.ma K (He.ga K "House") "__init__") := He.mkr_ok (c.ask 174 (f := fun K => (He.Fa.mkr "House").ok K) rfl)
  obtain ⟨dsH, vH, bH⟩ := FDH.binds1 (ps := ["self", "people", "goods", "purse", "debts"]) 2 0 (by simp) rfl fun _ _ _ _ _ _ _ us its hu hi => match us, hu, its, hi with | [_, _], _, [_, _, _], _ => ⟨_, rfl, rfl⟩
  have gY : PySem.W.nsIn K mainGlobals "Story" = some (some (.ref (He.ga K "Story"))) := of_decide_eq_true (c.ask 175 rfl)
  obtain ⟨fdIY, FD0Y⟩ := c.def_ 33 rfl
  have FDY : FunD K "__init__" "Story.__init__" (defArgs sSI) (defBody sSI) (defScope sSI) [.non] [] (He.ma K (He.ga K "Story") "__init__") fdIY := FD0Y
  have MY : Mk K (He.ga K "Story") (He.ma K (He.ga K "Story") "__init__") := He.mkr_ok (c.ask 176 (f := fun K => (He.Fa.mkr "Story").ok K) rfl)
  obtain ⟨dsY, vY, bY⟩ := FDY.binds1 (ps := ["self", "deaths"]) 2 1 (by simp) rfl fun _ _ _ _ _ _ _ us its hu hi => match us, hu, its, hi with | [_, _], _, [_], _ => ⟨_, rfl, rfl⟩
  have TH : HsF K (He.ga K "House") := ⟨He.cls_ok (c.ask 177 (f := fun K => (He.Fa.cls "House").ok K) rfl), He.noat_ok (c.ask 178 (f := fun K => (He.Fa.noat "House" "folk").ok K) rfl), He.noat_ok (c.ask 179 (f := fun K => (He.Fa.noat "House" "things").ok K) rfl), He.noat_ok (c.ask 180 (f := fun K => (He.Fa.noat "House" "purse").ok K) rfl), He.noat_ok (c.ask 181 (f := fun K => (He.Fa.noat "House" "debts").ok K) rfl)⟩
  have TY : SyF K (He.ga K "Story") := ⟨He.cls_ok (c.ask 182 (f := fun K => (He.Fa.cls "Story").ok K) rfl), He.noat_ok (c.ask 183 (f := fun K => (He.Fa.noat "Story" "deaths").ok K) rfl)⟩
  have gDM : PySem.W.nsIn K mainGlobals "comes" = some (some (.ref (He.ga K "comes"))) := of_decide_eq_true (c.ask 184 rfl)
  obtain ⟨fdDM, FD0M⟩ := c.def_ 34 rfl
  have FDM : FunD K "comes" "comes" (defArgs sComes) (defBody sComes) (defScope sComes) [.int 0] [] (He.ga K "comes") fdDM := FD0M
  obtain ⟨dsM, vM, bM⟩ := FDM.binds1 (ps := ["house", "cond", "story", "wait"]) 4 1 (by simp) rfl fun _ _ _ _ _ _ _ us its hu hi => match us, hu, its, hi with | [_, _, _, _], _, [_], _ => ⟨_, rfl, rfl⟩
  have e := hfa.symm.trans (PySem.W.mg_of X G a31)
  cases e
  refine ⟨fd31, fun s v => FunD.bindsA (ps := ["_law_script"]) FF31 (fun _ _ _ _ _ _ us hl => match us, hl with | [_], _ => rfl) s [v] rfl, fun base _ _ => ?_⟩
  have GN : ∀ k, FnOk P w K mg base CX0 (k + 1) _ _ ["thing"] (spName K) := fun k => ok_name (k := k) B TN D1
  have GW : ∀ k, FnOk P w K mg base CX0 (k + 1) _ _ ["thing", "words"] (spWord K) := fun k => ok_word (k := k) B D2
  have GD : ∀ k, FnOk P w K mg base CX0 (k + 2) _ _ ["thing"] (spDay K) := fun k => ok_day (k := k) B (g_LAST_DAY) D5 D3
  have GLv : FnOk P w K mg base CX0 3 _ _ ["thing"] (spLives K) := ok_lives (k := 0) B D11 D1 D5 (GN 1) (GD 0)
  have GF : FnOk P w K mg base CX0 10 _ _ ["thing", "room"] (spForm K 6) := ok_form (k := 0) B TCo D12 D1 D11 D2 (GN 1) GLv (GW 0) 6
  have GCo : FnOk P w K mg base CX0 11 _ _ ["thing"] (spB K condB) := ok_cond (k := 0) B TCo D14 D12 D13 GF
  have GCN : FnOk P w K mg base CX0 12 _ _ ["thing"] (spB K condNB) := ok_condN (k := 0) D15 D14 GCo
  have GCm : FnOk P w K mg base (L2.CX P w) 13 _ _ ["house", "cond", "story", "wait"] (spComes0 K (He.ga K "NoCond") (He.ga K "NoDay")) := ok_comes0 EN8 T7 FI7 bI7 FDM GCN D15 (GD 0) D5
  have GRf : FnOk P w K mg base CX0 14 _ _ ["_law_parts"] (spRef K) := ok_ref B EN8 T7 TC KS7 KS8 (PySem.W.mg_of X G g21) (PySem.W.mg_of X G g22) D29 D22 (PySem.W.mg_of X G gDM) FDM.kp GCm bM vM
  have GCt : FnOk P w K mg base CX0 8 _ _ ["_law_thing", "_law_deep"] (spCnt K 6) := ok_cnt (k := 0) B D25 D23 D24 (ok_lname (k := 0) B D23) (ok_lday (k := 0) B D24) 6 (by decide)
  have GRt : FnOk P w K mg base CX0 15 _ _ ["_law_home", "_law_tale", "_law_thing"] (spRt K) := ok_rt B D30 D14 D25 D29 GCo GCt GRf
  have GT : ∀ k, FnOk P w K mg base CX0 (k + 1) _ _ ["_law_pool_here", "_law_many"] spTake := fun k => ok_take (k := k) B D17
  have GO : FnOk P w K mg base CX0 15 _ _ ["_law_script", "_law_k"] (spPool K) := ok_pool (k := 14) B D16
  have GWo : FnOk P w K mg base CX0 14 _ _ ["_law_pool_here", "_law_many"] spWords := ok_words (k := 12) B D18 D17 (GT 12)
  have GPo : FnOk P w K mg base CX0 15 _ _ ["_law_pool_here", "_law_many"] (spPeople K) := ok_people (k := 12) B D19 D17 D18 (GT 12) GWo
  have GDe : FnOk P w K mg base CX0 15 _ _ ["_law_pool_here", "_law_folk", "_law_days"] (spDeaths K) := ok_deaths (k := 13) B (PySem.W.mg_none_of X G z_sorted) D20 D17 (GT 13)
  have GLc : FnOk P w K mg base CX0 15 _ _ ["_law_pool_here", "_law_folk", "_law_days", "_law_deep"] (spLc K 6) := ok_lc (k := 8) B D21 D17 (GT 8) 6
  have GOd : FnOk P w K mg base CX0 8 _ _ ["_law_pool_here", "_law_thing"] (spOdd K) := ok_odd (k := 6) B D26 D17 (GT 6)
  have GBe : FnOk P w K mg base CX0 15 _ _ ["_law_pool_here", "_law_thing"] (spBent K 7) := ok_bent (k := 6) B D27 D26 D17 (GT 6) GOd 7
  have GBd : FnOk P w K mg base CX0 15 _ _ ["_law_one"] (spBd K) := ok_bd (k := 14) B D28
  have GPe : FnOk P w K mg base CX0 12 _ _ ["thing", "ahead"] (spPerson K) := ok_person (k := 10) B (GN 10) (GW 10) D6 D1 D2
  have GCP : FnOk P w K mg base (L2.CX P w) 13 _ _ ["people"] (spChkP K) := ok_chkP (k := 10) B (g_MOST_PEOPLE) GPe D7 D6
  have GCG : FnOk P w K mg base (L2.CX P w) 11 _ _ ["goods"] (spChk0 K) := ok_chkG0 (k := 10) B (g_MOST_GOODS) D8
  have GZ : FnOk P w K mg base CX0 12 _ _ ["thing"] spZero := ok_zero (k := 10) B (g_MOST_SUM) D4 D3
  have GH : FnOk P w K mg base (L2.CX P w) 14 _ _ ["self", "people", "goods", "purse", "debts"] (spHI K (He.ga K "House")) := ok_HI (k := 10) B TH FDH GCP D7 GCG D8 GZ D4
  have GDh : FnOk P w K mg base CX0 12 _ _ ["thing", "ahead"] (spDeath K) := ok_death (k := 9) B (GN 10) (GD 9) D9 D1 D5
  have GCD : FnOk P w K mg base (L2.CX P w) 13 _ _ ["deaths"] (spChkD K) := ok_chkD (k := 9) B (g_MOST_DEATHS) GDh D10 D9
  have GY : FnOk P w K mg base (L2.CX P w) 14 _ _ ["self", "deaths"] (spSI K (He.ga K "Story")) := ok_SI (k := 9) TY FDY GCD D10
  exact ok_law B D31 D16 D19 D20 D21 D27 D28 D30 GO GPo GDe GLc GBe GBd GRt MH (PySem.W.mg_of X G gH) GH bH vH MY (PySem.W.mg_of X G gY) GY bY vY
end WdQ

set_option Elab.async false
set_option linter.all false
set_option maxRecDepth 100000
set_option maxHeartbeats 0
namespace WdQ
open PySem PySem.Spec PyProof.Rows L2 Wd
end WdQ
open PySem PySem.W PySem.Calls PyProof.Rows
set_option maxRecDepth 100000 in
set_option maxHeartbeats 0 in
theorem PySem.Challenge.cw_willdealt_k13_what_conditions_are_holds : PySem.Challenge.rw_willdealt_k13_what_conditions_are.Holds := by
  w_on; o_law
  refine HandSHeadRun.head_any (r := OpenLaw.row PySem.Challenge.rw_willdealt_k13_what_conditions_are) (q := view (OpenLaw.row PySem.Challenge.rw_willdealt_k13_what_conditions_are).prog [87]) (H := WdQ.hkN) (ob := WdQ.obN) (M := 12000) (loose := WdQ.looseN) (d := HandSHeadRun.topDef (OpenLaw.row PySem.Challenge.rw_willdealt_k13_what_conditions_are).prog 87) (kwd := []) WdQ.obN_eq
    (by kernel_rfl) (fun s => by kernel_rfl) WdQ.runN (by kernel_rfl) (by kernel_rfl) (by kernel_rfl) (by rfl) (by first | assumption | decide +kernel) (by decide +kernel) ⟨rfl, rfl, rfl, rfl, rfl, by decide +kernel⟩ ?hw ?hc
  case hw => w_witness2
  case hc =>
    refine L2.walk_ofE (l := PySem.Challenge.rw_willdealt_k13_what_conditions_are) (n := 63) (k := 16) (x := "_law_script") (CX := L2.CX0) rfl (by decide) (by kernel_rfl) ⟨rfl, by decide, by decide⟩ ?F (fun _ _ _ _ z => z)
    intro w mg fa h Y G hmg0
    obtain ⟨K, KX, c⟩ := Y
    have hmg : mg ("law" : PySem.Str) = some (.ref fa) := by
      have e : (HandSHeadRun.topDef (OpenLaw.row PySem.Challenge.rw_willdealt_k13_what_conditions_are).prog 87).name = ("law" : PySem.Str) := by kernel_rfl
      rw [← e]
      exact hmg0
    obtain ⟨fd, hb, hF⟩ := WdQ.factsN (P := (PySem.Challenge.rw_willdealt_k13_what_conditions_are).prog) (w := w) KX G hmg c
    exact ⟨K, fd, WdQ.spLaw K, KX, hb, fun H a ns hl _ hS => ⟨a, ns, rfl, hS, hl, fun _ => rfl⟩, hF⟩


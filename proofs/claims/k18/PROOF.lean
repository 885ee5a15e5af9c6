import PyProof.Rows.All
import Wide.All
import OpenK.AllK
import Wide.FinOn
import KE.KStateDown
import HandS.Base
import HandS.Call
import HandS.Ends
import HandS.More
import HandS.Words
import HandS.WordsExc
import HandS.Defaults
import HandS.ExcInit
import HandS.ExcField
import HandS.Head0
import HandS.Head1
import HandS.Head2
import HandS.HeadEnd
import HandS.HeadHook1
import HandS.HeadHook2
import KE.GoesMore
import KE.GoesEnum
import KE.KTupSum
import KE.KRevSl
import HandS.ForMost
import HandS.Walk
import HandS.IsInst
import HandS.Wide
import HandS.WideBits
import HandS.TupAny
import HandS.Exc
import HandS.ExcOwn
import HandS.ExcIs
import HandS.CallSlots
import HandS.TupMul
import KE.KExcIs
import PyProof.FactsAll.list_3
import PyProof.Draws
import KE.KExcInit
import HandS.OwnEq
import HandS.FStr
import KE.KCallOwn
import KE.KFmtOwn
import PyProof.InstNe
import KE.KDictPairs
import HandS.DeepEq
import HandS.Dict
import PyProof.EqLayable
import HandS.Iter
import HandS.Style
import HandS.Strs
import PySem.Challenge.RW_willdealt_k18_whole_takers_hang_together
set_option Elab.async false
set_option linter.all false
set_option maxRecDepth 100000
set_option maxHeartbeats 4000000
namespace Wd
open PySem PySem.Spec PyProof.Rows L2 He
/-! ### a head by facts: a row of questions about the written part, and the defs -/
abbrev Ask := PySem.W.Frag → Bool
def obsW (as : List Ask) (fn : List DefD) (K : PySem.W.Frag) : AlD := ((as.all fun f => f K) && fn.all fun d => d.ok K, fn.map fun d => fnW K d.at_)
def SaysW (as : List Ask) (fn : List DefD) (K : PySem.W.Frag) : Prop := obsW as fn K = valD fn
def obsWG (n : Nat) (as : List Ask) (fn : List DefD) (g : Addr → Option Obj) : AlD := obsW as fn (frG g (asD g n))
def hookW (n : Nat) (as : List Ask) (fn : List DefD) : PySem.W.Hook where
  α := AlD
  obs := fun s => obsWG n as fn s.heap.get?
  val := fun _ => valD fn
  says := fun _ h => ∃ K : PySem.W.Frag, K.In h ∧ SaysW as fn K
  of := fun _ _ e => ⟨_, frG_in, e⟩
  keeps := fun _ _ _ ⟨K, hK, c⟩ k => ⟨K, PySem.W.Frag.In.keeps hK k, c⟩
theorem obsWG_eq {n : Nat} {as : List Ask} {fn : List DefD} {g : Addr → Option Obj} {s : Shared} (h : ∀ a, g a = s.heap.get? a) : obsWG n as fn g = (hookW n as fn).obs s := by
  have e : g = s.heap.get? := funext h
  rw [e] <;> rfl
section
variable {as : List Ask} {fn : List DefD} {K : PySem.W.Frag}
theorem SaysW.ask (c : SaysW as fn K) (i : Nat) {f : Ask} (h : as[i]? = some f := by rfl) : f K = true := by
  have c1 := (ba (show ((as.all fun f => f K) && fn.all fun d => d.ok K) = true from congrArg (fun z : AlD => z.1) c)).1
  exact List.all_eq_true.mp c1 f (List.mem_of_getElem? h)
theorem SaysW.def_ (c : SaysW as fn K) (i : Nat) {d : DefD} (h : fn[i]? = some d := by rfl) : ∃ fd, FunD K d.name d.qual d.params d.body d.scope (d.dvs K) (d.kws K) (fAd K d.at_) fd := by
  have c2 := (ba (show ((as.all fun f => f K) && fn.all fun d => d.ok K) = true from congrArg (fun z : AlD => z.1) c)).2
  have e : fn.map (fun d => fnW K d.at_) = fn.map DefD.val := congrArg (fun z : AlD => z.2) c
  have e2 : (fn.map fun d => fnW K d.at_)[i]? = (fn.map DefD.val)[i]? := by rw [e]
  rw [List.getElem?_map, List.getElem?_map, h] at e2
  exact DefD.funD (Option.some.inj e2) (List.all_eq_true.mp c2 d (List.mem_of_getElem? h))
end
theorem obsW_app {as1 as2 : List Ask} {fn1 fn2 : List DefD} {K : PySem.W.Frag} (h1 : obsW as1 fn1 K = valD fn1) (h2 : obsW as2 fn2 K = valD fn2) : obsW (as1 ++ as2) (fn1 ++ fn2) K = valD (fn1 ++ fn2) := by
  have a1 : ((as1.all fun f => f K) && fn1.all fun d => d.ok K) = true := congrArg (fun z : AlD => z.1) h1
  have a2 : ((as2.all fun f => f K) && fn2.all fun d => d.ok K) = true := congrArg (fun z : AlD => z.1) h2
  have b1 : fn1.map (fun d => fnW K d.at_) = fn1.map DefD.val := congrArg (fun z : AlD => z.2) h1
  have b2 : fn2.map (fun d => fnW K d.at_) = fn2.map DefD.val := congrArg (fun z : AlD => z.2) h2
  obtain ⟨p1, p2⟩ := ba a1
  obtain ⟨q1, q2⟩ := ba a2
  unfold obsW valD
  rw [List.all_append, List.all_append, List.map_append, List.map_append, p1, p2, q1, q2, b1, b2]
  rfl
/-- two runs with a part of the questions each are one with both -/
theorem run_app {r : PySem.W.OpenRow} {q : Program} {n M : Nat} {as1 as2 : List Ask} {fn1 fn2 : List DefD} {loose : List Str} {w : World}
    (h1 : HandSHeadRun.RunEq r q (hookW n as1 fn1) (fun s => obsWG n as1 fn1 (HandSHeadRun.getT s)) M loose w) (h2 : HandSHeadRun.RunEq r q (hookW n as2 fn2) (fun s => obsWG n as2 fn2 (HandSHeadRun.getT s)) M loose w) :
    HandSHeadRun.RunEq r q (hookW n (as1 ++ as2) (fn1 ++ fn2)) (fun s => obsWG n (as1 ++ as2) (fn1 ++ fn2) (HandSHeadRun.getT s)) M loose w := by
  intro os
  have e1 := h1 os
  have e2 := h2 os
  revert e1 e2
  generalize HandSHeadRun.endF _ _ _ _ _ = z
  intro e1 e2
  cases z with
  | none => cases e1
  | some s =>
    have e1 := Option.some.inj e1
    have e2 := Option.some.inj e2
    have l : _ = true := congrArg (fun z => z.1) e1
    have m := congrArg (fun z => z.2.1) e1
    have o1 : obsWG n as1 fn1 (HandSHeadRun.getT s) = valD fn1 := congrArg (fun z => z.2.2) e1
    have o2 : obsWG n as2 fn2 (HandSHeadRun.getT s) = valD fn2 := congrArg (fun z => z.2.2) e2
    have o : obsWG n (as1 ++ as2) (fn1 ++ fn2) (HandSHeadRun.getT s) = valD (fn1 ++ fn2) := obsW_app o1 o2
    exact congrArg some (Prod.ext l (Prod.ext m o))
/-! ### the run asked in parts, each a run of its own (less is held at a time) -/
def LkEq (r : PySem.W.OpenRow) (M : Nat) (w : World) : Prop := ∀ os : OsState, (HandSHeadRun.endF (HandSHeadRun.stepQ (HandSHeadRun.denQ HandSHeadRun.tabQ) r.prog w) M r.prog w os).map (fun s => HandSHeadRun.looksF r.prog (PySem.W.boot_heap w.params) s.abs) = some true
def SnEq (r : PySem.W.OpenRow) (q : Program) (M : Nat) (loose : List Str) (w : World) : Prop := ∀ os : OsState, (HandSHeadRun.endF (HandSHeadRun.stepQ (HandSHeadRun.denQ HandSHeadRun.tabQ) r.prog w) M r.prog w os).map (fun s => HandSHeadRun.seenQ q loose (importedModules r.prog.main.body) (fun s => PySem.W.xlAt q [] s && PySem.W.recOk r.toRowW.records s) s.abs) = some (PySem.W.openGood q loose)
def ObEq (r : PySem.W.OpenRow) (n M : Nat) (as : List Ask) (fn : List DefD) (w : World) : Prop := ∀ os : OsState, (HandSHeadRun.endF (HandSHeadRun.stepQ (HandSHeadRun.denQ HandSHeadRun.tabQ) r.prog w) M r.prog w os).map (fun s => obsWG n as fn (HandSHeadRun.getT s)) = some (valD fn)
theorem ob_app {r : PySem.W.OpenRow} {n M : Nat} {as1 as2 : List Ask} {fn1 fn2 : List DefD} {w : World} (h1 : ObEq r n M as1 fn1 w) (h2 : ObEq r n M as2 fn2 w) : ObEq r n M (as1 ++ as2) (fn1 ++ fn2) w := by
  intro os
  have e1 := h1 os
  have e2 := h2 os
  revert e1 e2
  generalize HandSHeadRun.endF _ _ _ _ _ = z
  intro e1 e2
  cases z with
  | none => cases e1
  | some s => exact congrArg some (obsW_app (Option.some.inj e1) (Option.some.inj e2))
theorem run_of3 {r : PySem.W.OpenRow} {q : Program} {n M : Nat} {as : List Ask} {fn : List DefD} {loose : List Str} {w : World} (a : LkEq r M w) (b : SnEq r q M loose w) (c : ObEq r n M as fn w) :
    HandSHeadRun.RunEq r q (hookW n as fn) (fun s => obsWG n as fn (HandSHeadRun.getT s)) M loose w := by
  intro os
  have e1 := a os
  have e2 := b os
  have e3 := c os
  revert e1 e2 e3
  generalize HandSHeadRun.endF _ _ _ _ _ = z
  intro e1 e2 e3
  cases z with
  | none => cases e1
  | some s => exact congrArg some (Prod.ext (Option.some.inj e1) (Prod.ext (Option.some.inj e2) (Option.some.inj e3)))
/-- a def without defaults -/
theorem fun_of {K : PySem.W.Frag} {x q : Str} {st : Stmt} {f : Addr} {fd : FuncData} (F : FunD K x q (defArgs st) (defBody st) (defScope st) [] [] f fd) : L2.Fun K x q st f fd := by
  obtain ⟨⟨oc, od, dV, kV, doc, pm, an, cdv, ct, osl, rfl, lk, hcd, hd, _⟩, kp⟩ := F
  rcases hd with ⟨_, rfl⟩ | ⟨e, _⟩
  · exact ⟨⟨oc, od, kV, doc, pm, an, cdv, ct, osl, rfl, lk, hcd⟩, kp⟩
  · exact absurd rfl e
/-- an own error with an __init__ of its own, over ValueError -/
def oexB (K : PySem.W.Frag) (C : Addr) : Bool := match K.lookup C with
  | some ⟨.type "type", _, .cls cd, sl⟩ => (match cd.mro, sl.toList with
    | .ref C' :: bm, [_, _, _, _, some (.builtin n), _] => C' == C && n == "ValueError.__new__" && !cd.hasDel && cd.hasDict && PySem.HandSPX.refsVE bm
    | _, _ => false)
  | _ => false
theorem oexB_ok {K : PySem.W.Frag} {C : Addr} (q : oexB K C = true) : ∃ nm q N bs bm sn sub ab col dd k0 k1 k2 k3 k5, K.lookup C = some (excClassObj nm q C N bs bm true sn sub ab col dd k0 k1 k2 k3 k5 "ValueError.__new__") ∧ PySem.HandSPX.refsVE bm = true := by
  unfold oexB at q
  split at q
  · rename_i dd cd sl ho
    split at q
    · rename_i C' bm k0 k1 k2 k3 n k5 hm hs
      simp only [Bool.and_eq_true, beq_iff_eq, Bool.not_eq_true'] at q
      obtain ⟨⟨⟨⟨rfl, rfl⟩, hdel⟩, hd⟩, hr⟩ := q
      obtain ⟨nm, bs, mro, N, qn, hasd, sn, sub, ab, col, hdl⟩ := cd
      simp only at hm hdel hd
      subst hm
      subst hdel
      subst hd
      have e : sl = #[k0, k1, k2, k3, some (.builtin "ValueError.__new__"), k5] := by
        have := congrArg List.toArray hs
        simpa using this
      subst e
      exact ⟨nm, qn, N, bs, bm, sn, sub, ab, col, dd, k0, k1, k2, k3, k5, ho, hr⟩
    · cases q
  · cases q
end Wd

set_option Elab.async false
set_option linter.all false
set_option maxRecDepth 100000
set_option maxHeartbeats 4000000
namespace Wd
open PySem PySem.Spec PyProof.Rows L2 He
/-- own classes, then the family's order tl -/
def refsB (tl : List Value) : List Value → Bool
  | .ref _ :: r => refsB tl r
  | l => l == tl
/-- an own error with an __init__ of its own, of any family -/
def oexTB (newId : String) (tl : List Value) (K : PySem.W.Frag) (C : Addr) : Bool := match K.lookup C with
  | some ⟨.type "type", _, .cls cd, sl⟩ => (match cd.mro, sl.toList with
    | .ref C' :: bm, [_, _, _, _, some (.builtin n), _] => C' == C && n == newId && !cd.hasDel && cd.hasDict && refsB tl bm
    | _, _ => false)
  | _ => false
section
variable {K : PySem.W.Frag} {x qual : Str} {params : Arguments} {body : List Stmt} {scope : Scope} {dvs : List V} {kws : List (Str × V)} {f : Addr} {fd : FuncData} {ps : List Str}
/-- a call with keywords, of a def with defaults -/
theorem kbn_of (F : FunD K x qual params body scope dvs kws f fd) (n : Nat) (ks : List Str) (g : List Value → List Value → List Value) (gV : List V → List V → List V) (hd : dvs ≠ [])
    (h : ∀ (T : Addr) (kV doc pm : Value) (an : Option Addr) (cdv ct : Value) (us its ws : List Value), us.length = n → its.length = dvs.length → ws.length = ks.length →
      ∃ k, bindArgs (PySem.W.fnOf x qual params body scope (.ref T) kV doc pm an cdv ct) ⟨us, ks.zip ws⟩ = seqItems? (.ref T) >>= k ∧ k (some its.toArray) = pure (ps.zip (g us ws)))
    (rel : ∀ {vs : List V} {us : List Value} {zs : List V} {ws : List Value}, Vals vs us → Vals zs ws → Vals (gV vs zs) (g us ws)) : KBn K fd ps n ks g gV := by
  obtain ⟨oc, od, dV, kV, doc, pm, an, cdv, ct, osl, rfl, lk, hcd, hD, hK⟩ := F.ex
  rcases hD with ⟨e, _⟩ | ⟨_, T, o, its, m, rfl, lT, oT, rT⟩
  · exact absurd e hd
  · refine ⟨fun s us ws X l1 l2 => ?_, rel⟩
    obtain ⟨k, e1, e2⟩ := h T kV doc pm an cdv ct us its ws l1 rT.length.symm l2
    refine BindsTo.of_looks fun M => ?_
    rw [e1]
    exact looks_items X lT oT (.of_pure e2)
theorem vals_rev {vs : List V} {us : List Value} (r : Vals vs us) : Vals vs.reverse us.reverse := by
  induction r with
  | nil => exact .nil
  | cons h _ ih =>
    rw [List.reverse_cons, List.reverse_cons]
    exact ih.append (.cons h .nil)
end
end Wd

set_option Elab.async false
set_option linter.all false
set_option maxRecDepth 100000
set_option maxHeartbeats 0
namespace WdQ
open PySem PySem.Spec PyProof.Rows L2 Wd
def topR (i : Nat) : Stmt := PySem.Challenge.pw_willdealt_k18_whole_takers_hang_together.main.body.getD i (.Pass ⟨0, 0, 0, 0⟩)
def loose0 : List Str := ["__name__", "WordError", "LostError", "NoName", "NoSum", "NoPeople", "NoGoods", "NoStory", "NoDay", "NoWhom", "NoPerson", "NoThing", "MOST_SUM", "is_whole", "is_sum", "common_measure", "LAST_DAY", "is_day", "LETTERS", "LONGEST", "WORDS", "is_word", "is_name", "MOST_PEOPLE", "MOST_GOODS", "is_person", "is_good", "check_people", "check_goods", "row_named"]
def loose1 : List Str := ["person_line", "House", "check_persons", "MOST_ALTERNATIVES", "MOST_PARTS", "PART_WORDS", "is_part", "is_alternative", "is_whom", "whom_names", "parted_equally", "stock_takers", "part_takers", "plus_share", "summed", "takers", "MOST_DEATHS", "is_death", "check_deaths", "story_text", "Story", "_law_pool", "_law_take", "_law_words", "_law_home", "_law_whom", "_law_deaths", "_law_dates", "_law_low", "_law_whole"]
def loose2 : List Str := ["_law_shares_right", "_law_nobody", "_law_put_in_right", "_law_parts_right", "_law_kin_right", "_law_right"]
def looseN : List Str := loose0 ++ loose1 ++ loose2
def asks0 : List Ask := [
  fun K => decide (PySem.W.nsIn K mainGlobals "is_name" = some (some (.ref (He.ga K "is_name")))),
  fun K => decide (PySem.W.nsIn K mainGlobals "is_word" = some (some (.ref (He.ga K "is_word")))),
  fun K => decide (PySem.W.nsIn K mainGlobals "is_whole" = some (some (.ref (He.ga K "is_whole")))),
  fun K => decide (PySem.W.nsIn K mainGlobals "is_sum" = some (some (.ref (He.ga K "is_sum")))),
  fun K => decide (PySem.W.nsIn K mainGlobals "is_day" = some (some (.ref (He.ga K "is_day")))),
  fun K => decide (PySem.W.nsIn K mainGlobals "is_person" = some (some (.ref (He.ga K "is_person")))),
  fun K => decide (PySem.W.nsIn K mainGlobals "check_people" = some (some (.ref (He.ga K "check_people")))),
  fun K => decide (PySem.W.nsIn K mainGlobals "is_good" = some (some (.ref (He.ga K "is_good")))),
  fun K => decide (PySem.W.nsIn K mainGlobals "check_goods" = some (some (.ref (He.ga K "check_goods")))),
  fun K => decide (PySem.W.nsIn K mainGlobals "is_death" = some (some (.ref (He.ga K "is_death")))),
  fun K => decide (PySem.W.nsIn K mainGlobals "check_deaths" = some (some (.ref (He.ga K "check_deaths")))),
  fun K => decide (PySem.W.nsIn K mainGlobals "row_named" = some (some (.ref (He.ga K "row_named")))),
  fun K => decide (PySem.W.nsIn K mainGlobals "check_persons" = some (some (.ref (He.ga K "check_persons")))),
  fun K => decide (PySem.W.nsIn K mainGlobals "is_part" = some (some (.ref (He.ga K "is_part")))),
  fun K => decide (PySem.W.nsIn K mainGlobals "is_alternative" = some (some (.ref (He.ga K "is_alternative")))),
  fun K => decide (PySem.W.nsIn K mainGlobals "is_whom" = some (some (.ref (He.ga K "is_whom")))),
  fun K => decide (PySem.W.nsIn K mainGlobals "whom_names" = some (some (.ref (He.ga K "whom_names")))),
  fun K => decide (PySem.W.nsIn K mainGlobals "parted_equally" = some (some (.ref (He.ga K "parted_equally")))),
  fun K => decide (PySem.W.nsIn K mainGlobals "stock_takers" = some (some (.ref (He.ga K "stock_takers")))),
  fun K => decide (PySem.W.nsIn K mainGlobals "part_takers" = some (some (.ref (He.ga K "part_takers")))),
  fun K => decide (PySem.W.nsIn K mainGlobals "common_measure" = some (some (.ref (He.ga K "common_measure")))),
  fun K => decide (PySem.W.nsIn K mainGlobals "plus_share" = some (some (.ref (He.ga K "plus_share")))),
  fun K => decide (PySem.W.nsIn K mainGlobals "summed" = some (some (.ref (He.ga K "summed"))))]
def asks1 : List Ask := [
  fun K => decide (PySem.W.nsIn K mainGlobals "_law_pool" = some (some (.ref (He.ga K "_law_pool")))),
  fun K => decide (PySem.W.nsIn K mainGlobals "_law_take" = some (some (.ref (He.ga K "_law_take")))),
  fun K => decide (PySem.W.nsIn K mainGlobals "_law_words" = some (some (.ref (He.ga K "_law_words")))),
  fun K => decide (PySem.W.nsIn K mainGlobals "_law_home" = some (some (.ref (He.ga K "_law_home")))),
  fun K => decide (PySem.W.nsIn K mainGlobals "_law_whom" = some (some (.ref (He.ga K "_law_whom")))),
  fun K => decide (PySem.W.nsIn K mainGlobals "_law_deaths" = some (some (.ref (He.ga K "_law_deaths")))),
  fun K => decide (PySem.W.nsIn K mainGlobals "_law_dates" = some (some (.ref (He.ga K "_law_dates")))),
  fun K => decide (PySem.W.nsIn K mainGlobals "_law_low" = some (some (.ref (He.ga K "_law_low")))),
  fun K => decide (PySem.W.nsIn K mainGlobals "_law_whole" = some (some (.ref (He.ga K "_law_whole")))),
  fun K => decide (PySem.W.nsIn K mainGlobals "_law_shares_right" = some (some (.ref (He.ga K "_law_shares_right")))),
  fun K => decide (PySem.W.nsIn K mainGlobals "_law_nobody" = some (some (.ref (He.ga K "_law_nobody")))),
  fun K => decide (PySem.W.nsIn K mainGlobals "_law_put_in_right" = some (some (.ref (He.ga K "_law_put_in_right")))),
  fun K => decide (PySem.W.nsIn K mainGlobals "_law_parts_right" = some (some (.ref (He.ga K "_law_parts_right")))),
  fun K => decide (PySem.W.nsIn K mainGlobals "_law_kin_right" = some (some (.ref (He.ga K "_law_kin_right")))),
  fun K => decide (PySem.W.nsIn K mainGlobals "_law_right" = some (some (.ref (He.ga K "_law_right")))),
  fun K => decide (PySem.W.nsIn K mainGlobals "law" = some (some (.ref (He.ga K "law")))),
  fun K => decide (PySem.W.nsIn K mainGlobals "isinstance" = some none),
  fun K => decide (PySem.W.nsIn K mainGlobals "int" = some none),
  fun K => decide (PySem.W.nsIn K mainGlobals "bool" = some none),
  fun K => decide (PySem.W.nsIn K mainGlobals "str" = some none),
  fun K => decide (PySem.W.nsIn K mainGlobals "tuple" = some none),
  fun K => decide (PySem.W.nsIn K mainGlobals "list" = some none),
  fun K => decide (PySem.W.nsIn K mainGlobals "len" = some none)]
def asks2 : List Ask := [
  fun K => decide (PySem.W.nsIn K mainGlobals "abs" = some none),
  fun K => decide (PySem.W.nsIn K mainGlobals "all" = some none),
  fun K => decide (PySem.W.nsIn K mainGlobals "any" = some none),
  fun K => decide (PySem.W.nsIn K mainGlobals "sum" = some none),
  fun K => decide (PySem.W.nsIn K mainGlobals "enumerate" = some none),
  fun K => decide (PySem.W.nsIn K mainGlobals "divmod" = some none),
  fun K => decide (PySem.W.nsIn K mainGlobals "range" = some none),
  fun K => decide (PySem.W.nsIn K mainGlobals "max" = some none),
  fun K => decide (PySem.W.nsIn K mainGlobals "min" = some none),
  fun K => decide (PySem.W.nsIn K mainGlobals "zip" = some none),
  fun K => decide (PySem.W.nsIn K mainGlobals "repr" = some none),
  fun K => decide (PySem.W.nsIn K mainGlobals "sorted" = some none),
  fun K => decide (PySem.W.nsIn K mainGlobals "dict" = some none),
  fun K => decide (PySem.W.nsIn K mainGlobals "set" = some none),
  fun K => decide (PySem.W.nsIn K mainGlobals "WORDS" = some (some (.ref (He.ga K "WORDS")))),
  fun K => (He.Fa.str "LETTERS" "abcdefghijklmnopqrstuvwxyz").ok K,
  fun K => (He.Fa.int "LONGEST" 8).ok K,
  fun K => He.tupB K "WORDS" [.str "all", .str "and", .str "children", .str "childless", .str "crown", .str "else", .str "if", .str "lives", .str "not", .str "of", .str "or", .str "stock", .str "to"],
  fun K => decide (PySem.W.nsIn K mainGlobals "PART_WORDS" = some (some (.ref (He.ga K "PART_WORDS")))),
  fun K => He.tupB K "PART_WORDS" [.str "one", .str "children", .str "stock"],
  fun K => (He.Fa.int "MOST_PARTS" 6).ok K,
  fun K => (He.Fa.int "MOST_ALTERNATIVES" 4).ok K,
  fun K => (He.Fa.int "LAST_DAY" 9999).ok K]
def asks3 : List Ask := [
  fun K => (He.Fa.int "MOST_SUM" 1000000000).ok K,
  fun K => (He.Fa.int "MOST_PEOPLE" 8).ok K,
  fun K => (He.Fa.int "MOST_GOODS" 8).ok K,
  fun K => (He.Fa.int "MOST_DEATHS" 8).ok K,
  fun K => decide (PySem.W.nsIn K mainGlobals "House" = some (some (.ref (He.ga K "House")))),
  fun K => (He.Fa.mkr "House").ok K,
  fun K => decide (PySem.W.nsIn K mainGlobals "Story" = some (some (.ref (He.ga K "Story")))),
  fun K => (He.Fa.mkr "Story").ok K,
  fun K => (He.Fa.cls "House").ok K,
  fun K => (He.Fa.noat "House" "folk").ok K,
  fun K => (He.Fa.noat "House" "things").ok K,
  fun K => (He.Fa.noat "House" "purse").ok K,
  fun K => (He.Fa.noat "House" "debts").ok K,
  fun K => (He.Fa.cls "Story").ok K,
  fun K => (He.Fa.noat "Story" "deaths").ok K,
  fun K => decide (PySem.W.nsIn K mainGlobals "takers" = some (some (.ref (He.ga K "takers")))),
  fun K => (He.Fa.meth "House" "people").ok K,
  fun K => (He.Fa.meth "House" "person").ok K,
  fun K => (He.Fa.meth "House" "children").ok K,
  fun K => (He.Fa.meth "Story" "died").ok K,
  fun K => (He.Fa.meth "Story" "lives").ok K]
def asksN : List Ask := asks0 ++ asks1 ++ asks2 ++ asks3
def defs0 : List He.DefD := [
  ⟨("is_name", none), "is_name", "is_name", defArgs (topR 25), defBody (topR 25), defScope (topR 25), [], []⟩,
  ⟨("is_word", none), "is_word", "is_word", defArgs (topR 24), defBody (topR 24), defScope (topR 24), [], []⟩,
  ⟨("is_whole", none), "is_whole", "is_whole", defArgs (topR 14), defBody (topR 14), defScope (topR 14), [], []⟩,
  ⟨("is_sum", none), "is_sum", "is_sum", defArgs (topR 15), defBody (topR 15), defScope (topR 15), [], []⟩,
  ⟨("is_day", none), "is_day", "is_day", defArgs (topR 19), defBody (topR 19), defScope (topR 19), [], []⟩,
  ⟨("is_person", none), "is_person", "is_person", defArgs (topR 29), defBody (topR 29), defScope (topR 29), [], []⟩,
  ⟨("check_people", none), "check_people", "check_people", defArgs (topR 31), defBody (topR 31), defScope (topR 31), [], []⟩,
  ⟨("is_good", none), "is_good", "is_good", defArgs (topR 30), defBody (topR 30), defScope (topR 30), [], []⟩,
  ⟨("check_goods", none), "check_goods", "check_goods", defArgs (topR 32), defBody (topR 32), defScope (topR 32), [], []⟩,
  ⟨("is_death", none), "is_death", "is_death", defArgs (topR 53), defBody (topR 53), defScope (topR 53), [], []⟩,
  ⟨("check_deaths", none), "check_deaths", "check_deaths", defArgs (topR 54), defBody (topR 54), defScope (topR 54), [], []⟩,
  ⟨("row_named", none), "row_named", "row_named", defArgs (topR 33), defBody (topR 33), defScope (topR 33), [], []⟩]
def defs1 : List He.DefD := [
  ⟨("check_persons", none), "check_persons", "check_persons", defArgs (topR 36), defBody (topR 36), defScope (topR 36), [], []⟩,
  ⟨("is_part", none), "is_part", "is_part", defArgs (topR 41), defBody (topR 41), defScope (topR 41), [], []⟩,
  ⟨("is_alternative", none), "is_alternative", "is_alternative", defArgs (topR 42), defBody (topR 42), defScope (topR 42), [], []⟩,
  ⟨("is_whom", none), "is_whom", "is_whom", defArgs (topR 43), defBody (topR 43), defScope (topR 43), [], []⟩,
  ⟨("whom_names", none), "whom_names", "whom_names", defArgs (topR 44), defBody (topR 44), defScope (topR 44), [], []⟩,
  ⟨("parted_equally", none), "parted_equally", "parted_equally", defArgs (topR 45), defBody (topR 45), defScope (topR 45), [], []⟩,
  ⟨("stock_takers", none), "stock_takers", "stock_takers", defArgs (topR 46), defBody (topR 46), defScope (topR 46), [], []⟩,
  ⟨("part_takers", none), "part_takers", "part_takers", defArgs (topR 47), defBody (topR 47), defScope (topR 47), [], []⟩,
  ⟨("common_measure", none), "common_measure", "common_measure", defArgs (topR 16), defBody (topR 16), defScope (topR 16), [], []⟩,
  ⟨("plus_share", none), "plus_share", "plus_share", defArgs (topR 48), defBody (topR 48), defScope (topR 48), [], []⟩,
  ⟨("summed", none), "summed", "summed", defArgs (topR 49), defBody (topR 49), defScope (topR 49), [], []⟩,
  ⟨("_law_pool", none), "_law_pool", "_law_pool", defArgs (topR 58), defBody (topR 58), defScope (topR 58), [], []⟩]
def defs2 : List He.DefD := [
  ⟨("_law_take", none), "_law_take", "_law_take", defArgs (topR 59), defBody (topR 59), defScope (topR 59), [], []⟩,
  ⟨("_law_words", none), "_law_words", "_law_words", defArgs (topR 60), defBody (topR 60), defScope (topR 60), [], []⟩,
  ⟨("_law_home", none), "_law_home", "_law_home", defArgs (topR 61), defBody (topR 61), defScope (topR 61), [], []⟩,
  ⟨("_law_whom", none), "_law_whom", "_law_whom", defArgs (topR 62), defBody (topR 62), defScope (topR 62), [], []⟩,
  ⟨("_law_deaths", none), "_law_deaths", "_law_deaths", defArgs (topR 63), defBody (topR 63), defScope (topR 63), [], []⟩,
  ⟨("_law_dates", none), "_law_dates", "_law_dates", defArgs (topR 64), defBody (topR 64), defScope (topR 64), [], []⟩,
  ⟨("_law_low", none), "_law_low", "_law_low", defArgs (topR 65), defBody (topR 65), defScope (topR 65), [], []⟩,
  ⟨("_law_whole", none), "_law_whole", "_law_whole", defArgs (topR 66), defBody (topR 66), defScope (topR 66), [], []⟩,
  ⟨("_law_shares_right", none), "_law_shares_right", "_law_shares_right", defArgs (topR 67), defBody (topR 67), defScope (topR 67), [], []⟩,
  ⟨("_law_nobody", none), "_law_nobody", "_law_nobody", defArgs (topR 68), defBody (topR 68), defScope (topR 68), [], []⟩,
  ⟨("_law_put_in_right", none), "_law_put_in_right", "_law_put_in_right", defArgs (topR 69), defBody (topR 69), defScope (topR 69), [], []⟩,
  ⟨("_law_parts_right", none), "_law_parts_right", "_law_parts_right", defArgs (topR 70), defBody (topR 70), defScope (topR 70), [], []⟩]
def defs3 : List He.DefD := [
  ⟨("_law_kin_right", none), "_law_kin_right", "_law_kin_right", defArgs (topR 71), defBody (topR 71), defScope (topR 71), [], []⟩,
  ⟨("_law_right", none), "_law_right", "_law_right", defArgs (topR 72), defBody (topR 72), defScope (topR 72), [], []⟩,
  ⟨("law", none), "law", "law", defArgs (topR 73), defBody (topR 73), defScope (topR 73), [], []⟩,
  ⟨("House", some "__init__"), "__init__", "House.__init__", defArgs (inClass (topR 35) 0), defBody (inClass (topR 35) 0), defScope (inClass (topR 35) 0), [.non, .int 0, .int 0], []⟩,
  ⟨("Story", some "__init__"), "__init__", "Story.__init__", defArgs (inClass (topR 56) 0), defBody (inClass (topR 56) 0), defScope (inClass (topR 56) 0), [.non], []⟩,
  ⟨("takers", none), "takers", "takers", defArgs (topR 50), defBody (topR 50), defScope (topR 50), [.int 0], []⟩,
  ⟨("House", some "people"), "people", "House.people", defArgs (inClass (topR 35) 1), defBody (inClass (topR 35) 1), defScope (inClass (topR 35) 1), [], []⟩,
  ⟨("House", some "person"), "person", "House.person", defArgs (inClass (topR 35) 7), defBody (inClass (topR 35) 7), defScope (inClass (topR 35) 7), [], []⟩,
  ⟨("House", some "children"), "children", "House.children", defArgs (inClass (topR 35) 2), defBody (inClass (topR 35) 2), defScope (inClass (topR 35) 2), [], []⟩,
  ⟨("Story", some "died"), "died", "Story.died", defArgs (inClass (topR 56) 1), defBody (inClass (topR 56) 1), defScope (inClass (topR 56) 1), [], []⟩,
  ⟨("Story", some "lives"), "lives", "Story.lives", defArgs (inClass (topR 56) 2), defBody (inClass (topR 56) 2), defScope (inClass (topR 56) 2), [.int 0], []⟩]
def defsN : List He.DefD := defs0 ++ defs1 ++ defs2 ++ defs3
abbrev hkN : PySem.W.Hook := hookW 4 asksN defsN
def obN (s : PySem.W.SharedT) : He.AlD := obsWG 4 asksN defsN (HandSHeadRun.getT s)
theorem obN_eq (s : PySem.W.SharedT) : obN s = hkN.obs s.abs := obsWG_eq (HandSHeadRun.getT_eq s)
theorem runA (w : World) : LkEq (PySem.W.OpenLaw.row PySem.Challenge.rw_willdealt_k18_whole_takers_hang_together) 12000 w := by
  intro os
  kernel_rfl
theorem runB (w : World) : SnEq (PySem.W.OpenLaw.row PySem.Challenge.rw_willdealt_k18_whole_takers_hang_together) (PySem.W.view (PySem.W.OpenLaw.row PySem.Challenge.rw_willdealt_k18_whole_takers_hang_together).prog [73]) 12000 looseN w := by
  intro os
  kernel_rfl
theorem runP0 (w : World) : ObEq (PySem.W.OpenLaw.row PySem.Challenge.rw_willdealt_k18_whole_takers_hang_together) 4 12000 asks0 defs0 w := by
  intro os
  kernel_rfl
theorem runP1 (w : World) : ObEq (PySem.W.OpenLaw.row PySem.Challenge.rw_willdealt_k18_whole_takers_hang_together) 4 12000 asks1 defs1 w := by
  intro os
  kernel_rfl
theorem runP2 (w : World) : ObEq (PySem.W.OpenLaw.row PySem.Challenge.rw_willdealt_k18_whole_takers_hang_together) 4 12000 asks2 defs2 w := by
  intro os
  kernel_rfl
theorem runP3 (w : World) : ObEq (PySem.W.OpenLaw.row PySem.Challenge.rw_willdealt_k18_whole_takers_hang_together) 4 12000 asks3 defs3 w := by
  intro os
  kernel_rfl
theorem runN (w : World) : HandSHeadRun.RunEq (PySem.W.OpenLaw.row PySem.Challenge.rw_willdealt_k18_whole_takers_hang_together) (PySem.W.view (PySem.W.OpenLaw.row PySem.Challenge.rw_willdealt_k18_whole_takers_hang_together).prog [73]) hkN obN 12000 looseN w := run_of3 (runA w) (runB w) (ob_app (ob_app (ob_app (runP0 w) (runP1 w)) (runP2 w)) (runP3 w))
end WdQ

set_option Elab.async false
set_option linter.all false
set_option maxRecDepth 100000
set_option maxHeartbeats 4000000
namespace Wd
open PySem PySem.Spec PyProof.Rows L2
/-! ### zip of a list or tuple with a list or tuple: one rule for the four mixes. A feed is what zip draws from. -/
inductive Feed where
  | li
  | tu
namespace Feed
def sq : Feed → PySem.W.Frag → Hp → Addr → List V → Prop
  | .li => SqL
  | .tu => SqT
def stands : Feed → Heap → Addr → Array Value → Prop
  | .li => Heap.IsList
  | .tu => Heap.IsTuple
def at_ : Feed → Heap → Addr → Addr → Nat → Prop
  | .li => Heap.IsListIter
  | .tu => Heap.IsTupleIter
def head : Feed → Addr → Obj
  | .li, a => { cls := .type "list_iterator", data := .fields #[.ref a, .int 0 0] }
  | .tu, a => { cls := .type "tuple_iterator", data := .fields #[.ref a, .int 0 0] }
variable (k : Feed)
theorem begins (a : Addr) (its : Array Value) : Begins (.ref a) (k.head a) fun h => k.stands h a its := by
  cases k
  · exact begins_list a its
  · exact begins_tuple a its
theorem draws {prog : Program} {w : World} {A : Around} (hA : A.handled = none) {it a : Addr} (ne : a ≠ it) (its : Array Value) : Draws prog w A it [it, a] its.size (fun i v => its[i]? = some v) (fun i h => k.at_ h it a i ∧ k.stands h a its) := by
  cases k
  · exact Draws.list hA it a ne its
  · exact Draws.tuple hA it a ne its
theorem first {h : Heap} {it a : Addr} (e : h.get? it = some (k.head a)) : k.at_ h it a 0 := by
  cases k <;> exact ⟨_, e, rfl, rfl⟩
theorem lives {h : Heap} {it a : Addr} {i : Nat} (e : k.at_ h it a i) : ∃ o, h.get? it = some o ∧ ∀ v, o.data ≠ .cell v := by
  cases k
  all_goals
    obtain ⟨o, e1, _, e2⟩ := e
    exact ⟨o, e1, fun v z => by rw [e2] at z; cases z⟩
theorem moved {h h' : Heap} {it a : Addr} {i : Nat} (e : k.at_ h it a i) (m : ∀ o, h.get? it = some o → h'.get? it = some o) : k.at_ h' it a i := by
  cases k
  · exact Heap.IsListIter.at e m
  · exact Heap.IsTupleIter.at e m
theorem known {X : Cx} {pins : List (Addr × Obj)} {σ : L2.St} {H : Hp} {s : Shared} {a : Addr} {xs : List V} (I : Inv X pins σ H s) (e : k.sq X.K H a xs) : ∃ its : List Value, Vals xs its ∧ k.stands s.heap a its.toArray ∧ a < s.heap.objs.size := by
  cases k
  · obtain ⟨its, v, p, _⟩ := I.list e
    exact ⟨its, v, p.isList, p.lt⟩
  · obtain ⟨its, v, p, _⟩ := I.tuple e
    obtain ⟨o, e1, _⟩ := id p
    exact ⟨its, v, p, Heap.lt_size e1⟩
theorem one {X : Cx} {pins : List (Addr × Obj)} {σ : L2.St} {H : Hp} {s : Shared} {a : Addr} {xs ys : List V} (I : Inv X pins σ H s) (e : k.sq X.K H a xs) (e' : k.sq X.K H a ys) : xs = ys := by
  cases k
  · exact I.list_inj e e'
  · exact I.tuple_inj e e'
end Feed
/-- the walk over zip of two feeds of one length -/
def ItZ (K : PySem.W.Frag) (k m : Feed) (a b : Addr) : It where
  go i H := ∃ xs ys x y, k.sq K H a xs ∧ m.sq K H b ys ∧ xs[i]? = some x ∧ ys[i]? = some y
  yld i H v H' := ∃ T x y, v = .ref T ∧ H T = none ∧ H' = upd H T (.tup [x, y]) ∧ (∀ xs, k.sq K H a xs → xs[i]? = some x) ∧ ∀ ys, m.sq K H b ys → ys[i]? = some y
  stop i H := ∃ xs ys, k.sq K H a xs ∧ m.sq K H b ys ∧ xs.length = i ∧ ys.length = i
theorem walkZ {K : PySem.W.Frag} {k m : Feed} {a b : Addr} {xs ys : List V} (hl : xs.length = ys.length) : Walk (ItZ K k m a b) xs.length (fun H => k.sq K H a xs ∧ m.sq K H b ys) (YPair (fun i => xs[i]?) fun i => ys[i]?) where
  goes := fun i H hi g => ⟨xs, ys, xs[i], ys[i]'(hl ▸ hi), g.1, g.2, List.getElem?_eq_getElem hi, List.getElem?_eq_getElem (hl ▸ hi)⟩
  stops := fun H g => ⟨xs, ys, g.1, g.2, rfl, hl.symm⟩
  yields := fun i H v H' _ g ⟨T, x, y, e1, e2, e3, e4, e5⟩ => ⟨T, x, y, e1, e2, e3, e4 xs g.1, e5 ys g.2⟩
/-- what holds of each of five cells holds of any of them -/
theorem of_five {z p q i j c : Addr} {R : Addr → Prop} (hc : c ∈ [z, p, q, i, j]) (hz : R z) (hp : R p) (hq : R q) (hi : R i) (hj : R j) : R c := by
  simp only [List.mem_cons, List.not_mem_nil, or_false] at hc
  rcases hc with e | e | e | e | e <;> (rw [e]; assumption)
theorem turnZ {P : Program} {w : World} {K : PySem.W.Frag} {elts : List Expr} {kk : Nat} {tpos : Pos} {k m : Feed} {a b z p q i1 i2 : Addr} (S : ZipSep2 z p q i1 i2 [i1, a] [i2, b]) (na : a ≠ i1) (nb : b ≠ i2) :
    Turn P w K (.Tuple elts kk tpos) (ItZ K k m a b) [z, p, q, i1, i2] z fun i h => IsZip h z p q .none ∧ IsTupOf2 h p (.ref i1) (.ref i2) ∧ (∃ x y, IsTupOf2 h q x y) ∧ k.at_ h i1 a i ∧ m.at_ h i2 b i where
  mem := List.mem_cons_self
  obj := by
    rintro i h ⟨gz, gp, ⟨x, y, gq⟩, g1, g2⟩ c hc
    exact of_five (R := fun c => ∃ o, h.get? c = some o ∧ ∀ v, o.data ≠ .cell v) hc ⟨_, gz, fun _ e => nomatch e⟩ ⟨_, gp, fun _ e => nomatch e⟩ ⟨_, gq, fun _ e => nomatch e⟩ (k.lives g1) (m.lives g2)
  keep := by
    rintro i h h' ⟨gz, gp, ⟨x, y, gq⟩, g1, g2⟩ same
    exact ⟨same _ (by simp) _ gz, same _ (by simp) _ gp, ⟨x, y, same _ (by simp) _ gq⟩, k.moved g1 (same _ (by simp)), m.moved g2 (same _ (by simp))⟩
  item := by
    rintro X rfl rfl rfl calm i pins s σ H E I free ⟨gz, gp, ⟨x0, y0, gq⟩, g1, g2⟩ ⟨xs, ys, x, y, hxs, hys, hx, hy⟩
    obtain ⟨us, rel1, st1, _⟩ := k.known I hxs
    obtain ⟨vs, rel2, st2, _⟩ := m.known I hys
    obtain ⟨u, hu, ru⟩ := rel1.get hx
    obtain ⟨v, hv, rv⟩ := rel2.get hy
    have hA : X.A.in1.handled = none := I.ok.hd calm
    have zlt := Heap.lt_size gz
    have n1 : i < us.toArray.size := by
      rw [List.size_toArray]
      exact (List.getElem?_eq_some_iff.mp hu).1
    have n2 : i < vs.toArray.size := by
      rw [List.size_toArray]
      exact (List.getElem?_eq_some_iff.mp hv).1
    refine wpAny_pyNext_zipD2_item S (k.draws hA na _) (m.draws hA nb _) gz gp gq ⟨g1, st1⟩ ⟨g2, st2⟩ n1 n2 ?_
    rintro u' v' h1 t1 eu ev gz1 gq1 ⟨d1, _⟩ ⟨d2, _⟩ gT _ same
    obtain rfl : u = u' := Option.some.inj (hu.symm.trans (by simpa using eu))
    obtain rfl : v = v' := Option.some.inj (hv.symm.trans (by simpa using ev))
    refine ⟨_, rfl, wpAny_letOwnedTupleGo_zip (s := { s with heap := h1, toks := t1 }) gz1 fun h2 gz2 sb => ?_⟩
    have all : ∀ c o, c ∉ [z, p, q, i1, i2] → s.heap.get? c = some o → h2.get? c = some o := fun c o hc e => by
      simp only [List.mem_cons, List.not_mem_nil, or_false, not_or] at hc
      rw [sb.2 c hc.1]
      exact same c o hc.1 hc.2.2.1 hc.2.2.2.1 hc.2.2.2.2 e
    have pair : h2.get? s.heap.objs.size = some { cls := .type "tuple", data := .seq #[u, v] } := (sb.2 _ (Nat.ne_of_gt zlt)).trans gT
    have made : ObjOk X.prog X.w (upd H s.heap.objs.size (.tup [x, y])) h2 s.heap.objs.size (.tup [x, y]) := ⟨by show 2 ≤ sizeLine; decide, [u, v], .cons ru (.cons rv .nil), _, pair, rfl, _, rfl⟩
    refine ⟨.ref s.heap.objs.size, _, I.turnedNew (t' := t1) all free (Nat.le_refl _) made, rfl, ?_, ?_, ?_⟩
    · exact ⟨_, x, y, rfl, I.hok.fresh (Nat.le_refl _), rfl, fun l e => k.one I e hxs ▸ hx, fun l e => m.one I e hys ▸ hy⟩
    · exact ⟨gz2, (sb.2 _ S.TIz).trans (same _ _ S.TIz S.TITO S.TIi1 S.TIi2 gp), ⟨u, v, (sb.2 _ S.TOz).trans gq1⟩, k.moved d1 fun o e => (sb.2 _ S.zi1.symm).trans e, m.moved d2 fun o e => (sb.2 _ S.zi2.symm).trans e⟩
    · intro c hc
      have old : c < s.heap.objs.size := by
        obtain ⟨o1, e1, _⟩ := k.lives g1
        obtain ⟨o2, e2, _⟩ := m.lives g2
        exact of_five (R := fun c => c < s.heap.objs.size) hc zlt (Heap.lt_size gp) (Heap.lt_size gq) (Heap.lt_size e1) (Heap.lt_size e2)
      rw [upd_ne (Nat.ne_of_lt old)]
      exact (free c hc).1
  done := by
    rintro X rfl rfl rfl calm i pins s σ H E I free ⟨gz, gp, ⟨x0, y0, gq⟩, g1, g2⟩ ⟨xs, ys, hxs, hys, n1, n2⟩
    obtain ⟨us, rel1, st1, _⟩ := k.known I hxs
    obtain ⟨vs, rel2, st2, _⟩ := m.known I hys
    have hA : X.A.in1.handled = none := I.ok.hd calm
    have z1 : us.toArray.size = i := by rw [List.size_toArray, ← rel1.length, n1]
    have z2 : vs.toArray.size = i := by rw [List.size_toArray, ← rel2.length, n2]
    refine wpAny_pyNext_zipD2_end S (k.draws hA na _) (m.draws hA nb _) gz gp gq ⟨g1, st1⟩ ⟨g2, st2⟩ (by omega) (by omega) (by omega) fun h1 t1 same => ⟨rfl, I.turnedL (t' := t1) (fun c o hc e => ?_) free⟩
    simp only [List.mem_cons, List.not_mem_nil, or_false, not_or] at hc
    exact same c o hc.1 hc.2.2.1 hc.2.2.2.1 hc.2.2.2.2 e
  self := fun _ _ _ _ _ g e => wpAny_pyIter_zip g.1 e
def iZ (K : PySem.W.Frag) (k m : Feed) (ta : TA) : TI := fun σ H R => ta σ H fun vs H1 => ∃ a b xs ys, vs = [.ref a, .ref b] ∧ k.sq K H1 a xs ∧ m.sq K H1 b ys ∧ R (ItZ K k m a b) H1
theorem pi_Z {X : Cx} {e e2 : Expr} {ta : TA} {pz pos tpos : Pos} {elts : List Expr} {kk : Nat} (k m : Feed) (hg : Gl X "zip") (hm : X.mg "zip" = none) (ha : PA X [e, e2] ta)
    (star : starEach [e, e2] X.env = (false, eval e X.env) :: starEach [e2] X.env := by rfl) (plain : (backTo pos (starEach [e2] X.env)).any (·.1) = false := by rfl) :
    PI X (.Tuple elts kk tpos) (.Call (.Name "zip" pz) [e, e2] [] pos) (iZ X.K k m ta) where
  run := by
    intro pins s σ H R I h
    refine Call_ (ld_blt I hg hm PyProof.Rows.boot_zip (PyProof.Rows.callWith_type1 (thn (ha.run pos pins s σ H _ I h) ?_) star plain))
    rintro us s1 ⟨vs, H1, I1, rel, a, b, xs, ys, rfl, hxs, hys, r⟩
    obtain ⟨ua, ub, rfl, ra, rb⟩ := vals2 rel
    cases ra
    cases rb
    obtain ⟨its1, _, st1, la⟩ := k.known I1 hxs
    obtain ⟨its2, _, st2, lb⟩ := m.known I1 hys
    have S : ZipSep2 (s1.heap.objs.size + 4) (s1.heap.objs.size + 2) (s1.heap.objs.size + 3) s1.heap.objs.size (s1.heap.objs.size + 1) [s1.heap.objs.size, a] [s1.heap.objs.size + 1, b] :=
      zip_sep2 (fun c hc => by rw [List.mem_singleton.mp hc]; exact la) (fun c hc => by rw [List.mem_singleton.mp hc]; exact lb)
    have far : ∀ c, s1.heap.objs.size ≤ c → FpOk X pins H1 c := fun c hc => I1.fpOk hc (I1.hok.fresh hc)
    refine zip_begins2 (k.begins a _) (m.begins b _) st1 st2 fun h1 gz gp gq f1 f2 _ same => wpAny_pyIter_zip gz ?_
    refine ⟨_, _, _, _, H1, rfl, I1.kept (t' := s1.toks) same, turnZ S (Nat.ne_of_lt la) (Nat.ne_of_lt (Nat.lt_succ_of_lt lb)), ⟨gz, gp, ⟨_, _, gq⟩, k.first f1, m.first f2⟩, fun c hc => ?_, r⟩
    exact of_five hc (far _ (Nat.le_add_right _ _)) (far _ (Nat.le_add_right _ _)) (far _ (Nat.le_add_right _ _)) (far _ (Nat.le_refl _)) (far _ (Nat.le_add_right _ _))
/-! ### sum of a tuple of ints -/
def rSumT (K : PySem.W.Frag) : List V → Hp → VK → Prop := fun vs H Q => ∃ (t : Addr) (ns : List Int), vs = [V.ref t] ∧ SqT K H t (ns.map V.int) ∧ Q (.int ns.sum) H
theorem cr_sumT {X : Cx} (calm : X.calm = true) : CallR X (.builtin "sum") (rSumT X.K) := by
  rintro pins s σ H vs us Q I rel ⟨t, ns, rfl, hs, want⟩
  obtain ⟨its, vals, tup, _⟩ := I.tuple hs
  rw [Vals.ref1 rel]
  have aI : IntsAre its ns := vals.ints
  obtain ⟨zs, ez⟩ := aI.allInts.items
  have sum_is : preSum (numAt zs) zs.size = ns.sum := by
    rw [preSum_eq, List.take_of_length_le (by simp), ← nums_intItems, ← ez]
    exact congrArg List.sum aI.numsOf
  have tup2 : s.heap.IsTuple t (intItems zs) := ez ▸ tup
  refine PySem.W.ktm_sumG (I.ok.hd calm) tup2 fun h1 k1 t1 same => ?_
  rw [sum_is]
  exact ⟨.int _, H, I.kept same, ⟨_, rfl⟩, want⟩
/-! ### xs[i] read by values, for xs[i] += e -/
def rGetL (K : PySem.W.Frag) : V → V → Hp → VK → Prop := fun x y H Q => ∃ p xs i v, x = .ref p ∧ y = .int i ∧ 0 ≤ i ∧ SqL K H p xs ∧ atI xs i = some v ∧ Q v H
theorem get_list {X : Cx} : PGet X (rGetL X.K) := by
  rintro pins s σ H _ _ ov iv Q I ro ri ⟨p, xs, i, v, rfl, rfl, i0, hxs, hat, want⟩
  cases ro
  obtain ⟨t, rfl⟩ := ri
  obtain ⟨its, vals, plain, small⟩ := I.list hxs
  obtain ⟨j, sj, gj, _, _, hi⟩ := atI_get hat
  obtain ⟨u, gu, ru⟩ := vals.get gj
  have ej : i.toNat = j := Option.some.inj ((seqIndex_of i0 hi).symm.trans sj)
  have line := line63
  exact wpAny_getItem_list plain.isList i0 (by omega) (by rw [ej]; simpa using gu) ⟨v, H, I, ru, want⟩
/-! ### f(k = v, ..), keywords alone -/
def tCallN0 (m : Nat) (sp : Sp) (gV : List V → List V → List V) (E : XK) (tk : TA) : TE := fun σ H Q => tk σ H fun zs H2 => zs.length = m ∧ sp (gV [] zs) H2 Q E
theorem pe_callN0 {X : Cx} {CX : CXT} {k : Nat} {f : Addr} {fd : FuncData} {ps ks : List Str} {sp : Sp} {E : XK} {x : Str} {p pos : Pos} {kws : List Keyword} {tk : TA} {g : List Value → List Value → List Value} {gV : List V → List V → List V}
    (F : FnOk X.prog X.w X.K X.mg X.base CX k f fd ps sp) (room : Room k X.A) (glob : Gl X x) (is : X.mg x = some (.ref f)) (kp : PySem.W.keepIn X.K (.ref f) = true) (bind : KBn X.K fd ps 0 ks g gV) (pass : Passes CX X E) (args : PK X kws tk)
    (named : (backToKw pos (keywordEach kws X.env)).all (·.1.isSome) = true := by rfl) (names : (backToKw pos (keywordEach kws X.env)).filterMap (·.1) = ks := by rfl)
    (nodebug : (x == ("__debug__" : Str)) = false := by decide) (plain : ((backTo pos (starEach [] X.env)).any (·.1) || (backToKw pos (keywordEach kws X.env)).any (·.1.isNone)) = false := by rfl) :
    PE X (.Call (.Name x p) [] kws pos) (tCallN0 ks.length sp gV E tk) where
  run := by
    intro pins s σ H Q I h
    refine wpAny_Call_Name_kw (ld_glob I glob is (PySem.W.callWith_KW0 (h₀ := X.base) I.ok.mod.kin kp named (thn (args.run pos pins s σ H _ I h) ?_) plain) nodebug)
    rintro ws s2 ⟨zs, H2, I2, rel, len, want⟩
    rw [names]
    exact ⟨I2.kIn, run_fnN F room bind pass I2 .nil rel rfl len want⟩
/-! ### t[::-1] of a tuple -/
section
variable {prog : Program} {w : World} {A : Around} {E : Value → Shared → Prop} {s : Shared}
theorem back_parts {sl : Addr} {v0 v1 v2 : Value} {n : Nat} {R : Int × Int × Nat → Shared → Prop} (cut : s.heap.IsSliceOf sl v0 v1 v2) (p0 : IsPart v0 none) (p1 : IsPart v1 none) (p2 : IsPart v2 (some (-1))) (want : R ((n : Int) - 1, -1, n) s) :
    wpAny (model prog w) A (Builtin.Slice.sliceApplied (.ref sl) (pure (n : Int))) R E s := by
  obtain ⟨o, eo, _, eds⟩ := cut
  have num : Builtin.Slice.slicePlaces ((n : Int) - 1) (-1) (-1) = n := by
    show (if (-1 : Int) > 0 then _ else if (n : Int) - 1 > -1 then ((n : Int) - 1 - -1 - 1) / (- -1) + 1 else 0).toNat = n
    rw [if_neg (by decide)]
    by_cases some : (n : Int) - 1 > -1
    · rw [if_pos some, show (- -1 : Int) = 1 by decide, Int.ediv_one]
      omega
    · rw [if_neg some]
      omega
  show wpAny _ _ (Builtin.Slice.sliceFields (.ref sl) >>= _) _ _ _
  refine wpAny_bind (wpAny_bind (wpAny_field eo eds (x := v0) rfl (wpAny_bind (wpAny_field eo eds (x := v1) rfl (wpAny_bind (wpAny_field eo eds (x := v2) rfl (wpAny_pure (wpAny_bind (HT.slicePart_ p2 ?_)))))))))
  show wpAny _ _ (if ((-1 : Int) == 0) = true then _ else _) _ _ _
  rw [if_neg (by decide)]
  refine wpAny_bind (HT.slicePart_ p0 (wpAny_bind (HT.slicePart_ p1 (wpAny_bind (wpAny_pure (wpAny_pure ?_))))))
  show R ((n : Int) - 1, -1, Builtin.Slice.slicePlaces ((n : Int) - 1) (-1) (-1)) s
  rw [num]
  exact want
theorem back_items (xs : Array Value) : ((List.range xs.size).filterMap fun (m : Nat) => xs[(((xs.size : Nat) : Int) - 1 + (m : Int) * (-1)).toNat]?).toArray = xs.toList.reverse.toArray := by
  have e : (fun (m : Nat) => xs[(((xs.size : Nat) : Int) - 1 + (m : Int) * (-1)).toNat]?) = (xs[·]?) ∘ fun m => xs.size - 1 - m := funext fun m => by
    show xs[(((xs.size : Nat) : Int) - 1 + (m : Int) * (-1)).toNat]? = xs[xs.size - 1 - m]?
    congr 1
    omega
  rw [e, ← List.filterMap_map, PySem.W.krv_range, List.filterMap_reverse, PySem.W.krv_all xs]
theorem tuple_back {t sl : Addr} {its : Array Value} {v0 v1 v2 : Value} {R : Value → Shared → Prop} (tup : IsTup s.heap t its) (cut : s.heap.IsSliceOf sl v0 v1 v2) (p0 : IsPart v0 none) (p1 : IsPart v1 none) (p2 : IsPart v2 (some (-1))) (small : its.size ≤ sizeLine)
    (want : R (.ref s.heap.objs.size) { s with heap := s.heap.push { cls := .type "tuple", data := .seq its.toList.reverse.toArray } }) : wpAny (model prog w) A (getItem (.ref t) (.ref sl)) R E s := by
  obtain ⟨o, eo, ecs, _⟩ := id cut
  have isSl : s.TypeIs (.ref sl) "slice" := ⟨o, eo, ecs⟩
  have fits : sizeOk (.seq its.toList.reverse.toArray) := by
    show its.toList.reverse.toArray.size ≤ sizeLine
    simpa using small
  unfold getItem
  (try with_reducible refine wpAny_holding ?_); (first | refine wpAny_bind (wpAny_pure ?_) | skip)
  refine wpAny_bind (wpAny_sequenceKey tup.typeIs (by decide) (wpAny_bind (wpAny_callSpecial?_slot (name := Str.ofString "__getitem__") tup.typeIs PyProof.Rows.slot_tuple_getitem (wpAny_call_entry PyProof.Rows.slot_tuple_getitem tup.typeIs entry_tuple_getitem ?_ (args_tuple_getitem _ _)))))
  refine wpAny_bind (m := Builtin.Tuple.tupleItemsOf (.ref t)) (tupleItemsOf_ tup (wpAny_bind (wpAny_typeOf isSl ?_)))
  rw [if_pos (by decide)]
  refine wpAny_bind (back_parts cut p0 p1 p2 ?_)
  show wpAny _ _ (if ((((its.size : Int) - 1) == 0 && (-1 : Int) == 1 && its.size == its.size) = true) then _ else _) _ _ _
  rw [if_neg (by simp), back_items]
  first
    | exact wpAny_bind (m := Builtin.Tuple.tupleExact _) (wpAny_newObj_type (wpAny_pure ⟨_, rfl, wpAny_pure want⟩) fits)
    | exact wpAny_bind (m := Builtin.Tuple.tupleExact _) (wpAny_newObj_type (wpAny_bind (wpAny_pure (wpAny_pure ⟨_, rfl, wpAny_pure want⟩))) fits)
end
def tRevT (K : PySem.W.Frag) (te : TE) : TE := fun σ H Q => te σ H fun x H1 => ∃ t xs, x = .ref t ∧ SqT K H1 t xs ∧ ∀ p, H1 p = none → Q (.ref p) (upd H1 p (.tup xs.reverse))
theorem pe_revT {X : Cx} {e : Expr} {te : TE} {k : Nat} {q1 q2 q3 pos : Pos} (he : PE X e te) : PE X (.Subscript e (.Slice none none (some (.UnaryOp .USub (.Constant (.int 1) k q1) q2)) q3) pos) (tRevT X.K te) where
  run := by
    intro pins s σ H Q I h
    have minus : PO X (some (.UnaryOp .USub (.Constant (.int 1) k q1) q2)) (tPart (tUn (rU fun i => .int (-i)) (tC (.int 1)))) := po_some (pe_un un_neg pe_int)
    refine Subscript_ (thn (he.run pins s σ H _ I h) ?_)
    rintro _ s1 ⟨_, H1, I1, rel, t, xs, rfl, hxs, want⟩
    cases rel
    refine wpAny_Slice (thn (po_none.run pins s1 σ H1 (fun o G => o = none ∧ G = H1) I1 ⟨rfl, rfl⟩) ?_)
    rintro v0 s2 ⟨_, _, I2, p0, rfl, rfl⟩
    refine thn (po_none.run pins s2 σ _ (fun o G => o = none ∧ G = _) I2 ⟨rfl, rfl⟩) ?_
    rintro v1 s3 ⟨_, _, I3, p1, rfl, rfl⟩
    refine thn (minus.run pins s3 σ _ (fun o G => o = some (-1) ∧ G = _) I3 ⟨1, rfl, -1, rfl, rfl, rfl⟩) ?_
    rintro v2 s4 ⟨_, _, I4, p2, rfl, rfl⟩
    have I5 := I4.kept (h' := s4.heap.push { cls := .type "slice", data := .fields #[v0, v1, v2] }) (t' := s4.toks) fun c o g => Heap.get?_push_of_some _ g
    obtain ⟨its, vals, tup, small⟩ := I5.tuple hxs
    refine tail_any (ops := [.ref t, .ref s4.heap.objs.size]) tup.typeIs PyProof.Rows.slot_tuple_getitem.lookup (tuple_back tup (Heap.IsSliceOf.new _ v0 v1 v2) p0 p1 p2 (by rw [List.size_toArray, ← vals.length]; exact small) ?_) (by with_unfolding_all rfl)
    exact ⟨.ref _, _, I5.laid (t' := s4.toks) (o := .tup xs.reverse) (fun c o g => Heap.get?_push_of_some _ g) (Nat.le_refl _) ⟨by rw [List.length_reverse]; exact small, _, vals.reverse, IsTup.new _ _⟩, rfl, want _ (I5.hok.fresh (Nat.le_refl _))⟩
end Wd

set_option linter.all false
namespace WdM
/-! ### pennies by weights -/
def deal (a T : Int) : Int → List Int → List Int
  | _, [] => []
  | k, w :: ws => if 0 < k ∧ a * w % T ≠ 0 then (a * w / T + 1) :: deal a T (k - 1) ws else a * w / T :: deal a T k ws
def bases (a T : Int) (ws : List Int) : List Int := ws.map fun w => a * w / T
def cnt (a T : Int) : List Int → Int
  | [] => 0
  | w :: ws => (if a * w % T ≠ 0 then 1 else 0) + cnt a T ws
def dealt (a : Int) (ws : List Int) : List Int := deal a ws.sum (a - (bases a ws.sum ws).sum) ws

theorem deal_len (a T : Int) : ∀ (k : Int) (ws : List Int), (deal a T k ws).length = ws.length
  | _, [] => rfl
  | k, w :: ws => by
    unfold deal
    split
    · rw [List.length_cons, deal_len a T (k - 1) ws, List.length_cons]
    · rw [List.length_cons, deal_len a T k ws, List.length_cons]
theorem dealt_len (a : Int) (ws : List Int) : (dealt a ws).length = ws.length := deal_len _ _ _ _
theorem cnt_cons (a T w : Int) (ws : List Int) : cnt a T (w :: ws) = (if a * w % T ≠ 0 then 1 else 0) + cnt a T ws := rfl
theorem cnt_nonneg (a T : Int) : ∀ ws, 0 ≤ cnt a T ws
  | [] => Int.le_refl 0
  | w :: ws => by
    have := cnt_nonneg a T ws
    unfold cnt
    split <;> omega
theorem deal_sum (a T : Int) : ∀ (k : Int) (ws : List Int), 0 ≤ k → (deal a T k ws).sum = (bases a T ws).sum + min k (cnt a T ws)
  | k, [], hk => by
    show (0 : Int) = 0 + min k 0
    omega
  | k, w :: ws, hk => by
    have hb : (bases a T (w :: ws)).sum = a * w / T + (bases a T ws).sum := by unfold bases; rw [List.map_cons, List.sum_cons]
    have hc := cnt_nonneg a T ws
    unfold deal
    split
    · rename_i h
      have ih := deal_sum a T (k - 1) ws (by omega)
      rw [List.sum_cons, ih, hb]
      rw [cnt_cons, if_pos h.2]
      generalize a * w / T = q
      omega
    · rename_i h
      have ih := deal_sum a T k ws hk
      rw [List.sum_cons, ih, hb]
      rw [cnt_cons]
      generalize a * w / T = q
      by_cases hz : a * w % T ≠ 0
      · have : ¬ 0 < k := fun z => h ⟨z, hz⟩
        rw [if_pos hz]
        omega
      · rw [if_neg hz]
        omega
def rems (a T : Int) (ws : List Int) : List Int := ws.map fun w => a * w % T
theorem bases_rems (a T : Int) : ∀ ws : List Int, T * (bases a T ws).sum + (rems a T ws).sum = a * ws.sum
  | [] => by
    show T * 0 + 0 = a * 0
    simp
  | w :: ws => by
    have ih := bases_rems a T ws
    have e : T * (a * w / T) + a * w % T = a * w := Int.mul_ediv_add_emod (a * w) T
    unfold bases rems at *
    rw [List.map_cons, List.map_cons, List.sum_cons, List.sum_cons, List.sum_cons, Int.mul_add, Int.mul_add]
    omega
theorem rems_bound (a T : Int) (hT : 0 < T) : ∀ ws : List Int, 0 ≤ (rems a T ws).sum ∧ (rems a T ws).sum ≤ (T - 1) * cnt a T ws
  | [] => by
    constructor
    · exact Int.le_refl 0
    · show (0 : Int) ≤ (T - 1) * 0
      simp
  | w :: ws => by
    have ih := rems_bound a T hT ws
    have h0 := Int.emod_nonneg (a * w) (show T ≠ 0 by omega)
    have h1 := Int.emod_lt_of_pos (a * w) hT
    unfold rems at *
    rw [List.map_cons, List.sum_cons]
    rw [cnt_cons]
    generalize hr : a * w % T = r at *
    by_cases hz : r ≠ 0
    · rw [if_pos hz, Int.mul_add, Int.mul_one]
      omega
    · rw [if_neg hz]
      have : r = 0 := by omega
      subst this
      rw [Int.zero_add, Int.zero_add]
      omega
theorem lack_bounds (a : Int) (ws : List Int) (hT : 0 < ws.sum) : 0 ≤ a - (bases a ws.sum ws).sum ∧ a - (bases a ws.sum ws).sum ≤ cnt a ws.sum ws := by
  have h1 := bases_rems a ws.sum ws
  have ⟨h2, h3⟩ := rems_bound a ws.sum hT ws
  have hc := cnt_nonneg a ws.sum ws
  generalize ws.sum = T at *
  generalize (bases a T ws).sum = B at *
  generalize (rems a T ws).sum = R at *
  generalize cnt a T ws = c at *
  have e : T * (a - B) = R := by
    rw [Int.mul_sub]
    have : a * T = T * a := Int.mul_comm _ _
    omega
  constructor
  · rcases Int.lt_or_le (a - B) 0 with h | h
    · have : T * (a - B) < 0 := Int.mul_neg_of_pos_of_neg hT h
      omega
    · exact h
  · rcases Int.lt_or_le c (a - B) with h | h
    · have h4 : T * (c + 1) ≤ T * (a - B) := Int.mul_le_mul_of_nonneg_left (by omega) (by omega)
      have h5 : (T - 1) * c = T * c - c := by rw [Int.sub_mul, Int.one_mul]
      rw [Int.mul_add, Int.mul_one] at h4
      omega
    · exact h
theorem dealt_sum (a : Int) (ws : List Int) (hT : 0 < ws.sum) : (dealt a ws).sum = a := by
  have ⟨h1, h2⟩ := lack_bounds a ws hT
  unfold dealt
  rw [deal_sum _ _ _ _ h1]
  omega
/-- each is its exact part, rounded down or up -/
theorem deal_get (a T : Int) : ∀ (k : Int) (ws : List Int) (i : Nat) (v : Int), (deal a T k ws)[i]? = some v → ∃ w, ws[i]? = some w ∧ (v = a * w / T ∨ v = a * w / T + 1)
  | _, [], i, v, h => by unfold deal at h; simp at h
  | k, w :: ws, i, v, h => by
    unfold deal at h
    split at h
    · cases i with
      | zero => exact ⟨w, rfl, .inr (by simpa using h.symm)⟩
      | succ i => exact deal_get a T _ ws i v (by simpa using h)
    · cases i with
      | zero => exact ⟨w, rfl, .inl (by simpa using h.symm)⟩
      | succ i => exact deal_get a T _ ws i v (by simpa using h)
/-! ### the same by other numbers of the same shares -/
theorem sum_scale (p : Int) : ∀ ws : List Int, (ws.map (p * ·)).sum = p * ws.sum
  | [] => by simp
  | w :: ws => by rw [List.map_cons, List.sum_cons, List.sum_cons, sum_scale p ws, Int.mul_add]
theorem part_scale {a T w p : Int} (hp : 0 < p) : a * (p * w) / (p * T) = a * w / T := by
  rw [show a * (p * w) = p * (a * w) by rw [← Int.mul_assoc, Int.mul_comm a p, Int.mul_assoc]]
  exact Int.mul_ediv_mul_of_pos _ _ hp
theorem rem_scale {a T w p : Int} (hp : 0 < p) : (a * (p * w) % (p * T) ≠ 0) ↔ (a * w % T ≠ 0) := by
  rw [show a * (p * w) = p * (a * w) by rw [← Int.mul_assoc, Int.mul_comm a p, Int.mul_assoc], Int.mul_emod_mul_of_pos _ _ hp]
  constructor
  · intro h z
    exact h (by rw [z, Int.mul_zero])
  · intro h z
    rcases Int.mul_eq_zero.mp z with q | q
    · omega
    · exact h q
theorem deal_scale {a T p : Int} (hp : 0 < p) : ∀ (k : Int) (ws : List Int), deal a (p * T) k (ws.map (p * ·)) = deal a T k ws
  | _, [] => rfl
  | k, w :: ws => by
    rw [List.map_cons]
    unfold deal
    rw [part_scale hp]
    by_cases h : 0 < k ∧ a * w % T ≠ 0
    · rw [if_pos h, if_pos ⟨h.1, (rem_scale hp).mpr h.2⟩, deal_scale hp (k - 1) ws]
    · rw [if_neg h, if_neg (fun z => h ⟨z.1, (rem_scale hp).mp z.2⟩), deal_scale hp k ws]
theorem bases_scale {a T p : Int} (hp : 0 < p) (ws : List Int) : bases a (p * T) (ws.map (p * ·)) = bases a T ws := by
  unfold bases
  rw [List.map_map]
  apply List.map_congr_left
  intro w _
  exact part_scale hp
theorem dealt_scale {a p : Int} (hp : 0 < p) (ws : List Int) : dealt a (ws.map (p * ·)) = dealt a ws := by
  unfold dealt
  rw [sum_scale, bases_scale hp, deal_scale hp]
theorem dealt_like {a p q : Int} (hp : 0 < p) (hq : 0 < q) {ws ws' : List Int} (h : ws.map (p * ·) = ws'.map (q * ·)) : dealt a ws = dealt a ws' := by
  rw [← dealt_scale hp ws, h, dealt_scale hq]
/-! ### weights of fractions -/
def lcmF : Int → List (Int × Int) → Int
  | b, [] => b
  | b, f :: fs => lcmF (b / (Int.gcd b f.2 : Int) * f.2) fs
def wts (L : Int) (fs : List (Int × Int)) : List Int := fs.map fun f => f.1 * (L / f.2)
def wtsOf (fs : List (Int × Int)) : List Int := wts (lcmF 1 fs) fs
structure Lcm (b L : Int) (fs : List (Int × Int)) : Prop where
  pos : 0 < L
  dvd : b ∣ L
  all : ∀ f ∈ fs, f.2 ∣ L
theorem step_lcm {b d : Int} (hb : 0 < b) (hd : 0 < d) : 0 < b / (Int.gcd b d : Int) * d ∧ b ∣ b / (Int.gcd b d : Int) * d ∧ d ∣ b / (Int.gcd b d : Int) * d := by
  have g0 : (0 : Int) < (Int.gcd b d : Int) := by
    have : Int.gcd b d ≠ 0 := fun z => by
      have := (Int.gcd_eq_zero_iff.mp z).1
      omega
    omega
  obtain ⟨x, hx⟩ := Int.gcd_dvd_left b d
  obtain ⟨y, hy⟩ := Int.gcd_dvd_right b d
  generalize hg : (Int.gcd b d : Int) = g at *
  have e : b / g = x := by rw [hx]; exact Int.mul_ediv_cancel_left x (by omega)
  have xp : 0 < x := by
    rcases Int.lt_or_le 0 x with h | h
    · exact h
    · have : g * x ≤ 0 := Int.mul_nonpos_of_nonneg_of_nonpos (by omega) h
      omega
  rw [e]
  refine ⟨Int.mul_pos xp hd, ⟨y, ?_⟩, ⟨x, Int.mul_comm _ _⟩⟩
  rw [hy, hx, ← Int.mul_assoc, Int.mul_comm x g]
theorem lcm_is : ∀ (fs : List (Int × Int)) (b : Int), 0 < b → (∀ f ∈ fs, 0 < f.2) → Lcm b (lcmF b fs) fs
  | [], b, hb, _ => ⟨hb, Int.dvd_refl b, fun f h => by cases h⟩
  | f :: fs, b, hb, h => by
    have hd := h f List.mem_cons_self
    have ⟨s1, s2, s3⟩ := step_lcm hb hd
    have ih := lcm_is fs _ s1 (fun g hg => h g (List.mem_cons_of_mem _ hg))
    refine ⟨ih.pos, Int.dvd_trans s2 ih.dvd, fun g hg => ?_⟩
    rcases List.mem_cons.mp hg with rfl | hg
    · exact Int.dvd_trans s3 ih.dvd
    · exact ih.all g hg
theorem wt_eq {L t d : Int} (h : d ∣ L) : t * (L / d) * d = t * L := by
  rw [Int.mul_assoc, Int.ediv_mul_cancel h]
/-- two rows of fractions that stand as B to A -/
theorem wts_like {A B L L' : Int} (hA : 0 < A) (hB : 0 < B) : ∀ (fs fs' : List (Int × Int)), fs.length = fs'.length → (∀ f ∈ fs, 0 < f.2 ∧ f.2 ∣ L) → (∀ f ∈ fs', 0 < f.2 ∧ f.2 ∣ L') →
    (∀ (i : Nat) (f f' : Int × Int), fs[i]? = some f → fs'[i]? = some f' → f'.1 * f.2 * B = f.1 * A * f'.2) → (wts L fs).map (A * L' * ·) = (wts L' fs').map (B * L * ·)
  | [], [], _, _, _, _ => rfl
  | f :: fs, f' :: fs', hl, h1, h2, h3 => by
    have ih := wts_like (L := L) (L' := L') hA hB fs fs' (by simpa using hl) (fun g hg => h1 g (List.mem_cons_of_mem _ hg)) (fun g hg => h2 g (List.mem_cons_of_mem _ hg)) (fun i g g' a b => h3 (i + 1) g g' (by simpa using a) (by simpa using b))
    have e := h3 0 f f' rfl rfl
    have ⟨p1, d1⟩ := h1 f List.mem_cons_self
    have ⟨p2, d2⟩ := h2 f' List.mem_cons_self
    unfold wts at *
    rw [List.map_cons, List.map_cons, List.map_cons, List.map_cons, ih]
    congr 1
    have w1 := wt_eq (t := f.1) d1
    have w2 := wt_eq (t := f'.1) d2
    generalize f.1 * (L / f.2) = w at *
    generalize f'.1 * (L' / f'.2) = w' at *
    have ne : f.2 * f'.2 ≠ 0 := Int.ne_of_gt (Int.mul_pos p1 p2)
    apply Int.eq_of_mul_eq_mul_right ne
    have l1 : A * L' * w * (f.2 * f'.2) = (w * f.2) * (A * L' * f'.2) := by
      ac_rfl
    have l2 : B * L * w' * (f.2 * f'.2) = (w' * f'.2) * (B * L * f.2) := by
      ac_rfl
    rw [l1, l2, w1, w2]
    have l3 : f.1 * L * (A * L' * f'.2) = (f.1 * A * f'.2) * (L * L') := by ac_rfl
    have l4 : f'.1 * L' * (B * L * f.2) = (f'.1 * f.2 * B) * (L * L') := by ac_rfl
    rw [l3, l4, e]
theorem dealt_frac {a A B : Int} (hA : 0 < A) (hB : 0 < B) {fs fs' : List (Int × Int)} (hl : fs.length = fs'.length) (h1 : ∀ f ∈ fs, 0 < f.2) (h2 : ∀ f ∈ fs', 0 < f.2)
    (h3 : ∀ (i : Nat) (f f' : Int × Int), fs[i]? = some f → fs'[i]? = some f' → f'.1 * f.2 * B = f.1 * A * f'.2) : dealt a (wtsOf fs) = dealt a (wtsOf fs') := by
  have c1 := lcm_is fs 1 (by decide) h1
  have c2 := lcm_is fs' 1 (by decide) h2
  exact dealt_like (Int.mul_pos hA c2.pos) (Int.mul_pos hB c1.pos) (wts_like hA hB fs fs' hl (fun f hf => ⟨h1 f hf, c1.all f hf⟩) (fun f hf => ⟨h2 f hf, c2.all f hf⟩) h3)
theorem wtsOf_sum_pos {fs : List (Int × Int)} (h1 : ∀ f ∈ fs, 0 ≤ f.1 ∧ 0 < f.2) (h2 : ∃ f ∈ fs, 0 < f.1) : 0 < (wtsOf fs).sum ∧ ∀ w ∈ wtsOf fs, 0 ≤ w := by
  have c := lcm_is fs 1 (by decide) (fun f hf => (h1 f hf).2)
  unfold wtsOf
  generalize lcmF 1 fs = L at *
  have q : ∀ f ∈ fs, 0 < L / f.2 := fun f hf => Int.ediv_pos_of_pos_of_dvd c.pos (Int.le_of_lt (h1 f hf).2) (c.all f hf)
  clear c
  have nn : ∀ w ∈ wts L fs, 0 ≤ w := fun w hw => by
    unfold wts at hw
    obtain ⟨f, hf, rfl⟩ := List.mem_map.mp hw
    exact Int.mul_nonneg (h1 f hf).1 (Int.le_of_lt (q f hf))
  refine ⟨?_, nn⟩
  induction fs with
  | nil => obtain ⟨f, hf, _⟩ := h2; cases hf
  | cons g fs ih =>
    unfold wts
    rw [List.map_cons, List.sum_cons]
    have g0 : 0 ≤ g.1 * (L / g.2) := nn _ (by unfold wts; rw [List.map_cons]; exact List.mem_cons_self)
    have rest : ∀ (xs : List Int), (∀ w ∈ xs, 0 ≤ w) → 0 ≤ xs.sum := fun xs => by
      induction xs with
      | nil => intro _; exact Int.le_refl 0
      | cons x xs ihx =>
        intro hx
        rw [List.sum_cons]
        have a := hx x List.mem_cons_self
        have b := ihx (fun w hw => hx w (List.mem_cons_of_mem _ hw))
        omega
    have r0 : 0 ≤ (fs.map fun f => f.1 * (L / f.2)).sum := rest _ (fun w hw => nn w (by unfold wts; rw [List.map_cons]; exact List.mem_cons_of_mem _ hw))
    obtain ⟨f, hf, hp⟩ := h2
    rcases List.mem_cons.mp hf with rfl | hf
    · have := Int.mul_pos hp (q f List.mem_cons_self)
      omega
    · have ih2 := ih (fun f hf => h1 f (List.mem_cons_of_mem _ hf)) ⟨f, hf, hp⟩ (fun f hf => q f (List.mem_cons_of_mem _ hf)) (fun w hw => nn w (by unfold wts at *; rw [List.map_cons]; exact List.mem_cons_of_mem _ hw))
      unfold wts at ih2
      omega
theorem wtsOf_len (fs : List (Int × Int)) : (wtsOf fs).length = fs.length := by unfold wtsOf wts; rw [List.length_map]
/-! ### whole shares -/
theorem lcm_whole : ∀ fs : List (Int × Int), (∀ f ∈ fs, f.2 = 1) → lcmF 1 fs = 1
  | [], _ => rfl
  | f :: fs, h => by
    unfold lcmF
    rw [h f List.mem_cons_self]
    show lcmF (1 / (Int.gcd 1 1 : Int) * 1) fs = 1
    rw [show (1 : Int) / (Int.gcd 1 1 : Int) * 1 = 1 by decide]
    exact lcm_whole fs (fun g hg => h g (List.mem_cons_of_mem _ hg))
theorem wtsOf_whole (ts : List Int) : wtsOf (ts.map fun t => (t, 1)) = ts := by
  unfold wtsOf
  rw [lcm_whole _ (fun f hf => by obtain ⟨t, _, rfl⟩ := List.mem_map.mp hf; rfl)]
  unfold wts
  rw [List.map_map]
  have e : ((fun f : Int × Int => f.1 * (1 / f.2)) ∘ fun t : Int => (t, (1 : Int))) = id := by
    funext t
    show t * (1 / 1) = t
    rw [show (1 : Int) / 1 = 1 by decide, Int.mul_one]
  rw [e, List.map_id]
theorem deal_self {T : Int} (hT : 0 < T) : ∀ (k : Int) (ws : List Int), deal T T k ws = ws
  | _, [] => rfl
  | k, w :: ws => by
    unfold deal
    have e : T * w % T = 0 := Int.mul_emod_right T w
    rw [if_neg (fun z => z.2 e), Int.mul_ediv_cancel_left w (by omega), deal_self hT k ws]
theorem dealt_self {ws : List Int} (hT : 0 < ws.sum) : dealt ws.sum ws = ws := deal_self hT _ _
theorem deal_more {a T t : Int} (hT : 0 < T) : ∀ (k : Int) (ws : List Int), deal (a + t * T) T k ws = List.zipWith (fun p w => p + t * w) (deal a T k ws) ws
  | _, [] => rfl
  | k, w :: ws => by
    have e : (a + t * T) * w = a * w + T * (t * w) := by
      rw [Int.add_mul]
      congr 1
      ac_rfl
    have e1 : (a + t * T) * w / T = a * w / T + t * w := by
      rw [e, Int.add_mul_ediv_left _ _ (by omega)]
    have e2 : (a + t * T) * w % T = a * w % T := by
      rw [e, Int.add_mul_emod_self_left]
    unfold deal
    rw [e1, e2]
    by_cases h : 0 < k ∧ a * w % T ≠ 0
    · rw [if_pos h, if_pos h, deal_more hT (k - 1) ws, List.zipWith_cons_cons]
      congr 1
      omega
    · rw [if_neg h, if_neg h, deal_more hT k ws, List.zipWith_cons_cons]
theorem bases_more {a T t : Int} (hT : 0 < T) : ∀ ws : List Int, (bases (a + t * T) T ws).sum = (bases a T ws).sum + t * ws.sum
  | [] => by
    show (0 : Int) = 0 + t * 0
    simp
  | w :: ws => by
    have ih := bases_more (a := a) (t := t) hT ws
    have e : (a + t * T) * w = a * w + T * (t * w) := by
      rw [Int.add_mul]
      congr 1
      ac_rfl
    have e1 : (a + t * T) * w / T = a * w / T + t * w := by
      rw [e, Int.add_mul_ediv_left _ _ (by omega)]
    unfold bases at *
    rw [List.map_cons, List.map_cons, List.sum_cons, List.sum_cons, List.sum_cons, ih, e1, Int.mul_add]
    omega
theorem dealt_more {a t : Int} {ws : List Int} (hT : 0 < ws.sum) : dealt (a + t * ws.sum) ws = List.zipWith (fun p w => p + t * w) (dealt a ws) ws := by
  unfold dealt
  rw [bases_more hT, deal_more hT]
  congr 2
  omega
/-! ### noughts between -/
def trues : Nat → List Bool → List Nat
  | _, [] => []
  | n, true :: r => n :: trues (n + 1) r
  | n, false :: r => trues (n + 1) r
theorem trues_append : ∀ (a b : List Bool) (n : Nat), trues n (a ++ b) = trues n a ++ trues (n + a.length) b
  | [], b, n => by simp [trues]
  | true :: a, b, n => by
    have := trues_append a b (n + 1)
    simp only [List.cons_append, trues, this, List.length_cons]
    rw [show n + 1 + a.length = n + (a.length + 1) by omega]
  | false :: a, b, n => by
    have := trues_append a b (n + 1)
    simp only [List.cons_append, trues, this, List.length_cons]
    rw [show n + 1 + a.length = n + (a.length + 1) by omega]
theorem trues_false : ∀ (z n : Nat), trues n (List.replicate z false) = []
  | 0, n => rfl
  | z + 1, n => by rw [List.replicate_succ]; exact trues_false z (n + 1)
theorem trues_mem : ∀ (m : List Bool) (n q : Nat), q ∈ trues n m ↔ n ≤ q ∧ m[q - n]? = some true
  | [], n, q => by simp [trues]
  | true :: m, n, q => by
    have ih := trues_mem m (n + 1) q
    simp only [trues, List.mem_cons, ih]
    constructor
    · rintro (rfl | ⟨h1, h2⟩)
      · simp
      · refine ⟨by omega, ?_⟩
        rw [show q - n = (q - (n + 1)) + 1 by omega]
        simpa using h2
    · rintro ⟨h1, h2⟩
      by_cases e : q = n
      · exact .inl e
      · right
        refine ⟨by omega, ?_⟩
        rw [show q - n = (q - (n + 1)) + 1 by omega] at h2
        simpa using h2
  | false :: m, n, q => by
    have ih := trues_mem m (n + 1) q
    simp only [trues, ih]
    constructor
    · rintro ⟨h1, h2⟩
      refine ⟨by omega, ?_⟩
      rw [show q - n = (q - (n + 1)) + 1 by omega]
      simpa using h2
    · rintro ⟨h1, h2⟩
      by_cases e : q = n
      · subst e
        simp at h2
      · refine ⟨by omega, ?_⟩
        rw [show q - n = (q - (n + 1)) + 1 by omega] at h2
        simpa using h2
theorem trues_lt {m : List Bool} {q : Nat} (h : q ∈ trues 0 m) : q < m.length := by
  have := ((trues_mem m 0 q).mp h).2
  rw [Nat.sub_zero] at this
  exact (List.getElem?_eq_some_iff.mp this).1
/-- what stands at the marked places -/
theorem trues_pick : ∀ (m : List (Bool × Int)) (pre : List Int), (trues pre.length (m.map (·.1))).map (fun p => (pre ++ m.map (·.2)).getD p 0) = (m.filter (·.1)).map (·.2)
  | [], pre => rfl
  | (true, v) :: m, pre => by
    have ih := trues_pick m (pre ++ [v])
    simp only [List.length_append, List.length_cons, List.length_nil, List.append_assoc, List.cons_append, List.nil_append] at ih
    simp only [List.map_cons, trues, List.filter_cons, if_true]
    rw [show pre.length + 1 = pre.length + (0 + 1) by omega, ih]
    congr 1
    simp [List.getD]
  | (false, v) :: m, pre => by
    have ih := trues_pick m (pre ++ [v])
    simp only [List.length_append, List.length_cons, List.length_nil, List.append_assoc, List.cons_append, List.nil_append] at ih
    simp only [List.map_cons, trues, List.filter_cons]
    rw [show pre.length + 1 = pre.length + (0 + 1) by omega, ih]
    simp
def Naught (m : List (Bool × Int)) : Prop := ∀ x ∈ m, x.1 = false → x.2 = 0
theorem sum_naught : ∀ m : List (Bool × Int), Naught m → (m.map (·.2)).sum = ((m.filter (·.1)).map (·.2)).sum
  | [], _ => rfl
  | (true, v) :: m, h => by
    have ih := sum_naught m (fun x hx => h x (List.mem_cons_of_mem _ hx))
    simp only [List.map_cons, List.sum_cons, List.filter_cons, if_true, ih]
  | (false, v) :: m, h => by
    have ih := sum_naught m (fun x hx => h x (List.mem_cons_of_mem _ hx))
    have e : v = 0 := h _ List.mem_cons_self rfl
    subst e
    simp only [List.map_cons, List.sum_cons, List.filter_cons, ih]
    simp
/-- the pennies with their marks -/
def marked (a T : Int) : Int → List (Bool × Int) → List (Bool × Int)
  | _, [] => []
  | k, (b, w) :: m => if 0 < k ∧ a * w % T ≠ 0 then (b, a * w / T + 1) :: marked a T (k - 1) m else (b, a * w / T) :: marked a T k m
theorem marked_snd (a T : Int) : ∀ (k : Int) (m : List (Bool × Int)), (marked a T k m).map (·.2) = deal a T k (m.map (·.2))
  | _, [] => rfl
  | k, (b, w) :: m => by
    unfold marked
    rw [List.map_cons]
    unfold deal
    split
    · rw [List.map_cons, marked_snd a T (k - 1) m]
    · rw [List.map_cons, marked_snd a T k m]
theorem marked_fst (a T : Int) : ∀ (k : Int) (m : List (Bool × Int)), (marked a T k m).map (·.1) = m.map (·.1)
  | _, [] => rfl
  | k, (b, w) :: m => by
    unfold marked
    rw [List.map_cons]
    split
    · rw [List.map_cons, marked_fst a T (k - 1) m]
    · rw [List.map_cons, marked_fst a T k m]
theorem marked_pick (a T : Int) : ∀ (k : Int) (m : List (Bool × Int)), Naught m → ((marked a T k m).filter (·.1)).map (·.2) = deal a T k ((m.filter (·.1)).map (·.2))
  | _, [], _ => rfl
  | k, (true, w) :: m, h => by
    have ih := fun k => marked_pick a T k m (fun x hx => h x (List.mem_cons_of_mem _ hx))
    unfold marked
    simp only [List.filter_cons, if_true, List.map_cons]
    unfold deal
    split
    · simp only [List.filter_cons, if_true, List.map_cons, ih]
    · simp only [List.filter_cons, if_true, List.map_cons, ih]
  | k, (false, w) :: m, h => by
    have ih := fun k => marked_pick a T k m (fun x hx => h x (List.mem_cons_of_mem _ hx))
    have e : w = 0 := h _ List.mem_cons_self rfl
    subst e
    unfold marked
    have e0 : a * 0 % T = 0 := by rw [Int.mul_zero, Int.zero_emod]
    rw [if_neg (fun z => z.2 e0)]
    simp [List.filter_cons, ih]
theorem marked_naught (a T : Int) : ∀ (k : Int) (m : List (Bool × Int)), Naught m → Naught (marked a T k m)
  | _, [], _ => fun x hx => by cases hx
  | k, (b, w) :: m, h => by
    have ih := fun k => marked_naught a T k m (fun x hx => h x (List.mem_cons_of_mem _ hx))
    have h0 := h _ List.mem_cons_self
    unfold marked
    split
    · rename_i hc
      intro x hx hf
      rcases List.mem_cons.mp hx with rfl | hx
      · have e : w = 0 := h0 hf
        subst e
        exact absurd (by rw [Int.mul_zero, Int.zero_emod]) hc.2
      · exact ih _ x hx hf
    · intro x hx hf
      rcases List.mem_cons.mp hx with rfl | hx
      · have e : w = 0 := h0 hf
        subst e
        show a * 0 / T = 0
        rw [Int.mul_zero, Int.zero_ediv]
      · exact ih _ x hx hf
theorem bases_naught (a T : Int) (m : List (Bool × Int)) (h : Naught m) : (bases a T (m.map (·.2))).sum = (bases a T ((m.filter (·.1)).map (·.2))).sum := by
  have e := sum_naught (m.map fun x => (x.1, a * x.2 / T)) (fun x hx hf => by
    obtain ⟨y, hy, rfl⟩ := List.mem_map.mp hx
    have : y.2 = 0 := h y hy hf
    show a * y.2 / T = 0
    rw [this, Int.mul_zero, Int.zero_ediv])
  unfold bases
  simp only [List.map_map, List.filter_map] at *
  exact e
/-- the pennies of a row with noughts between -/
theorem dealt_naught (a : Int) (m : List (Bool × Int)) (h : Naught m) : ∃ m' : List (Bool × Int), m'.map (·.2) = dealt a (m.map (·.2)) ∧ m'.map (·.1) = m.map (·.1) ∧ Naught m' ∧ (m'.filter (·.1)).map (·.2) = dealt a ((m.filter (·.1)).map (·.2)) := by
  refine ⟨marked a (m.map (·.2)).sum (a - (bases a (m.map (·.2)).sum (m.map (·.2))).sum) m, marked_snd .., marked_fst .., marked_naught _ _ _ _ h, ?_⟩
  rw [marked_pick _ _ _ _ h, bases_naught _ _ _ h, sum_naught m h]
  rfl
end WdM

set_option Elab.async false
set_option linter.all false
set_option maxRecDepth 100000
set_option maxHeartbeats 4000000
namespace Wd
open PySem PySem.Spec PyProof.Rows L2 WdM
/-! ### heaps: all but some addresses stand -/
def Bt (S : List Addr) (H H' : Hp) : Prop := ∀ b o, b ∉ S → H b = some o → H' b = some o
theorem Bt.refl {S : List Addr} (H : Hp) : Bt S H H := fun _ _ _ h => h
theorem Bt.trans {S : List Addr} {H H1 H2 : Hp} (a : Bt S H H1) (b : Bt S H1 H2) : Bt S H H2 := fun c o n h => b c o n (a c o n h)
theorem Bt.of_same {S : List Addr} {H H' : Hp} (e : Same H H') : Bt S H H' := fun b o _ h => e b o h
theorem Bt.same {H H' : Hp} (e : Bt [] H H') : Same H H' := fun b o h => e b o (by simp) h
theorem Bt.wide {S T : List Addr} {H H' : Hp} (h : ∀ a ∈ S, a ∈ T) (e : Bt S H H') : Bt T H H' := fun b o n q => e b o (fun z => n (h b z)) q
theorem Bt.new {S : List Addr} {H H1 : Hp} {p : Addr} {o : HO} (e : Bt S H H1) (h : H1 p = none) : Bt S H (upd H1 p o) := fun b x n q => by
  have q1 := e b x n q
  rw [upd_ne (ne_of_none q1 h)]
  exact q1
theorem Bt.upd0 {S : List Addr} {H H1 : Hp} {p : Addr} {o : HO} (e : Bt S H H1) (h : H p = none) : Bt S H (upd H1 p o) := fun b x n q => by
  rw [upd_ne (ne_of_none q h)]
  exact e b x n q
theorem Bt.upd1 {S : List Addr} {H H1 : Hp} {p : Addr} {o : HO} (e : Bt S H H1) (h : p ∈ S) : Bt S H (upd H1 p o) := fun b x n q => by
  rw [upd_ne (fun z => n (by rw [z]; exact h))]
  exact e b x n q
theorem Bt.none {S : List Addr} {H H' : Hp} (e : Bt S H H') {p : Addr} (hS : p ∉ S) (h : H' p = none) : H p = none := by
  cases q : H p with
  | none => rfl
  | some o => rw [e p o hS q] at h; cases h
/-! ### tuples stand where lists change -/
def Tk (H H' : Hp) : Prop := ∀ a xs, Rd H a (.tup xs) → Rd H' a (.tup xs)
theorem Tk.refl (H : Hp) : Tk H H := fun _ _ h => h
theorem Tk.trans {H H1 H2 : Hp} (a : Tk H H1) (b : Tk H1 H2) : Tk H H2 := fun c xs h => b c xs (a c xs h)
theorem Tk.sq {K : PySem.W.Frag} {H H' : Hp} {a : Addr} {xs : List V} (t : Tk H H') (h : SqT K H a xs) : SqT K H' a xs := by
  rcases h with h | h
  · exact .inl (t _ _ h)
  · exact .inr h
theorem Bt.tk {S : List Addr} {H H' : Hp} (e : Bt S H H') (h : ∀ l ∈ S, ∃ zs, H l = some (.lst zs)) : Tk H H' := fun a xs r => by
  rcases r with r | ⟨o, r⟩
  · refine .inl (e a _ (fun z => ?_) r)
    obtain ⟨zs, q⟩ := h a z
    rw [q] at r; cases r
  · refine .inr ⟨o, e a _ (fun z => ?_) r⟩
    obtain ⟨zs, q⟩ := h a z
    rw [q] at r; cases r
theorem tk_same {H H' : Hp} (e : Same H H') : Tk H H' := (Bt.of_same (S := []) e).tk (fun l h => by cases h)
theorem tk_new {H : Hp} {p : Addr} {o : HO} (h : H p = none) : Tk H (upd H p o) := tk_same ((Bt.refl (S := []) H).new h).same
theorem tk_lst {H : Hp} {p : Addr} {zs : List V} {o : HO} (h : H p = some (.lst zs)) : Tk H (upd H p o) := ((Bt.refl (S := [p]) H).upd1 (by simp)).tk (fun l hl => by
  rw [List.mem_singleton.mp hl]; exact ⟨zs, h⟩)
theorem sqT {K : PySem.W.Frag} {H : Hp} {a : Addr} {xs : List V} (h : H a = some (.tup xs)) : SqT K H a xs := .inl (.inl h)
theorem sqL {K : PySem.W.Frag} {H : Hp} {a : Addr} {xs : List V} (h : H a = some (.lst xs)) : SqL K H a xs := .inl (.inl h)
theorem same_new {H : Hp} {p : Addr} {o : HO} (h : H p = none) : Same H (upd H p o) := ((Bt.refl (S := []) H).new h).same
/-! ### fractions in the heap -/
def Fr (K : PySem.W.Frag) (H : Hp) (v : V) (f : Int × Int) : Prop := ∃ a, v = .ref a ∧ SqT K H a [.int f.1, .int f.2]
def FrAll (K : PySem.W.Frag) (H : Hp) (xs : List V) (fs : List (Int × Int)) : Prop := xs.length = fs.length ∧ ∀ (i : Nat) (x : V) (f : Int × Int), xs[i]? = some x → fs[i]? = some f → Fr K H x f
def Sh (K : PySem.W.Frag) (H : Hp) (v : V) (fs : List (Int × Int)) : Prop := ∃ a xs, v = .ref a ∧ SqT K H a xs ∧ FrAll K H xs fs
theorem Fr.tk {K : PySem.W.Frag} {H H' : Hp} {v : V} {f : Int × Int} (t : Tk H H') (h : Fr K H v f) : Fr K H' v f := by
  obtain ⟨a, e, s⟩ := h
  exact ⟨a, e, t.sq s⟩
theorem FrAll.tk {K : PySem.W.Frag} {H H' : Hp} {xs : List V} {fs : List (Int × Int)} (t : Tk H H') (h : FrAll K H xs fs) : FrAll K H' xs fs := ⟨h.1, fun i x f a b => (h.2 i x f a b).tk t⟩
theorem Sh.tk {K : PySem.W.Frag} {H H' : Hp} {v : V} {fs : List (Int × Int)} (t : Tk H H') (h : Sh K H v fs) : Sh K H' v fs := by
  obtain ⟨a, xs, e, s, q⟩ := h
  exact ⟨a, xs, e, t.sq s, q.tk t⟩
theorem FrAll.nil {K : PySem.W.Frag} {H : Hp} : FrAll K H [] [] := ⟨rfl, fun i x f a _ => by simp at a⟩
theorem FrAll.append {K : PySem.W.Frag} {H : Hp} {xs ys : List V} {fs gs : List (Int × Int)} (h : FrAll K H xs fs) (h' : FrAll K H ys gs) : FrAll K H (xs ++ ys) (fs ++ gs) := by
  refine ⟨by rw [List.length_append, List.length_append, h.1, h'.1], fun i x f a b => ?_⟩
  by_cases hi : i < xs.length
  · rw [List.getElem?_append_left hi] at a
    rw [List.getElem?_append_left (by rw [← h.1]; exact hi)] at b
    exact h.2 i x f a b
  · rw [List.getElem?_append_right (by omega)] at a
    rw [List.getElem?_append_right (by rw [← h.1]; omega)] at b
    exact h'.2 (i - xs.length) x f a (by rw [h.1]; exact b)
theorem FrAll.one {K : PySem.W.Frag} {H : Hp} {x : V} {f : Int × Int} (h : Fr K H x f) : FrAll K H [x] [f] := ⟨rfl, fun i y g a b => by
  cases i with
  | zero => cases a; cases b; exact h
  | succ i => simp at a⟩
theorem FrAll.snoc {K : PySem.W.Frag} {H : Hp} {xs : List V} {fs : List (Int × Int)} {x : V} {f : Int × Int} (h : FrAll K H xs fs) (h' : Fr K H x f) : FrAll K H (xs ++ [x]) (fs ++ [f]) := h.append (.one h')
theorem FrAll.reverse {K : PySem.W.Frag} {H : Hp} {xs : List V} {fs : List (Int × Int)} (h : FrAll K H xs fs) : FrAll K H xs.reverse fs.reverse := by
  refine ⟨by rw [List.length_reverse, List.length_reverse, h.1], fun i x f a b => ?_⟩
  have hi : i < xs.length := by
    have := (List.getElem?_eq_some_iff.mp a).1
    rwa [List.length_reverse] at this
  rw [List.getElem?_reverse hi] at a
  rw [List.getElem?_reverse (by rw [← h.1]; exact hi), ← h.1] at b
  exact h.2 _ x f a b
theorem FrAll.drop {K : PySem.W.Frag} {H : Hp} {xs : List V} {fs : List (Int × Int)} (n : Nat) (h : FrAll K H xs fs) : FrAll K H (xs.drop n) (fs.drop n) := by
  refine ⟨by rw [List.length_drop, List.length_drop, h.1], fun i x f a b => ?_⟩
  rw [List.getElem?_drop] at a b
  exact h.2 _ x f a b
theorem FrAll.get {K : PySem.W.Frag} {H : Hp} {xs : List V} {fs : List (Int × Int)} {i : Nat} {x : V} (h : FrAll K H xs fs) (e : xs[i]? = some x) : ∃ f p, fs[i]? = some f ∧ x = .ref p ∧ SqT K H p [.int f.1, .int f.2] := by
  have hi : i < fs.length := by
    rw [← h.1]
    exact (List.getElem?_eq_some_iff.mp e).1
  obtain ⟨p, rfl, s⟩ := h.2 i x _ e (List.getElem?_eq_getElem hi)
  exact ⟨_, p, List.getElem?_eq_getElem hi, rfl, s⟩
/-! ### ints of lists by place -/
theorem ints_get {ns : List Int} {i : Nat} {x : V} (h : (ns.map V.int)[i]? = some x) : ∃ n, ns[i]? = some n ∧ x = .int n := by
  rw [List.getElem?_map] at h
  cases e : ns[i]? with
  | none => rw [e] at h; cases h
  | some n => rw [e] at h; exact ⟨n, rfl, (Option.some.inj h).symm⟩
theorem take_more {α : Type} {l : List α} {i : Nat} {x : α} (h : l[i]? = some x) : l.take (i + 1) = l.take i ++ [x] := by
  rw [List.take_add_one, h]
  rfl
theorem lt_get {α : Type} {l : List α} {i : Nat} {x : α} (h : l[i]? = some x) : i < l.length := (List.getElem?_eq_some_iff.mp h).1
theorem small_line {n m : Nat} (h : n ≤ m) (hm : m ≤ 1000 := by decide) : n ≤ sizeLine := Nat.le_of_lt (small1000 (Nat.le_trans h hm))
/-! ### Euclid -/
theorem gcd_step {a b : Int} (ha : 0 ≤ a) (hb : 0 ≤ b) : Int.gcd b (a % b) = Int.gcd a b := by
  obtain ⟨m, rfl⟩ := Int.eq_ofNat_of_zero_le ha
  obtain ⟨n, rfl⟩ := Int.eq_ofNat_of_zero_le hb
  show Nat.gcd n (((m : Int) % (n : Int))).natAbs = Nat.gcd m n
  rw [← Int.natCast_emod, Int.natAbs_natCast, Nat.gcd_comm n, ← Nat.gcd_rec, Nat.gcd_comm]
theorem gcd_end {a : Int} (ha : 0 ≤ a) : (Int.gcd a 0 : Int) = a := by
  rw [Int.gcd_zero_right]
  omega
theorem canLay_ints : ∀ ns : List Int, PyData.canLayAll0 (ns.map .int) = true
  | [] => by simp [PyData.canLayAll0]
  | n :: ns => by
    rw [List.map_cons]
    unfold PyData.canLayAll0
    rw [canLay_ints ns]
    simp [PyData.canLay0]
theorem depth_ints : ∀ ns : List Int, PyData.depthAll (ns.map .int) = 0
  | [] => by simp [PyData.depthAll]
  | n :: ns => by
    rw [List.map_cons]
    unfold PyData.depthAll
    rw [depth_ints ns]
    simp [PyData.depth]
theorem eqv_ints : ∀ ns : List Int, PyData.eqvAll (ns.map .int) (ns.map .int) = true
  | [] => by simp [PyData.eqvAll]
  | n :: ns => by
    rw [List.map_cons]
    unfold PyData.eqvAll
    rw [eqv_ints ns]
    simp [PyData.eqv]
theorem shT (ns : List Int) : SeqAt.shaped (.tuple (ns.map .int)) = true := by
  unfold SeqAt.shaped PyData.canLay0 PyData.depth
  rw [canLay_ints, depth_ints]
  rfl
theorem shL (ns : List Int) : SeqAt.shaped (.list (ns.map .int)) = true := by
  unfold SeqAt.shaped PyData.canLay0 PyData.depth
  rw [canLay_ints, depth_ints]
  rfl
theorem eqvT (ns : List Int) : PyData.eqv (.tuple (ns.map .int)) (.tuple (ns.map .int)) = true := by
  unfold PyData.eqv
  exact eqv_ints ns
theorem eqvL (ns : List Int) : PyData.eqv (.list (ns.map .int)) (.list (ns.map .int)) = true := by
  unfold PyData.eqv
  exact eqv_ints ns
theorem dInts {K : PySem.W.Frag} {H : Hp} : ∀ ns : List Int, DpAll K H (ns.map V.int) (ns.map PyData.int)
  | [] => .nil
  | n :: ns => .cons (.int n) (dInts ns)
theorem dT {K : PySem.W.Frag} {H : Hp} {a : Addr} {ns : List Int} (h : SqT K H a (ns.map V.int)) : Dp K H (.ref a) (.tuple (ns.map .int)) := .tup h (dInts ns)
theorem dL {K : PySem.W.Frag} {H : Hp} {a : Addr} {ns : List Int} (h : SqL K H a (ns.map V.int)) : Dp K H (.ref a) (.list (ns.map .int)) := .lst h (dInts ns)
theorem tyT {K : PySem.W.Frag} {H : Hp} {a : Addr} {xs : List V} (h : SqT K H a xs) : TyX K H (.ref a) (.type "tuple") := by
  rcases h with (h | ⟨o, h⟩) | ⟨o, its, n, e, c, _⟩
  · exact .base (.tup h)
  · exact .fTuple h
  · exact .kTuple e c
/-! ### sizes -/
theorem lcm_snoc : ∀ (fs : List (Int × Int)) (b : Int) (f : Int × Int), lcmF b (fs ++ [f]) = lcmF b fs / (Int.gcd (lcmF b fs) f.2 : Int) * f.2
  | [], b, f => rfl
  | g :: fs, b, f => lcm_snoc fs _ f
theorem gcd_pos {a b : Int} (h : 0 < b) : (0 : Int) < (Int.gcd a b : Int) := by
  have : Int.gcd a b ≠ 0 := fun z => by
    have := (Int.gcd_eq_zero_iff.mp z).2
    omega
  omega
theorem gcd_le {a b : Int} (h : 0 < b) : (Int.gcd a b : Int) ≤ b := Int.le_of_dvd h (Int.gcd_dvd_right a b)
theorem lcm_bound : ∀ (fs : List (Int × Int)) (b : Int) (m : Nat), 0 < b → b.natAbs < 2 ^ m → (∀ f ∈ fs, 0 < f.2 ∧ f.2.natAbs < 2 ^ 64) → (lcmF b fs).natAbs < 2 ^ (m + 64 * fs.length)
  | [], b, m, _, h, _ => h
  | f :: fs, b, m, hb, h, hf => by
    have ⟨f1, f2⟩ := hf f List.mem_cons_self
    have g0 := gcd_pos (a := b) f1
    have s := step_lcm hb f1
    have q : (b / (Int.gcd b f.2 : Int) * f.2).natAbs < 2 ^ (m + 64) := wide_lt (wide_le (Int.ediv_nonneg (Int.le_of_lt hb) (Int.le_of_lt g0)) (Int.ediv_le_self _ (Int.le_of_lt hb)) h) f2
    have ih := lcm_bound fs _ _ s.1 q (fun g hg => hf g (List.mem_cons_of_mem _ hg))
    rw [List.length_cons, show m + 64 * (fs.length + 1) = m + 64 + 64 * fs.length by omega]
    exact ih
theorem pow_le {a b : Nat} (h : a ≤ b) : 2 ^ a ≤ 2 ^ b := Nat.pow_le_pow_right (by decide) h
/-- shares that can be parted by -/
structure Good (fs : List (Int × Int)) : Prop where
  len0 : 1 ≤ fs.length
  len1 : fs.length ≤ 64
  each : ∀ f ∈ fs, 0 ≤ f.1 ∧ 0 < f.2 ∧ f.1.natAbs < 2 ^ 64 ∧ f.2.natAbs < 2 ^ 64 ∧ Int.gcd f.1 f.2 = 1
  some : ∃ f ∈ fs, 0 < f.1
theorem Good.pos {fs : List (Int × Int)} (g : Good fs) : ∀ f ∈ fs, 0 < f.2 := fun f hf => (g.each f hf).2.1
theorem Good.lcm {fs : List (Int × Int)} (g : Good fs) : Lcm 1 (lcmF 1 fs) fs := lcm_is fs 1 (by decide) g.pos
theorem Good.sum {fs : List (Int × Int)} (g : Good fs) : 0 < (wtsOf fs).sum ∧ ∀ w ∈ wtsOf fs, 0 ≤ w := wtsOf_sum_pos (fun f hf => ⟨(g.each f hf).1, (g.each f hf).2.1⟩) g.some
theorem Good.lcmB {fs : List (Int × Int)} (g : Good fs) : (lcmF 1 fs).natAbs < 2 ^ 4097 :=
  Nat.lt_of_lt_of_le (lcm_bound fs 1 1 (by decide) (by decide) (fun f hf => ⟨(g.each f hf).2.1, (g.each f hf).2.2.2.1⟩)) (pow_le (by have := g.len1; omega))
theorem Good.quo {fs : List (Int × Int)} (g : Good fs) : ∀ f ∈ fs, 0 ≤ lcmF 1 fs / f.2 ∧ (lcmF 1 fs / f.2).natAbs < 2 ^ 4097 := fun f hf => by
  have h0 : 0 ≤ lcmF 1 fs / f.2 := Int.ediv_nonneg (Int.le_of_lt g.lcm.pos) (Int.le_of_lt (g.pos f hf))
  exact ⟨h0, wide_le h0 (Int.ediv_le_self _ (Int.le_of_lt g.lcm.pos)) g.lcmB⟩
theorem Good.wB {fs : List (Int × Int)} (g : Good fs) : ∀ w ∈ wtsOf fs, w.natAbs < 2 ^ 4161 := fun w hw => by
  unfold wtsOf wts at hw
  obtain ⟨f, hf, rfl⟩ := List.mem_map.mp hw
  exact wide_lt (a := 64) (b := 4097) (g.each f hf).2.2.1 (g.quo f hf).2
theorem sum_abs {B : Nat} : ∀ ws : List Int, (∀ w ∈ ws, w.natAbs < B) → ws.sum.natAbs ≤ ws.length * B
  | [], _ => by simp
  | w :: ws, h => by
    have ih := sum_abs ws (fun x hx => h x (List.mem_cons_of_mem _ hx))
    have h0 := h w List.mem_cons_self
    rw [List.sum_cons, List.length_cons, Nat.add_mul, Nat.one_mul]
    have := Int.natAbs_add_le w ws.sum
    omega
theorem Good.sumB {fs : List (Int × Int)} (g : Good fs) : (wtsOf fs).sum.natAbs < 2 ^ 4168 := by
  have h := sum_abs (wtsOf fs) g.wB
  rw [wtsOf_len] at h
  have h1 := g.len1
  have h2 : fs.length * 2 ^ 4161 ≤ 64 * 2 ^ 4161 := Nat.mul_le_mul_right _ h1
  have h3 : 64 * 2 ^ 4161 < 2 ^ 4168 := by
    rw [show (4168 : Nat) = 7 + 4161 by rfl, Nat.pow_add]
    exact Nat.mul_lt_mul_of_pos_right (by decide) (Nat.pow_pos (by decide))
  exact Nat.lt_of_le_of_lt h (Nat.lt_of_le_of_lt h2 h3)
/-! ### a def of the text -/
structure Df (K : PySem.W.Frag) (mg : Str → Option Value) (name : Str) (st : Stmt) (f : Addr) (fd : FuncData) (ps : List Str) : Prop where
  fn : Fun K name name st f fd
  mg : mg name = some (.ref f)
  bd : Binds K fd ps []
end Wd

set_option Elab.async false
set_option linter.all false
set_option maxRecDepth 100000
set_option maxHeartbeats 4000000
namespace Wd
open PySem PySem.Spec PyProof.Rows L2 WdM
/-! ### an exception that was caught and is kept: tracked from then on -/
def ExT (a : Addr) (cls : Value) (d : Option Addr) : HO := .ext fun h => ∃ oe vs, h.get? a = some oe ∧ Zc cls d oe ∧ oe.data = .fields vs
theorem exT_ok {P : Program} {w : World} {H : Hp} {h : Heap} {a : Addr} {cls : Value} {d : Option Addr} {oe : Obj} {vs : Array Value} (g : h.get? a = some oe) (z : Zc cls d oe) (f : oe.data = .fields vs) : ObjOk P w H h a (ExT a cls d) :=
  ⟨⟨oe, vs, g, z, f⟩, ⟨oe, g⟩, fun _ _ ⟨oe, vs, e, r⟩ k => ⟨oe, vs, k _ e, r⟩⟩
theorem exT_at {P : Program} {w : World} {H : Hp} {h : Heap} {a : Addr} {cls : Value} {d : Option Addr} (ok : HOk P w H h) (e : H a = some (ExT a cls d)) : ∃ oe vs, h.get? a = some oe ∧ Zc cls d oe ∧ oe.data = .fields vs := by
  have x : ObjOk P w H h a (.ext fun h => ∃ oe vs, h.get? a = some oe ∧ Zc cls d oe ∧ oe.data = .fields vs) := ok a _ e
  exact x.1
section
variable {X : Cx} {pins : List (Addr × Obj)} {σ : L2.St} {H : Hp} {s : Shared}
theorem track {a : Addr} {oe : Obj} {vs : Array Value} {cls : Value} {d : Option Addr} (I : Inv X ((a, oe) :: pins) σ H s) (hx : X.ex = []) (n0 : X.s_0.heap.get? a = none) (np : ∀ p ∈ X.pn ++ pins, p.1 ≠ a) (z : Zc cls d oe) (f : oe.data = .fields vs) :
    Inv X pins σ (upd H a (ExT a cls d)) s := by
  obtain ⟨ga, na, nl, nf, nc⟩ := I.pin (a, oe) (List.mem_append_right _ List.mem_cons_self)
  have far : ∀ {b : Addr} {u : HO}, H b = some u → b ≠ a := fun {b u} e z => by rw [z, na] at e; cases e
  refine { ok := I.ok, os := I.os, bare := I.bare, loc := I.loc, cell := I.cell, len := I.len, base := ?_, free := ?_, freeC := ?_, pin := ?_, hok := ?_ }
  · exact { keep := I.base.keep, slot := I.base.slot, there := I.base.there,
            free := fun b o e n k => by
              rw [upd_ne (fun z => by rw [z, n0] at e; cases e)]
              exact I.base.free b o e n k
            tups := fun b xs e => by
              have q := I.base.tups b xs e
              rw [upd_ne (far q)]
              exact q
            frzs := fun b o u e => by
              have q := I.base.frzs b o u e
              rw [upd_ne (far q)]
              exact q
            tbls := fun b ps e => by
              obtain ⟨m, q⟩ := I.base.tbls b ps e
              exact ⟨m, by rw [upd_ne (far q)]; exact q⟩ }
  · rw [upd_ne (Ne.symm nl)]
    exact I.free
  · intro x c e
    rw [upd_ne (fun z => by
      obtain ⟨v, o, go, eo⟩ := I.cell x c e
      rw [z, ga] at go
      cases go
      exact nc _ eo)]
    exact I.freeC x c e
  · intro p hp
    obtain ⟨e1, e2, e3⟩ := I.pin p (by
      rcases List.mem_append.mp hp with h | h
      · exact List.mem_append_left _ h
      · exact List.mem_append_right _ (List.mem_cons_of_mem _ h))
    exact ⟨e1, by rw [upd_ne (np p hp)]; exact e2, e3⟩
  · intro b u e
    by_cases hb : b = a
    · subst hb
      rw [upd_same] at e
      cases e
      exact exT_ok ga z f
    · rw [upd_ne hb] at e
      exact (I.hok b u e).stay (fun _ _ _ q => q) (fun c q => by rw [upd_ne (far q)]; exact q) fun c xs q => by rw [upd_ne (far q)]; exact q
end
/-- what «except x as n» wishes, where what was caught is looked at behind the suite: all that is raised is of x, and the suite runs to its end -/
def wGot (K : PySem.W.Frag) (c : Value) (i : Nat) (ts : Addr → Value → Option Addr → TS) (D : Ends) : WX := fun cls d σ H =>
  PySem.W.exmOne K cls c = some true ∧ ∀ a, H a = none → ts a cls d { nx := fun σ' H' => D.nx (σ'.set i none) (upd H' a (ExT a cls d)), rt := fun _ _ => False, bk := fun _ _ => False, ct := fun _ _ => False } (σ.set i (some (.ref a))) H
section
variable {X : Cx} {x n : Str} {c : Value} {i : Nat} {body suite : List Stmt} {b0 : Stmt} {np pos pos' : Pos} {tb : WX → TS} {ts : Addr → Value → Option Addr → TS}
theorem ps_try_got (top : X.stack = X.env :: X.outer) (fr : X.env.frame = some X.env.locals) (hex : X.ex = []) (nd : X.N.Nodup) (hi : X.N[i]? = some n) (loc : X.env.kindOf n = some .local) (hc : Names X x c)
    (runs : ∀ (W : WX) (pn : List (Addr × Obj)) (xe : Value → Shared → Prop), Takes (X.tr pn xe) W → PassesOwn (model X.prog X.w) X.A X.env xe → PSs (X.tr pn xe) body (tb W))
    (hsu : ∀ (a : Addr) (oe : Obj) (cls : Value) (d : Option Addr) (pn : List (Addr × Obj)), Zc cls d oe → (∃ vs, oe.data = .fields vs) → PSs (X.suite a ((a, oe) :: pn)) (b0 :: suite) (ts a cls d)) :
    PS X (.Try body [.ExceptHandler (some (.Name x np)) (some n) (b0 :: suite) pos'] [] [] pos) (fun D σ H => tb (wGot X.K c i ts D) D σ H) where
  run := by
    intro pins s σ H D I h
    have ok := I.ok
    have frames : X.A.frames = some (X.env :: X.outer) := by rw [ok.frames, top]
    refine wpAny_Try_except (wpAny_mono ((runs (wGot X.K c i ts D) (X.pn ++ pins) (fun e s₁ => wpAny (model X.prog X.w) X.A (noteFrame e X.env) (fun _ s₂ => wpAny (model X.prog X.w) X.A (setFlight e none) (fun _ s₃ =>
      wpAny (model X.prog X.w) X.A (handleBy e X.env [.ExceptHandler (some (.Name x np)) (some n) (b0 :: suite) pos']) (SP X pins D) X.xe s₃) X.xe s₂) X.xe s₁) ?_ PassesOwn.looking).run [] s σ H D (I.toTry _) h) ?_ (fun e s1 he => he))
    · rintro _ s' ⟨a, B, sI, pins', σ', H', cls, d, rfl, J0, nb, up, sky, na, os, ag, is, go⟩
      have J : Inv X pins σ' H' sI := J0.ofTry ok
      show wpAny (model X.prog X.w) X.A (noteFrame (Value.ref a) X.env) _ _ _
      refine Sky.land Zc.steady frames fr (top ▸ sky) fun h3 fl3 up3 => ?_
      have J3 : Inv X pins σ' H' { s' with heap := h3 } := Inv.landed J nb fl3.1 (up.trans up3) os ag
      obtain ⟨oe3, vs3, g3, z3, d3⟩ := fl3.there
      have gone : B.get? a = none := fl3.2.1
      have out : a ∉ frs (X.env :: X.outer) := fun m => by
        obtain ⟨_, o, e, no⟩ := fl3.2.2.1.mem m
        rw [g3] at e
        cases e
        exact no _ d3
      have nL : a ≠ X.env.locals := fun z => out (List.mem_filterMap.mpr ⟨X.env, List.mem_cons_self, by rw [fr, z]⟩)
      have nF : a ∉ X.fs := fun m => by
        obtain ⟨e, he, q⟩ := List.mem_filterMap.mp m
        exact out (List.mem_filterMap.mpr ⟨e, List.mem_cons_of_mem _ he, q⟩)
      have fresh : ∀ b o, sI.heap.get? b = some o → b ∉ frs X.stack → b ≠ a := fun b o e m z => by
        have q := nb b o e m
        rw [z, gone] at q
        cases q
      have n0 : X.s_0.heap.get? a = Option.none := by
        cases e : Heap.get? X.s_0.heap a with
        | none => rfl
        | some o =>
          obtain ⟨o', e'⟩ := J.base.there a o e (by rw [hex]; exact fun z => nomatch z)
          exact absurd rfl (fresh a o' e' (by rw [top]; exact out))
      have npin : ∀ p ∈ X.pn ++ pins, p.1 ≠ a := fun p hp => by
        obtain ⟨e1, _, e3, e4, _⟩ := J.pin p hp
        refine fresh p.1 p.2 e1 (fun m => ?_)
        rw [top] at m
        obtain ⟨e, he, q⟩ := List.mem_filterMap.mp m
        rcases List.mem_cons.mp he with rfl | he
        · rw [fr] at q
          exact e3 (Option.some.inj q).symm
        · exact e4 (List.mem_filterMap.mpr ⟨e, he, q⟩)
      have S3 := J3.suite g3 d3 na nL nF
      refine wpAny_handleBy_cons (codeAny_handlers_test ?_) (fun z => by cases z)
      have isCls : PySem.W.Looks (model X.prog X.w) h3 (typeOf (.ref a)) cls := fun A Q E s k q => wpAny_typeOf_ref (k _ _ g3) (by rw [z3.1]; exact q)
      have matches_ := PySem.W.exm_one (M := model X.prog X.w) J3.kIn isCls is
      have named : ∀ {Q : Value → Shared → Prop} {E : Value → Shared → Prop}, Q c { s' with heap := h3 } → wpAny (model X.prog X.w) (X.A.mark (some (.ref a))) (eval (.Name x np) X.env) Q E { s' with heap := h3 } := fun {Q E} q => by
        rcases hc with ⟨gl, nb2, own | ⟨no, blt, nn⟩⟩
        · exact ld_glob (X := X.suite a ((a, oe3) :: (X.pn ++ pins))) S3 gl own q nb2
        · exact ld_blt (X := X.suite a ((a, oe3) :: (X.pn ++ pins))) S3 gl no blt q nn nb2
      refine named (matches_.here (codeAny_handlers_suite_as (HandSPX.lands_againZ fl3 fun h4 fl4 up4 => ?_)))
      have J4 : Inv X pins σ' H' { s' with heap := h4 } := Inv.landed J nb fl4.1 ((up.trans up3).trans up4) os ag
      obtain ⟨oe4, vs4, g4, z4, d4⟩ := fl4.there
      refine store_ok (X := X.suite a ((a, oe4) :: (X.pn ++ pins))) (v := .ref a) (J4.suite g4 d4 na nL nF) nd hi (.inl loc) rfl (fun s5 S5 => ?_) (.inr loc)
      refine wpAny_mono ((hsu a oe4 cls d (X.pn ++ pins) z4 ⟨_, d4⟩).run [] s5 _ H' _ S5 (go a na)) (fun f s6 ends => ?_) (fun _ _ z => False.elim z)
      cases f with
      | next =>
        obtain ⟨σ6, H6, S6, q6⟩ := ends
        have K6 : Inv X ((a, oe4) :: pins) σ6 H6 s6 := { ok := ok, os := S6.os, bare := S6.bare, base := S6.base, loc := S6.loc, cell := S6.cell, free := S6.free, freeC := S6.freeC, hok := S6.hok, len := S6.len, pin := fun p hp => S6.pin p (by
          rw [List.append_nil]
          rcases List.mem_append.mp hp with h | h
          · exact List.mem_cons_of_mem _ (List.mem_append_left _ h)
          · rcases List.mem_cons.mp h with rfl | h
            · exact List.mem_cons_self
            · exact List.mem_cons_of_mem _ (List.mem_append_right _ h)) }
        exact gone_ok K6 nd hi loc fun s7 K7 => ⟨_, _, track K7 hex n0 npin z4 d4, q6⟩
      | brk => exact ends.elim fun _ e => e.elim fun _ e => e.2.elim
      | cont => exact ends.elim fun _ e => e.elim fun _ e => e.2.elim
      | ret u => exact ends.elim fun _ e => e.elim fun _ e => e.elim fun _ e => e.2.2.elim
    · intro f s1 ends
      cases f with
      | next => exact ends.elim fun σ' e => e.elim fun H' e => wpAny_execs_nil ⟨σ', H', e.1.ofTry ok, e.2⟩
      | brk => exact ends.elim fun σ' e => e.elim fun H' e => ⟨σ', H', e.1.ofTry ok, e.2⟩
      | cont => exact ends.elim fun σ' e => e.elim fun H' e => ⟨σ', H', e.1.ofTry ok, e.2⟩
      | ret u => exact ends.elim fun v e => e.elim fun σ' e => e.elim fun H' e => ⟨v, σ', H', e.1.ofTry ok, e.2⟩
end
/-! ### what is asked of a kept error -/
/-- isinstance(e, c) -/
def rIsT (K : PySem.W.Frag) : List V → Hp → VK → Prop := fun xs H Q => ∃ (a D : Addr) (d : Option Addr) (c : V) (cv : Value) (b : Bool), xs = [.ref a, c] ∧ H a = some (ExT a (.ref D) d) ∧ (∀ dx, d = some dx → ∃ fs, H dx = some (.xd fs)) ∧ ExcC K D ∧ ClsV c cv ∧ PySem.W.kitOne K (.ref D) cv = some b ∧ Q (.bl b) H
theorem instT {P : Program} {w : World} {H : Hp} {h : Heap} {a D : Addr} {d : Option Addr} (ok : HOk P w H h) (e : H a = some (ExT a (.ref D) d)) (xd : ∀ dx, d = some dx → ∃ fs, H dx = some (.xd fs)) : ∃ oe od, PySem.W.InstAt h a oe D od := by
  obtain ⟨oe, vs, g, ⟨z1, z2⟩, f⟩ := exT_at ok e
  cases d with
  | none => exact ⟨oe, none, g, z1, by unfold PySem.W.notCls; rw [f], by rw [z2]; trivial⟩
  | some dx =>
    obtain ⟨fs, ed⟩ := xd dx rfl
    have at_ : ObjOk P w H h dx (.xd fs) := ok dx _ ed
    obtain ⟨m, ns, _⟩ := at_
    obtain ⟨od, ho, _⟩ := lookIn_ns ns
    exact ⟨oe, some od, g, z1, by unfold PySem.W.notCls; rw [f], by rw [z2]; exact ho⟩
theorem call_isT {X : Cx} : CallR X (.builtin "isinstance") (rIsT X.K) := by
  rintro pins s σ H _ us Q I rel ⟨a, D, d, c, cv, b, rfl, e, xd, C, cls, ans, want⟩
  obtain ⟨u1, u2, rfl, r1, r2⟩ := vals2 rel
  cases r1
  obtain rfl := cls.eq r2
  obtain ⟨oe, od, J⟩ := instT I.hok e xd
  have some_ : (PySem.W.clsIn X.K D).isSome = true := by
    obtain ⟨cd, hc, _⟩ := PySem.W.any_some C.hd
    rw [hc]
    rfl
  exact PySem.W.kia_one (PySem.W.kitx_exc some_ C.hg C.hk C.hs C.ha C.hn C.ht C.hm) I.kIn J ans (fun z => nomatch z) fun tk => ⟨.bl b, H, I.tok tk, rfl, want⟩
/-- e.n -/
def tXt (K : PySem.W.Frag) (n : Str) (te : TE) : TE := fun σ H Q => te σ H fun x H1 => ∃ (a C dd : Addr) (fs : List (Str × V)) (v : V), x = .ref a ∧ H1 a = some (ExT a (.ref C) (some dd)) ∧ XfC K C ∧ PySem.W.findIn K (.ref C) n = some none ∧ H1 dd = some (.xd fs) ∧ fs.lookup n = some v ∧ Q v H1
theorem pe_xt {X : Cx} {e : Expr} {te : TE} {pos : Pos} {n : Str} (he : PE X e te) (plain : attributeBase e n X.env (eval e X.env) = eval e X.env := by rfl) : PE X (.Attribute e n pos) (tXt X.K n te) where
  run := by
    intro pins s σ H Q I h
    refine attr_of plain (thn (he.run pins s σ H _ I h) ?_)
    rintro _ s1 ⟨_, H1, I1, rel, a, C, dd, fs, v, rfl, e1, T, no, e2, has, want⟩
    cases rel
    obtain ⟨oe, vs, g, ⟨z1, z2⟩, f⟩ := exT_at I1.hok e1
    have at_ : ObjOk X.prog X.w H1 s1.heap dd (.xd fs) := I1.hok dd _ e2
    obtain ⟨m, ns, rels⟩ := at_
    obtain ⟨od, ho, hl⟩ := lookIn_ns ns
    obtain ⟨u, hu, ru⟩ := RelO.some_of (v := v) (o := m n) (has ▸ rels n)
    have J : PySem.W.InstAt s1.heap a oe C (some od) := ⟨g, z1, by unfold PySem.W.notCls; rw [f], by rw [z2]; exact ho⟩
    exact HandSPX.exc_get I1.kIn J T.ga T.gg T.exC (PySem.W.findObj_own T.hdC no rfl (by rw [hl, hu])) (handed_of ru) ⟨v, H1, I1.tok _, ru, want⟩
/-- X(), an own error without an __init__ of its own -/
theorem pmk_own0 {X : Cx} {C : Addr} {bmB : List Value} {B newId initId : String} {x : Str} {p pos : Pos} (F : ExcBaseFacts B newId initId bmB) (q : PySem.W.excIn X.K C bmB newId = true) (is : X.mg x = some (.ref C)) (kp : PySem.W.keepIn X.K (.ref C) = true) (r : Raises X (.ref C)) (glob : Gl X x)
    (nodebug : (x == ("__debug__" : Str)) = false := by decide) : PMk X (.Call (.Name x p) [] [] pos) (fun _ H Q => Q (.ref C) none H) := by
  intro pins s σ H Q I want
  refine wpAny_Call_Name_kw (ld_glob I glob is ?_ nodebug)
  refine PySem.W.callWith_KW0 (kws := []) (h₀ := X.base) I.ok.mod.kin kp rfl (wpAny_pure ⟨I.kIn, ?_⟩) rfl
  obtain ⟨bm, N, nm, qn, bs, hdct, sn, sub, ab, col, dd, k0, k1, k2, k3, k5, mN, hC, hN, hni, T⟩ := exc_obj I.kIn q
  exact wpAny_call_exc_subT F T hC hN hni (fun h' e made => mk_of I made r want (I.hok.gone made.new)) (Nat.zero_le _)
/-! ### how often a flat value stands in a list -/
def rCnt (K : PySem.W.Frag) : V → List V → Hp → VK → Prop := fun x xs H Q => ∃ p ys y, x = .ref p ∧ xs = [y] ∧ SqL K H p ys ∧ flatV y = true ∧ ys.all flatV = true ∧ Q (.int (ys.countP (fun z => eqV z y) : Nat)) H
theorem count_eqU {y : V} : ∀ {ys : List V} {us : List Value}, Vals ys us → ys.all flatV = true → us.countP (eqU y) = ys.countP fun z => eqV z y
  | _, _, .nil, _ => rfl
  | z :: ys, u :: us, .cons r t, f => by
    simp only [List.all_cons, Bool.and_eq_true] at f
    simp only [List.countP_cons, eqU_of r f.1, count_eqU t f.2]
theorem mt_cnt {X : Cx} : MtR X "list.count" (rCnt X.K) := by
  rintro pins s σ H _ _ v us Q I rx rxs ⟨p, ys, y, rfl, rfl, hs, fy, fys, want⟩
  cases rx
  obtain ⟨u, rfl, ru⟩ := rxs.one
  obtain ⟨its, vals, ⟨⟨cls, dd, data, sl⟩, n, ho, hc, hdn, hd⟩, small⟩ := I.list hs
  dsimp only at hc hd
  subst hc hd
  refine call_meets PySem.F.slot_list_count ⟨_, ho, rfl⟩ PySem.F.entry_list_count (PySem.F.args_list_count_2 _ _) (SeqAt.list_countAt p its.toArray n dd sl u (eqU y)) ⟨ho, fun z hz => mem_eqAt ru fy vals fys z (by simpa using hz), ?_⟩
  refine ⟨.int (ys.countP (fun z => eqV z y) : Nat), H, I.tok _, ⟨s.toks, ?_⟩, want⟩
  rw [← count_eqU vals fys]
/-! ### repr of data -/
inductive Seen (K : PySem.W.Frag) (H : Hp) : V → PyData → Prop
  | dp {x : V} {d : PyData} (h : Dp K H x d) (nd : d.hasDict = false) : Seen K H x d
  | nod {a : Addr} (h : H a = some (.dK [])) : Seen K H (.ref a) (.dict [])
def rRepr (K : PySem.W.Frag) : List V → Hp → VK → Prop := fun xs H Q => ∃ x d, xs = [x] ∧ Seen K H x d ∧ PyData.showable d = true ∧ d.depth ≤ 8 ∧ d.shown.length ≤ sizeLine ∧ Q (.str d.shown) H
theorem reads_nod {P : Program} {w : World} {H : Hp} {h : Heap} {a : Addr} (ok : HOk P w H h) (e : H a = some (.dK [])) : Reads h (.ref a) (.dict []) [a] ∧ sysModules ∉ [a] := by
  have at_ : ObjOk P w H h a (.dK []) := ok a _ e
  obtain ⟨_, ns, vs, kv, o, es, ep, g, ex, d, _, el, _⟩ := at_
  cases kv
  have z : es.toList = [] := List.eq_nil_of_length_eq_zero el.length
  have r0 : ReadsAll h (es.toList.map (·.key)) (([] : List (PyData × PyData)).map (·.1)) [] := by rw [z]; exact .nil
  have r1 : ReadsAll h (es.toList.map (·.val)) (([] : List (PyData × PyData)).map (·.2)) [] := by rw [z]; exact .nil
  exact ⟨.dict g ex.1 d r0 r1, fun m => by rw [List.mem_singleton.mp m] at ns; simp at ns⟩
theorem call_reprD {X : Cx} (gs : X.A.guards = some []) (hu : X.A.units + 64 < cLine) : CallR X (.builtin "repr") (rRepr X.K) := by
  rintro pins s σ H _ us Q I rel ⟨x, d, rfl, seen, sh, dep, len, want⟩
  cases rel with
  | cons ru rn =>
    cases rn
    rename_i u
    have boxed : ∀ (a : Addr) (as : List Addr), Reads s.heap (.ref a) d as → (d.hasDict = true → sysModules ∉ as) → wpAny (model X.prog X.w) X.A (call (.builtin "repr") [.ref a]) (EP X pins σ Q) X.xe s := fun a as r sm =>
      repr_of_reads' r sh sm gs (by omega) (fun _ _ e => e) (fun h' _ tk same => ⟨.str d.shown, H, I.kept (t' := tk) same, ⟨_, rfl⟩, want⟩) len
    cases seen with
    | nod h =>
      cases ru
      obtain ⟨r, n⟩ := reads_nod I.hok h
      exact boxed _ _ r fun _ => n
    | dp h nd =>
      obtain ⟨as, r⟩ := Dp.reads I d _ u h ru
      have no : d.hasDict = true → sysModules ∉ as := fun z => by rw [nd] at z; cases z
      have fin : ∀ {z : Str} {t k : Tok}, z = d.shown → EP X pins σ Q (.str z t) { s with toks := k } := fun {z t k} e => ⟨.str z, H, I.tok k, ⟨_, rfl⟩, e ▸ want⟩
      cases h with
      | non => cases ru; exact PySem.P.repr_of_none (fin (by simp [PyData.shown]))
      | bl b => cases ru; exact PySem.P.repr_of_bool (fin (by simp [PyData.shown]))
      | int i =>
        obtain ⟨t, rfl⟩ := ru
        exact PySem.P.repr_of_int (by simpa [PyData.showable] using sh) (fin (by simp [PyData.shown]))
      | str z =>
        obtain ⟨t, rfl⟩ := ru
        exact PySem.P.repr_of_str (fin (by simp [PyData.shown])) (by simpa [PyData.shown] using len)
      | lst _ _ => cases ru; exact boxed _ _ r no
      | tup _ _ => cases ru; exact boxed _ _ r no
end Wd

set_option Elab.async false
set_option linter.all false
set_option maxRecDepth 100000
set_option maxHeartbeats 4000000
namespace Wd
open PySem PySem.Spec PyProof.Rows L2 WdM
/-! ### defs whose promise wants that no repr is under way around the call -/
structure FnG (P : Program) (w : World) (K : PySem.W.Frag) (mg : Str → Option Value) (base : Heap) (k : Nat) (f : Addr) (fd : FuncData) (ps : List Str) (sp : Sp) : Prop where
  len : ∀ vs H Q E, sp vs H Q E → vs.length = ps.length
  run : ∀ (A : Around) (outer : List Env) (s : Shared) (H : Hp) (args : Args) (us : List Value) (vs : List V) (Q : VK) (E : XK), A.guards = some [] → Room k A → Env0 P w K mg base A outer s H → BindsTo s fd args (ps.zip us) → Vals vs us → sp vs H Q E →
    codeAny (model P w) A (.call (.ref f) args) (CR CX0 outer P w H s Q E) s
section
variable {P : Program} {w : World} {K : PySem.W.Frag} {mg : Str → Option Value} {base : Heap}
theorem okG {x qual : Str} {st : Stmt} {f : Addr} {fd : FuncData} {N ps : List Str} {k : Nat} {sp : Sp} (F : Fun K x qual st f fd) (S : FnScope N ps (defScope st)) (len : ∀ vs H Q E, sp vs H Q E → vs.length = ps.length)
    (body : ∀ (cdv : Value) (A : Around) (outer : List Env) (s : Shared) (H : Hp) (vs : List V) (Q : VK) (E : XK), A.guards = some [] → Room k (A.deeper (envOfC qual (defScope st) s.heap.objs.size f cdv)) → sp vs H Q E →
      ∃ t, PSs (cxOf CX0 P w K mg base N qual (defScope st) f cdv A outer s H E).nox (defBody st) t ∧ t { nx := fun _ H' => Q .non H', rt := Q } (start N vs) H) : FnG P w K mg base (k + 1) f fd ps sp where
  len := len
  run := by
    intro A outer s H args us vs Q E gs room e0 binds rel want
    obtain ⟨oc, od, kV, doc, pm, an, cdv, ct, osl, rfl, at_, code⟩ := F.ex
    have kin : K.In s.heap := e0.mod.kin.keeps fun b o e => (e0.bs b o e).1
    have kinds : ∀ y ∈ ps.zip us, (defScope st).names.lookup y.1 = some .local ∨ ((defScope st).names.lookup y.1 = some .cell ∧ ((cellsFrom (s.heap.objs.size + 1) (defScope st).names []).lookup y.1).isSome = true) := by
      rintro ⟨n, v⟩ hy
      exact (S.par n (List.of_mem_zip hy).1).imp id fun q => ⟨q, PySem.W.cellsFrom_some _ _ _ (.inl q)⟩
    refine codeAny_call_function room.depth (kin _ _ at_) rfl S.co S.gen rfl (PySem.W.codeRec_of kin code) (binds _ _ _ _ (wpAny_newFunctionEnv_cells S.kind kinds ?_))
    rintro env rfl s1 inside
    refine ⟨(e0.mod.nolimit.keeps fun b o e => (e0.bs b o e).1).keeps inside.toInCall.keep, codeAny_func ?_⟩
    obtain ⟨t, ht, good⟩ := body cdv A outer s H vs Q E gs (room.deeper _) want
    refine wpAny_mono (ht.nox.run [] s1 (start N vs) H _ (inv_start S room.hd e0 (len _ _ _ _ want) rel inside) good) (fun fl s' ends => ?_) fun _ _ z => z
    cases fl with
    | ret u => exact ends.elim fun v e => e.elim fun σ' e => e.elim fun H' ⟨J, rv, q⟩ => ⟨v, H', J.os, J.bare, J.base, J.hok, rv, q⟩
    | next => exact ends.elim fun σ' e => e.elim fun H' ⟨J, q⟩ => ⟨.non, H', J.os, J.bare, J.base, J.hok, rfl, q⟩
    | brk => exact ends.elim fun _ e => e.elim fun _ e => e.2.elim
    | cont => exact ends.elim fun _ e => e.elim fun _ e => e.2.elim
end
section
variable {X : Cx} {k : Nat} {f : Addr} {fd : FuncData} {ps : List Str} {sp : Sp} {x : Str} {p pos : Pos} {e : Expr} {es : List Expr} {t : TA}
theorem pe_callG (F : FnG X.prog X.w X.K X.mg X.base k f fd ps sp) (gs : X.A.guards = some []) (room : Room k X.A) (glob : Gl X x) (is : X.mg x = some (.ref f)) (kp : PySem.W.keepIn X.K (.ref f) = true) (bd : Binds X.K fd ps []) (args : PA X (e :: es) t)
    (nodebug : (x == ("__debug__" : Str)) = false := by decide) (star : starEach (e :: es) X.env = (false, eval e X.env) :: starEach es X.env := by rfl) (plain : (backTo pos (starEach es X.env)).any (·.1) = false := by rfl) :
    PE X (.Call (.Name x p) (e :: es) [] pos) (tCall sp [] E0 t) where
  run := by
    intro pins s σ H Q I h
    refine wpAny_Call_Name_kw (ld_glob I glob is (PySem.W.callWith_K (h₀ := X.base) I.ok.mod.kin kp (thn (args.run pos pins s σ H _ I h) ?_) star plain) nodebug)
    rintro us s1 ⟨vs, H1, I1, rel, want⟩
    have rel2 : Vals (vs ++ []) (us ++ []) := rel.append .nil
    refine ⟨I1.kIn, wpAny_call (codeAny_mono (F.run X.A X.stack s1 H1 ⟨us, []⟩ (us ++ []) (vs ++ []) Q E0 gs room I1.env0 (bd s1 us I1.kIn (by rw [← rel2.length]; exact F.len _ _ _ _ want)) rel2 want) fun r s' res => ?_)⟩
    cases r with
    | error er => exact False.elim res
    | ok fl =>
      cases fl with
      | ret u => exact I1.after res
      | next => exact False.elim res
      | brk => exact False.elim res
      | cont => exact False.elim res
end
/-! ### the law's own call -/
theorem law_callG {P : Program} {w : World} {K : PySem.W.Frag} {mg mb : Str → Option Value} {k : Nat} {fa a : Addr} {fd : FuncData} {x : Str} {sp : Sp} {s1 : Shared} {vs : List Value} {ns : List Int}
    (kin : K.In s1.heap) (globs : s1.heap.Ns mainGlobals mg) (blts : s1.heap.Ns builtinsNs mb) (boot : ∀ x : Str, x ≠ "__name__" → mb x = bootBuiltins x) (lim : s1.heap.NoLimit) (nogens : s1.gens = #[])
    (at_ : s1.heap.get? a = some { cls := .type "list", data := .seq vs.toArray }) (its : IntsAre vs ns) (small : ns.length ≤ sizeLine) (room : Room k callerA)
    (F : ∀ base : Heap, K.In base → base.Ns mainGlobals mg → FnG P w K mg base k fa fd [x] sp) (binds : ∀ (s : Shared) (u : Value), BindsTo s fd ⟨[u], []⟩ [(x, u)])
    (good : ∀ H : Hp, SqL K H a (ns.map V.int) → sp [.ref a] H (fun v _ => v = .bl true) fun _ _ _ => False) :
    codeAny (model P w) callerA (.call (.ref fa) ⟨[.ref a], []⟩) (fun r s' => r = .ok (.ret (.bool true)) ∧ OldK s1.heap s'.heap ∧ s'.os = s1.os ∧ AllBare s'.gens) s1 := by
  have go : ∀ H : Hp, (∀ b, H b = none ∨ (b = a ∧ K.lookup a = none ∧ ∃ o u, H b = some (.frz o u))) → SqL K H a (ns.map V.int) → HOk P w H s1.heap →
      codeAny (model P w) callerA (.call (.ref fa) ⟨[.ref a], []⟩) (fun r s' => r = .ok (.ret (.bool true)) ∧ OldK s1.heap s'.heap ∧ s'.os = s1.os ∧ AllBare s'.gens) s1 := by
    intro H only hS hok
    have free : ∀ b o, K.lookup b = some o → H b = none := fun b o e => by
      rcases only b with z | ⟨rfl, z, _⟩
      · exact z
      · rw [z] at e; cases e
    have dicts : ∀ {b : Addr} {m : Str → Option Value}, s1.heap.Ns b m → (hidT s1.heap H).Ns b m := by
      rintro b m ⟨o, es, ep, g, d, r⟩
      refine ⟨o, es, ep, hidT_get g ?_, d, r⟩
      rcases only b with z | ⟨rfl, _, _⟩
      · exact z
      · rw [at_] at g
        cases g
        exact absurd (show Data.seq vs.toArray _ = Data.dict es ep from d) (fun z => by cases z)
    have kb : K.In (hidT s1.heap H) := fun b o e => hidT_get (kin b o e) (free b o e)
    obtain ⟨mc, l1, l2⟩ := lim
    have md : Mod K mg (hidT s1.heap H) := ⟨kb, dicts globs, ⟨mb, dicts blts, boot⟩, mc, dicts l1, l2⟩
    have e0 : Env0 P w K mg (hidT s1.heap H) callerA [] s1 H := ⟨rfl, md, fun b o e => of_hidT e, Nat.le_of_eq (hidT_size _ _), trivial, fun b hb => (by cases hb), hok, .of_eq nogens⟩
    refine codeAny_mono ((F _ kb (dicts globs)).run callerA [] s1 H ⟨[.ref a], []⟩ [.ref a] [.ref a] _ _ rfl room e0 (binds s1 (.ref a)) (.cons rfl .nil) (good H hS)) fun r s' res => ?_
    cases r with
    | error er => exact False.elim res
    | ok fl =>
      cases fl with
      | next => exact False.elim res
      | brk => exact False.elim res
      | cont => exact False.elim res
      | ret u =>
        obtain ⟨v, H', os, bare, un, hok', rv, rfl⟩ := res
        obtain rfl : u = Value.bool true := rv
        refine ⟨rfl, .of_keep fun b o e => ?_, os, bare⟩
        rcases only b with z | ⟨rfl, _, ob, u, z⟩
        · exact un.keep b o e z (fun m => by cases m) (fun m => by cases m)
        · have was := (hok _ _ z).1
          rw [e] at was
          cases was
          exact (hok' _ _ (un.frzs _ _ _ z)).1
  cases own : K.lookup a with
  | some o =>
    have e := kin a o own
    rw [at_] at e
    cases e
    exact go (fun _ => none) (fun _ => .inl rfl) (.inr ⟨_, vs.toArray, _, own, rfl, rfl, rfl, by rw [List.size_toArray, its.length]; exact small, by simpa using vals_ints its⟩) fun b u z => by cases z
  | none =>
    refine go (fun b => if b = a then some (.frz { cls := .type "list", data := .seq vs.toArray } (.lst (ns.map V.int))) else none) (fun b => ?_) (.inl (.inr ⟨_, if_pos rfl⟩)) (fun b u z => ?_)
    · by_cases hb : b = a
      · exact .inr ⟨hb, own, _, _, if_pos hb⟩
      · exact .inl (if_neg hb)
    · by_cases hb : b = a
      · subst hb
        cases (if_pos rfl).symm.trans z
        exact ⟨at_, by rw [List.length_map]; exact small, vs, _, vals_ints its, at_⟩
      · cases (if_neg hb).symm.trans z
theorem walk_G {l : PySem.W.OpenLaw} {n k : Nat} {q : Program} {loose : List Str} {XP : (Str → Option Value) → Heap → Prop} {YP : World → Heap → Prop} {d : DefRec} {K : Params → PySem.W.Frag} {sp : World → Sp} {x : Str}
    (most : l.most = some n) (small : n ≤ sizeLine) (plain : d.params.defaults = []) (room : Room k callerA) (hY : ∀ (w : World) (h : Heap), YP w h → (K w.params).In h)
    (F : ∀ (w : World) (mg : Str → Option Value) (fa : Addr) (h : Heap), (K w.params).In h → h.Ns mainGlobals mg → mg d.name = some (.ref fa) → ∃ fd : FuncData, (∀ (s : Shared) (u : Value), BindsTo s fd ⟨[u], []⟩ [(x, u)]) ∧ ∀ base : Heap, (K w.params).In base → base.Ns mainGlobals mg → FnG l.prog w (K w.params) mg base k fa fd [x] (sp w))
    (good : ∀ (w : World) (H : Hp) (a : Addr) (ns : List Int), ns.length ≤ n → SqL (K w.params) H a (ns.map V.int) → sp w [.ref a] H (fun v _ => v = .bl true) fun _ _ _ => False) :
    PySem.W.WalkO q loose XP YP l.row.toRowW d [] (fun f vs => PySem.call f vs) := by
  refine Att.attach_call most plain fun w s0 s1 mg mb fa o pm cd doc a vs ns G Y _ _ _ is at_ its len gens => ?_
  obtain ⟨fd, binds, promise⟩ := F w mg fa _ (hY w _ Y) G.T.g is
  exact law_callG (hY w _ Y) G.T.g G.T.b G.T.builtins G.T.nolimit gens at_ its (Nat.le_trans len small) room promise binds fun H hS => good w H a ns len hS
end Wd

set_option Elab.async false
set_option linter.all false
set_option maxRecDepth 100000
set_option maxHeartbeats 4000000
namespace Wd
open PySem PySem.Spec PyProof.Rows L2 WdM
/-! ### C(e, ..) where __init__ may raise, what is raised wished for at the caller's slots -/
section
variable {X : Cx} {CX : CXT} {k : Nat} {f C : Addr} {fd : FuncData} {ps : List Str} {sp : Sp} {dvs : List V} {ds : List Value} {E : L2.St → XK} {x : Str} {p pos : Pos} {e : Expr} {es : List Expr} {t : TA}
def tMakeS (C : Addr) (sp : Sp) (dvs : List V) (E : L2.St → XK) (t : TA) : TE := fun σ H Q => t σ H fun vs G => ∀ o d, G o = none → G d = none → d ≠ o → sp (.ref o :: (vs ++ dvs)) (upd (upd G d (.own o)) o (.ins C d [])) (fun v G' => v = .non ∧ Q (.ref o) G') (E σ)
theorem run_makeS {pins : List (Addr × Obj)} {σ : L2.St} {H : Hp} {s : Shared} {Q : VK} {us : List Value} {vs : List V} (M : Mk X.K C f) (F : FnOk X.prog X.w X.K X.mg X.base CX k f fd ps sp) (room : Room (k + 1) X.A) (bd : Binds X.K fd ps ds) (rd : Vals dvs ds) (out : PassesAt CX X σ (E σ)) (I : Inv X pins σ H s) (rel : Vals vs us)
    (want : ∀ o d, H o = none → H d = none → d ≠ o → sp (.ref o :: (vs ++ dvs)) (upd (upd H d (.own o)) o (.ins C d [])) (fun v G' => v = .non ∧ Q (.ref o) G') (E σ)) :
    wpAny (model X.prog X.w) X.A (call (.ref C) us) (EP X pins σ Q) X.xe s := by
  have good := want (s.heap.objs.size + 1) s.heap.objs.size (I.hok.fresh (Nat.le_succ _)) (I.hok.fresh (Nat.le_refl _)) (Nat.ne_of_lt (Nat.lt_succ_self _))
  have J := Inv.made (C := C) I
  have full : Vals (V.ref (s.heap.objs.size + 1) :: (vs ++ dvs)) (Value.ref (s.heap.objs.size + 1) :: (us ++ ds)) := .cons rfl (rel.append rd)
  have many : (Value.ref (s.heap.objs.size + 1) :: us ++ ds).length = ps.length := full.length.symm.trans (F.len _ _ _ _ good)
  refine wpAny_call (make_map (f := f) I.kIn M.makes M.init (beq_iff_eq.mp M.fn) (codeAny_mono (F.run _ X.stack _ _ ⟨Value.ref (s.heap.objs.size + 1) :: us, []⟩ (Value.ref (s.heap.objs.size + 1) :: (us ++ ds)) _ _ (E σ) (room.make C us []) (J.env0.make C us []) (bd _ (Value.ref (s.heap.objs.size + 1) :: us) J.kIn many) full good) fun r s' res => ?_))
  cases r with
  | error er => exact out pins _ _ er s' J res
  | ok fl =>
    cases fl with
    | next => exact False.elim res
    | brk => exact False.elim res
    | cont => exact False.elim res
    | ret u =>
      obtain ⟨v, G, J3, rv, ev, q⟩ := J.after res
      subst ev
      exact ⟨rv, .ref (s.heap.objs.size + 1), G, J3, rfl, q⟩
theorem pe_makeS (M : Mk X.K C f) (F : FnOk X.prog X.w X.K X.mg X.base CX k f fd ps sp) (room : Room (k + 1) X.A) (glob : Gl X x) (is : X.mg x = some (.ref C)) (bd : Binds X.K fd ps ds) (rd : Vals dvs ds) (out : ∀ σ, PassesAt CX X σ (E σ)) (args : PA X (e :: es) t)
    (nodebug : (x == ("__debug__" : Str)) = false := by decide) (star : starEach (e :: es) X.env = (false, eval e X.env) :: starEach es X.env := by rfl) (plain : (backTo pos (starEach es X.env)).any (·.1) = false := by rfl) :
    PE X (.Call (.Name x p) (e :: es) [] pos) (tMakeS C sp dvs E t) where
  run := by
    intro pins s σ H Q I h
    refine wpAny_Call_Name_kw (ld_glob I glob is (PySem.W.callWith_K (h₀ := X.base) I.ok.mod.kin M.kp (thn (args.run pos pins s σ H _ I h) ?_) star plain) nodebug)
    rintro us s1 ⟨vs, H1, I1, rel, want⟩
    exact ⟨I1.kIn, run_makeS M F room bd rd (out σ) I1 rel want⟩
end
/-! ### what is never reached -/
theorem pe_no {X : Cx} {e : Expr} : PE X e (fun _ _ _ => False) := ⟨fun _ _ _ _ _ _ h => h.elim⟩
theorem pt_no {X : Cx} {e : Expr} : PT X e (fun _ _ _ => False) := ⟨fun _ _ _ _ _ _ h => h.elim⟩
theorem ps_no {X : Cx} {st : Stmt} : PS X st (fun _ _ _ => False) := ⟨fun _ _ _ _ _ _ h => h.elim⟩
theorem pss_no {X : Cx} {st : List Stmt} : PSs X st (fun _ _ _ => False) := ⟨fun _ _ _ _ _ _ h => h.elim⟩
/-! ### enumerate of a list or tuple -/
theorem enum_new {v : Value} {o : Obj} {G : Heap → Prop} (B : Begins v o G) :
    Meets (Builtin.«enumerate.__new__» ⟨[.type "enumerate", v], []⟩) (fun _ R s => G s.heap ∧ R (.ok (.ret (.ref (s.heap.push o).objs.size))) { s with heap := (s.heap.push o).push { cls := .type "enumerate", data := .fields #[.none, .bool false, .ref s.heap.objs.size, rawInt 0, .none, .none] } }) :=
  .of_wp fun prog w A R s h => by
    obtain ⟨hp, gs, ds, tk, os⟩ := s
    obtain ⟨g0, fin⟩ := h
    have sub := sub_enumerate
    have iter : ∀ {A' : Around} {E : Value → Shared → Prop} {Q : Value → Shared → Prop}, Q (.ref hp.objs.size) ⟨hp.push o, gs, ds, tk, os⟩ → wpAny (model prog w) A' (pyIter v) Q E ⟨hp, gs, ds, tk, os⟩ := fun q => B.iter prog w _ _ _ _ g0 q
    wp_walk using iter
    refine wpAny_stack_any fun st => wpAny_pure ?_
    split
    · rename_i c _ _ _ _ _
      cases c == Value.type "enumerate" <;> (wp_walk using iter) <;> exact ⟨_, rfl, fin⟩
    · wp_walk using iter
      exact ⟨_, rfl, fin⟩
theorem enum_made {prog : Program} {w : World} {A : Around} {E : Value → Shared → Prop} {s : Shared} {v : Value} {o : Obj} {G : Heap → Prop} {Q : Value → Shared → Prop} (B : Begins v o G) (g0 : G s.heap)
    (want : ∀ h1, IsEnum h1 (s.heap.objs.size + 1) s.heap.objs.size 0 .none → h1.get? s.heap.objs.size = some o → (∀ b o, s.heap.get? b = some o → h1.get? b = some o) → Q (.ref (s.heap.objs.size + 1)) { s with heap := h1 }) :
    wpAny (model prog w) A (call (.type "enumerate") [v]) Q E s := by
  refine callType_new F.called_enumerate (by decide) (F.typeCall_enumerate_1 _) (F.newCall_enumerate_1 _) (fun obj => F.args_object_init_2 obj _) F.entry_enumerate_new (enum_new B) ⟨g0, ?_⟩
  have size1 : (s.heap.push o).objs.size = s.heap.objs.size + 1 := Heap.size_push ..
  have made := Heap.get?_push_size (s.heap.push o) (o := { cls := .type "enumerate", data := .fields #[.none, .bool false, .ref s.heap.objs.size, rawInt 0, .none, .none] }) rfl
  show _ ∧ _
  rw [size1] at made ⊢
  exact ⟨⟨_, made, rfl⟩, want _ made (Heap.get?_push_of_some _ (Heap.get?_push_size _ B.free)) fun b o g => Heap.get?_push_of_some _ (Heap.get?_push_of_some _ g)⟩
def ItE (K : PySem.W.Frag) (k : Feed) (a : Addr) : It where
  go i H := ∃ xs x, k.sq K H a xs ∧ xs[i]? = some x
  yld i H v H' := ∃ T x, v = .ref T ∧ H T = none ∧ H' = upd H T (.tup [.int (i : Nat), x]) ∧ ∀ xs, k.sq K H a xs → xs[i]? = some x
  stop i H := ∃ xs, k.sq K H a xs ∧ xs.length = i
theorem walkE {K : PySem.W.Frag} {k : Feed} {a : Addr} {xs : List V} : Walk (ItE K k a) xs.length (fun H => k.sq K H a xs) (YPair (fun i => some (.int (i : Nat))) fun i => xs[i]?) where
  goes := fun i H hi g => ⟨xs, xs[i], g, List.getElem?_eq_getElem hi⟩
  stops := fun H g => ⟨xs, g, rfl⟩
  yields := fun i H v H' _ g ⟨T, x, e1, e2, e3, e4⟩ => ⟨T, .int (i : Nat), x, e1, e2, e3, rfl, e4 xs g⟩
theorem turnE {P : Program} {w : World} {K : PySem.W.Frag} {elts : List Expr} {kk : Nat} {tpos : Pos} {k : Feed} {a e it : Addr} (na : a ≠ it) (ea : e ≠ a) (ei : e ≠ it) :
    Turn P w K (.Tuple elts kk tpos) (ItE K k a) [e, it] e fun i h => (∃ old, IsEnum h e it ((i : Nat) : Int) old) ∧ k.at_ h it a i where
  mem := List.mem_cons_self
  obj := by
    rintro i h ⟨⟨old, ge⟩, gi⟩ c hc
    rcases List.mem_cons.mp hc with rfl | hc
    · exact ⟨_, ge, fun _ z => nomatch z⟩
    · rw [List.mem_singleton.mp hc]
      exact k.lives gi
  keep := by
    rintro i h h' ⟨⟨old, ge⟩, gi⟩ same
    exact ⟨⟨old, same _ (by simp) _ ge⟩, k.moved gi (same _ (by simp))⟩
  item := by
    rintro X rfl rfl rfl calm i pins s σ H E I free ⟨⟨old, ge⟩, gi⟩ ⟨xs, x, hxs, hx⟩
    obtain ⟨us, rel, st, _⟩ := k.known I hxs
    obtain ⟨u, hu, ru⟩ := rel.get hx
    have hA : X.A.in1.handled = none := I.ok.hd calm
    have el := Heap.lt_size ge
    have n1 : i < us.toArray.size := by
      rw [List.size_toArray]
      exact (List.getElem?_eq_some_iff.mp hu).1
    refine wpAny_pyNext_enum_itemD (k.draws hA na _) ge ⟨gi, st⟩ n1 ei (by simp [ei, ea]) ?_
    rintro u' h1 t1 eu out ⟨d1, _⟩ gT _ same
    obtain rfl : u = u' := Option.some.inj (hu.symm.trans (by simpa using eu))
    refine ⟨_, rfl, wpAny_letOwnedTupleGo_enum (s := { s with heap := h1, toks := t1 + 1 }) out fun h2 ge2 sb => ?_⟩
    have all : ∀ c o, c ∉ [e, it] → s.heap.get? c = some o → h2.get? c = some o := fun c o hc g => by
      simp only [List.mem_cons, List.not_mem_nil, or_false, not_or] at hc
      exact (sb.2 c hc.1).trans (same c o hc.1 hc.2 g)
    have pair : h2.get? s.heap.objs.size = some { cls := .type "tuple", data := .seq #[.int i t1, u] } := (sb.2 _ (Nat.ne_of_gt el)).trans gT
    have made : ObjOk X.prog X.w (upd H s.heap.objs.size (.tup [.int (i : Nat), x])) h2 s.heap.objs.size (.tup [.int (i : Nat), x]) := ⟨by show 2 ≤ sizeLine; decide, [.int i t1, u], .cons ⟨_, rfl⟩ (.cons ru .nil), _, pair, rfl, _, rfl⟩
    refine ⟨.ref s.heap.objs.size, _, I.turnedNew (t' := t1 + 1) all free (Nat.le_refl _) made, rfl, ?_, ?_, ?_⟩
    · exact ⟨_, x, rfl, I.hok.fresh (Nat.le_refl _), rfl, fun l g => k.one I g hxs ▸ hx⟩
    · refine ⟨⟨u, ?_⟩, k.moved d1 fun o g => (sb.2 _ ei.symm).trans g⟩
      rw [show ((i + 1 : Nat) : Int) = (i : Int) + 1 by omega]
      exact ge2
    · intro c hc
      have old : c < s.heap.objs.size := by
        rcases List.mem_cons.mp hc with rfl | hc
        · exact el
        · rw [List.mem_singleton.mp hc]
          obtain ⟨o1, e1, _⟩ := k.lives gi
          exact Heap.lt_size e1
      rw [upd_ne (Nat.ne_of_lt old)]
      exact (free c hc).1
  done := by
    rintro X rfl rfl rfl calm i pins s σ H E I free ⟨⟨old, ge⟩, gi⟩ ⟨xs, hxs, n⟩
    obtain ⟨us, rel, st, _⟩ := k.known I hxs
    have hA : X.A.in1.handled = none := I.ok.hd calm
    have z : us.toArray.size = i := by rw [List.size_toArray, ← rel.length, n]
    refine wpAny_pyNext_enum_endD (k.draws hA na us.toArray) ge ⟨z ▸ gi, st⟩ fun h1 same => ⟨rfl, I.turnedL (t' := s.toks) (fun c o hc g => ?_) free⟩
    simp only [List.mem_cons, List.not_mem_nil, or_false, not_or] at hc
    exact same c o hc.2 g
  self := fun _ _ _ _ _ g q => g.1.elim fun _ ge => wpAny_pyIter_enum ge q
def iE (K : PySem.W.Frag) (k : Feed) (ta : TA) : TI := fun σ H R => ta σ H fun vs H1 => ∃ a xs, vs = [.ref a] ∧ k.sq K H1 a xs ∧ R (ItE K k a) H1
theorem pi_E {X : Cx} {e : Expr} {ta : TA} {p pos tpos : Pos} {elts : List Expr} {kk : Nat} (k : Feed) (hg : Gl X "enumerate") (hm : X.mg "enumerate" = none) (ha : PA X [e] ta) (star : starEach [e] X.env = [(false, eval e X.env)] := by rfl) :
    PI X (.Tuple elts kk tpos) (.Call (.Name "enumerate" p) [e] [] pos) (iE X.K k ta) where
  run := by
    intro pins s σ H R I h
    refine Call_ (ld_blt I hg hm boot_enumerate (PyProof.Rows.callWith_type1 (thn (ha.run pos pins s σ H _ I h) ?_) star rfl))
    rintro us s1 ⟨vs, H1, I1, rel, a, xs, rfl, hxs, r⟩
    rw [Vals.ref1 rel]
    obtain ⟨its, _, st, la⟩ := k.known I1 hxs
    refine enum_made (k.begins a its.toArray) st fun h1 ge gi same => wpAny_pyIter_enum ge ?_
    have I2 : Inv X pins σ H1 { s1 with heap := h1 } := I1.kept (t' := s1.toks) same
    have na : a ≠ s1.heap.objs.size := Nat.ne_of_lt la
    have ea : s1.heap.objs.size + 1 ≠ a := fun z => absurd la (by rw [← z]; exact Nat.not_lt.mpr (Nat.le_succ _))
    refine ⟨s1.heap.objs.size + 1, [s1.heap.objs.size + 1, s1.heap.objs.size], _, _, H1, rfl, I2, turnE na ea (Nat.succ_ne_self _), ⟨⟨.none, ge⟩, k.first gi⟩, fun b hb => ?_, r⟩
    have le : s1.heap.objs.size ≤ b := by
      rcases List.mem_cons.mp hb with rfl | hb
      · exact Nat.le_succ _
      · exact Nat.le_of_eq (List.mem_singleton.mp hb).symm
    exact I1.fpOk le (I1.hok.fresh le)
end Wd

set_option Elab.async false
set_option linter.all false
set_option maxRecDepth 100000
set_option maxHeartbeats 4000000
namespace Wd
open PySem PySem.Spec PyProof.Rows L2 WdM
/-! ### readings may be weakened -/
theorem PE.wk {X : Cx} {e : Expr} {t t' : TE} (h : PE X e t) (w : ∀ σ H Q, t' σ H Q → t σ H Q) : PE X e t' := ⟨fun pins s σ H Q I hw => h.run pins s σ H Q I (w _ _ _ hw)⟩
theorem PA.wk {X : Cx} {es : List Expr} {t t' : TA} (h : PA X es t) (w : ∀ σ H Q, t' σ H Q → t σ H Q) : PA X es t' := ⟨fun pos pins s σ H Q I hw => h.run pos pins s σ H Q I (w _ _ _ hw)⟩
theorem PT.wk {X : Cx} {e : Expr} {t t' : TT} (h : PT X e t) (w : ∀ σ H Q, t' σ H Q → t σ H Q) : PT X e t' := ⟨fun pins s σ H Q I hw => h.run pins s σ H Q I (w _ _ _ hw)⟩
theorem PS.wk {X : Cx} {st : Stmt} {t t' : TS} (h : PS X st t) (w : ∀ D σ H, t' D σ H → t D σ H) : PS X st t' := ⟨fun pins s σ H D I hw => h.run pins s σ H D I (w _ _ _ hw)⟩
theorem PSs.wk {X : Cx} {st : List Stmt} {t t' : TS} (h : PSs X st t) (w : ∀ D σ H, t' D σ H → t D σ H) : PSs X st t' := ⟨fun pins s σ H D I hw => h.run pins s σ H D I (w _ _ _ hw)⟩
theorem tyes {σ : L2.St} {H : Hp} {f : Bool → Hp → Prop} (h : f true H) : tYes σ H f := h
theorem bt_same1 {l : Addr} {H H' : Hp} (e : Bt [l] H H') (h : H l = none) : Same H H' := fun b o q => e b o (by simp [ne_of_none q h]) q
/-- the built-ins' names, which the top leaves alone -/
structure Bi (mg : Str → Option Value) : Prop where
  isi : mg "isinstance" = none
  int : mg "int" = none
  bool : mg "bool" = none
  str : mg "str" = none
  tuple : mg "tuple" = none
  list : mg "list" = none
  len : mg "len" = none
  abs : mg "abs" = none
  all : mg "all" = none
  any : mg "any" = none
  sum : mg "sum" = none
  enum : mg "enumerate" = none
  divmod : mg "divmod" = none
  range : mg "range" = none
  max : mg "max" = none
  min : mg "min" = none
  zip : mg "zip" = none
  repr : mg "repr" = none
section
variable {K : PySem.W.Frag}
/-! ### things of any kind -/
inductive Th (K : PySem.W.Frag) (H : Hp) : V → PyData → Prop
  | dp {x : V} {d : PyData} (h : Dp K H x d) : Th K H x d
  | nod {a : Addr} (h : H a = some (.dK [])) : Th K H (.ref a) (.dict [])
mutual
theorem dp_same {H H' : Hp} (e : Same H H') : ∀ {v : V} {d : PyData}, Dp K H v d → Dp K H' v d
  | _, _, .non => .non
  | _, _, .bl b => .bl b
  | _, _, .int i => .int i
  | _, _, .str x => .str x
  | _, _, .lst h a => .lst (e.seq h) (dpAll_same e a)
  | _, _, .tup h a => .tup ((tk_same e).sq h) (dpAll_same e a)
theorem dpAll_same {H H' : Hp} (e : Same H H') : ∀ {vs : List V} {ds : List PyData}, DpAll K H vs ds → DpAll K H' vs ds
  | _, _, .nil => .nil
  | _, _, .cons h t => .cons (dp_same e h) (dpAll_same e t)
end
theorem Th.same {H H' : Hp} {v : V} {d : PyData} (e : Same H H') (h : Th K H v d) : Th K H' v d := by
  cases h with
  | dp h => exact .dp (dp_same e h)
  | nod h => exact .nod (e _ _ h)
def tyN : PyData → String
  | .none => "NoneType"
  | .bool _ => "bool"
  | .int _ => "int"
  | .str _ => "str"
  | .list _ => "list"
  | .tuple _ => "tuple"
  | .dict _ => "dict"
theorem Th.ty {H : Hp} {v : V} {d : PyData} (h : Th K H v d) : TyX K H v (.type (tyN d)) := by
  cases h with
  | nod h => exact .base (.dK h)
  | dp h =>
    cases h with
    | non => exact .base .non
    | bl b => exact .base (.bl b)
    | int i => exact .base (.int i)
    | str x => exact .base (.str x)
    | lst h _ =>
      rcases h with (h | ⟨o, h⟩) | ⟨o, its, n, e, c, _⟩
      · exact .base (.lst h)
      · exact .base (.frz h)
      · exact .kList e c
    | tup h _ => exact tyT h
/-- whether a thing is an instance of a built-in class -/
def isaB (T : String) : PyData → Bool
  | .none => T == "NoneType"
  | .bool _ => T == "bool" || T == "int"
  | .int _ => T == "int"
  | .str _ => T == "str"
  | .list _ => T == "list"
  | .tuple _ => T == "tuple"
  | .dict _ => T == "dict"
theorem kit_all : ∀ T ∈ ["int", "bool", "str", "tuple", "list"], kitB "NoneType" T = some (T == "NoneType") ∧ kitB "bool" T = some (T == "bool" || T == "int") ∧ kitB "int" T = some (T == "int") ∧ kitB "str" T = some (T == "str") ∧ kitB "list" T = some (T == "list") ∧ kitB "tuple" T = some (T == "tuple") ∧ kitB "dict" T = some (T == "dict") := by
  decide +kernel
theorem kit_isa {T : String} (h : T ∈ ["int", "bool", "str", "tuple", "list"]) (d : PyData) : PySem.W.kitOne K (.type (tyN d)) (.type T) = some (isaB T d) := by
  obtain ⟨a0, a1, a2, a3, a4, a5, a6⟩ := kit_all T h
  cases d
  · exact kit_ty a0
  · exact kit_ty a1
  · exact kit_ty a2
  · exact kit_ty a3
  · exact kit_ty a4
  · exact kit_ty a5
  · exact kit_ty a6
def strB : PyData → Bool
  | .str _ => true
  | _ => false
def tupB : PyData → Bool
  | .tuple _ => true
  | _ => false
def wholeB : PyData → Bool
  | .int _ => true
  | _ => false
theorem kit_str (d : PyData) : PySem.W.kitOne K (.type (tyN d)) (.type "str") = some (strB d) := by
  rw [kit_isa (by decide) d]
  cases d <;> rfl
theorem kit_tup (d : PyData) : PySem.W.kitOne K (.type (tyN d)) (.type "tuple") = some (tupB d) := by
  rw [kit_isa (by decide) d]
  cases d <;> rfl
theorem kit_whole (d : PyData) : ∃ b1 b2, PySem.W.kitOne K (.type (tyN d)) (.type "int") = some b1 ∧ PySem.W.kitOne K (.type (tyN d)) (.type "bool") = some b2 ∧ (b1 && !b2) = wholeB d := by
  refine ⟨_, _, kit_isa (by decide) d, kit_isa (by decide) d, ?_⟩
  cases d <;> rfl
theorem str_of {d : PyData} (h : strB d = true) : ∃ z, d = .str z := by
  cases d with
  | str z => exact ⟨z, rfl⟩
  | _ => cases h
theorem tup_of {d : PyData} (h : tupB d = true) : ∃ ds, d = .tuple ds := by
  cases d with
  | tuple ds => exact ⟨ds, rfl⟩
  | _ => cases h
theorem whole_of {d : PyData} (h : wholeB d = true) : ∃ i, d = .int i := by
  cases d with
  | int i => exact ⟨i, rfl⟩
  | _ => cases h
theorem th_str {H : Hp} {v : V} {z : Str} (h : Th K H v (.str z)) : v = .str z := by
  cases h with
  | dp h => cases h; rfl
theorem th_tup {H : Hp} {v : V} {ds : List PyData} (h : Th K H v (.tuple ds)) : ∃ a xs, v = .ref a ∧ SqT K H a xs ∧ DpAll K H xs ds := by
  cases h with
  | dp h => cases h with | tup hs hd => exact ⟨_, _, rfl, hs, hd⟩
theorem dpAll_len {H : Hp} : ∀ {xs : List V} {ds : List PyData}, DpAll K H xs ds → xs.length = ds.length
  | _, _, .nil => rfl
  | _, _, .cons _ t => congrArg (· + 1) (dpAll_len t)
end
/-! ### names -/
def lettersS : Str := "abcdefghijklmnopqrstuvwxyz"
def noNames : List V := [.str "all", .str "and", .str "children", .str "childless", .str "crown", .str "else", .str "if", .str "lives", .str "not", .str "of", .str "or", .str "stock", .str "to"]
def letB (c : Nat) : Bool := decide (c ∈ lettersS.cps.toList)
def nmB (z : Str) : Bool := decide (1 ≤ z.length ∧ z.length ≤ 8) && !inV (.str z) noNames && z.cps.toList.all letB
def nameB : PyData → Bool
  | .str z => nmB z
  | _ => false
theorem name_no {d : PyData} (h : strB d = false) : nameB d = false := by
  cases d <;> first | rfl | cases h
/-- texts that are not too long -/
def Short (d : PyData) : Prop := ∀ z, d = .str z → z.length ≤ 1000
theorem ixN_nat {n i : Nat} (h : i < n) : ixN n (i : Int) = some i := by
  unfold ixN
  rw [if_pos (by omega), if_pos (by omega)]
  rfl
theorem small_len {n : Nat} (h : n ≤ 1000) : n ≤ sizeLine := Nat.le_trans h (by decide)
end Wd

set_option Elab.async false
set_option linter.all false
set_option maxRecDepth 100000
set_option maxHeartbeats 4000000
/-! ### own errors of any family, with an __init__ that stores one field -/
namespace Wd
open PySem PySem.W PySem.Calls PyProof.Rows PySem.HandSPX
open Builtin Builtin.ObjectAttr
/-- own classes, then the family's order tl -/
def refsT (tl : List Value) : List Value → Bool
  | .ref _ :: r => refsT tl r
  | l => l == tl
/-- what is known of a family -/
structure Fam (B newId initId : String) (tl : List Value) : Prop where
  base : ExcBaseFacts B newId initId tl
  pass : ∀ self, refuseLoop self "__setattr__" tl = pure ()
  ne : tl.isEmpty = false
  ob : tl.contains (.type "object") = true
theorem fam_lookup : Fam "LookupError" "LookupError.__new__" "LookupError.__init__" [.type "LookupError", .type "Exception", .type "BaseException", .type "object"] :=
  ⟨F.excBase_LookupError, fun self => F.store_LookupError.passes self, rfl, by decide +kernel⟩
theorem fam_arith : Fam "ArithmeticError" "ArithmeticError.__new__" "ArithmeticError.__init__" [.type "ArithmeticError", .type "Exception", .type "BaseException", .type "object"] :=
  ⟨F.excBase_ArithmeticError, fun self => F.store_ArithmeticError.passes self, rfl, by decide +kernel⟩
section
variable {B newId initId : String} {tl : List Value}
theorem refsT_cases : ∀ l : List Value, refsT tl l = true → (∃ c r, l = .ref c :: r ∧ refsT tl r = true) ∨ l = tl := by
  intro l e
  cases l with
  | nil => exact .inr (beq_iff_eq.mp e)
  | cons a r => cases a <;> first | exact .inl ⟨_, _, rfl, e⟩ | exact .inr (beq_iff_eq.mp e)
theorem refsT_pass (f : Fam B newId initId tl) (self : Value) : ∀ l : List Value, refsT tl l = true → refuseLoop self "__setattr__" l = pure () := by
  intro l
  induction l with
  | nil =>
    intro e
    rcases refsT_cases [] e with ⟨_, _, h, _⟩ | h
    · cases h
    · rw [h]; exact f.pass self
  | cons a r ih =>
    intro e
    rcases refsT_cases (a :: r) e with ⟨c, r', q, h⟩ | q
    · cases q
      rw [refuseLoop_ref]
      exact ih h
    · rw [q]; exact f.pass self
theorem refsT_has (X : String) : ∀ l : List Value, refsT tl l = true → l.contains (.type X) = tl.contains (.type X) := by
  intro l
  induction l with
  | nil =>
    intro e
    rcases refsT_cases [] e with ⟨_, _, h, _⟩ | h
    · cases h
    · rw [h]
  | cons a r ih =>
    intro e
    rcases refsT_cases (a :: r) e with ⟨c, r', q, h⟩ | q
    · cases q
      rw [List.contains_cons, ih h]
      rfl
    · rw [q]
theorem refsT_ne (f : Fam B newId initId tl) {l : List Value} (e : refsT tl l = true) : l.isEmpty = false := by
  cases l with
  | nil =>
    rcases refsT_cases [] e with ⟨_, _, h, _⟩ | h
    · cases h
    · rw [h]; exact f.ne
  | cons _ _ => rfl
end
section
variable {B newId initId : String} {tl : List Value} {prog : Program} {w : World} {A : Around} {E : Value → Shared → Prop} {R : Result → Shared → Prop} {hp : Heap} {g : Array GenState} {d : Drawn} {t : Nat} {os : OsState}
/-- the first field of an error that is being made -/
theorem osa_T (f : Fam B newId initId tl) {K : W.Frag} {name : Str} {tk : Tok} {v : Value} {x C : Addr} {fv : Array Value} {cd : ClassData}
    (X : K.In hp) (hx : hp.get? x = some { cls := .ref C, data := .fields fv }) (hcd : W.clsIn K C = some cd) (hm : refsT tl cd.mro = true) (hh : cd.hasDict = true) (ha : W.findIn K (.ref C) name = some none)
    (hq : ∀ h' tk' dx, (∀ b o, b ≠ x → hp.get? b = some o → h'.get? b = some o) → hp.objs.size ≤ dx → dx ≠ x → h'.get? x = some { cls := .ref C, dict := some dx, data := .fields fv } →
      h'.Ns1 dx (fun y => if y = name then some v else none) → R (.ok (.ret .none)) ⟨h', g, d, tk', os⟩) :
    codeAny (model prog w) A (.call (.builtin "object.__setattr__") ⟨[.ref x, .str name tk, v], []⟩) R ⟨hp, g, d, t, os⟩ := by
  have I : W.InstAt hp x { cls := .ref C, data := .fields fv } C none := ⟨hx, rfl, rfl, trivial⟩
  have SF := F.store_object
  have hob : cd.mro.contains (.type "object") = true := (refsT_has "object" _ hm).trans f.ob
  have hxs : x ≠ hp.objs.size := Nat.ne_of_lt (Heap.lt_size hx)
  have sub : W.Looks (model prog w) hp (isInstance (.ref x) (.type "object")) true := I.type.andThen (W.looks_mroIn X (by unfold W.mroIn; rw [hcd, Option.bind_some, if_neg (by rw [refsT_ne f hm]; decide), hob]))
  refine codeAny_call_builtin SF.slot.plain SF.entry (@W.check_slot (model prog w) _ _ ⟨hp, g, d, t, os⟩ "object.__setattr__" "object" "__setattr__" (.ref x) [.str name tk, v] [] _ SF.kind SF.split sub (SF.args (.ref x) (.str name tk) v) ?_)
  have hmr : W.Looks (model prog w) hp (mroOf (.ref C)) cd.mro := (W.looks_clsIn X hcd).andThen .now
  have L3 : W.Looks (model prog w) hp (storeTaker? none) none := .now
  have hcls : W.Looks (model prog w) hp (classData C) cd := W.looks_clsIn X hcd
  rw [W.osa_eq, refuse_eq]
  refine wpAny_bind (wpAny_bind (I.type.at (wpAny_bind (hmr.at ?_))))
  rw [refsT_pass f _ _ hm]
  refine wpAny_pure (wpAny_bind (I.type.at (wpAny_bind ((W.looks_findIn X ha).at (wpAny_bind (L3.at ?_))))))
  show wpAny _ _ (storeInOwnDict (.ref x) (.ref C) (.str name tk) name v false) _ _ _
  obtain ⟨nm, bs, mro, ns, qn, hd, sn, sb, ab, col, del⟩ := cd
  dsimp only at hh
  subst hh
  unfold storeInOwnDict ownDictForStores
  repeat (first | with_reducible refine store_in_new ?_ ?_ | with_reducible refine wpAny_loadPart_at hx ?_ | with_reducible refine hcls.at ?_ | wp_step)
  · exact ⟨_, #[], _, (Heap.get?_update_ne _ _ _ _ hxs.symm).trans (Heap.get?_push_at rfl rfl), rfl, fun e he => absurd he (by simp), fun _ => rfl⟩
  · intro h' tk' hn' hs
    have hx₁ : (hp.push { cls := .type "dict", data := .dict #[] }).get? x = some { cls := .ref C, data := .fields fv } := Heap.get?_push_of_some _ hx
    refine hq h' tk' hp.objs.size (fun b o hb ho => ?_) (Nat.le_refl _) hxs.symm ?_ hn'
    · exact (hs.2 b (Nat.ne_of_lt (Heap.lt_size ho))).trans ((Heap.get?_update_ne _ _ _ _ hb).trans (Heap.get?_push_of_some _ ho))
    · exact (hs.2 x hxs).trans (Heap.get?_update_self _ hx₁ rfl)
end
end Wd
namespace Wd
open PySem PySem.Spec PyProof.Rows L2 WdM
/-- what the top says of the class -/
structure OexT (newId : String) (tl : List Value) (K : PySem.W.Frag) (C : Addr) : Prop where
  cls : ∃ nm q N bs bm sn sub ab col dd k0 k1 k2 k3 k5, K.lookup C = some (excClassObj nm q C N bs bm true sn sub ab col dd k0 k1 k2 k3 k5 newId) ∧ refsT tl bm = true
  sa : PySem.W.findIn K (.ref C) "__setattr__" = some (some (.builtin "object.__setattr__"))
  exC : PySem.W.subIn K (.ref C) (.type "BaseException") = some true
  tyC : PySem.W.typeIn K (.ref C) = some (.type "type")
  kC : PySem.W.keepIn K (.ref C) = true
section
variable {B newId initId : String} {tl : List Value} {X : Cx} {pins : List (Addr × Obj)} {σ : L2.St} {H : Hp} {s : Shared} {a C : Addr} {fl : Str} {y : V} {u : Value} {Q : Unit → Shared → Prop} {E : Value → Shared → Prop} {A : Around}
theorem ost_T (f : Fam B newId initId tl) (T : OexT newId tl X.K C) (I : Inv X pins σ H s) (e : H a = some (exo a C none)) (hno : PySem.W.findIn X.K (.ref C) fl = some none) (ry : RelV y u)
    (h : ∀ dx s', H dx = none → dx ≠ a → Inv X pins σ (upd (upd H dx (exd dx [(fl, y)])) a (exo a C (some dx))) s' → Q () s') : wpAny (model X.prog X.w) A (setAttr (.ref a) fl u) Q E s := by
  obtain ⟨nm, q, N, bs, bm, sn, sub, ab, col, dd, k0, k1, k2, k3, k5, hC, hbm⟩ := T.cls
  have hcl : PySem.W.clsIn X.K C = some { name := nm, bases := bs, mro := .ref C :: bm, ns := N, qualname := q, hasDict := true, slotNames := sn, subclasses := sub, abstract := ab, collection := col, hasDel := false } := by unfold PySem.W.clsIn; rw [hC] <;> rfl
  obtain ⟨t1, ho⟩ := exo_at I.hok e
  obtain ⟨hp, g, d, t, os⟩ := s
  refine PySem.W.set_plain I.kIn (ox := { cls := .ref C, dict := none, data := .fields #[.ref t1, .none, .none, .none, .bool false, .none] }) (od := none) ⟨ho, rfl, rfl, trivial⟩ T.sa ?_
  refine osa_T f I.kIn ho hcl (show refsT tl (.ref C :: bm) = true from hbm) rfl hno (fun h' tk' dx k dn dne hx hn => ?_)
  have hnd : H dx = none := I.hok.fresh dn
  have nd : ∀ {b : Addr} {o : Obj}, hp.get? b = some o → b ≠ dx := fun {b o} q => Nat.ne_of_lt (Nat.lt_of_lt_of_le (Heap.lt_size q) dn)
  have na : ∀ {b : Addr}, H b = none → b ≠ a := fun {b} n z => by
    rw [z, e] at n
    cases n
  have Un1 : Un X.fs [] H (upd (upd H dx (exd dx [(fl, y)])) a (exo a C (some dx))) hp h' := {
    keep := fun b o q n _ _ => k b o (na n) q
    slot := fun b o q n _ _ => ⟨o.slots, k b o (na n) q⟩
    free := fun b o q n _ => by rw [upd_ne (na n), upd_ne (nd q)]; exact n
    there := fun b o q _ => by
      by_cases hb : b = a
      · exact ⟨_, by rw [hb]; exact hx⟩
      · exact ⟨o, k b o hb q⟩
    tups := fun b xs q => by rw [upd_ne (at_ne e q exo_tup), upd_ne (ne_of_none q hnd)]; exact q
    frzs := fun b o v q => by rw [upd_ne (at_ne e q exo_frz), upd_ne (ne_of_none q hnd)]; exact q
    tbls := fun b ps q => ⟨#[], by rw [upd_ne (at_ne e q exo_tbl), upd_ne (ne_of_none q hnd), q]; simp⟩ }
  refine h dx _ hnd dne (I.un (t' := tk') Un1 fun b o q => ?_)
  by_cases hb : b = a
  · subst hb
    rw [upd_same] at q
    cases q
    exact exo_ok hx
  · rw [upd_ne hb] at q
    by_cases hd : b = dx
    · subst hd
      rw [upd_same] at q
      cases q
      exact exd_ok hn (relO_put (fs := []) ry fun g => True.intro)
    · rw [upd_ne hd] at q
      exact (I.hok b o q).stay (fun c v hc z => k c v (by
          rcases hc with hc | hc
          · rw [hc]
            exact hb
          · exact at_ne e hc exo_own) z)
        (fun c hc => by rw [upd_ne (at_ne e hc exo_own), upd_ne (ne_of_none hc hnd)]; exact hc) (fun c xs hc => by rw [upd_ne (at_ne e hc exo_tup), upd_ne (ne_of_none hc hnd)]; exact hc)
end
/-- self.f = e, the first one -/
def tOsT (newId : String) (tl : List Value) (K : PySem.W.Frag) (f : Str) (to te : TE) : TS := fun D σ H => te σ H fun y H1 => to σ H1 fun x H2 => ∃ a C : Addr, x = .ref a ∧ OexT newId tl K C ∧ PySem.W.findIn K (.ref C) f = some none ∧
  H2 a = some (exo a C none) ∧ ∀ dx, H2 dx = none → dx ≠ a → D.nx σ (upd (upd H2 dx (exd dx [(f, y)])) a (exo a C (some dx)))
section
variable {B newId initId : String} {tl : List Value} {X : Cx} {o e : Expr} {es : List Expr} {to te : TE} {ta : TA} {f : Str} {p p' pos : Pos}
theorem ps_osT (fm : Fam B newId initId tl) (ho : PE X o to) (he : PE X e te) (hs : swapsWith e (some (.Attribute o f p')) pos.line X.env = pure false := by rfl) : PS X (.Assign [.Attribute o f p'] e pos) (tOsT newId tl X.K f to te) := by
  refine ⟨fun pins s σ H D I h => ?_⟩
  refine plainObj_wpAny_Assign_Attribute (thn (he.run pins s σ H _ I h) fun v s1 ⟨y, H1, I1, r1, q1⟩ => thn (ho.run pins s1 σ H1 _ I1 q1) fun u s2 ⟨x, H2, I2, r2, a, C, ex, T, hno, ea, q⟩ => ?_) hs
  subst ex
  obtain rfl : u = Value.ref a := r2
  exact ost_T fm T I2 ea hno r1 fun dx s' n ne J => ⟨σ, _, J, q dx n ne⟩
theorem pmk_T (fm : Fam B newId initId tl) {CX : CXT} {x : Str} {C fI : Addr} {k : Nat} {fd : FuncData} {ps : List Str} {sp : Sp} {ds : List Value} {dvs : List V} (T : OexT newId tl X.K C) (iC : PySem.W.findIn X.K (.ref C) "__init__" = some (some (.ref fI))) (tI : PySem.W.typeIn X.K (.ref fI) = some (.type "function"))
    (F1 : FnOk X.prog X.w X.K X.mg X.base CX k fI fd ps sp) (hr : Room (k + 1) X.A) (hb : Binds X.K fd ps ds) (hd : Vals dvs ds) (hx : Passes CX X (fun _ _ _ => False)) (hg : Gl X x) (hm : X.mg x = some (.ref C)) (ha : PA X (e :: es) ta)
    (hdb : (x == ("__debug__" : Str)) = false := by decide) (he : starEach (e :: es) X.env = (false, eval e X.env) :: starEach es X.env := by rfl) (hpl : (backTo pos (starEach es X.env)).any (·.1) = false := by rfl) :
    PMk X (.Call (.Name x p) (e :: es) [] pos) (tMkO C sp dvs ta) := by
  intro pins s σ H Q I h
  obtain ⟨nm, q, N, bs, bm, sn, sub, ab, col, dd, k0, k1, k2, k3, k5, hC, hbm⟩ := T.cls
  refine wpAny_Call_Name_kw (ld_glob I hg hm ?_ hdb)
  refine PySem.W.callWith_K (h₀ := X.base) I.ok.mod.kin T.kC (thn (ha.run pos pins s σ H _ I h) fun us s1 ⟨vs, H1, I1, r1, hz, q1⟩ => ⟨I1.kIn, ?_⟩) he hpl
  show wpAny _ _ (call (.ref C) us) _ _ _
  obtain ⟨hp, g, dr, tk, os⟩ := s1
  have hsz : hp.objs.size ≤ hp.objs.size + 1 := Nat.le_succ _
  have hn : H1 (hp.objs.size + 1) = none := I1.hok.fresh hsz
  have hq := q1 (hp.objs.size + 1) hn
  have kk : ∀ b o, hp.get? b = some o → ((hp.push (PySem.W.kdv_tup us)).push (PySem.HandSPX.excO C hp.objs.size)).get? b = some o := fun b o e => Heap.get?_push_of_some _ (Heap.get?_push_of_some _ e)
  have hget : ((hp.push (PySem.W.kdv_tup us)).push (PySem.HandSPX.excO C hp.objs.size)).get? (hp.objs.size + 1) = some (PySem.HandSPX.excO C hp.objs.size) := by heap_get
  have I2 : Inv X pins σ (upd H1 (hp.objs.size + 1) (exo (hp.objs.size + 1) C none)) ⟨(hp.push (PySem.W.kdv_tup us)).push (PySem.HandSPX.excO C hp.objs.size), g, dr, tk, os⟩ :=
    I1.laid (t' := tk) (a := hp.objs.size + 1) (o := exo (hp.objs.size + 1) C none) (h' := (hp.push (PySem.W.kdv_tup us)).push (PySem.HandSPX.excO C hp.objs.size)) kk hsz (exo_ok hget)
  have r2 : Vals (V.ref (hp.objs.size + 1) :: (vs ++ dvs)) (Value.ref (hp.objs.size + 1) :: (us ++ ds)) := .cons rfl (r1.append hd)
  have hl : (Value.ref (hp.objs.size + 1) :: us ++ ds).length = ps.length := by
    have e := r2.length
    rw [F1.len _ _ _ _ hq] at e
    exact e.symm
  have hus : us.length ≤ sizeLine := by
    rw [← Paired.length r1, sizeLine_eq]
    omega
  refine wpAny_call (PySem.HandSPX.call_own fm.base (fun Y => refsT_has Y bm hbm) (I1.kIn _ _ hC) (PySem.W.looks_findIn I1.kIn iC) (fun self => PySem.W.bind_fn I1.kIn self tI) hus
    (codeAny_mono (F1.run _ X.stack _ _ ⟨Value.ref (hp.objs.size + 1) :: us, []⟩ (Value.ref (hp.objs.size + 1) :: (us ++ ds)) _ _ (fun _ _ _ => False) (hr.make C us []) (I2.env0.make C us []) (hb _ (Value.ref (hp.objs.size + 1) :: us) I2.kIn hl) r2 hq) fun r s' hq' => ?_))
  cases r with
  | error er => exact hx pins σ _ _ er s' I2 hq'
  | ok fl =>
    cases fl with
    | ret u =>
      obtain ⟨v, H2, os2, bare2, un2, hok2, rv, ev, d, fs, ea, ed, hd1, q2⟩ := hq'
      subst ev
      obtain ⟨h2, g2, d2, t2, os'⟩ := s'
      exact ⟨rv, mk_end (raises_own T.exC T.tyC) I1 hsz kk un2 hok2 os2 bare2 ea ed hd1 q2⟩
    | next => exact False.elim hq'
    | brk => exact False.elim hq'
    | cont => exact False.elim hq'
end
end Wd

set_option Elab.async false
set_option linter.all false
set_option maxRecDepth 100000
set_option maxHeartbeats 4000000
namespace Wd
open PySem PySem.Spec PyProof.Rows L2 He
theorem refsB_eq {tl : List Value} : ∀ l : List Value, refsB tl l = true → refsT tl l = true
  | [], h => h
  | .ref _ :: r, h => refsB_eq r h
  | a :: r, h => by
    cases a <;> first | exact refsB_eq r h | exact h
theorem oexTB_ok {newId : String} {tl : List Value} {K : PySem.W.Frag} {C : Addr} (q : oexTB newId tl K C = true) : ∃ nm q N bs bm sn sub ab col dd k0 k1 k2 k3 k5, K.lookup C = some (excClassObj nm q C N bs bm true sn sub ab col dd k0 k1 k2 k3 k5 newId) ∧ refsT tl bm = true := by
  unfold oexTB at q
  split at q
  · rename_i dd cd sl ho
    split at q
    · rename_i C' bm k0 k1 k2 k3 n k5 hm hs
      simp only [Bool.and_eq_true, beq_iff_eq, Bool.not_eq_true'] at q
      obtain ⟨⟨⟨⟨rfl, rfl⟩, hdel⟩, hd⟩, hr⟩ := q
      obtain ⟨nm, bs, mro, N, qn, hasd, sn, sub, ab, col, hdl⟩ := cd
      simp only at hm hdel hd
      subst hm
      subst hdel
      subst hd
      have e : sl = #[k0, k1, k2, k3, some (.builtin n), k5] := by
        have := congrArg List.toArray hs
        simpa using this
      subst e
      exact ⟨nm, qn, N, bs, bm, sn, sub, ab, col, dd, k0, k1, k2, k3, k5, ho, refsB_eq _ hr⟩
    · cases q
  · cases q
end Wd

set_option Elab.async false
set_option linter.all false
set_option maxRecDepth 100000
set_option maxHeartbeats 4000000
namespace Wd
open PySem PySem.Spec PyProof.Rows L2 WdM
/-! ### displays of values that are all of one sort -/
section
variable {X : Cx} {R : L2.St → Hp → Prop} {Bd : Hp → V → Prop} {e : Expr} {es : List Expr} {n : Nat}
/-- where R holds, a value that is Bd -/
def tB (R : L2.St → Hp → Prop) (Bd : Hp → V → Prop) : TE := fun σ H Q => R σ H ∧ ∀ v H', Same H H' → Bd H' v → Q v H'
def taB (R : L2.St → Hp → Prop) (Bd : Hp → V → Prop) (n : Nat) : TA := fun σ H Q => R σ H ∧ ∀ xs H', Same H H' → xs.length = n → (∀ x ∈ xs, Bd H' x) → Q xs H'
def tlB (R : L2.St → Hp → Prop) (Bd : Hp → V → Prop) (n : Nat) : TE := fun σ H Q => R σ H ∧ ∀ p xs H', Same H H' → H' p = none → xs.length = n → (∀ x ∈ xs, Bd H' x) → Q (.ref p) (upd H' p (.lst xs))
/-- kept where the heap grows -/
structure Kp (R : L2.St → Hp → Prop) (Bd : Hp → V → Prop) : Prop where
  r : ∀ σ H H', Same H H' → R σ H → R σ H'
  b : ∀ H H' v, Same H H' → Bd H v → Bd H' v
theorem paB_nil : PA X [] (taB R Bd 0) := PA.wk pa_nil fun σ H Q ⟨_, q⟩ => q [] H (Same.refl H) rfl (fun x hx => nomatch hx)
theorem paB_cons (k : Kp R Bd) (h : PE X e (tB R Bd)) (t : PA X es (taB R Bd n)) (hs : starEach (e :: es) X.env = (false, eval e X.env) :: starEach es X.env := by rfl) : PA X (e :: es) (taB R Bd (n + 1)) :=
  PA.wk (pa_cons h t hs) fun σ H Q ⟨r, q⟩ => ⟨r, fun v H1 s1 b1 => ⟨k.r _ _ _ s1 r, fun xs H2 s2 l2 b2 => q (v :: xs) H2 (s1.trans s2) (by rw [List.length_cons, l2]) (fun x hx => by
    rcases List.mem_cons.mp hx with rfl | hx
    · exact k.b _ _ _ s2 b1
    · exact b2 x hx)⟩⟩
theorem peB_lst {pos : Pos} (t : PA X es (taB R Bd n)) (hn : n ≤ sizeLine) : PE X (.List es pos) (tlB R Bd n) :=
  PE.wk (pe_lst t) fun σ H Q ⟨r, q⟩ => ⟨r, fun xs H1 s1 l1 b1 => ⟨by rw [l1]; exact hn, fun p np => q p xs _ s1 np l1 b1⟩⟩
end
def RT : L2.St → Hp → Prop := fun _ _ => True
section
variable {K : PySem.W.Frag} {X : Cx}
/-- a thing whose texts aren't too long -/
def ThS (K : PySem.W.Frag) (H : Hp) (v : V) : Prop := ∃ d, Th K H v d ∧ Short d
theorem kpS : Kp RT (ThS K) := ⟨fun _ _ _ _ _ => trivial, fun _ _ _ e ⟨d, th, n⟩ => ⟨d, th.same e, n⟩⟩
theorem short_of {d : PyData} (h : strB d = false) : Short d := fun z e => by rw [e] at h; cases h
/-- texts of at most b signs -/
def StrL (b : Nat) (v : V) : Prop := ∃ z : Str, v = .str z ∧ z.length ≤ b
theorem StrL.th {b : Nat} {v : V} {H : Hp} (h : StrL b v) (hb : b ≤ 1000) : ThS K H v := by
  obtain ⟨z, rfl, l⟩ := h
  exact ⟨.str z, .dp (.str z), fun y e => by cases e; omega⟩
theorem at_of {P : V → Prop} {xs : List V} {d : Int} (h : ∀ x ∈ xs, P x) (d0 : 0 ≤ d) (d1 : d < xs.length) : ∃ v, atI xs d = some v ∧ P v := by
  obtain ⟨n, rfl⟩ := Int.eq_ofNat_of_zero_le d0
  have hn : n < xs.length := by omega
  exact ⟨xs[n], atI_nat (List.getElem?_eq_getElem hn), h _ (List.getElem_mem hn)⟩
end
end Wd

set_option Elab.async false
set_option linter.all false
set_option maxRecDepth 100000
set_option maxHeartbeats 4000000
namespace Wd
open PySem PySem.Spec PyProof.Rows L2 WdM
/-- what is never reached, by a name -/
def tsNo : TS := fun _ _ _ => False
theorem pss_noS {X : Cx} {st : List Stmt} : PSs X st tsNo := ⟨fun _ _ _ _ _ _ h => h.elim⟩
/-! ### data with empty dicts in it; its lists and dicts aren't at the places S -/
mutual
inductive Dz (S : List Addr) (K : PySem.W.Frag) (H : Hp) : V → PyData → Prop
  | non : Dz S K H .non .none
  | bl (b : Bool) : Dz S K H (.bl b) (.bool b)
  | int (i : Int) : Dz S K H (.int i) (.int i)
  | str (x : Str) : Dz S K H (.str x) (.str x)
  | lst {a : Addr} {xs : List V} {ds : List PyData} (n : a ∉ S) (h : SqL K H a xs) (t : DzAll S K H xs ds) : Dz S K H (.ref a) (.list ds)
  | tup {a : Addr} {xs : List V} {ds : List PyData} (h : SqT K H a xs) (t : DzAll S K H xs ds) : Dz S K H (.ref a) (.tuple ds)
  | nod {a : Addr} (n : a ∉ S) (h : H a = some (.dK [])) : Dz S K H (.ref a) (.dict [])
inductive DzAll (S : List Addr) (K : PySem.W.Frag) (H : Hp) : List V → List PyData → Prop
  | nil : DzAll S K H [] []
  | cons {v : V} {vs : List V} {d : PyData} {ds : List PyData} (h : Dz S K H v d) (t : DzAll S K H vs ds) : DzAll S K H (v :: vs) (d :: ds)
end
section
variable {S : List Addr} {K : PySem.W.Frag}
structure Stay (S : List Addr) (K : PySem.W.Frag) (H H' : Hp) : Prop where
  l : ∀ a xs, a ∉ S → SqL K H a xs → SqL K H' a xs
  t : ∀ a xs, SqT K H a xs → SqT K H' a xs
  d : ∀ a, a ∉ S → H a = some (.dK []) → H' a = some (.dK [])
mutual
theorem dz_stay {H H' : Hp} (e : Stay S K H H') : ∀ {v : V} {d : PyData}, Dz S K H v d → Dz S K H' v d
  | _, _, .non => .non
  | _, _, .bl b => .bl b
  | _, _, .int i => .int i
  | _, _, .str x => .str x
  | _, _, .lst n h a => .lst n (e.l _ _ n h) (dzAll_stay e a)
  | _, _, .tup h a => .tup (e.t _ _ h) (dzAll_stay e a)
  | _, _, .nod n h => .nod n (e.d _ n h)
theorem dzAll_stay {H H' : Hp} (e : Stay S K H H') : ∀ {vs : List V} {ds : List PyData}, DzAll S K H vs ds → DzAll S K H' vs ds
  | _, _, .nil => .nil
  | _, _, .cons h t => .cons (dz_stay e h) (dzAll_stay e t)
end
theorem stay_same {H H' : Hp} (e : Same H H') : Stay S K H H' := ⟨fun a xs _ h => e.seq h, fun a xs h => (tk_same e).sq h, fun a _ h => e _ _ h⟩
theorem stay_bt {H H' : Hp} (e : Bt S H H') (hl : ∀ a ∈ S, ∃ zs, H a = some (.lst zs)) : Stay S K H H' := ⟨fun a xs n h => by
  rcases h with (h | ⟨o, h⟩) | h
  · exact .inl (.inl (e _ _ n h))
  · exact .inl (.inr ⟨o, e _ _ n h⟩)
  · exact .inr h, fun a xs h => (e.tk hl).sq h, fun a n h => e _ _ n h⟩
theorem Dz.same {H H' : Hp} {v : V} {d : PyData} (h : Dz S K H v d) (e : Same H H') : Dz S K H' v d := dz_stay (stay_same e) h
theorem DzAll.same {H H' : Hp} {v : List V} {d : List PyData} (h : DzAll S K H v d) (e : Same H H') : DzAll S K H' v d := dzAll_stay (stay_same e) h
mutual
theorem Dz.less {H : Hp} : ∀ {v : V} {d : PyData}, Dz S K H v d → Dz [] K H v d
  | _, _, .non => .non
  | _, _, .bl b => .bl b
  | _, _, .int i => .int i
  | _, _, .str x => .str x
  | _, _, .lst n h a => .lst (by simp) h a.less
  | _, _, .tup h a => .tup h a.less
  | _, _, .nod n h => .nod (by simp) h
theorem DzAll.less {H : Hp} : ∀ {vs : List V} {ds : List PyData}, DzAll S K H vs ds → DzAll [] K H vs ds
  | _, _, .nil => .nil
  | _, _, .cons h t => .cons h.less t.less
end
theorem Dz.ty {H : Hp} {v : V} {d : PyData} (h : Dz S K H v d) : TyX K H v (.type (tyN d)) := by
  cases h with
  | non => exact .base .non
  | bl b => exact .base (.bl b)
  | int i => exact .base (.int i)
  | str x => exact .base (.str x)
  | lst _ h _ =>
    rcases h with (h | ⟨o, h⟩) | ⟨o, its, n, e, c, _⟩
    · exact .base (.lst h)
    · exact .base (.frz h)
    · exact .kList e c
  | tup h _ => exact tyT h
  | nod _ h => exact .base (.dK h)
theorem dz_str {H : Hp} {v : V} {z : Str} (h : Dz S K H v (.str z)) : v = .str z := by cases h; rfl
theorem dz_tup {H : Hp} {v : V} {ds : List PyData} (h : Dz S K H v (.tuple ds)) : ∃ a xs, v = .ref a ∧ SqT K H a xs ∧ DzAll S K H xs ds := by
  cases h with
  | tup h t => exact ⟨_, _, rfl, h, t⟩
theorem DzAll.len {H : Hp} : ∀ {xs : List V} {ds : List PyData}, DzAll S K H xs ds → xs.length = ds.length
  | _, _, .nil => rfl
  | _, _, .cons _ t => congrArg (· + 1) t.len
theorem DzAll.get {H : Hp} : ∀ {xs : List V} {ds : List PyData} {i : Nat} {x : V}, DzAll S K H xs ds → xs[i]? = some x → ∃ d, ds[i]? = some d ∧ Dz S K H x d
  | _, _, 0, _, .cons h t, e => by cases e; exact ⟨_, rfl, h⟩
  | _, _, i + 1, _, .cons h t, e => t.get (i := i) e
  | _, _, 0, _, .nil, e => by cases e
  | _, _, i + 1, _, .nil, e => by cases e
theorem DzAll.app {H : Hp} : ∀ {xs ys : List V} {ds es : List PyData}, DzAll S K H xs ds → DzAll S K H ys es → DzAll S K H (xs ++ ys) (ds ++ es)
  | _, _, _, _, .nil, q => q
  | _, _, _, _, .cons h t, q => .cons h (t.app q)
theorem DzAll.take {H : Hp} : ∀ {xs : List V} {ds : List PyData} (n : Nat), DzAll S K H xs ds → DzAll S K H (xs.take n) (ds.take n)
  | _, _, 0, _ => by simp only [List.take_zero]; exact .nil
  | _, _, n + 1, .nil => .nil
  | _, _, n + 1, .cons h t => .cons h (t.take n)
theorem DzAll.drop {H : Hp} : ∀ {xs : List V} {ds : List PyData} (n : Nat), DzAll S K H xs ds → DzAll S K H (xs.drop n) (ds.drop n)
  | _, _, 0, h => h
  | _, _, n + 1, .nil => .nil
  | _, _, n + 1, .cons h t => t.drop n
theorem DzAll.rev {H : Hp} : ∀ {xs : List V} {ds : List PyData}, DzAll S K H xs ds → DzAll S K H xs.reverse ds.reverse
  | _, _, .nil => .nil
  | _, _, .cons h t => by simp only [List.reverse_cons]; exact t.rev.app (.cons h .nil)
theorem DzAll.two {H : Hp} {xs : List V} {ds : List PyData} (h : DzAll S K H xs ds) (l : xs.length = 2) : ∃ x1 x2 d1 d2, xs = [x1, x2] ∧ ds = [d1, d2] ∧ Dz S K H x1 d1 ∧ Dz S K H x2 d2 := by
  cases h with
  | nil => cases l
  | cons h1 t =>
    cases t with
    | nil => cases l
    | cons h2 t =>
      cases t with
      | nil => exact ⟨_, _, _, _, rfl, rfl, h1, h2⟩
      | cons _ _ => simp only [List.length_cons] at l; omega
end
/-- what is asked of a thing at the door -/
structure Is (K : PySem.W.Frag) (H : Hp) (v : V) (d : PyData) : Prop where
  ty0 : ∀ H', Same H H' → TyX K H' v (.type (tyN d))
  str : ∀ z, d = .str z → v = .str z
theorem Is.ty {K : PySem.W.Frag} {H : Hp} {v : V} {d : PyData} (h : Is K H v d) : TyX K H v (.type (tyN d)) := h.ty0 H (Same.refl H)
theorem Dz.is {S : List Addr} {K : PySem.W.Frag} {H : Hp} {v : V} {d : PyData} (h : Dz S K H v d) : Is K H v d := ⟨fun _ e => (h.same e).ty, fun z e => by subst e; exact dz_str h⟩
theorem Th.is {K : PySem.W.Frag} {H : Hp} {v : V} {d : PyData} (h : Th K H v d) : Is K H v d := ⟨fun _ e => (h.same e).ty, fun z e => by subst e; exact th_str h⟩
/-! ### data that is small: depth n, b: lists, no dicts; else dicts, no lists -/
def okS (x : Str) : Prop := ∀ c ∈ x.cps.toList, c < 1114112
def Fine (b : Bool) : Nat → PyData → Prop
  | _, .none => True
  | _, .bool _ => True
  | _, .int i => -1 ≤ i ∧ i ≤ 1
  | _, .str x => okS x ∧ x.length ≤ 30
  | 0, .list _ => False
  | 0, .tuple _ => False
  | 0, .dict _ => False
  | n + 1, .list ds => b = true ∧ ds.length ≤ 8 ∧ ∀ d ∈ ds, Fine b n d
  | n + 1, .tuple ds => ds.length ≤ 8 ∧ ∀ d ∈ ds, Fine b n d
  | _ + 1, .dict [] => b = false
  | _ + 1, .dict (_ :: _) => False
theorem Fine.up {b : Bool} : ∀ {n : Nat} {d : PyData}, Fine b n d → Fine b (n + 1) d
  | n, .none, _ => trivial
  | n, .bool _, _ => trivial
  | n, .int _, h => by cases n <;> exact h
  | n, .str _, h => by cases n <;> exact h
  | n + 1, .list ds, h => ⟨h.1, h.2.1, fun d hd => (h.2.2 d hd).up⟩
  | n + 1, .tuple ds, h => ⟨h.1, fun d hd => (h.2 d hd).up⟩
  | n + 1, .dict [], h => h
  | n + 1, .dict (_ :: _), h => h.elim
theorem Fine.mono {b : Bool} {n : Nat} {d : PyData} (h : Fine b n d) : ∀ {m : Nat}, n ≤ m → Fine b m d := by
  intro m hm
  induction hm with
  | refl => exact h
  | step _ ih => exact ih.up
theorem Fine.short {b : Bool} {n : Nat} {d : PyData} (h : Fine b n d) : Short d := fun z e => by
  subst e
  have h : okS z ∧ z.length ≤ 30 := by cases n <;> exact h
  omega
theorem Fine.mem {b : Bool} {n : Nat} {ds : List PyData} {d : PyData} (h : Fine b n (.tuple ds)) (m : d ∈ ds) : ∃ n, Fine b n d := by
  cases n with
  | zero => exact h.elim
  | succ n => exact ⟨n, h.2 d m⟩
/-- small, in either way -/
def Fin (d : PyData) : Prop := ∃ b n, Fine b n d
theorem Fin.short {d : PyData} (h : Fin d) : Short d := h.elim fun _ h => h.elim fun _ h => h.short
theorem Fin.mem {ds : List PyData} {d : PyData} (h : Fin (.tuple ds)) (m : d ∈ ds) : Fin d := by
  obtain ⟨b, n, h⟩ := h
  exact ⟨b, h.mem m⟩
theorem Fin.len {ds : List PyData} (h : Fin (.tuple ds)) : ds.length ≤ 8 := by
  obtain ⟨b, n, h⟩ := h
  cases n with
  | zero => exact h.elim
  | succ n => exact h.1
def LL : Nat → Nat
  | 0 => 302
  | n + 1 => 8 * (LL n + 2) + 3
theorem LL_up (n : Nat) : LL n ≤ LL (n + 1) := by
  show LL n ≤ 8 * (LL n + 2) + 3
  omega
theorem piled_le {B : Nat} : ∀ {ts : List Str}, (∀ t ∈ ts, t.length ≤ B) → piled ts ≤ ts.length * (B + 2)
  | [], _ => by simp [piled]
  | t :: ts, h => by
    rw [piled_cons, List.length_cons, Nat.succ_mul]
    have h1 := h t List.mem_cons_self
    have h2 := piled_le (ts := ts) fun x hx => h x (List.mem_cons_of_mem _ hx)
    omega
theorem from_le : ∀ (ts : List Str) (k : Nat) (acc : Str), (textFrom k acc ts).length ≤ acc.length + piled ts
  | [], k, acc => by simp [textFrom, piled]
  | t :: ts, k, acc => by
    have ih := from_le ts (k + 1) (acc ++ (if k > 0 then ", " else "" : String) ++ t)
    rw [piled_cons]
    have e : (acc ++ (if k > 0 then ", " else "" : String) ++ t).length ≤ acc.length + (2 + t.length) := by
      rw [strLen_append, strLen_append]
      have : (((if k > 0 then ", " else "" : String) : Str)).length ≤ 2 := by
        split <;> decide
      omega
    show (textFrom (k + 1) _ ts).length ≤ _
    omega
theorem list_le {B : Nat} {ts : List Str} (h : ∀ t ∈ ts, t.length ≤ B) (l : ts.length ≤ 8) : (listText ts).length ≤ 8 * (B + 2) + 3 := by
  unfold listText
  rw [strLen_append]
  have a := from_le ts 0 "["
  have b := piled_le h
  have c : ts.length * (B + 2) ≤ 8 * (B + 2) := Nat.mul_le_mul_right _ l
  have d : ("[" : Str).length = 1 := by decide
  have e : ("]" : Str).length = 1 := by decide
  omega
theorem tuple_le {B : Nat} {ts : List Str} (h : ∀ t ∈ ts, t.length ≤ B) (l : ts.length ≤ 8) : (tupleText ts).length ≤ 8 * (B + 2) + 3 := by
  unfold tupleText
  rw [strLen_append, strLen_append]
  have b := piled_le h
  have c : ts.length * (B + 2) ≤ 8 * (B + 2) := Nat.mul_le_mul_right _ l
  have d : ("(" : Str).length = 1 := by decide
  have e : (((if ts.length == 1 then ",)" else ")" : String) : Str)).length ≤ 2 := by split <;> decide
  by_cases z : ts = []
  · subst z
    have : (Str.join ", " []).length = 0 := by decide
    omega
  · have := join_length_add ts z
    omega
theorem shownAll_eq : ∀ ds : List PyData, PyData.shownAll ds = ds.map PyData.shown
  | [] => by simp [PyData.shownAll]
  | d :: ds => by simp only [PyData.shownAll, List.map_cons, shownAll_eq ds]
theorem showableAll_eq : ∀ {ds : List PyData}, (∀ d ∈ ds, PyData.showable d = true) → PyData.showableAll ds = true
  | [], _ => by simp [PyData.showableAll]
  | d :: ds, h => by
    simp only [PyData.showableAll, h d List.mem_cons_self, Bool.true_and]
    exact showableAll_eq fun x hx => h x (List.mem_cons_of_mem _ hx)
theorem depthAll_le {n : Nat} : ∀ {ds : List PyData}, (∀ d ∈ ds, PyData.depth d ≤ n) → PyData.depthAll ds ≤ n
  | [], _ => by simp [PyData.depthAll]
  | d :: ds, h => by
    simp only [PyData.depthAll]
    exact Nat.max_le.mpr ⟨h d List.mem_cons_self, depthAll_le fun x hx => h x (List.mem_cons_of_mem _ hx)⟩
theorem hasDictAll_no : ∀ {ds : List PyData}, (∀ d ∈ ds, PyData.hasDict d = false) → PyData.hasDictAll ds = false
  | [], _ => by simp [PyData.hasDictAll]
  | d :: ds, h => by
    simp only [PyData.hasDictAll, h d List.mem_cons_self, Bool.false_or]
    exact hasDictAll_no fun x hx => h x (List.mem_cons_of_mem _ hx)
theorem Fine.shown {b : Bool} : ∀ {n : Nat} {d : PyData}, Fine b n d → (PyData.shown d).length ≤ LL n ∧ PyData.showable d = true ∧ PyData.depth d ≤ n ∧ (b = true → PyData.hasDict d = false) := by
  have l0 : ∀ n, 302 ≤ LL n := fun n => by
    induction n with
    | zero => exact Nat.le_refl _
    | succ n ih => exact Nat.le_trans ih (LL_up n)
  intro n
  induction n with
  | zero =>
    intro d h
    cases d with
    | none => exact ⟨by simp only [PyData.shown]; decide, by simp [PyData.showable], by simp [PyData.depth], fun _ => by simp [PyData.hasDict]⟩
    | bool c => exact ⟨by simp only [PyData.shown]; cases c <;> decide, by simp [PyData.showable], by simp [PyData.depth], fun _ => by simp [PyData.hasDict]⟩
    | int i =>
      have h : -1 ≤ i ∧ i ≤ 1 := h
      have : i = -1 ∨ i = 0 ∨ i = 1 := by omega
      rcases this with rfl | rfl | rfl <;> exact ⟨by simp only [PyData.shown]; decide, by simp only [PyData.showable]; decide, by simp [PyData.depth], fun _ => by simp [PyData.hasDict]⟩
    | str x =>
      have h : okS x ∧ x.length ≤ 30 := h
      refine ⟨?_, by simp [PyData.showable], by simp [PyData.depth], fun _ => by simp [PyData.hasDict]⟩
      simp only [PyData.shown]
      have := StrLaws.reprText_len x (fun c hc => Nat.lt_of_lt_of_le (h.1 c hc) (by decide))
      show _ ≤ 302
      omega
    | list ds => exact h.elim
    | tuple ds => exact h.elim
    | dict ds => exact h.elim
  | succ n ih =>
    intro d h
    cases d with
    | none => exact ⟨Nat.le_trans (by simp only [PyData.shown]; decide) (l0 _), by simp [PyData.showable], by simp [PyData.depth], fun _ => by simp [PyData.hasDict]⟩
    | bool c => exact ⟨Nat.le_trans (by simp only [PyData.shown]; cases c <;> decide) (l0 _), by simp [PyData.showable], by simp [PyData.depth], fun _ => by simp [PyData.hasDict]⟩
    | int i =>
      have h : -1 ≤ i ∧ i ≤ 1 := h
      have : i = -1 ∨ i = 0 ∨ i = 1 := by omega
      rcases this with rfl | rfl | rfl <;> exact ⟨Nat.le_trans (by simp only [PyData.shown]; decide) (l0 _), by simp only [PyData.showable]; decide, by simp [PyData.depth], fun _ => by simp [PyData.hasDict]⟩
    | str x =>
      have h : okS x ∧ x.length ≤ 30 := h
      refine ⟨?_, by simp [PyData.showable], by simp [PyData.depth], fun _ => by simp [PyData.hasDict]⟩
      simp only [PyData.shown]
      have := StrLaws.reprText_len x (fun c hc => Nat.lt_of_lt_of_le (h.1 c hc) (by decide))
      have := l0 (n + 1)
      omega
    | list ds =>
      have h : b = true ∧ ds.length ≤ 8 ∧ ∀ d ∈ ds, Fine b n d := h
      refine ⟨?_, ?_, ?_, fun hb => ?_⟩
      · simp only [PyData.shown, shownAll_eq]
        exact list_le (fun t ht => by obtain ⟨d, hd, rfl⟩ := List.mem_map.mp ht; exact (ih (h.2.2 d hd)).1) (by rw [List.length_map]; exact h.2.1)
      · simp only [PyData.showable]
        exact showableAll_eq fun d hd => (ih (h.2.2 d hd)).2.1
      · simp only [PyData.depth]
        have := depthAll_le fun d hd => (ih (h.2.2 d hd)).2.2.1
        omega
      · simp only [PyData.hasDict]
        exact hasDictAll_no fun d hd => (ih (h.2.2 d hd)).2.2.2 hb
    | tuple ds =>
      have h : ds.length ≤ 8 ∧ ∀ d ∈ ds, Fine b n d := h
      refine ⟨?_, ?_, ?_, fun hb => ?_⟩
      · simp only [PyData.shown, shownAll_eq]
        exact tuple_le (fun t ht => by obtain ⟨d, hd, rfl⟩ := List.mem_map.mp ht; exact (ih (h.2 d hd)).1) (by rw [List.length_map]; exact h.1)
      · simp only [PyData.showable]
        exact showableAll_eq fun d hd => (ih (h.2 d hd)).2.1
      · simp only [PyData.depth]
        have := depthAll_le fun d hd => (ih (h.2 d hd)).2.2.1
        omega
      · simp only [PyData.hasDict]
        exact hasDictAll_no fun d hd => (ih (h.2 d hd)).2.2.2 hb
    | dict kvs =>
      cases kvs with
      | nil =>
        have h : b = false := h
        refine ⟨Nat.le_trans ?_ (l0 _), by simp [PyData.showable, PyData.showableKv], by simp [PyData.depth, PyData.depthKv], fun hb => by rw [h] at hb; cases hb⟩
        simp only [PyData.shown, PyData.shownKv]
        decide
      | cons kv r => exact h.elim
theorem LL5 : LL 5 ≤ sizeLine := by decide
/-! ### such data in the machine's heap -/
section
variable {S : List Addr} {X : Cx} {pins : List (Addr × Obj)} {σ : L2.St} {H : Hp} {s : Shared}
mutual
theorem Dz.reads (I : Inv X pins σ H s) : ∀ (d : PyData) (v : V) (u : Value), Dz S X.K H v d → RelV v u → ∃ as, Reads s.heap u d as ∧ ∀ n, Fine false n d → sysModules ∉ as
  | .none, _, _, h, r => by
    cases h; cases r
    exact ⟨_, .none, fun _ _ => by simp⟩
  | .bool b, _, _, h, r => by
    cases h; cases r
    exact ⟨_, .bool b, fun _ _ => by simp⟩
  | .int i, _, _, h, r => by
    cases h
    obtain ⟨t, rfl⟩ := r
    exact ⟨_, .int i t, fun _ _ => by simp⟩
  | .str x, _, _, h, r => by
    cases h
    obtain ⟨t, rfl⟩ := r
    exact ⟨_, .str x t, fun _ _ => by simp⟩
  | .list ds, _, _, h, r => by
    cases h with
    | lst _ hs ha =>
      cases r
      obtain ⟨its, rv, ⟨o, n, ho, hc, _, hd⟩, _⟩ := I.list hs
      obtain ⟨as, hr, _⟩ := Dz.readsAll I ds _ its ha rv
      refine ⟨_, .list ho hc hd hr, fun n f => ?_⟩
      cases n with
      | zero => exact f.elim
      | succ n => exact nomatch f.1
  | .tuple ds, _, _, h, r => by
    cases h with
    | tup hs ha =>
      cases r
      obtain ⟨its, rv, ⟨o, ho, hc, n, hd⟩, _⟩ := I.tuple hs
      obtain ⟨as, hr, no⟩ := Dz.readsAll I ds _ its ha rv
      refine ⟨_, .tuple ho hc hd hr, fun n f => ?_⟩
      cases n with
      | zero => exact f.elim
      | succ n => exact no n f.2
  | .dict kvs, _, _, h, r => by
    cases h with
    | nod _ h =>
      cases r
      obtain ⟨q, n⟩ := reads_nod I.hok h
      exact ⟨_, q, fun _ _ => n⟩
theorem Dz.readsAll (I : Inv X pins σ H s) : ∀ (ds : List PyData) (vs : List V) (us : List Value), DzAll S X.K H vs ds → Vals vs us → ∃ as, ReadsAll s.heap us ds as ∧ ∀ n, (∀ d ∈ ds, Fine false n d) → sysModules ∉ as
  | [], _, _, h, r => by
    cases h; cases r
    exact ⟨_, .nil, fun _ _ => by simp⟩
  | d :: ds, _, _, h, r => by
    cases h with
    | cons h1 h2 =>
      cases r with
      | cons r1 r2 =>
        obtain ⟨as, q1, n1⟩ := Dz.reads I d _ _ h1 r1
        obtain ⟨bs, q2, n2⟩ := Dz.readsAll I ds _ _ h2 r2
        exact ⟨_, .cons q1 q2, fun n f m => (List.mem_append.mp m).elim (n1 n (f d List.mem_cons_self)) (n2 n fun x hx => f x (List.mem_cons_of_mem _ hx))⟩
end
end
def rReprZ (K : PySem.W.Frag) : List V → Hp → VK → Prop := fun xs H Q => ∃ x d b, xs = [x] ∧ Dz [] K H x d ∧ Fine b 5 d ∧ Q (.str d.shown) H
theorem call_reprZ {X : Cx} (gs : X.A.guards = some []) (hu : X.A.units + 64 < cLine) : CallR X (.builtin "repr") (rReprZ X.K) := by
  rintro pins s σ H _ us Q I rel ⟨x, d, b, rfl, dz, fine, want⟩
  obtain ⟨len, sh, dep, nd⟩ := fine.shown
  have len : d.shown.length ≤ sizeLine := Nat.le_trans len LL5
  cases rel with
  | cons ru rn =>
    cases rn
    rename_i u
    obtain ⟨as, r, sm⟩ := Dz.reads I d _ u dz ru
    have sm : d.hasDict = true → sysModules ∉ as := fun h => by
      cases b with
      | true => rw [nd rfl] at h; cases h
      | false => exact sm 5 fine
    have boxed : ∀ a : Addr, Reads s.heap (.ref a) d as → wpAny (model X.prog X.w) X.A (call (.builtin "repr") [.ref a]) (EP X pins σ Q) X.xe s := fun a r =>
      repr_of_reads' r sh sm gs (by omega) (fun _ _ e => e) (fun h' _ tk same => ⟨.str d.shown, H, I.kept (t' := tk) same, ⟨_, rfl⟩, want⟩) len
    have fin : ∀ {z : Str} {t k : Tok}, z = d.shown → EP X pins σ Q (.str z t) { s with toks := k } := fun {z t k} e => ⟨.str z, H, I.tok k, ⟨_, rfl⟩, e ▸ want⟩
    cases dz with
    | non => cases ru; exact PySem.P.repr_of_none (fin (by simp [PyData.shown]))
    | bl b => cases ru; exact PySem.P.repr_of_bool (fin (by simp [PyData.shown]))
    | int i =>
      obtain ⟨t, rfl⟩ := ru
      exact PySem.P.repr_of_int (by simpa [PyData.showable] using sh) (fin (by simp [PyData.shown]))
    | str z =>
      obtain ⟨t, rfl⟩ := ru
      exact PySem.P.repr_of_str (fin (by simp [PyData.shown])) (by simpa [PyData.shown] using len)
    | lst _ _ _ => cases ru; exact boxed _ r
    | tup _ _ => cases ru; exact boxed _ r
    | nod _ _ => cases ru; exact boxed _ r
end Wd

set_option Elab.async false
set_option linter.all false
set_option maxRecDepth 100000
set_option maxHeartbeats 4000000
namespace WdQ
open PySem PySem.Spec PyProof.Rows L2 WdM Wd
/-! ### two rows side by side -/
inductive A2 {α β : Type} (R : α → β → Prop) : List α → List β → Prop
  | nil : A2 R [] []
  | cons {a : α} {b : β} {as : List α} {bs : List β} : R a b → A2 R as bs → A2 R (a :: as) (b :: bs)
theorem A2.imp {α β : Type} {R R' : α → β → Prop} (f : ∀ a b, R a b → R' a b) : ∀ {as : List α} {bs : List β}, A2 R as bs → A2 R' as bs
  | _, _, .nil => .nil
  | _, _, .cons h t => .cons (f _ _ h) (t.imp f)
theorem A2.append {α β : Type} {R : α → β → Prop} : ∀ {as cs : List α} {bs ds : List β}, A2 R as bs → A2 R cs ds → A2 R (as ++ cs) (bs ++ ds)
  | _, _, _, _, .nil, h => h
  | _, _, _, _, .cons h t, h2 => .cons h (t.append h2)
theorem A2.len {α β : Type} {R : α → β → Prop} : ∀ {as : List α} {bs : List β}, A2 R as bs → as.length = bs.length
  | _, _, .nil => rfl
  | _, _, .cons _ t => by rw [List.length_cons, List.length_cons, t.len]
theorem A2.get {α β : Type} {R : α → β → Prop} : ∀ {as : List α} {bs : List β} {i : Nat} {a : α}, A2 R as bs → as[i]? = some a → ∃ b, bs[i]? = some b ∧ R a b
  | _, _, 0, _, .cons h _, e => by cases e; exact ⟨_, rfl, h⟩
  | _, _, i + 1, _, .cons _ t, e => t.get (i := i) e
theorem A2.snoc {α β : Type} {R : α → β → Prop} {as : List α} {bs : List β} {a : α} {b : β} (h : A2 R as bs) (r : R a b) : A2 R (as ++ [a]) (bs ++ [b]) := h.append (.cons r .nil)
theorem A2.cat {α β : Type} {R : α → β → Prop} : ∀ {as : List (List α)} {bs : List (List β)}, A2 (A2 R) as bs → A2 R as.flatten bs.flatten
  | _, _, .nil => .nil
  | _, _, .cons h t => by rw [List.flatten_cons, List.flatten_cons]; exact h.append t.cat
theorem A2.take {α β : Type} {R : α → β → Prop} : ∀ {as : List α} {bs : List β} (n : Nat), A2 R as bs → A2 R (as.take n) (bs.take n)
  | _, _, 0, _ => by rw [List.take_zero, List.take_zero]; exact .nil
  | _, _, _ + 1, .nil => .nil
  | _, _, n + 1, .cons h t => .cons h (t.take n)
theorem A2.of_map {α β : Type} {f : β → α} : ∀ {bs : List β}, A2 (fun a b => a = f b) (bs.map f) bs
  | [] => .nil
  | _ :: _ => .cons rfl A2.of_map
end WdQ

set_option Elab.async false
set_option linter.all false
set_option maxRecDepth 100000
set_option maxHeartbeats 4000000
namespace WdQ
open PySem PySem.Spec PyProof.Rows L2 WdM Wd
/-! ### rows (name, bottom), groups of them -/
def hasB (g : List (Str × Nat)) : Bool := decide (0 < g.length)
def wide (n : Nat) (r : Str × Nat) : Str × Nat := (r.1, r.2 * n)
def peN (gs : List (List (Str × Nat))) : List (Str × Nat) := ((gs.filter hasB).map fun g => g.map (wide (gs.filter hasB).length)).flatten
theorem flen {α β : Type} (f : List α → List β) (hf : ∀ g, (f g).length = g.length) : ∀ gs : List (List α), (gs.map f).flatten.length = gs.flatten.length
  | [] => rfl
  | g :: gs => by rw [List.map_cons, List.flatten_cons, List.flatten_cons, List.length_append, List.length_append, hf, flen f hf gs]
theorem ffil : ∀ gs : List (List (Str × Nat)), (gs.filter hasB).flatten = gs.flatten
  | [] => rfl
  | g :: gs => by
    by_cases h : hasB g = true
    · rw [List.filter_cons_of_pos h, List.flatten_cons, List.flatten_cons, ffil gs]
    · rw [List.filter_cons_of_neg h, List.flatten_cons, ffil gs]
      have : g = [] := by
        unfold hasB at h
        simp at h
        exact h
      rw [this]
      rfl
theorem peN_len (gs : List (List (Str × Nat))) : (peN gs).length = gs.flatten.length := by
  unfold peN
  rw [flen _ (fun g => List.length_map _), ffil]
/-! ### fractions in lowest terms, tables of them by names -/
abbrev Fr := Nat × Nat
def plusN (s : Fr) (m : Nat) : Fr := ((s.1 * m + s.2) / Nat.gcd (s.1 * m + s.2) (s.2 * m), (s.2 * m) / Nat.gcd (s.1 * m + s.2) (s.2 * m))
def lookF (kvs : List (Str × Fr)) (z : Str) : Option Fr := (kvs.find? fun kv => decide (kv.1 = z)).map (·.2)
def putF (kvs : List (Str × Fr)) (z : Str) (s : Fr) : List (Str × Fr) :=
  if (kvs.any fun kv => decide (kv.1 = z)) = true then kvs.map (fun kv => if kv.1 = z then (kv.1, s) else kv) else kvs ++ [(z, s)]
def addF (kvs : List (Str × Fr)) (r : Str × Nat) : List (Str × Fr) := putF kvs r.1 (plusN ((lookF kvs r.1).getD (0, 1)) r.2)
def sumN (rs : List (Str × Nat)) : List (Str × Fr) := rs.foldl addF []
/-- L is a multiple of what is below the line -/
def Be (L : Nat) (s : Fr) : Prop := 0 < s.2 ∧ Nat.gcd s.1 s.2 = 1 ∧ s.2 ∣ L
theorem be_zero {L : Nat} : Be L (0, 1) := ⟨by decide, by decide, Nat.one_dvd L⟩
theorem be_plus {L m : Nat} {s : Fr} (h : Be L s) (hm : m ∣ L) (m0 : 0 < m) : Be L (plusN s m) := by
  obtain ⟨b0, co, b1, hb⟩ := h
  obtain ⟨m1, hm⟩ := hm
  have x0 : 0 < s.2 * m := Nat.mul_pos b0 m0
  have g0 : 0 < Nat.gcd (s.1 * m + s.2) (s.2 * m) := Nat.gcd_pos_of_pos_right _ x0
  have g2 : Nat.gcd (s.1 * m + s.2) (s.2 * m) ∣ s.2 * m := Nat.gcd_dvd_right _ _
  have g1 : Nat.gcd (s.1 * m + s.2) (s.2 * m) ∣ s.1 * m + s.2 := Nat.gcd_dvd_left _ _
  have cop : Nat.gcd ((s.1 * m + s.2) / Nat.gcd (s.1 * m + s.2) (s.2 * m)) ((s.2 * m) / Nat.gcd (s.1 * m + s.2) (s.2 * m)) = 1 := Nat.coprime_div_gcd_div_gcd g0
  refine ⟨Nat.div_pos (Nat.le_of_dvd x0 g2) g0, cop, ?_⟩
  refine Nat.Coprime.dvd_of_dvd_mul_left (Nat.Coprime.symm cop) ?_
  refine Nat.dvd_of_mul_dvd_mul_left g0 ?_
  show Nat.gcd (s.1 * m + s.2) (s.2 * m) * ((s.2 * m) / Nat.gcd (s.1 * m + s.2) (s.2 * m)) ∣ _
  rw [Nat.mul_div_cancel' g2, ← Nat.mul_assoc, Nat.mul_div_cancel' g1]
  refine ⟨b1 * s.1 + m1, ?_⟩
  have e1 : s.1 * m * L = s.2 * m * (b1 * s.1) := by rw [hb]; ac_rfl
  have e2 : s.2 * L = s.2 * m * m1 := by rw [hm, Nat.mul_assoc]
  rw [Nat.add_mul, e1, e2, ← Nat.mul_add]
theorem put_keys (kvs : List (Str × Fr)) (z : Str) (s : Fr) : (putF kvs z s).map Prod.fst = if z ∈ kvs.map Prod.fst then kvs.map Prod.fst else kvs.map Prod.fst ++ [z] := by
  have e : (kvs.any fun kv => decide (kv.1 = z)) = true ↔ z ∈ kvs.map Prod.fst := by
    rw [List.any_eq_true, List.mem_map]
    constructor
    · rintro ⟨kv, h1, h2⟩
      exact ⟨kv, h1, by simpa using h2⟩
    · rintro ⟨kv, h1, h2⟩
      exact ⟨kv, h1, by simpa using h2⟩
  unfold putF
  by_cases c : z ∈ kvs.map Prod.fst
  · rw [if_pos (e.mpr c), if_pos c, List.map_map]
    refine List.map_congr_left fun kv _ => ?_
    show (if kv.1 = z then (kv.1, s) else kv).1 = kv.1
    split <;> rfl
  · rw [if_neg (fun h => c (e.mp h)), if_neg c, List.map_append]
    rfl
theorem add_nd {kvs : List (Str × Fr)} {r : Str × Nat} (h : (kvs.map Prod.fst).Nodup) : ((addF kvs r).map Prod.fst).Nodup := by
  unfold addF
  rw [put_keys]
  split
  · exact h
  · rename_i c
    rw [List.nodup_append]
    refine ⟨h, by simp, fun a ha b hb e => ?_⟩
    rw [List.mem_singleton.mp hb] at e
    exact c (e ▸ ha)
theorem sum_nd (rs : List (Str × Nat)) : ((sumN rs).map Prod.fst).Nodup := by
  have : ∀ (rs : List (Str × Nat)) (kvs : List (Str × Fr)), (kvs.map Prod.fst).Nodup → ((rs.foldl addF kvs).map Prod.fst).Nodup := by
    intro rs
    induction rs with
    | nil => intro kvs h; exact h
    | cons r rs ih => intro kvs h; exact ih _ (add_nd h)
  exact this rs [] List.nodup_nil
theorem look_at {ts : List (Str × Fr)} (nd : (ts.map Prod.fst).Nodup) {j : Nat} {r : Str × Fr} (h : ts[j]? = some r) : lookF ts r.1 = some r.2 := by
  induction ts generalizing j with
  | nil => cases h
  | cons t ts ih =>
    unfold lookF
    cases j with
    | zero =>
      cases h
      rw [List.find?_cons_of_pos (by simp)]
      rfl
    | succ j =>
      have hm : r ∈ ts := List.mem_of_getElem? (i := j) h
      have ne : ¬ t.1 = r.1 := fun e => by
        rw [List.map_cons, List.nodup_cons] at nd
        exact nd.1 (e ▸ List.mem_map_of_mem hm)
      rw [List.find?_cons_of_neg (by simpa using ne)]
      exact ih (List.nodup_cons.mp nd).2 (j := j) h
section
variable {K : PySem.W.Frag}
def FrAt (K : PySem.W.Frag) (H : Hp) (v : V) (s : Fr) : Prop := ∃ b, v = .ref b ∧ SqT K H b [.int (s.1 : Nat), .int (s.2 : Nat)]
theorem FrAt.tk {H H' : Hp} {v : V} {s : Fr} (h : FrAt K H v s) (e : Tk H H') : FrAt K H' v s := by
  obtain ⟨b, rfl, h⟩ := h
  exact ⟨b, rfl, e.sq h⟩
def KfAt (K : PySem.W.Frag) (H : Hp) (kv : Key × V) (r : Str × Fr) : Prop := kv.1 = .inr r.1 ∧ FrAt K H kv.2 r.2
theorem kfs_tk {H H' : Hp} {kvs : List (Key × V)} {rs : List (Str × Fr)} (h : A2 (KfAt K H) kvs rs) (e : Tk H H') : A2 (KfAt K H') kvs rs := h.imp fun _ _ h => ⟨h.1, h.2.tk e⟩
theorem key_iff {kv : Key × V} {x z : Str} (e : kv.1 = .inr x) : decide (kv.1 = (.inr z : Key)) = decide (x = z) := by
  rw [e]
  by_cases c : x = z
  · rw [c]; simp
  · rw [decide_eq_false c, decide_eq_false]
    intro h
    exact c (Sum.inr.inj h)
theorem kf_look {H : Hp} {z : Str} : ∀ {kvs : List (Key × V)} {rs : List (Str × Fr)}, A2 (KfAt K H) kvs rs → (valV kvs (.inr z : Key) = none ∧ lookF rs z = none) ∨ ∃ v s, valV kvs (.inr z : Key) = some v ∧ lookF rs z = some s ∧ FrAt K H v s
  | _, _, .nil => .inl ⟨rfl, rfl⟩
  | kv :: kvs, r :: rs, .cons h t => by
    by_cases c : r.1 = z
    · refine .inr ⟨kv.2, r.2, valV_pos (by rw [h.1, c]), ?_, h.2⟩
      unfold lookF
      rw [List.find?_cons_of_pos (by simpa using c)]
      rfl
    · have e : lookF (r :: rs) z = lookF rs z := by
        unfold lookF
        rw [List.find?_cons_of_neg (by simpa using c)]
      rw [e, valV_neg (by rw [h.1]; intro h; exact c (Sum.inr.inj h))]
      exact kf_look t
theorem kf_any {H : Hp} {z : Str} : ∀ {kvs : List (Key × V)} {rs : List (Str × Fr)}, A2 (KfAt K H) kvs rs → (kvs.any fun kv => decide (kv.1 = (.inr z : Key))) = rs.any fun r => decide (r.1 = z)
  | _, _, .nil => rfl
  | kv :: kvs, r :: rs, .cons h t => by rw [List.any_cons, List.any_cons, key_iff h.1, kf_any t]
theorem kf_put {H : Hp} {z : Str} {v : V} {s : Fr} {kvs : List (Key × V)} {rs : List (Str × Fr)} (h : A2 (KfAt K H) kvs rs) (hv : FrAt K H v s) : A2 (KfAt K H) (putK kvs (.inr z : Key) v) (putF rs z s) := by
  unfold putK putF
  rw [kf_any h]
  by_cases c : (rs.any fun r => decide (r.1 = z)) = true
  · rw [if_pos c, if_pos c]
    clear c
    induction h with
    | nil => exact .nil
    | cons a _ ih =>
      rename_i kv r kvs rs _
      rw [List.map_cons, List.map_cons]
      refine .cons ?_ ih
      by_cases e : r.1 = z
      · rw [if_pos e, if_pos (by rw [a.1, e])]
        exact ⟨a.1, hv⟩
      · rw [if_neg e, if_neg (by rw [a.1]; intro h; exact e (Sum.inr.inj h))]
        exact a
  · rw [if_neg c, if_neg c]
    exact h.snoc ⟨rfl, hv⟩
end
end WdQ

set_option Elab.async false
set_option linter.all false
set_option maxRecDepth 100000
set_option maxHeartbeats 4000000
namespace Wd
open PySem PySem.Spec PyProof.Rows L2 WdM
/-! ### clean data: tuples of small letters -/
def okL (x : Str) : Prop := ∀ c ∈ x.cps.toList, letB c = true
def Cl : Nat → PyData → Prop
  | _, .none => False
  | _, .bool _ => False
  | _, .int _ => False
  | _, .str x => okL x ∧ x.length ≤ 9
  | _, .list _ => False
  | 0, .tuple _ => False
  | n + 1, .tuple ds => ds.length ≤ 7 ∧ ∀ d ∈ ds, Cl n d
  | _, .dict _ => False
theorem let_lt : ∀ c ∈ lettersS.cps.toList, c < 128 := by decide +kernel
theorem okL.ok {x : Str} (h : okL x) : okS x := fun c hc => Nat.lt_trans (let_lt c (of_decide_eq_true (h c hc))) (by decide)
theorem Cl.str {n : Nat} {x : Str} (h : Cl n (.str x)) : okL x ∧ x.length ≤ 9 := by cases n <;> exact h
theorem Cl.of_str {n : Nat} {x : Str} (h : okL x ∧ x.length ≤ 9) : Cl n (.str x) := by cases n <;> exact h
theorem Cl.fine {b : Bool} : ∀ {n : Nat} {d : PyData}, Cl n d → Fine b n d
  | n, .none, h => by cases n <;> exact h.elim
  | n, .bool _, h => by cases n <;> exact h.elim
  | n, .int _, h => by cases n <;> exact h.elim
  | n, .str x, h => by
    have := h.str
    have : okS x ∧ x.length ≤ 30 := ⟨this.1.ok, by omega⟩
    cases n <;> exact this
  | n, .list _, h => by cases n <;> exact h.elim
  | n, .dict _, h => by cases n <;> exact h.elim
  | 0, .tuple _, h => h.elim
  | n + 1, .tuple ds, h => ⟨by have := h.1; omega, fun d hd => (h.2 d hd).fine⟩
/-- a clean value -/
def Cz (K : PySem.W.Frag) (n : Nat) (H : Hp) (v : V) : Prop := ∃ d, Dz [] K H v d ∧ Cl n d
section
variable {K : PySem.W.Frag} {S S' : List Addr}
theorem cl_tk {H H' : Hp} (e : Tk H H') : ∀ {n : Nat} {v : V} {d : PyData}, Cl n d → Dz S K H v d → Dz S' K H' v d := by
  intro n
  induction n with
  | zero =>
    intro v d c h
    cases h with
    | str x => exact .str x
    | _ => exact c.elim
  | succ n ih =>
    intro v d c h
    have all : ∀ {xs : List V} {ds : List PyData}, (∀ d ∈ ds, Cl n d) → DzAll S K H xs ds → DzAll S' K H' xs ds := by
      intro xs
      induction xs with
      | nil =>
        intro ds _ h
        cases h
        exact .nil
      | cons x xs ih2 =>
        intro ds hc h
        cases h with
        | cons h t => exact .cons (ih (hc _ List.mem_cons_self) h) (ih2 (fun d hd => hc d (List.mem_cons_of_mem _ hd)) t)
    cases h with
    | str x => exact .str x
    | tup h t => exact .tup (e.sq h) (all c.2 t)
    | _ => exact c.elim
theorem Cz.tk {H H' : Hp} {n : Nat} {v : V} (h : Cz K n H v) (e : Tk H H') : Cz K n H' v := by
  obtain ⟨d, h, c⟩ := h
  exact ⟨d, cl_tk e c h, c⟩
/-- a value of small data: lists where b, else dicts -/
def Bz (K : PySem.W.Frag) (S : List Addr) (b : Bool) (n : Nat) (H : Hp) (v : V) : Prop := ∃ d, Dz S K H v d ∧ Fine b n d
theorem Cz.bz {H : Hp} {n : Nat} {v : V} {b : Bool} (h : Cz K n H v) : Bz K S b n H v := by
  obtain ⟨d, h, c⟩ := h
  exact ⟨d, cl_tk (Tk.refl H) c h, c.fine⟩
theorem Bz.same {H H' : Hp} {n : Nat} {v : V} {b : Bool} (h : Bz K S b n H v) (e : Same H H') : Bz K S b n H' v := by
  obtain ⟨d, h, c⟩ := h
  exact ⟨d, h.same e, c⟩
theorem Bz.mono {H : Hp} {n m : Nat} {v : V} {b : Bool} (h : Bz K S b n H v) (l : n ≤ m) : Bz K S b m H v := by
  obtain ⟨d, h, c⟩ := h
  exact ⟨d, h, c.mono l⟩
theorem Bz.bt {H H' : Hp} {n : Nat} {v : V} {b : Bool} (h : Bz K S b n H v) (e : Bt S H H') (hl : ∀ a ∈ S, ∃ zs, H a = some (.lst zs)) : Bz K S b n H' v := by
  obtain ⟨d, h, c⟩ := h
  exact ⟨d, dz_stay (stay_bt e hl) h, c⟩
theorem Bz.less {H : Hp} {n : Nat} {v : V} {b : Bool} (h : Bz K S b n H v) : Bz K [] b n H v := by
  obtain ⟨d, h, c⟩ := h
  exact ⟨d, h.less, c⟩
theorem bz_all {H : Hp} {n : Nat} {b : Bool} : ∀ {xs : List V}, (∀ x ∈ xs, Bz K S b n H x) → ∃ ds, DzAll S K H xs ds ∧ ∀ d ∈ ds, Fine b n d
  | [], _ => ⟨[], .nil, fun _ h => nomatch h⟩
  | x :: xs, h => by
    obtain ⟨d, h1, f1⟩ := h x List.mem_cons_self
    obtain ⟨ds, h2, f2⟩ := bz_all (xs := xs) fun y hy => h y (List.mem_cons_of_mem _ hy)
    exact ⟨d :: ds, .cons h1 h2, fun e he => (List.mem_cons.mp he).elim (fun z => z ▸ f1) (f2 e)⟩
theorem bz_tup {H : Hp} {n : Nat} {b : Bool} {a : Addr} {xs : List V} (h : SqT K H a xs) (l : xs.length ≤ 8) (e : ∀ x ∈ xs, Bz K S b n H x) : Bz K S b (n + 1) H (.ref a) := by
  obtain ⟨ds, h1, f1⟩ := bz_all e
  exact ⟨.tuple ds, .tup h h1, by rw [← h1.len]; exact l, f1⟩
theorem bz_lst {H : Hp} {n : Nat} {a : Addr} {xs : List V} (na : a ∉ S) (h : SqL K H a xs) (l : xs.length ≤ 8) (e : ∀ x ∈ xs, Bz K S true n H x) : Bz K S true (n + 1) H (.ref a) := by
  obtain ⟨ds, h1, f1⟩ := bz_all e
  exact ⟨.list ds, .lst na h h1, rfl, by rw [← h1.len]; exact l, f1⟩
theorem cz_all {H : Hp} {n : Nat} : ∀ {xs : List V}, (∀ x ∈ xs, Cz K n H x) → ∃ ds, DzAll [] K H xs ds ∧ ∀ d ∈ ds, Cl n d
  | [], _ => ⟨[], .nil, fun _ h => nomatch h⟩
  | x :: xs, h => by
    obtain ⟨d, h1, f1⟩ := h x List.mem_cons_self
    obtain ⟨ds, h2, f2⟩ := cz_all (xs := xs) fun y hy => h y (List.mem_cons_of_mem _ hy)
    exact ⟨d :: ds, .cons h1 h2, fun e he => (List.mem_cons.mp he).elim (fun z => z ▸ f1) (f2 e)⟩
theorem cz_tup {H : Hp} {n : Nat} {a : Addr} {xs : List V} (h : SqT K H a xs) (l : xs.length ≤ 7) (e : ∀ x ∈ xs, Cz K n H x) : Cz K (n + 1) H (.ref a) := by
  obtain ⟨ds, h1, f1⟩ := cz_all e
  exact ⟨.tuple ds, .tup h h1, by rw [← h1.len]; exact l, f1⟩
theorem cz_str {H : Hp} {n : Nat} {z : Str} (h : okL z ∧ z.length ≤ 9) : Cz K n H (.str z) := ⟨.str z, .str z, Cl.of_str h⟩
/-- a clean value is a text or a tuple of clean ones -/
theorem cz_cases {H : Hp} {n : Nat} {v : V} (h : Cz K n H v) : (∃ z, v = .str z ∧ okL z ∧ z.length ≤ 9) ∨ ∃ (m : Nat) (a : Addr) (xs : List V), n = m + 1 ∧ v = .ref a ∧ SqT K H a xs ∧ xs.length ≤ 7 ∧ ∀ x ∈ xs, Cz K m H x := by
  obtain ⟨d, h, c⟩ := h
  cases h with
  | str x => exact .inl ⟨x, rfl, c.str⟩
  | tup h t =>
    cases n with
    | zero => exact c.elim
    | succ m =>
      refine .inr ⟨m, _, _, rfl, rfl, h, by rw [t.len]; exact c.1, fun x hx => ?_⟩
      obtain ⟨i, hi⟩ := List.mem_iff_getElem?.mp hx
      obtain ⟨e, he, q⟩ := t.get hi
      exact ⟨e, q, c.2 e (List.mem_of_getElem? he)⟩
  | non => cases n <;> exact c.elim
  | bl => cases n <;> exact c.elim
  | int => cases n <;> exact c.elim
  | lst => cases n <;> exact c.elim
  | nod => cases n <;> exact c.elim
theorem cl_dp {H : Hp} : ∀ {n : Nat} {v : V} {d : PyData}, Cl n d → Dz S K H v d → Dp K H v d := by
  intro n
  induction n with
  | zero =>
    intro v d c h
    cases h with
    | str x => exact .str x
    | _ => exact c.elim
  | succ n ih =>
    intro v d c h
    have all : ∀ {xs : List V} {ds : List PyData}, (∀ d ∈ ds, Cl n d) → DzAll S K H xs ds → DpAll K H xs ds := by
      intro xs
      induction xs with
      | nil =>
        intro ds _ h
        cases h
        exact .nil
      | cons x xs ih2 =>
        intro ds hc h
        cases h with
        | cons h t => exact .cons (ih (hc _ List.mem_cons_self) h) (ih2 (fun d hd => hc d (List.mem_cons_of_mem _ hd)) t)
    cases h with
    | str x => exact .str x
    | tup h t => exact .tup h (all c.2 t)
    | _ => exact c.elim
end
theorem strOk_of {x : Str} (h : okS x) : PyData.strOk x = true := by
  unfold PyData.strOk
  rw [Array.all_eq_true']
  intro c hc
  exact decide_eq_true (h c (Array.mem_toList_iff.mpr hc))
theorem canLayAll_of : ∀ {ds : List PyData}, (∀ d ∈ ds, PyData.canLay0 d = true) → PyData.canLayAll0 ds = true
  | [], _ => by simp [PyData.canLayAll0]
  | d :: ds, h => by
    simp only [PyData.canLayAll0, h d List.mem_cons_self, Bool.true_and]
    exact canLayAll_of fun x hx => h x (List.mem_cons_of_mem _ hx)
theorem cl_lay : ∀ {n : Nat} {d : PyData}, Cl n d → PyData.canLay0 d = true := by
  intro n
  induction n with
  | zero =>
    intro d c
    cases d with
    | str x => simp only [PyData.canLay0]; exact strOk_of c.1.ok
    | _ => exact c.elim
  | succ n ih =>
    intro d c
    cases d with
    | str x => simp only [PyData.canLay0]; exact strOk_of c.1.ok
    | tuple ds => simp only [PyData.canLay0]; exact canLayAll_of fun d hd => ih (c.2 d hd)
    | _ => exact c.elim
theorem cl_shaped {n : Nat} {d : PyData} (c : Cl n d) (hn : n ≤ 64) : SeqAt.shaped d = true := by
  unfold SeqAt.shaped
  rw [cl_lay c, decide_eq_true (Nat.le_trans (c.fine (b := true)).shown.2.2.1 hn)]
  rfl
/-! ### great letters -/
theorem up_lt : ∀ c ∈ lettersS.cps.toList, ∀ e ∈ Unicode.upperOf c, e < 1114112 := by decide +kernel
theorem up_ok {x : Str} (h : okL x) : okS (Txt.upper x) := by
  intro e he
  have he : e ∈ (Txt.upper x).cps := Array.mem_toList_iff.mp he
  unfold Txt.upper placed at he
  obtain ⟨ys, hy, hm⟩ := Array.mem_flatten.mp he
  obtain ⟨i, hi, rfl⟩ := Array.mem_mapIdx.mp hy
  exact up_lt _ (of_decide_eq_true (h _ (Array.mem_toList_iff.mpr (Array.getElem_mem hi)))) e (by simpa using hm)
/-! ### cuts of a list -/
theorem cut_front {xs : List V} {k : Nat} (h : k ≤ xs.length) : cutV xs none (some (k : Int)) = xs.take k := by
  unfold cutV
  rw [HT.sIx_none, HT.sIx_nat, Nat.min_eq_left h]
  simp
theorem cut_back {xs : List V} {k : Nat} (h : k ≤ xs.length) : cutV xs (some (k : Int)) none = xs.drop k := by
  unfold cutV
  rw [HT.sIx_none, HT.sIx_nat, Nat.min_eq_left h]
  rw [List.take_of_length_le (by rw [List.length_drop]; omega)]
theorem cut_mem {xs : List V} {lo hi : Option Int} {x : V} (h : x ∈ cutV xs lo hi) : x ∈ xs := by
  unfold cutV at h
  exact List.mem_of_mem_drop (List.mem_of_mem_take h)
end Wd

set_option Elab.async false
set_option linter.all false
set_option maxRecDepth 100000
set_option maxHeartbeats 4000000
namespace Wd
open PySem PySem.Spec PyProof.Rows L2 WdM
/-! ### data whose texts and tuples aren't too long -/
def Sm : Nat → PyData → Prop
  | _, .none => True
  | _, .bool _ => True
  | _, .int _ => True
  | _, .str x => x.length ≤ 100
  | 0, .list _ => False
  | 0, .tuple _ => False
  | 0, .dict _ => False
  | n + 1, .list ds => ∀ d ∈ ds, Sm n d
  | n + 1, .tuple ds => ds.length ≤ 100 ∧ ∀ d ∈ ds, Sm n d
  | _ + 1, .dict _ => True
def Sml (d : PyData) : Prop := ∃ n, Sm n d
theorem Sml.short {d : PyData} (h : Sml d) : Short d := fun z e => by
  subst e
  obtain ⟨n, h⟩ := h
  have h : z.length ≤ 100 := by cases n <;> exact h
  omega
theorem Sml.mem {ds : List PyData} {d : PyData} (h : Sml (.tuple ds)) (m : d ∈ ds) : Sml d := by
  obtain ⟨n, h⟩ := h
  cases n with
  | zero => exact h.elim
  | succ n => exact ⟨n, h.2 d m⟩
theorem Sml.len {ds : List PyData} (h : Sml (.tuple ds)) : ds.length ≤ 100 := by
  obtain ⟨n, h⟩ := h
  cases n with
  | zero => exact h.elim
  | succ n => exact h.1
theorem sm_up {n : Nat} : ∀ {d : PyData}, Sm n d → Sm (n + 1) d := by
  induction n with
  | zero =>
    intro d h
    cases d with
    | none => trivial
    | bool _ => trivial
    | int _ => trivial
    | str _ => exact h
    | _ => exact h.elim
  | succ n ih =>
    intro d h
    cases d with
    | none => trivial
    | bool _ => trivial
    | int _ => trivial
    | str _ => exact h
    | list ds => exact fun d hd => ih (h d hd)
    | tuple ds => exact ⟨h.1, fun d hd => ih (h.2 d hd)⟩
    | dict _ => trivial
theorem sm_mono {n m : Nat} {d : PyData} (h : Sm n d) (l : n ≤ m) : Sm m d := by
  induction l with
  | refl => exact h
  | step _ ih => exact sm_up ih
theorem dz_int {S : List Addr} {K : PySem.W.Frag} {H : Hp} {v : V} {i : Int} (h : Dz S K H v (.int i)) : v = .int i := by cases h; rfl
/-! ### t == (), whatever t holds -/
def rEqNil (K : PySem.W.Frag) : R2 := fun x y H Q => ∃ a b xs, x = .ref a ∧ y = .ref b ∧ SqT K H a xs ∧ SqT K H b [] ∧ Q (.bl (decide (xs = []))) H
theorem op_eqNil {X : Cx} (hu : X.A.units + 64 < cLine) : OpR X (compareOp .Eq) (rEqNil X.K) := by
  rintro pins s σ H _ _ v u Q I rx ry ⟨a, b, xs, rfl, rfl, ha, hb, q⟩
  cases rx
  cases ry
  obtain ⟨i1, r1, p1, _⟩ := I.tuple ha
  obtain ⟨i2, r2, p2, _⟩ := I.tuple hb
  cases r2
  refine SeqAt.eq_tupleAt (e := fun _ => true) p1 p2 (by omega) (fun j _ h2 => absurd h2 (by simp)) ⟨.bl (decide (xs = [])), H, I, ?_, q⟩
  show Value.bool _ = Value.bool _
  have e := r1.length
  congr 1
  cases xs with
  | nil =>
    cases r1
    simp
  | cons x xs =>
    cases r1
    simp
/-! ### t[1:] -/
theorem cut_tup1 {K : PySem.W.Frag} {σ : L2.St} {H : Hp} {a : Addr} {xs : List V} {Q : VK} (ha : SqT K H a xs) (l : 1 ≤ xs.length) (q : ∀ p H', Same H H' → SqT K H' p (xs.drop 1) → Q (.ref p) H') : tNoPart σ H fun u H3 => rSlA K (.ref a) (some 1) u H3 Q := by
  have e : cutV xs (some 1) none = xs.drop 1 := cut_back (k := 1) l
  refine ⟨a, xs, rfl, ha, fun ⟨e1, _⟩ => ?_, fun _ p np => q p _ (same_new np) (by rw [← e]; exact sqT upd_same)⟩
  have e2 : HT.sIx xs.length 0 (some ((1 : Nat) : Int)) = 0 := e1
  rw [HT.sIx_nat] at e2
  omega
/-! ### two sources in one comprehension -/
section
variable {J J1 : It} {n : Nat} {G : Hp → Prop} {Y : Nat → Hp → V → Hp → Prop}
theorem lc_outer (w : Walk J n G Y) {g : TG} {tt : TT} {B : (Hp → Prop) → L2.St → Hp → Prop} {vs : List Nat} {σ : L2.St} {H1 : Hp} {D : Addr} {Qd : Hp → Prop} (Pv : Nat → Hp → Prop) (h0 : Pv 0 (upd H1 D (.lst []))) (hG : ∀ i H, i ≤ n → Pv i H → G H)
    (hs : ∀ i x H H', i < n → Pv i H → Y i H x H' → g x (wipe σ vs) H' fun σ2 H2 => wipe σ2 vs = wipe σ vs ∧ tt σ2 H2 fun b H3 => if b = true then B (Pv (i + 1)) σ2 H3 else Pv (i + 1) H3) (hd : ∀ H, Pv n H → Qd H) :
    ∃ W : Nat → Nat → Hp → Prop, (∃ m, W 0 m (upd H1 D (.lst []))) ∧ ∀ i m H, W i m H → (J.stop i H ∧ Qd H) ∨ (J.go i H ∧ ∃ Nx : Hp → Prop, (∀ H', Nx H' → ∃ m', m' < m ∧ W (i + 1) m' H') ∧ ∀ x H', J.yld i H x H' → g x (wipe σ vs) H' fun σ2 H2 => wipe σ2 vs = wipe σ vs ∧ tt σ2 H2 fun b H3 => if b = true then B Nx σ2 H3 else Nx H3) := by
  refine ⟨fun i m H => m = n - i ∧ i ≤ n ∧ Pv i H, ⟨n, rfl, Nat.zero_le _, h0⟩, ?_⟩
  rintro i _ H ⟨rfl, hi, p⟩
  have g0 := hG i H hi p
  by_cases hlt : i < n
  · exact .inr ⟨w.goes i H hlt g0, Pv (i + 1), fun H' p' => ⟨n - (i + 1), by omega, rfl, hlt, p'⟩, fun x H' y => hs i x H H' hlt p (w.yields i H x H' hlt g0 y)⟩
  · obtain rfl : i = n := by omega
    exact .inl ⟨w.stops H g0, hd H p⟩
theorem lc_inner (w : Walk J n G Y) {g : TG} {tt : TT} {te : TE} {vs : List Nat} {σ : L2.St} {H1 : Hp} {D : Addr} {Nx : Hp → Prop} (Pv : Nat → Hp → Prop) (h0 : Pv 0 H1) (hG : ∀ i H, i ≤ n → Pv i H → G H)
    (hs : ∀ i x H H', i < n → Pv i H → Y i H x H' → g x (wipe σ vs) H' fun σ3 H5 => wipe σ3 vs = wipe σ vs ∧ tt σ3 H5 fun b H6 => if b = true then te σ3 H6 fun y H7 => ∃ acc, H7 D = some (.lst acc) ∧ acc.length < sizeLine ∧ Pv (i + 1) (upd H7 D (.lst (acc ++ [y]))) else Pv (i + 1) H6) (hd : ∀ H, Pv n H → Nx H) :
    ∃ W1 : Nat → Nat → Hp → Prop, (∃ m, W1 0 m H1) ∧ ∀ j k H, W1 j k H → (J.stop j H ∧ Nx H) ∨ (J.go j H ∧ ∃ Nx1 : Hp → Prop, (∀ H', Nx1 H' → ∃ k', k' < k ∧ W1 (j + 1) k' H') ∧ ∀ x H', J.yld j H x H' → g x (wipe σ vs) H' fun σ3 H5 => wipe σ3 vs = wipe σ vs ∧ tt σ3 H5 fun b H6 => if b = true then te σ3 H6 fun y H7 => ∃ acc, H7 D = some (.lst acc) ∧ acc.length < sizeLine ∧ Nx1 (upd H7 D (.lst (acc ++ [y]))) else Nx1 H6) := by
  refine ⟨fun i m H => m = n - i ∧ i ≤ n ∧ Pv i H, ⟨n, rfl, Nat.zero_le _, h0⟩, ?_⟩
  rintro i _ H ⟨rfl, hi, p⟩
  have g0 := hG i H hi p
  by_cases hlt : i < n
  · exact .inr ⟨w.goes i H hlt g0, Pv (i + 1), fun H' p' => ⟨n - (i + 1), by omega, rfl, hlt, p'⟩, fun x H' y => hs i x H H' hlt p (w.yields i H x H' hlt g0 y)⟩
  · obtain rfl : i = n := by omega
    exact .inl ⟨w.stops H g0, hd H p⟩
end
end Wd

set_option Elab.async false
set_option linter.all false
set_option maxRecDepth 100000
set_option maxHeartbeats 4000000
set_option exponentiation.threshold 5000
namespace WdQ
open PySem PySem.Spec PyProof.Rows L2 WdM Wd
def topS (i : Nat) : Stmt := PySem.Challenge.pw_willdealt_k18_whole_takers_hang_together.main.body.getD i (.Pass ⟨0, 0, 0, 0⟩)
abbrev sName : Stmt := topS 25
theorem scName : FnScope ["thing", "sign"] ["thing"] (defScope sName) := ⟨rfl, rfl, rfl, by decide +kernel, rfl, by decide +kernel, by decide +kernel⟩
/-- what the top holds for names -/
structure NmF (K : PySem.W.Frag) (mg : Str → Option Value) (aW : Addr) : Prop where
  gL : ∃ t, mg "LETTERS" = some (.str lettersS t)
  gN : ∃ t, mg "LONGEST" = some (.int 8 t)
  gW : mg "WORDS" = some (.ref aW)
  tW : ∀ H, SqT K H aW noNames
section
variable {P : Program} {w : World} {K : PySem.W.Frag} {mg : Str → Option Value} {base : Heap}
def spName (K : PySem.W.Frag) : Sp := fun vs H Q _ => ∃ (v : V) (d : PyData), vs = [v] ∧ Is K H v d ∧ Short d ∧ ∀ H', Same H H' → Q (.bl (nameB d)) H'
theorem ok_name {f : Addr} {fd : FuncData} {k : Nat} {aW : Addr} (B : Bi mg) (T : NmF K mg aW) (D : Df K mg "is_name" sName f fd ["thing"]) : FnOk P w K mg base CX0 (k + 1) f fd ["thing"] (spName K) := by
  refine D.fn.ok scName (fun vs H Q E h => ?_) (fun cdv A outer s H vs Q E hr h => ?_)
  · obtain ⟨v, d, rfl, _⟩ := h
    rfl
  · obtain ⟨v, d, rfl, th, sk, q⟩ := h
    obtain ⟨tL, gL⟩ := T.gL
    obtain ⟨tN, gN⟩ := T.gN
    refine ⟨_, pss_cons (ps_if (PW.pt (pw_or (pt_not (pt_val (pe_callB call_isi (by rfl) B.isi boot_isinstance (pa_cons (pv 0) (pa_cons (pe_bltn (v := .ty "str") (by rfl) B.str boot_str rfl) pa_nil)))))
          (pw_or1 (pt_not (pt_chain op_le op_le pe_int (pe_callB call_len_str (by rfl) B.len PySem.boot_len (pa_cons (pv 0) pa_nil)) (pe_glob (v := .int 8) (by rfl) gN ⟨_, rfl⟩)))))) (pss_one (ps_ret pe_bl)) pss_nil)
      (pss_one (ps_ret (pe_and (pe_cmpR op_notIn_seq (pv 0) (pe_glob (v := .ref aW) (by rfl) T.gW rfl) (by rfl)) (pe_one (pe_callB (cr_all rfl) (by rfl) B.all (by decide +kernel) (pa_cons
          (pe_lc (own := [("sign", 1)]) (g := gName 1) (tt := tYes) rfl scName.nd (pi_str (pv 0)) (blkOk_by (own := [("sign", 1)]) (N := ["thing", "sign"]) (sc := defScope sName) (by decide +kernel))
            (fun _ _ _ _ _ => pg_name (i := 1) scName.nd rfl (Or.inl rfl)) (fun _ _ _ _ _ => pts_nil)
            (fun _ _ _ _ _ => pe_cmpR op_in_sign (pv 1) (pe_glob (v := .str lettersS) (by rfl) gL ⟨_, rfl⟩) (by rfl))) pa_nil)))))), ?_⟩
    refine ⟨_, rfl, _, .ty "str", _, .type "str", _, rfl, .ty _, th.ty, kit_str d, _, rfl, ?_⟩
    by_cases hs : strB d = true
    · rw [hs]
      obtain ⟨z, rfl⟩ := str_of hs
      obtain rfl := th.str z rfl
      have zl := sk z rfl
      have no : ¬ (1 ≤ z.length ∧ z.length ≤ 8) → nameB (.str z) = false := fun e => by
        show (decide _ && _ && _) = false
        rw [decide_eq_false e]
        rfl
      refine iteF ⟨_, rfl, z, rfl, small_len zl, 1, _, rfl, rfl, _, rfl, ?_⟩
      by_cases l0 : 1 ≤ z.length
      · rw [decide_eq_true (show (1 : Int) ≤ (z.length : Int) by omega)]
        refine iteT ⟨_, 8, rfl, rfl, _, rfl, ?_⟩
        by_cases l1 : z.length ≤ 8
        · rw [decide_eq_true (show (z.length : Int) ≤ 8 by omega)]
          refine iteF ⟨_, rfl, aW, noNames, rfl, .inr (T.tW H), rfl, rfl, _, rfl, ?_⟩
          have yes : nameB (.str z) = (!inV (.str z) noNames && z.cps.toList.all letB) := by
            show (decide _ && _ && _) = _
            rw [decide_eq_true ⟨l0, l1⟩]
            rfl
          rw [yes] at q
          by_cases hi : inV (.str z) noNames = true
          · rw [hi] at q ⊢
            exact iteF (q H (Same.refl H))
          · have hi' : inV (.str z) noNames = false := by simpa using hi
            rw [hi'] at q ⊢
            refine iteT ⟨_, rfl, z, rfl, fun L nL => lc_it walk_str (fun i H' => H' L = some (.lst (((z.cps.toList.take i).map letB).map V.bl)) ∧ Same H H') ⟨upd_same, same_new nL⟩ (fun _ _ _ _ => trivial) ?_ ?_⟩
            · rintro i x H1 H' hx ⟨hL, sm⟩ ⟨rfl, c, hc, rfl⟩
              refine ⟨rfl, tyes (iteT ⟨_, rfl, c, lettersS, rfl, rfl, ?_⟩)⟩
              have hc' : z.cps.toList[i]? = some c := by simpa using hc
              refine ⟨_, hL, ?_, ?_, ?_⟩
              · rw [List.length_map, List.length_map, List.length_take]
                exact small1000 (by have := lt_get hc'; have : z.cps.toList.length = z.length := by simp [Str.length]
                                    omega)
              · rw [upd_same, take_more hc', List.map_append, List.map_append]
                rfl
              · exact ((Bt.of_same (S := []) sm).upd0 nL).same
            · rintro H' ⟨hL, sm⟩
              have e : z.cps.toList.take z.cps.size = z.cps.toList := List.take_of_length_le (by simp)
              rw [e] at hL
              refine ⟨L, _, rfl, sqL hL, ?_⟩
              have e2 : (z.cps.toList.map letB).all id = z.cps.toList.all letB := by rw [List.all_map]; rfl
              rw [e2]
              exact q H' sm
        · rw [decide_eq_false (show ¬ (z.length : Int) ≤ 8 by omega)]
          rw [no (fun e => l1 e.2)] at q
          exact iteT (q H (Same.refl H))
      · rw [decide_eq_false (show ¬ (1 : Int) ≤ (z.length : Int) by omega)]
        rw [no (fun e => l0 e.1)] at q
        exact iteF ⟨_, rfl, iteT (q H (Same.refl H))⟩
    · have hs' : strB d = false := by simpa using hs
      rw [hs']
      rw [name_no hs'] at q
      exact iteT (iteT (q H (Same.refl H)))
end
end WdQ

set_option Elab.async false
set_option linter.all false
set_option maxRecDepth 100000
set_option maxHeartbeats 4000000
set_option exponentiation.threshold 5000
namespace WdQ
open PySem PySem.Spec PyProof.Rows L2 WdM Wd
abbrev sWhole : Stmt := topS 14
abbrev sDay : Stmt := topS 19
theorem scWhole : FnScope ["thing"] ["thing"] (defScope sWhole) := ⟨rfl, rfl, rfl, by decide +kernel, rfl, by decide +kernel, by decide +kernel⟩
theorem scDay : FnScope ["thing"] ["thing"] (defScope sDay) := ⟨rfl, rfl, rfl, by decide +kernel, rfl, by decide +kernel, by decide +kernel⟩
def dayB : PyData → Bool
  | .int i => decide (-9999 ≤ i ∧ i ≤ 9999)
  | _ => false
theorem day_no {d : PyData} (h : wholeB d = false) : dayB d = false := by cases d <;> first | rfl | cases h
section
variable {P : Program} {w : World} {K : PySem.W.Frag} {mg : Str → Option Value} {base : Heap}
def spWhole (K : PySem.W.Frag) : Sp := fun vs H Q _ => ∃ (x : V) (d : PyData), vs = [x] ∧ Is K H x d ∧ Q (.bl (wholeB d)) H
theorem ok_whole {f : Addr} {fd : FuncData} {k : Nat} (B : Bi mg) (D : Df K mg "is_whole" sWhole f fd ["thing"]) : FnOk P w K mg base CX0 (k + 1) f fd ["thing"] (spWhole K) := by
  refine D.fn.ok scWhole (fun vs H Q E h => ?_) (fun cdv A outer s H vs Q E hr h => ?_)
  · obtain ⟨x, d, rfl, _⟩ := h
    rfl
  · obtain ⟨x, d, rfl, th, q⟩ := h
    obtain ⟨b1, b2, k1, k2, e⟩ := kit_whole (K := K) d
    rw [← e] at q
    refine ⟨_, pss_one (ps_ret (pe_and (pe_callB call_isi (by rfl) B.isi boot_isinstance (pa_cons (pv 0) (pa_cons (pe_bltn (v := .ty "int") (by rfl) B.int boot_int rfl) pa_nil)))
      (pe_one (pe_not (pe_callB call_isi (by rfl) B.isi boot_isinstance (pa_cons (pv 0) (pa_cons (pe_bltn (v := .ty "bool") (by rfl) B.bool boot_bool rfl) pa_nil))))))), ?_⟩
    refine ⟨x, rfl, x, .ty "int", _, _, b1, rfl, .ty _, th.ty, k1, b1, rfl, ?_⟩
    cases b1 with
    | false => exact iteF q
    | true => exact iteT ⟨x, rfl, x, .ty "bool", _, _, b2, rfl, .ty _, th.ty, k2, b2, rfl, q⟩
def spDay (K : PySem.W.Frag) : Sp := fun vs H Q _ => ∃ (S : List Addr) (v : V) (d : PyData), vs = [v] ∧ Dz S K H v d ∧ Q (.bl (dayB d)) H
theorem ok_day {f fW : Addr} {fd fdW : FuncData} {k : Nat} {tS : Tok} (B : Bi mg) (gS : mg "LAST_DAY" = some (.int 9999 tS)) (D : Df K mg "is_day" sDay f fd ["thing"]) (DW : Df K mg "is_whole" sWhole fW fdW ["thing"]) : FnOk P w K mg base CX0 (k + 2) f fd ["thing"] (spDay K) := by
  have GW : FnOk P w K mg base CX0 (k + 1) fW fdW ["thing"] (spWhole K) := ok_whole B DW
  refine D.fn.ok scDay (fun vs H Q E h => ?_) (fun cdv A outer s H vs Q E hr h => ?_)
  · obtain ⟨S, v, d, rfl, _⟩ := h
    rfl
  · obtain ⟨S, v, d, rfl, dz, q⟩ := h
    refine ⟨_, pss_one (ps_ret (pe_and (pe_call GW hr (by rfl) DW.mg DW.fn.kp DW.bd .nil pass0 (pa_cons (pv 0) pa_nil)) (pe_one (pe_chain op_le op_le (pe_un un_neg (pe_glob (v := .int 9999) (by rfl) gS ⟨_, rfl⟩)) (pv 0) (pe_glob (v := .int 9999) (by rfl) gS ⟨_, rfl⟩))))), ?_⟩
    refine ⟨_, rfl, v, d, rfl, dz.is, _, rfl, ?_⟩
    by_cases hw : wholeB d = true
    · rw [hw]
      obtain ⟨i, rfl⟩ := whole_of hw
      obtain rfl := dz_int dz
      have q : Q (.bl (decide (-9999 ≤ i ∧ i ≤ 9999))) H := q
      refine iteT ⟨9999, rfl, _, rfl, -9999, i, rfl, rfl, _, rfl, ?_⟩
      by_cases l0 : -9999 ≤ i
      · rw [decide_eq_true l0]
        refine iteT ⟨i, 9999, rfl, rfl, ?_⟩
        rw [show decide (-9999 ≤ i ∧ i ≤ 9999) = decide (i ≤ 9999) by simp [l0]] at q
        exact q
      · rw [decide_eq_false l0]
        rw [show decide (-9999 ≤ i ∧ i ≤ 9999) = false by simp [l0]] at q
        exact iteF q
    · have hw' : wholeB d = false := by simpa using hw
      rw [hw']
      rw [day_no hw'] at q
      exact iteF q
end
end WdQ

set_option Elab.async false
set_option linter.all false
set_option maxRecDepth 100000
set_option maxHeartbeats 4000000
set_option exponentiation.threshold 5000
namespace WdQ
open PySem PySem.Spec PyProof.Rows L2 WdM Wd
abbrev sWord : Stmt := topS 24
theorem scWord : FnScope ["thing", "words"] ["thing", "words"] (defScope sWord) := ⟨rfl, rfl, rfl, by decide +kernel, rfl, by decide +kernel, by decide +kernel⟩
def wordB (ws : List V) : PyData → Bool
  | .str z => inV (.str z) ws
  | _ => false
theorem word_no {ws : List V} {d : PyData} (h : strB d = false) : wordB ws d = false := by cases d <;> first | rfl | cases h
section
variable {P : Program} {w : World} {K : PySem.W.Frag} {mg : Str → Option Value} {base : Heap}
def spWord (K : PySem.W.Frag) : Sp := fun vs H Q _ => ∃ (v : V) (d : PyData) (a : Addr) (ws : List V), vs = [v, .ref a] ∧ Is K H v d ∧ (SqL K H a ws ∨ SqT K H a ws) ∧ ws.all flatV = true ∧ Q (.bl (wordB ws d)) H
theorem ok_word {f : Addr} {fd : FuncData} {k : Nat} (B : Bi mg) (D : Df K mg "is_word" sWord f fd ["thing", "words"]) : FnOk P w K mg base CX0 (k + 1) f fd ["thing", "words"] (spWord K) := by
  refine D.fn.ok scWord (fun vs H Q E h => ?_) (fun cdv A outer s H vs Q E hr h => ?_)
  · obtain ⟨v, d, a, ws, rfl, _⟩ := h
    rfl
  · obtain ⟨v, d, a, ws, rfl, th, hw, fl, q⟩ := h
    refine ⟨_, pss_one (ps_ret (pe_and (pe_callB call_isi (by rfl) B.isi boot_isinstance (pa_cons (pv 0) (pa_cons (pe_bltn (v := .ty "str") (by rfl) B.str boot_str rfl) pa_nil))) (pe_one (pe_cmpR op_in_seq (pv 0) (pv 1) (by rfl))))), ?_⟩
    refine ⟨_, rfl, _, .ty "str", _, .type "str", _, rfl, .ty _, th.ty, kit_str d, _, rfl, ?_⟩
    by_cases hs : strB d = true
    · rw [hs]
      obtain ⟨z, rfl⟩ := str_of hs
      obtain rfl := th.str z rfl
      exact iteT ⟨_, rfl, _, rfl, a, ws, rfl, hw, rfl, fl, q⟩
    · have hs' : strB d = false := by simpa using hs
      rw [hs']
      rw [word_no hs'] at q
      exact iteF q
end
end WdQ

set_option Elab.async false
set_option linter.all false
set_option maxRecDepth 100000
set_option maxHeartbeats 4000000
set_option exponentiation.threshold 5000
namespace WdQ
open PySem PySem.Spec PyProof.Rows L2 WdM Wd
abbrev sPart : Stmt := topS 41
abbrev sAlt : Stmt := topS 42
abbrev sWhom : Stmt := topS 43
theorem scPart : FnScope ["thing"] ["thing"] (defScope sPart) := ⟨rfl, rfl, rfl, by decide +kernel, rfl, by decide +kernel, by decide +kernel⟩
theorem scAlt : FnScope ["thing", "part"] ["thing"] (defScope sAlt) := ⟨rfl, rfl, rfl, by decide +kernel, rfl, by decide +kernel, by decide +kernel⟩
theorem scWhom : FnScope ["thing", "alternative"] ["thing"] (defScope sWhom) := ⟨rfl, rfl, rfl, by decide +kernel, rfl, by decide +kernel, by decide +kernel⟩
def partW : List V := [.str "one", .str "children", .str "stock"]
def partB : PyData → Bool
  | .tuple [a, n] => wordB partW a && nameB n
  | _ => false
def altB : PyData → Bool
  | .tuple ps => decide (1 ≤ ps.length ∧ ps.length ≤ 6) && ps.all partB
  | _ => false
def whomB : PyData → Bool
  | .tuple as => decide (1 ≤ as.length ∧ as.length ≤ 4) && as.all altB
  | _ => false
theorem part_no {d : PyData} (h : tupB d = false) : partB d = false := by cases d <;> first | rfl | cases h
theorem alt_no {d : PyData} (h : tupB d = false) : altB d = false := by cases d <;> first | rfl | cases h
theorem whom_no {d : PyData} (h : tupB d = false) : whomB d = false := by cases d <;> first | rfl | cases h
theorem part_len {ds : List PyData} (h : ds.length ≠ 2) : partB (.tuple ds) = false := by
  match ds with
  | [] => rfl
  | [_] => rfl
  | [_, _] => exact absurd rfl h
  | _ :: _ :: _ :: _ => rfl
/-- what the top holds for WHOMs -/
structure WhF (K : PySem.W.Frag) (mg : Str → Option Value) (aP : Addr) : Prop where
  gP : mg "PART_WORDS" = some (.ref aP)
  tP : ∀ H, SqT K H aP partW
  g6 : ∃ t, mg "MOST_PARTS" = some (.int 6 t)
  g4 : ∃ t, mg "MOST_ALTERNATIVES" = some (.int 4 t)
section
variable {P : Program} {w : World} {K : PySem.W.Frag} {mg : Str → Option Value} {base : Heap}
def spData (K : PySem.W.Frag) (f : PyData → Bool) : Sp := fun vs H Q _ => ∃ (S : List Addr) (v : V) (d : PyData), vs = [v] ∧ Dz S K H v d ∧ Sml d ∧ ∀ H', Same H H' → Q (.bl (f d)) H'
theorem ok_part {f fW fN aP : Addr} {fd fdW fdN : FuncData} {k : Nat} (B : Bi mg) (T : WhF K mg aP) (D : Df K mg "is_part" sPart f fd ["thing"]) (DW : Df K mg "is_word" sWord fW fdW ["thing", "words"]) (DN : Df K mg "is_name" sName fN fdN ["thing"])
    (GN : FnOk P w K mg base CX0 (k + 1) fN fdN ["thing"] (spName K)) : FnOk P w K mg base CX0 (k + 2) f fd ["thing"] (spData K partB) := by
  have GW : FnOk P w K mg base CX0 (k + 1) fW fdW ["thing", "words"] (spWord K) := ok_word B DW
  refine D.fn.ok scPart (fun vs H Q E h => ?_) (fun cdv A outer s H vs Q E hr h => ?_)
  · obtain ⟨S, v, d, rfl, _⟩ := h
    rfl
  · obtain ⟨S, v, d, rfl, dz, fin, q⟩ := h
    refine ⟨_, pss_cons (ps_if (PW.pt (pw_or (pt_not (pt_val (pe_callB call_isi (by rfl) B.isi boot_isinstance (pa_cons (pv 0) (pa_cons (pe_bltn (v := .ty "tuple") (by rfl) B.tuple boot_tuple rfl) pa_nil)))))
          (pw_or1 (pt_cmpR op_ne (pe_callB call_len_seq (by rfl) B.len PySem.boot_len (pa_cons (pv 0) pa_nil)) pe_int (nomark _))))) (pss_one (ps_ret pe_bl)) pss_nil)
      (pss_one (ps_ret (pe_and (pe_call GW hr (by rfl) DW.mg DW.fn.kp DW.bd .nil pass0 (pa_cons (pe_ix (r := rIxT K) ix_tup (pv 0) pe_int (fun _ _ => rfl)) (pa_cons (pe_glob (v := .ref aP) (by rfl) T.gP rfl) pa_nil)))
        (pe_one (pe_call GN hr (by rfl) DN.mg DN.fn.kp DN.bd .nil pass0 (pa_cons (pe_ix (r := rIxT K) ix_tup (pv 0) pe_int (fun _ _ => rfl)) pa_nil)))))), ?_⟩
    refine ⟨_, rfl, _, .ty "tuple", _, .type "tuple", _, rfl, .ty _, dz.ty, kit_tup d, _, rfl, ?_⟩
    by_cases ht : tupB d = true
    · rw [ht]
      obtain ⟨ds, rfl⟩ := tup_of ht
      obtain ⟨a, xs, rfl, hs, hd⟩ := dz_tup dz
      refine iteF ⟨_, rfl, a, _, rfl, .inr hs, rfl, _, rfl, ?_⟩
      by_cases hl : xs.length = 2
      · obtain ⟨x1, x2, d1, d2, rfl, rfl, h1, h2⟩ := hd.two hl
        refine iteF ⟨_, rfl, a, _, 0, x1, rfl, rfl, hs, atI_nat (j := 0) rfl, x1, d1, aP, partW, rfl, h1.is, .inr (T.tP H), rfl, _, rfl, ?_⟩
        have e : partB (.tuple [d1, d2]) = (wordB partW d1 && nameB d2) := rfl
        rw [e] at q
        by_cases hw : wordB partW d1 = true
        · rw [hw] at q ⊢
          exact iteT ⟨_, rfl, a, _, 1, x2, rfl, rfl, hs, atI_nat (j := 1) rfl, x2, d2, rfl, h2.is, (fin.mem (by simp)).short, fun H1 s1 => q H1 s1⟩
        · have hw' : wordB partW d1 = false := by simpa using hw
          rw [hw'] at q ⊢
          exact iteF (q H (Same.refl H))
      · have e : (!decide (V.int (xs.length : Nat) = V.int 2)) = true := by
          have : (xs.length : Int) ≠ 2 := by omega
          simpa using this
        rw [e]
        rw [part_len (by rw [← hd.len]; exact hl)] at q
        exact iteT (q H (Same.refl H))
    · have ht' : tupB d = false := by simpa using ht
      rw [ht']
      rw [part_no ht'] at q
      exact iteT (iteT (q H (Same.refl H)))
theorem all_len {f : PyData → Bool} {lo hi : Nat} {ds : List PyData} (h : ¬ (lo ≤ ds.length ∧ ds.length ≤ hi)) : (decide (lo ≤ ds.length ∧ ds.length ≤ hi) && ds.all f) = false := by
  rw [decide_eq_false h]
  rfl
theorem all_yes {f : PyData → Bool} {lo hi : Nat} {ds : List PyData} (h : lo ≤ ds.length ∧ ds.length ≤ hi) : (decide (lo ≤ ds.length ∧ ds.length ≤ hi) && ds.all f) = ds.all f := by
  rw [decide_eq_true h]
  rfl
theorem ok_alt {f fA aP : Addr} {fd fdA : FuncData} {k : Nat} (B : Bi mg) (T : WhF K mg aP) (D : Df K mg "is_alternative" sAlt f fd ["thing"]) (DA : Df K mg "is_part" sPart fA fdA ["thing"])
    (GA : FnOk P w K mg base CX0 (k + 2) fA fdA ["thing"] (spData K partB)) : FnOk P w K mg base CX0 (k + 3) f fd ["thing"] (spData K altB) := by
  obtain ⟨tM, gM⟩ := T.g6
  refine D.fn.ok scAlt (fun vs H Q E h => ?_) (fun cdv A outer s H vs Q E hr h => ?_)
  · obtain ⟨S, v, d, rfl, _⟩ := h
    rfl
  · obtain ⟨S, v, d, rfl, dz, fin, q⟩ := h
    refine ⟨_, pss_cons (ps_if (PW.pt (pw_or (pt_not (pt_val (pe_callB call_isi (by rfl) B.isi boot_isinstance (pa_cons (pv 0) (pa_cons (pe_bltn (v := .ty "tuple") (by rfl) B.tuple boot_tuple rfl) pa_nil)))))
          (pw_or1 (pt_not (pt_chain op_le op_le pe_int (pe_callB call_len_seq (by rfl) B.len PySem.boot_len (pa_cons (pv 0) pa_nil)) (pe_glob (v := .int 6) (by rfl) gM ⟨_, rfl⟩)))))) (pss_one (ps_ret pe_bl)) pss_nil)
      (pss_one (ps_ret (pe_callB (cr_all rfl) (by rfl) B.all (by decide +kernel) (pa_cons
          (pe_lc (own := [("part", 1)]) (g := gName 1) (tt := tYes) rfl scAlt.nd (pi_tup (pv 0)) (blkOk_by (own := [("part", 1)]) (N := ["thing", "part"]) (sc := defScope sAlt) (by decide +kernel))
            (fun _ _ _ _ _ => pg_name (i := 1) scAlt.nd rfl (Or.inl rfl)) (fun _ _ _ _ _ => pts_nil)
            (fun _ _ _ _ _ => pe_call GA hr (by rfl) DA.mg DA.fn.kp DA.bd .nil pass0 (pa_cons (pv 1) pa_nil))) pa_nil)))), ?_⟩
    refine ⟨_, rfl, _, .ty "tuple", _, .type "tuple", _, rfl, .ty _, dz.ty, kit_tup d, _, rfl, ?_⟩
    by_cases ht : tupB d = true
    · rw [ht]
      obtain ⟨ds, rfl⟩ := tup_of ht
      obtain ⟨a, xs, rfl, hs, hd⟩ := dz_tup dz
      have hlen := hd.len
      have q : ∀ H', Same H H' → Q (.bl (decide (1 ≤ ds.length ∧ ds.length ≤ 6) && ds.all partB)) H' := q
      refine iteF ⟨_, rfl, a, _, rfl, .inr hs, 1, _, rfl, rfl, _, rfl, ?_⟩
      by_cases l0 : 1 ≤ ds.length
      · rw [decide_eq_true (show (1 : Int) ≤ (xs.length : Int) by omega)]
        refine iteT ⟨_, 6, rfl, rfl, _, rfl, ?_⟩
        by_cases l1 : ds.length ≤ 6
        · rw [decide_eq_true (show (xs.length : Int) ≤ 6 by omega)]
          rw [all_yes ⟨l0, l1⟩] at q
          refine iteF ⟨_, rfl, a, rfl, ⟨xs, hs⟩, fun L nL => lc_tup (K := K) (a := a) (xs := xs) (fun i H' => H' L = some (.lst (((ds.take i).map partB).map V.bl)) ∧ Same H H') ⟨upd_same, same_new nL⟩ (fun i H' _ h => tk_same h.2 |>.sq hs) ?_ ?_⟩
          · rintro i x H' hx ⟨hL, sm⟩
            obtain ⟨e, he, dx⟩ := hd.get hx
            have il := lt_get hx
            refine ⟨rfl, tyes (iteT ⟨_, rfl, S, x, e, rfl, dx.same sm, fin.mem (List.mem_of_getElem? he), fun H2 s2 => ?_⟩)⟩
            refine ⟨_, s2 _ _ hL, ?_, ?_, ?_⟩
            · rw [List.length_map, List.length_map, List.length_take]
              exact small1000 (by omega)
            · rw [upd_same, take_more he, List.map_append, List.map_append]
              rfl
            · exact ((Bt.of_same (S := []) (sm.trans s2)).upd0 nL).same
          · rintro H' ⟨hL, sm⟩
            rw [hlen, List.take_length] at hL
            refine ⟨L, _, rfl, sqL hL, ?_⟩
            rw [show (ds.map partB).all id = ds.all partB by rw [List.all_map]; rfl]
            exact q H' sm
        · rw [decide_eq_false (show ¬ (xs.length : Int) ≤ 6 by omega)]
          rw [all_len (fun e => l1 e.2)] at q
          exact iteT (q H (Same.refl H))
      · rw [decide_eq_false (show ¬ (1 : Int) ≤ (xs.length : Int) by omega)]
        rw [all_len (fun e => l0 e.1)] at q
        exact iteF ⟨_, rfl, iteT (q H (Same.refl H))⟩
    · have ht' : tupB d = false := by simpa using ht
      rw [ht']
      rw [alt_no ht'] at q
      exact iteT (iteT (q H (Same.refl H)))
theorem ok_whom {f fA aP : Addr} {fd fdA : FuncData} {k : Nat} (B : Bi mg) (T : WhF K mg aP) (D : Df K mg "is_whom" sWhom f fd ["thing"]) (DA : Df K mg "is_alternative" sAlt fA fdA ["thing"])
    (GA : FnOk P w K mg base CX0 (k + 3) fA fdA ["thing"] (spData K altB)) : FnOk P w K mg base CX0 (k + 4) f fd ["thing"] (spData K whomB) := by
  obtain ⟨tM, gM⟩ := T.g4
  refine D.fn.ok scWhom (fun vs H Q E h => ?_) (fun cdv A outer s H vs Q E hr h => ?_)
  · obtain ⟨S, v, d, rfl, _⟩ := h
    rfl
  · obtain ⟨S, v, d, rfl, dz, fin, q⟩ := h
    refine ⟨_, pss_cons (ps_if (PW.pt (pw_or (pt_not (pt_val (pe_callB call_isi (by rfl) B.isi boot_isinstance (pa_cons (pv 0) (pa_cons (pe_bltn (v := .ty "tuple") (by rfl) B.tuple boot_tuple rfl) pa_nil)))))
          (pw_or1 (pt_not (pt_chain op_le op_le pe_int (pe_callB call_len_seq (by rfl) B.len PySem.boot_len (pa_cons (pv 0) pa_nil)) (pe_glob (v := .int 4) (by rfl) gM ⟨_, rfl⟩)))))) (pss_one (ps_ret pe_bl)) pss_nil)
      (pss_one (ps_ret (pe_callB (cr_all rfl) (by rfl) B.all (by decide +kernel) (pa_cons
          (pe_lc (own := [("alternative", 1)]) (g := gName 1) (tt := tYes) rfl scWhom.nd (pi_tup (pv 0)) (blkOk_by (own := [("alternative", 1)]) (N := ["thing", "alternative"]) (sc := defScope sWhom) (by decide +kernel))
            (fun _ _ _ _ _ => pg_name (i := 1) scWhom.nd rfl (Or.inl rfl)) (fun _ _ _ _ _ => pts_nil)
            (fun _ _ _ _ _ => pe_call GA hr (by rfl) DA.mg DA.fn.kp DA.bd .nil pass0 (pa_cons (pv 1) pa_nil))) pa_nil)))), ?_⟩
    refine ⟨_, rfl, _, .ty "tuple", _, .type "tuple", _, rfl, .ty _, dz.ty, kit_tup d, _, rfl, ?_⟩
    by_cases ht : tupB d = true
    · rw [ht]
      obtain ⟨ds, rfl⟩ := tup_of ht
      obtain ⟨a, xs, rfl, hs, hd⟩ := dz_tup dz
      have hlen := hd.len
      have q : ∀ H', Same H H' → Q (.bl (decide (1 ≤ ds.length ∧ ds.length ≤ 4) && ds.all altB)) H' := q
      refine iteF ⟨_, rfl, a, _, rfl, .inr hs, 1, _, rfl, rfl, _, rfl, ?_⟩
      by_cases l0 : 1 ≤ ds.length
      · rw [decide_eq_true (show (1 : Int) ≤ (xs.length : Int) by omega)]
        refine iteT ⟨_, 4, rfl, rfl, _, rfl, ?_⟩
        by_cases l1 : ds.length ≤ 4
        · rw [decide_eq_true (show (xs.length : Int) ≤ 4 by omega)]
          rw [all_yes ⟨l0, l1⟩] at q
          refine iteF ⟨_, rfl, a, rfl, ⟨xs, hs⟩, fun L nL => lc_tup (K := K) (a := a) (xs := xs) (fun i H' => H' L = some (.lst (((ds.take i).map altB).map V.bl)) ∧ Same H H') ⟨upd_same, same_new nL⟩ (fun i H' _ h => tk_same h.2 |>.sq hs) ?_ ?_⟩
          · rintro i x H' hx ⟨hL, sm⟩
            obtain ⟨e, he, dx⟩ := hd.get hx
            have il := lt_get hx
            refine ⟨rfl, tyes (iteT ⟨_, rfl, S, x, e, rfl, dx.same sm, fin.mem (List.mem_of_getElem? he), fun H2 s2 => ?_⟩)⟩
            refine ⟨_, s2 _ _ hL, ?_, ?_, ?_⟩
            · rw [List.length_map, List.length_map, List.length_take]
              exact small1000 (by omega)
            · rw [upd_same, take_more he, List.map_append, List.map_append]
              rfl
            · exact ((Bt.of_same (S := []) (sm.trans s2)).upd0 nL).same
          · rintro H' ⟨hL, sm⟩
            rw [hlen, List.take_length] at hL
            refine ⟨L, _, rfl, sqL hL, ?_⟩
            rw [show (ds.map altB).all id = ds.all altB by rw [List.all_map]; rfl]
            exact q H' sm
        · rw [decide_eq_false (show ¬ (xs.length : Int) ≤ 4 by omega)]
          rw [all_len (fun e => l1 e.2)] at q
          exact iteT (q H (Same.refl H))
      · rw [decide_eq_false (show ¬ (1 : Int) ≤ (xs.length : Int) by omega)]
        rw [all_len (fun e => l0 e.1)] at q
        exact iteF ⟨_, rfl, iteT (q H (Same.refl H))⟩
    · have ht' : tupB d = false := by simpa using ht
      rw [ht']
      rw [whom_no ht'] at q
      exact iteT (iteT (q H (Same.refl H)))
end
end WdQ

set_option Elab.async false
set_option linter.all false
set_option maxRecDepth 100000
set_option maxHeartbeats 4000000
namespace Wd
open PySem PySem.Spec PyProof.Rows L2 WdM
/-! ### unlike names -/
/-- a text of letters, not too long -/
def wdB (n : Nat) (z : Str) : Prop := okL z ∧ 1 ≤ z.length ∧ z.length ≤ n
/-- a drawn name -/
def Nm (z : Str) : Prop := wdB 6 z ∧ inV (.str z) noNames = false
theorem Nm.name {z : Str} (h : Nm z) : nmB z = true := by
  unfold nmB
  rw [h.2, decide_eq_true (show 1 ≤ z.length ∧ z.length ≤ 8 from ⟨h.1.2.1, by have := h.1.2.2; omega⟩)]
  rw [show z.cps.toList.all letB = true from List.all_eq_true.mpr h.1.1]
  rfl
theorem app_cps (x y : Str) : (x ++ y).cps.toList = x.cps.toList ++ y.cps.toList := by
  show (x.cps ++ y.cps).toList = _
  exact Array.toList_append
theorem str_ext {x y : Str} (h : x.cps.toList = y.cps.toList) : x = y := by
  cases x; cases y
  have := Array.toList_inj.mp h
  simp only at this
  rw [this]
theorem app_len (x y : Str) : (x ++ y).length = x.length + y.length := by
  show (x.cps ++ y.cps).size = _
  rw [Array.size_append]
  rfl
theorem okL_app {x y : Str} (hx : okL x) (hy : okL y) : okL (x ++ y) := fun c hc => by
  rw [app_cps] at hc
  rcases List.mem_append.mp hc with h | h
  · exact hx c h
  · exact hy c h
theorem cut_sub {z : Str} {lo hi : Option Int} {c : Nat} (h : c ∈ (cutS z lo hi).cps.toList) : c ∈ z.cps.toList := by
  unfold cutS at h
  exact List.mem_of_mem_drop (List.mem_of_mem_take h)
/-- word[:4] + letter + "x" -/
def cand (z : Str) (c : Nat) : Str := cutS z none (some 4) ++ ⟨#[c]⟩ ++ "x"
theorem cand_cps (z : Str) (c : Nat) : (cand z c).cps.toList = (cutS z none (some 4)).cps.toList ++ [c, 120] := by
  unfold cand
  rw [app_cps, app_cps, List.append_assoc]
  rfl
theorem cand_inj {z : Str} {c d : Nat} (h : cand z c = cand z d) : c = d := by
  have := congrArg (fun s : Str => s.cps.toList) h
  simp only [cand_cps] at this
  have := List.append_cancel_left this
  exact (List.cons.inj this).1
theorem eqV_str {a b : Str} (h : eqV (.str a) (.str b) = true) : a = b := by
  have h : (a == b) = true := h
  exact eq_of_beq h
theorem inV_str {z : Str} {ws : List Str} : inV (.str z) (ws.map V.str) = true ↔ z ∈ ws := by
  unfold inV
  rw [List.any_map, List.any_eq_true]
  constructor
  · rintro ⟨x, hx, e⟩
    rw [← eqV_str e]
    exact hx
  · intro h
    exact ⟨z, h, by show (z == z) = true; exact beq_self_eq_true z⟩
def noS : List Str := ["all", "and", "children", "childless", "crown", "else", "if", "lives", "not", "of", "or", "stock", "to"]
theorem noNames_eq : noNames = noS.map V.str := rfl
theorem no_last : ∀ z ∈ noS, z.cps.toList.getLast? ≠ some 120 := by decide +kernel
theorem cand_no {z : Str} {c : Nat} : inV (.str (cand z c)) noNames = false := by
  rw [Bool.eq_false_iff, noNames_eq]
  intro h
  have := no_last _ (inV_str.mp h)
  rw [cand_cps] at this
  exact this (by simp)
theorem cand_wd {z : Str} {c : Nat} (h : okL z) (hc : letB c = true) : wdB 6 (cand z c) := by
  refine ⟨?_, ?_, ?_⟩
  · intro x hx
    rw [cand_cps] at hx
    rcases List.mem_append.mp hx with h1 | h1
    · exact h x (cut_sub h1)
    · simp only [List.mem_cons, List.not_mem_nil, or_false] at h1
      rcases h1 with rfl | rfl
      · exact hc
      · decide
  · unfold cand
    rw [app_len]
    show 1 ≤ _ + 1
    omega
  · unfold cand
    rw [app_len, app_len]
    have : (cutS z none (some 4)).length ≤ 4 := by
      show (((z.cps.toList.drop (HT.sIx z.length 0 none)).take (HT.sIx z.length z.length (some 4) - HT.sIx z.length 0 none)).toArray).size ≤ 4
      rw [List.size_toArray, List.length_take, List.length_drop]
      have : HT.sIx z.length z.length (some 4) ≤ 4 := by
        unfold HT.sIx
        simp
        omega
      omega
    show _ + 1 + 1 ≤ 6
    omega
theorem pick {f : Nat → Str} (inj : ∀ c d, f c = f d → c = d) : ∀ (cs : List Nat) (found : List Str), cs.Nodup → (∀ c ∈ cs, f c ∈ found) → cs.length ≤ found.length
  | [], _, _, _ => Nat.zero_le _
  | c :: cs, found, nd, h => by
    have h0 := h c List.mem_cons_self
    have nd' := List.nodup_cons.mp nd
    have := pick inj cs (found.erase (f c)) nd'.2 (fun d hd => by
      refine (List.mem_erase_of_ne (fun e => ?_)).mpr (h d (List.mem_cons_of_mem _ hd))
      exact nd'.1 (inj _ _ e ▸ hd))
    rw [List.length_erase_of_mem h0] at this
    have := List.length_pos_of_mem h0
    rw [List.length_cons]
    omega
theorem letters_nodup : lettersS.cps.toList.Nodup := by decide +kernel
/-- the candidates of a word, and those that may be taken -/
def cands (z : Str) : List Str := z :: lettersS.cps.toList.map (cand z)
def freeB (found : List Str) (z : Str) : Bool := !inV (.str z) (found.map V.str) && !inV (.str z) noNames
theorem some_free {z : Str} {found : List Str} (h : found.length < 26) : ∃ y ys, (cands z).filter (freeB found) = y :: ys := by
  cases e : (cands z).filter (freeB found) with
  | cons y ys => exact ⟨y, ys, rfl⟩
  | nil =>
    exfalso
    have all : ∀ c ∈ lettersS.cps.toList, cand z c ∈ found := fun c hc => by
      have := List.filter_eq_nil_iff.mp e (cand z c) (List.mem_cons_of_mem _ (List.mem_map_of_mem hc))
      unfold freeB at this
      rw [cand_no] at this
      apply inV_str.mp
      cases h2 : inV (.str (cand z c)) (found.map V.str) with
      | true => rfl
      | false => rw [h2] at this; exact absurd rfl this
    have := pick (f := cand z) (fun _ _ => cand_inj) _ _ letters_nodup all
    have : lettersS.cps.toList.length = 26 := by decide +kernel
    omega
theorem free_nm {z y : Str} {found : List Str} (hz : wdB 6 z) (h : y ∈ (cands z).filter (freeB found)) : Nm y ∧ y ∉ found := by
  obtain ⟨h1, h2⟩ := List.mem_filter.mp h
  obtain ⟨a, b⟩ := Bool.and_eq_true_iff.mp h2
  have b : inV (.str y) noNames = false := by simpa using b
  have a : inV (.str y) (found.map V.str) = false := by simpa using a
  refine ⟨⟨?_, b⟩, fun m => by rw [inV_str.mpr m] at a; cases a⟩
  rcases List.mem_cons.mp h1 with rfl | h1
  · exact hz
  · obtain ⟨c, hc, rfl⟩ := List.mem_map.mp h1
    exact cand_wd hz.1 (decide_eq_true hc)
/-! ### texts in their order -/
def LtS (a b : Str) : Prop := a.cps.toList < b.cps.toList
theorem LtS.trans {a b c : Str} (h : LtS a b) (h2 : LtS b c) : LtS a c := List.lt_trans h h2
theorem lt_of_not {a b : Str} (h : ltCps b.cps.toList a.cps.toList = false) (n : a ≠ b) : LtS a b := by
  rw [ltCps_eq] at h
  have h := of_decide_eq_false h
  have h1 := List.not_lt.mp h
  apply Classical.byContradiction
  intro h2
  exact n (str_ext (List.le_antisymm h1 (List.not_lt.mp h2)))
theorem rising_pw : ∀ (p : Str) (l : List Str), risingS p l = true → (p :: l).Nodup → (p :: l).Pairwise LtS
  | p, [], _, _ => List.pairwise_singleton _ _
  | p, x :: r, h, nd => by
    obtain ⟨h1, h2⟩ := Bool.and_eq_true_iff.mp (show (!ltCps x.cps.toList p.cps.toList && risingS x r) = true from h)
    have h1 : ltCps x.cps.toList p.cps.toList = false := by simpa using h1
    have nd' := List.nodup_cons.mp nd
    have ih := rising_pw x r h2 nd'.2
    have px : LtS p x := lt_of_not h1 (fun e => nd'.1 (e ▸ List.mem_cons_self))
    refine List.pairwise_cons.mpr ⟨fun y hy => ?_, ih⟩
    rcases List.mem_cons.mp hy with rfl | hy
    · exact px
    · exact px.trans ((List.pairwise_cons.mp ih).1 y hy)
theorem sorted_pw {l : List Str} (h : sortedS l = true) (nd : l.Nodup) : l.Pairwise LtS := by
  cases l with
  | nil => exact List.Pairwise.nil
  | cons x r => exact rising_pw x r h nd
theorem pw_next : ∀ {l : List Str} {i : Nat} {a b : Str}, l.Pairwise LtS → l[i]? = some a → l[i + 1]? = some b → LtS a b
  | [], i, a, b, _, h, _ => by cases h
  | x :: l, 0, a, b, p, h, h2 => by
    cases h
    exact (List.pairwise_cons.mp p).1 b (List.mem_of_getElem? (show l[0]? = some b from h2))
  | x :: l, i + 1, a, b, p, h, h2 => pw_next (List.pairwise_cons.mp p).2 (show l[i]? = some a from h) (show l[i + 1]? = some b from h2)
end Wd

set_option Elab.async false
set_option linter.all false
set_option maxRecDepth 100000
set_option maxHeartbeats 4000000
set_option exponentiation.threshold 5000
namespace WdQ
open PySem PySem.Spec PyProof.Rows L2 WdM Wd
abbrev sDeath : Stmt := topS 53
abbrev sChkD : Stmt := topS 54
abbrev sStory : Stmt := topS 56
abbrev sSI : Stmt := inClass sStory 0
theorem scDeath : FnScope ["thing", "ahead", "name", "day"] ["thing", "ahead"] (defScope sDeath) := ⟨rfl, rfl, rfl, by decide +kernel, rfl, by decide +kernel, by decide +kernel⟩
theorem scChkD : FnScope ["deaths", "ahead", "number", "death"] ["deaths"] (defScope sChkD) := ⟨rfl, rfl, rfl, by decide +kernel, rfl, by decide +kernel, by decide +kernel⟩
theorem scSI : FnScope ["self", "deaths", "rows"] ["self", "deaths"] (defScope sSI) := ⟨rfl, rfl, rfl, by decide +kernel, rfl, by decide +kernel, by decide +kernel⟩
structure GoodD (rows : List (Str × Int)) : Prop where
  l8 : rows.length ≤ 8
  nm : ∀ r ∈ rows, nmB r.1 = true ∧ r.1.length ≤ 1000
  dy : ∀ r ∈ rows, -9999 ≤ r.2 ∧ r.2 ≤ 9999
  up : ∀ (i : Nat) (r s : Str × Int), rows[i]? = some r → rows[i + 1]? = some s → r.1.cps.toList < s.1.cps.toList
def DeathsAt (K : PySem.W.Frag) (H : Hp) (v : V) (rows : List (Str × Int)) : Prop := ∃ (t : Addr) (xs : List V), v = .ref t ∧ SqT K H t xs ∧ xs.length = rows.length ∧ ∀ (i : Nat) (x : V), xs[i]? = some x → ∃ (a : Addr) (r : Str × Int), x = .ref a ∧ rows[i]? = some r ∧ SqT K H a [.str r.1, .int r.2]
section
variable {P : Program} {w : World} {K : PySem.W.Frag} {mg : Str → Option Value} {base : Heap} {CH CY : Addr}
theorem DeathsAt.tk {H H' : Hp} {v : V} {rows : List (Str × Int)} (h : DeathsAt K H v rows) (e : Tk H H') : DeathsAt K H' v rows := by
  obtain ⟨t, xs, rfl, hs, l, hx⟩ := h
  exact ⟨t, xs, rfl, e.sq hs, l, fun i x hi => by obtain ⟨a, r, e1, e2, e3⟩ := hx i x hi; exact ⟨a, r, e1, e2, e.sq e3⟩⟩
/-! ### one of the deaths -/
def ahV : Option Str → V
  | none => .non
  | some y => .str y
def spDeath (K : PySem.W.Frag) : Sp := fun vs H Q _ => ∃ (t : Addr) (z : Str) (d : Int) (o : Option Str), vs = [.ref t, ahV o] ∧ SqT K H t [.str z, .int d] ∧ nmB z = true ∧ z.length ≤ 1000 ∧ -9999 ≤ d ∧ d ≤ 9999 ∧ (∀ y, o = some y → y.cps.toList < z.cps.toList) ∧ ∀ H', Same H H' → Q (.bl true) H'
theorem ok_death {f fN fY : Addr} {fd fdN fdY : FuncData} {k : Nat} (B : Bi mg) (GN : FnOk P w K mg base CX0 (k + 2) fN fdN ["thing"] (spName K)) (GY : FnOk P w K mg base CX0 (k + 2) fY fdY ["thing"] (spDay K)) (D : Df K mg "is_death" sDeath f fd ["thing", "ahead"]) (DN : Df K mg "is_name" sName fN fdN ["thing"]) (DY : Df K mg "is_day" sDay fY fdY ["thing"]) :
    FnOk P w K mg base CX0 (k + 3) f fd ["thing", "ahead"] (spDeath K) := by
  refine D.fn.ok scDeath (fun vs H Q E h => ?_) (fun cdv A outer s H vs Q E hr h => ?_)
  · obtain ⟨t, z, d, o, rfl, _⟩ := h
    rfl
  · obtain ⟨t, z, d, o, rfl, hs, nm, zl, d0, d1, po, q⟩ := h
    refine ⟨_, pss_cons (ps_if (PW.pt (pw_or (pt_not (pt_val (pe_callB call_isi (by rfl) B.isi boot_isinstance (pa_cons (pv 0) (pa_cons (pe_bltn (v := .ty "tuple") (by rfl) B.tuple boot_tuple rfl) pa_nil)))))
          (pw_or1 (pt_cmpR op_ne (pe_callB call_len_seq (by rfl) B.len PySem.boot_len (pa_cons (pv 0) pa_nil)) pe_int (nomark _))))) (pss_one (ps_ret pe_bl)) pss_nil)
      (pss_cons (ps_asg (pv 0) (pg_tup rfl (pgs_cons (pg_name (i := 2) scDeath.nd rfl (.inl rfl)) (pgs_cons (pg_name (i := 3) scDeath.nd rfl (.inl rfl)) pgs_nil))))
      (pss_cons (ps_if (PW.pt (pw_or (pt_not (pt_val (pe_call GN hr (by rfl) DN.mg DN.fn.kp DN.bd .nil pass0 (pa_cons (pv 2) pa_nil)))) (pw_or1 (pt_not (pt_val (pe_call GY hr (by rfl) DY.mg DY.fn.kp DY.bd .nil pass0 (pa_cons (pv 3) pa_nil))))))) (pss_one (ps_ret pe_bl)) pss_nil)
      (pss_one (ps_ret (pe_or (pe_cmpR op_isN (pv 1) pe_non (nomark _)) (pe_one (pe_cmpR op_gt_str (pv 2) (pv 1) (nomark _)))))))), ?_⟩
    refine ⟨_, rfl, _, .ty "tuple", _, .type "tuple", true, rfl, .ty _, tyT hs, kit_ty (by decide +kernel), true, rfl, iteF ⟨_, rfl, t, _, rfl, .inr hs, rfl, _, rfl, iteF ?_⟩⟩
    refine ⟨_, rfl, t, _, rfl, hs, rfl, _, _, rfl, _, _, rfl, rfl, ?_⟩
    refine ⟨_, rfl, .str z, .str z, rfl, (Th.dp (.str z)).is, (fun y e => by cases e; exact zl), fun H1 sm => ?_⟩
    rw [show nameB (.str z) = true from nm]
    refine ⟨true, rfl, iteF ⟨_, rfl, [], .int d, .int d, rfl, .int d, ?_⟩⟩
    rw [show dayB (.int d) = true from decide_eq_true ⟨d0, d1⟩]
    refine ⟨true, rfl, iteF ⟨_, rfl, rfl, _, rfl, ?_⟩⟩
    cases o with
    | none => exact iteT (q H1 sm)
    | some y =>
      refine iteF ⟨_, rfl, _, rfl, z, y, rfl, rfl, ?_⟩
      rw [decide_eq_true (po y rfl)]
      exact q H1 sm
def spChkD (K : PySem.W.Frag) : Sp := fun vs H Q _ => ∃ (v : V) (rows : List (Str × Int)), vs = [v] ∧ DeathsAt K H v rows ∧ GoodD rows ∧ ∀ H', Same H H' → Q .non H'
def lastN (rows : List (Str × Int)) : Nat → Option Str
  | 0 => none
  | i + 1 => rows[i]?.map Prod.fst
theorem ok_chkD {f fD : Addr} {fd fdD : FuncData} {tM : Tok} {k : Nat} (B : Bi mg) (gM : mg "MOST_DEATHS" = some (.int 8 tM))
    (GD : FnOk P w K mg base CX0 (k + 3) fD fdD ["thing", "ahead"] (spDeath K)) (D : Df K mg "check_deaths" sChkD f fd ["deaths"]) (DD : Df K mg "is_death" sDeath fD fdD ["thing", "ahead"]) : FnOk P w K mg base (L2.CX P w) (k + 4) f fd ["deaths"] (spChkD K) := by
  refine D.fn.okX scChkD (fun vs H Q E h => ?_) (fun cdv A outer s H vs Q E hr h => ?_)
  · obtain ⟨v, rows, rfl, _⟩ := h
    rfl
  · obtain ⟨v, rows, rfl, ⟨t, xs, rfl, ht, xl, hx⟩, gf, q⟩ := h
    refine ⟨_, pss_cons (ps_if (PW.pt (pw_or (pt_not (pt_val (pe_callB call_isi (by rfl) B.isi boot_isinstance (pa_cons (pv 0) (pa_cons (pe_bltn (v := .ty "tuple") (by rfl) B.tuple boot_tuple rfl) pa_nil)))))
          (pw_or1 (pt_cmpR op_gt (pe_callB call_len_seq (by rfl) B.len PySem.boot_len (pa_cons (pv 0) pa_nil)) (pe_glob (v := .int 8) (by rfl) gM ⟨_, rfl⟩) (nomark _))))) (pss_one ps_no) pss_nil)
      (pss_cons (ps_set (i := 1) scChkD.nd rfl (.inl rfl) pe_non)
      (pss_one (ps_for (passes_of rfl) rfl (pi_E .tu (by rfl) B.enum (pa_cons (pv 0) pa_nil)) (pg_tup rfl (pgs_cons (pg_name (i := 2) scChkD.nd rfl (.inl rfl)) (pgs_cons (pg_name (i := 3) scChkD.nd rfl (.inl rfl)) pgs_nil)))
        (pss_cons (ps_if (pt_not (pt_val (pe_call GD hr (by rfl) DD.mg DD.fn.kp DD.bd .nil pass0 (pa_cons (pv 3) (pa_cons (pv 1) pa_nil))))) (pss_one ps_no) pss_nil)
        (pss_one (ps_set (i := 1) scChkD.nd rfl (.inl rfl) (pe_ix (r := rIxT K) ix_tup (pv 3) pe_int (fun _ _ => rfl)))))))), ?_⟩
    have l8 := gf.l8
    refine ⟨_, rfl, _, .ty "tuple", _, .type "tuple", true, rfl, .ty _, tyT ht, kit_ty (by decide +kernel), true, rfl, iteF ⟨_, rfl, t, _, rfl, .inr ht, _, 8, rfl, rfl, _, rfl, ?_⟩⟩
    rw [decide_eq_false (show ¬ (8 : Int) < ((xs.length : Nat) : Int) by omega)]
    refine iteF ?_
    refine ⟨_, rfl, t, _, rfl, ht, for_it (walkE (K := K) (k := .tu) (a := t) (xs := xs)) (fun i σ H' => ∃ y2 y3, σ = [some (.ref t), some (ahV (lastN rows i)), y2, y3] ∧ Same H H') ⟨none, none, rfl, Same.refl H⟩ (fun i σ H' _ ⟨_, _, _, s⟩ => (tk_same s).sq ht) ?_ ?_⟩
    · rintro i _ σ H4 _ i1 ⟨y2, y3, rfl, s4⟩ ⟨T1, _, y, rfl, nT, rfl, ei, hy⟩
      cases ei
      obtain ⟨a, r, rfl, hr, ha⟩ := hx i y hy
      have s5 : Same H4 (upd H4 T1 (.tup [.int (i : Nat), .ref a])) := same_new nT
      have g5 : (upd H4 T1 (.tup [.int (i : Nat), .ref a])) T1 = some (.tup [.int (i : Nat), .ref a]) := upd_same
      revert s5 g5
      generalize upd H4 T1 (.tup [.int (i : Nat), .ref a]) = H5
      intro s5 g5
      refine ⟨T1, _, rfl, sqT g5, rfl, _, _, rfl, _, _, rfl, rfl, ?_⟩
      have h25 := (tk_same (s4.trans s5)).sq ha
      have m := List.mem_of_getElem? hr
      have nm := gf.nm r m
      have dy := gf.dy r m
      refine ⟨_, rfl, _, rfl, a, r.1, r.2, lastN rows i, rfl, h25, nm.1, nm.2, dy.1, dy.2, ?_, fun H6 s6 => ⟨true, rfl, iteF ?_⟩⟩
      · intro z e
        cases i with
        | zero => cases e
        | succ j =>
          have e : rows[j]?.map Prod.fst = some z := e
          cases hj : rows[j]? with
          | none => rw [hj] at e; cases e
          | some r0 =>
            rw [hj] at e
            cases e
            exact gf.up j r0 r hj hr
      refine ⟨_, rfl, a, _, 0, .str r.1, rfl, rfl, (tk_same s6).sq h25, atI_nat (j := 0) rfl, ?_⟩
      refine ⟨some (.int (i : Nat)), some (.ref a), ?_, s4.trans (s5.trans s6)⟩
      show [some (.ref t), some (V.str r.1), some (.int (i : Nat)), some (.ref a)] = [some (.ref t), some (ahV (rows[i]?.map Prod.fst)), some (.int (i : Nat)), some (.ref a)]
      rw [hr]
      rfl
    · rintro σ H4 ⟨y2, y3, rfl, s4⟩
      exact q H4 s4
structure SyF (K : PySem.W.Frag) (C : Addr) : Prop where
  cl : Cls K C
  n1 : NoAttr K C "deaths"
def spSI (K : PySem.W.Frag) (CY : Addr) : Sp := fun vs H Q _ => ∃ (o dx : Addr) (v : V) (rows : List (Str × Int)), vs = [.ref o, v] ∧ H o = some (.ins CY dx []) ∧ DeathsAt K H v rows ∧ GoodD rows ∧ ∀ H', Bt [o] H H' → H' o = some (.ins CY dx [("deaths", v)]) → Q .non H'
theorem ok_SI {f fC : Addr} {fd fdC : FuncData} {k : Nat} (T : SyF K CY) (F : FunD K "__init__" "Story.__init__" (defArgs sSI) (defBody sSI) (defScope sSI) [.non] [] f fd) (GC : FnOk P w K mg base (L2.CX P w) (k + 4) fC fdC ["deaths"] (spChkD K)) (DC : Df K mg "check_deaths" sChkD fC fdC ["deaths"]) :
    FnOk P w K mg base (L2.CX P w) (k + 5) f fd ["self", "deaths"] (spSI K CY) := by
  refine F.ok scSI (fun vs H Q E h => ?_) (fun cdv A outer s H vs Q E hr h => ?_)
  · obtain ⟨o, dx, v, rows, rfl, _⟩ := h
    rfl
  · obtain ⟨o, dx, v, rows, rfl, ho, hv, gd, q⟩ := h
    refine ⟨_, pss_cons (ps_set (i := 2) scSI.nd rfl (.inl rfl) (pe_ifExp (pt_cmpR op_isN (pv 1) pe_non (nomark _)) pe_no (pv 1)))
      (pss_cons (ps_expr (pe_callS GC hr (by rfl) DC.mg DC.fn.kp DC.bd (fun σ => passAt (takes_of rfl rfl rfl rfl) σ) (pa_cons (pv 2) pa_nil)))
      (pss_one (ps_fld (pv 0) (pv 2) rfl))), ?_⟩
    obtain ⟨t, xs, rfl, hs, xl, hx⟩ := hv
    refine ⟨_, rfl, rfl, _, rfl, iteF ⟨_, rfl, _, rfl, .ref t, rows, rfl, ⟨t, xs, rfl, hs, xl, hx⟩, gd, fun H1 s1 => ?_⟩⟩
    refine ⟨_, rfl, _, rfl, o, CY, dx, _, rfl, s1 _ _ ho, T.cl, T.n1, by show 0 < 1000; decide, ?_⟩
    exact q _ ((Bt.of_same s1).upd1 (by simp)) upd_same
end
end WdQ

set_option Elab.async false
set_option linter.all false
set_option maxRecDepth 100000
set_option maxHeartbeats 4000000
namespace Wd
open PySem PySem.Spec PyProof.Rows L2 WdM
/-- what the top has written of an own error with one field: the class x at C, its __init__ at fI; CW its family -/
structure ErC (K : PySem.W.Frag) (mg : Str → Option Value) (x fld : Str) (C fI CW : Addr) : Prop where
  o : OexC K C
  no : PySem.W.findIn K (.ref C) fld = some none
  i : PySem.W.findIn K (.ref C) "__init__" = some (some (.ref fI))
  t : PySem.W.typeIn K (.ref fI) = some (.type "function")
  g : mg x = some (.ref C)
  m : PySem.W.exmOne K (.ref C) (.ref CW) = some true
  c : ExcC K C
  f : XfC K C
def spInitE (C : Addr) (fld : Str) : Sp := fun vs H Q _ => ∃ (a : Addr) (y : V), vs = [.ref a, y] ∧ H a = some (exo a C none) ∧ ∀ dx, H dx = none → dx ≠ a → Q .non (upd (upd H dx (exd dx [(fld, y)])) a (exo a C (some dx)))
theorem heap_made {H : Hp} {a dx : Addr} {o1 o2 o3 o4 : HO} (ha : H a = none) (ne : dx ≠ a) : upd (del (upd (upd (upd H a o1) dx o2) a o3) a) dx o4 = upd H dx o4 := by
  funext b
  by_cases h1 : b = dx
  · rw [h1, upd_same, upd_same]
  · rw [upd_ne h1, upd_ne h1]
    by_cases h2 : b = a
    · rw [h2, del_same, ha]
    · rw [del_ne h2, upd_ne h2, upd_ne h1, upd_ne h2]
theorem raise_var {C : Addr} {fld : Str} {i : Nat} {x : V} {H : Hp} {σ : L2.St} {R : XK} (h0 : σ[i]? = some (some x)) (hq : ∀ dd, H dd = none → R (.ref C) (some dd) (upd H dd (.xd [(fld, x)]))) : tMkO C (spInitE C fld) [] (tCons (tVar i) tNil) σ H R :=
  ⟨x, h0, by show 1 ≤ 1000; decide, fun e ne => ⟨e, x, rfl, upd_same, fun dx h1 h2 => ⟨rfl, dx, [(fld, x)], upd_same, by rw [upd_ne h2, upd_same], by rw [upd_ne h2] at h1; exact h1, by
    rw [heap_made ne h2]
    exact hq dx (by rw [upd_ne h2] at h1; exact h1)⟩⟩⟩
/-- an own error without a field: the class x at C, CW its family -/
structure ErN (K : PySem.W.Frag) (mg : Str → Option Value) (x : Str) (C CW : Addr) : Prop where
  x_ : PySem.W.excIn K C [.type "ValueError", .type "Exception", .type "BaseException", .type "object"] "ValueError.__new__" = true
  g : mg x = some (.ref C)
  k : PySem.W.keepIn K (.ref C) = true
  b : PySem.W.subIn K (.ref C) (.type "BaseException") = some true
  t : PySem.W.typeIn K (.ref C) = some (.type "type")
  m : PySem.W.exmOne K (.ref C) (.ref CW) = some true
  c : ExcC K C
  i : PySem.W.kitOne K (.ref C) (.ref C) = some true
end Wd

set_option Elab.async false
set_option linter.all false
set_option maxRecDepth 100000
set_option maxHeartbeats 4000000
set_option exponentiation.threshold 5000
namespace WdQ
open PySem PySem.Spec PyProof.Rows L2 WdM Wd
abbrev sSum : Stmt := topS 15
abbrev sPerson : Stmt := topS 29
abbrev sChkP : Stmt := topS 31
abbrev sChkG : Stmt := topS 32
abbrev sHouse : Stmt := topS 35
abbrev sHI : Stmt := inClass sHouse 0
theorem scSum : FnScope ["thing"] ["thing"] (defScope sSum) := ⟨rfl, rfl, rfl, by decide +kernel, rfl, by decide +kernel, by decide +kernel⟩
theorem scPerson : FnScope ["thing", "ahead", "name", "parent"] ["thing", "ahead"] (defScope sPerson) := ⟨rfl, rfl, rfl, by decide +kernel, rfl, by decide +kernel, by decide +kernel⟩
theorem scChkP : FnScope ["people", "ahead", "number", "person"] ["people"] (defScope sChkP) := ⟨rfl, rfl, rfl, by decide +kernel, rfl, by decide +kernel, by decide +kernel⟩
theorem scChkG : FnScope ["goods", "ahead", "number", "good"] ["goods"] (defScope sChkG) := ⟨rfl, rfl, rfl, by decide +kernel, rfl, by decide +kernel, by decide +kernel⟩
theorem scHI : FnScope ["self", "people", "goods", "purse", "debts", "things", "amount"] ["self", "people", "goods", "purse", "debts"] (defScope sHI) := ⟨rfl, rfl, rfl, by decide +kernel, rfl, by decide +kernel, by decide +kernel⟩
def parV : Option Str → V
  | none => .non
  | some y => .str y
/-- rows that a house is made of -/
structure GoodF (rows : List (Str × Option Str)) : Prop where
  l1 : 1 ≤ rows.length
  l8 : rows.length ≤ 8
  nd : (rows.map Prod.fst).Nodup
  nm : ∀ r ∈ rows, Nm r.1
  pr : ∀ (i : Nat) (r : Str × Option Str) (y : Str), rows[i]? = some r → r.2 = some y → y ∈ (rows.take i).map Prod.fst
def FolkAt (K : PySem.W.Frag) (H : Hp) (v : V) (rows : List (Str × Option Str)) : Prop := ∃ (t : Addr) (xs : List V), v = .ref t ∧ SqT K H t xs ∧ xs.length = rows.length ∧ ∀ (i : Nat) (x : V), xs[i]? = some x → ∃ (a : Addr) (r : Str × Option Str), x = .ref a ∧ rows[i]? = some r ∧ SqT K H a [.str r.1, parV r.2]
section
variable {P : Program} {w : World} {K : PySem.W.Frag} {mg : Str → Option Value} {base : Heap} {CH CY : Addr}
theorem FolkAt.tk {H H' : Hp} {v : V} {rows : List (Str × Option Str)} (h : FolkAt K H v rows) (e : Tk H H') : FolkAt K H' v rows := by
  obtain ⟨t, xs, rfl, hs, l, hx⟩ := h
  exact ⟨t, xs, rfl, e.sq hs, l, fun i x hi => by obtain ⟨a, r, e1, e2, e3⟩ := hx i x hi; exact ⟨a, r, e1, e2, e.sq e3⟩⟩
def spZero : Sp := fun vs H Q _ => vs = [.int 0] ∧ Q (.bl true) H
theorem ok_zero {f fW : Addr} {fd fdW : FuncData} {k : Nat} {tS : Tok} (B : Bi mg) (gS : mg "MOST_SUM" = some (.int 1000000000 tS)) (D : Df K mg "is_sum" sSum f fd ["thing"]) (DW : Df K mg "is_whole" sWhole fW fdW ["thing"]) : FnOk P w K mg base CX0 (k + 2) f fd ["thing"] spZero := by
  have GW : FnOk P w K mg base CX0 (k + 1) fW fdW ["thing"] (spWhole K) := ok_whole B DW
  refine D.fn.ok scSum (fun vs H Q E h => ?_) (fun cdv A outer s H vs Q E hr h => ?_)
  · obtain ⟨rfl, _⟩ := h
    rfl
  · obtain ⟨rfl, q⟩ := h
    refine ⟨_, pss_one (ps_ret (pe_and (pe_call GW hr (by rfl) DW.mg DW.fn.kp DW.bd .nil pass0 (pa_cons (pv 0) pa_nil)) (pe_one (pe_chain op_le op_le pe_int (pv 0) (pe_glob (v := .int 1000000000) (by rfl) gS ⟨_, rfl⟩))))), ?_⟩
    exact ⟨_, rfl, .int 0, .int 0, rfl, (Th.dp (.int 0)).is, true, rfl, iteT ⟨_, rfl, 0, 0, rfl, rfl, true, rfl, iteT ⟨0, _, rfl, rfl, q⟩⟩⟩
/-! ### one of the people -/
def spPerson (K : PySem.W.Frag) : Sp := fun vs H Q _ => ∃ (t l : Addr) (z : Str) (o : Option Str) (ns : List Str), vs = [.ref t, .ref l] ∧ SqT K H t [.str z, parV o] ∧ H l = some (.lst (ns.map V.str)) ∧ nmB z = true ∧ z.length ≤ 1000 ∧ z ∉ ns ∧ (∀ y, o = some y → y ∈ ns) ∧ ∀ H', Same H H' → Q (.bl true) H'
theorem flatS (zs : List Str) : (zs.map V.str).all flatV = true := by
  rw [List.all_map, List.all_eq_true]
  exact fun _ _ => rfl
theorem ok_person {f fN fW : Addr} {fd fdN fdW : FuncData} {k : Nat} (B : Bi mg) (GN : FnOk P w K mg base CX0 (k + 1) fN fdN ["thing"] (spName K)) (GW : FnOk P w K mg base CX0 (k + 1) fW fdW ["thing", "words"] (spWord K)) (D : Df K mg "is_person" sPerson f fd ["thing", "ahead"]) (DN : Df K mg "is_name" sName fN fdN ["thing"]) (DW : Df K mg "is_word" sWord fW fdW ["thing", "words"]) :
    FnOk P w K mg base CX0 (k + 2) f fd ["thing", "ahead"] (spPerson K) := by
  refine D.fn.ok scPerson (fun vs H Q E h => ?_) (fun cdv A outer s H vs Q E hr h => ?_)
  · obtain ⟨t, l, z, o, ns, rfl, _⟩ := h
    rfl
  · obtain ⟨t, l, z, o, ns, rfl, hs, hl, nm, zl, nn, po, q⟩ := h
    refine ⟨_, pss_cons (ps_if (PW.pt (pw_or (pt_not (pt_val (pe_callB call_isi (by rfl) B.isi boot_isinstance (pa_cons (pv 0) (pa_cons (pe_bltn (v := .ty "tuple") (by rfl) B.tuple boot_tuple rfl) pa_nil)))))
          (pw_or1 (pt_cmpR op_ne (pe_callB call_len_seq (by rfl) B.len PySem.boot_len (pa_cons (pv 0) pa_nil)) pe_int (nomark _))))) (pss_one (ps_ret pe_bl)) pss_nil)
      (pss_cons (ps_asg (pv 0) (pg_tup rfl (pgs_cons (pg_name (i := 2) scPerson.nd rfl (.inl rfl)) (pgs_cons (pg_name (i := 3) scPerson.nd rfl (.inl rfl)) pgs_nil))))
      (pss_cons (ps_if (PW.pt (pw_or (pt_not (pt_val (pe_call GN hr (by rfl) DN.mg DN.fn.kp DN.bd .nil pass0 (pa_cons (pv 2) pa_nil)))) (pw_or1 (pt_cmpR op_in_seq (pv 2) (pv 1) (by rfl))))) (pss_one (ps_ret pe_bl)) pss_nil)
      (pss_one (ps_ret (pe_or (pe_cmpR op_isN (pv 3) pe_non (nomark _)) (pe_one (pe_call GW hr (by rfl) DW.mg DW.fn.kp DW.bd .nil pass0 (pa_cons (pv 3) (pa_cons (pv 1) pa_nil))))))))), ?_⟩
    refine ⟨_, rfl, _, .ty "tuple", _, .type "tuple", true, rfl, .ty _, tyT hs, kit_ty (by decide +kernel), true, rfl, iteF ⟨_, rfl, t, _, rfl, .inr hs, rfl, _, rfl, iteF ?_⟩⟩
    refine ⟨_, rfl, t, _, rfl, hs, rfl, _, _, rfl, _, _, rfl, rfl, ?_⟩
    refine ⟨_, rfl, .str z, .str z, rfl, (Th.dp (.str z)).is, (fun y e => by cases e; exact zl), fun H1 sm => ?_⟩
    rw [show nameB (.str z) = true from nm]
    have nin : inV (.str z) (ns.map V.str) = false := by
      rw [Bool.eq_false_iff]
      exact fun e => nn (inV_str.mp e)
    refine ⟨true, rfl, iteF ⟨_, rfl, _, rfl, l, _, rfl, .inl (sqL (sm _ _ hl)), rfl, flatS ns, _, rfl, ?_⟩⟩
    show if inV (.str z) (ns.map V.str) = true then _ else _
    rw [nin]
    cases o with
    | none => exact iteF ⟨_, rfl, rfl, true, rfl, iteT (q H1 sm)⟩
    | some y =>
      refine iteF ⟨_, rfl, rfl, false, rfl, iteF ⟨_, rfl, _, rfl, .str y, .str y, l, _, rfl, (Th.dp (.str y)).is, .inl (sqL (sm _ _ hl)), flatS ns, ?_⟩⟩
      rw [show wordB (ns.map V.str) (.str y) = true from inV_str.mpr (po y rfl)]
      exact q H1 sm
def spChkP (K : PySem.W.Frag) : Sp := fun vs H Q _ => ∃ (v : V) (rows : List (Str × Option Str)), vs = [v] ∧ FolkAt K H v rows ∧ GoodF rows ∧ ∀ H', Same H H' → Q .non H'
theorem fst_new {α : Type} : ∀ {rows : List (Str × α)} {i : Nat} {r : Str × α}, (rows.map Prod.fst).Nodup → rows[i]? = some r → r.1 ∉ (rows.take i).map Prod.fst
  | [], i, r, _, h => by cases h
  | s :: rows, 0, r, nd, h => by simp
  | s :: rows, i + 1, r, nd, h => by
    rw [List.map_cons, List.nodup_cons] at nd
    have h : rows[i]? = some r := h
    rw [List.take_succ_cons, List.map_cons, List.mem_cons]
    rintro (e | e)
    · exact nd.1 (e ▸ List.mem_map_of_mem (List.mem_of_getElem? h))
    · exact fst_new nd.2 h e
theorem ok_chkP {f fD : Addr} {fd fdD : FuncData} {tM : Tok} {k : Nat} (B : Bi mg) (gM : mg "MOST_PEOPLE" = some (.int 8 tM))
    (GD : FnOk P w K mg base CX0 (k + 2) fD fdD ["thing", "ahead"] (spPerson K)) (D : Df K mg "check_people" sChkP f fd ["people"]) (DD : Df K mg "is_person" sPerson fD fdD ["thing", "ahead"]) : FnOk P w K mg base (L2.CX P w) (k + 3) f fd ["people"] (spChkP K) := by
  refine D.fn.okX scChkP (fun vs H Q E h => ?_) (fun cdv A outer s H vs Q E hr h => ?_)
  · obtain ⟨v, rows, rfl, _⟩ := h
    rfl
  · obtain ⟨v, rows, rfl, ⟨t, xs, rfl, ht, xl, hx⟩, gf, q⟩ := h
    refine ⟨_, pss_cons (ps_if (PW.pt (pw_or (pt_not (pt_val (pe_callB call_isi (by rfl) B.isi boot_isinstance (pa_cons (pv 0) (pa_cons (pe_bltn (v := .ty "tuple") (by rfl) B.tuple boot_tuple rfl) pa_nil)))))
          (pw_or1 (pt_not (pt_chain op_le op_le pe_int (pe_callB call_len_seq (by rfl) B.len PySem.boot_len (pa_cons (pv 0) pa_nil)) (pe_glob (v := .int 8) (by rfl) gM ⟨_, rfl⟩)))))) (pss_one ps_no) pss_nil)
      (pss_cons (ps_set (i := 1) scChkP.nd rfl (.inl rfl) (pe_lst pa_nil))
      (pss_one (ps_for (passes_of rfl) rfl (pi_E .tu (by rfl) B.enum (pa_cons (pv 0) pa_nil)) (pg_tup rfl (pgs_cons (pg_name (i := 2) scChkP.nd rfl (.inl rfl)) (pgs_cons (pg_name (i := 3) scChkP.nd rfl (.inl rfl)) pgs_nil)))
        (pss_cons (ps_if (pt_not (pt_val (pe_call GD hr (by rfl) DD.mg DD.fn.kp DD.bd .nil pass0 (pa_cons (pv 3) (pa_cons (pv 1) pa_nil))))) (pss_one ps_no) pss_nil)
        (pss_one (ps_expr (pe_bm PySem.F.plainAttrs_list PySem.F.slot_list_append PySem.F.type_list_append mt_append (pv 1) (pa_cons (pe_ix (r := rIxT K) ix_tup (pv 3) pe_int (fun _ _ => rfl)) pa_nil)))))))), ?_⟩
    have l1 := gf.l1
    have l8 := gf.l8
    refine ⟨_, rfl, _, .ty "tuple", _, .type "tuple", true, rfl, .ty _, tyT ht, kit_ty (by decide +kernel), true, rfl, iteF ⟨_, rfl, t, _, rfl, .inr ht, 1, _, rfl, rfl, _, rfl, ?_⟩⟩
    rw [decide_eq_true (show (1 : Int) ≤ ((xs.length : Nat) : Int) by omega)]
    refine iteT ⟨_, 8, rfl, rfl, _, rfl, ?_⟩
    rw [decide_eq_true (show ((xs.length : Nat) : Int) ≤ 8 by omega)]
    refine iteF ?_
    refine ⟨by show 0 ≤ sizeLine; decide, fun l nl => ?_⟩
    have sm0 : Same H (upd H l (.lst [])) := same_new nl
    have hl0 : (upd H l (.lst [])) l = some (.lst []) := upd_same
    revert sm0 hl0
    generalize upd H l (.lst []) = H1
    intro sm0 hl0
    have ht1 := (tk_same sm0).sq ht
    refine ⟨_, rfl, t, _, rfl, ht1, for_it (walkE (K := K) (k := .tu) (a := t) (xs := xs)) (fun i σ H' => ∃ y2 y3, σ = [some (.ref t), some (.ref l), y2, y3] ∧ Same H H' ∧ H' l = some (.lst (((rows.take i).map Prod.fst).map V.str))) ⟨none, none, rfl, sm0, hl0⟩ (fun i σ H' _ ⟨_, _, _, s, _⟩ => (tk_same s).sq ht) ?_ ?_⟩
    · rintro i _ σ H4 _ i1 ⟨y2, y3, rfl, s4, hl4⟩ ⟨T1, _, y, rfl, nT, rfl, ei, hy⟩
      cases ei
      obtain ⟨a, r, rfl, hr, ha⟩ := hx i y hy
      have s5 : Same H4 (upd H4 T1 (.tup [.int (i : Nat), .ref a])) := same_new nT
      have g5 : (upd H4 T1 (.tup [.int (i : Nat), .ref a])) T1 = some (.tup [.int (i : Nat), .ref a]) := upd_same
      revert s5 g5
      generalize upd H4 T1 (.tup [.int (i : Nat), .ref a]) = H5
      intro s5 g5
      refine ⟨T1, _, rfl, sqT g5, rfl, _, _, rfl, _, _, rfl, rfl, ?_⟩
      have h25 := (tk_same (s4.trans s5)).sq ha
      have nm := gf.nm r (List.mem_of_getElem? hr)
      refine ⟨_, rfl, _, rfl, a, l, r.1, r.2, _, rfl, h25, s5 _ _ hl4, nm.name, by have := nm.1.2.2; omega, fst_new gf.nd hr, fun z e => gf.pr i r z hr e, fun H6 s6 => ⟨true, rfl, iteF ?_⟩⟩
      have hl6 := s6 _ _ (s5 _ _ hl4)
      refine ⟨_, rfl, .inl ⟨rfl, _, sqL hl6⟩, _, rfl, a, _, 0, .str r.1, rfl, rfl, (tk_same s6).sq h25, atI_nat (j := 0) rfl, l, _, _, rfl, rfl, hl6, ?_, ?_⟩
      · rw [List.length_map, List.length_map, List.length_take]
        exact Nat.lt_of_lt_of_le (show _ < 9 by omega) (by decide)
      refine ⟨_, _, rfl, ((Bt.of_same (S := []) (s4.trans (s5.trans s6))).upd0 nl).same, ?_⟩
      rw [upd_same, take_more hr, List.map_append, List.map_append]
      rfl
    · rintro σ H4 ⟨y2, y3, rfl, s4, _⟩
      exact q H4 s4
def spChk0 (K : PySem.W.Frag) : Sp := fun vs H Q _ => ∃ t, vs = [.ref t] ∧ SqT K H t [] ∧ ∀ H', Same H H' → Q .non H'
theorem ok_chkG0 {f : Addr} {fd : FuncData} {tM : Tok} {k : Nat} (B : Bi mg) (gM : mg "MOST_GOODS" = some (.int 8 tM)) (D : Df K mg "check_goods" sChkG f fd ["goods"]) : FnOk P w K mg base (L2.CX P w) (k + 1) f fd ["goods"] (spChk0 K) := by
  refine D.fn.okX scChkG (fun vs H Q E h => ?_) (fun cdv A outer s H vs Q E hr h => ?_)
  · obtain ⟨t, rfl, _⟩ := h
    rfl
  · obtain ⟨t, rfl, ht, q⟩ := h
    refine ⟨_, pss_cons (ps_if (PW.pt (pw_or (pt_not (pt_val (pe_callB call_isi (by rfl) B.isi boot_isinstance (pa_cons (pv 0) (pa_cons (pe_bltn (v := .ty "tuple") (by rfl) B.tuple boot_tuple rfl) pa_nil)))))
          (pw_or1 (pt_cmpR op_gt (pe_callB call_len_seq (by rfl) B.len PySem.boot_len (pa_cons (pv 0) pa_nil)) (pe_glob (v := .int 8) (by rfl) gM ⟨_, rfl⟩) (nomark _))))) (pss_one ps_no) pss_nil)
      (pss_cons (ps_set (i := 1) scChkG.nd rfl (.inl rfl) (pe_lst pa_nil))
      (pss_one (ps_for (passes_of rfl) rfl (pi_E .tu (by rfl) B.enum (pa_cons (pv 0) pa_nil)) (pg_tup rfl (pgs_cons (pg_name (i := 2) scChkG.nd rfl (.inl rfl)) (pgs_cons (pg_name (i := 3) scChkG.nd rfl (.inl rfl)) pgs_nil))) pss_noS))), ?_⟩
    refine ⟨_, rfl, _, .ty "tuple", _, .type "tuple", true, rfl, .ty _, tyT ht, kit_ty (by decide +kernel), true, rfl, iteF ⟨_, rfl, t, _, rfl, .inr ht, _, 8, rfl, rfl, _, rfl, iteF ?_⟩⟩
    refine ⟨by show 0 ≤ sizeLine; decide, fun l nl => ?_⟩
    have sm0 : Same H (upd H l (.lst [])) := same_new nl
    revert sm0
    generalize upd H l (.lst []) = H1
    intro sm0
    refine ⟨_, rfl, t, _, rfl, (tk_same sm0).sq ht, for_it (walkE (K := K) (k := .tu) (a := t) (xs := [])) (fun i σ H' => Same H H') sm0 (fun i σ H' _ s => (tk_same s).sq ht) ?_ ?_⟩
    · intro i x σ H3 H4 hi
      exact absurd hi (Nat.not_lt_zero _)
    · intro σ H' s
      exact q H' s
/-! ### House -/
structure HsF (K : PySem.W.Frag) (C : Addr) : Prop where
  cl : Cls K C
  n1 : NoAttr K C "folk"
  n2 : NoAttr K C "things"
  n3 : NoAttr K C "purse"
  n4 : NoAttr K C "debts"
/-- a house of people without goods, purse and debts -/
def HouseAt (K : PySem.W.Frag) (CH : Addr) (H : Hp) (o : Addr) (v : V) : Prop := ∃ (dx t : Addr), H o = some (.ins CH dx [("folk", v), ("things", .ref t), ("purse", .int 0), ("debts", .int 0)]) ∧ SqT K H t []
def spHI (K : PySem.W.Frag) (CH : Addr) : Sp := fun vs H Q _ => ∃ (o dx : Addr) (v : V) (rows : List (Str × Option Str)), vs = [.ref o, v, .non, .int 0, .int 0] ∧ H o = some (.ins CH dx []) ∧ FolkAt K H v rows ∧ GoodF rows ∧ ∀ H', Bt [o] H H' → Q .non H'
theorem ok_HI {f fC fG fS : Addr} {fd fdC fdG fdS : FuncData} {k : Nat} (B : Bi mg) (T : HsF K CH) (F : FunD K "__init__" "House.__init__" (defArgs sHI) (defBody sHI) (defScope sHI) [.non, .int 0, .int 0] [] f fd) (GC : FnOk P w K mg base (L2.CX P w) (k + 3) fC fdC ["people"] (spChkP K)) (DC : Df K mg "check_people" sChkP fC fdC ["people"])
    (GG : FnOk P w K mg base (L2.CX P w) (k + 1) fG fdG ["goods"] (spChk0 K)) (DG : Df K mg "check_goods" sChkG fG fdG ["goods"]) (GS : FnOk P w K mg base CX0 (k + 2) fS fdS ["thing"] spZero) (DS : Df K mg "is_sum" sSum fS fdS ["thing"]) :
    FnOk P w K mg base (L2.CX P w) (k + 4) f fd ["self", "people", "goods", "purse", "debts"] (spHI K CH) := by
  refine F.ok scHI (fun vs H Q E h => ?_) (fun cdv A outer s H vs Q E hr h => ?_)
  · obtain ⟨o, dx, v, rows, rfl, _⟩ := h
    rfl
  · obtain ⟨o, dx, v, rows, rfl, ho, hv, gf, q⟩ := h
    have r1 : Room (k + 1) _ := hr.mono (by omega)
    have r2 : Room (k + 2) _ := hr.mono (by omega)
    refine ⟨_, pss_cons (ps_expr (pe_callS GC hr (by rfl) DC.mg DC.fn.kp DC.bd (fun σ => passAt (takes_of rfl rfl rfl rfl) σ) (pa_cons (pv 1) pa_nil)))
      (pss_cons (ps_set (i := 5) scHI.nd rfl (.inl rfl) (pe_ifExp (pt_cmpR op_isN (pv 2) pe_non (nomark _)) (pe_tup pa_nil) pe_no))
      (pss_cons (ps_expr (pe_callS GG r1 (by rfl) DG.mg DG.fn.kp DG.bd (fun σ => passAt (takes_of rfl rfl rfl rfl) σ) (pa_cons (pv 5) pa_nil)))
      (pss_cons (ps_for (passes_of rfl) rfl (pi_tup (pe_tup (pa_cons (pv 3) (pa_cons (pv 4) pa_nil)))) (pg_name (i := 6) scHI.nd rfl (.inl rfl))
        (pss_one (ps_if (pt_not (pt_val (pe_call GS r2 (by rfl) DS.mg DS.fn.kp DS.bd .nil pass0 (pa_cons (pv 6) pa_nil)))) (pss_one ps_no) pss_nil)))
      (pss_cons (ps_fld (pv 0) (pv 1) rfl) (pss_cons (ps_fld (pv 0) (pv 5) rfl) (pss_cons (ps_fld (pv 0) (pv 3) rfl) (pss_one (ps_fld (pv 0) (pv 4) rfl)))))))), ?_⟩
    refine ⟨_, rfl, v, rows, rfl, hv, gf, fun H1 s1 => ?_⟩
    refine ⟨_, rfl, rfl, _, rfl, iteT ⟨by show 0 ≤ sizeLine; decide, fun t nt => ?_⟩⟩
    refine ⟨_, rfl, t, rfl, sqT upd_same, fun H2 s2 => ?_⟩
    have s12 : Same H H2 := s1.trans ((same_new nt).trans s2)
    refine ⟨_, rfl, _, rfl, by show 2 ≤ sizeLine; decide, fun t2 nt2 => ⟨t2, rfl, ⟨_, sqT upd_same⟩, ?_⟩⟩
    have s3 : Same H (upd H2 t2 (.tup [.int 0, .int 0])) := s12.trans (same_new nt2)
    have g3 : (upd H2 t2 (.tup [.int 0, .int 0])) t2 = some (.tup [.int 0, .int 0]) := upd_same
    revert s3 g3
    generalize upd H2 t2 (.tup [.int 0, .int 0]) = H3
    intro s3 g3
    refine for_tup (K := K) (a := t2) (xs := [.int 0, .int 0]) (fun i σ H' => (∃ y, σ = [some (.ref o), some v, some .non, some (.int 0), some (.int 0), some (.ref t), y]) ∧ H' = H3) ⟨⟨_, rfl⟩, rfl⟩ (fun i σ H' _ h => h.2 ▸ sqT g3) ?_ ?_
    · rintro i x σ H4 hx ⟨⟨y, rfl⟩, rfl⟩
      have : x = .int 0 := by
        match i, hx with
        | 0, hx => cases hx; rfl
        | 1, hx => cases hx; rfl
        | i + 2, hx => cases hx
      subst this
      exact ⟨_, rfl, rfl, true, rfl, iteF ⟨⟨_, rfl⟩, rfl⟩⟩
    · rintro σ H4 ⟨⟨y, rfl⟩, rfl⟩
      refine ⟨_, rfl, _, rfl, o, CH, dx, _, rfl, s3 _ _ ho, T.cl, T.n1, by show 0 < 1000; decide, ?_⟩
      refine ⟨_, rfl, _, rfl, o, CH, dx, _, rfl, upd_same, T.cl, T.n2, by show 1 < 1000; decide, ?_⟩
      refine ⟨_, rfl, _, rfl, o, CH, dx, _, rfl, upd_same, T.cl, T.n3, by show 2 < 1000; decide, ?_⟩
      refine ⟨_, rfl, _, rfl, o, CH, dx, _, rfl, upd_same, T.cl, T.n4, by show 3 < 1000; decide, ?_⟩
      exact q _ (((((Bt.of_same s3).upd1 (by simp)).upd1 (by simp)).upd1 (by simp)).upd1 (by simp))
end
end WdQ

set_option Elab.async false
set_option linter.all false
set_option maxRecDepth 100000
set_option maxHeartbeats 4000000
namespace Wd
open PySem PySem.Spec PyProof.Rows L2 WdM
/-! ### an own object's special methods: str, repr, len, ==, != -/
section
variable {X : Cx} {n : Nat} {f C : Addr} {fd : FuncData} {ps : List Str} {sp : Sp}
/-- a def is called somewhere below the running body -/
theorem run_own (F : FnOk X.prog X.w X.K X.mg X.base CX0 n f fd ps sp) (hb : Binds X.K fd ps []) {A : Around} (sb : Sub X n A) {pins : List (Addr × Obj)} {σ : L2.St} {H : Hp} {s : Shared} (I : Inv X pins σ H s) {vs : List V} {us : List Value} (r : Vals vs us) {Q : VK} (h : sp vs H Q E0) :
    wpAny (model X.prog X.w) A (call (.ref f) us) (fun u s' => ∃ v H', Inv X pins σ H' s' ∧ RelV v u ∧ Q v H') X.xe s := by
  have e0 : Env0 X.prog X.w X.K X.mg X.base A X.stack s H := by
    have e := I.env0
    exact ⟨by rw [sb.fr]; exact e.frames, e.mod, e.bs, e.bsz, e.funs, e.frf, e.hok, e.bare⟩
  have hl := F.len _ _ _ _ h
  have hu : us.length = vs.length := r.length.symm
  refine wpAny_call (codeAny_mono (F.run A X.stack s H ⟨us, []⟩ us vs _ E0 sb.room e0 (by
    have := hb s us I.kIn (by simpa [hu] using hl)
    simpa using this) r h) fun r s' hq => ?_)
  cases r with
  | error e => exact (hq : False).elim
  | ok fl =>
    cases fl with
    | ret w =>
      obtain ⟨z, H', I', rz, ez⟩ := I.after hq
      exact ⟨z, H', I', rz, ez⟩
    | next => exact False.elim hq
    | brk => exact False.elim hq
    | cont => exact False.elim hq
def rOwnS (C : Addr) (sp : Sp) : List V → Hp → VK → Prop := fun xs H Q => ∃ a dx fs, xs = [.ref a] ∧ H a = some (.ins C dx fs) ∧ sp [.ref a] H (fun v H' => ∃ y, v = .str y ∧ Q v H') E0
def rOwnI (C : Addr) (sp : Sp) : List V → Hp → VK → Prop := fun xs H Q => ∃ a dx fs, xs = [.ref a] ∧ H a = some (.ins C dx fs) ∧ sp [.ref a] H (fun v H' => ∃ i : Int, v = .int i ∧ 0 ≤ i ∧ i < 2 ^ 62 ∧ Q v H') E0
theorem call_strO (F : FnOk X.prog X.w X.K X.mg X.base CX0 n f fd ps sp) (hs : PySem.W.findIn X.K (.ref C) "__str__" = some (some (.ref f))) (hf : PySem.W.isFn X.K (.ref f) = true) (hb : Binds X.K fd ps []) (room : Room (n + 2) X.A) : CallR X (.type "str") (rOwnS C sp) := by
  rintro pins s σ H _ us Q I r ⟨a, dx, fs, rfl, ha, h⟩
  obtain ⟨u, rfl, ru⟩ := vals1 r
  cases ru
  obtain ⟨mA, J, _⟩ := ins_get I.hok ha
  obtain ⟨od, J, _⟩ := J.look
  have sb : Sub X n X.A.in1.in1 := (Sub.in1 (Sub.in1 ⟨room, rfl⟩))
  refine PySem.W.kso_call sb.room.units0 I.kIn J hs hf (wpAny_mono (run_own (vs := [.ref a]) (us := [.ref a]) F hb sb I (.cons rfl .nil) h) (fun v s' z => ?_) fun _ _ z => z)
  obtain ⟨v, H', I', rv, y, rfl, q⟩ := z
  obtain ⟨t, rfl⟩ := rv
  exact ⟨.str y, H', I', ⟨t, rfl⟩, q⟩
theorem call_reprO (F : FnOk X.prog X.w X.K X.mg X.base CX0 n f fd ps sp) (hs : PySem.W.findIn X.K (.ref C) "__repr__" = some (some (.ref f))) (hf : PySem.W.isFn X.K (.ref f) = true) (hb : Binds X.K fd ps []) (room : Room (n + 1) X.A) : CallR X (.builtin "repr") (rOwnS C sp) := by
  rintro pins s σ H _ us Q I r ⟨a, dx, fs, rfl, ha, h⟩
  obtain ⟨u, rfl, ru⟩ := vals1 r
  cases ru
  obtain ⟨mA, J, _⟩ := ins_get I.hok ha
  obtain ⟨od, J, _⟩ := J.look
  obtain ⟨m, hF⟩ := I.fr
  have sb : Sub X n X.A.in1 := (Sub.in1 ⟨room, rfl⟩)
  refine PySem.W.repr_K sb.room.units0 hF I.ok.mod.kin J hs hf (wpAny_mono (run_own (vs := [.ref a]) (us := [.ref a]) F hb sb I (.cons rfl .nil) h) (fun v s' z => ?_) fun _ _ z => z)
  obtain ⟨v, H', I', rv, y, rfl, q⟩ := z
  obtain ⟨t, rfl⟩ := rv
  exact ⟨.str y, H', I', ⟨t, rfl⟩, q⟩
theorem call_lenO (F : FnOk X.prog X.w X.K X.mg X.base CX0 n f fd ps sp) (hs : PySem.W.findIn X.K (.ref C) "__len__" = some (some (.ref f))) (hf : PySem.W.isFn X.K (.ref f) = true) (hb : Binds X.K fd ps []) (room : Room (n + 1) X.A) : CallR X (.builtin "len") (rOwnI C sp) := by
  rintro pins s σ H _ us Q I r ⟨a, dx, fs, rfl, ha, h⟩
  obtain ⟨u, rfl, ru⟩ := vals1 r
  cases ru
  obtain ⟨mA, J, _⟩ := ins_get I.hok ha
  obtain ⟨od, J, _⟩ := J.look
  obtain ⟨m, hF⟩ := I.fr
  have sb : Sub X n X.A.in1 := (Sub.in1 ⟨room, rfl⟩)
  refine PySem.W.len_K hF I.ok.mod.kin J hs hf (wpAny_mono (run_own (vs := [.ref a]) (us := [.ref a]) F hb sb I (.cons rfl .nil) h) (fun v s' z => ?_) fun _ _ z => z)
  obtain ⟨v, H', I', rv, i, rfl, i0, i1, q⟩ := z
  obtain ⟨t, rfl⟩ := rv
  exact ⟨⟨i0, Int.lt_of_lt_of_le i1 (by decide)⟩, .int i, H', I'.tok _, ⟨_, rfl⟩, q⟩
/-- x == y of two own objects of one class -/
def rOwnE (C : Addr) (sp : Sp) (g : Bool → Bool) : R2 := fun x y H Q => ∃ a b dx dy fs gs, x = .ref a ∧ y = .ref b ∧ H a = some (.ins C dx fs) ∧ H b = some (.ins C dy gs) ∧ sp [.ref a, .ref b] H (fun v H' => ∃ k, v = .bl k ∧ Q (.bl (g k)) H') E0
theorem op_eqO (F : FnOk X.prog X.w X.K X.mg X.base CX0 n f fd ps sp) (hs : PySem.W.findIn X.K (.ref C) "__eq__" = some (some (.ref f))) (hf : PySem.W.isFn X.K (.ref f) = true) (hb : Binds X.K fd ps []) (room : Room n X.A) : OpR X (compareOp .Eq) (rOwnE C sp id) := by
  rintro pins s σ H _ _ u v Q I rx ry ⟨a, b, dx, dy, fs, gs, rfl, rfl, ha, hb', h⟩
  cases rx
  cases ry
  obtain ⟨mA, J, _⟩ := ins_get I.hok ha
  obtain ⟨mB, J', _⟩ := ins_get I.hok hb'
  obtain ⟨od, J, _⟩ := J.look
  obtain ⟨od', J', _⟩ := J'.look
  obtain ⟨m, hF⟩ := I.fr
  have sb : Sub X n X.A := ⟨room, rfl⟩
  refine PySem.W.cmp_K (op := .Eq) (tb := .ref C) sb.room.units0 hF I.ok.mod.kin J J'.type (by simp [PySem.W.notFirst]) hs hf (wpAny_mono (run_own (vs := [.ref a, .ref b]) (us := [.ref a, .ref b]) F hb sb I (.cons rfl (.cons rfl .nil)) h) (fun v s' z => ?_) fun _ _ z => z)
  obtain ⟨v, H', I', rv, k, rfl, q⟩ := z
  cases rv
  exact ⟨.bl k, H', I', rfl, q⟩
end
end Wd

set_option Elab.async false
set_option linter.all false
set_option maxRecDepth 100000
set_option maxHeartbeats 4000000
namespace Wd
open PySem PySem.Spec PyProof.Rows L2 WdM
section
variable {prog : Program} {w : World} {A : Around} {E : Value → Shared → Prop} {s : Shared} {K : PySem.W.Frag} {x C f : Addr} {ox : Obj} {od : Option Obj} {b tb : Value}
open PySem.W in
theorem ifBound_B {M : Model} {name : Str} {id : String} {args : List Value} {Q : Option Value → Shared → Prop} (X : K.In s.heap) (I : InstAt s.heap x ox C od) (hs : findIn K (.ref C) name = some (some (.builtin id))) (hb : ∀ self, bindSpecial (.builtin id) self = pure (.builtin id, [self]))
    (h : wpAny M A (call (.builtin id) (.ref x :: args)) (fun v => Q (some v)) E s) : wpAny M A (callSpecialIfBound? (.ref x) name args) Q E s := by
  simp only [callSpecialIfBound?, bindSpecialIfBound?]
  refine wpAny_holding (wpAny_bind (wpAny_bind (wpAny_bind (I.type.here ((looks_findIn X hs).here ?_)))))
  simp only [hb]
  refine wpAny_bind (wpAny_askSetting (wpAny_ite ?_))
  have fin : wpAny M A (call (.builtin id) ([.ref x] ++ args) >>= fun v => pure (some v)) Q E s := wpAny_bind (wpAny_mono h (fun v s' h' => wpAny_pure h') fun _ _ h' => h')
  split
  · exact wpAny_bind (wpAny_pure (wpAny_pure fin))
  · exact wpAny_tryCatch (wpAny_bind (wpAny_pure (wpAny_pure fin)))
open PySem.W in
theorem objNe_K (hu : A.units < cLine) (X : K.In s.heap) (I : InstAt s.heap x ox C od) (he : findIn K (.ref C) "__eq__" = some (some (.ref f))) (hf : isFn K (.ref f) = true) {Q : PySem.Fin → Shared → Prop}
    (hcall : wpAny (model prog w) A (call (.ref f) [.ref x, b]) (fun v s' => ∃ k, v = .bool k ∧ Q (.done (.ret (.bool (!k)))) s') E s) :
    wpAny (model prog w) A (Builtin.«object.__ne__» ⟨[.ref x, b], []⟩) Q E s := by
  unfold Builtin.«object.__ne__»
  repeat (first
    | with_reducible refine wpAny_cRoomFor hu ?_
    | (refine wpAny_bind (m := callSpecialIfBound? (.ref x) (Str.ofString "__eq__") [b])
        (ifBound_K X I he hf (wpAny_mono hcall (fun r s' hr => by
          obtain ⟨k, rfl, hq⟩ := hr
          repeat (first | exact hq | exact wpAny_pure hq | exact wpAny_truthy_bool hq | (refine wpAny_bind (m := truthy (.bool _)) (wpAny_truthy_bool ?_)) | wp_step)) fun _ _ e => e)))
    | wp_step)
open PySem.W in
theorem ne_K {Q : Value → Shared → Prop} (hu : A.units + 1 < cLine) (X : K.In s.heap) (I : InstAt s.heap x ox C od) (hb : Looks (model prog w) s.heap (typeOf b) tb) (hn : notFirst K C tb = true) (hm : mroIn K C (.type "object") = some true)
    (hne : findIn K (.ref C) "__ne__" = some (some (.builtin "object.__ne__"))) (he : findIn K (.ref C) "__eq__" = some (some (.ref f))) (hf : isFn K (.ref f) = true)
    (h : wpAny (model prog w) A.in1 (call (.ref f) [.ref x, b]) (fun v s' => ∃ k, v = .bool k ∧ Q (.bool (!k)) s') E s) : wpAny (model prog w) A (richCompare .NotEq (.ref x) b) Q E s := by
  have one : wpAny (model prog w) A (tryCompare (.ref x) (cmpInfo .NotEq).2.1 b) (fun r s' => ∃ v, r = some v ∧ Q v s') E s := by
    simp only [tryCompare]
    refine wpAny_bind (ifBound_B X I hne PySem.F.slot_object_ne.bind (wpAny_call (codeAny_call_builtin PySem.F.slot_object_ne.plain PySem.F.cmpEntry_ne
      (check_slot (i := "object.__ne__") (owner := "object") (n := "__ne__") (by decide +kernel) (by decide +kernel) (I.type.andThen (looks_mroIn X hm)) (PySem.F.cmpArgs_ne _ _)
        (objNe_K (A := A.in1) hu X I he hf (wpAny_mono h (fun v s' hv => ?_) fun _ _ e => e))))))
    obtain ⟨k, rfl, hq⟩ := hv
    first | exact ⟨k, rfl, wpAny_pure ⟨_, rfl, hq⟩⟩ | exact ⟨k, rfl, wpAny_pure (wpAny_pure ⟨_, rfl, hq⟩)⟩ | exact ⟨k, rfl, ⟨_, rfl, hq⟩⟩
  unfold richCompare
  simp only [oneThing_ref]
  refine wpAny_holding (wpAny_bind (wpAny_cRoomFor (Nat.lt_of_succ_lt hu) ?_))
  refine wpAny_bind (I.type.here (wpAny_bind (hb.here ?_)))
  split
  · rename_i q
    have e : subIn K tb (.ref C) = some false := by
      rcases Bool.or_eq_true_iff.mp hn with e | e
      · rw [beq_iff_eq.mp e] at q; simp at q
      · exact beq_iff_eq.mp e
    refine wpAny_bind ((looks_subIn X e).here ?_)
    simp only [Bool.false_eq_true, if_false]
    refine wpAny_bind (wpAny_mono one (fun r s' z => ?_) fun _ _ e => e)
    obtain ⟨v, rfl, hq⟩ := z
    exact wpAny_pure hq
  · refine wpAny_bind (wpAny_pure ?_)
    simp only [Bool.false_eq_true, if_false]
    refine wpAny_bind (wpAny_mono one (fun r s' z => ?_) fun _ _ e => e)
    obtain ⟨v, rfl, hq⟩ := z
    exact wpAny_pure hq
end
section
variable {X : Cx} {n : Nat} {f C : Addr} {fd : FuncData} {ps : List Str} {sp : Sp}
theorem op_neO (F : FnOk X.prog X.w X.K X.mg X.base CX0 n f fd ps sp) (hne : PySem.W.findIn X.K (.ref C) "__ne__" = some (some (.builtin "object.__ne__"))) (hm : PySem.W.mroIn X.K C (.type "object") = some true) (hs : PySem.W.findIn X.K (.ref C) "__eq__" = some (some (.ref f))) (hf : PySem.W.isFn X.K (.ref f) = true) (hb : Binds X.K fd ps []) (room : Room (n + 1) X.A) : OpR X (compareOp .NotEq) (rOwnE C sp (fun k => !k)) := by
  rintro pins s σ H _ _ u v Q I rx ry ⟨a, b, dx, dy, fs, gs, rfl, rfl, ha, hb', h⟩
  cases rx
  cases ry
  obtain ⟨mA, J, _⟩ := ins_get I.hok ha
  obtain ⟨mB, J', _⟩ := ins_get I.hok hb'
  obtain ⟨od, J, _⟩ := J.look
  obtain ⟨od', J', _⟩ := J'.look
  have sb : Sub X n X.A.in1 := (Sub.in1 ⟨room, rfl⟩)
  refine ne_K (tb := .ref C) sb.room.units0 I.kIn J J'.type (by simp [PySem.W.notFirst]) hm hne hs hf (wpAny_mono (run_own (vs := [.ref a, .ref b]) (us := [.ref a, .ref b]) F hb sb I (.cons rfl (.cons rfl .nil)) h) (fun v s' z => ?_) fun _ _ z => z)
  obtain ⟨v, H', I', rv, k, rfl, q⟩ := z
  cases rv
  exact ⟨k, rfl, .bl (!k), H', I', rfl, q⟩
/-- {o} in an f-string, o an own object -/
def tFmtO (C : Addr) (sp : Sp) (te : TE) : TE := fun σ H Q => te σ H fun x H1 => ∃ a dx fs, x = .ref a ∧ H1 a = some (.ins C dx fs) ∧ sp [.ref a] H1 (fun v H' => ∃ y, v = .str y ∧ Q v H') E0
theorem pe_fmtO {e : Expr} {te : TE} {pos : Pos} (F : FnOk X.prog X.w X.K X.mg X.base CX0 n f fd ps sp) (hfm : PySem.W.findIn X.K (.ref C) "__format__" = some (some (.builtin "object.__format__"))) (hm : PySem.W.mroIn X.K C (.type "object") = some true) (hs : PySem.W.findIn X.K (.ref C) "__str__" = some (some (.ref f))) (hf : PySem.W.isFn X.K (.ref f) = true) (hb : Binds X.K fd ps []) (room : Room (n + 1) X.A) (he : PE X e te) : PE X (.FormattedValue e (-1) none pos) (tFmtO C sp te) := by
  refine ⟨fun pins s σ H Q I h => ?_⟩
  refine wpAny_FormattedValue_plain (thn (he.run pins s σ H _ I h) fun v s1 hv => ?_)
  obtain ⟨x, H1, I1, r1, a, dx, fs, rfl, ha, q⟩ := hv
  cases r1
  obtain ⟨mA, J, _⟩ := ins_get I1.hok ha
  obtain ⟨od, J, _⟩ := J.look
  have sb : Sub X n X.A.in1 := (Sub.in1 ⟨room, rfl⟩)
  refine PySem.W.kfo_fieldS sb.room.units0 I1.kIn J hfm hm hs hf (wpAny_mono (run_own (vs := [.ref a]) (us := [.ref a]) F hb sb (I1.tok _) (.cons rfl .nil) q) (fun v s' z => ?_) fun _ _ z => z)
  obtain ⟨v, H', I', rv, y, rfl, q⟩ := z
  obtain ⟨t, rfl⟩ := rv
  exact ⟨.str y, H', I', ⟨t, rfl⟩, q⟩
end
end Wd

set_option Elab.async false
set_option linter.all false
set_option maxRecDepth 100000
set_option maxHeartbeats 4000000
set_option exponentiation.threshold 5000
namespace WdQ
open PySem PySem.Spec PyProof.Rows L2 WdM Wd
abbrev sDied : Stmt := inClass sStory 1
abbrev sLiv : Stmt := inClass sStory 2
abbrev sLen : Stmt := inClass sStory 3
abbrev sEq : Stmt := inClass sStory 4
abbrev sStr : Stmt := inClass sStory 5
abbrev sRepr : Stmt := inClass sStory 6
abbrev sText : Stmt := topS 55
theorem scDied : FnScope ["self", "name", "one", "day"] ["self", "name"] (defScope sDied) := ⟨rfl, rfl, rfl, by decide +kernel, rfl, by decide +kernel, by decide +kernel⟩
theorem scLiv : FnScope ["self", "name", "more", "day"] ["self", "name", "more"] (defScope sLiv) := ⟨rfl, rfl, rfl, by decide +kernel, rfl, by decide +kernel, by decide +kernel⟩
theorem scLen : FnScope ["self"] ["self"] (defScope sLen) := ⟨rfl, rfl, rfl, by decide +kernel, rfl, by decide +kernel, by decide +kernel⟩
theorem scEq : FnScope ["self", "other"] ["self", "other"] (defScope sEq) := ⟨rfl, rfl, rfl, by decide +kernel, rfl, by decide +kernel, by decide +kernel⟩
theorem scStr : FnScope ["self"] ["self"] (defScope sStr) := ⟨rfl, rfl, rfl, by decide +kernel, rfl, by decide +kernel, by decide +kernel⟩
theorem scRepr : FnScope ["self"] ["self"] (defScope sRepr) := ⟨rfl, rfl, rfl, by decide +kernel, rfl, by decide +kernel, by decide +kernel⟩
def nText : List Str := ["deaths", "name", "day"]
theorem scText : FnScope nText ["deaths"] (defScope sText) := ⟨rfl, rfl, rfl, by decide +kernel, rfl, by decide +kernel, by decide +kernel⟩
/-! ### the day of a name -/
def look : List (Str × Int) → Str → Option Int
  | [], _ => none
  | r :: rs, z => if r.1 = z then some r.2 else look rs z
def dayV : Option Int → V
  | none => .non
  | some d => .int d
def aliveB (rows : List (Str × Int)) (z : Str) (m : Int) : Bool := match look rows z with
  | none => true
  | some d => decide (m < d)
theorem look_drop {rows : List (Str × Int)} {i : Nat} {r : Str × Int} (h : rows[i]? = some r) (z : Str) : look (rows.drop i) z = if r.1 = z then some r.2 else look (rows.drop (i + 1)) z := by
  obtain ⟨hi, rfl⟩ := List.getElem?_eq_some_iff.mp h
  rw [List.drop_eq_getElem_cons hi]
  rfl
/-! ### its text -/
def deathT (r : Str × Int) : Str := ((Str.empty ++ r.1) ++ " ") ++ Str.ofString (toString r.2)
def storyT (rows : List (Str × Int)) : Str := if rows = [] then "none" else Txt.join ", " (rows.map deathT)
theorem log_day {i : Int} (h0 : -9999 ≤ i) (h1 : i ≤ 9999) : i.natAbs.log2 < 1920 := by
  by_cases z : i.natAbs = 0
  · rw [z]; decide
  · exact Nat.lt_of_lt_of_le ((Nat.log2_lt z).mpr (show i.natAbs < 2 ^ 14 by omega)) (by decide)
theorem day_text {i : Int} (h0 : -9999 ≤ i) (h1 : i ≤ 9999) : (Str.ofString (toString i)).length ≤ 5 := by
  have e : (toString i).length ≤ 4 + 1 := int_text_length_le10 (k := 4) (by decide) (by omega)
  rw [PySem.ofString_length]
  omega
theorem len_app (x y : Str) : (x ++ y).length = x.length + y.length := strLen_append x y
theorem nm_len {z : Str} (h : nmB z = true) : 1 ≤ z.length ∧ z.length ≤ 8 := by
  unfold nmB at h
  simp only [Bool.and_eq_true, decide_eq_true_eq] at h
  exact h.1.1
theorem nm_let {z : Str} (h : nmB z = true) : okL z := by
  unfold nmB at h
  simp only [Bool.and_eq_true] at h
  exact fun c hc => List.all_eq_true.mp h.2 c hc
theorem death_len {r : Str × Int} (h : nmB r.1 = true) (d0 : -9999 ≤ r.2) (d1 : r.2 ≤ 9999) : (deathT r).length ≤ 14 := by
  have a := nm_len h
  have b := day_text d0 d1
  unfold deathT
  rw [len_app, len_app, len_app]
  show 0 + r.1.length + 1 + _ ≤ 14
  omega
theorem sum_le14 : ∀ {ys : List Str}, (∀ y ∈ ys, y.length ≤ 14) → (ys.map (·.length)).sum ≤ 14 * ys.length
  | [], _ => by simp
  | y :: ys, h => by
    have a := h y List.mem_cons_self
    have b := sum_le14 (ys := ys) fun x hx => h x (List.mem_cons_of_mem _ hx)
    simp only [List.map_cons, List.sum_cons, List.length_cons]
    omega
section
variable {P : Program} {w : World} {K : PySem.W.Frag} {mg : Str → Option Value} {base : Heap} {CY : Addr}
/-- a story -/
def StoryAt (K : PySem.W.Frag) (CY : Addr) (H : Hp) (o : Addr) (rows : List (Str × Int)) : Prop := ∃ (dx : Addr) (v : V), H o = some (.ins CY dx [("deaths", v)]) ∧ DeathsAt K H v rows ∧ GoodD rows
theorem StoryAt.same {H H' : Hp} {o : Addr} {rows : List (Str × Int)} (h : StoryAt K CY H o rows) (e : Same H H') : StoryAt K CY H' o rows := by
  obtain ⟨dx, v, h, d, g⟩ := h
  exact ⟨dx, v, e _ _ h, d.tk (tk_same e), g⟩
def spDied (K : PySem.W.Frag) (CY : Addr) : Sp := fun vs H Q _ => ∃ (o : Addr) (z : Str) (rows : List (Str × Int)), vs = [.ref o, .str z] ∧ StoryAt K CY H o rows ∧ nmB z = true ∧ ∀ H', Same H H' → Q (dayV (look rows z)) H'
theorem ok_died {f fN : Addr} {fd fdN : FuncData} {k : Nat} (T : SyF K CY) (F : Fun K "died" "Story.died" sDied f fd) (GN : FnOk P w K mg base CX0 (k + 1) fN fdN ["thing"] (spName K)) (DN : Df K mg "is_name" sName fN fdN ["thing"]) : FnOk P w K mg base CX0 (k + 2) f fd ["self", "name"] (spDied K CY) := by
  refine F.ok scDied (fun vs H Q E h => ?_) (fun cdv A outer s H vs Q E hr h => ?_)
  · obtain ⟨o, z, rows, rfl, _⟩ := h
    rfl
  · obtain ⟨o, z, rows, rfl, st, nm, q⟩ := h
    refine ⟨_, pss_cons (ps_if (pt_not (pt_val (pe_call GN hr (by rfl) DN.mg DN.fn.kp DN.bd .nil pass0 (pa_cons (pv 1) pa_nil)))) pss_noS pss_nil)
      (pss_cons (ps_for PassesOwn.never rfl (pi_tup (pe_fld (pv 0) rfl)) (pg_tup rfl (pgs_cons (pg_name (i := 2) scDied.nd rfl (.inl rfl)) (pgs_cons (pg_name (i := 3) scDied.nd rfl (.inl rfl)) pgs_nil)))
        (pss_one (ps_if (pt_cmpR op_eq (pv 2) (pv 1) (nomark _)) (pss_one (ps_ret (pv 3))) pss_nil)))
      (pss_one (ps_ret pe_non))), ?_⟩
    refine ⟨_, rfl, .str z, .str z, rfl, (Th.dp (.str z)).is, (fun y e => by cases e; have := nm_len nm; omega), fun H1 s1 => ?_⟩
    rw [show nameB (.str z) = true from nm]
    refine ⟨true, rfl, iteF ?_⟩
    obtain ⟨dx, v, ho, ⟨t, xs, rfl, ht, xl, hx⟩, gd⟩ := st.same s1
    refine ⟨_, rfl, o, CY, dx, _, _, rfl, ho, T.cl, T.n1, rfl, t, rfl, ⟨_, ht⟩, for_tup (K := K) (a := t) (xs := xs) (fun i σ H' => (∃ y2 y3, σ = [some (.ref o), some (.str z), y2, y3]) ∧ look rows z = look (rows.drop i) z ∧ Same H1 H') ⟨⟨none, none, rfl⟩, rfl, Same.refl H1⟩ (fun i σ H' _ h => (tk_same h.2.2).sq ht) ?_ ?_⟩
    · rintro i x σ H2 hx2 ⟨⟨y2, y3, rfl⟩, lk, s2⟩
      obtain ⟨a, r, rfl, hr2, ha⟩ := hx i x hx2
      refine ⟨a, _, rfl, (tk_same s2).sq ha, rfl, _, _, rfl, _, _, rfl, rfl, ?_⟩
      rw [look_drop hr2] at lk
      refine ⟨_, rfl, _, rfl, rfl, _, rfl, ?_⟩
      by_cases e : r.1 = z
      · rw [show decide (V.str r.1 = V.str z) = true by simp [e]]
        rw [if_pos e] at lk
        refine iteT ⟨_, rfl, ?_⟩
        have := q H2 (s1.trans s2)
        rw [lk] at this
        exact this
      · rw [show decide (V.str r.1 = V.str z) = false by simp [e]]
        rw [if_neg e] at lk
        exact iteF ⟨⟨_, _, rfl⟩, lk, s2⟩
    · rintro σ H2 ⟨⟨y2, y3, rfl⟩, lk, s2⟩
      rw [xl, List.drop_length] at lk
      have := q H2 (s1.trans s2)
      rw [lk] at this
      exact this
def spLiv (K : PySem.W.Frag) (CY : Addr) : Sp := fun vs H Q _ => ∃ (o : Addr) (z : Str) (m : Int) (rows : List (Str × Int)), vs = [.ref o, .str z, .int m] ∧ StoryAt K CY H o rows ∧ nmB z = true ∧ -9999 ≤ m ∧ m ≤ 9999 ∧ ∀ H', Same H H' → Q (.bl (aliveB rows z m)) H'
theorem ok_liv {f fD fY : Addr} {fd fdD fdY : FuncData} {k : Nat} (T : SyF K CY) (F : FunD K "lives" "Story.lives" (defArgs sLiv) (defBody sLiv) (defScope sLiv) [.int 0] [] f fd) (MD : Meth K CY "died" fD) (bD : Binds K fdD ["self", "name"] []) (GD : FnOk P w K mg base CX0 (k + 2) fD fdD ["self", "name"] (spDied K CY))
    (GY : FnOk P w K mg base CX0 (k + 2) fY fdY ["thing"] (spDay K)) (DY : Df K mg "is_day" sDay fY fdY ["thing"]) : FnOk P w K mg base CX0 (k + 3) f fd ["self", "name", "more"] (spLiv K CY) := by
  refine F.ok scLiv (fun vs H Q E h => ?_) (fun cdv A outer s H vs Q E hr h => ?_)
  · obtain ⟨o, z, m, rows, rfl, _⟩ := h
    rfl
  · obtain ⟨o, z, m, rows, rfl, st, nm, m0, m1, q⟩ := h
    refine ⟨_, pss_cons (ps_set (i := 3) scLiv.nd rfl (.inl rfl) (pe_meth (pv 0) T.cl MD GD hr bD .nil pass0 (pa_cons (pv 1) pa_nil)))
      (pss_cons (ps_if (pt_not (pt_val (pe_call GY hr (by rfl) DY.mg DY.fn.kp DY.bd .nil pass0 (pa_cons (pv 2) pa_nil)))) pss_noS pss_nil)
      (pss_one (ps_ret (pe_or (pe_cmpR op_isN (pv 3) pe_non (nomark _)) (pe_one (pe_cmpR op_gt (pv 3) (pv 2) (nomark _))))))), ?_⟩
    have st0 := st
    obtain ⟨dx, v, ho, dh, gd⟩ := st
    refine ⟨_, rfl, o, dx, _, rfl, ho, rfl, _, rfl, o, z, rows, rfl, st0, nm, fun H1 s1 => ?_⟩
    refine ⟨_, rfl, [], .int m, .int m, rfl, .int m, ?_⟩
    rw [show dayB (.int m) = true from decide_eq_true ⟨m0, m1⟩]
    refine ⟨true, rfl, iteF ⟨_, rfl, rfl, _, rfl, ?_⟩⟩
    have q := q H1 s1
    unfold aliveB at q
    cases lk : look rows z with
    | none =>
      rw [lk] at q
      exact iteT q
    | some d =>
      rw [lk] at q
      exact iteF ⟨_, rfl, _, rfl, d, m, rfl, rfl, q⟩
def spLen (K : PySem.W.Frag) (CY : Addr) : Sp := fun vs H Q _ => ∃ (o : Addr) (rows : List (Str × Int)), vs = [.ref o] ∧ StoryAt K CY H o rows ∧ Q (.int (rows.length : Nat)) H
theorem ok_len {f : Addr} {fd : FuncData} {k : Nat} (B : Bi mg) (T : SyF K CY) (F : Fun K "__len__" "Story.__len__" sLen f fd) : FnOk P w K mg base CX0 (k + 1) f fd ["self"] (spLen K CY) := by
  refine F.ok scLen (fun vs H Q E h => ?_) (fun cdv A outer s H vs Q E hr h => ?_)
  · obtain ⟨o, rows, rfl, _⟩ := h
    rfl
  · obtain ⟨o, rows, rfl, ⟨dx, v, ho, ⟨t, xs, rfl, ht, xl, hx⟩, gd⟩, q⟩ := h
    refine ⟨_, pss_one (ps_ret (pe_callB call_len_seq (by rfl) B.len PySem.boot_len (pa_cons (pe_fld (pv 0) rfl) pa_nil))), ?_⟩
    rw [← xl] at q
    exact ⟨_, rfl, o, CY, dx, _, _, rfl, ho, T.cl, T.n1, rfl, t, _, rfl, .inr ht, q⟩
def tDT : TE := fun σ H Q => ∃ (z : Str) (d : Int), σ[1]? = some (some (.str z)) ∧ σ[2]? = some (some (.int d)) ∧ nmB z = true ∧ -9999 ≤ d ∧ d ≤ 9999 ∧ Q (.str (deathT (z, d))) H
def spText (K : PySem.W.Frag) : Sp := fun vs H Q _ => ∃ (v : V) (rows : List (Str × Int)), vs = [v] ∧ DeathsAt K H v rows ∧ GoodD rows ∧ ∀ H', Same H H' → Q (.str (storyT rows)) H'
theorem ok_text {f : Addr} {fd : FuncData} {k : Nat} (B : Bi mg) (D : Df K mg "story_text" sText f fd ["deaths"]) : FnOk P w K mg base CX0 (k + 1) f fd ["deaths"] (spText K) := by
  refine D.fn.ok scText (fun vs H Q E h => ?_) (fun cdv A outer s H vs Q E hr h => ?_)
  · obtain ⟨v, rows, rfl, _⟩ := h
    rfl
  · obtain ⟨v, rows, rfl, ⟨t, xs, rfl, ht, xl, hx⟩, gd, q⟩ := h
    refine ⟨_, pss_cons (ps_if (pt_cmpR op_eq (pe_callB call_len_seq (by rfl) B.len PySem.boot_len (pa_cons (pv 0) pa_nil)) pe_int (nomark _)) (pss_one (ps_ret pe_str)) pss_nil)
      (pss_one (ps_ret (pe_join pe_str (pe_lc (own := [("name", 1), ("day", 2)]) (g := gTup K 2 (gCons (gName 1) (gCons (gName 2) gNil))) (tt := tYes) rfl scText.nd (pi_tup (pv 0)) (blkOk_by (own := [("name", 1), ("day", 2)]) (N := nText) (sc := defScope sText) (by decide +kernel))
        (fun _ _ _ _ _ => pg_tup rfl (pgs_cons (pg_name (i := 1) scText.nd rfl (Or.inl rfl)) (pgs_cons (pg_name (i := 2) scText.nd rfl (Or.inl rfl)) pgs_nil))) (fun _ _ _ _ _ => pts_nil)
        (fun _ _ _ _ _ => PE.wk (t' := tDT) (pe_joined (PJ.cons (pe_fmt (pv 1)) (PJ.cons pe_str (PJ.cons (pe_fmt (pv 2)) PJ.nil)))) (by
          rintro σ H Q ⟨z, d, h1, h2, nm, d0, d1, q⟩
          have ln := nm_len nm
          have lt := day_text d0 d1
          refine ⟨_, h1, .inl ⟨z, rfl, small_len (by omega), z, rfl, ?_, " ", rfl, ?_, _, h2, .inr ⟨d, rfl, log_day d0 d1, _, rfl, ?_, q⟩⟩⟩
          · rw [len_app]
            show 0 + z.length ≤ sizeLine
            exact small_len (by omega)
          · rw [len_app, len_app]
            show 0 + z.length + 1 ≤ sizeLine
            exact small_len (by omega)
          · have ld := death_len (r := (z, d)) nm d0 d1
            exact small_len (by show (deathT (z, d)).length ≤ 1000; omega))))))), ?_⟩
    refine ⟨_, rfl, t, _, rfl, .inr ht, rfl, _, rfl, ?_⟩
    have l8 := gd.l8
    by_cases e : rows = []
    · subst e
      have x0 : xs.length = 0 := xl
      rw [show decide (V.int ((xs.length : Nat) : Int) = V.int 0) = true by simp [x0]]
      exact iteT (q H (Same.refl H))
    · have r0 : 1 ≤ rows.length := by
        cases rows with
        | nil => exact absurd rfl e
        | cons r rs => exact Nat.succ_le_succ (Nat.zero_le _)
      have x0 : ((xs.length : Nat) : Int) ≠ 0 := by omega
      rw [show decide (V.int ((xs.length : Nat) : Int) = V.int 0) = false from decide_eq_false (fun e => x0 (by injection e))]
      have q2 : ∀ H', Same H H' → Q (.str (Txt.join ", " (rows.map deathT))) H' := fun H' s => by
        have := q H' s
        unfold storyT at this
        rw [if_neg e] at this
        exact this
      refine iteF ⟨⟨_, rfl⟩, _, rfl, t, rfl, ⟨_, ht⟩, fun L nL => lc_tup (K := K) (a := t) (xs := xs) (fun j H' => H' L = some (.lst (((rows.take j).map deathT).map V.str)) ∧ Same H H') ⟨upd_same, same_new nL⟩ (fun j H' _ h => (tk_same h.2).sq ht) ?_ ?_⟩
      · rintro j x H5 hx5 ⟨hL, s5⟩
        obtain ⟨ra, r, rfl, hr5, hra⟩ := hx j x hx5
        have jl := lt_get hx5
        have m := List.mem_of_getElem? hr5
        have nm := gd.nm r m
        have dy := gd.dy r m
        have ln := nm_len nm.1
        have lt := day_text dy.1 dy.2
        have ld := death_len nm.1 dy.1 dy.2
        refine ⟨ra, _, rfl, (tk_same s5).sq hra, rfl, _, _, rfl, _, _, rfl, rfl, rfl, tyes (iteT ?_)⟩
        refine ⟨r.1, r.2, rfl, rfl, nm.1, dy.1, dy.2, _, hL, ?_, ?_, ((Bt.of_same (S := []) s5).upd0 nL).same⟩
        · rw [List.length_map, List.length_map, List.length_take]
          exact small1000 (by omega)
        · rw [upd_same, take_more hr5, List.map_append, List.map_append]
          rfl
      · rintro H5 ⟨hL, s5⟩
        rw [xl, List.take_length] at hL
        refine ⟨", ", L, rows.map deathT, rfl, rfl, .inl (sqL hL), ?_, q2 H5 s5⟩
        have := sum_le14 (ys := rows.map deathT) (fun y hy => by
          obtain ⟨r, hr, rfl⟩ := List.mem_map.mp hy
          exact death_len (gd.nm r hr).1 (gd.dy r hr).1 (gd.dy r hr).2)
        rw [List.length_map] at this ⊢
        show _ + rows.length * 2 ≤ _
        omega
end
end WdQ

set_option Elab.async false
set_option linter.all false
set_option maxRecDepth 100000
set_option maxHeartbeats 4000000
set_option exponentiation.threshold 5000
namespace WdQ
open PySem PySem.Spec PyProof.Rows L2 WdM Wd
abbrev sRow : Stmt := topS 33
abbrev sPers : Stmt := inClass sHouse 7
abbrev sPeo : Stmt := inClass sHouse 1
abbrev sChi : Stmt := inClass sHouse 2
abbrev sCkP : Stmt := topS 36
theorem scRow : FnScope ["rows", "name", "row"] ["rows", "name"] (defScope sRow) := ⟨rfl, rfl, rfl, by decide +kernel, rfl, by decide +kernel, by decide +kernel⟩
theorem scPers : FnScope ["self", "name", "row"] ["self", "name"] (defScope sPers) := ⟨rfl, rfl, rfl, by decide +kernel, rfl, by decide +kernel, by decide +kernel⟩
theorem scPeo : FnScope ["self", "row"] ["self"] (defScope sPeo) := ⟨rfl, rfl, rfl, by decide +kernel, rfl, by decide +kernel, by decide +kernel⟩
theorem scChi : FnScope ["self", "name", "row"] ["self", "name"] (defScope sChi) := ⟨rfl, rfl, rfl, by decide +kernel, rfl, by decide +kernel, by decide +kernel⟩
theorem scCkP : FnScope ["house", "names", "people", "name"] ["house", "names"] (defScope sCkP) := ⟨rfl, rfl, rfl, by decide +kernel, rfl, by decide +kernel, by decide +kernel⟩
theorem tk_ins {H : Hp} {p C dx : Addr} {fs : List (Str × V)} {o : HO} (h : H p = some (.ins C dx fs)) : Tk H (upd H p o) := fun a xs r => by
  rcases r with r | ⟨q, r⟩
  · refine .inl ?_
    rw [upd_ne (fun e => by rw [e, h] at r; cases r)]
    exact r
  · refine .inr ⟨q, ?_⟩
    rw [upd_ne (fun e => by rw [e, h] at r; cases r)]
    exact r
section
variable {P : Program} {w : World} {K : PySem.W.Frag} {mg : Str → Option Value} {base : Heap} {CH CY : Addr}
/-- a house, of which the people are told -/
def HomeAt (K : PySem.W.Frag) (CH : Addr) (H : Hp) (o : Addr) (rows : List (Str × Option Str)) : Prop := ∃ (dx : Addr) (v : V) (t : V × V × V), H o = some (.ins CH dx [("folk", v), ("things", t.1), ("purse", t.2.1), ("debts", t.2.2)]) ∧ FolkAt K H v rows ∧ GoodF rows ∧ True
theorem HomeAt.same {H H' : Hp} {o : Addr} {rows : List (Str × Option Str)} (h : HomeAt K CH H o rows) (e : Same H H') : HomeAt K CH H' o rows := by
  obtain ⟨dx, v, t, h, d, g, ht⟩ := h
  exact ⟨dx, v, t, e _ _ h, d.tk (tk_same e), g, trivial⟩
def spHIa (K : PySem.W.Frag) (CH : Addr) : Sp := fun vs H Q _ => ∃ (o dx : Addr) (v : V) (rows : List (Str × Option Str)), vs = [.ref o, v, .non, .int 0, .int 0] ∧ H o = some (.ins CH dx []) ∧ FolkAt K H v rows ∧ GoodF rows ∧ ∀ H', Bt [o] H H' → HomeAt K CH H' o rows → Q .non H'
theorem ok_HIa {f fC fG fS : Addr} {fd fdC fdG fdS : FuncData} {k : Nat} (B : Bi mg) (T : HsF K CH) (F : FunD K "__init__" "House.__init__" (defArgs sHI) (defBody sHI) (defScope sHI) [.non, .int 0, .int 0] [] f fd) (GC : FnOk P w K mg base (L2.CX P w) (k + 3) fC fdC ["people"] (spChkP K)) (DC : Df K mg "check_people" sChkP fC fdC ["people"])
    (GG : FnOk P w K mg base (L2.CX P w) (k + 1) fG fdG ["goods"] (spChk0 K)) (DG : Df K mg "check_goods" sChkG fG fdG ["goods"]) (GS : FnOk P w K mg base CX0 (k + 2) fS fdS ["thing"] spZero) (DS : Df K mg "is_sum" sSum fS fdS ["thing"]) :
    FnOk P w K mg base (L2.CX P w) (k + 4) f fd ["self", "people", "goods", "purse", "debts"] (spHIa K CH) := by
  refine F.ok scHI (fun vs H Q E h => ?_) (fun cdv A outer s H vs Q E hr h => ?_)
  · obtain ⟨o, dx, v, rows, rfl, _⟩ := h
    rfl
  · obtain ⟨o, dx, v, rows, rfl, ho, hv, gf, q⟩ := h
    have r1 : Room (k + 1) _ := hr.mono (by omega)
    have r2 : Room (k + 2) _ := hr.mono (by omega)
    refine ⟨_, pss_cons (ps_expr (pe_callS GC hr (by rfl) DC.mg DC.fn.kp DC.bd (fun σ => passAt (takes_of rfl rfl rfl rfl) σ) (pa_cons (pv 1) pa_nil)))
      (pss_cons (ps_set (i := 5) scHI.nd rfl (.inl rfl) (pe_ifExp (pt_cmpR op_isN (pv 2) pe_non (nomark _)) (pe_tup pa_nil) pe_no))
      (pss_cons (ps_expr (pe_callS GG r1 (by rfl) DG.mg DG.fn.kp DG.bd (fun σ => passAt (takes_of rfl rfl rfl rfl) σ) (pa_cons (pv 5) pa_nil)))
      (pss_cons (ps_for (passes_of rfl) rfl (pi_tup (pe_tup (pa_cons (pv 3) (pa_cons (pv 4) pa_nil)))) (pg_name (i := 6) scHI.nd rfl (.inl rfl))
        (pss_one (ps_if (pt_not (pt_val (pe_call GS r2 (by rfl) DS.mg DS.fn.kp DS.bd .nil pass0 (pa_cons (pv 6) pa_nil)))) (pss_one ps_no) pss_nil)))
      (pss_cons (ps_fld (pv 0) (pv 1) rfl) (pss_cons (ps_fld (pv 0) (pv 5) rfl) (pss_cons (ps_fld (pv 0) (pv 3) rfl) (pss_one (ps_fld (pv 0) (pv 4) rfl)))))))), ?_⟩
    refine ⟨_, rfl, v, rows, rfl, hv, gf, fun H1 s1 => ?_⟩
    refine ⟨_, rfl, rfl, _, rfl, iteT ⟨by show 0 ≤ sizeLine; decide, fun t nt => ?_⟩⟩
    refine ⟨_, rfl, t, rfl, sqT upd_same, fun H2 s2 => ?_⟩
    have s12 : Same H H2 := s1.trans ((same_new nt).trans s2)
    have ht2 : SqT K H2 t [] := sqT (s2 _ _ upd_same)
    refine ⟨_, rfl, _, rfl, by show 2 ≤ sizeLine; decide, fun t2 nt2 => ⟨t2, rfl, ⟨_, sqT upd_same⟩, ?_⟩⟩
    have s3 : Same H (upd H2 t2 (.tup [.int 0, .int 0])) := s12.trans (same_new nt2)
    have g3 : (upd H2 t2 (.tup [.int 0, .int 0])) t2 = some (.tup [.int 0, .int 0]) := upd_same
    have ht3 : SqT K (upd H2 t2 (.tup [.int 0, .int 0])) t [] := (tk_new nt2).sq ht2
    revert s3 g3 ht3
    generalize upd H2 t2 (.tup [.int 0, .int 0]) = H3
    intro s3 g3 ht3
    refine for_tup (K := K) (a := t2) (xs := [.int 0, .int 0]) (fun i σ H' => (∃ y, σ = [some (.ref o), some v, some .non, some (.int 0), some (.int 0), some (.ref t), y]) ∧ H' = H3) ⟨⟨_, rfl⟩, rfl⟩ (fun i σ H' _ h => h.2 ▸ sqT g3) ?_ ?_
    · rintro i x σ H4 hx ⟨⟨y, rfl⟩, rfl⟩
      have : x = .int 0 := by
        match i, hx with
        | 0, hx => cases hx; rfl
        | 1, hx => cases hx; rfl
        | i + 2, hx => cases hx
      subst this
      exact ⟨_, rfl, rfl, true, rfl, iteF ⟨⟨_, rfl⟩, rfl⟩⟩
    · rintro σ H4 ⟨⟨y, rfl⟩, rfl⟩
      refine ⟨_, rfl, _, rfl, o, CH, dx, _, rfl, s3 _ _ ho, T.cl, T.n1, by show 0 < 1000; decide, ?_⟩
      refine ⟨_, rfl, _, rfl, o, CH, dx, _, rfl, upd_same, T.cl, T.n2, by show 1 < 1000; decide, ?_⟩
      refine ⟨_, rfl, _, rfl, o, CH, dx, _, rfl, upd_same, T.cl, T.n3, by show 2 < 1000; decide, ?_⟩
      refine ⟨_, rfl, _, rfl, o, CH, dx, _, rfl, upd_same, T.cl, T.n4, by show 3 < 1000; decide, ?_⟩
      have tk1 : ∀ {A : Hp} {fs : List (Str × V)} {ob : HO}, A o = some (.ins CH dx fs) → Tk A (upd A o ob) := fun {A fs ob} h => tk_ins h
      refine q _ (((((Bt.of_same s3).upd1 (by simp)).upd1 (by simp)).upd1 (by simp)).upd1 (by simp)) ⟨dx, v, (.ref t, .int 0, .int 0), upd_same, ?_, gf, trivial⟩
      exact ((((hv.tk (tk_same s3)).tk (tk1 (s3 _ _ ho))).tk (tk1 upd_same)).tk (tk1 upd_same)).tk (tk1 upd_same)
/-! ### people -/
def spPeo (K : PySem.W.Frag) (CH : Addr) : Sp := fun vs H Q _ => ∃ (o : Addr) (rows : List (Str × Option Str)), vs = [.ref o] ∧ HomeAt K CH H o rows ∧ ∀ H' t, Same H H' → SqT K H' t ((rows.map Prod.fst).map V.str) → Q (.ref t) H'
theorem ok_peo {f : Addr} {fd : FuncData} {k : Nat} (B : Bi mg) (T : HsF K CH) (F : Fun K "people" "House.people" sPeo f fd) : FnOk P w K mg base CX0 (k + 1) f fd ["self"] (spPeo K CH) := by
  refine F.ok scPeo (fun vs H Q E h => ?_) (fun cdv A outer s H vs Q E hr h => ?_)
  · obtain ⟨o, rows, rfl, _⟩ := h
    rfl
  · obtain ⟨o, rows, rfl, ⟨dx, v, tt, ho, ⟨t, xs, rfl, ht, xl, hx⟩, gf, _⟩, q⟩ := h
    refine ⟨_, pss_one (ps_ret (pe_callTy call_tuple_of (by rfl) B.tuple boot_tuple (pa_cons (pe_lc (own := [("row", 1)]) (g := gName 1) (tt := tYes) rfl scPeo.nd (pi_tup (pe_fld (pv 0) rfl)) (blkOk_by (own := [("row", 1)]) (N := ["self", "row"]) (sc := defScope sPeo) (by decide +kernel))
        (fun _ _ _ _ _ => pg_name (i := 1) scPeo.nd rfl (Or.inl rfl)) (fun _ _ _ _ _ => pts_nil) (fun _ _ _ _ _ => pe_ix (r := rIxT K) ix_tup (pv 1) pe_int (fun _ _ => rfl))) pa_nil))), ?_⟩
    have l8 := gf.l8
    refine ⟨_, rfl, o, CH, dx, _, _, rfl, ho, T.cl, T.n1, rfl, t, rfl, ⟨_, ht⟩, fun L nL => lc_tup (K := K) (a := t) (xs := xs) (fun j H' => H' L = some (.lst (((rows.take j).map Prod.fst).map V.str)) ∧ Same H H') ⟨upd_same, same_new nL⟩ (fun j H' _ h => (tk_same h.2).sq ht) ?_ ?_⟩
    · rintro j x H5 hx5 ⟨hL, s5⟩
      obtain ⟨ra, r, rfl, hr5, hra⟩ := hx j x hx5
      have jl := lt_get hx5
      refine ⟨rfl, tyes (iteT ⟨_, rfl, ra, _, 0, .str r.1, rfl, rfl, (tk_same s5).sq hra, atI_nat (j := 0) rfl, _, hL, ?_, ?_, ((Bt.of_same (S := []) s5).upd0 nL).same⟩)⟩
      · rw [List.length_map, List.length_map, List.length_take]
        exact small1000 (by omega)
      · rw [upd_same, take_more hr5, List.map_append, List.map_append]
        rfl
    · rintro H5 ⟨hL, s5⟩
      rw [xl, List.take_length] at hL
      exact ⟨L, _, rfl, .inl ⟨sqL hL, fun tp ntp => q _ tp (s5.trans (same_new ntp)) (sqT upd_same)⟩⟩
/-! ### the row of a name -/
def spRow (K : PySem.W.Frag) : Sp := fun vs H Q _ => ∃ (v : V) (z : Str) (rows : List (Str × Option Str)), vs = [v, .str z] ∧ FolkAt K H v rows ∧ z ∈ rows.map Prod.fst ∧ ∀ H' a r, Same H H' → r ∈ rows → r.1 = z → SqT K H' a [.str r.1, parV r.2] → Q (.ref a) H'
theorem ok_row {f fW : Addr} {fd fdW : FuncData} {k : Nat} (D : Df K mg "row_named" sRow f fd ["rows", "name"]) (DW : Df K mg "is_word" sWord fW fdW ["thing", "words"]) (GW : FnOk P w K mg base CX0 (k + 1) fW fdW ["thing", "words"] (spWord K)) : FnOk P w K mg base CX0 (k + 2) f fd ["rows", "name"] (spRow K) := by
  refine D.fn.ok scRow (fun vs H Q E h => ?_) (fun cdv A outer s H vs Q E hr h => ?_)
  · obtain ⟨v, z, rows, rfl, _⟩ := h
    rfl
  · obtain ⟨v, z, rows, rfl, ⟨t, xs, rfl, ht, xl, hx⟩, zm, q⟩ := h
    refine ⟨_, pss_cons (ps_for PassesOwn.never rfl (pi_tup (pv 0)) (pg_name (i := 2) scRow.nd rfl (.inl rfl))
        (pss_one (ps_if (pt_val (pe_call GW hr (by rfl) DW.mg DW.fn.kp DW.bd .nil pass0 (pa_cons (pv 1) (pa_cons (pe_tup (pa_cons (pe_ix (r := rIxT K) ix_tup (pv 2) pe_int (fun _ _ => rfl)) pa_nil)) pa_nil)))) (pss_one (ps_ret (pv 2))) pss_nil)))
      (pss_one (ps_ret pe_non)), ?_⟩
    refine ⟨_, rfl, t, rfl, ⟨_, ht⟩, for_tup (K := K) (a := t) (xs := xs) (fun i σ H' => (∃ y2, σ = [some (.ref t), some (.str z), y2]) ∧ z ∈ (rows.drop i).map Prod.fst ∧ Same H H') ⟨⟨none, rfl⟩, zm, Same.refl H⟩ (fun i σ H' _ h => (tk_same h.2.2).sq ht) ?_ ?_⟩
    · rintro i x σ H2 hx2 ⟨⟨y2, rfl⟩, zi, s2⟩
      obtain ⟨a, r, rfl, hr2, ha⟩ := hx i x hx2
      have m := List.mem_of_getElem? hr2
      refine ⟨_, rfl, _, rfl, a, _, 0, .str r.1, rfl, rfl, (tk_same s2).sq ha, atI_nat (j := 0) rfl, by show 1 ≤ sizeLine; decide, fun tp ntp => ?_⟩
      have s3 : Same H (upd H2 tp (.tup [.str r.1])) := s2.trans (same_new ntp)
      have h3 : (upd H2 tp (.tup [.str r.1])) tp = some (.tup [.str r.1]) := upd_same
      revert s3 h3
      generalize upd H2 tp (.tup [.str r.1]) = H3
      intro s3 h3
      refine ⟨.str z, .str z, tp, [.str r.1], rfl, (Th.dp (.str z)).is, .inr (sqT h3), rfl, ?_⟩
      have wb : wordB [V.str r.1] (.str z) = decide (r.1 = z) := by
        show ((r.1 == z) || false) = _
        rw [Bool.or_false]
        by_cases e : r.1 = z <;> simp [e]
      rw [wb]
      refine ⟨_, rfl, ?_⟩
      by_cases e : r.1 = z
      · rw [decide_eq_true e]
        exact iteT ⟨_, rfl, q H3 a r s3 m e ((tk_same s3).sq ha)⟩
      · rw [decide_eq_false e]
        refine iteF ⟨⟨_, rfl⟩, ?_, s3⟩
        obtain ⟨hi, e2⟩ := List.getElem?_eq_some_iff.mp hr2
        rw [List.drop_eq_getElem_cons hi, List.map_cons] at zi
        rcases List.mem_cons.mp zi with h | h
        · exact absurd (by rw [← e2]; exact h.symm) e
        · exact h
    · rintro σ H2 ⟨⟨y2, rfl⟩, zi, s2⟩
      rw [xl, List.drop_length] at zi
      cases zi
end
end WdQ

set_option Elab.async false
set_option linter.all false
set_option maxRecDepth 100000
set_option maxHeartbeats 4000000
set_option exponentiation.threshold 5000
namespace WdQ
open PySem PySem.Spec PyProof.Rows L2 WdM Wd
def kidB (z : Str) (r : Str × Option Str) : Bool := decide (r.2 = some z)
def kidsOf (rows : List (Str × Option Str)) (z : Str) : List Str := (rows.filter (kidB z)).map Prod.fst
theorem kid_eq (z : Str) (r : Str × Option Str) : decide (parV r.2 = V.str z) = kidB z r := by
  unfold kidB
  cases r.2 with
  | none => rfl
  | some y =>
    by_cases e : y = z
    · subst e; simp [parV]
    · rw [decide_eq_false (fun h => e (Option.some.inj h)), decide_eq_false]
      intro h
      cases h
      exact e rfl
section
variable {P : Program} {w : World} {K : PySem.W.Frag} {mg : Str → Option Value} {base : Heap} {CH CY : Addr}
def spPers (K : PySem.W.Frag) (CH : Addr) : Sp := fun vs H Q _ => ∃ (o : Addr) (z : Str) (rows : List (Str × Option Str)), vs = [.ref o, .str z] ∧ HomeAt K CH H o rows ∧ z ∈ rows.map Prod.fst ∧ ∀ H' a, Same H H' → Q (.ref a) H'
theorem ok_pers {f fR : Addr} {fd fdR : FuncData} {k : Nat} (T : HsF K CH) (F : Fun K "person" "House.person" sPers f fd) (DR : Df K mg "row_named" sRow fR fdR ["rows", "name"]) (GR : FnOk P w K mg base CX0 (k + 2) fR fdR ["rows", "name"] (spRow K)) : FnOk P w K mg base CX0 (k + 3) f fd ["self", "name"] (spPers K CH) := by
  refine F.ok scPers (fun vs H Q E h => ?_) (fun cdv A outer s H vs Q E hr h => ?_)
  · obtain ⟨o, z, rows, rfl, _⟩ := h
    rfl
  · obtain ⟨o, z, rows, rfl, ⟨dx, v, t, ho, hv, gf, ht⟩, zm, q⟩ := h
    refine ⟨_, pss_cons (ps_set (i := 2) scPers.nd rfl (.inl rfl) (pe_call GR hr (by rfl) DR.mg DR.fn.kp DR.bd .nil pass0 (pa_cons (pe_fld (pv 0) rfl) (pa_cons (pv 1) pa_nil))))
      (pss_cons (ps_if (pt_cmpR op_isN (pv 2) pe_non (nomark _)) pss_noS pss_nil) (pss_one (ps_ret (pv 2)))), ?_⟩
    refine ⟨_, rfl, o, CH, dx, _, _, rfl, ho, T.cl, T.n1, rfl, _, rfl, v, z, rows, rfl, hv, zm, fun H1 a r s1 _ _ _ => ?_⟩
    exact ⟨_, rfl, rfl, false, rfl, iteF ⟨_, rfl, q H1 a s1⟩⟩
def spKids (K : PySem.W.Frag) (CH : Addr) : Sp := fun vs H Q _ => ∃ (o : Addr) (z : Str) (rows : List (Str × Option Str)), vs = [.ref o, .str z] ∧ HomeAt K CH H o rows ∧ z ∈ rows.map Prod.fst ∧ ∀ H' t, Same H H' → SqT K H' t ((kidsOf rows z).map V.str) → Q (.ref t) H'
theorem ok_kids {f fP : Addr} {fd fdP : FuncData} {k : Nat} (B : Bi mg) (T : HsF K CH) (F : Fun K "children" "House.children" sChi f fd) (MP : Meth K CH "person" fP) (bP : Binds K fdP ["self", "name"] []) (GP : FnOk P w K mg base CX0 (k + 3) fP fdP ["self", "name"] (spPers K CH)) :
    FnOk P w K mg base CX0 (k + 4) f fd ["self", "name"] (spKids K CH) := by
  refine F.ok scChi (fun vs H Q E h => ?_) (fun cdv A outer s H vs Q E hr h => ?_)
  · obtain ⟨o, z, rows, rfl, _⟩ := h
    rfl
  · obtain ⟨o, z, rows, rfl, hh, zm, q⟩ := h
    refine ⟨_, pss_cons (ps_expr (pe_meth (pv 0) T.cl MP GP hr bP .nil pass0 (pa_cons (pv 1) pa_nil)))
      (pss_one (ps_ret (pe_callTy call_tuple_of (by rfl) B.tuple boot_tuple (pa_cons (pe_lc (own := [("row", 2)]) (g := gName 2) rfl scChi.nd (pi_tup (pe_fld (pv 0) rfl)) (blkOk_by (own := [("row", 2)]) (N := ["self", "name", "row"]) (sc := defScope sChi) (by decide +kernel))
        (fun _ _ _ _ _ => pg_name (i := 2) scChi.nd rfl (Or.inl rfl)) (fun _ _ _ _ _ => pts_one (pt_cmpR op_eq (pe_ix (r := rIxT K) ix_tup (pv 2) pe_int (fun _ _ => rfl)) (pv 1) (nomark _))) (fun _ _ _ _ _ => pe_ix (r := rIxT K) ix_tup (pv 2) pe_int (fun _ _ => rfl))) pa_nil)))), ?_⟩
    have hh0 := hh
    obtain ⟨dx, v, tt, ho, _, gf, _⟩ := hh
    refine ⟨_, rfl, o, dx, _, rfl, ho, rfl, _, rfl, o, z, rows, rfl, hh0, zm, fun H1 a1 s1 => ?_⟩
    obtain ⟨dx1, v1, tt1, ho1, ⟨t, xs, rfl, ht, xl, hx⟩, gf1, _⟩ := hh0.same s1
    have l8 := gf.l8
    refine ⟨_, rfl, o, CH, dx1, _, _, rfl, ho1, T.cl, T.n1, rfl, t, rfl, ⟨_, ht⟩, fun L nL => lc_tup (K := K) (a := t) (xs := xs) (fun j H' => H' L = some (.lst ((kidsOf (rows.take j) z).map V.str)) ∧ Same H1 H') ⟨upd_same, same_new nL⟩ (fun j H' _ h => (tk_same h.2).sq ht) ?_ ?_⟩
    · rintro j x H5 hx5 ⟨hL, s5⟩
      obtain ⟨ra, r, rfl, hr5, hra⟩ := hx j x hx5
      have jl := lt_get hx5
      have hr6 : SqT K H5 ra [.str r.1, parV r.2] := (tk_same s5).sq hra
      have fl : ((rows.take j).filter (kidB z)).length ≤ 8 := by
        have := List.length_filter_le (kidB z) (rows.take j)
        rw [List.length_take] at this
        omega
      refine ⟨rfl, _, rfl, ra, _, 1, parV r.2, rfl, rfl, hr6, atI_nat (j := 1) rfl, _, rfl, by cases r.2 <;> rfl, _, rfl, ?_⟩
      rw [kid_eq]
      by_cases e : kidB z r = true
      · rw [e]
        refine iteT ⟨_, rfl, ra, _, 0, .str r.1, rfl, rfl, hr6, atI_nat (j := 0) rfl, _, hL, ?_, ?_, ((Bt.of_same (S := []) s5).upd0 nL).same⟩
        · rw [List.length_map]
          unfold kidsOf
          rw [List.length_map]
          exact small1000 (by omega)
        · rw [upd_same, take_more hr5]
          unfold kidsOf
          rw [List.filter_append, List.filter_cons_of_pos e, List.map_append, List.map_append]
          rfl
      · rw [show kidB z r = false by simpa using e]
        refine iteF ⟨?_, s5⟩
        rw [hL, take_more hr5]
        unfold kidsOf
        rw [List.filter_append, List.filter_cons_of_neg e, List.filter_nil, List.append_nil]
    · rintro H5 ⟨hL, s5⟩
      rw [xl, List.take_length] at hL
      exact ⟨L, _, rfl, .inl ⟨sqL hL, fun tp ntp => q _ tp ((s1.trans s5).trans (same_new ntp)) (sqT upd_same)⟩⟩
end
end WdQ

set_option Elab.async false
set_option linter.all false
set_option maxRecDepth 100000
set_option maxHeartbeats 4000000
set_option exponentiation.threshold 5000
namespace WdQ
open PySem PySem.Spec PyProof.Rows L2 WdM Wd
abbrev leTail : List Value := [.type "LookupError", .type "Exception", .type "BaseException", .type "object"]
/-- what the top has written of an own error of the family of LookupError, with one field -/
structure ErL (K : PySem.W.Frag) (mg : Str → Option Value) (x fld : Str) (C fI CW : Addr) : Prop where
  o : OexT "LookupError.__new__" leTail K C
  no : PySem.W.findIn K (.ref C) fld = some none
  i : PySem.W.findIn K (.ref C) "__init__" = some (some (.ref fI))
  t : PySem.W.typeIn K (.ref fI) = some (.type "function")
  g : mg x = some (.ref C)
  m : PySem.W.exmOne K (.ref C) (.ref CW) = some true
  c : ExcC K C
  f : XfC K C
abbrev sEPer : Stmt := inClass (topS 10) 0
theorem scEPer : FnScope ["self", "name"] ["self", "name"] (defScope sEPer) := ⟨rfl, rfl, rfl, by decide +kernel, rfl, by decide +kernel, by decide +kernel⟩
/-- the first of the names that isn't there -/
def missN (ns zs : List Str) : Option Str := zs.find? fun z => !inV (.str z) (ns.map V.str)
theorem miss_drop {ns zs : List Str} {i : Nat} {z : Str} (h : zs[i]? = some z) : missN ns (zs.drop i) = if inV (.str z) (ns.map V.str) = true then missN ns (zs.drop (i + 1)) else some z := by
  obtain ⟨hi, e⟩ := List.getElem?_eq_some_iff.mp h
  rw [List.drop_eq_getElem_cons hi, e]
  unfold missN
  rw [List.find?_cons]
  cases inV (.str z) (ns.map V.str) <;> rfl
section
variable {P : Program} {w : World} {K : PySem.W.Frag} {mg : Str → Option Value} {base : Heap} {CH CY CP fE CL : Addr}
theorem ok_ePer {fd : FuncData} {k : Nat} (T : ErL K mg "NoPerson" "name" CP fE CL) (F : Fun K "__init__" "NoPerson.__init__" sEPer fE fd) : FnOk P w K mg base CX0 (k + 1) fE fd ["self", "name"] (spInitE CP "name") := by
  refine F.ok scEPer (fun vs H Q E h => ?_) (fun cdv A outer s H vs Q E hr h => ?_)
  · obtain ⟨a, y, rfl, _⟩ := h
    rfl
  · obtain ⟨a, y, rfl, ha, q⟩ := h
    exact ⟨_, pss_one (ps_osT fam_lookup (pv 0) (pv 1)), y, rfl, .ref a, rfl, a, CP, rfl, T.o, T.no, ha, fun dx h1 h2 => q dx h1 h2⟩
def spCkP (K : PySem.W.Frag) (CH CP : Addr) : Sp := fun vs H Q E => ∃ (o L : Addr) (rows : List (Str × Option Str)) (zs : List Str), vs = [.ref o, .ref L] ∧ HomeAt K CH H o rows ∧ H L = some (.lst (zs.map V.str)) ∧
  (missN (rows.map Prod.fst) zs = none → ∀ H', Same H H' → Q .non H') ∧ (∀ z, missN (rows.map Prod.fst) zs = some z → ∀ H' dd, Same H H' → H' dd = none → E (.ref CP) (some dd) (upd H' dd (.xd [("name", .str z)])))
theorem ok_ckP {f fP : Addr} {fd fdP fdI : FuncData} {k : Nat} (T : HsF K CH) (TP : ErL K mg "NoPerson" "name" CP fE CL) (FI : Fun K "__init__" "NoPerson.__init__" sEPer fE fdI) (bI : Binds K fdI ["self", "name"] []) (D : Df K mg "check_persons" sCkP f fd ["house", "names"])
    (MP : Meth K CH "people" fP) (bP : Binds K fdP ["self"] []) (GP : FnOk P w K mg base CX0 (k + 1) fP fdP ["self"] (spPeo K CH)) : FnOk P w K mg base (L2.CX P w) (k + 3) f fd ["house", "names"] (spCkP K CH CP) := by
  have GI : FnOk P w K mg base CX0 (k + 1) fE fdI ["self", "name"] (spInitE CP "name") := ok_ePer (k := k) TP FI
  refine D.fn.okX scCkP (fun vs H Q E h => ?_) (fun cdv A outer s H vs Q E hr h => ?_)
  · obtain ⟨o, L, rows, zs, rfl, _⟩ := h
    rfl
  · obtain ⟨o, L, rows, zs, rfl, hh, hL, q, x⟩ := h
    refine ⟨_, pss_cons (ps_set (i := 2) scCkP.nd rfl (.inl rfl) (pe_meth0 (pv 0) T.cl MP GP (hr.mono (by omega)) bP .nil pass0))
      (pss_one (ps_for (passes_of rfl) rfl (pi_list (pv 1)) (pg_name (i := 3) scCkP.nd rfl (.inl rfl))
        (pss_one (ps_if (pt_cmpR (r := rIn K true) op_notIn_seq (pv 3) (pv 2) (by rfl))
          (pss_one (ps_raise rfl (takes_of rfl rfl rfl rfl) (pmk_T fam_lookup TP.o TP.i TP.t GI hr bI .nil pass0 (by rfl) TP.g (pa_cons (pv 3) pa_nil)))) pss_nil)))), ?_⟩
    have hh0 := hh
    obtain ⟨dx, v, tt, ho, _, gf, _⟩ := hh
    refine ⟨_, rfl, o, dx, _, rfl, ho, rfl, o, rows, rfl, hh0, fun H1 t s1 ht => ?_⟩
    refine ⟨_, rfl, L, rfl, ⟨_, sqL (s1 _ _ hL)⟩, for_list (K := K) (a := L) (xs := zs.map V.str) (fun i σ H' => (∃ y, σ = [some (.ref o), some (.ref L), some (.ref t), y]) ∧ missN (rows.map Prod.fst) zs = missN (rows.map Prod.fst) (zs.drop i) ∧ Same H1 H') ⟨⟨none, rfl⟩, rfl, Same.refl H1⟩ (fun i σ H' _ h => sqL (h.2.2 _ _ (s1 _ _ hL))) ?_ ?_⟩
    · rintro i x' σ H2 hx2 ⟨⟨y, rfl⟩, em, s2⟩
      obtain ⟨z, hz, rfl⟩ : ∃ z, zs[i]? = some z ∧ x' = .str z := by
        rw [List.getElem?_map] at hx2
        cases hc : zs[i]? with
        | none => rw [hc] at hx2; cases hx2
        | some z => rw [hc] at hx2; cases hx2; exact ⟨z, rfl, rfl⟩
      refine ⟨_, rfl, _, rfl, t, _, rfl, .inr ((tk_same s2).sq ht), rfl, flatS _, _, rfl, ?_⟩
      rw [miss_drop hz] at em
      cases c : inV (.str z) ((rows.map Prod.fst).map V.str) with
      | true =>
        rw [if_pos c] at em
        exact iteF ⟨⟨_, rfl⟩, em, s2⟩
      | false =>
        rw [if_neg (by rw [c]; decide)] at em
        exact iteT (raise_var rfl fun dd hd => x z em H2 dd (s1.trans s2) hd)
    · rintro σ H2 ⟨⟨y, rfl⟩, em, s2⟩
      rw [List.length_map, List.drop_length] at em
      exact q em H2 (s1.trans s2)
end
end WdQ

set_option Elab.async false
set_option linter.all false
set_option maxRecDepth 100000
set_option maxHeartbeats 4000000
set_option exponentiation.threshold 5000
namespace WdQ
open PySem PySem.Spec PyProof.Rows L2 WdM Wd
abbrev sPE : Stmt := topS 45
def nPE : List Str := ["groups", "group", "having", "name", "bottom"]
theorem scPE : FnScope nPE ["groups"] (defScope sPE) := ⟨rfl, rfl, rfl, by decide +kernel, rfl, by decide +kernel, by decide +kernel⟩
section
variable {P : Program} {w : World} {K : PySem.W.Frag} {mg : Str → Option Value} {base : Heap}
def BtAt (K : PySem.W.Frag) (H : Hp) (v : V) (r : Str × Nat) : Prop := ∃ a, v = .ref a ∧ SqT K H a [.str r.1, .int (r.2 : Nat)]
theorem BtAt.tk {H H' : Hp} {v : V} {r : Str × Nat} (h : BtAt K H v r) (e : Tk H H') : BtAt K H' v r := by
  obtain ⟨a, rfl, h⟩ := h
  exact ⟨a, rfl, e.sq h⟩
def GrAt (K : PySem.W.Frag) (H : Hp) (v : V) (g : List (Str × Nat)) : Prop := ∃ a xs, v = .ref a ∧ H a = some (.lst xs) ∧ A2 (BtAt K H) xs g
theorem bts_tk {H H' : Hp} {xs : List V} {g : List (Str × Nat)} (h : A2 (BtAt K H) xs g) (e : Tk H H') : A2 (BtAt K H') xs g := h.imp fun _ _ h => h.tk e
theorem GrAt.same {H H' : Hp} {v : V} {g : List (Str × Nat)} (h : GrAt K H v g) (e : Same H H') : GrAt K H' v g := by
  obtain ⟨a, xs, rfl, h, t⟩ := h
  exact ⟨a, xs, rfl, e _ _ h, bts_tk t (tk_same e)⟩
theorem grs_same {H H' : Hp} {xs : List V} {gs : List (List (Str × Nat))} (h : A2 (GrAt K H) xs gs) (e : Same H H') : A2 (GrAt K H') xs gs := h.imp fun _ _ h => h.same e
def rLenK (K : PySem.W.Frag) (xs : List V) (H : Hp) (Q : VK) : Prop := ∃ p ys, xs = [V.ref p] ∧ (SqL K H p ys ∨ SqT K H p ys) ∧ Q (V.int (ys.length : Nat)) H
def spPE (K : PySem.W.Frag) : Sp := fun vs H Q _ => ∃ (a : Addr) (xs : List V) (gs : List (List (Str × Nat))), vs = [.ref a] ∧ H a = some (.lst xs) ∧ A2 (GrAt K H) xs gs ∧ gs.length ≤ 100 ∧ gs.flatten.length ≤ 1000 ∧
  ∀ H' p, Same H H' → H p = none → GrAt K H' (.ref p) (peN gs) → Q (.ref p) H'
theorem ok_PE {f : Addr} {fd : FuncData} {k : Nat} (B : Bi mg) (D : Df K mg "parted_equally" sPE f fd ["groups"]) : FnOk P w K mg base CX0 (k + 1) f fd ["groups"] (spPE K) := by
  refine D.fn.ok scPE (fun vs H Q E h => ?_) (fun cdv A outer s H vs Q E hr h => ?_)
  · obtain ⟨a, xs, gs, rfl, _⟩ := h
    rfl
  · obtain ⟨a, xs, gs, rfl, ha, hg, l1, l2, q⟩ := h
    refine ⟨_, pss_cons (ps_set (i := 2) scPE.nd rfl (.inr rfl) (pe_lc (own := [("group", 1)]) (g := gName 1) rfl scPE.nd (pi_list (pv 0)) (blkOk_by (own := [("group", 1)]) (N := nPE) (sc := defScope sPE) (by decide +kernel))
          (fun _ _ _ _ _ => pg_name (i := 1) scPE.nd rfl (Or.inl rfl)) (fun _ _ _ _ _ => pts_one (pt_cmpR op_gt (pe_callB (r := rLenK K) call_len_seq (by rfl) B.len PySem.boot_len (pa_cons (pv 1) pa_nil)) pe_int (nomark _))) (fun _ _ _ _ _ => pv 1)))
      (pss_one (ps_ret (pe_lc2 (own := [("group", 1), ("name", 3), ("bottom", 4)]) (vs1 := [3, 4]) (g := gName 1) (g1 := gTup K 2 (gCons (gName 3) (gCons (gName 4) gNil))) (tt := tYes) (tt1 := tYes) (wi1 := iList K (tVar 1)) rfl scPE.nd (pi_list (pv 2))
          (blkOk_by (own := [("group", 1), ("name", 3), ("bottom", 4)]) (N := nPE) (sc := defScope sPE) (by decide +kernel)) (by decide)
          (fun _ _ _ _ _ => pg_name (i := 1) scPE.nd rfl (Or.inl rfl)) (fun _ _ _ _ _ => pts_nil)
          (fun _ _ _ _ _ => pi_list (pv 1))
          (fun _ _ _ _ _ => pg_tup rfl (pgs_cons (pg_name (i := 3) scPE.nd rfl (Or.inl rfl)) (pgs_cons (pg_name (i := 4) scPE.nd rfl (Or.inl rfl)) pgs_nil))) (fun _ _ _ _ _ => pts_nil)
          (fun _ _ _ _ _ => pe_tup (pa_cons (pv 3) (pa_cons (pe_op op_mul (pv 4) (pe_callB (r := rLenK K) call_len_seq (by rfl) B.len PySem.boot_len (pa_cons (pv 2) pa_nil))) pa_nil)))))), ?_⟩
    refine ⟨_, rfl, a, rfl, ⟨_, sqL ha⟩, fun L nL => lc_list (K := K) (a := a) (xs := xs) (fun j H' => (∃ ys, H' L = some (.lst ys) ∧ A2 (GrAt K H) ys ((gs.take j).filter hasB)) ∧ Same H H') ⟨⟨[], upd_same, .nil⟩, same_new nL⟩ (fun j H' _ h => sqL (h.2 _ _ ha)) ?_ ?_⟩
    · rintro j x H5 hx ⟨⟨ys, hL, hy⟩, s5⟩
      obtain ⟨g, hgj, gx⟩ := hg.get hx
      obtain ⟨b, zs, rfl, hb, hz⟩ := gx
      have jl := lt_get hgj
      have fl : ys.length ≤ 100 := by
        rw [hy.len]
        have := List.length_filter_le hasB (gs.take j)
        rw [List.length_take] at this
        omega
      refine ⟨rfl, _, rfl, b, zs, rfl, .inl (sqL (s5 _ _ hb)), _, 0, rfl, rfl, _, rfl, ?_⟩
      rw [take_more hgj, List.filter_append]
      by_cases c : hasB g = true
      · have c' : 0 < g.length := by simpa [hasB] using c
        rw [decide_eq_true (show (0 : Int) < (zs.length : Int) by rw [hz.len]; omega)]
        rw [List.filter_cons_of_pos c]
        exact iteT ⟨_, rfl, _, hL, Nat.lt_of_le_of_lt fl (by decide), ⟨_, upd_same, hy.snoc ⟨b, zs, rfl, hb, hz⟩⟩, ((Bt.of_same (S := []) s5).upd0 nL).same⟩
      · have c' : g.length = 0 := by simpa [hasB] using c
        rw [decide_eq_false (show ¬ (0 : Int) < (zs.length : Int) by rw [hz.len]; omega)]
        rw [List.filter_cons_of_neg c, List.filter_nil, List.append_nil]
        exact iteF ⟨⟨ys, hL, hy⟩, s5⟩
    · rintro H5 ⟨⟨ys, hL, hy⟩, s5⟩
      rw [hg.len, List.take_length] at hy
      have hy5 := grs_same hy s5
      have tl : (gs.filter hasB).flatten.length ≤ 1000 := by rw [ffil]; exact l2
      have yl : ys.length ≤ 100 := by
        rw [hy.len]
        have := List.length_filter_le hasB gs
        omega
      have part : ∀ i, (((gs.filter hasB).take i).map fun g => g.map (wide (gs.filter hasB).length)).flatten.length ≤ 1000 := fun i => by
        rw [flen _ (fun g => List.length_map _)]
        have e := congrArg List.length (congrArg List.flatten (List.take_append_drop i (gs.filter hasB)))
        rw [List.flatten_append, List.length_append] at e
        omega
      have q : ∀ H' p, Same H5 H' → H5 p = none → GrAt K H' (.ref p) ((gs.filter hasB).map fun g => g.map (wide (gs.filter hasB).length)).flatten → Q (.ref p) H' := fun H' p s' n' => q H' p (s5.trans s') (s5.free n')
      clear hy hg
      revert tl part q hy5
      generalize gs.filter hasB = hv
      intro hy tl part q
      refine ⟨_, rfl, L, rfl, ⟨_, sqL hL⟩, fun M nM => ?_⟩
      refine lc_outer (walk_list (K := K) (a := L) (xs := ys)) (fun i H' => ∃ acc, H' M = some (.lst acc) ∧ A2 (BtAt K H') acc ((hv.take i).map fun g => g.map (wide hv.length)).flatten ∧ Same H5 H') ⟨[], upd_same, .nil, same_new nM⟩ (fun i H' _ ⟨_, _, _, s⟩ => sqL (s _ _ hL)) ?_ ?_
      · rintro i x _ H2 hi ⟨acc, hM, al, s2⟩ ⟨rfl, hx⟩
        obtain ⟨g, hgi, gx⟩ := hy.get hx
        obtain ⟨b, zs, rfl, hb, hz⟩ := gx.same s2
        have nbM : b ≠ M := fun e => by
          obtain ⟨b', zs', e', hb', _⟩ := gx
          cases e'
          rw [e, nM] at hb'
          cases hb'
        have pp := part (i + 1)
        rw [take_more hgi, List.map_append, List.flatten_append, List.length_append] at pp
        simp only [List.map_cons, List.map_nil, List.flatten_cons, List.flatten_nil, List.append_nil, List.length_map] at pp
        have al2 := al.len
        refine ⟨rfl, tyes (iteT ⟨_, rfl, b, rfl, ⟨_, sqL hb⟩, ?_⟩)⟩
        rw [take_more hgi, List.map_append, List.flatten_append]
        simp only [List.map_cons, List.map_nil, List.flatten_cons, List.flatten_nil, List.append_nil]
        refine lc_inner (walk_list (K := K) (a := b) (xs := zs)) (fun j H' => ∃ acc, H' M = some (.lst acc) ∧ A2 (BtAt K H') acc ((((hv.take i).map fun g => g.map (wide hv.length)).flatten) ++ (g.take j).map (wide hv.length)) ∧ Same H5 H' ∧ H' b = some (.lst zs) ∧ Tk H2 H') ⟨acc, hM, by rw [List.take_zero, List.map_nil, List.append_nil]; exact al, s2, hb, Tk.refl H2⟩ (fun j H' _ ⟨_, _, _, _, h, _⟩ => sqL h) ?_ ?_
        · rintro j y _ H4 hj ⟨ac4, hM4, al4, s4, hb4, t4⟩ ⟨rfl, hy4⟩
          obtain ⟨r, hr4, c, rfl, hc⟩ := hz.get hy4
          have jl := lt_get hr4
          have al5 := al4.len
          rw [List.length_append, List.length_map, List.length_take] at al5
          refine ⟨c, _, rfl, t4.sq hc, rfl, _, _, rfl, _, _, rfl, rfl, rfl, tyes (iteT ⟨_, rfl, _, rfl, _, rfl, L, _, rfl, .inl (sqL (s4 _ _ hL)), _, _, rfl, rfl, .inr ⟨by omega, by omega⟩, by show 2 ≤ sizeLine; decide, fun tp ntp => ?_⟩)⟩
          have ntM : M ≠ tp := ne_of_none hM4 ntp
          have hM5 : (upd H4 tp (.tup [.str r.1, .int ((r.2 : Nat) * (ys.length : Nat))])) M = some (.lst ac4) := by rw [upd_ne ntM]; exact hM4
          refine ⟨_, hM5, Nat.lt_of_lt_of_le (show ac4.length < 2000 by omega) (by decide), _, upd_same, ?_, (((Bt.of_same (S := []) s4).new ntp).upd0 nM).same, ?_, (t4.trans (tk_new ntp)).trans (tk_lst hM5)⟩
          · rw [take_more hr4, List.map_append, ← List.append_assoc]
            refine (bts_tk al4 ((tk_new ntp).trans (tk_lst hM5))).snoc ⟨tp, rfl, (tk_lst hM5).sq ?_⟩
            rw [hy.len]
            exact sqT upd_same
          · rw [upd_ne nbM, upd_ne (ne_of_none hb4 ntp)]
            exact hb4
        · rintro H4 ⟨ac4, hM4, al4, s4, hb4, t4⟩
          rw [hz.len, List.take_length] at al4
          exact ⟨ac4, hM4, al4, s4⟩
      · rintro H2 ⟨acc, hM, al, s2⟩
        rw [hy.len, List.take_length] at al
        exact q H2 M s2 nM ⟨M, acc, rfl, hM, al⟩
end
end WdQ

set_option Elab.async false
set_option linter.all false
set_option maxRecDepth 100000
set_option maxHeartbeats 4000000
set_option exponentiation.threshold 5000
namespace WdQ
open PySem PySem.Spec PyProof.Rows L2 WdM Wd
/-! ### who a stock has -/
def stN (F : List (Str × Option Str)) (al : Str → Bool) : Nat → Str → List (Str × Nat)
  | 0, _ => []
  | n + 1, z => if al z = true then [(z, 1)] else peN ((kidsOf F z).map (stN F al n))
/-- z stands so far behind that n steps are enough -/
def Deep (F : List (Str × Option Str)) (n : Nat) (z : Str) : Prop := ∃ (i : Nat) (r : Str × Option Str), F[i]? = some r ∧ r.1 = z ∧ F.length ≤ i + n
section
variable {F : List (Str × Option Str)} {al : Str → Bool}
theorem Deep.up {n : Nat} {z : Str} (h : Deep F n z) : Deep F (n + 1) z := by
  obtain ⟨i, r, h1, h2, h3⟩ := h
  exact ⟨i, r, h1, h2, by omega⟩
theorem nd_at (g : GoodF F) {i j : Nat} {r s : Str × Option Str} (h1 : F[i]? = some r) (h2 : F[j]? = some s) (e : r.1 = s.1) : i = j := by
  have l1 := lt_get h1
  have l2 := lt_get h2
  have e1 : (F.map Prod.fst)[i]? = some r.1 := by rw [List.getElem?_map, h1]; rfl
  have e2 : (F.map Prod.fst)[j]? = some r.1 := by rw [List.getElem?_map, h2, e]; rfl
  exact (List.getElem?_inj (l := F.map Prod.fst) (by rw [List.length_map]; exact l1) g.nd).mp (by rw [e1, e2])
theorem kid_late (g : GoodF F) {i j : Nat} {r s : Str × Option Str} (h1 : F[i]? = some r) (h2 : F[j]? = some s) (e : kidB r.1 s = true) : i < j := by
  have e : s.2 = some r.1 := by simpa [kidB] using e
  have m := g.pr j s r.1 h2 e
  obtain ⟨t, ht, et⟩ := List.mem_map.mp m
  obtain ⟨k, hk⟩ := List.mem_iff_getElem?.mp ht
  have kl := lt_get hk
  rw [List.length_take] at kl
  rw [List.getElem?_take_of_lt (by omega)] at hk
  have := nd_at g hk h1 et
  omega
theorem kid_deep (g : GoodF F) {n : Nat} {z y : Str} (h : Deep F (n + 1) z) (hy : y ∈ kidsOf F z) : Deep F n y := by
  obtain ⟨i, r, h1, rfl, h3⟩ := h
  obtain ⟨s, hs, rfl⟩ := List.mem_map.mp hy
  obtain ⟨m, k⟩ := List.mem_filter.mp hs
  obtain ⟨j, hj⟩ := List.mem_iff_getElem?.mp m
  have := kid_late g h1 hj k
  exact ⟨j, s, hj, rfl, by omega⟩
theorem deep_some {n : Nat} {z : Str} (h : Deep F n z) : ∃ m, n = m + 1 := by
  obtain ⟨i, r, h1, _, h3⟩ := h
  have := lt_get h1
  exact ⟨n - 1, by omega⟩
theorem deep_of (g : GoodF F) {z : Str} (h : z ∈ F.map Prod.fst) : Deep F 8 z := by
  obtain ⟨r, hr, rfl⟩ := List.mem_map.mp h
  obtain ⟨j, hj⟩ := List.mem_iff_getElem?.mp hr
  exact ⟨j, r, hj, rfl, by have := g.l8; omega⟩
theorem deep_mem {n : Nat} {z : Str} (h : Deep F n z) : z ∈ F.map Prod.fst := by
  obtain ⟨i, r, h1, rfl, h3⟩ := h
  exact List.mem_map_of_mem (List.mem_of_getElem? h1)
theorem st_up (g : GoodF F) : ∀ {n : Nat} {z : Str}, Deep F n z → stN F al (n + 1) z = stN F al n z
  | 0, z, h => by obtain ⟨m, e⟩ := deep_some h; cases e
  | n + 1, z, h => by
    show (if al z = true then _ else _) = (if al z = true then _ else _)
    by_cases c : al z = true
    · rw [if_pos c, if_pos c]
    · rw [if_neg c, if_neg c]
      congr 1
      exact List.map_congr_left fun y hy => st_up g (kid_deep g h hy)
/-- its value, with steps enough -/
abbrev stk (F : List (Str × Option Str)) (al : Str → Bool) (z : Str) : List (Str × Nat) := stN F al 8 z
theorem stk_eq (g : GoodF F) {z : Str} (h : z ∈ F.map Prod.fst) : stk F al z = if al z = true then [(z, 1)] else peN ((kidsOf F z).map (stk F al)) := by
  show (if al z = true then _ else _) = (if al z = true then _ else _)
  by_cases c : al z = true
  · rw [if_pos c, if_pos c]
  · rw [if_neg c, if_neg c]
    congr 1
    exact List.map_congr_left fun y hy => (st_up g (kid_deep g (deep_of g h) hy)).symm
theorem st_eq (g : GoodF F) {z : Str} : ∀ {n m : Nat}, Deep F n z → stN F al (n + m) z = stN F al n z
  | n, 0, _ => rfl
  | n, m + 1, h => by
    rw [← Nat.add_assoc, st_up g (n := n + m) ?_, st_eq g h]
    clear st_eq
    induction m with
    | zero => exact h
    | succ m ih => exact ih.up
/-! ### how many rows there are at most -/
theorem fil_sum {α : Type} (c : α → Nat) (p : α → Bool) : ∀ (l : List α), (∀ (k : Nat) (r : α), l[k]? = some r → c r ≤ 2 ^ (l.length - 1 - k)) → ((l.filter p).map c).sum + 1 ≤ 2 ^ l.length
  | [], _ => by simp
  | r :: l, h => by
    have h0 : c r ≤ 2 ^ l.length := by
      have := h 0 r rfl
      simpa using this
    have ih := fil_sum c p l fun k s hs => by
      have := h (k + 1) s hs
      rw [List.length_cons] at this
      rw [show l.length + 1 - 1 - (k + 1) = l.length - 1 - k by omega] at this
      exact this
    rw [List.length_cons, Nat.pow_succ]
    by_cases e : p r = true
    · rw [List.filter_cons_of_pos e, List.map_cons, List.sum_cons]
      omega
    · rw [List.filter_cons_of_neg e]
      have : 0 < 2 ^ l.length := Nat.two_pow_pos _
      omega
theorem kids_drop (g : GoodF F) {i : Nat} {r : Str × Option Str} (h : F[i]? = some r) : kidsOf F r.1 = ((F.drop (i + 1)).filter (kidB r.1)).map Prod.fst := by
  unfold kidsOf
  have e : F.filter (kidB r.1) = (F.take (i + 1)).filter (kidB r.1) ++ (F.drop (i + 1)).filter (kidB r.1) := by rw [← List.filter_append, List.take_append_drop]
  have e2 : (F.take (i + 1)).filter (kidB r.1) = [] := by
    rw [List.filter_eq_nil_iff]
    intro s hs k
    obtain ⟨j, hj⟩ := List.mem_iff_getElem?.mp hs
    have jl := lt_get hj
    rw [List.length_take] at jl
    rw [List.getElem?_take_of_lt (by omega)] at hj
    have := kid_late g h hj k
    omega
  rw [e, e2, List.nil_append]
theorem fmap_len {α β : Type} (f : α → List β) : ∀ l : List α, ((l.map f).flatten).length = (l.map fun x => (f x).length).sum
  | [] => rfl
  | x :: l => by rw [List.map_cons, List.flatten_cons, List.length_append, fmap_len f l, List.map_cons, List.sum_cons]
theorem st_len (g : GoodF F) : ∀ {n i : Nat} {r : Str × Option Str}, F[i]? = some r → F.length ≤ i + n → (stN F al n r.1).length ≤ 2 ^ (F.length - 1 - i) ∧ ∀ m, n = m + 1 → ((kidsOf F r.1).map (stN F al m)).flatten.length ≤ 128
  | 0, i, r, h, l => by have := lt_get h; omega
  | n + 1, i, r, h, l => by
    have il := lt_get h
    have g8 := g.l8
    have sub : ((kidsOf F r.1).map (stN F al n)).flatten.length + 1 ≤ 2 ^ (F.length - 1 - i) := by
      rw [fmap_len, kids_drop g h, List.map_map]
      have := fil_sum (fun s : Str × Option Str => (stN F al n s.1).length) (kidB r.1) (F.drop (i + 1)) fun k s hs => by
        rw [List.getElem?_drop] at hs
        have := (st_len g (n := n) hs (by omega)).1
        rw [List.length_drop, show F.length - (i + 1) - 1 - k = F.length - 1 - (i + 1 + k) by omega]
        exact this
      rw [List.length_drop, show F.length - (i + 1) = F.length - 1 - i by omega] at this
      exact this
    refine ⟨?_, fun m e => ?_⟩
    · show (if al r.1 = true then _ else _ : List (Str × Nat)).length ≤ _
      by_cases c : al r.1 = true
      · rw [if_pos c]
        exact Nat.one_le_two_pow
      · rw [if_neg c, peN_len]
        omega
    · cases e
      have : 2 ^ (F.length - 1 - i) ≤ 2 ^ 7 := Nat.pow_le_pow_right (by decide) (by omega)
      omega
theorem stk_len (g : GoodF F) {z : Str} (h : z ∈ F.map Prod.fst) : (stk F al z).length ≤ 128 := by
  obtain ⟨r, hr, rfl⟩ := List.mem_map.mp h
  obtain ⟨i, hi⟩ := List.mem_iff_getElem?.mp hr
  have g8 := g.l8
  have := (st_len (al := al) g (n := 8) hi (by omega)).1
  have h2 : 2 ^ (F.length - 1 - i) ≤ 2 ^ 7 := Nat.pow_le_pow_right (by decide) (by omega)
  exact Nat.le_trans this h2
end
end WdQ

set_option Elab.async false
set_option linter.all false
set_option maxRecDepth 100000
set_option maxHeartbeats 4000000
set_option exponentiation.threshold 5000
namespace WdQ
open PySem PySem.Spec PyProof.Rows L2 WdM Wd
abbrev sStk : Stmt := topS 46
def nStk : List Str := ["house", "name", "story", "wait", "child"]
theorem scStk : FnScope nStk ["house", "name", "story", "wait"] (defScope sStk) := ⟨rfl, rfl, rfl, by decide +kernel, rfl, by decide +kernel, by decide +kernel⟩
section
variable {P : Program} {w : World} {K : PySem.W.Frag} {mg : Str → Option Value} {base : Heap} {CH CY : Addr}
def spStk (K : PySem.W.Frag) (CH CY : Addr) (n : Nat) : Sp := fun vs H Q _ => ∃ (ho so : Addr) (z : Str) (m : Int) (F : List (Str × Option Str)) (D : List (Str × Int)), vs = [.ref ho, .str z, .ref so, .int m] ∧ HomeAt K CH H ho F ∧ StoryAt K CY H so D ∧ Deep F n z ∧ -9999 ≤ m ∧ m ≤ 9999 ∧
  ∀ H' p, Same H H' → H p = none → GrAt K H' (.ref p) (stN F (fun y => aliveB D y m) n z) → Q (.ref p) H'
theorem HomeAt.good {H : Hp} {o : Addr} {rows : List (Str × Option Str)} (h : HomeAt K CH H o rows) : GoodF rows := by
  obtain ⟨dx, v, t, _, _, g, _⟩ := h
  exact g
theorem StoryAt.at {H : Hp} {o : Addr} {rows : List (Str × Int)} (h : StoryAt K CY H o rows) : ∃ dx v, H o = some (.ins CY dx [("deaths", v)]) := by
  obtain ⟨dx, v, h, _⟩ := h
  exact ⟨dx, v, h⟩
theorem HomeAt.at {H : Hp} {o : Addr} {rows : List (Str × Option Str)} (h : HomeAt K CH H o rows) : ∃ dx v t1 t2 t3, H o = some (.ins CH dx [("folk", v), ("things", t1), ("purse", t2), ("debts", t3)]) := by
  obtain ⟨dx, v, t, h, _⟩ := h
  exact ⟨dx, v, _, _, _, h⟩
theorem deep_nm {F : List (Str × Option Str)} {n : Nat} {z : Str} (g : GoodF F) (h : z ∈ F.map Prod.fst) : nmB z = true := by
  obtain ⟨r, hr, rfl⟩ := List.mem_map.mp h
  exact (g.nm r hr).name
theorem stk_step {f fK fL fP : Addr} {fd fdK fdL fdP : FuncData} {k n : Nat} (B : Bi mg) (TH : HsF K CH) (TY : SyF K CY) (D : Df K mg "stock_takers" sStk f fd ["house", "name", "story", "wait"])
    (MK : Meth K CH "children" fK) (bK : Binds K fdK ["self", "name"] []) (GK : FnOk P w K mg base CX0 (k + 4) fK fdK ["self", "name"] (spKids K CH))
    (ML : Meth K CY "lives" fL) (bL : Binds K fdL ["self", "name", "more"] []) (GL : FnOk P w K mg base CX0 (k + 3) fL fdL ["self", "name", "more"] (spLiv K CY))
    (DP : Df K mg "parted_equally" sPE fP fdP ["groups"])
    (GB : FnOk P w K mg base CX0 (k + 4 + n) f fd ["house", "name", "story", "wait"] (spStk K CH CY n)) : FnOk P w K mg base CX0 (k + 4 + n + 1) f fd ["house", "name", "story", "wait"] (spStk K CH CY (n + 1)) := by
  have GP : FnOk P w K mg base CX0 (k + 4) fP fdP ["groups"] (spPE K) := ok_PE (k := k + 3) B DP
  refine D.fn.ok scStk (fun vs H Q E h => ?_) (fun cdv A outer s H vs Q E hr h => ?_)
  · obtain ⟨ho, so, z, m, F, Dd, rfl, _⟩ := h
    rfl
  · obtain ⟨ho, so, z, m, F, Dd, rfl, hH, hY, dp, m0, m1, q⟩ := h
    have r4 : Room (k + 4) _ := hr.mono (by omega)
    have r3 : Room (k + 3) _ := hr.mono (by omega)
    refine ⟨_, pss_cons (ps_if (pt_val (pe_meth (pv 2) TY.cl ML GL r3 bL .nil pass0 (pa_cons (pv 1) (pa_cons (pv 3) pa_nil)))) (pss_one (ps_ret (pe_lst (pa_cons (pe_tup (pa_cons (pv 1) (pa_cons pe_int pa_nil))) pa_nil)))) pss_nil)
      (pss_one (ps_ret (pe_call GP r4 (by rfl) DP.mg DP.fn.kp DP.bd .nil pass0 (pa_cons (pe_lc (own := [("child", 4)]) (g := gName 4) (tt := tYes) rfl scStk.nd (pi_tup (pe_meth (pv 0) TH.cl MK GK r4 bK .nil pass0 (pa_cons (pv 1) pa_nil))) (blkOk_by (own := [("child", 4)]) (N := nStk) (sc := defScope sStk) (by decide +kernel))
          (fun _ _ _ _ _ => pg_name (i := 4) scStk.nd rfl (Or.inl rfl)) (fun _ _ _ _ _ => pts_nil) (fun _ _ _ _ _ => pe_call GB hr (by rfl) D.mg D.fn.kp D.bd .nil pass0 (pa_cons (pv 0) (pa_cons (pv 4) (pa_cons (pv 2) (pa_cons (pv 3) pa_nil)))))) pa_nil)))), ?_⟩
    have g := hH.good
    have zm := deep_mem dp
    have q : ∀ H' p, Same H H' → H p = none → GrAt K H' (.ref p) (if aliveB Dd z m = true then [(z, 1)] else peN ((kidsOf F z).map (stN F (fun y => aliveB Dd y m) n))) → Q (.ref p) H' := q
    obtain ⟨dy, fy, hYo⟩ := hY.at
    refine ⟨_, rfl, so, dy, _, rfl, hYo, rfl, _, rfl, _, rfl, so, z, m, Dd, rfl, hY, deep_nm (n := n) g zm, m0, m1, fun H1 s1 => ⟨_, rfl, ?_⟩⟩
    cases c : aliveB Dd z m with
    | true =>
      rw [if_pos c] at q
      refine iteT ⟨_, rfl, by show 2 ≤ sizeLine; decide, fun tp ntp => ⟨by show 1 ≤ sizeLine; decide, fun p np => ?_⟩⟩
      refine q _ p ((s1.trans (same_new ntp)).trans (same_new np)) ((s1.trans (same_new ntp)).free np) ⟨p, _, rfl, upd_same, .cons ⟨tp, rfl, (tk_new np).sq (sqT upd_same)⟩ .nil⟩
    | false =>
      rw [if_neg (by rw [c]; decide)] at q
      obtain ⟨dh, _, _, _, _, hHo⟩ := (hH.same s1).at
      refine iteF ⟨_, rfl, ho, dh, _, rfl, hHo, rfl, _, rfl, ho, z, F, rfl, hH.same s1, zm, fun H2 t s2 ht => ⟨t, rfl, ⟨_, ht⟩, fun L nL => ?_⟩⟩
      have kl : (kidsOf F z).length ≤ 8 := by
        unfold kidsOf
        rw [List.length_map]
        have := List.length_filter_le (kidB z) F
        have := g.l8
        omega
      have tot : ((kidsOf F z).map (stN F (fun y => aliveB Dd y m) n)).flatten.length ≤ 128 := by
        obtain ⟨i, r, h1, rfl, h3⟩ := dp
        exact (st_len g h1 h3).2 n rfl
      have kd : ∀ y ∈ kidsOf F z, Deep F n y := fun y hy => kid_deep g dp hy
      revert kl tot kd q ht
      generalize kidsOf F z = ks
      intro q ht kl tot kd
      refine lc_tup (K := K) (a := t) (xs := ks.map V.str) (fun j H' => (∃ ys, H' L = some (.lst ys) ∧ A2 (GrAt K H') ys ((ks.take j).map (stN F (fun y => aliveB Dd y m) n)) ∧ ∀ y ∈ ys, y ≠ .ref L) ∧ Same H2 H') ⟨⟨[], upd_same, .nil, (fun y hy => nomatch hy)⟩, same_new nL⟩ (fun j H' _ h => (tk_same h.2).sq ht) ?_ ?_
      · rintro j x H5 hx ⟨⟨ys, hL, hy, hn⟩, s5⟩
        rw [List.getElem?_map] at hx
        obtain ⟨y, hyj, rfl⟩ : ∃ y, ks[j]? = some y ∧ x = .str y := by
          cases hc : ks[j]? with
          | none => rw [hc] at hx; cases hx
          | some y => rw [hc] at hx; cases hx; exact ⟨y, rfl, rfl⟩
        have jl := lt_get hyj
        have yl := hy.len
        rw [List.length_map, List.length_take] at yl
        have s25 := (s1.trans s2).trans s5
        refine ⟨rfl, tyes (iteT ⟨_, rfl, _, rfl, _, rfl, _, rfl, ho, so, y, m, F, Dd, rfl, hH.same s25, hY.same s25, kd y (List.mem_of_getElem? hyj), m0, m1, fun H6 p6 s6 n6 g6 => ?_⟩)⟩
        have nLp : p6 ≠ L := (ne_of_none hL n6).symm
        refine ⟨_, s6 _ _ hL, Nat.lt_of_lt_of_le (show ys.length < 1000 by omega) (by decide), ⟨ys ++ [.ref p6], upd_same, ?_, ?_⟩, ((Bt.of_same (S := []) (s5.trans s6)).upd0 nL).same⟩
        · rw [take_more hyj, List.map_append]
          have up : ∀ {v : V} {gg : List (Str × Nat)}, v ≠ .ref L → GrAt K H6 v gg → GrAt K (upd H6 L (.lst (ys ++ [.ref p6]))) v gg := by
            rintro v gg nv ⟨b, zs, rfl, hb, hz⟩
            exact ⟨b, zs, rfl, by rw [upd_ne (fun e => nv (by rw [e]))]; exact hb, bts_tk hz (tk_lst (s6 _ _ hL))⟩
          refine A2.snoc ?_ (up (fun e => nLp (by cases e; rfl)) g6)
          have : ∀ {vs : List V} {ggs : List (List (Str × Nat))}, (∀ y ∈ vs, y ≠ .ref L) → A2 (GrAt K H5) vs ggs → A2 (GrAt K (upd H6 L (.lst (ys ++ [.ref p6])))) vs ggs := by
            intro vs ggs hv a
            induction a with
            | nil => exact .nil
            | cons h _ ih => exact .cons (up (hv _ (by simp)) (h.same s6)) (ih fun y hy => hv y (by simp [hy]))
          exact this hn hy
        · intro v hv
          rcases List.mem_append.mp hv with h | h
          · exact hn v h
          · rw [List.mem_singleton.mp h]
            exact fun e => nLp (by cases e; rfl)
      · rintro H5 ⟨⟨ys, hL, hy, hn⟩, s5⟩
        rw [List.length_map, List.take_length] at hy
        exact ⟨L, ys, _, rfl, hL, hy, by rw [List.length_map]; omega, by omega, fun H6 p s6 n6 g6 => q H6 p (((s1.trans s2).trans s5).trans s6) (((s1.trans s2).trans s5).free n6) g6⟩
theorem stk_no {vs : List V} {H : Hp} {Q : VK} {E : XK} (h : spStk K CH CY 0 vs H Q E) : False := by
  obtain ⟨_, _, _, _, _, _, _, _, _, dp, _⟩ := h
  obtain ⟨m, e⟩ := deep_some dp
  cases e
theorem ok_stk {f fK fL fP : Addr} {fd fdK fdL fdP : FuncData} {k : Nat} (B : Bi mg) (TH : HsF K CH) (TY : SyF K CY) (D : Df K mg "stock_takers" sStk f fd ["house", "name", "story", "wait"])
    (MK : Meth K CH "children" fK) (bK : Binds K fdK ["self", "name"] []) (GK : FnOk P w K mg base CX0 (k + 4) fK fdK ["self", "name"] (spKids K CH))
    (ML : Meth K CY "lives" fL) (bL : Binds K fdL ["self", "name", "more"] []) (GL : FnOk P w K mg base CX0 (k + 3) fL fdL ["self", "name", "more"] (spLiv K CY))
    (DP : Df K mg "parted_equally" sPE fP fdP ["groups"]) : ∀ n, FnOk P w K mg base CX0 (k + 4 + n) f fd ["house", "name", "story", "wait"] (spStk K CH CY n)
  | 0 => ⟨fun _ _ _ _ h => (stk_no h).elim, fun _ _ _ _ _ _ _ _ _ _ _ _ _ h => (stk_no h).elim⟩
  | n + 1 => stk_step B TH TY D MK bK GK ML bL GL DP (ok_stk B TH TY D MK bK GK ML bL GL DP n)
end
end WdQ

set_option Elab.async false
set_option linter.all false
set_option maxRecDepth 100000
set_option maxHeartbeats 4000000
set_option exponentiation.threshold 5000
namespace WdQ
open PySem PySem.Spec PyProof.Rows L2 WdM Wd
abbrev sPt : Stmt := topS 47
def nPt : List Str := ["house", "part", "story", "wait", "word", "name", "names", "each"]
theorem scPt : FnScope nPt ["house", "part", "story", "wait"] (defScope sPt) := ⟨rfl, rfl, rfl, by decide +kernel, rfl, by decide +kernel, by decide +kernel⟩
/-! ### who a part has -/
abbrev Part := Str × Str
def isW (x y : Str) : Bool := decide (V.str x = V.str y)
def ptS (F : List (Str × Option Str)) (p : Part) : List Str := if isW p.1 "one" = true then [p.2] else kidsOf F p.2
def one1 (y : Str) : List (Str × Nat) := [(y, 1)]
def ptN (F : List (Str × Option Str)) (al : Str → Bool) (p : Part) : List (Str × Nat) := if isW p.1 "stock" = true then stk F al p.2 else peN (((ptS F p).filter al).map one1)
theorem ones_len : ∀ ys : List Str, (ys.map one1).flatten.length = ys.length
  | [] => rfl
  | y :: ys => by rw [List.map_cons, List.flatten_cons, List.length_append, ones_len ys, List.length_cons]; show 1 + _ = _; omega
theorem ptS_len {F : List (Str × Option Str)} (g : GoodF F) (p : Part) : (ptS F p).length ≤ 8 := by
  unfold ptS
  split
  · show 1 ≤ 8
    decide
  · unfold kidsOf
    rw [List.length_map]
    have := List.length_filter_le (kidB p.2) F
    have := g.l8
    omega
theorem ptS_mem {F : List (Str × Option Str)} {p : Part} (h : p.2 ∈ F.map Prod.fst) {y : Str} (hy : y ∈ ptS F p) : y ∈ F.map Prod.fst := by
  unfold ptS at hy
  split at hy
  · rw [List.mem_singleton.mp hy]
    exact h
  · obtain ⟨r, hr, rfl⟩ := List.mem_map.mp hy
    exact List.mem_map_of_mem (List.mem_filter.mp hr).1
theorem ptN_len {F : List (Str × Option Str)} {al : Str → Bool} (g : GoodF F) {p : Part} (h : p.2 ∈ F.map Prod.fst) : (ptN F al p).length ≤ 128 := by
  unfold ptN
  split
  · exact stk_len g h
  · rw [peN_len, ones_len]
    have := List.length_filter_le al (ptS F p)
    have := ptS_len g p
    omega
section
variable {P : Program} {w : World} {K : PySem.W.Frag} {mg : Str → Option Value} {base : Heap} {CH CY : Addr}
def PartAt (K : PySem.W.Frag) (H : Hp) (v : V) (p : Part) : Prop := ∃ a, v = .ref a ∧ SqT K H a [.str p.1, .str p.2]
def spPt (K : PySem.W.Frag) (CH CY : Addr) : Sp := fun vs H Q _ => ∃ (ho so : Addr) (v : V) (p : Part) (m : Int) (F : List (Str × Option Str)) (D : List (Str × Int)), vs = [.ref ho, v, .ref so, .int m] ∧ HomeAt K CH H ho F ∧ StoryAt K CY H so D ∧ PartAt K H v p ∧ p.2 ∈ F.map Prod.fst ∧ -9999 ≤ m ∧ m ≤ 9999 ∧
  ∀ H' q, Same H H' → H q = none → GrAt K H' (.ref q) (ptN F (fun y => aliveB D y m) p) → Q (.ref q) H'
def tNms (K : PySem.W.Frag) (CH : Addr) : TE := fun σ H Q => ∃ (ho : Addr) (p : Part) (F : List (Str × Option Str)), σ[0]? = some (some (.ref ho)) ∧ σ[4]? = some (some (.str p.1)) ∧ σ[5]? = some (some (.str p.2)) ∧ HomeAt K CH H ho F ∧ p.2 ∈ F.map Prod.fst ∧ ∀ H' t, Same H H' → SqT K H' t ((ptS F p).map V.str) → Q (.ref t) H'
/-- a new row behind those of a list that holds lists -/
theorem grs_snoc {H5 H6 : Hp} {L p6 : Addr} {ys : List V} {gs : List (List (Str × Nat))} {g : List (Str × Nat)} (hL : H5 L = some (.lst ys)) (s6 : Same H5 H6) (n6 : p6 ≠ L) (hn : ∀ y ∈ ys, y ≠ .ref L) (hy : A2 (GrAt K H5) ys gs) (hg : GrAt K H6 (.ref p6) g) :
    A2 (GrAt K (upd H6 L (.lst (ys ++ [.ref p6])))) (ys ++ [.ref p6]) (gs ++ [g]) ∧ ∀ y ∈ ys ++ [V.ref p6], y ≠ .ref L := by
  have up : ∀ {v : V} {gg : List (Str × Nat)}, v ≠ .ref L → GrAt K H6 v gg → GrAt K (upd H6 L (.lst (ys ++ [.ref p6]))) v gg := by
    rintro v gg nv ⟨b, zs, rfl, hb, hz⟩
    exact ⟨b, zs, rfl, by rw [upd_ne (fun e => nv (by rw [e]))]; exact hb, bts_tk hz (tk_lst (s6 _ _ hL))⟩
  have all : ∀ {vs : List V} {ggs : List (List (Str × Nat))}, (∀ y ∈ vs, y ≠ .ref L) → A2 (GrAt K H5) vs ggs → A2 (GrAt K (upd H6 L (.lst (ys ++ [.ref p6])))) vs ggs := by
    intro vs ggs hv a
    induction a with
    | nil => exact .nil
    | cons h _ ih => exact .cons (up (hv _ (by simp)) (h.same s6)) (ih fun y hy => hv y (by simp [hy]))
  refine ⟨A2.snoc (all hn hy) (up (fun e => n6 (by cases e; rfl)) hg), fun v hv => ?_⟩
  rcases List.mem_append.mp hv with h | h
  · exact hn v h
  · rw [List.mem_singleton.mp h]
    exact fun e => n6 (by cases e; rfl)
theorem ok_pt {f fK fL fP fS : Addr} {fd fdK fdL fdP fdS : FuncData} {k : Nat} (B : Bi mg) (TH : HsF K CH) (TY : SyF K CY) (D : Df K mg "part_takers" sPt f fd ["house", "part", "story", "wait"]) (DS : Df K mg "stock_takers" sStk fS fdS ["house", "name", "story", "wait"])
    (MK : Meth K CH "children" fK) (bK : Binds K fdK ["self", "name"] []) (GK : FnOk P w K mg base CX0 (k + 4) fK fdK ["self", "name"] (spKids K CH))
    (ML : Meth K CY "lives" fL) (bL : Binds K fdL ["self", "name", "more"] []) (GL : FnOk P w K mg base CX0 (k + 3) fL fdL ["self", "name", "more"] (spLiv K CY))
    (DP : Df K mg "parted_equally" sPE fP fdP ["groups"]) : FnOk P w K mg base CX0 (k + 13) f fd ["house", "part", "story", "wait"] (spPt K CH CY) := by
  have GP : FnOk P w K mg base CX0 (k + 4) fP fdP ["groups"] (spPE K) := ok_PE (k := k + 3) B DP
  have GS : FnOk P w K mg base CX0 (k + 12) fS fdS ["house", "name", "story", "wait"] (spStk K CH CY 8) := ok_stk (k := k) B TH TY DS MK bK GK ML bL GL DP 8
  refine D.fn.ok scPt (fun vs H Q E h => ?_) (fun cdv A outer s H vs Q E hr h => ?_)
  · obtain ⟨ho, so, v, p, m, F, Dd, rfl, _⟩ := h
    rfl
  · obtain ⟨ho, so, v, p, m, F, Dd, rfl, hH, hY, ⟨a, rfl, ha⟩, pm, m0, m1, q⟩ := h
    have r4 : Room (k + 4) _ := hr.mono (by omega)
    have r3 : Room (k + 3) _ := hr.mono (by omega)
    refine ⟨_, pss_cons (ps_asg (pv 1) (pg_tup rfl (pgs_cons (pg_name (i := 4) scPt.nd rfl (.inl rfl)) (pgs_cons (pg_name (i := 5) scPt.nd rfl (.inl rfl)) pgs_nil))))
      (pss_cons (ps_if (pt_cmpR op_eq (pv 4) pe_str (nomark _)) (pss_one (ps_ret (pe_call GS hr (by rfl) DS.mg DS.fn.kp DS.bd .nil pass0 (pa_cons (pv 0) (pa_cons (pv 5) (pa_cons (pv 2) (pa_cons (pv 3) pa_nil))))))) pss_nil)
      (pss_cons (ps_set (i := 6) scPt.nd rfl (.inl rfl) (PE.wk (t' := tNms K CH) (pe_ifExp (pt_cmpR op_eq (pv 4) pe_str (nomark _)) (pe_tup (pa_cons (pv 5) pa_nil)) (pe_meth (pv 0) TH.cl MK GK r4 bK .nil pass0 (pa_cons (pv 5) pa_nil))) (by
          rintro σ H Q ⟨ho, p, F, h0, h4, h5, hH, pm, q⟩
          refine ⟨_, h4, rfl, _, rfl, ?_⟩
          show if isW p.1 "one" = true then _ else _
          by_cases c : isW p.1 "one" = true
          · unfold ptS at q
            rw [if_pos c] at q
            rw [c]
            exact iteT ⟨_, h5, by show 1 ≤ sizeLine; decide, fun t nt => q _ t (same_new nt) (sqT upd_same)⟩
          · unfold ptS at q
            rw [if_neg c] at q
            rw [show isW p.1 "one" = false by simpa using c]
            obtain ⟨dh, _, _, _, _, hHo⟩ := hH.at
            exact iteF ⟨_, h0, ho, dh, _, rfl, hHo, rfl, _, h5, ho, p.2, F, rfl, hH, pm, q⟩)))
      (pss_one (ps_ret (pe_call GP r4 (by rfl) DP.mg DP.fn.kp DP.bd .nil pass0 (pa_cons (pe_lc (own := [("each", 7)]) (g := gName 7) rfl scPt.nd (pi_tup (pv 6)) (blkOk_by (own := [("each", 7)]) (N := nPt) (sc := defScope sPt) (by decide +kernel))
          (fun _ _ _ _ _ => pg_name (i := 7) scPt.nd rfl (Or.inl rfl)) (fun _ _ _ _ _ => pts_one (pt_val (pe_meth (pv 2) TY.cl ML GL r3 bL .nil pass0 (pa_cons (pv 7) (pa_cons (pv 3) pa_nil))))) (fun _ _ _ _ _ => pe_lst (pa_cons (pe_tup (pa_cons (pv 7) (pa_cons pe_int pa_nil))) pa_nil))) pa_nil)))))), ?_⟩
    have g := hH.good
    refine ⟨_, rfl, a, _, rfl, ha, rfl, _, _, rfl, _, _, rfl, rfl, ?_⟩
    refine ⟨_, rfl, rfl, _, rfl, ?_⟩
    show if isW p.1 "stock" = true then _ else _
    by_cases c : isW p.1 "stock" = true
    · have q : ∀ H' p', Same H H' → H p' = none → GrAt K H' (.ref p') (stk F (fun y => aliveB Dd y m) p.2) → Q (.ref p') H' := by
        unfold ptN at q
        rw [if_pos c] at q
        exact q
      rw [c]
      exact iteT ⟨_, rfl, _, rfl, _, rfl, _, rfl, ho, so, p.2, m, F, Dd, rfl, hH, hY, deep_of g pm, m0, m1, q⟩
    rw [show isW p.1 "stock" = false by simpa using c]
    have q : ∀ H' p', Same H H' → H p' = none → GrAt K H' (.ref p') (peN (((ptS F p).filter fun y => aliveB Dd y m).map one1)) → Q (.ref p') H' := by
      unfold ptN at q
      rw [if_neg c] at q
      exact q
    refine iteF ⟨ho, p, F, rfl, rfl, rfl, hH, pm, fun H1 t s1 ht => ?_⟩
    have sl := ptS_len g p
    have sm : ∀ y ∈ ptS F p, y ∈ F.map Prod.fst := fun y hy => ptS_mem pm hy
    clear c
    revert q ht sl sm
    generalize ptS F p = ss
    intro q ht sl sm
    refine ⟨_, rfl, t, rfl, ⟨_, ht⟩, fun L nL => ?_⟩
    have hH1 := hH.same s1
    have hY1 := hY.same s1
    refine lc_tup (K := K) (a := t) (xs := ss.map V.str) (fun j H' => (∃ ys, H' L = some (.lst ys) ∧ A2 (GrAt K H') ys (((ss.take j).filter fun y => aliveB Dd y m).map one1) ∧ ∀ y ∈ ys, y ≠ .ref L) ∧ Same H1 H') ⟨⟨[], upd_same, .nil, (fun y hy => nomatch hy)⟩, same_new nL⟩ (fun j H' _ h => (tk_same h.2).sq ht) ?_ ?_
    · rintro j x H5 hx ⟨⟨ys, hL, hy, hn⟩, s5⟩
      rw [List.getElem?_map] at hx
      obtain ⟨y, hyj, rfl⟩ : ∃ y, ss[j]? = some y ∧ x = .str y := by
        cases hc : ss[j]? with
        | none => rw [hc] at hx; cases hx
        | some y => rw [hc] at hx; cases hx; exact ⟨y, rfl, rfl⟩
      have jl := lt_get hyj
      have yl : ys.length ≤ 8 := by
        have := hy.len
        have := List.length_filter_le (fun y => aliveB Dd y m) (ss.take j)
        rw [List.length_map] at *
        rw [List.length_take] at this
        omega
      obtain ⟨dy, _, hYo⟩ := (hY1.same s5).at
      refine ⟨rfl, _, rfl, so, dy, _, rfl, hYo, rfl, _, rfl, _, rfl, so, y, m, Dd, rfl, hY1.same s5, deep_nm (n := 0) g (sm y (List.mem_of_getElem? hyj)), m0, m1, fun H6 s6 => ⟨_, rfl, ?_⟩⟩
      rw [take_more hyj, List.filter_append]
      cases al : aliveB Dd y m with
      | true =>
        rw [List.filter_cons_of_pos (p := fun y => aliveB Dd y m) (a := y) al, List.map_append]
        refine iteT ⟨_, rfl, by show 2 ≤ sizeLine; decide, fun tp ntp => ⟨by show 1 ≤ sizeLine; decide, fun p6 n6 => ?_⟩⟩
        have s7 : Same H5 (upd (upd H6 tp (.tup [.str y, .int 1])) p6 (.lst [.ref tp])) := (s6.trans (same_new ntp)).trans (same_new n6)
        have n7 : p6 ≠ L := (ne_of_none hL ((s6.trans (same_new ntp)).free n6)).symm
        have g7 : GrAt K (upd (upd H6 tp (.tup [.str y, .int 1])) p6 (.lst [.ref tp])) (.ref p6) (one1 y) := ⟨p6, _, rfl, upd_same, .cons ⟨tp, rfl, (tk_new n6).sq (sqT upd_same)⟩ .nil⟩
        obtain ⟨e1, e2⟩ := grs_snoc hL s7 n7 hn hy g7
        exact ⟨_, s7 _ _ hL, Nat.lt_of_lt_of_le (show ys.length < 1000 by omega) (by decide), ⟨_, upd_same, e1, e2⟩, ((Bt.of_same (S := []) (s5.trans s7)).upd0 nL).same⟩
      | false =>
        rw [List.filter_cons_of_neg (p := fun y => aliveB Dd y m) (a := y) (by show ¬ aliveB Dd y m = true; rw [al]; decide), List.filter_nil, List.append_nil]
        exact iteF ⟨⟨ys, s6 _ _ hL, grs_same hy s6, hn⟩, s5.trans s6⟩
    · rintro H5 ⟨⟨ys, hL, hy, hn⟩, s5⟩
      rw [List.length_map, List.take_length] at hy
      have fl := List.length_filter_le (fun y => aliveB Dd y m) ss
      exact ⟨L, ys, _, rfl, hL, hy, by rw [List.length_map]; omega, by rw [ones_len]; omega, fun H6 p s6 n6 g6 => q H6 p ((s1.trans s5).trans s6) ((s1.trans s5).free n6) g6⟩
end
end WdQ

set_option Elab.async false
set_option linter.all false
set_option maxRecDepth 100000
set_option maxHeartbeats 4000000
namespace WdQ
open PySem PySem.Spec PyProof.Rows L2 WdM Wd
/-! ### fractions by their value: W parts of L -/
def lowN (t b : Nat) : Fr := (t / Nat.gcd t b, b / Nat.gcd t b)
structure Vl (L : Nat) (s : Fr) (W : Nat) : Prop where
  p : 0 < s.2
  c : Nat.gcd s.1 s.2 = 1
  e : s.1 * L = s.2 * W
theorem vl_zero {L : Nat} : Vl L (0, 1) 0 := ⟨by decide, by decide, by simp⟩
theorem vl_of {L t b W : Nat} (b0 : 0 < b) (e : t * L = b * W) : Vl L (lowN t b) W := by
  have g0 : 0 < Nat.gcd t b := Nat.gcd_pos_of_pos_right _ b0
  have g1 : Nat.gcd t b ∣ t := Nat.gcd_dvd_left _ _
  have g2 : Nat.gcd t b ∣ b := Nat.gcd_dvd_right _ _
  refine ⟨Nat.div_pos (Nat.le_of_dvd b0 g2) g0, Nat.coprime_div_gcd_div_gcd g0, ?_⟩
  refine Nat.eq_of_mul_eq_mul_left g0 ?_
  show Nat.gcd t b * (t / Nat.gcd t b * L) = Nat.gcd t b * (b / Nat.gcd t b * W)
  rw [← Nat.mul_assoc, ← Nat.mul_assoc, Nat.mul_div_cancel' g1, Nat.mul_div_cancel' g2, e]
theorem vl_low {L W V : Nat} {s r : Fr} (h : Vl L s W) (k : Vl L r V) : Vl L (lowN (s.1 * r.2 + r.1 * s.2) (s.2 * r.2)) (W + V) := by
  refine vl_of (Nat.mul_pos h.p k.p) ?_
  have e1 : s.1 * r.2 * L = s.2 * r.2 * W := by
    rw [Nat.mul_right_comm, h.e, Nat.mul_right_comm]
  have e2 : r.1 * s.2 * L = s.2 * r.2 * V := by
    rw [Nat.mul_right_comm, k.e, Nat.mul_right_comm, Nat.mul_comm r.2 s.2]
  rw [Nat.add_mul, e1, e2, ← Nat.mul_add]
theorem vl_plus {L W m : Nat} {s : Fr} (h : Vl L s W) (hm : m ∣ L) (m0 : 0 < m) : Vl L (plusN s m) (W + L / m) := by
  have k : Vl L (1, m) (L / m) := ⟨m0, Nat.gcd_one_left _, by show 1 * L = m * (L / m); rw [Nat.one_mul, Nat.mul_div_cancel' hm]⟩
  have := vl_low h k
  rw [show (1 : Nat) * s.2 = s.2 from Nat.one_mul _] at this
  exact this
theorem Vl.dvd {L W : Nat} {s : Fr} (h : Vl L s W) : s.2 ∣ L := Nat.Coprime.dvd_of_dvd_mul_left (Nat.Coprime.symm h.c) ⟨W, h.e⟩
theorem Vl.be {L W : Nat} {s : Fr} (h : Vl L s W) : Be L s := ⟨h.p, h.c, h.dvd⟩
theorem Vl.le {L W : Nat} {s : Fr} (l : 0 < L) (h : Vl L s W) (w : W ≤ L) : s.1 ≤ s.2 := by
  refine Nat.le_of_mul_le_mul_right ?_ l
  rw [h.e]
  exact Nat.mul_le_mul_left _ w
theorem Vl.pos {L W : Nat} {s : Fr} (h : Vl L s W) (w : 0 < W) : 0 < s.1 := by
  rcases Nat.eq_zero_or_pos s.1 with e | e
  · have := h.e
    rw [e, Nat.zero_mul] at this
    have := Nat.mul_pos h.p w
    omega
  · exact e
theorem vl_uniq {L W : Nat} {s r : Fr} (l : 0 < L) (h : Vl L s W) (k : Vl L r W) : s = r := by
  have e : s.1 * r.2 = r.1 * s.2 := by
    refine Nat.eq_of_mul_eq_mul_right l ?_
    rw [Nat.mul_right_comm, h.e, Nat.mul_right_comm r.1, k.e, Nat.mul_right_comm r.2, Nat.mul_right_comm s.2, Nat.mul_comm s.2 r.2]
  have d1 : s.2 ∣ r.2 := Nat.Coprime.dvd_of_dvd_mul_left (Nat.Coprime.symm h.c) ⟨r.1, by rw [e, Nat.mul_comm]⟩
  have d2 : r.2 ∣ s.2 := Nat.Coprime.dvd_of_dvd_mul_left (Nat.Coprime.symm k.c) ⟨s.1, by rw [← e, Nat.mul_comm]⟩
  have e2 : s.2 = r.2 := Nat.dvd_antisymm d1 d2
  have e1 : s.1 = r.1 := by
    rw [e2] at e
    exact Nat.eq_of_mul_eq_mul_right k.p e
  exact Prod.ext e1 e2
theorem vl_one {L : Nat} {s : Fr} (l : 0 < L) (h : Vl L s L) : s = (1, 1) := vl_uniq l h ⟨by decide, by decide, by simp⟩
/-! ### what a name has of rows -/
def wnm (L : Nat) (z : Str) (r : Str × Nat) : Nat := if r.1 = z then L / r.2 else 0
def WN (L : Nat) (rs : List (Str × Nat)) (z : Str) : Nat := (rs.map (wnm L z)).sum
theorem wn_app {L : Nat} {rs qs : List (Str × Nat)} {z : Str} : WN L (rs ++ qs) z = WN L rs z + WN L qs z := by
  unfold WN
  rw [List.map_append, List.sum_append]
theorem put_look {kvs : List (Str × Fr)} {z x : Str} {s : Fr} : lookF (putF kvs z s) x = if z = x then some s else lookF kvs x := by
  unfold putF
  by_cases c : (kvs.any fun kv => decide (kv.1 = z)) = true
  · rw [if_pos c]
    induction kvs with
    | nil => cases c
    | cons kv kvs ih =>
      rw [List.map_cons]
      unfold lookF
      by_cases e : kv.1 = z
      · rw [if_pos e]
        by_cases d : z = x
        · rw [if_pos d, List.find?_cons_of_pos (by simpa using e.trans d)]
          rfl
        · rw [if_neg d, List.find?_cons_of_neg (by simpa using fun h => d (e.symm.trans h)), List.find?_cons_of_neg (by simpa using fun h => d (e.symm.trans h))]
          clear ih c
          induction kvs with
          | nil => rfl
          | cons kv2 kvs ih =>
            rw [List.map_cons]
            by_cases e2 : kv2.1 = z
            · rw [if_pos e2, List.find?_cons_of_neg (by simpa using fun h => d (e2.symm.trans h)), List.find?_cons_of_neg (by simpa using fun h => d (e2.symm.trans h))]
              exact ih
            · rw [if_neg e2]
              by_cases e3 : kv2.1 = x
              · rw [List.find?_cons_of_pos (by simpa using e3), List.find?_cons_of_pos (by simpa using e3)]
              · rw [List.find?_cons_of_neg (by simpa using e3), List.find?_cons_of_neg (by simpa using e3)]
                exact ih
      · rw [if_neg e]
        rw [List.any_cons, decide_eq_false e, Bool.false_or] at c
        by_cases d : kv.1 = x
        · rw [List.find?_cons_of_pos (by simpa using d), List.find?_cons_of_pos (by simpa using d), if_neg (fun h => e (d.trans h.symm))]
        · rw [List.find?_cons_of_neg (by simpa using d), List.find?_cons_of_neg (by simpa using d)]
          exact ih c
  · rw [if_neg c]
    unfold lookF
    rw [List.find?_append]
    by_cases d : z = x
    · rw [if_pos d]
      have : kvs.find? (fun kv => decide (kv.1 = x)) = none := by
        rw [List.find?_eq_none]
        intro kv hk h
        refine c (List.any_eq_true.mpr ⟨kv, hk, ?_⟩)
        rw [d]
        exact h
      rw [this, d]
      simp
    · rw [if_neg d]
      simp [d]
theorem sum_snoc (rs : List (Str × Nat)) (r : Str × Nat) : sumN (rs ++ [r]) = addF (sumN rs) r := by
  unfold sumN
  rw [List.foldl_append]
  rfl
/-- rows of bottoms that L is a multiple of -/
def Mu (L : Nat) (rs : List (Str × Nat)) : Prop := ∀ r ∈ rs, r.2 ∣ L ∧ 0 < r.2
theorem snoc_ind {α : Type} {P : List α → Prop} (h0 : P []) (h1 : ∀ l a, P l → P (l ++ [a])) (l : List α) : P l := by
  have : ∀ l : List α, P l.reverse := by
    intro l
    induction l with
    | nil => exact h0
    | cons a l ih => rw [List.reverse_cons]; exact h1 _ _ ih
  have := this l.reverse
  rwa [List.reverse_reverse] at this
theorem sum_val {L : Nat} : ∀ (rs : List (Str × Nat)), Mu L rs → ∀ z, Vl L ((lookF (sumN rs) z).getD (0, 1)) (WN L rs z) := by
  refine snoc_ind (fun _ z => vl_zero) fun rs r ih mu z => ?_
  have ih := ih fun r' h' => mu r' (List.mem_append_left _ h')
  rw [sum_snoc, wn_app]
  unfold addF
  rw [put_look]
  have hr := mu r (by simp)
  by_cases c : r.1 = z
  · rw [if_pos c]
    have := vl_plus (ih r.1) hr.1 hr.2
    have e : WN L [r] z = L / r.2 := by unfold WN wnm; simp [c]
    rw [e, ← c]
    exact this
  · rw [if_neg c]
    have e : WN L [r] z = 0 := by unfold WN wnm; simp [c]
    rw [e]
    exact ih z
/-- names in the order in which they come first -/
def firsts (zs : List Str) : List Str := zs.foldl (fun ks z => if z ∈ ks then ks else ks ++ [z]) []
theorem sum_keys : ∀ rs : List (Str × Nat), (sumN rs).map Prod.fst = firsts (rs.map Prod.fst) := by
  refine snoc_ind rfl fun rs r ih => ?_
  rw [sum_snoc]
  unfold addF
  rw [put_keys, ih, List.map_append]
  unfold firsts
  rw [List.foldl_append]
  rfl
theorem sum_ext {L : Nat} (l : 0 < L) {rs qs : List (Str × Nat)} (m1 : Mu L rs) (m2 : Mu L qs) (k : firsts (rs.map Prod.fst) = firsts (qs.map Prod.fst)) (v : ∀ z, WN L rs z = WN L qs z) : sumN rs = sumN qs := by
  have hk : (sumN rs).map Prod.fst = (sumN qs).map Prod.fst := by rw [sum_keys, sum_keys, k]
  have hv : ∀ z, (lookF (sumN rs) z).getD (0, 1) = (lookF (sumN qs) z).getD (0, 1) := fun z => vl_uniq l (sum_val rs m1 z) (by rw [v z]; exact sum_val qs m2 z)
  refine List.ext_getElem? fun i => ?_
  cases h1 : (sumN rs)[i]? with
  | none =>
    have := congrArg (fun l : List Str => l[i]?) hk
    simp only [List.getElem?_map, h1] at this
    cases h2 : (sumN qs)[i]? with
    | none => rfl
    | some q => rw [h2] at this; cases this
  | some r =>
    have := congrArg (fun l : List Str => l[i]?) hk
    simp only [List.getElem?_map, h1] at this
    cases h2 : (sumN qs)[i]? with
    | none => rw [h2] at this; cases this
    | some q =>
      rw [h2] at this
      have e : r.1 = q.1 := by simpa using this
      have h := hv r.1
      rw [look_at (sum_nd rs) h1, e, look_at (sum_nd qs) h2] at h
      have h : r.2 = q.2 := h
      rw [Prod.ext e h]
/-! ### all rows together -/
def tot (L : Nat) (rs : List (Str × Nat)) : Nat := (rs.map fun r => L / r.2).sum
theorem sum_if {c : Nat} {x : Str} : ∀ {ks : List Str}, ks.Nodup → x ∈ ks → (ks.map fun z => if x = z then c else 0).sum = c
  | [], _, h => nomatch h
  | k :: ks, nd, h => by
    rw [List.map_cons, List.sum_cons]
    rw [List.nodup_cons] at nd
    by_cases e : x = k
    · rw [if_pos e]
      have : (ks.map fun z => if x = z then c else 0) = ks.map fun _ => 0 := List.map_congr_left fun z hz => by
        rw [if_neg]
        intro h
        exact nd.1 (by rw [← e, h]; exact hz)
      rw [this]
      have z0 : ∀ ks : List Str, (ks.map fun _ => (0 : Nat)).sum = 0 := fun ks => by induction ks <;> simp_all
      rw [z0]
      rfl
    · rw [if_neg e, Nat.zero_add]
      exact sum_if nd.2 ((List.mem_cons.mp h).resolve_left e)
theorem sum_add {α : Type} (f g : α → Nat) : ∀ l : List α, (l.map fun x => f x + g x).sum = (l.map f).sum + (l.map g).sum
  | [] => rfl
  | x :: l => by
    simp only [List.map_cons, List.sum_cons, sum_add f g l]
    omega
theorem tot_keys {L : Nat} {ks : List Str} (nd : ks.Nodup) : ∀ {rs : List (Str × Nat)}, (∀ r ∈ rs, r.1 ∈ ks) → (ks.map (WN L rs)).sum = tot L rs
  | [], _ => by
    have z0 : ∀ ks : List Str, (ks.map fun _ => (0 : Nat)).sum = 0 := fun ks => by induction ks <;> simp_all
    exact z0 ks
  | r :: rs, h => by
    have e : (ks.map (WN L (r :: rs))) = ks.map fun z => (if r.1 = z then L / r.2 else 0) + WN L rs z := List.map_congr_left fun z _ => by
      unfold WN
      rw [List.map_cons, List.sum_cons]
      rfl
    rw [e, sum_add, sum_if nd (h r (by simp)), tot_keys nd fun r' h' => h r' (List.mem_cons_of_mem _ h')]
    unfold tot
    rw [List.map_cons, List.sum_cons]
def wholeN (rs : List (Str × Fr)) : Fr := rs.foldl (fun s r => lowN (s.1 * r.2.2 + r.2.1 * s.2) (s.2 * r.2.2)) (0, 1)
theorem whole_val {L : Nat} {f : Str → Nat} : ∀ (ts : List (Str × Fr)), (∀ t ∈ ts, Vl L t.2 (f t.1)) → Vl L (wholeN ts) ((ts.map Prod.fst).map f).sum := by
  refine snoc_ind (fun _ => vl_zero) fun ts t ih h => ?_
  have := vl_low (ih fun t' h' => h t' (List.mem_append_left _ h')) (h t (by simp))
  unfold wholeN at this ⊢
  rw [List.foldl_append, List.map_append, List.map_append, List.sum_append]
  simpa using this
theorem sum_mem_val {L : Nat} {rs : List (Str × Nat)} (mu : Mu L rs) : ∀ t ∈ sumN rs, Vl L t.2 (WN L rs t.1) := fun t ht => by
  obtain ⟨i, hi⟩ := List.mem_iff_getElem?.mp ht
  have := sum_val rs mu t.1
  rw [look_at (sum_nd rs) hi] at this
  exact this
theorem mem_firsts {z : Str} : ∀ zs : List Str, z ∈ firsts zs ↔ z ∈ zs := by
  refine snoc_ind (by simp [firsts]) fun zs y ih => ?_
  unfold firsts at ih ⊢
  rw [List.foldl_append, List.mem_append, ← ih]
  simp only [List.foldl_cons, List.foldl_nil, List.mem_singleton]
  split
  · rename_i h
    constructor
    · exact Or.inl
    · rintro (h1 | rfl)
      · exact h1
      · exact h
  · rw [List.mem_append, List.mem_singleton]
theorem whole_one {L : Nat} (l : 0 < L) {rs : List (Str × Nat)} (mu : Mu L rs) (h : tot L rs = L) : wholeN (sumN rs) = (1, 1) := by
  have := whole_val (sumN rs) (sum_mem_val mu)
  rw [tot_keys (sum_nd rs) (fun r hr => by rw [sum_keys, mem_firsts]; exact List.mem_map_of_mem hr), h] at this
  exact vl_one l this
/-! ### groups that are one together -/
def One (rs : List (Str × Nat)) : Prop := ∀ L, 0 < L → Mu L rs → tot L rs = L
theorem tot_app {L : Nat} {rs qs : List (Str × Nat)} : tot L (rs ++ qs) = tot L rs + tot L qs := by
  unfold tot
  rw [List.map_append, List.sum_append]
theorem mu_wide {L n : Nat} {g : List (Str × Nat)} (l : 0 < L) (n0 : 0 < n) (h : Mu L (g.map (wide n))) : Mu (L / n) g ∧ (g ≠ [] → n ∣ L) := by
  have one : ∀ r ∈ g, n ∣ L ∧ r.2 ∣ L / n ∧ 0 < r.2 := fun r hr => by
    obtain ⟨d, p⟩ := h _ (List.mem_map_of_mem hr)
    have d : r.2 * n ∣ L := d
    have p : 0 < r.2 * n := p
    have nd : n ∣ L := Nat.dvd_trans (Nat.dvd_mul_left _ _) d
    refine ⟨nd, ?_, Nat.pos_of_mul_pos_right p⟩
    obtain ⟨c, rfl⟩ := nd
    rw [Nat.mul_div_cancel_left _ n0]
    rw [Nat.mul_comm r.2 n] at d
    exact Nat.dvd_of_mul_dvd_mul_left n0 d
  refine ⟨fun r hr => (one r hr).2, fun ne => ?_⟩
  cases g with
  | nil => exact absurd rfl ne
  | cons r g => exact (one r (by simp)).1
theorem tot_wide {L n : Nat} {g : List (Str × Nat)} : tot L (g.map (wide n)) = tot (L / n) g := by
  unfold tot
  rw [List.map_map]
  congr 1
  refine List.map_congr_left fun r _ => ?_
  show L / (r.2 * n) = L / n / r.2
  rw [Nat.div_div_eq_div_mul, Nat.mul_comm]
theorem wn_wide {L n : Nat} {g : List (Str × Nat)} {z : Str} : WN L (g.map (wide n)) z = WN (L / n) g z := by
  unfold WN
  rw [List.map_map]
  congr 1
  refine List.map_congr_left fun r _ => ?_
  show (if r.1 = z then L / (r.2 * n) else 0) = if r.1 = z then L / n / r.2 else 0
  rw [Nat.div_div_eq_div_mul, Nat.mul_comm]
theorem tot_flat {L n : Nat} : ∀ gs : List (List (Str × Nat)), tot L ((gs.map fun g => g.map (wide n)).flatten) = (gs.map fun g => tot (L / n) g).sum
  | [] => rfl
  | g :: gs => by rw [List.map_cons, List.flatten_cons, tot_app, tot_wide, tot_flat gs, List.map_cons, List.sum_cons]
theorem sum_const {α : Type} {c : Nat} {f : α → Nat} : ∀ {l : List α}, (∀ x ∈ l, f x = c) → (l.map f).sum = l.length * c
  | [], _ => by simp
  | x :: l, h => by
    rw [List.map_cons, List.sum_cons, h x (by simp), sum_const fun y hy => h y (List.mem_cons_of_mem _ hy), List.length_cons, Nat.succ_mul]
    omega
theorem grp_one {gs : List (List (Str × Nat))} (h : ∀ g ∈ gs, g ≠ [] → One g) (ne : peN gs ≠ []) : One (peN gs) := by
  intro L l mu
  unfold peN at mu ⊢
  have hv : ∀ g ∈ gs.filter hasB, g ≠ [] ∧ One g := fun g hg => by
    obtain ⟨m, b⟩ := List.mem_filter.mp hg
    have b : 0 < g.length := by simpa [hasB] using b
    have : g ≠ [] := fun e => by rw [e] at b; cases b
    exact ⟨this, h g m this⟩
  have n0 : 0 < (gs.filter hasB).length := by
    rcases Nat.eq_zero_or_pos (gs.filter hasB).length with e | e
    · refine absurd ?_ ne
      unfold peN
      rw [List.length_eq_zero_iff.mp e]
      rfl
    · exact e
  revert mu n0 hv
  generalize gs.filter hasB = hs
  intro mu hv n0
  rw [tot_flat]
  have one : ∀ g ∈ hs, tot (L / hs.length) g = L / hs.length ∧ hs.length ∣ L := fun g hg => by
    have m : Mu L (g.map (wide hs.length)) := fun r hr => mu r (List.mem_flatten.mpr ⟨_, List.mem_map_of_mem hg, hr⟩)
    obtain ⟨m1, m2⟩ := mu_wide l n0 m
    have d := m2 (hv g hg).1
    exact ⟨(hv g hg).2 _ (Nat.div_pos (Nat.le_of_dvd l d) n0) m1, d⟩
  rw [sum_const fun g hg => (one g hg).1]
  cases hs with
  | nil => cases n0
  | cons g hs => exact Nat.mul_div_cancel' (one g (by simp)).2
end WdQ

set_option Elab.async false
set_option linter.all false
set_option maxRecDepth 100000
set_option maxHeartbeats 4000000
namespace WdQ
open PySem PySem.Spec PyProof.Rows L2 WdM Wd
/-! ### tuples laid together, cut -/
section
variable {K : PySem.W.Frag}
theorem tcat {H : Hp} {a b : Addr} {xs ys : List V} {Q : VK} (ha : SqT K H a xs) (hb : SqT K H b ys) (hl : xs.length + ys.length ≤ 1000) (q : ∀ p H', Same H H' → SqT K H' p (xs ++ ys) → Q (.ref p) H') : rCatA K (.ref a) (.ref b) H Q :=
  ⟨a, b, xs, ys, rfl, rfl, ha, hb, small_line hl, fun e => q b H (Same.refl H) (by rw [e]; exact hb), fun _ e => q a H (Same.refl H) (by rw [e, List.append_nil]; exact ha), fun _ _ p n => q p _ (same_new n) (sqT upd_same)⟩
theorem tcut {H : Hp} {a : Addr} {xs : List V} {lo hi : Option Int} {Q : VK} (ha : SqT K H a xs) (q : ∀ p H', Same H H' → SqT K H' p (cutV xs lo hi) → Q (.ref p) H') : rSlA K (.ref a) lo hi H Q :=
  ⟨a, xs, rfl, ha, fun ⟨e1, e2⟩ => q a H (Same.refl H) (by unfold cutV; rw [e1, e2, List.drop_zero, Nat.sub_zero, List.take_length]; exact ha), fun _ p n => q p _ (same_new n) (sqT upd_same)⟩
/-- t[:k] -/
theorem tcut_lo {H : Hp} {a : Addr} {xs : List V} {k : Nat} {Q : VK} (ha : SqT K H a xs) (h : k ≤ xs.length) (q : ∀ p H', Same H H' → SqT K H' p (xs.take k) → Q (.ref p) H') : rSlA K (.ref a) none (some (k : Int)) H Q :=
  tcut ha fun p H' s c => q p H' s (by rw [cut_front h] at c; exact c)
/-- t[k:] -/
theorem tcut_hi {σ : L2.St} {H : Hp} {a : Addr} {xs : List V} {k : Nat} {Q : VK} (ha : SqT K H a xs) (h : k ≤ xs.length) (q : ∀ p H', Same H H' → SqT K H' p (xs.drop k) → Q (.ref p) H') : tNoPart σ H fun u H3 => rSlA K (.ref a) (some (k : Int)) u H3 Q :=
  tcut (lo := some (k : Int)) (hi := none) ha fun p H' s c => q p H' s (by rw [cut_back h] at c; exact c)
/-- t[k:k + 1] -/
theorem tcut_at {H : Hp} {a : Addr} {xs : List V} {k : Nat} {x : V} {Q : VK} (ha : SqT K H a xs) (h : xs[k]? = some x) (q : ∀ p H', Same H H' → SqT K H' p [x] → Q (.ref p) H') : rSlA K (.ref a) (some (k : Int)) (some ((k : Int) + 1)) H Q :=
  tcut ha fun p H' s c => q p H' s (by
    have e : cutV xs (some (k : Int)) (some ((k : Int) + 1)) = [x] := by
      obtain ⟨hk, rfl⟩ := List.getElem?_eq_some_iff.mp h
      unfold cutV
      rw [HT.sIx_nat, show ((k : Int) + 1) = ((k + 1 : Nat) : Int) by omega, HT.sIx_nat, Nat.min_eq_left (Nat.le_of_lt hk), Nat.min_eq_left hk, show k + 1 - k = 1 by omega, List.drop_eq_getElem_cons hk]
      rfl
    rw [e] at c
    exact c)
end
theorem A2.drop {α β : Type} {R : α → β → Prop} : ∀ {as : List α} {bs : List β} (n : Nat), A2 R as bs → A2 R (as.drop n) (bs.drop n)
  | _, _, 0, h => h
  | _, _, _ + 1, .nil => .nil
  | _, _, n + 1, .cons _ t => t.drop n
theorem A2.get2 {α β : Type} {R : α → β → Prop} : ∀ {as : List α} {bs : List β} {i : Nat} {b : β}, A2 R as bs → bs[i]? = some b → ∃ a, as[i]? = some a ∧ R a b
  | _, _, 0, _, .cons h _, e => by cases e; exact ⟨_, rfl, h⟩
  | _, _, i + 1, _, .cons _ t, e => t.get2 (i := i) e
theorem A2.rev {α β : Type} {R : α → β → Prop} : ∀ {as : List α} {bs : List β}, A2 R as bs → A2 R as.reverse bs.reverse
  | _, _, .nil => .nil
  | _, _, .cons h t => by rw [List.reverse_cons, List.reverse_cons]; exact t.rev.append (.cons h .nil)
end WdQ

set_option Elab.async false
set_option linter.all false
set_option maxRecDepth 100000
set_option maxHeartbeats 4000000
namespace WdQ
open PySem PySem.Spec PyProof.Rows L2 WdM Wd
/-! ### tuples that have no dict of their own; dict(t) of them; dicts of data compared -/
/-- a tuple as it was made -/
def NdT (H : Hp) (t : Addr) : Prop := ∃ (o : Obj) (xs : List V), H t = some (.frz o (.tup xs)) ∧ o.dict = none
theorem NdT.same {H H' : Hp} {t : Addr} (h : NdT H t) (s : Same H H') : NdT H' t := by
  obtain ⟨o, xs, h, d⟩ := h
  exact ⟨o, xs, s _ _ h, d⟩
section
variable {X : Cx}
theorem sqF {K : PySem.W.Frag} {H : Hp} {a : Addr} {o : Obj} {xs : List V} (h : H a = some (.frz o (.tup xs))) : SqT K H a xs := .inl (.inr ⟨o, h⟩)
theorem call_tuple_nd : CallR X (.type "tuple") (fun xs H Q => ∃ p ys, xs = [.ref p] ∧ SqL X.K H p ys ∧ ∀ l o, H l = none → o.dict = none → Q (.ref l) (upd H l (.frz o (.tup ys)))) := by
  intro pins s σ H xs us Q I r h
  obtain ⟨p, ys, rfl, hq, q⟩ := h
  obtain ⟨u, rfl, rx⟩ := vals1 r
  cases rx
  obtain ⟨its, r', pl, hz⟩ := I.list hq
  have hlen := r'.length
  refine call_tuple_list pl.isList (fun h' kp => ?_) (by simp only [List.size_toArray] <;> omega)
  have I1 : Inv X pins σ H { s with heap := h' } := I.kept (t' := s.toks) kp
  have I2 : Inv X pins σ (upd H h'.objs.size (.frz { cls := .type "tuple", data := .seq its.toArray } (.tup ys))) { s with heap := h'.push { cls := .type "tuple", data := .seq its.toArray } } :=
    I1.laid (t' := s.toks) (fun b o e => Heap.get?_push_of_some _ e) (Nat.le_refl _) (show ObjOk X.prog X.w _ _ _ (.frz _ (.tup ys)) from ⟨Heap.get?_push_size _ rfl, hz, its, r', IsTup.new _ _⟩)
  exact ⟨.ref h'.objs.size, _, I2, rfl, q _ _ (I1.hok.fresh (Nat.le_refl _)) rfl⟩
def tTupN (t : TA) : TE := fun σ H Q => t σ H fun xs H1 => xs.length ≤ sizeLine ∧ ∀ p o, H1 p = none → o.dict = none → Q (.ref p) (upd H1 p (.frz o (.tup xs)))
theorem pe_tupN {es : List Expr} {t : TA} {pos : Pos} {x1} (h : PA X es t) : PE X (.Tuple es x1 pos) (tTupN t) := by
  refine ⟨fun pins s σ H Q I hq => ?_⟩
  refine wpAny_Tuple_spliced (thn (h.run pos pins s σ H _ I hq) fun us s1 ⟨xs, H1, I1, r, z, q⟩ => ⟨by rw [← r.length]; exact z, ?_⟩)
  have hf : H1 s1.heap.objs.size = none := I1.hok.fresh (Nat.le_refl _)
  refine ⟨.ref s1.heap.objs.size, upd H1 s1.heap.objs.size (.frz { cls := .type "tuple", data := .seq us.toArray } (.tup xs)), I1.laid (t' := s1.toks) (fun b u e => Heap.get?_push_of_some _ e) (Nat.le_refl _) ?_, rfl, q _ _ hf rfl⟩
  exact ⟨Heap.get?_push_size _ rfl, z, us, r, ⟨_, Heap.get?_push_size _ rfl, rfl, _, rfl⟩⟩
theorem pairs_nd {pins : List (Addr × Obj)} {σ : L2.St} {H : Hp} {s : Shared} (I : L2.Inv X pins σ H s) : ∀ {ps : List Addr} {kvs : List (Key × V)}, Paired (fun p kv => SqT X.K H p [kV kv.1, kv.2]) ps kvs →
    ∃ (prs : List (Key × Value)) (us : List (Value × Value)), KV kvs prs ∧ prs.length = ps.length ∧ us.length = ps.length ∧ ∀ (j : Nat) (u v : Value), us[j]? = some (u, v) → ∃ (b : Addr) (k : Key), ps[j]? = some b ∧ IsTup s.heap b #[u, v] ∧ prs[j]? = some (k, v) ∧ keyIs k u = true
  | _, _, .nil => ⟨[], [], .nil, rfl, rfl, fun j u v e => by simp at e⟩
  | _, _, .cons (a := p) (b := kv) h t => by
    obtain ⟨prs, us, r, hl, hl2, hp⟩ := pairs_nd I t
    obtain ⟨its, rv, ht, _⟩ := I.tuple h
    obtain ⟨u, y, ei, ru, ry⟩ := vals2 rv
    subst ei
    refine ⟨(kv.1, y) :: prs, (u, y) :: us, .cons ⟨rfl, ry⟩ r, by rw [List.length_cons, List.length_cons, hl], by rw [List.length_cons, List.length_cons, hl2], fun j u' v' e => ?_⟩
    cases j with
    | zero =>
      cases (show (u, y) = (u', v') from Option.some.inj e)
      exact ⟨p, kv.1, rfl, ht, rfl, kV_is (P := X.prog) (w := X.w) ru⟩
    | succ j =>
      obtain ⟨b, k, e1, e2, e3, e4⟩ := hp j u' v' (by simpa using e)
      exact ⟨b, k, by simpa using e1, e2, by simpa using e3, e4⟩
/-- dict(t) of a tuple of pairs that is as it was made -/
theorem call_dictT (hcalm : X.calm = true) : CallR X (.type "dict") (fun xs H Q => ∃ (a : Addr) (o : Obj) (ps : List Addr) (kvs : List (Key × V)), xs = [.ref a] ∧ H a = some (.frz o (.tup (ps.map V.ref))) ∧ o.dict = none ∧ Paired (fun p kv => SqT X.K H p [kV kv.1, kv.2]) ps kvs ∧
    ∀ p, H p = none → Q (.ref p) (upd H p (.dK (mergeK [] kvs)))) := by
  intro pins s σ H xs us Q I r q
  obtain ⟨a, o, ps, kvs, ex, ha, hnd, hp, q⟩ := q
  subst ex
  obtain ⟨u, eu, rx⟩ := vals1 r
  subst eu
  cases rx
  obtain ⟨go, hz, its, rv, ho⟩ := (show ObjOk X.prog X.w H s.heap a (.frz o (.tup (ps.map V.ref))) from I.hok a _ ha)
  have ei := refs_at rv
  subst ei
  rw [List.length_map] at hz
  obtain ⟨prs, ws, rel, hl, hl2, hpr⟩ := pairs_nd I hp
  obtain ⟨o2, g2, hc, n, hdat⟩ := ho
  rw [go] at g2
  cases g2
  have hP := PairArg.tuple (prog := X.prog) (w := X.w) a (ps.map Value.ref).toArray (fun j => ps[j]?.getD 0) ws
  refine PySem.call_dict_pairs (knd := mixKind X.prog X.w) (kvs := prs) hP (I.ok.hd hcalm) ⟨⟨o, n, go, hc, hnd, hdat⟩, ?_, fun j k v e => ?_⟩ ⟨by omega, fun i key v e => ?_⟩ (by omega) fun h' tk hd' k => ?_
  · simp [hl2]
  · obtain ⟨b, k', e1, e2, _, _⟩ := hpr j k v e
    have ej : ps[j]?.getD 0 = b := by rw [e1]; rfl
    refine ⟨by simp [e1], .inl ?_⟩
    show s.heap.IsTuple (ps[j]?.getD 0) #[k, v]
    rw [ej]
    obtain ⟨ob, h1, h2, n2, h3⟩ := e2
    exact ⟨ob, h1, h2, n2, h3⟩
  · obtain ⟨b, k', e1, e2, e3, e4⟩ := hpr i key v e
    exact ⟨k', e3, e4⟩
  · have hm : (s.heap.objs.size == sysModules) = false := beq_eq_false_iff_ne.mpr (Nat.ne_of_gt I.big)
    have hlen : (mergeK [] kvs).length ≤ sizeLine := by
      refine Nat.le_trans (length_mergeK kvs []) ?_
      rw [List.length_nil, Nat.zero_add, rel.length, hl]
      exact hz
    exact ⟨.ref s.heap.objs.size, upd H s.heap.objs.size (.dK (mergeK [] kvs)), I.laid (t' := tk) (fun b o e => k b o (fun h => nomatch h) e) (Nat.le_refl _) (show ObjOk X.prog X.w _ _ _ (.dK (mergeK [] kvs)) from ⟨hlen, hm, merged [] prs, KV.merge rel .nil, hd'⟩), rfl, q _ (I.hok.fresh (Nat.le_refl _))⟩
/-- two dicts of the same keys, their values alike as data -/
def rEqDD (K : PySem.W.Frag) : R2 := fun x y H Q => ∃ a b ks ls, x = .ref a ∧ y = .ref b ∧ H a = some (.dK ks) ∧ H b = some (.dK ls) ∧ ks.length = ls.length ∧ (∀ p ∈ ks, ∃ u d e, valV ls p.1 = some u ∧ Dp K H p.2 d ∧ Dp K H u e ∧ SeqAt.shaped d = true ∧ SeqAt.shaped e = true ∧ PyData.eqv d e = true) ∧ Q (.bl true) H
theorem op_eqDD (hu : X.A.units + 66 < cLine) : OpR X (compareOp .Eq) (rEqDD X.K) := by
  intro pins s σ H x y v u Q I rx ry h
  obtain ⟨a, b, ks, ls, rfl, rfl, ea, eb, hlen, hp, q⟩ := h
  obtain rfl : v = Value.ref a := rx
  obtain rfl : u = Value.ref b := ry
  obtain ⟨_, ya, va, ra, da⟩ := (show ObjOk X.prog X.w H s.heap a (.dK ks) from I.hok a _ ea)
  obtain ⟨_, yb, vb, rb, db⟩ := (show ObjOk X.prog X.w H s.heap b (.dK ls) from I.hok b _ eb)
  have hl : va.length = vb.length := by rw [← ra.length, ← rb.length]; exact hlen
  refine PySem.W.rcP_dicts (knd := mixKind X.prog X.w) (A := X.A) (r := true) ya yb da db (by omega) (fun _ => hits_run (F := fun x y => ∃ d e, Dp X.K H x d ∧ Dp X.K H y e ∧ SeqAt.shaped d = true ∧ SeqAt.shaped e = true ∧ PyData.eqv d e = true) (fun x y v u ⟨d, e, h1, h2, s1, s2, h3⟩ r1 r2 => ?_) rb ra (fun p hm => ?_)) _ _ ?_
  · obtain ⟨as, q1⟩ := Dp.reads I d x v h1 r1
    obtain ⟨bs, q2⟩ := Dp.reads I e y u h2 r2
    have := SeqAt.eqAt_reads d e X.A.in1 s v u as bs q1 q2 (SeqAt.canLay_of_shaped s1) (SeqAt.canLay_of_shaped s2) (SeqAt.room_of_shaped s1 (by show X.A.units + 1 + 64 < cLine; omega))
    rw [h3] at this
    exact this.eqP
  · obtain ⟨u, d, e, e1, r⟩ := hp p hm
    exact ⟨u, e1, d, e, r⟩
  · refine ⟨.bl true, H, I, ?_, q⟩
    show Value.bool _ = Value.bool _
    rw [hl]
    simp
end
end WdQ

set_option Elab.async false
set_option linter.all false
set_option maxRecDepth 100000
set_option maxHeartbeats 4000000
set_option exponentiation.threshold 5000
namespace WdQ
open PySem PySem.Spec PyProof.Rows L2 WdM Wd
abbrev sCm : Stmt := topS 16
abbrev sPls : Stmt := topS 48
abbrev sSmd : Stmt := topS 49
theorem scCm : FnScope ["one", "other"] ["one", "other"] (defScope sCm) := ⟨rfl, rfl, rfl, by decide +kernel, rfl, by decide +kernel, by decide +kernel⟩
theorem scPls : FnScope ["share", "bottom", "top", "below", "measure"] ["share", "bottom"] (defScope sPls) := ⟨rfl, rfl, rfl, by decide +kernel, rfl, by decide +kernel, by decide +kernel⟩
def nSmd : List Str := ["rows", "shares", "name", "bottom"]
theorem scSmd : FnScope nSmd ["rows"] (defScope sSmd) := ⟨rfl, rfl, rfl, by decide +kernel, rfl, by decide +kernel, by decide +kernel⟩
theorem gcd_nat (a b : Nat) : Nat.gcd b (a % b) = Nat.gcd a b := by
  rw [Nat.gcd_comm a b, Nat.gcd_rec b a, Nat.gcd_comm]
section
variable {P : Program} {w : World} {K : PySem.W.Frag} {mg : Str → Option Value} {base : Heap}
def spCm : Sp := fun vs H Q _ => ∃ a b : Nat, vs = [.int (a : Nat), .int (b : Nat)] ∧ Q (.int (Nat.gcd a b : Nat)) H
theorem ok_cm {f : Addr} {fd : FuncData} {k : Nat} (D : Df K mg "common_measure" sCm f fd ["one", "other"]) : FnOk P w K mg base CX0 (k + 1) f fd ["one", "other"] spCm := by
  refine D.fn.ok scCm (fun vs H Q E h => ?_) (fun cdv A outer s H vs Q E hr h => ?_)
  · obtain ⟨a, b, rfl, _⟩ := h
    rfl
  · obtain ⟨a, b, rfl, q⟩ := h
    refine ⟨_, pss_cons (ps_while PassesOwn.never (pt_cmpR op_ne (pv 1) pe_int (nomark _))
        (pss_one (ps_par (i := 0) (j := 1) rfl scCm.nd rfl rfl (by decide) rfl rfl (pa_cons (pv 1) (pa_cons (pe_op op_mod (pv 0) (pv 1)) pa_nil)) (by rfl))))
      (pss_one (ps_ret (pv 0))), ?_⟩
    refine while_by (fun σ H' => ∃ x y : Nat, σ = [some (.int (x : Nat)), some (.int (y : Nat))] ∧ Nat.gcd x y = Nat.gcd a b ∧ H' = H)
      (fun σ _ => match σ with | [_, some (.int y)] => y.toNat | _ => 0) ⟨a, b, rfl, rfl, rfl⟩ ?_ ?_
    · rintro σ H' ⟨x, y, rfl, hg, rfl⟩
      refine ⟨_, rfl, rfl, _, rfl, ?_⟩
      by_cases hz : y = 0
      · subst hz
        refine iteF ?_
        rw [Nat.gcd_zero_right] at hg
        rw [← hg] at q
        exact ⟨_, rfl, q⟩
      · rw [show (!decide (V.int (y : Nat) = V.int 0)) = true by simp [hz]]
        refine iteT ?_
        have hy' : (0 : Int) < (y : Nat) := by omega
        refine ⟨_, rfl, _, rfl, _, rfl, (x : Nat), (y : Nat), rfl, rfl, hy', _, _, rfl, ⟨y, x % y, rfl, ?_, rfl⟩, ?_⟩
        · rw [gcd_nat, hg]
        · show ((x : Int) % (y : Int)).toNat < ((y : Nat) : Int).toNat
          rw [← Int.natCast_emod]
          have := Nat.mod_lt x (show y > 0 by omega)
          show x % y < y
          exact this
    · rintro σ H1 Q1 Q2 hq ⟨v, e, s, k, ek, z⟩
      exact ⟨v, e, s, k, ek, hq _ _ z⟩
def LB : Nat := 840 ^ 9
theorem log_lt {n : Nat} (n0 : 0 < n) (h : n < 2 ^ 9000) : n.log2 < 9000 := (Nat.log2_lt (by omega)).mpr h
theorem m_small {s : Fr} {m : Nat} (h : Be LB s) (hm : m ∣ LB) (m0 : 0 < m) : 0 < Nat.gcd (s.1 * m + s.2) (s.2 * m) ∧ Nat.gcd (s.1 * m + s.2) (s.2 * m) < 2 ^ 9000 := by
  obtain ⟨b0, _, bd⟩ := h
  have x0 : 0 < s.2 * m := Nat.mul_pos b0 m0
  refine ⟨Nat.gcd_pos_of_pos_right _ x0, ?_⟩
  have h1 : Nat.gcd (s.1 * m + s.2) (s.2 * m) ≤ s.2 * m := Nat.gcd_le_right _ x0
  have h2 : s.2 ≤ LB := Nat.le_of_dvd (by unfold LB; decide) bd
  have h3 : m ≤ LB := Nat.le_of_dvd (by unfold LB; decide) hm
  have h4 : s.2 * m ≤ LB * LB := Nat.mul_le_mul h2 h3
  have h5 : LB * LB < 2 ^ 200 := by unfold LB; decide +kernel
  have h6 : 2 ^ 200 < 2 ^ 9000 := Nat.pow_lt_pow_right (by decide) (by decide)
  exact Nat.lt_of_le_of_lt (Nat.le_trans h1 h4) (Nat.lt_trans h5 h6)
def spPls (K : PySem.W.Frag) : Sp := fun vs H Q _ => ∃ (v : V) (s : Fr) (m : Nat), vs = [v, .int (m : Nat)] ∧ FrAt K H v s ∧ Be LB s ∧ m ∣ LB ∧ 0 < m ∧ m < 2 ^ 60 ∧ ∀ p, H p = none → Q (.ref p) (upd H p (.tup [.int ((plusN s m).1 : Nat), .int ((plusN s m).2 : Nat)]))
theorem ok_pls {f fC : Addr} {fd fdC : FuncData} {k : Nat} (D : Df K mg "plus_share" sPls f fd ["share", "bottom"]) (DC : Df K mg "common_measure" sCm fC fdC ["one", "other"]) : FnOk P w K mg base CX0 (k + 2) f fd ["share", "bottom"] (spPls K) := by
  have GC : FnOk P w K mg base CX0 (k + 1) fC fdC ["one", "other"] spCm := ok_cm DC
  refine D.fn.ok scPls (fun vs H Q E h => ?_) (fun cdv A outer s H vs Q E hr h => ?_)
  · obtain ⟨v, s, m, rfl, _⟩ := h
    rfl
  · obtain ⟨v, s, m, rfl, ⟨b, rfl, hb⟩, be, md, m0, m6, q⟩ := h
    obtain ⟨g0, g1⟩ := m_small be md m0
    refine ⟨_, pss_cons (ps_set (i := 2) scPls.nd rfl (.inl rfl) (pe_op op_add (pe_op op_mul (pe_ix (r := rIxT K) ix_tup (pv 0) pe_int (fun _ _ => rfl)) (pv 1)) (pe_ix (r := rIxT K) ix_tup (pv 0) pe_int (fun _ _ => rfl))))
      (pss_cons (ps_set (i := 3) scPls.nd rfl (.inl rfl) (pe_op op_mul (pe_ix (r := rIxT K) ix_tup (pv 0) pe_int (fun _ _ => rfl)) (pv 1)))
      (pss_cons (ps_set (i := 4) scPls.nd rfl (.inl rfl) (pe_call GC hr (by rfl) DC.mg DC.fn.kp DC.bd .nil pass0 (pa_cons (pv 2) (pa_cons (pv 3) pa_nil))))
      (pss_one (ps_ret (pe_tup (pa_cons (pe_op op_fdivW (pv 2) (pv 4)) (pa_cons (pe_op op_fdivW (pv 3) (pv 4)) pa_nil))))))), ?_⟩
    refine ⟨_, rfl, b, _, 0, _, rfl, rfl, hb, atI_nat (j := 0) rfl, _, rfl, _, _, rfl, rfl, .inr ⟨by omega, by omega⟩, _, rfl, b, _, 1, _, rfl, rfl, hb, atI_nat (j := 1) rfl, _, _, rfl, rfl, ?_⟩
    refine ⟨_, rfl, b, _, 1, _, rfl, rfl, hb, atI_nat (j := 1) rfl, _, rfl, _, _, rfl, rfl, .inr ⟨by omega, by omega⟩, ?_⟩
    have e1 : ((s.1 : Nat) : Int) * (m : Nat) + (s.2 : Nat) = ((s.1 * m + s.2 : Nat) : Int) := by rw [Int.natCast_add, Int.natCast_mul]
    have e2 : ((s.2 : Nat) : Int) * (m : Nat) = ((s.2 * m : Nat) : Int) := by rw [Int.natCast_mul]
    refine ⟨_, rfl, _, rfl, s.1 * m + s.2, s.2 * m, (by rw [← e1, ← e2]; rfl), ?_⟩
    refine ⟨_, rfl, _, rfl, _, _, rfl, rfl, ⟨by omega, log_lt g0 g1⟩, _, rfl, _, rfl, _, _, rfl, rfl, ⟨by omega, log_lt g0 g1⟩, by show 2 ≤ sizeLine; decide, fun p np => ?_⟩
    have q := q p np
    unfold plusN at q
    rw [Int.natCast_ediv, Int.natCast_ediv, ← e1, ← e2] at q
    exact q
/-- a row that is told: (name, (top, bottom)) -/
def TkAt (K : PySem.W.Frag) (H : Hp) (v : V) (r : Str × Fr) : Prop := ∃ c b, v = .ref c ∧ SqT K H c [.str r.1, .ref b] ∧ SqT K H b [.int (r.2.1 : Nat), .int (r.2.2 : Nat)]
theorem tks_tk {H H' : Hp} {xs : List V} {rs : List (Str × Fr)} (h : A2 (TkAt K H) xs rs) (e : Tk H H') : A2 (TkAt K H') xs rs := h.imp fun _ _ ⟨c, b, h1, h2, h3⟩ => ⟨c, b, h1, e.sq h2, e.sq h3⟩
/-- what a call tells: a tuple of such rows -/
def ToldAt (K : PySem.W.Frag) (H : Hp) (v : V) (rs : List (Str × Fr)) : Prop := ∃ t xs, v = .ref t ∧ SqT K H t xs ∧ A2 (TkAt K H) xs rs
/-- the same, as it was made -/
def ToldN (K : PySem.W.Frag) (H : Hp) (t : Addr) (rs : List (Str × Fr)) : Prop := ∃ (o : Obj) (xs : List V), H t = some (.frz o (.tup xs)) ∧ o.dict = none ∧ A2 (TkAt K H) xs rs
theorem ToldAt.tk {H H' : Hp} {v : V} {rs : List (Str × Fr)} (h : ToldAt K H v rs) (e : Tk H H') : ToldAt K H' v rs := by
  obtain ⟨t, xs, rfl, h1, h2⟩ := h
  exact ⟨t, xs, rfl, e.sq h1, tks_tk h2 e⟩
theorem tk_dk {H : Hp} {p : Addr} {kvs : List (Key × V)} {o : HO} (h : H p = some (.dK kvs)) : Tk H (upd H p o) := fun a xs r => by
  rcases r with r | ⟨o', r⟩
  · left
    rw [upd_ne (fun e => by rw [e, h] at r; cases r)]
    exact r
  · right
    exact ⟨o', by rw [upd_ne (fun e => by rw [e, h] at r; cases r)]; exact r⟩
theorem tk_fz {H : Hp} {p : Addr} {od : Obj} {kvs : List (Key × V)} {o : HO} (h : H p = some (.frz od (.dK kvs))) : Tk H (upd H p o) := fun a xs r => by
  rcases r with r | ⟨o', r⟩
  · left
    rw [upd_ne (fun e => by rw [e, h] at r; cases r)]
    exact r
  · right
    exact ⟨o', by rw [upd_ne (fun e => by rw [e, h] at r; cases r)]; exact r⟩
theorem put_len (kvs : List (Str × Fr)) (z : Str) (s : Fr) : (putF kvs z s).length ≤ kvs.length + 1 := by
  unfold putF
  split
  · rw [List.length_map]; omega
  · rw [List.length_append]; exact Nat.le_refl _
theorem sum_len (rs : List (Str × Nat)) : (sumN rs).length ≤ rs.length := by
  have : ∀ (rs : List (Str × Nat)) (kvs : List (Str × Fr)), (rs.foldl addF kvs).length ≤ kvs.length + rs.length := by
    intro rs
    induction rs with
    | nil => intro kvs; exact Nat.le_refl _
    | cons r rs ih =>
      intro kvs
      have h1 := ih (addF kvs r)
      have h2 : (addF kvs r).length ≤ kvs.length + 1 := put_len _ _ _
      rw [List.foldl_cons, List.length_cons]
      omega
  have := this rs []
  rw [List.length_nil, Nat.zero_add] at this
  exact this
theorem be_put {L : Nat} {kvs : List (Str × Fr)} {z : Str} {s : Fr} (h : ∀ kv ∈ kvs, Be L kv.2) (hs : Be L s) : ∀ kv ∈ putF kvs z s, Be L kv.2 := by
  unfold putF
  split
  · intro kv hk
    obtain ⟨k0, h0, rfl⟩ := List.mem_map.mp hk
    split
    · exact hs
    · exact h k0 h0
  · intro kv hk
    rcases List.mem_append.mp hk with h1 | h1
    · exact h kv h1
    · rw [List.mem_singleton.mp h1]
      exact hs
theorem be_look {L : Nat} {kvs : List (Str × Fr)} {z : Str} (h : ∀ kv ∈ kvs, Be L kv.2) : Be L ((lookF kvs z).getD (0, 1)) := by
  unfold lookF
  cases c : kvs.find? fun kv => decide (kv.1 = z) with
  | none => exact be_zero
  | some kv => exact h kv (List.mem_of_find?_eq_some c)
def Good1 (r : Str × Nat) : Prop := r.2 ∣ LB ∧ 0 < r.2 ∧ r.2 < 2 ^ 60
theorem be_sum {rs : List (Str × Nat)} (h : ∀ r ∈ rs, Good1 r) : ∀ kv ∈ sumN rs, Be LB kv.2 := by
  have : ∀ (rs : List (Str × Nat)) (kvs : List (Str × Fr)), (∀ r ∈ rs, Good1 r) → (∀ kv ∈ kvs, Be LB kv.2) → ∀ kv ∈ rs.foldl addF kvs, Be LB kv.2 := by
    intro rs
    induction rs with
    | nil => intro kvs _ h; exact h
    | cons r rs ih =>
      intro kvs hr h
      rw [List.foldl_cons]
      exact ih _ (fun r' h' => hr r' (List.mem_cons_of_mem _ h')) (be_put h (be_plus (be_look h) (hr r (by simp)).1 (hr r (by simp)).2.1))
  exact this rs [] h (fun kv hk => nomatch hk)
def spSmd (K : PySem.W.Frag) : Sp := fun vs H Q _ => ∃ (v : V) (rs : List (Str × Nat)), vs = [v] ∧ GrAt K H v rs ∧ rs.length ≤ 1000 ∧ (∀ r ∈ rs, Good1 r) ∧ ∀ H' t, Same H H' → ToldAt K H' (.ref t) (sumN rs) → ToldN K H' t (sumN rs) → Q (.ref t) H'
theorem ok_smd {f fP fC : Addr} {fd fdP fdC : FuncData} {k : Nat} (B : Bi mg) (D : Df K mg "summed" sSmd f fd ["rows"]) (DP : Df K mg "plus_share" sPls fP fdP ["share", "bottom"]) (DC : Df K mg "common_measure" sCm fC fdC ["one", "other"]) : FnOk P w K mg base CX0 (k + 3) f fd ["rows"] (spSmd K) := by
  have GP : FnOk P w K mg base CX0 (k + 2) fP fdP ["share", "bottom"] (spPls K) := ok_pls DP DC
  refine D.fn.ok scSmd (fun vs H Q E h => ?_) (fun cdv A outer s H vs Q E hr h => ?_)
  · obtain ⟨v, rs, rfl, _⟩ := h
    rfl
  · obtain ⟨v, rs, rfl, ⟨a, xs, rfl, ha, hx⟩, l1, gd, q⟩ := h
    have hu1 : _ + 1 < cLine := Nat.lt_of_le_of_lt (Nat.add_le_add_left (by decide : 1 ≤ 64) _) hr.units
    refine ⟨_, pss_cons (ps_set (i := 1) scSmd.nd rfl (.inr rfl) pe_dnewK)
      (pss_cons (ps_for PassesOwn.never rfl (pi_list (pv 0)) (pg_tup rfl (pgs_cons (pg_name (i := 2) scSmd.nd rfl (.inl rfl)) (pgs_cons (pg_name (i := 3) scSmd.nd rfl (.inl rfl)) pgs_nil)))
        (pss_one (ps_dput hu1 (pv 1) (pv 2) (pe_call GP hr (by rfl) DP.mg DP.fn.kp DP.bd .nil pass0 (pa_cons (pe_dget2 hu1 (pv 1) (pv 2) (pe_tup (pa_cons pe_int (pa_cons pe_int pa_nil))) ⟨rfl, rfl, rfl, rfl⟩) (pa_cons (pv 3) pa_nil))) (by rfl))))
      (pss_one (ps_ret (pe_callTy call_tuple_nd (by rfl) B.tuple boot_tuple (pa_cons (pe_lock (pe_lc (own := [("name", 2)]) (g := gName 2) (tt := tYes) rfl scSmd.nd (pi_keys (pv 1)) (blkOk_by (own := [("name", 2)]) (N := nSmd) (sc := defScope sSmd) (by decide +kernel))
          (fun _ _ _ _ _ => pg_name (i := 2) scSmd.nd rfl (Or.inl rfl)) (fun _ _ _ _ _ => pts_nil) (fun _ _ _ _ _ => pe_tup (pa_cons (pv 2) (pa_cons (pe_dget hu1 (pv 1) (pv 2) (fun _ _ => rfl)) pa_nil))))) pa_nil))))), ?_⟩
    refine fun dA nA => ?_
    have haA : a ≠ dA := ne_of_none ha nA
    refine ⟨_, rfl, a, rfl, ⟨_, sqL (by rw [upd_ne haA]; exact ha)⟩, for_list (K := K) (a := a) (xs := xs) (fun i σ H' => (∃ y2 y3 : Option V, σ = [some (.ref a), some (.ref dA), y2, y3]) ∧ (∃ kvs, H' dA = some (.dK kvs) ∧ A2 (KfAt K H') kvs (sumN (rs.take i))) ∧ Same H H') ⟨⟨none, none, rfl⟩, ⟨[], upd_same, .nil⟩, same_new nA⟩ (fun i σ H' _ h => sqL (h.2.2 _ _ ha)) ?_ ?_⟩
    · rintro i x σ H1 hx1 ⟨⟨y2, y3, rfl⟩, ⟨kvs, hA, hk⟩, s1⟩
      obtain ⟨r, hr1, c, rfl, hc⟩ := hx.get hx1
      have il := lt_get hr1
      have g1 := gd r (List.mem_of_getElem? hr1)
      have be := be_look (z := r.1) (be_sum (rs := rs.take i) fun r' h' => gd r' (List.mem_of_mem_take h'))
      have kl : kvs.length ≤ 1000 := by
        have := hk.len
        have := sum_len (rs.take i)
        rw [List.length_take] at this
        omega
      refine ⟨c, _, rfl, (tk_same s1).sq hc, rfl, _, _, rfl, _, _, rfl, rfl, ?_⟩
      refine ⟨_, rfl, dA, rfl, .inl ⟨kvs, .inl hA⟩, _, rfl, by show 2 ≤ sizeLine; decide, fun p0 n0 => ?_⟩
      have nAp : dA ≠ p0 := ne_of_none hA n0
      have hA2 : (upd H1 p0 (.tup [.int 0, .int 1])) dA = some (.dK kvs) := by rw [upd_ne nAp]; exact hA
      have hk2 := kfs_tk hk (tk_new (o := .tup [.int 0, .int 1]) n0)
      have h02 : FrAt K (upd H1 p0 (.tup [.int 0, .int 1])) (.ref p0) (0, 1) := ⟨p0, rfl, sqT upd_same⟩
      have s2 : Same H (upd H1 p0 (.tup [.int 0, .int 1])) := s1.trans (same_new n0)
      revert hA2 hk2 h02 s2
      generalize upd H1 p0 (.tup [.int 0, .int 1]) = H2
      intro hA2 hk2 h02 s2
      refine ⟨valV kvs (.inr r.1 : Key), DGet.k (k := .inr r.1) hA2, _, rfl, ?_⟩
      obtain ⟨sh, esh, hsh⟩ : ∃ sh, (lookF (sumN (rs.take i)) r.1).getD (0, 1) = sh ∧ FrAt K H2 ((valV kvs (.inr r.1 : Key)).getD (.ref p0)) sh := by
        rcases kf_look (z := r.1) hk2 with ⟨e1, e2⟩ | ⟨v, s, e1, e2, hv⟩
        · rw [e1, e2]
          exact ⟨_, rfl, h02⟩
        · rw [e1, e2]
          exact ⟨_, rfl, hv⟩
      rw [esh] at be
      refine ⟨_, sh, r.2, rfl, hsh, be, g1.1, g1.2.1, g1.2.2, fun p3 n3 => ?_⟩
      have hA3 : (upd H2 p3 (.tup [.int ((plusN sh r.2).1 : Nat), .int ((plusN sh r.2).2 : Nat)])) dA = some (.dK kvs) := by rw [upd_ne (ne_of_none hA2 n3)]; exact hA2
      have hk3 := kfs_tk hk2 (tk_new (o := .tup [.int ((plusN sh r.2).1 : Nat), .int ((plusN sh r.2).2 : Nat)]) n3)
      have h03 : FrAt K (upd H2 p3 (.tup [.int ((plusN sh r.2).1 : Nat), .int ((plusN sh r.2).2 : Nat)])) (.ref p3) (plusN sh r.2) := ⟨p3, rfl, sqT upd_same⟩
      have s3 : Same H (upd H2 p3 (.tup [.int ((plusN sh r.2).1 : Nat), .int ((plusN sh r.2).2 : Nat)])) := s2.trans (same_new n3)
      revert hA3 hk3 h03 s3
      generalize upd H2 p3 (.tup [.int ((plusN sh r.2).1 : Nat), .int ((plusN sh r.2).2 : Nat)]) = H3
      intro hA3 hk3 h03 s3
      refine ⟨_, rfl, _, rfl, dA, _, rfl, DPut.k (k := .inr r.1) hA3 (Nat.lt_of_le_of_lt kl (by decide)), ⟨_, _, rfl⟩, ⟨_, upd_same, ?_⟩, ((Bt.of_same (S := []) s3).upd0 nA).same⟩
      rw [take_more hr1, sum_snoc]
      unfold addF
      rw [esh]
      exact kfs_tk (kf_put hk3 h03) (tk_dk hA3)
    · rintro σ H1 ⟨⟨y2, y3, rfl⟩, ⟨kvs, hA, hk⟩, s1⟩
      rw [hx.len, List.take_length] at hk
      have kl : kvs.length ≤ 1000 := by
        have := hk.len
        have := sum_len rs
        omega
      have tn := sum_nd rs
      revert hk q tn
      generalize sumN rs = ts
      intro q hk tn
      refine ⟨dA, .dK kvs, hA, trivial, fun od => ?_⟩
      refine ⟨_, rfl, dA, od, rfl, .inl ⟨kvs, upd_same, fun L nL => ?_⟩⟩
      have nLA : L ≠ dA := fun e => by rw [e, upd_same] at nL; cases nL
      have nLH : H1 L = none := by rw [upd_ne nLA] at nL; exact nL
      have nLH0 := s1.free nLH
      have tkA : Tk H1 (upd H1 dA (.frz od (.dK kvs))) := tk_dk hA
      have hk2 := kfs_tk hk tkA
      refine lc_it walk_keys (fun j H' => (∃ acc, H' L = some (.lst acc) ∧ A2 (TkAt K H') acc (ts.take j)) ∧ H' dA = some (.frz od (.dK kvs)) ∧ A2 (KfAt K H') kvs ts ∧ Same H (upd H' dA (.dK kvs))) ⟨⟨[], upd_same, .nil⟩, ?_, kfs_tk hk2 (tk_new nL), ?_⟩ (fun j H' _ h => h.2.1) ?_ ?_
      · rw [upd_ne nLA.symm]
        exact upd_same
      · exact (((Bt.of_same (S := []) s1).upd0 nA).upd0 nLH0 |>.upd0 nA).same
      · rintro j x _ H5 hj ⟨⟨acc, hL, al⟩, hA5, hk5, s5⟩ ⟨rfl, k0, v0, hkv, rfl⟩
        obtain ⟨r, hr, ek, hv⟩ := hk5.get hkv
        have er : valV kvs (.inr r.1 : Key) = some v0 ∨ ∃ v1, valV kvs (.inr r.1 : Key) = some v1 ∧ FrAt K H5 v1 r.2 := by
          rcases kf_look (z := r.1) hk5 with ⟨_, e2⟩ | ⟨v1, s1, e1, e2, hv1⟩
          · rw [look_at tn hr] at e2
            cases e2
          · rw [look_at tn hr] at e2
            cases e2
            exact .inr ⟨v1, e1, hv1⟩
        obtain ⟨v1, ev, b1, rfl, hb1⟩ : ∃ v1, valV kvs (.inr r.1 : Key) = some v1 ∧ FrAt K H5 v1 r.2 := by
          rcases er with e | e
          · exact ⟨v0, e, hv⟩
          · exact e
        have ek : k0 = .inr r.1 := ek
        subst ek
        refine ⟨rfl, tyes (iteT ⟨_, rfl, _, rfl, _, rfl, dA, .ref b1, rfl, .inl ⟨kvs, .inr r.1, .inr ⟨od, hA5⟩, rfl, ev.symm⟩, by show 2 ≤ sizeLine; decide, fun tp ntp => ?_⟩)⟩
        have al2 : acc.length ≤ 1000 := by
          have := al.len
          rw [List.length_take] at this
          have := hk.len
          omega
        have hL6 : (upd H5 tp (.tup [.str r.1, .ref b1])) L = some (.lst acc) := by rw [upd_ne (ne_of_none hL ntp)]; exact hL
        have t6 : Tk H5 (upd (upd H5 tp (.tup [.str r.1, .ref b1])) L (.lst (acc ++ [.ref tp]))) := (tk_new ntp).trans (tk_lst hL6)
        refine ⟨acc, hL6, Nat.lt_of_le_of_lt al2 (by decide), ⟨_, upd_same, ?_⟩, ?_, kfs_tk hk5 t6, ?_⟩
        · rw [take_more hr]
          exact (tks_tk al t6).snoc ⟨tp, b1, rfl, (tk_lst hL6).sq (sqT upd_same), t6.sq hb1⟩
        · rw [upd_ne nLA.symm, upd_ne (ne_of_none hA5 ntp)]
          exact hA5
        · have ntA : tp ≠ dA := (ne_of_none hA5 ntp).symm
          refine fun b o hb => ?_
          have h5 := s5 b o hb
          by_cases e1 : b = dA
          · rw [e1, nA] at hb
            cases hb
          · rw [upd_ne e1] at h5 ⊢
            rw [upd_ne (fun e => by rw [e, nLH0] at hb; cases hb), upd_ne (ne_of_none h5 ntp)]
            exact h5
      · rintro H5 ⟨⟨acc, hL, al⟩, hA5, hk5, s5⟩
        refine ⟨hA5, L, acc, rfl, ?_, fun tp o ntp nd => ?_⟩
        · exact sqL (by rw [upd_ne nLA]; exact hL)
        · rw [hk.len, List.take_length] at al
          exact q _ tp (s5.trans (same_new ntp)) ⟨tp, acc, rfl, sqF upd_same, tks_tk al ((tk_fz hA5).trans (tk_new ntp))⟩ ⟨o, acc, upd_same, nd, tks_tk al ((tk_fz hA5).trans (tk_new ntp))⟩
end
end WdQ

set_option Elab.async false
set_option linter.all false
set_option maxRecDepth 100000
set_option maxHeartbeats 4000000
set_option exponentiation.threshold 5000
namespace WdQ
open PySem PySem.Spec PyProof.Rows L2 WdM Wd
/-! ### how great a bottom is -/
def Lev (k m : Nat) : Prop := 1 ≤ m ∧ m ≤ 8 ^ k ∧ m ∣ 840 ^ k
theorem lev_one {k : Nat} : Lev k 1 := ⟨Nat.le_refl _, Nat.one_le_pow _ _ (by decide), Nat.one_dvd _⟩
theorem dvd840 {n : Nat} (h1 : 1 ≤ n) (h8 : n ≤ 8) : n ∣ 840 := by
  have : n = 1 ∨ n = 2 ∨ n = 3 ∨ n = 4 ∨ n = 5 ∨ n = 6 ∨ n = 7 ∨ n = 8 := by omega
  rcases this with rfl | rfl | rfl | rfl | rfl | rfl | rfl | rfl <;> decide
theorem Lev.mul {k m n : Nat} (h : Lev k m) (h1 : 1 ≤ n) (h8 : n ≤ 8) : Lev (k + 1) (m * n) :=
  ⟨Nat.mul_pos h.1 h1, by rw [Nat.pow_succ]; exact Nat.mul_le_mul h.2.1 h8, by rw [Nat.pow_succ]; exact Nat.mul_dvd_mul h.2.2 (dvd840 h1 h8)⟩
theorem Lev.up {k j m : Nat} (h : Lev k m) (hj : k ≤ j) : Lev j m := ⟨h.1, Nat.le_trans h.2.1 (Nat.pow_le_pow_right (by decide) hj), Nat.dvd_trans h.2.2 (Nat.pow_dvd_pow 840 hj)⟩
theorem pe_lev {k : Nat} {gs : List (List (Str × Nat))} (l : gs.length ≤ 8) (h : ∀ g ∈ gs, ∀ r ∈ g, Lev k r.2) : ∀ r ∈ peN gs, Lev (k + 1) r.2 := by
  intro r hr
  unfold peN at hr
  obtain ⟨g', hg', hr⟩ := List.mem_flatten.mp hr
  obtain ⟨g, hg, rfl⟩ := List.mem_map.mp hg'
  obtain ⟨r0, h0, rfl⟩ := List.mem_map.mp hr
  have hl : 1 ≤ (gs.filter hasB).length := List.length_pos_of_mem hg
  have := List.length_filter_le hasB gs
  exact (h g (List.mem_filter.mp hg).1 r0 h0).mul hl (by omega)
theorem st_lev {F : List (Str × Option Str)} {al : Str → Bool} (g : GoodF F) : ∀ (n : Nat) (z : Str), ∀ r ∈ stN F al n z, Lev n r.2
  | 0, _, r, hr => nomatch hr
  | n + 1, z, r, hr => by
    have hr : r ∈ (if al z = true then [(z, 1)] else peN ((kidsOf F z).map (stN F al n))) := hr
    by_cases c : al z = true
    · rw [if_pos c] at hr
      rw [List.mem_singleton.mp hr]
      exact lev_one
    · rw [if_neg c] at hr
      refine pe_lev ?_ (fun g' hg' => ?_) r hr
      · rw [List.length_map]
        unfold kidsOf
        rw [List.length_map]
        have := List.length_filter_le (kidB z) F
        have := g.l8
        omega
      · obtain ⟨y, _, rfl⟩ := List.mem_map.mp hg'
        exact st_lev g n y
theorem pt_lev {F : List (Str × Option Str)} {al : Str → Bool} (g : GoodF F) (p : Part) : ∀ r ∈ ptN F al p, Lev 8 r.2 := by
  intro r hr
  unfold ptN at hr
  split at hr
  · exact st_lev g 8 p.2 r hr
  · refine (pe_lev (k := 0) ?_ (fun g' hg' => ?_) r hr).up (by decide)
    · rw [List.length_map]
      have := List.length_filter_le al (ptS F p)
      have := ptS_len g p
      omega
    · obtain ⟨y, _, rfl⟩ := List.mem_map.mp hg'
      intro r hr
      rw [List.mem_singleton.mp hr]
      exact lev_one
/-! ### who takes by an alternative, by a WHOM -/
def altN (F : List (Str × Option Str)) (al : Str → Bool) (a : List Part) : List (Str × Nat) := peN (a.map (ptN F al))
def takN (F : List (Str × Option Str)) (al : Str → Bool) : List (List Part) → List (Str × Fr)
  | [] => []
  | a :: as => if hasB (altN F al a) = true then sumN (altN F al a) else takN F al as
theorem alt_good {F : List (Str × Option Str)} {al : Str → Bool} (g : GoodF F) {a : List Part} (l : a.length ≤ 6) : ∀ r ∈ altN F al a, Good1 r := by
  intro r hr
  have := pe_lev (k := 8) (gs := a.map (ptN F al)) (by rw [List.length_map]; omega) (fun g' hg' => by
    obtain ⟨p, _, rfl⟩ := List.mem_map.mp hg'
    exact pt_lev g p) r hr
  exact ⟨this.2.2, this.1, Nat.lt_of_le_of_lt this.2.1 (by decide)⟩
theorem alts_len {F : List (Str × Option Str)} {al : Str → Bool} (g : GoodF F) : ∀ {a : List Part}, (∀ p ∈ a, p.2 ∈ F.map Prod.fst) → ((a.map (ptN F al)).flatten).length ≤ a.length * 128
  | [], _ => Nat.le_refl _
  | p :: a, h => by
    rw [List.map_cons, List.flatten_cons, List.length_append, List.length_cons]
    have h1 := ptN_len (al := al) g (h p (by simp))
    have h2 := alts_len (al := al) g (a := a) fun p hp => h p (List.mem_cons_of_mem _ hp)
    omega
theorem alt_len {F : List (Str × Option Str)} {al : Str → Bool} (g : GoodF F) {a : List Part} (l : a.length ≤ 6) (h : ∀ p ∈ a, p.2 ∈ F.map Prod.fst) : ((a.map (ptN F al)).flatten).length ≤ 1000 ∧ (altN F al a).length ≤ 1000 := by
  have := alts_len (al := al) g h
  unfold altN
  rw [peN_len]
  omega
/-! ### a WHOM as data -/
def partD (p : Part) : PyData := .tuple [.str p.1, .str p.2]
def altD (a : List Part) : PyData := .tuple (a.map partD)
def whomD (as : List (List Part)) : PyData := .tuple (as.map altD)
structure GoodA (F : List (Str × Option Str)) (a : List Part) : Prop where
  l1 : 1 ≤ a.length
  l6 : a.length ≤ 6
  wd : ∀ p ∈ a, p.1 = "one" ∨ p.1 = "children" ∨ p.1 = "stock"
  nm : ∀ p ∈ a, p.2 ∈ F.map Prod.fst
structure GoodW (F : List (Str × Option Str)) (as : List (List Part)) : Prop where
  l1 : 1 ≤ as.length
  l4 : as.length ≤ 4
  al : ∀ a ∈ as, GoodA F a
section
variable {F : List (Str × Option Str)}
theorem pt_ok (g : GoodF F) {a : List Part} (h : GoodA F a) {p : Part} (hp : p ∈ a) : partB (partD p) = true ∧ Sm 1 (partD p) := by
  have hn := h.nm p hp
  obtain ⟨r, hr, e⟩ := List.mem_map.mp hn
  have nm := g.nm r hr
  rw [e] at nm
  refine ⟨?_, by show 2 ≤ 100; decide, ?_⟩
  · show (wordB partW (.str p.1) && nameB (.str p.2)) = true
    rw [Bool.and_eq_true]
    refine ⟨?_, nm.name⟩
    rcases h.wd p hp with e | e | e <;> rw [e] <;> rfl
  · intro d hd
    simp only [List.mem_cons, List.not_mem_nil, or_false] at hd
    rcases hd with rfl | rfl
    · show p.1.length ≤ 100
      rcases h.wd p hp with e | e | e <;> rw [e] <;> decide
    · have := nm.1.2.2
      show p.2.length ≤ 100
      omega
theorem alt_ok (g : GoodF F) {a : List Part} (h : GoodA F a) : altB (altD a) = true ∧ Sm 2 (altD a) := by
  refine ⟨?_, ?_, ?_⟩
  · show (decide (1 ≤ (a.map partD).length ∧ (a.map partD).length ≤ 6) && (a.map partD).all partB) = true
    rw [Bool.and_eq_true, List.length_map, List.all_map, List.all_eq_true]
    exact ⟨decide_eq_true ⟨h.l1, h.l6⟩, fun p hp => (pt_ok g h hp).1⟩
  · show (a.map partD).length ≤ 100
    rw [List.length_map]
    have := h.l6
    omega
  · intro d hd
    obtain ⟨p, hp, rfl⟩ := List.mem_map.mp hd
    exact (pt_ok g h hp).2
theorem whom_ok (g : GoodF F) {as : List (List Part)} (h : GoodW F as) : whomB (whomD as) = true ∧ Sml (whomD as) := by
  refine ⟨?_, 3, ?_, ?_⟩
  · show (decide (1 ≤ (as.map altD).length ∧ (as.map altD).length ≤ 4) && (as.map altD).all altB) = true
    rw [Bool.and_eq_true, List.length_map, List.all_map, List.all_eq_true]
    exact ⟨decide_eq_true ⟨h.l1, h.l4⟩, fun a ha => (alt_ok g (h.al a ha)).1⟩
  · show (as.map altD).length ≤ 100
    rw [List.length_map]
    have := h.l4
    omega
  · intro d hd
    obtain ⟨a, ha, rfl⟩ := List.mem_map.mp hd
    exact (alt_ok g (h.al a ha)).2
end
end WdQ

set_option Elab.async false
set_option linter.all false
set_option maxRecDepth 100000
set_option maxHeartbeats 4000000
set_option exponentiation.threshold 5000
namespace WdQ
open PySem PySem.Spec PyProof.Rows L2 WdM Wd
/-! ### all who take have one together; they stand, and are of the house -/
theorem one_one1 (y : Str) : One (one1 y) := by
  intro L l mu
  show L / 1 + 0 = L
  rw [Nat.div_one, Nat.add_zero]
theorem pe_mem {gs : List (List (Str × Nat))} {r : Str × Nat} (h : r ∈ peN gs) : ∃ g ∈ gs, ∃ r0 ∈ g, r.1 = r0.1 := by
  unfold peN at h
  obtain ⟨g', hg', hr⟩ := List.mem_flatten.mp h
  obtain ⟨g, hg, rfl⟩ := List.mem_map.mp hg'
  obtain ⟨r0, h0, rfl⟩ := List.mem_map.mp hr
  exact ⟨g, (List.mem_filter.mp hg).1, r0, h0, rfl⟩
section
variable {F : List (Str × Option Str)} {al : Str → Bool}
theorem st_one : ∀ (n : Nat) (z : Str), stN F al n z ≠ [] → One (stN F al n z)
  | 0, _, h => absurd rfl h
  | n + 1, z, h => by
    have e : stN F al (n + 1) z = (if al z = true then one1 z else peN ((kidsOf F z).map (stN F al n))) := rfl
    rw [e] at h ⊢
    by_cases c : al z = true
    · rw [if_pos c]
      exact one_one1 z
    · rw [if_neg c] at h ⊢
      refine grp_one (fun g hg ne => ?_) h
      obtain ⟨y, _, rfl⟩ := List.mem_map.mp hg
      exact st_one n y ne
theorem pt_one {p : Part} (h : ptN F al p ≠ []) : One (ptN F al p) := by
  unfold ptN at h ⊢
  split at h
  · rename_i c
    rw [if_pos c]
    exact st_one 8 p.2 h
  · rename_i c
    rw [if_neg c]
    refine grp_one (fun g hg ne => ?_) h
    obtain ⟨y, _, rfl⟩ := List.mem_map.mp hg
    exact one_one1 y
theorem alt_one {a : List Part} (h : altN F al a ≠ []) : One (altN F al a) := by
  refine grp_one (fun g hg ne => ?_) h
  obtain ⟨p, _, rfl⟩ := List.mem_map.mp hg
  exact pt_one ne
theorem kids_mem {z y : Str} (h : y ∈ kidsOf F z) : y ∈ F.map Prod.fst := by
  obtain ⟨r, hr, rfl⟩ := List.mem_map.mp h
  exact List.mem_map_of_mem (List.mem_filter.mp hr).1
theorem st_stand : ∀ (n : Nat) (z : Str), z ∈ F.map Prod.fst → ∀ r ∈ stN F al n z, al r.1 = true ∧ r.1 ∈ F.map Prod.fst
  | 0, _, _, r, hr => nomatch hr
  | n + 1, z, hz, r, hr => by
    have hr : r ∈ (if al z = true then one1 z else peN ((kidsOf F z).map (stN F al n))) := hr
    by_cases c : al z = true
    · rw [if_pos c] at hr
      rw [List.mem_singleton.mp hr]
      exact ⟨c, hz⟩
    · rw [if_neg c] at hr
      obtain ⟨g, hg, r0, h0, e⟩ := pe_mem hr
      obtain ⟨y, hy, rfl⟩ := List.mem_map.mp hg
      rw [e]
      exact st_stand n y (kids_mem hy) r0 h0
theorem pt_stand {p : Part} (hp : p.2 ∈ F.map Prod.fst) : ∀ r ∈ ptN F al p, al r.1 = true ∧ r.1 ∈ F.map Prod.fst := by
  intro r hr
  unfold ptN at hr
  split at hr
  · exact st_stand 8 p.2 hp r hr
  · obtain ⟨g, hg, r0, h0, e⟩ := pe_mem hr
    obtain ⟨y, hy, rfl⟩ := List.mem_map.mp hg
    obtain ⟨h1, h2⟩ := List.mem_filter.mp hy
    rw [e, List.mem_singleton.mp h0]
    exact ⟨h2, ptS_mem hp h1⟩
theorem alt_stand {a : List Part} (h : ∀ p ∈ a, p.2 ∈ F.map Prod.fst) : ∀ r ∈ altN F al a, al r.1 = true ∧ r.1 ∈ F.map Prod.fst := by
  intro r hr
  obtain ⟨g, hg, r0, h0, e⟩ := pe_mem hr
  obtain ⟨p, hp, rfl⟩ := List.mem_map.mp hg
  rw [e]
  exact pt_stand (h p hp) r0 h0
/-- nobody takes, or the sum of one alternative's rows is told -/
theorem tak_ways : ∀ as : List (List Part), (takN F al as = [] ∧ ∀ a ∈ as, altN F al a = []) ∨ ∃ a ∈ as, altN F al a ≠ [] ∧ takN F al as = sumN (altN F al a)
  | [] => .inl ⟨rfl, fun a h => nomatch h⟩
  | a :: as => by
    have e : takN F al (a :: as) = if hasB (altN F al a) = true then sumN (altN F al a) else takN F al as := rfl
    by_cases c : hasB (altN F al a) = true
    · rw [if_pos c] at e
      refine .inr ⟨a, by simp, fun h => ?_, e⟩
      rw [h] at c
      cases c
    · rw [if_neg c] at e
      have c0 : altN F al a = [] := by
        cases h : altN F al a with
        | nil => rfl
        | cons r rs => rw [h] at c; exact absurd rfl c
      rcases tak_ways as with ⟨h1, h2⟩ | ⟨b, hb, h1, h2⟩
      · refine .inl ⟨e.trans h1, fun b hb => ?_⟩
        rcases List.mem_cons.mp hb with rfl | h
        · exact c0
        · exact h2 b h
      · exact .inr ⟨b, List.mem_cons_of_mem _ hb, h1, e.trans h2⟩
theorem alt_mu (g : GoodF F) {a : List Part} (l : a.length ≤ 6) : Mu LB (altN F al a) := fun r hr => ⟨(alt_good g l r hr).1, (alt_good g l r hr).2.1⟩
end
/-! ### all parts twice; parts turned about; empty groups -/
theorem pe_nil {gs hs : List (List (Str × Nat))} (h : gs.filter hasB = hs.filter hasB) : peN gs = peN hs := by
  unfold peN
  rw [h]
theorem wn_flat {L n : Nat} {z : Str} : ∀ gs : List (List (Str × Nat)), WN L ((gs.map fun g => g.map (wide n)).flatten) z = (gs.map fun g => WN (L / n) g z).sum
  | [] => rfl
  | g :: gs => by rw [List.map_cons, List.flatten_cons, wn_app, wn_wide, wn_flat gs, List.map_cons, List.sum_cons]
theorem wn_pe {L : Nat} {z : Str} (gs : List (List (Str × Nat))) : WN L (peN gs) z = ((gs.filter hasB).map fun g => WN (L / (gs.filter hasB).length) g z).sum := by
  unfold peN
  rw [wn_flat]
theorem wn_rev {L : Nat} {z : Str} (gs : List (List (Str × Nat))) : WN L (peN gs.reverse) z = WN L (peN gs) z := by
  rw [wn_pe, wn_pe, List.filter_reverse, List.length_reverse, List.map_reverse, List.sum_reverse]
theorem wn_two {M : Nat} {z : Str} {g : List (Str × Nat)} (mu : Mu M g) : WN (2 * M) g z = 2 * WN M g z := by
  induction g with
  | nil => rfl
  | cons r g ih =>
    have ih := ih fun r' h' => mu r' (List.mem_cons_of_mem _ h')
    unfold WN at ih ⊢
    rw [List.map_cons, List.map_cons, List.sum_cons, List.sum_cons, ih, Nat.mul_add]
    congr 1
    unfold wnm
    split
    · rw [Nat.mul_div_assoc _ (mu r (by simp)).1]
    · rfl
theorem firsts_app_sub {xs ys : List Str} (h : ∀ y ∈ ys, y ∈ xs) : firsts (xs ++ ys) = firsts xs := by
  unfold firsts
  rw [List.foldl_append]
  have : ∀ (ys ks : List Str), (∀ y ∈ ys, y ∈ ks) → ys.foldl (fun ks z => if z ∈ ks then ks else ks ++ [z]) ks = ks := by
    intro ys
    induction ys with
    | nil => intro ks _; rfl
    | cons y ys ih =>
      intro ks hk
      rw [List.foldl_cons, if_pos (hk y (by simp))]
      exact ih ks fun y' h' => hk y' (List.mem_cons_of_mem _ h')
  exact this ys _ fun y hy => (mem_firsts xs).mpr (h y hy)
theorem pe_names (gs : List (List (Str × Nat))) : (peN gs).map Prod.fst = gs.flatten.map Prod.fst := by
  have : ∀ (n : Nat) (hs : List (List (Str × Nat))), ((hs.map fun g => g.map (wide n)).flatten).map Prod.fst = hs.flatten.map Prod.fst := by
    intro n hs
    induction hs with
    | nil => rfl
    | cons g hs ih =>
      rw [List.map_cons, List.flatten_cons, List.flatten_cons, List.map_append, List.map_append, ih, List.map_map]
      rfl
  unfold peN
  rw [this, ffil]
theorem sum_two {α : Type} {f g : α → Nat} : ∀ {l : List α}, (∀ x ∈ l, f x = 2 * g x) → (l.map f).sum = 2 * (l.map g).sum
  | [], _ => rfl
  | x :: l, h => by
    rw [List.map_cons, List.map_cons, List.sum_cons, List.sum_cons, h x (by simp), sum_two fun y hy => h y (List.mem_cons_of_mem _ hy)]
    omega
theorem wn_twice {L : Nat} {z : Str} (l : 0 < L) {gs : List (List (Str × Nat))} (mu : Mu L (peN (gs ++ gs))) : WN L (peN (gs ++ gs)) z = WN L (peN gs) z := by
  rw [wn_pe, wn_pe, List.filter_append, List.map_append, List.sum_append, List.length_append]
  unfold peN at mu
  rw [List.filter_append, List.length_append] at mu
  have ne : ∀ g ∈ gs.filter hasB, g ≠ [] := fun g hg e => by
    have := (List.mem_filter.mp hg).2
    rw [e] at this
    cases this
  revert mu ne
  generalize gs.filter hasB = hs
  intro mu ne
  cases hs with
  | nil => rfl
  | cons g0 hs0 =>
    have n0 : 0 < (g0 :: hs0).length := Nat.succ_pos _
    revert mu ne n0
    have hne : g0 ∈ g0 :: hs0 := by simp
    revert hne
    generalize g0 :: hs0 = hs
    intro hne mu ne n0
    have each : ∀ g ∈ hs, Mu (L / (hs.length + hs.length)) g ∧ hs.length + hs.length ∣ L := fun g hg => by
      obtain ⟨m1, m2⟩ := mu_wide (n := hs.length + hs.length) (g := g) l (by omega) fun r hr => mu r (List.mem_flatten.mpr ⟨_, List.mem_map_of_mem (List.mem_append_left _ hg), hr⟩)
      exact ⟨m1, m2 (ne g hg)⟩
    have e : L / hs.length = 2 * (L / (hs.length + hs.length)) := by
      obtain ⟨c, rfl⟩ := (each g0 hne).2
      rw [Nat.mul_div_cancel_left _ (by omega)]
      rw [show (hs.length + hs.length) * c = hs.length * (2 * c) by rw [← Nat.two_mul, Nat.mul_comm 2, Nat.mul_assoc], Nat.mul_div_cancel_left _ n0]
    rw [e, sum_two (g := fun g => WN (L / (hs.length + hs.length)) g z) fun g hg => wn_two (each g hg).1]
    omega
theorem twice_sum {L : Nat} (l : 0 < L) {gs : List (List (Str × Nat))} (m2 : Mu L (peN (gs ++ gs))) (m1 : Mu L (peN gs)) : sumN (peN (gs ++ gs)) = sumN (peN gs) := by
  refine sum_ext l m2 m1 ?_ fun z => wn_twice l m2
  rw [pe_names, pe_names, List.flatten_append, List.map_append]
  exact firsts_app_sub fun y hy => hy
theorem pe_self {g : List (Str × Nat)} (h : g ≠ []) : peN [g] = g := by
  have c : hasB g = true := by
    cases g with
    | nil => exact absurd rfl h
    | cons r g => rfl
  unfold peN
  rw [List.filter_cons_of_pos c, List.filter_nil]
  show (g.map (wide 1)) ++ [] = g
  rw [List.append_nil]
  have : ∀ r : Str × Nat, wide 1 r = r := fun r => by unfold wide; rw [Nat.mul_one]
  induction g with
  | nil => rfl
  | cons r g ih => 
    rw [List.map_cons, this]
    cases g with
    | nil => rfl
    | cons r2 g => rw [ih (by simp) rfl]
/-! ### one alternative; kin -/
section
variable {F : List (Str × Option Str)} {al : Str → Bool}
theorem has_iff {g : List (Str × Nat)} : hasB g = true ↔ g ≠ [] := by
  cases g with
  | nil => exact ⟨fun h => (nomatch h), fun h => absurd rfl h⟩
  | cons r g => exact ⟨fun _ h => (nomatch h), fun _ => rfl⟩
theorem tak_one (a : List Part) : takN F al [a] = sumN (altN F al a) := by
  show (if hasB (altN F al a) = true then sumN (altN F al a) else []) = _
  by_cases c : hasB (altN F al a) = true
  · rw [if_pos c]
  · rw [if_neg c]
    have : altN F al a = [] := Classical.byContradiction fun h => c (has_iff.mpr h)
    rw [this]
    rfl
theorem pe_opt {g : List (Str × Nat)} : peN [g] = g := by
  by_cases h : g = []
  · rw [h]
    rfl
  · exact pe_self h
theorem tak_part (p : Part) : takN F al [[p]] = sumN (ptN F al p) := by
  rw [tak_one]
  show sumN (peN [ptN F al p]) = _
  rw [pe_opt]
theorem pt_stock {z : Str} : ptN F al ("stock", z) = stk F al z := by
  unfold ptN
  rw [if_pos (show isW "stock" "stock" = true by decide)]
theorem pt_ones {y : Str} : ptN F al ("one", y) = if al y = true then one1 y else [] := by
  unfold ptN
  rw [if_neg (show ¬ isW "one" "stock" = true by decide)]
  unfold ptS
  rw [if_pos (show isW "one" "one" = true by decide)]
  by_cases c : al y = true
  · rw [if_pos c, List.filter_cons_of_pos c, List.filter_nil, List.map_cons, List.map_nil, pe_opt]
  · rw [if_neg c, List.filter_cons_of_neg c, List.filter_nil, List.map_nil]
    rfl
theorem pt_kids {z : Str} : ptN F al ("children", z) = peN (((kidsOf F z).filter al).map one1) := by
  unfold ptN
  rw [if_neg (show ¬ isW "children" "stock" = true by decide)]
  unfold ptS
  rw [if_neg (show ¬ isW "children" "one" = true by decide)]
theorem fil_ones : ∀ ks : List Str, (ks.map fun y => ptN F al ("one", y)).filter hasB = ((ks.filter al).map one1).filter hasB
  | [] => rfl
  | y :: ks => by
    rw [List.map_cons, pt_ones]
    by_cases c : al y = true
    · rw [if_pos c, List.filter_cons_of_pos c, List.map_cons, List.filter_cons_of_pos (by rfl), List.filter_cons_of_pos (by rfl), fil_ones ks]
    · rw [if_neg c, List.filter_cons_of_neg c, List.filter_cons_of_neg (by decide), fil_ones ks]
theorem kids_ones {z : Str} : altN F al ((kidsOf F z).map fun y => ("one", y)) = ptN F al ("children", z) := by
  unfold altN
  rw [List.map_map, pt_kids]
  exact pe_nil (fil_ones _)
theorem kids_stocks (g : GoodF F) {z : Str} (h : z ∈ F.map Prod.fst) (c : ¬ al z = true) : altN F al ((kidsOf F z).map fun y => ("stock", y)) = stk F al z := by
  rw [stk_eq g h, if_neg c]
  unfold altN
  rw [List.map_map]
  exact congrArg peN (List.map_congr_left fun y _ => pt_stock)
theorem all_alike {ks : List Str} (nd : ks.Nodup) {n : Nat} (n0 : 0 < n) : sumN (ks.map fun y => (y, n)) = ks.map fun y => (y, ((1, n) : Fr)) := by
  have h : ∀ ks : List Str, ks.Nodup → sumN (ks.map fun y => (y, n)) = ks.map fun y => (y, ((1, n) : Fr)) := by
    refine snoc_ind (fun _ => rfl) fun ks y ih nd => ?_
    rw [List.nodup_append] at nd
    have ny : y ∉ ks := fun h => nd.2.2 y h y (by simp) rfl
    rw [List.map_append, List.map_append, List.map_cons, List.map_nil, sum_snoc, ih nd.1]
    unfold addF
    have lk : lookF (ks.map fun y => (y, ((1, n) : Fr))) y = none := by
      unfold lookF
      rw [List.find?_eq_none.mpr]
      · rfl
      · intro kv hk
        obtain ⟨x, hx, rfl⟩ := List.mem_map.mp hk
        intro e
        have e : x = y := by simpa using e
        exact ny (e ▸ hx)
    rw [lk]
    unfold putF
    rw [if_neg]
    · congr 3
      show ((0 * n + 1) / Nat.gcd (0 * n + 1) (1 * n), (1 * n) / Nat.gcd (0 * n + 1) (1 * n)) = (1, n)
      rw [Nat.zero_mul, Nat.zero_add, Nat.gcd_one_left, Nat.div_one, Nat.div_one, Nat.one_mul]
    · intro e
      obtain ⟨kv, hk, e⟩ := List.any_eq_true.mp e
      obtain ⟨x, hx, rfl⟩ := List.mem_map.mp hk
      have e : x = y := by simpa using e
      exact ny (e ▸ hx)
  exact h ks nd
end
end WdQ

set_option Elab.async false
set_option linter.all false
set_option maxRecDepth 100000
set_option maxHeartbeats 4000000
set_option exponentiation.threshold 5000
namespace WdQ
open PySem PySem.Spec PyProof.Rows L2 WdM Wd
/-! ### what is told, as data; compared -/
def tkD (r : Str × Fr) : PyData := .tuple [.str r.1, .tuple [.int (r.2.1 : Nat), .int (r.2.2 : Nat)]]
def toldD (ts : List (Str × Fr)) : PyData := .tuple (ts.map tkD)
theorem beq_nat (b e : Nat) : ((b : Int) == (e : Int)) = decide (b = e) := by
  by_cases h : b = e
  · rw [h]; simp
  · rw [decide_eq_false h]
    exact beq_eq_false_iff_ne.mpr (by omega)
theorem beq_str (a d : Str) : (a == d) = decide (a = d) := by
  by_cases h : a = d
  · rw [h]; simp
  · rw [decide_eq_false h]
    exact beq_eq_false_iff_ne.mpr h
theorem tk_eqv (r s : Str × Fr) : PyData.eqv (tkD r) (tkD s) = decide (r = s) := by
  obtain ⟨a, b, c⟩ := r
  obtain ⟨d, e, f⟩ := s
  simp [tkD, PyData.eqv, PyData.eqvAll, Bool.and_assoc]
  rw [beq_nat, beq_nat, beq_str]
theorem told_all : ∀ ts us : List (Str × Fr), PyData.eqvAll (ts.map tkD) (us.map tkD) = decide (ts = us)
  | [], [] => by simp [PyData.eqvAll]
  | [], u :: us => by simp [PyData.eqvAll]
  | t :: ts, [] => by simp [PyData.eqvAll]
  | t :: ts, u :: us => by
    rw [List.map_cons, List.map_cons]
    unfold PyData.eqvAll
    rw [tk_eqv, told_all ts us]
    simp
theorem told_eqv (ts us : List (Str × Fr)) : PyData.eqv (toldD ts) (toldD us) = decide (ts = us) := by
  unfold toldD PyData.eqv
  exact told_all ts us
section
variable {K : PySem.W.Frag}
theorem tks_dp {H : Hp} {xs : List V} {ts : List (Str × Fr)} (h : A2 (TkAt K H) xs ts) : DpAll K H xs (ts.map tkD) := by
  induction h with
  | nil => exact .nil
  | cons h _ ih =>
    obtain ⟨c, b, rfl, h1, h2⟩ := h
    exact .cons (.tup h1 (.cons (.str _) (.cons (.tup h2 (.cons (.int _) (.cons (.int _) .nil))) .nil))) ih
theorem ToldAt.dp {H : Hp} {v : V} {ts : List (Str × Fr)} (h : ToldAt K H v ts) : Dp K H v (toldD ts) := by
  obtain ⟨t, xs, rfl, h1, h2⟩ := h
  exact .tup h1 (tks_dp h2)
end
/-! ### such data can be laid and compared -/
theorem depth_all {n : Nat} : ∀ {ds : List PyData}, (∀ d ∈ ds, PyData.depth d ≤ n) → PyData.depthAll ds ≤ n
  | [], _ => by unfold PyData.depthAll; exact Nat.zero_le _
  | d :: ds, h => by
    unfold PyData.depthAll
    have h1 := h d (by simp)
    have h2 := depth_all fun d hd => h d (List.mem_cons_of_mem _ hd)
    omega
theorem tk_lay {r : Str × Fr} (h : okL r.1) : PyData.canLay0 (tkD r) = true ∧ PyData.depth (tkD r) ≤ 3 := by
  constructor
  · simp only [tkD, PyData.canLay0, PyData.canLayAll0, strOk_of h.ok, Bool.and_true]
  · simp only [tkD, PyData.depth, PyData.depthAll]
    omega
theorem told_sh {ts : List (Str × Fr)} (h : ∀ t ∈ ts, okL t.1) : SeqAt.shaped (toldD ts) = true := by
  have h1 : PyData.canLay0 (toldD ts) = true := by
    simp only [toldD, PyData.canLay0]
    refine canLayAll_of fun d hd => ?_
    obtain ⟨t, ht, rfl⟩ := List.mem_map.mp hd
    exact (tk_lay (h t ht)).1
  have h2 : PyData.depth (toldD ts) ≤ 64 := by
    have := depth_all (n := 3) (ds := ts.map tkD) fun d hd => by
      obtain ⟨t, ht, rfl⟩ := List.mem_map.mp hd
      exact (tk_lay (h t ht)).2
    simp only [toldD, PyData.depth]
    omega
  unfold SeqAt.shaped
  rw [h1, decide_eq_true h2]
  rfl
end WdQ

set_option Elab.async false
set_option linter.all false
set_option maxRecDepth 100000
set_option maxHeartbeats 4000000
set_option exponentiation.threshold 5000
namespace WdQ
open PySem PySem.Spec PyProof.Rows L2 WdM Wd
abbrev sWn : Stmt := topS 44
abbrev sTks : Stmt := topS 50
def nWn : List Str := ["whom", "alternative", "word", "name"]
def nTks : List Str := ["house", "whom", "story", "wait", "alternative", "part", "rows"]
theorem scWn : FnScope nWn ["whom"] (defScope sWn) := ⟨rfl, rfl, rfl, by decide +kernel, rfl, by decide +kernel, by decide +kernel⟩
theorem scTks : FnScope nTks ["house", "whom", "story", "wait"] (defScope sTks) := ⟨rfl, rfl, rfl, by decide +kernel, rfl, by decide +kernel, by decide +kernel⟩
section
variable {P : Program} {w : World} {K : PySem.W.Frag} {mg : Str → Option Value} {base : Heap} {CH CY : Addr}
theorem dz_alt {H : Hp} {xs : List V} {as : List (List Part)} (h : DzAll [] K H xs (as.map altD)) {i : Nat} {x : V} (hx : xs[i]? = some x) : ∃ (a : List Part) (t : Addr) (ys : List V), as[i]? = some a ∧ x = .ref t ∧ SqT K H t ys ∧ DzAll [] K H ys (a.map partD) := by
  obtain ⟨d, hd, dz⟩ := h.get hx
  rw [List.getElem?_map] at hd
  cases c : as[i]? with
  | none => rw [c] at hd; cases hd
  | some a =>
    rw [c] at hd
    cases hd
    obtain ⟨t, ys, rfl, hs, ht⟩ := dz_tup dz
    exact ⟨a, t, ys, rfl, rfl, hs, ht⟩
theorem dz_part {H : Hp} {xs : List V} {a : List Part} (h : DzAll [] K H xs (a.map partD)) {i : Nat} {x : V} (hx : xs[i]? = some x) : ∃ p, a[i]? = some p ∧ PartAt K H x p := by
  obtain ⟨d, hd, dz⟩ := h.get hx
  rw [List.getElem?_map] at hd
  cases c : a[i]? with
  | none => rw [c] at hd; cases hd
  | some p =>
    rw [c] at hd
    cases hd
    obtain ⟨t, ys, rfl, hs, ht⟩ := dz_tup dz
    obtain ⟨x1, x2, d1, d2, rfl, e, h1, h2⟩ := ht.two ht.len
    cases e
    obtain rfl := dz_str h1
    obtain rfl := dz_str h2
    exact ⟨p, rfl, t, rfl, hs⟩
theorem PartAt.tk {H H' : Hp} {v : V} {p : Part} (h : PartAt K H v p) (e : Tk H H') : PartAt K H' v p := by
  obtain ⟨a, rfl, h⟩ := h
  exact ⟨a, rfl, e.sq h⟩
def wnN (as : List (List Part)) : List Str := (as.map fun a => a.map Prod.snd).flatten
theorem wn_len : ∀ {as : List (List Part)}, (∀ a ∈ as, a.length ≤ 6) → (wnN as).length ≤ as.length * 6
  | [], _ => Nat.le_refl _
  | a :: as, h => by
    have h1 := h a (by simp)
    have h2 := wn_len (as := as) fun a ha => h a (List.mem_cons_of_mem _ ha)
    unfold wnN at h2 ⊢
    rw [List.map_cons, List.flatten_cons, List.length_append, List.length_map, List.length_cons]
    omega
def spWn (K : PySem.W.Frag) : Sp := fun vs H Q _ => ∃ (v : V) (as : List (List Part)), vs = [v] ∧ Dz [] K H v (whomD as) ∧ as.length ≤ 4 ∧ (∀ a ∈ as, a.length ≤ 6) ∧ ∀ H' p, Same H H' → H p = none → H' p = some (.lst ((wnN as).map V.str)) → Q (.ref p) H'
theorem ok_wn {f : Addr} {fd : FuncData} {k : Nat} (D : Df K mg "whom_names" sWn f fd ["whom"]) : FnOk P w K mg base CX0 (k + 1) f fd ["whom"] (spWn K) := by
  refine D.fn.ok scWn (fun vs H Q E h => ?_) (fun cdv A outer s H vs Q E hr h => ?_)
  · obtain ⟨v, as, rfl, _⟩ := h
    rfl
  · obtain ⟨v, as, rfl, dz, l4, l6, q⟩ := h
    refine ⟨_, pss_one (ps_ret (pe_lc2 (own := [("alternative", 1), ("word", 2), ("name", 3)]) (vs1 := [2, 3]) (g := gName 1) (g1 := gTup K 2 (gCons (gName 2) (gCons (gName 3) gNil))) (tt := tYes) (tt1 := tYes) (wi1 := iTup K (tVar 1)) rfl scWn.nd (pi_tup (pv 0))
          (blkOk_by (own := [("alternative", 1), ("word", 2), ("name", 3)]) (N := nWn) (sc := defScope sWn) (by decide +kernel)) (by decide)
          (fun _ _ _ _ _ => pg_name (i := 1) scWn.nd rfl (Or.inl rfl)) (fun _ _ _ _ _ => pts_nil)
          (fun _ _ _ _ _ => pi_tup (pv 1))
          (fun _ _ _ _ _ => pg_tup rfl (pgs_cons (pg_name (i := 2) scWn.nd rfl (Or.inl rfl)) (pgs_cons (pg_name (i := 3) scWn.nd rfl (Or.inl rfl)) pgs_nil))) (fun _ _ _ _ _ => pts_nil)
          (fun _ _ _ _ _ => pv 3))), ?_⟩
    obtain ⟨t, xs, rfl, ht, hd⟩ := dz_tup dz
    have xl := hd.len
    rw [List.length_map] at xl
    refine ⟨_, rfl, t, rfl, ⟨_, ht⟩, fun L nL => ?_⟩
    refine lc_outer (walk_tup (K := K) (a := t) (xs := xs)) (fun i H' => H' L = some (.lst ((wnN (as.take i)).map V.str)) ∧ Same H H') ⟨upd_same, same_new nL⟩ (fun i H' _ ⟨_, s⟩ => (tk_same s).sq ht) ?_ ?_
    · rintro i x _ H2 hi ⟨hL, s2⟩ ⟨rfl, hx⟩
      obtain ⟨a, u, ys, ha, rfl, hu, hy⟩ := dz_alt hd hx
      have yl := hy.len
      rw [List.length_map] at yl
      have a6 := l6 a (List.mem_of_getElem? ha)
      have wl := wn_len (as := as.take i) fun a h => l6 a (List.mem_of_mem_take h)
      rw [List.length_take] at wl
      have e : wnN (as.take (i + 1)) = wnN (as.take i) ++ a.map Prod.snd := by
        unfold wnN
        rw [take_more ha, List.map_append, List.flatten_append]
        simp
      refine ⟨rfl, tyes (iteT ⟨_, rfl, u, rfl, ⟨_, (tk_same s2).sq hu⟩, ?_⟩)⟩
      refine lc_inner (walk_tup (K := K) (a := u) (xs := ys)) (fun j H' => H' L = some (.lst ((wnN (as.take i) ++ (a.take j).map Prod.snd).map V.str)) ∧ Same H H') ⟨by rw [List.take_zero, List.map_nil, List.append_nil]; exact hL, s2⟩ (fun j H' _ ⟨_, h⟩ => (tk_same h).sq hu) ?_ ?_
      · rintro j y _ H4 hj ⟨hL4, s4⟩ ⟨rfl, hy4⟩
        obtain ⟨p, hp, c, rfl, hc⟩ := dz_part hy hy4
        refine ⟨c, _, rfl, (tk_same s4).sq hc, rfl, _, _, rfl, _, _, rfl, rfl, rfl, tyes (iteT ⟨_, rfl, _, hL4, ?_, ?_, ((Bt.of_same (S := []) s4).upd0 nL).same⟩)⟩
        · rw [List.length_map, List.length_append, List.length_map, List.length_take]
          exact small1000 (by omega)
        · rw [upd_same, take_more hp]
          simp
      · rintro H4 ⟨hL4, s4⟩
        rw [yl, List.take_length] at hL4
        rw [e]
        exact ⟨hL4, s4⟩
    · rintro H2 ⟨hL, s2⟩
      rw [xl, List.take_length] at hL
      exact q H2 L s2 nL hL
/-! ### nobody is missed -/
def spCk0 (K : PySem.W.Frag) (CH : Addr) : Sp := fun vs H Q _ => ∃ (o L : Addr) (rows : List (Str × Option Str)) (zs : List Str), vs = [.ref o, .ref L] ∧ HomeAt K CH H o rows ∧ H L = some (.lst (zs.map V.str)) ∧ (∀ z ∈ zs, z ∈ rows.map Prod.fst) ∧ ∀ H', Same H H' → Q .non H'
theorem ok_ck0 {f fP : Addr} {fd fdP : FuncData} {k : Nat} (T : HsF K CH) (D : Df K mg "check_persons" sCkP f fd ["house", "names"])
    (MP : Meth K CH "people" fP) (bP : Binds K fdP ["self"] []) (GP : FnOk P w K mg base CX0 (k + 1) fP fdP ["self"] (spPeo K CH)) : FnOk P w K mg base CX0 (k + 2) f fd ["house", "names"] (spCk0 K CH) := by
  refine D.fn.ok scCkP (fun vs H Q E h => ?_) (fun cdv A outer s H vs Q E hr h => ?_)
  · obtain ⟨o, L, rows, zs, rfl, _⟩ := h
    rfl
  · obtain ⟨o, L, rows, zs, rfl, hh, hL, al, q⟩ := h
    refine ⟨_, pss_cons (ps_set (i := 2) scCkP.nd rfl (.inl rfl) (pe_meth0 (pv 0) T.cl MP GP hr bP .nil pass0))
      (pss_one (ps_for PassesOwn.never rfl (pi_list (pv 1)) (pg_name (i := 3) scCkP.nd rfl (.inl rfl))
        (pss_one (ps_if (pt_cmpR (r := rIn K true) op_notIn_seq (pv 3) (pv 2) (by rfl)) pss_noS pss_nil)))), ?_⟩
    obtain ⟨dx, _, _, _, _, ho⟩ := hh.at
    refine ⟨_, rfl, o, dx, _, rfl, ho, rfl, o, rows, rfl, hh, fun H1 t s1 ht => ?_⟩
    refine ⟨_, rfl, L, rfl, ⟨_, sqL (s1 _ _ hL)⟩, for_list (K := K) (a := L) (xs := zs.map V.str) (fun i σ H' => (∃ y, σ = [some (.ref o), some (.ref L), some (.ref t), y]) ∧ Same H1 H') ⟨⟨none, rfl⟩, Same.refl H1⟩ (fun i σ H' _ h => sqL (h.2 _ _ (s1 _ _ hL))) ?_ ?_⟩
    · rintro i x' σ H2 hx2 ⟨⟨y, rfl⟩, s2⟩
      obtain ⟨z, hz, rfl⟩ : ∃ z, zs[i]? = some z ∧ x' = .str z := by
        rw [List.getElem?_map] at hx2
        cases hc : zs[i]? with
        | none => rw [hc] at hx2; cases hx2
        | some z => rw [hc] at hx2; cases hx2; exact ⟨z, rfl, rfl⟩
      refine ⟨_, rfl, _, rfl, t, _, rfl, .inr ((tk_same s2).sq ht), rfl, flatS _, _, rfl, ?_⟩
      rw [inV_str.mpr (al z (List.mem_of_getElem? hz))]
      exact iteF ⟨⟨_, rfl⟩, s2⟩
    · rintro σ H2 ⟨⟨y, rfl⟩, s2⟩
      exact q H2 (s1.trans s2)
/-! ### who takes -/
def spTks (K : PySem.W.Frag) (CH CY : Addr) : Sp := fun vs H Q _ => ∃ (ho so : Addr) (v : V) (as : List (List Part)) (m : Int) (F : List (Str × Option Str)) (D : List (Str × Int)), vs = [.ref ho, v, .ref so, .int m] ∧ HomeAt K CH H ho F ∧ StoryAt K CY H so D ∧ Dz [] K H v (whomD as) ∧ GoodW F as ∧ -9999 ≤ m ∧ m ≤ 9999 ∧
  ∀ H' t, Same H H' → ToldAt K H' (.ref t) (takN F (fun y => aliveB D y m) as) → ToldN K H' t (takN F (fun y => aliveB D y m) as) → Q (.ref t) H'
theorem wn_mem {F : List (Str × Option Str)} {as : List (List Part)} (h : GoodW F as) : ∀ z ∈ wnN as, z ∈ F.map Prod.fst := by
  intro z hz
  obtain ⟨l, hl, hz⟩ := List.mem_flatten.mp hz
  obtain ⟨a, ha, rfl⟩ := List.mem_map.mp hl
  obtain ⟨p, hp, rfl⟩ := List.mem_map.mp hz
  exact (h.al a ha).nm p hp
theorem tak_drop {F : List (Str × Option Str)} {al : Str → Bool} {as : List (List Part)} {i : Nat} {a : List Part} (h : as[i]? = some a) : takN F al (as.drop i) = if hasB (altN F al a) = true then sumN (altN F al a) else takN F al (as.drop (i + 1)) := by
  obtain ⟨hi, rfl⟩ := List.getElem?_eq_some_iff.mp h
  rw [List.drop_eq_getElem_cons hi]
  rfl
theorem ok_tks {f fW fD fN fK fS fP fM : Addr} {fd fdW fdD fdN fdK fdS fdP fdM : FuncData} {k : Nat} (B : Bi mg) (F : FunD K "takers" "takers" (defArgs sTks) (defBody sTks) (defScope sTks) [.int 0] [] f fd)
    (DW : Df K mg "is_whom" sWhom fW fdW ["thing"]) (GW : FnOk P w K mg base CX0 (k + 4) fW fdW ["thing"] (spData K whomB)) (DD : Df K mg "is_day" sDay fD fdD ["thing"]) (GD : FnOk P w K mg base CX0 (k + 2) fD fdD ["thing"] (spDay K))
    (DN : Df K mg "whom_names" sWn fN fdN ["whom"]) (DK : Df K mg "check_persons" sCkP fK fdK ["house", "names"]) (GK : FnOk P w K mg base CX0 (k + 2) fK fdK ["house", "names"] (spCk0 K CH))
    (DP : Df K mg "parted_equally" sPE fP fdP ["groups"]) (DS : Df K mg "part_takers" sPt fS fdS ["house", "part", "story", "wait"]) (GS : FnOk P w K mg base CX0 (k + 13) fS fdS ["house", "part", "story", "wait"] (spPt K CH CY))
    (DM : Df K mg "summed" sSmd fM fdM ["rows"]) (GM : FnOk P w K mg base CX0 (k + 3) fM fdM ["rows"] (spSmd K)) : FnOk P w K mg base CX0 (k + 14) f fd ["house", "whom", "story", "wait"] (spTks K CH CY) := by
  have GN : FnOk P w K mg base CX0 (k + 1) fN fdN ["whom"] (spWn K) := ok_wn DN
  have GP : FnOk P w K mg base CX0 (k + 1) fP fdP ["groups"] (spPE K) := ok_PE B DP
  refine F.ok scTks (fun vs H Q E h => ?_) (fun cdv A outer s H vs Q E hr h => ?_)
  · obtain ⟨ho, so, v, as, m, Ff, Dd, rfl, _⟩ := h
    rfl
  · obtain ⟨ho, so, v, as, m, Ff, Dd, rfl, hH, hY, dz, gw, m0, m1, q⟩ := h
    have r1 : Room (k + 1) _ := hr.mono (by omega)
    have r2 : Room (k + 2) _ := hr.mono (by omega)
    have r3 : Room (k + 3) _ := hr.mono (by omega)
    have r4 : Room (k + 4) _ := hr.mono (by omega)
    refine ⟨_, pss_cons (ps_if (pt_not (pt_val (pe_call GW r4 (by rfl) DW.mg DW.fn.kp DW.bd .nil pass0 (pa_cons (pv 1) pa_nil)))) pss_noS pss_nil)
      (pss_cons (ps_if (pt_not (pt_val (pe_call GD r2 (by rfl) DD.mg DD.fn.kp DD.bd .nil pass0 (pa_cons (pv 3) pa_nil)))) pss_noS pss_nil)
      (pss_cons (ps_expr (pe_call GK r2 (by rfl) DK.mg DK.fn.kp DK.bd .nil pass0 (pa_cons (pv 0) (pa_cons (pe_call GN r1 (by rfl) DN.mg DN.fn.kp DN.bd .nil pass0 (pa_cons (pv 1) pa_nil)) pa_nil))))
      (pss_cons (ps_for (passes_of rfl) rfl (pi_tup (pv 1)) (pg_name (i := 4) scTks.nd rfl (.inl rfl))
        (pss_cons (ps_set (i := 6) scTks.nd rfl (.inl rfl) (pe_call GP r1 (by rfl) DP.mg DP.fn.kp DP.bd .nil pass0 (pa_cons (pe_lc (own := [("part", 5)]) (g := gName 5) (tt := tYes) rfl scTks.nd (pi_tup (pv 4)) (blkOk_by (own := [("part", 5)]) (N := nTks) (sc := defScope sTks) (by decide +kernel))
            (fun _ _ _ _ _ => pg_name (i := 5) scTks.nd rfl (Or.inl rfl)) (fun _ _ _ _ _ => pts_nil) (fun _ _ _ _ _ => pe_call GS hr (by rfl) DS.mg DS.fn.kp DS.bd .nil pass0 (pa_cons (pv 0) (pa_cons (pv 5) (pa_cons (pv 2) (pa_cons (pv 3) pa_nil)))))) pa_nil)))
        (pss_one (ps_if (pt_cmpR op_gt (pe_callB (r := rLenK K) call_len_seq (by rfl) B.len PySem.boot_len (pa_cons (pv 6) pa_nil)) pe_int (nomark _)) (pss_one (ps_ret (pe_call GM r3 (by rfl) DM.mg DM.fn.kp DM.bd .nil pass0 (pa_cons (pv 6) pa_nil)))) pss_nil))))
      (pss_one (ps_ret (pe_tupN pa_nil)))))), ?_⟩
    have g := hH.good
    obtain ⟨w1, w2⟩ := whom_ok g gw
    refine ⟨_, rfl, [], v, whomD as, rfl, dz, w2, fun H1 s1 => ⟨_, rfl, ?_⟩⟩
    rw [w1]
    refine iteF ⟨_, rfl, [], .int m, .int m, rfl, .int m, _, rfl, ?_⟩
    rw [show dayB (.int m) = true from decide_eq_true ⟨m0, m1⟩]
    refine iteF ⟨_, rfl, _, rfl, v, as, rfl, dz.same s1, gw.l4, fun a ha => (gw.al a ha).l6, fun H2 L s2 nL hL => ?_⟩
    have s12 := s1.trans s2
    refine ⟨ho, L, Ff, wnN as, rfl, hH.same s12, hL, wn_mem gw, fun H3 s3 => ?_⟩
    have s13 := s12.trans s3
    obtain ⟨t, xs, rfl, ht, hd⟩ := dz_tup (dz.same s13)
    have xl := hd.len
    rw [List.length_map] at xl
    have q : ∀ H' t, Same H3 H' → ToldAt K H' (.ref t) (takN Ff (fun y => aliveB Dd y m) as) → ToldN K H' t (takN Ff (fun y => aliveB Dd y m) as) → Q (.ref t) H' := fun H' t s' => q H' t (s13.trans s')
    have hH3 := hH.same s13
    have hY3 := hY.same s13
    refine ⟨_, rfl, t, rfl, ⟨_, ht⟩, for_tup (K := K) (a := t) (xs := xs) (fun i σ H' => (∃ y4 y5 y6 : Option V, σ = [some (.ref ho), some (.ref t), some (.ref so), some (.int m), y4, y5, y6]) ∧ takN Ff (fun y => aliveB Dd y m) as = takN Ff (fun y => aliveB Dd y m) (as.drop i) ∧ Same H3 H') ⟨⟨none, none, none, rfl⟩, rfl, Same.refl H3⟩ (fun i σ H' _ h => (tk_same h.2.2).sq ht) ?_ ?_⟩
    · rintro i x σ H4 hx ⟨⟨y4, y5, y6, rfl⟩, et, s4⟩
      obtain ⟨a, u, ys, ha, rfl, hu, hy⟩ := dz_alt hd hx
      have ga := gw.al a (List.mem_of_getElem? ha)
      obtain ⟨al1, al2⟩ := alt_len (al := fun y => aliveB Dd y m) g ga.l6 ga.nm
      have yl := hy.len
      rw [List.length_map] at yl
      rw [tak_drop ha] at et
      refine ⟨_, rfl, u, rfl, ⟨_, (tk_same s4).sq hu⟩, fun M nM => ?_⟩
      refine lc_tup (K := K) (a := u) (xs := ys) (fun j H' => (∃ zs, H' M = some (.lst zs) ∧ A2 (GrAt K H') zs ((a.take j).map (ptN Ff fun y => aliveB Dd y m)) ∧ ∀ y ∈ zs, y ≠ .ref M) ∧ Same H4 H') ⟨⟨[], upd_same, .nil, (fun y hy => nomatch hy)⟩, same_new nM⟩ (fun j H' _ h => (tk_same (s4.trans h.2)).sq hu) ?_ ?_
      · rintro j y H5 hy5 ⟨⟨zs, hM, hz, hn⟩, s5⟩
        obtain ⟨p, hp, pa⟩ := dz_part hy hy5
        have jl := lt_get hp
        have zl := hz.len
        rw [List.length_map, List.length_take] at zl
        have a6 := ga.l6
        have s45 := s4.trans s5
        refine ⟨rfl, tyes (iteT ⟨_, rfl, _, rfl, _, rfl, _, rfl, ho, so, y, p, m, Ff, Dd, rfl, hH3.same s45, hY3.same s45, pa.tk (tk_same s45), ga.nm p (List.mem_of_getElem? hp), m0, m1, fun H6 p6 s6 n6 g6 => ?_⟩)⟩
        have n7 : p6 ≠ M := (ne_of_none hM n6).symm
        obtain ⟨e1, e2⟩ := grs_snoc hM s6 n7 hn hz g6
        refine ⟨_, s6 _ _ hM, Nat.lt_of_lt_of_le (show zs.length < 1000 by omega) (by decide), ⟨_, upd_same, ?_, e2⟩, ((Bt.of_same (S := []) (s5.trans s6)).upd0 nM).same⟩
        rw [take_more hp, List.map_append]
        exact e1
      · rintro H5 ⟨⟨zs, hM, hz, hn⟩, s5⟩
        rw [yl, List.take_length] at hz
        have a6 := ga.l6
        refine ⟨M, zs, _, rfl, hM, hz, by rw [List.length_map]; omega, al1, fun H6 p6 s6 n6 g6 => ?_⟩
        have g6 : GrAt K H6 (.ref p6) (altN Ff (fun y => aliveB Dd y m) a) := g6
        have gd := alt_good (al := fun y => aliveB Dd y m) g ga.l6
        revert et g6 gd al2
        generalize altN Ff (fun y => aliveB Dd y m) a = rs
        intro et al2 g6 gd
        obtain ⟨b6, ws, e6, hb6, hw6⟩ := g6
        cases e6
        refine ⟨_, rfl, p6, ws, rfl, .inl (sqL hb6), _, 0, rfl, rfl, _, rfl, ?_⟩
        by_cases c : hasB rs = true
        · have c' : 0 < rs.length := by simpa [hasB] using c
          rw [decide_eq_true (show (0 : Int) < (ws.length : Int) by rw [hw6.len]; omega)]
          rw [if_pos c] at et
          rw [et] at q
          exact iteT ⟨_, rfl, .ref p6, rs, rfl, ⟨p6, ws, rfl, hb6, hw6⟩, al2, gd, fun H7 t7 s7 h7 => q H7 t7 (((s4.trans s5).trans s6).trans s7) h7⟩
        · have c' : rs.length = 0 := by simpa [hasB] using c
          rw [decide_eq_false (show ¬ (0 : Int) < (ws.length : Int) by rw [hw6.len]; omega)]
          rw [if_neg c] at et
          exact iteF ⟨⟨_, _, _, rfl⟩, et, (s4.trans s5).trans s6⟩
    · rintro σ H4 ⟨⟨y4, y5, y6, rfl⟩, et, s4⟩
      rw [xl, List.drop_length] at et
      rw [et] at q
      exact ⟨by show 0 ≤ sizeLine; decide, fun p o np nd => q _ p (s4.trans (same_new np)) ⟨p, [], rfl, sqF upd_same, .nil⟩ ⟨o, [], upd_same, nd, .nil⟩⟩
end
end WdQ

set_option Elab.async false
set_option linter.all false
set_option maxRecDepth 100000
set_option maxHeartbeats 4000000
set_option exponentiation.threshold 5000
namespace WdQ
open PySem PySem.Spec PyProof.Rows L2 WdM Wd
abbrev sLow : Stmt := topS 65
abbrev sWhl : Stmt := topS 66
abbrev sDates : Stmt := topS 64
theorem scLow : FnScope ["_law_top", "_law_bottom", "_law_a", "_law_b"] ["_law_top", "_law_bottom"] (defScope sLow) := ⟨rfl, rfl, rfl, by decide +kernel, rfl, by decide +kernel, by decide +kernel⟩
def nWhl : List Str := ["_law_found", "_law_top", "_law_bottom", "_law_one", "_law_part", "_law_under"]
theorem scWhl : FnScope nWhl ["_law_found"] (defScope sWhl) := ⟨rfl, rfl, rfl, by decide +kernel, rfl, by decide +kernel, by decide +kernel⟩
theorem scDates : FnScope ["_law_pool_here", "_law_turn"] ["_law_pool_here"] (defScope sDates) := ⟨rfl, rfl, rfl, by decide +kernel, rfl, by decide +kernel, by decide +kernel⟩
/-! ### lowest terms; all shares together -/
section
variable {P : Program} {w : World} {K : PySem.W.Frag} {mg : Str → Option Value} {base : Heap}
def spLow : Sp := fun vs H Q _ => ∃ t b : Nat, vs = [.int (t : Nat), .int (b : Nat)] ∧ 0 < b ∧ b < 2 ^ 200 ∧ ∀ p, H p = none → Q (.ref p) (upd H p (.tup [.int ((lowN t b).1 : Nat), .int ((lowN t b).2 : Nat)]))
theorem ok_low {f : Addr} {fd : FuncData} {k : Nat} (D : Df K mg "_law_low" sLow f fd ["_law_top", "_law_bottom"]) : FnOk P w K mg base CX0 (k + 1) f fd ["_law_top", "_law_bottom"] spLow := by
  refine D.fn.ok scLow (fun vs H Q E h => ?_) (fun cdv A outer s H vs Q E hr h => ?_)
  · obtain ⟨t, b, rfl, _⟩ := h
    rfl
  · obtain ⟨t, b, rfl, b0, b2, q⟩ := h
    refine ⟨_, pss_cons (ps_par (i := 2) (j := 3) rfl scLow.nd rfl rfl (by decide) rfl rfl (pa_cons (pv 0) (pa_cons (pv 1) pa_nil)) (by rfl))
      (pss_cons (ps_while PassesOwn.never (pt_cmpR op_gt (pv 3) pe_int (nomark _))
        (pss_one (ps_par (i := 2) (j := 3) rfl scLow.nd rfl rfl (by decide) rfl rfl (pa_cons (pv 3) (pa_cons (pe_op op_mod (pv 2) (pv 3)) pa_nil)) (by rfl))))
      (pss_one (ps_ret (pe_tup (pa_cons (pe_op op_fdivW (pv 0) (pv 2)) (pa_cons (pe_op op_fdivW (pv 1) (pv 2)) pa_nil)))))), ?_⟩
    refine ⟨_, rfl, _, rfl, _, _, rfl, ?_⟩
    refine while_by (fun σ H' => ∃ x y : Nat, σ = [some (.int (t : Nat)), some (.int (b : Nat)), some (.int (x : Nat)), some (.int (y : Nat))] ∧ Nat.gcd x y = Nat.gcd t b ∧ H' = H)
      (fun σ _ => match σ with | [_, _, _, some (.int y)] => y.toNat | _ => 0) ⟨t, b, rfl, rfl, rfl⟩ ?_ ?_
    · rintro σ H' ⟨x, y, rfl, hg, rfl⟩
      refine ⟨_, rfl, _, 0, rfl, rfl, _, rfl, ?_⟩
      by_cases hz : y = 0
      · subst hz
        rw [Nat.gcd_zero_right] at hg
        refine iteF ?_
        have g0 : 0 < Nat.gcd t b := Nat.gcd_pos_of_pos_right _ b0
        have g1 : Nat.gcd t b < 2 ^ 9000 := Nat.lt_of_le_of_lt (Nat.gcd_le_right _ b0) (Nat.lt_trans b2 (Nat.pow_lt_pow_right (by decide) (by decide)))
        rw [← hg] at g0 g1
        refine ⟨_, rfl, _, rfl, _, _, rfl, rfl, ⟨by omega, log_lt g0 g1⟩, _, rfl, _, rfl, _, _, rfl, rfl, ⟨by omega, log_lt g0 g1⟩, by show 2 ≤ sizeLine; decide, fun p np => ?_⟩
        have q := q p np
        unfold lowN at q
        rw [Int.natCast_ediv, Int.natCast_ediv, ← hg] at q
        exact q
      · rw [decide_eq_true (show (0 : Int) < (y : Nat) by omega)]
        refine iteT ?_
        have hy' : (0 : Int) < (y : Nat) := by omega
        refine ⟨_, rfl, _, rfl, _, rfl, (x : Nat), (y : Nat), rfl, rfl, hy', _, _, rfl, ⟨y, x % y, rfl, ?_, rfl⟩, ?_⟩
        · rw [gcd_nat, hg]
        · show ((x : Int) % (y : Int)).toNat < ((y : Nat) : Int).toNat
          rw [← Int.natCast_emod]
          have := Nat.mod_lt x (show y > 0 by omega)
          show x % y < y
          exact this
    · rintro σ H1 Q1 Q2 hq ⟨v, e, s, k, ek, e2, b, eb, z⟩
      exact ⟨v, e, s, k, ek, e2, b, eb, hq _ _ z⟩
/-! ### all shares together -/
def tFit : List (Str × Fr) → Prop := fun ts => ∃ f : Str → Nat, (∀ t ∈ ts, Vl LB t.2 (f t.1)) ∧ ((ts.map Prod.fst).map f).sum ≤ LB
theorem lb_pos : 0 < LB := by unfold LB; decide
theorem lb_lt : LB < 2 ^ 100 := by unfold LB; decide +kernel
theorem fit_take {ts : List (Str × Fr)} {f : Str → Nat} (h : ((ts.map Prod.fst).map f).sum ≤ LB) (i : Nat) : (((ts.take i).map Prod.fst).map f).sum ≤ LB := by
  have e : ts = ts.take i ++ ts.drop i := (List.take_append_drop i ts).symm
  rw [e, List.map_append, List.map_append, List.sum_append] at h
  omega
theorem fit_mem {ts : List (Str × Fr)} {f : Str → Nat} (h : ((ts.map Prod.fst).map f).sum ≤ LB) : ∀ t ∈ ts, f t.1 ≤ LB := by
  induction ts with
  | nil => intro t ht; cases ht
  | cons t ts ih =>
    rw [List.map_cons, List.map_cons, List.sum_cons] at h
    intro t' ht'
    rcases List.mem_cons.mp ht' with rfl | h'
    · omega
    · exact ih (by omega) t' h'
theorem small_fr {s : Fr} {W : Nat} (h : Vl LB s W) (w : W ≤ LB) : s.1 < 2 ^ 100 ∧ s.2 < 2 ^ 100 := by
  have h1 := Nat.le_of_dvd lb_pos h.dvd
  have h2 := h.le lb_pos w
  have h3 := lb_lt
  omega
theorem mulw {a b : Nat} (ha : a < 2 ^ 100) (hb : b < 2 ^ 100) : CMulW (a : Nat) (b : Nat) := wide_mul (a := 100) (b := 100) (by rw [Int.natAbs_natCast]; exact ha) (by rw [Int.natAbs_natCast]; exact hb) (by decide) (by decide) (by decide)
def spWhl (K : PySem.W.Frag) : Sp := fun vs H Q _ => ∃ (v : V) (ts : List (Str × Fr)), vs = [v] ∧ ToldAt K H v ts ∧ tFit ts ∧ ∀ H' p, Same H H' → SqT K H' p [.int ((wholeN ts).1 : Nat), .int ((wholeN ts).2 : Nat)] → Q (.ref p) H'
theorem ok_whl {f fL : Addr} {fd fdL : FuncData} {k : Nat} (D : Df K mg "_law_whole" sWhl f fd ["_law_found"]) (DL : Df K mg "_law_low" sLow fL fdL ["_law_top", "_law_bottom"]) : FnOk P w K mg base CX0 (k + 2) f fd ["_law_found"] (spWhl K) := by
  have GL : FnOk P w K mg base CX0 (k + 1) fL fdL ["_law_top", "_law_bottom"] spLow := ok_low DL
  refine D.fn.ok scWhl (fun vs H Q E h => ?_) (fun cdv A outer s H vs Q E hr h => ?_)
  · obtain ⟨v, ts, rfl, _⟩ := h
    rfl
  · obtain ⟨v, ts, rfl, ⟨t, xs, rfl, ht, hx⟩, ⟨fv, hv, hs⟩, q⟩ := h
    refine ⟨_, pss_cons (ps_asg (pe_tup (pa_cons pe_int (pa_cons pe_int pa_nil))) (pg_tup rfl (pgs_cons (pg_name (i := 1) scWhl.nd rfl (.inl rfl)) (pgs_cons (pg_name (i := 2) scWhl.nd rfl (.inl rfl)) pgs_nil))))
      (pss_cons (ps_for PassesOwn.never rfl (pi_tup (pv 0)) (pg_tup rfl (pgs_cons (pg_name (i := 3) scWhl.nd rfl (.inl rfl)) (pgs_cons (pg_tup rfl (pgs_cons (pg_name (i := 4) scWhl.nd rfl (.inl rfl)) (pgs_cons (pg_name (i := 5) scWhl.nd rfl (.inl rfl)) pgs_nil))) pgs_nil)))
        (pss_one (ps_asg (pe_call GL hr (by rfl) DL.mg DL.fn.kp DL.bd .nil pass0 (pa_cons (pe_op op_add (pe_op op_mulW (pv 1) (pv 5)) (pe_op op_mulW (pv 4) (pv 2))) (pa_cons (pe_op op_mulW (pv 2) (pv 5)) pa_nil)))
          (pg_tup rfl (pgs_cons (pg_name (i := 1) scWhl.nd rfl (.inl rfl)) (pgs_cons (pg_name (i := 2) scWhl.nd rfl (.inl rfl)) pgs_nil))))))
      (pss_one (ps_ret (pe_tup (pa_cons (pv 1) (pa_cons (pv 2) pa_nil)))))), ?_⟩
    refine ⟨by show 2 ≤ sizeLine; decide, fun p0 n0 => ⟨p0, _, rfl, sqT upd_same, rfl, _, _, rfl, _, _, rfl, rfl, ?_⟩⟩
    have t0 : SqT K (upd H p0 (.tup [.int 0, .int 1])) t xs := (tk_new n0).sq ht
    refine ⟨_, rfl, t, rfl, ⟨_, t0⟩, for_tup (K := K) (a := t) (xs := xs) (fun i σ H' => (∃ y3 y4 y5 : Option V, σ = [some (.ref t), some (.int ((wholeN (ts.take i)).1 : Nat)), some (.int ((wholeN (ts.take i)).2 : Nat)), y3, y4, y5]) ∧ Same H H') ⟨⟨none, none, none, rfl⟩, same_new n0⟩ (fun i σ H' _ h => (tk_same h.2).sq ht) ?_ ?_⟩
    · rintro i x σ H1 hx1 ⟨⟨y3, y4, y5, rfl⟩, s1⟩
      obtain ⟨r, hr1, c, b, rfl, hc, hb⟩ := hx.get hx1
      have rm := List.mem_of_getElem? hr1
      have v1 := hv r rm
      have v0 := whole_val (ts.take i) fun t' h' => hv t' (List.mem_of_mem_take h')
      obtain ⟨a1, a2⟩ := small_fr v1 (fit_mem hs r rm)
      obtain ⟨b1, b2⟩ := small_fr v0 (fit_take hs i)
      have e : wholeN (ts.take (i + 1)) = lowN ((wholeN (ts.take i)).1 * r.2.2 + r.2.1 * (wholeN (ts.take i)).2) ((wholeN (ts.take i)).2 * r.2.2) := by
        rw [take_more hr1]
        unfold wholeN
        rw [List.foldl_append]
        rfl
      rw [e]
      have bp := v0.p
      revert b1 b2 bp
      generalize wholeN (ts.take i) = sh
      intro b1 b2 bp
      refine ⟨c, _, rfl, (tk_same s1).sq hc, rfl, _, _, rfl, _, _, rfl, b, _, rfl, (tk_same s1).sq hb, rfl, _, _, rfl, _, _, rfl, rfl, rfl, ?_⟩
      refine ⟨_, rfl, _, rfl, _, _, rfl, rfl, mulw b1 a2, _, rfl, _, rfl, _, _, rfl, rfl, mulw a1 b2, _, _, rfl, rfl, _, rfl, _, rfl, _, _, rfl, rfl, mulw b2 a2, ?_⟩
      have e1 : ((sh.1 : Nat) : Int) * (r.2.2 : Nat) + ((r.2.1 : Nat) : Int) * (sh.2 : Nat) = ((sh.1 * r.2.2 + r.2.1 * sh.2 : Nat) : Int) := by rw [Int.natCast_add, Int.natCast_mul, Int.natCast_mul]
      have e2 : ((sh.2 : Nat) : Int) * (r.2.2 : Nat) = ((sh.2 * r.2.2 : Nat) : Int) := by rw [Int.natCast_mul]
      have b3 : sh.2 * r.2.2 < 2 ^ 200 := Nat.lt_of_le_of_lt (Nat.mul_le_mul_left _ (Nat.le_of_lt a2)) (by
        have := Nat.mul_lt_mul_of_pos_right b2 (show 0 < 2 ^ 100 by decide)
        exact Nat.lt_of_lt_of_le this (by decide))
      refine ⟨sh.1 * r.2.2 + r.2.1 * sh.2, sh.2 * r.2.2, (by rw [← e1, ← e2]; rfl), Nat.mul_pos bp v1.p, b3, fun p np => ?_⟩
      exact ⟨p, _, rfl, sqT upd_same, rfl, _, _, rfl, _, _, rfl, rfl, ⟨_, _, _, rfl⟩, s1.trans (same_new np)⟩
    · rintro σ H1 ⟨⟨y3, y4, y5, rfl⟩, s1⟩
      rw [hx.len, List.take_length]
      exact ⟨_, rfl, _, rfl, by show 2 ≤ sizeLine; decide, fun p np => q _ p (s1.trans (same_new np)) (sqT upd_same)⟩
end
end WdQ

set_option Elab.async false
set_option linter.all false
set_option maxRecDepth 100000
set_option maxHeartbeats 4000000
set_option exponentiation.threshold 5000
namespace WdQ
open PySem PySem.Spec PyProof.Rows L2 WdM Wd
abbrev sPool : Stmt := topS 58
abbrev sTake : Stmt := topS 59
theorem scPool : FnScope ["_law_script", "_law_k", "_law_cell", "_law_mix", "_law_found", "_law_turn"] ["_law_script", "_law_k"] (defScope sPool) := ⟨rfl, rfl, rfl, by decide +kernel, rfl, by decide +kernel, by decide +kernel⟩
theorem scTake : FnScope ["_law_pool_here", "_law_many", "_law_digit"] ["_law_pool_here", "_law_many"] (defScope sTake) := ⟨rfl, rfl, rfl, by decide +kernel, rfl, by decide +kernel, by decide +kernel⟩
def PoolAt (H : Hp) (l : Addr) : Prop := ∃ n : Int, H l = some (.lst [.int n]) ∧ 0 ≤ n ∧ n.natAbs < 2 ^ 1300
theorem PoolAt.lst {H : Hp} {l : Addr} (h : PoolAt H l) : ∀ a ∈ [l], ∃ zs, H a = some (.lst zs) := fun a ha => by
  obtain ⟨n, e, _⟩ := h
  rw [List.mem_singleton.mp ha]
  exact ⟨_, e⟩
theorem PoolAt.same {H H' : Hp} {l : Addr} (h : PoolAt H l) (e : Same H H') : PoolAt H' l := by
  obtain ⟨n, a, b⟩ := h
  exact ⟨n, e _ _ a, b⟩
theorem PoolAt.ne {H : Hp} {l p : Addr} (h : PoolAt H l) (e : H p = none) : l ≠ p := by
  obtain ⟨n, a, b⟩ := h
  exact ne_of_none a e
theorem PoolAt.upd {H : Hp} {l p : Addr} {o : HO} (h : PoolAt H l) (e : l ≠ p) : PoolAt (upd H p o) l := by
  obtain ⟨n, a, b⟩ := h
  exact ⟨n, by rw [upd_ne e]; exact a, b⟩
theorem kept {S : List Addr} {H H' : Hp} {b : Addr} {o : HO} (e : Bt S H H') (h : H b = some o) (n : b ∉ S) : H' b = some o := e b o n h
theorem lst_ne {H : Hp} {l p : Addr} {ws : List V} (h : PoolAt H l) (e : H p = some (.lst ws)) (n : ws.length ≠ 1) : p ≠ l := fun z => by
  obtain ⟨m, q, _⟩ := h
  rw [← z, e] at q
  exact n (congrArg (fun o : Option HO => match o with | some (.lst xs) => xs.length | _ => 0) q)
theorem PoolAt.bt {H H' : Hp} {p l : Addr} (h : PoolAt H p) (b : Bt [l] H H') (n : p ≠ l) : PoolAt H' p := by
  obtain ⟨m, q, r⟩ := h
  exact ⟨m, b _ _ (by simp [n]) q, r⟩
section
variable {P : Program} {w : World} {K : PySem.W.Frag} {mg : Str → Option Value} {base : Heap}
def spTake : Sp := fun vs H Q _ => ∃ (l : Addr) (m : Int), vs = [.ref l, .int m] ∧ PoolAt H l ∧ 0 < m ∧ ∀ H' d, Bt [l] H H' → PoolAt H' l → 0 ≤ d → d < m → Q (.int d) H'
theorem ok_take {f : Addr} {fd : FuncData} {k : Nat} (B : Bi mg) (D : Df K mg "_law_take" sTake f fd ["_law_pool_here", "_law_many"]) : FnOk P w K mg base CX0 (k + 1) f fd ["_law_pool_here", "_law_many"] spTake := by
  refine D.fn.ok scTake (fun vs H Q E h => ?_) (fun cdv A outer s H vs Q E hr h => ?_)
  · obtain ⟨l, m, rfl, _⟩ := h
    rfl
  · obtain ⟨l, m, rfl, ⟨n, hl, n0, nB⟩, m0, q⟩ := h
    refine ⟨_, pss_cons (ps_asg (pe_callB call_divmodW (by rfl) B.divmod (by decide +kernel) (pa_cons (pe_ix (r := rIxL K) ix_list (pv 0) pe_int (fun _ _ => rfl)) (pa_cons (pv 1) pa_nil)))
        (pg_tup rfl (pgs_cons (pg_sub (pv 0) pe_int set_list) (pgs_cons (pg_name (i := 2) scTake.nd rfl (.inl rfl)) pgs_nil))))
      (pss_one (ps_ret (pv 2))), ?_⟩
    refine ⟨_, rfl, l, _, 0, .int n, rfl, rfl, sqL hl, atI_nat (j := 0) rfl, _, rfl, n, m, rfl, divp_ok m0 ?_, fun p hp => ?_⟩
    · have := PyProof.Rows.intBits_le nB
      omega
    · have nlp : l ≠ p := ne_of_none hl hp
      have hl2 : (upd H p (.tup [.int (n / m), .int (n % m)])) l = some (.lst [.int n]) := by rw [upd_ne nlp]; exact hl
      refine ⟨p, _, rfl, sqT upd_same, rfl, _, _, rfl, _, rfl, l, _, 0, 0, rfl, rfl, hl2, ixN_nat (n := 1) (i := 0) (by decide), _, _, rfl, rfl, ?_⟩
      refine ⟨_, rfl, q _ _ (((Bt.refl H).new hp).upd1 (by simp)) ⟨n / m, upd_same, Int.ediv_nonneg n0 (Int.le_of_lt m0), ?_⟩ (Int.emod_nonneg n (by omega)) (Int.emod_lt_of_pos n m0)⟩
      exact wide_le (Int.ediv_nonneg n0 (Int.le_of_lt m0)) (Int.ediv_le_self _ n0) nB
def spPool (K : PySem.W.Frag) : Sp := fun vs H Q _ => ∃ (a : Addr) (ns : List Int) (i : Int), vs = [.ref a, .int i] ∧ SqL K H a (ns.map V.int) ∧ 0 ≤ i ∧ i < 64 ∧ ∀ H' l, Same H H' → H l = none → PoolAt H' l → Q (.ref l) H'
theorem found_step {f x : Int} {m : Nat} (h0 : 0 ≤ f) (h1 : f.natAbs < 2 ^ m) (h2 : 0 ≤ x) (h3 : x < 99999999977) : 0 ≤ f * 100000000000 + x ∧ (f * 100000000000 + x).natAbs < 2 ^ (m + 37) := by
  rw [Nat.pow_add]
  generalize 2 ^ m = B at *
  rw [show (2 : Nat) ^ 37 = 137438953472 by decide]
  omega
theorem cut_ints (ns : List Int) (lo hi : Option Int) : ∃ ms : List Int, cutV (ns.map V.int) lo hi = ms.map V.int := by
  unfold cutV
  exact ⟨(ns.drop _).take _, by rw [List.map_take, List.map_drop]⟩
theorem ok_pool {f : Addr} {fd : FuncData} {k : Nat} (B : Bi mg) (D : Df K mg "_law_pool" sPool f fd ["_law_script", "_law_k"]) : FnOk P w K mg base CX0 (k + 1) f fd ["_law_script", "_law_k"] (spPool K) := by
  refine D.fn.ok scPool (fun vs H Q E h => ?_) (fun cdv A outer s H vs Q E hr h => ?_)
  · obtain ⟨l, m, i, rfl, _⟩ := h
    rfl
  · obtain ⟨a, ns, i, rfl, hs, i0, i1, q⟩ := h
    refine ⟨_, pss_cons (ps_set (i := 2) scPool.nd rfl (.inl rfl) (pe_callB (cr_sum rfl) (by rfl) B.sum (by decide +kernel) (pa_cons (pe_slice sl_list (pv 0) (po_some (pv 1)) (po_some (pe_op op_add (pv 1) pe_int))) pa_nil)))
      (pss_cons (ps_if (PW.pt (pw_or (pt_cmpR op_lt (pv 2) pe_int (nomark _)) (pw_or1 (pt_cmpR op_ge (pv 2) (pe_op op_pow pe_int pe_int) (nomark _)))))
        (pss_one (ps_ret (pe_lst (pa_cons (pe_op op_mod (pe_callB call_abs (by rfl) B.abs (by decide +kernel) (pa_cons (pv 2) pa_nil))
          (pe_op op_mulW (pe_op op_mulW (pe_op op_mulW (pe_op op_mulW (pe_op op_mulW (pe_op op_pow pe_int pe_int) (pe_op op_pow pe_int pe_int)) (pe_op op_pow pe_int pe_int)) (pe_op op_pow pe_int pe_int)) (pe_op op_pow pe_int pe_int)) (pe_op op_pow pe_int pe_int))) pa_nil)))) pss_nil)
      (pss_cons (ps_set (i := 3) scPool.nd rfl (.inl rfl) (pe_op op_add (pe_op op_add (pe_op op_mul (pv 2) pe_int) (pe_op op_mul (pe_op op_mul pe_int (pv 1)) (pv 1))) pe_int))
      (pss_cons (ps_set (i := 4) scPool.nd rfl (.inl rfl) pe_int)
      (pss_cons (ps_for PassesOwn.never rfl (pi_range1 (by rfl) B.range (pa_cons pe_int pa_nil)) (pg_name (i := 5) scPool.nd rfl (.inl rfl))
        (pss_cons (ps_set (i := 3) scPool.nd rfl (.inl rfl) (pe_op op_mod (pe_op op_add (pe_op op_add (pe_op op_mul (pe_op op_mod (pv 3) pe_int) pe_int) (pe_op op_mul pe_int (pv 5))) pe_int) pe_int))
        (pss_one (ps_set (i := 4) scPool.nd rfl (.inl rfl) (pe_op op_add (pe_op op_mulW (pv 4) (pe_op op_pow pe_int pe_int)) (pe_op op_mod (pe_op op_mul (pv 3) (pe_op op_add (pe_op op_mod (pv 3) pe_int) pe_int)) pe_int))))))
      (pss_one (ps_ret (pe_lst (pa_cons (pv 4) pa_nil)))))))), ?_⟩
    refine ⟨_, rfl, _, rfl, i, rfl, _, rfl, i, 1, rfl, rfl, i + 1, rfl, a, _, rfl, hs, fun p hp => ?_⟩
    obtain ⟨ms, em⟩ := cut_ints ns (some i) (some (i + 1))
    have sm : Same H (upd H p (.lst (cutV (ns.map V.int) (some i) (some (i + 1))))) := same_new hp
    refine ⟨p, ms, rfl, sqL (by rw [upd_same, em]), ?_⟩
    generalize ms.sum = c
    revert sm
    generalize upd H p (.lst (cutV (ns.map V.int) (some i) (some (i + 1)))) = H1
    intro sm
    refine ⟨_, rfl, c, 0, rfl, rfl, _, rfl, ?_⟩
    have huge : ∀ (Q2 : V → Hp → Prop), (∀ l n, H1 l = none → 0 ≤ n → n.natAbs < 2 ^ 1300 → Q2 (.ref l) (upd H1 l (.lst [.int n]))) →
        tLst (tCons (tOp (rI (fun _ j => 0 < j) fun i j => .int (i % j)) (tCB (fun xs H Q => ∃ i, xs = [.int i] ∧ Q (.int (if i < 0 then -i else i)) H) (tCons (tVar 2) tNil))
          (tOp (rI CMulW fun i j => .int (i * j)) (tOp (rI CMulW fun i j => .int (i * j)) (tOp (rI CMulW fun i j => .int (i * j)) (tOp (rI CMulW fun i j => .int (i * j)) (tOp (rI CMulW fun i j => .int (i * j)) (tOp (rI CPow fun i j => .int (i ^ j.toNat)) (tC (.int 10)) (tC (.int 64))) (tOp (rI CPow fun i j => .int (i ^ j.toNat)) (tC (.int 10)) (tC (.int 64)))) (tOp (rI CPow fun i j => .int (i ^ j.toNat)) (tC (.int 10)) (tC (.int 64)))) (tOp (rI CPow fun i j => .int (i ^ j.toNat)) (tC (.int 10)) (tC (.int 64)))) (tOp (rI CPow fun i j => .int (i ^ j.toNat)) (tC (.int 10)) (tC (.int 64)))) (tOp (rI CPow fun i j => .int (i ^ j.toNat)) (tC (.int 10)) (tC (.int 64))))) tNil)
          [some (.ref a), some (.int i), some (.int c), none, none, none] H1 Q2 := fun Q2 h => by
      have cp : CPow 10 64 := ⟨by decide, by decide, by decide⟩
      have t0 : ((10 : Int) ^ (64 : Int).toNat).natAbs < 2 ^ 213 := by decide
      have b0 : (0 : Int) < (10 : Int) ^ (64 : Int).toNat := by decide
      generalize he : (10 : Int) ^ (64 : Int).toNat = t at t0 b0
      have t1 := wide_lt t0 t0
      have t2 := wide_lt t1 t0
      have t3 := wide_lt t2 t0
      have t4 := wide_lt t3 t0
      have t5 := wide_lt t4 t0
      have b5 : 0 < t * t * t * t * t * t := Int.mul_pos (Int.mul_pos (Int.mul_pos (Int.mul_pos (Int.mul_pos b0 b0) b0) b0) b0) b0
      have hv := congrArg V.int he
      refine ⟨_, rfl, c, rfl, 10, 64, rfl, rfl, cp, 10, 64, rfl, rfl, cp, t, t, hv, hv, wide_mul t0 t0 (by decide) (by decide) (by decide), 10, 64, rfl, rfl, cp,
        t * t, t, rfl, hv, wide_mul t1 t0 (by decide) (by decide) (by decide), 10, 64, rfl, rfl, cp, t * t * t, t, rfl, hv, wide_mul t2 t0 (by decide) (by decide) (by decide), 10, 64, rfl, rfl, cp,
        t * t * t * t, t, rfl, hv, wide_mul t3 t0 (by decide) (by decide) (by decide), 10, 64, rfl, rfl, cp, t * t * t * t * t, t, rfl, hv, wide_mul t4 t0 (by decide) (by decide) (by decide),
        _, _, rfl, rfl, b5, by show 1 ≤ sizeLine; decide, fun l hl => h l _ hl (Int.emod_nonneg _ (by omega)) ?_⟩
      have := Int.emod_lt_of_pos (if c < 0 then -c else c) b5
      exact Nat.lt_of_lt_of_le (wide_le (Int.emod_nonneg _ (by omega)) (Int.le_of_lt this) t5) (pow_le (by decide))
    have fin : ∀ l n, H1 l = none → 0 ≤ n → n.natAbs < 2 ^ 1300 → Q (.ref l) (upd H1 l (.lst [.int n])) := fun l n hl h0 hB => q _ l (sm.trans (same_new hl)) (sm.free hl) ⟨n, upd_same, h0, hB⟩
    by_cases hneg : c < 0
    · rw [decide_eq_true hneg]
      exact iteT (iteT (huge Q fin))
    · rw [decide_eq_false hneg]
      refine iteF ⟨_, rfl, 10, 18, rfl, rfl, ⟨by decide, by decide, by decide⟩, c, _, rfl, rfl, _, rfl, ?_⟩
      by_cases hbig : (10 : Int) ^ (18 : Int).toNat ≤ c
      · rw [decide_eq_true hbig]
        exact iteT (huge Q fin)
      · rw [decide_eq_false hbig]
        have hc : c < 1000000000000000000 := by
          have : (10 : Int) ^ (18 : Int).toNat = 1000000000000000000 := by decide
          omega
        refine iteF ?_
        refine ⟨_, rfl, c, 48271, rfl, rfl, .inr ⟨by decide, by decide⟩, _, rfl, 977, i, rfl, rfl, .inl ⟨by decide, by decide⟩, _, rfl, _, i, rfl, rfl, .inr ⟨by omega, by omega⟩, _, _, rfl, rfl, _, 13, rfl, rfl, ?_⟩
        have m0 : 0 ≤ c * 48271 + 977 * i * i + 13 := by
          have := Int.mul_nonneg (show 0 ≤ 977 * i by omega) i0
          omega
        refine ⟨27, rfl, by decide, by decide, for_range (lo := 0) (n := 27) (fun j σ H' => ∃ (mm ff : Int) (y : Option V), σ = [some (.ref a), some (.int i), some (.int c), some (.int mm), some (.int ff), y] ∧ 0 ≤ mm ∧ 0 ≤ ff ∧ ff.natAbs < 2 ^ (37 * j) ∧ H' = H1)
          ⟨_, 0, none, rfl, m0, Int.le_refl 0, by decide, rfl⟩ ?_ ?_⟩
        · rintro j σ H' hj ⟨mm, ff, y, rfl, g1, g2, g3, rfl⟩
          have r0 := Int.emod_nonneg mm (show (999999999989 : Int) ≠ 0 by decide)
          have r1 := Int.emod_lt_of_pos mm (show (0 : Int) < 999999999989 by decide)
          refine ⟨_, rfl, mm, 999999999989, rfl, rfl, by show (0 : Int) < 999999999989; decide, _, 69621, rfl, rfl, .inr ⟨by decide, by decide⟩, _, rfl, 40503, _, rfl, rfl, .inl ⟨by decide, by decide⟩, _, _, rfl, rfl, _, 271, rfl, rfl, _, 999999999989, rfl, rfl, by show (0 : Int) < 999999999989; decide, ?_⟩
          have s0 := Int.emod_nonneg (mm % 999999999989 * 69621 + 40503 * (0 + (j : Int)) + 271) (show (999999999989 : Int) ≠ 0 by decide)
          have s1 := Int.emod_lt_of_pos (mm % 999999999989 * 69621 + 40503 * (0 + (j : Int)) + 271) (show (0 : Int) < 999999999989 by decide)
          have fB : ff.natAbs < 2 ^ 1000 := Nat.lt_of_lt_of_le g3 (pow_le (by omega))
          refine ⟨_, rfl, 10, 11, rfl, rfl, ⟨by decide, by decide, by decide⟩, ff, _, rfl, rfl, wide_mul fB (show ((10 : Int) ^ (11 : Int).toNat).natAbs < 2 ^ 64 by decide) (by decide) (by decide) (by decide), _, rfl, _, rfl, _, 65537, rfl, rfl, by show (0 : Int) < 65537; decide, _, 3, rfl, rfl, _, _, rfl, rfl, .inl ⟨Int.lt_of_lt_of_le (by decide) s0, Int.lt_trans s1 (by decide)⟩, _, 99999999977, rfl, rfl, by show (0 : Int) < 99999999977; decide, _, _, rfl, rfl, ?_⟩
          refine ⟨_, _, _, rfl, s0, ?_, ?_, rfl⟩
          · exact (found_step g2 g3 (Int.emod_nonneg _ (by decide)) (Int.emod_lt_of_pos _ (by decide))).1
          · exact (found_step g2 g3 (Int.emod_nonneg _ (by decide)) (Int.emod_lt_of_pos _ (by decide))).2
        · rintro σ H' ⟨mm, ff, y, rfl, g1, g2, g3, rfl⟩
          exact ⟨_, rfl, by show 1 ≤ sizeLine; decide, fun l hl => fin l ff hl g2 (Nat.lt_of_lt_of_le g3 (pow_le (by decide)))⟩
end
end WdQ

set_option Elab.async false
set_option linter.all false
set_option maxRecDepth 100000
set_option maxHeartbeats 4000000
set_option exponentiation.threshold 5000
namespace WdQ
open PySem PySem.Spec PyProof.Rows L2 WdM Wd
abbrev sWords : Stmt := topS 60
def nWords : List Str := ["_law_pool_here", "_law_many", "_law_own", "_law_letters", "_law_found", "_law_turn", "_law_word", "_law_place", "_law_letter", "_law_some", "_law_odd", "_law_one"]
theorem scWords : FnScope nWords ["_law_pool_here", "_law_many"] (defScope sWords) := ⟨rfl, rfl, rfl, by decide +kernel, rfl, by decide +kernel, by decide +kernel⟩
def ownS : List Str := ["give", "pay", "rest", "wait", "ranks", "sums", "names", "kinds", "person", "thing", "none", "deal"]
def ownW : List V := ownS.map V.str
theorem own_wd : ∀ z ∈ ownS, wdB 6 z := by
  have : ∀ z ∈ ownS, z.cps.toList.all letB = true ∧ 1 ≤ z.length ∧ z.length ≤ 6 := by decide +kernel
  exact fun z hz => ⟨fun c hc => List.all_eq_true.mp (this z hz).1 c hc, (this z hz).2⟩
def tWsN (ws : List V) : TE := fun σ H Q => ∀ p H', Same H H' → H p = none → H' p = some (.lst ws) → Q (.ref p) H'
/-- one word is drawn -/
def tIfW : TS := fun D σ H => ∃ (l : Addr) (y1 y2 y4 y5 y9 y10 : Option V) (z : Str), σ = [some (.ref l), y1, y2, some (.str lettersS), y4, y5, some (.str z), none, none, y9, y10, none] ∧ PoolAt H l ∧ wdB 6 z ∧ ∀ H' z', Bt [l] H H' → PoolAt H' l → wdB 6 z' → D.nx [some (.ref l), y1, y2, some (.str lettersS), y4, y5, some (.str z'), none, none, y9, y10, none] H'
theorem at_letters {d : Int} (d0 : 0 ≤ d) (d1 : d < 26) : ∃ c, atI lettersS.cps.toList d = some c ∧ letB c = true := by
  obtain ⟨n, rfl⟩ := Int.eq_ofNat_of_zero_le d0
  have hn : n < lettersS.cps.toList.length := by
    show n < 26
    omega
  exact ⟨_, atI_nat (List.getElem?_eq_getElem hn), decide_eq_true (List.getElem_mem hn)⟩
theorem ones_sum : ∀ cs : List Nat, ((cs.map fun c => (⟨#[c]⟩ : Str)).map (·.length)).sum = cs.length
  | [] => rfl
  | c :: cs => by
    rw [List.map_cons, List.map_cons, List.sum_cons, ones_sum cs, List.length_cons]
    show 1 + _ = _
    omega
theorem flat_strs (zs : List Str) : (zs.map V.str).all flatV = true := by
  rw [List.all_map, List.all_eq_true]
  exact fun _ _ => rfl
theorem joinL_one : ∀ cs : List Nat, TL.joinL [] (cs.map fun c => [c]) = cs
  | [] => rfl
  | [_] => rfl
  | c :: d :: cs => by
    have := joinL_one (d :: cs)
    show [c] ++ ([] ++ TL.joinL [] ((d :: cs).map fun c => [c])) = _
    rw [this]
    rfl
theorem join_letters : ∀ {cs : List Nat}, (∀ c ∈ cs, letB c = true) → okL (Txt.join "" (cs.map fun c => (⟨#[c]⟩ : Str))) ∧ (Txt.join "" (cs.map fun c => (⟨#[c]⟩ : Str))).length = cs.length := by
  intro cs h
  have e : Txt.join "" (cs.map fun c => (⟨#[c]⟩ : Str)) = ⟨cs.toArray⟩ := by
    rw [TL.join_eq]
    refine TL.ext_tl ?_
    rw [TL.tl_join, List.map_map]
    have := joinL_one cs
    exact this.trans (by show cs = cs.toArray.toList; simp)
  rw [e]
  exact ⟨fun c hc => h c (by simpa using hc), by show cs.toArray.size = _; simp⟩
section
variable {P : Program} {w : World} {K : PySem.W.Frag} {mg : Str → Option Value} {base : Heap}
def spWords : Sp := fun vs H Q _ => ∃ (l : Addr) (m : Nat), vs = [.ref l, .int (m : Nat)] ∧ PoolAt H l ∧ m ≤ 20 ∧ ∀ (H' : Hp) (p : Addr) (zs : List Str), Bt [l] H H' → PoolAt H' l → H p = none → H' p = some (.lst (zs.map V.str)) → zs.length = m → zs.Nodup → (∀ z ∈ zs, Nm z) → Q (.ref p) H'
theorem ok_words {f fT : Addr} {fd fdT : FuncData} {k : Nat} (B : Bi mg) (D : Df K mg "_law_words" sWords f fd ["_law_pool_here", "_law_many"]) (DT : Df K mg "_law_take" sTake fT fdT ["_law_pool_here", "_law_many"]) (GT : FnOk P w K mg base CX0 (k + 1) fT fdT ["_law_pool_here", "_law_many"] spTake) : FnOk P w K mg base CX0 (k + 2) f fd ["_law_pool_here", "_law_many"] spWords := by
  refine D.fn.ok scWords (fun vs H Q E h => ?_) (fun cdv A outer s H vs Q E hr h => ?_)
  · obtain ⟨l, m, rfl, _⟩ := h
    rfl
  · obtain ⟨l, m, rfl, pool, m20, q⟩ := h
    refine ⟨_, pss_cons (ps_set (i := 2) scWords.nd rfl (.inl rfl) (PE.wk (t' := tWsN ownW) (pe_lst (pa_cons pe_str (pa_cons pe_str (pa_cons pe_str (pa_cons pe_str (pa_cons pe_str (pa_cons pe_str (pa_cons pe_str (pa_cons pe_str (pa_cons pe_str (pa_cons pe_str (pa_cons pe_str (pa_cons pe_str pa_nil))))))))))))) (by intro σ H Q q; exact ⟨by show ownW.length ≤ sizeLine; decide, fun p n => q p _ (same_new n) n upd_same⟩)))
      (pss_cons (ps_asg (pe_tup (pa_cons pe_str (pa_cons (pe_lst pa_nil) pa_nil))) (pg_tup rfl (pgs_cons (pg_name (i := 3) scWords.nd rfl (.inr rfl)) (pgs_cons (pg_name (i := 4) scWords.nd rfl (.inr rfl)) pgs_nil))))
      (pss_cons (ps_for PassesOwn.never rfl (pi_range1 (by rfl) B.range (pa_cons (pv 1) pa_nil)) (pg_name (i := 5) scWords.nd rfl (.inl rfl))
        (pss_cons (ps_set (i := 6) scWords.nd rfl (.inr rfl) (pe_ix (r := rIxL K) ix_list (pv 2) (pe_call GT hr (by rfl) DT.mg DT.fn.kp DT.bd .nil pass0 (pa_cons (pv 0) (pa_cons pe_int pa_nil))) (fun _ _ => rfl)))
        (pss_cons (PS.wk (t' := tIfW) (ps_if (pt_cmpR op_gt (pe_call GT hr (by rfl) DT.mg DT.fn.kp DT.bd .nil pass0 (pa_cons (pv 0) (pa_cons pe_int pa_nil))) pe_int (nomark _))
          (pss_one (ps_set (i := 6) scWords.nd rfl (.inr rfl) (pe_join pe_str (pe_lc (own := [("_law_place", 7)]) (g := gName 7) (tt := tYes) rfl scWords.nd (pi_range1 (by rfl) B.range (pa_cons (pe_op op_add pe_int (pe_call GT hr (by rfl) DT.mg DT.fn.kp DT.bd .nil pass0 (pa_cons (pv 0) (pa_cons pe_int pa_nil)))) pa_nil)) (blkOk_by (own := [("_law_place", 7)]) (N := nWords) (sc := defScope sWords) (by decide +kernel))
            (fun _ _ _ _ _ => pg_name (i := 7) scWords.nd rfl (Or.inl rfl)) (fun _ _ _ _ _ => pts_nil)
            (fun _ _ _ _ _ => pe_ix (r := rIxS) ix_str (pv 3) (pe_call GT hr (by rfl) DT.mg DT.fn.kp DT.bd .nil pass0 (pa_cons (pv 0) (pa_cons pe_int pa_nil))) (fun _ _ => rfl)))))) pss_nil) (by
          rintro D σ H ⟨l, y1, y2, y4, y5, y9, y10, z, rfl, pool, wz, q⟩
          refine ⟨_, rfl, l, 4, rfl, pool, by decide, fun H6 d6 b6 pool6 d60 d61 => ⟨d6, 0, rfl, rfl, _, rfl, ?_⟩⟩
          by_cases dp : (0 : Int) < d6
          rotate_left
          · rw [decide_eq_false dp]
            exact iteF (q H6 z b6 pool6 wz)
          rw [decide_eq_true dp]
          refine iteT ⟨⟨_, rfl⟩, _, rfl, l, 5, rfl, pool6, by decide, fun H7 d7 b7 pool7 d70 d71 => ⟨1, d7, rfl, rfl, 1 + d7, rfl, by omega, by omega, fun L nL => ?_⟩⟩
          have nlL : l ≠ L := pool7.ne nL
          refine lc_range (lo := 0) (n := (1 + d7).toNat) (fun j H' => ∃ cs : List Nat, H' L = some (.lst ((cs.map fun c => (⟨#[c]⟩ : Str)).map V.str)) ∧ cs.length = j ∧ (∀ c ∈ cs, letB c = true) ∧ PoolAt H' l ∧ Bt [l] H7 H') ⟨[], upd_same, rfl, (fun x hx => nomatch hx), pool7.upd nlL, (Bt.refl H7).new nL⟩ ?_ ?_
          · rintro j H8 hj ⟨cs, hL, cl, lt, pool8, b8⟩
            refine ⟨rfl, tyes (iteT ⟨_, rfl, _, rfl, l, 26, rfl, pool8, by decide, fun H9 d9 b9 pool9 d90 d91 => ?_⟩)⟩
            obtain ⟨c, hc, lc⟩ := at_letters d90 d91
            refine ⟨lettersS, d9, c, rfl, rfl, by show 26 ≤ sizeLine; decide, hc, _, kept b9 hL (by simp [nlL.symm]), ?_, cs ++ [c], ?_, ?_, ?_, pool9.upd nlL, (b8.trans b9).upd0 nL⟩
            · rw [List.length_map, List.length_map, cl]
              exact Nat.lt_of_lt_of_le (show j < 8 by omega) (by decide)
            · rw [upd_same, List.map_append, List.map_append]
              rfl
            · rw [List.length_append, cl]
              rfl
            · intro x hx
              rcases List.mem_append.mp hx with h | h
              · exact lt x h
              · rw [List.mem_singleton.mp h]
                exact lc
          · rintro H8 ⟨cs, hL, cl, lt, pool8, b8⟩
            obtain ⟨k1, k2⟩ := join_letters lt
            refine ⟨_, L, cs.map fun c => (⟨#[c]⟩ : Str), rfl, rfl, .inl (sqL hL), ?_, ?_⟩
            · rw [ones_sum, List.length_map]
              show cs.length + cs.length * 0 ≤ 16777216
              omega
            · exact q H8 _ ((b6.trans b7).trans b8) pool8 ⟨k1, by omega, by omega⟩))
        (pss_cons (ps_set (i := 9) scWords.nd rfl (.inl rfl) (pe_op op_cat (pe_lst (pa_cons (pv 6) pa_nil)) (pe_lc (own := [("_law_letter", 8)]) (g := gName 8) (tt := tYes) rfl scWords.nd (pi_str (pv 3)) (blkOk_by (own := [("_law_letter", 8)]) (N := nWords) (sc := defScope sWords) (by decide +kernel))
            (fun _ _ _ _ _ => pg_name (i := 8) scWords.nd rfl (Or.inl rfl)) (fun _ _ _ _ _ => pts_nil)
            (fun _ _ _ _ _ => pe_op op_add_str (pe_op op_add_str (pe_slice (r := rSlS) sl_str (pv 6) po_none (po_some pe_int)) (pv 8)) pe_str))))
        (pss_cons (ps_set (i := 10) scWords.nd rfl (.inr rfl) (PE.wk (t' := tWsN noNames) (pe_lst (pa_cons pe_str (pa_cons pe_str (pa_cons pe_str (pa_cons pe_str (pa_cons pe_str (pa_cons pe_str (pa_cons pe_str (pa_cons pe_str (pa_cons pe_str (pa_cons pe_str (pa_cons pe_str (pa_cons pe_str (pa_cons pe_str pa_nil)))))))))))))) (by intro σ H Q q; exact ⟨by show noNames.length ≤ sizeLine; decide, fun p n => q p _ (same_new n) n upd_same⟩)))
        (pss_one (ps_expr (pe_bm PySem.F.plainAttrs_list PySem.F.slot_list_append PySem.F.type_list_append mt_append (pv 4) (pa_cons (pe_ix (r := rIxL K) ix_list (pe_lc (own := [("_law_one", 11)]) (g := gName 11) rfl scWords.nd (pi_list (pv 9)) (blkOk_by (own := [("_law_one", 11)]) (N := nWords) (sc := defScope sWords) (by decide +kernel))
            (fun _ _ _ _ _ => pg_name (i := 11) scWords.nd rfl (Or.inl rfl)) (fun _ _ _ _ _ => pts_one (PW.pt (pw_and (pt_cmpR (r := rIn K true) op_notIn_seq (pv 11) (pv 4) (by rfl)) (pw_and1 (pt_cmpR (r := rIn K true) op_notIn_seq (pv 11) (pv 10) (by rfl))))))
            (fun _ _ _ _ _ => pv 11)) pe_int (fun _ _ => rfl)) pa_nil)))))))))
      (pss_one (ps_ret (pv 4))))), ?_⟩
    intro aO H1 s1 nO hO
    refine ⟨by show 0 ≤ sizeLine; decide, fun aF nF => ?_⟩
    have pool2 := (pool.same s1).upd (o := .lst []) ((pool.same s1).ne nF)
    have hO2 : (upd H1 aF (.lst [])) aO = some (.lst ownW) := by rw [upd_ne (ne_of_none hO nF)]; exact hO
    have s2 : Same H (upd H1 aF (.lst [])) := s1.trans (same_new nF)
    have hF2 : (upd H1 aF (.lst [])) aF = some (.lst []) := upd_same
    revert pool2 hO2 s2 hF2
    generalize upd H1 aF (.lst []) = H2
    intro pool2 hO2 s2 hF2
    refine ⟨by show 2 ≤ sizeLine; decide, fun tp ntp => ⟨tp, _, rfl, sqT upd_same, rfl, _, _, rfl, _, _, rfl, rfl, ?_⟩⟩
    have s23 : Same H2 (upd H2 tp (.tup [.str "abcdefghijklmnopqrstuvwxyz", .ref aF])) := same_new ntp
    revert s23
    generalize upd H2 tp (.tup [.str "abcdefghijklmnopqrstuvwxyz", .ref aF]) = H3
    intro s23
    have pool3 := pool2.same s23
    have b3 : Bt [l] H H3 := Bt.of_same (s2.trans s23)
    have hO3 := s23 _ _ hO2
    have hF3 := s23 _ _ hF2
    have nlO : aO ≠ l := lst_ne pool3 hO3 (by decide)
    have nlF : aF ≠ l := lst_ne pool3 hF3 (by decide)
    have nFO : aO ≠ aF := fun e => by
      rw [e, hF3] at hO3
      cases hO3
    have fF : H aF = none := s1.free nF
    refine ⟨_, rfl, (m : Int), rfl, by omega, by omega, for_range (lo := 0) (n := ((m : Nat) : Int).toNat) (fun i σ H' => (∃ y5 y6 y9 y10 : Option V, σ = [some (.ref l), some (.int (m : Nat)), some (.ref aO), some (.str lettersS), some (.ref aF), y5, y6, none, none, y9, y10, none]) ∧ H' aO = some (.lst ownW) ∧ (∃ zs : List Str, H' aF = some (.lst (zs.map V.str)) ∧ zs.length = i ∧ zs.Nodup ∧ ∀ z ∈ zs, Nm z) ∧ Bt [l] H H' ∧ PoolAt H' l) ⟨⟨none, none, none, none, rfl⟩, hO3, ⟨[], hF3, rfl, List.nodup_nil, fun z hz => nomatch hz⟩, b3, pool3⟩ ?_ ?_⟩
    · rintro i σ H4 hi ⟨⟨y5, y6, y9, y10, rfl⟩, hO4, ⟨zs, hF4, zl, nd, nm⟩, b4, pool4⟩
      refine ⟨_, rfl, _, rfl, l, 12, rfl, pool4, by decide, fun H5 d5 b5 pool5 d50 d51 => ?_⟩
      obtain ⟨v5, e5, z5, rfl, w5⟩ := at_of (P := fun v => ∃ z, v = .str z ∧ wdB 6 z) (xs := ownW) (d := d5) (fun x hx => by
        obtain ⟨z, hz, rfl⟩ := List.mem_map.mp hx
        exact ⟨z, rfl, own_wd z hz⟩) d50 (by show d5 < 12; omega)
      have hO5 := kept b5 hO4 (by simp [nlO])
      refine ⟨aO, _, d5, _, rfl, rfl, sqL hO5, e5, ?_⟩
      refine ⟨l, _, _, _, _, _, _, z5, rfl, pool5, w5, fun H6 z6 b6 pool6 w6 => ?_⟩
      have b46 := b5.trans b6
      have hO6 := kept b46 hO4 (by simp [nlO])
      have hF6 := kept b46 hF4 (by simp [nlF])
      have b06 := b4.trans b46
      have z66 := w6.2.2
      refine ⟨_, rfl, by show 1 ≤ sizeLine; decide, fun p7 n7 => ⟨_, rfl, lettersS, rfl, fun L nL => ?_⟩⟩
      have h7 : (upd H6 p7 (.lst [.str z6])) p7 = some (.lst [.str z6]) := upd_same
      have s7 : Same H6 (upd H6 p7 (.lst [.str z6])) := same_new n7
      revert h7 s7 nL
      generalize upd H6 p7 (.lst [.str z6]) = H7
      intro nL h7 s7
      refine lc_it walk_str (fun i H' => H' L = some (.lst (((lettersS.cps.toList.take i).map (cand z6)).map V.str)) ∧ Same H7 H') ⟨upd_same, same_new nL⟩ (fun _ _ _ _ => trivial) ?_ ?_
      · rintro i x H8 H' hx ⟨hL, sm⟩ ⟨rfl, c, hc, rfl⟩
        have hc' : lettersS.cps.toList[i]? = some c := by simpa using hc
        refine ⟨rfl, tyes (iteT ⟨_, rfl, 4, rfl, z6, rfl, ?_, _, rfl, cutS z6 none (some 4), ⟨#[c]⟩, rfl, rfl, ?_, cutS z6 none (some 4) ++ ⟨#[c]⟩, "x", rfl, rfl, ?_, _, hL, ?_, ?_, ?_⟩)⟩
        · exact Nat.le_trans z66 (by decide)
        · have := cutS_length z6 none (some 4)
          show _ + 1 ≤ sizeLine
          exact Nat.le_trans (show _ ≤ 8 by omega) (by decide)
        · have := cutS_length z6 none (some 4)
          rw [app_len]
          show _ + 1 + 1 ≤ sizeLine
          exact Nat.le_trans (show _ ≤ 8 by omega) (by decide)
        · rw [List.length_map, List.length_map, List.length_take]
          exact Nat.lt_of_lt_of_le (show _ < 26 by have := lt_get hc'; have : lettersS.cps.toList.length = 26 := by decide +kernel
                                                   omega) (by decide)
        · rw [upd_same, take_more hc', List.map_append, List.map_append]
          rfl
        · exact ((Bt.of_same (S := []) sm).upd0 nL).same
      · rintro H8 ⟨hL, s8⟩
        have e : lettersS.cps.toList.take lettersS.cps.size = lettersS.cps.toList := List.take_of_length_le (by simp)
        rw [e] at hL
        refine ⟨p7, L, _, _, rfl, rfl, s8 _ _ h7, hL, ?_, fun p9 n9 => ?_⟩
        · rw [List.length_map, List.length_map]
          show 1 + 26 ≤ sizeLine
          decide
        have h9 : (upd H8 p9 (.lst ([.str z6] ++ ((lettersS.cps.toList.map (cand z6)).map V.str)))) p9 = some (.lst ((cands z6).map V.str)) := upd_same
        have s9 : Same H6 (upd H8 p9 (.lst ([.str z6] ++ ((lettersS.cps.toList.map (cand z6)).map V.str)))) := (s7.trans s8).trans (same_new n9)
        revert h9 s9
        generalize upd H8 p9 (.lst ([.str z6] ++ ((lettersS.cps.toList.map (cand z6)).map V.str))) = H9
        intro h9 s9
        intro aD HD sD nD hD9
        have h9 := sD _ _ h9
        have s9 := s9.trans sD
        have hF9 := s9 _ _ hF6
        clear n9
        revert h9 s9 hF9 hD9
        generalize HD = H9
        intro hD9 h9 s9 hF9
        refine ⟨_, rfl, .inl ⟨rfl, _, sqL hF9⟩, _, rfl, p9, rfl, ⟨_, sqL h9⟩, fun L2 nL2 => lc_list (K := K) (a := p9) (xs := (cands z6).map V.str) (fun i H' => H' L2 = some (.lst ((((cands z6).take i).filter (freeB zs)).map V.str)) ∧ Same H9 H') ⟨upd_same, same_new nL2⟩ (fun i H' _ h => sqL (h.2 _ _ h9)) ?_ ?_⟩
        · rintro i x H' hx ⟨hL2, sm⟩
          obtain ⟨y, hy, rfl⟩ : ∃ y, (cands z6)[i]? = some y ∧ x = .str y := by
            rw [List.getElem?_map] at hx
            cases hc : (cands z6)[i]? with
            | none => rw [hc] at hx; cases hx
            | some y => rw [hc] at hx; cases hx; exact ⟨y, rfl, rfl⟩
          have no : freeB zs y = false → ((cands z6).take (i + 1)).filter (freeB zs) = ((cands z6).take i).filter (freeB zs) := fun e => by
            rw [take_more hy, List.filter_append, List.filter_cons, e]
            simp
          have yes : freeB zs y = true → ((cands z6).take (i + 1)).filter (freeB zs) = ((cands z6).take i).filter (freeB zs) ++ [y] := fun e => by
            rw [take_more hy, List.filter_append, List.filter_cons, e]
            simp
          refine ⟨rfl, ⟨_, rfl, _, rfl, aF, _, rfl, .inl (sqL (sm _ _ hF9)), rfl, flat_strs zs, _, rfl, ?_⟩⟩
          cases c1 : inV (.str y) (zs.map V.str) with
          | true =>
            refine iteF (iteF ⟨?_, sm⟩)
            rw [no (by unfold freeB; rw [c1]; rfl)]
            exact hL2
          | false =>
            refine iteT ⟨_, rfl, _, rfl, aD, _, rfl, .inl (sqL (sm _ _ hD9)), rfl, rfl, _, rfl, ?_⟩
            cases c2 : inV (.str y) noNames with
            | true =>
              refine iteF ⟨?_, sm⟩
              rw [no (by unfold freeB; rw [c1, c2]; rfl)]
              exact hL2
            | false =>
              refine iteT ⟨_, rfl, _, hL2, ?_, ?_, ((Bt.of_same (S := []) sm).upd0 nL2).same⟩
              · rw [List.length_map]
                refine Nat.lt_of_le_of_lt (List.length_filter_le _ _) ?_
                rw [List.length_take]
                refine Nat.lt_of_le_of_lt (Nat.min_le_right _ _) ?_
                show 27 < sizeLine
                decide
              · rw [upd_same, yes (by unfold freeB; rw [c1, c2]; rfl), List.map_append]
                rfl
        · rintro H' ⟨hL2, sm⟩
          rw [List.length_map, List.take_length] at hL2
          obtain ⟨y, ys, ey⟩ := some_free (z := z6) (found := zs) (by omega)
          obtain ⟨ny, nf⟩ := free_nm (found := zs) w6 (show y ∈ _ by rw [ey]; exact List.mem_cons_self)
          rw [ey] at hL2
          have hF' := sm _ _ hF9
          have s0 := s9.trans sm
          have bH : Bt [l] H H' := b06.trans (Bt.of_same s0)
          have nL2F : aF ≠ l := nlF
          refine ⟨L2, _, 0, .str y, rfl, rfl, sqL hL2, atI_nat (j := 0) rfl, aF, _, .str y, rfl, rfl, hF', ?_, ?_⟩
          · rw [List.length_map, zl]
            exact Nat.lt_of_lt_of_le (show i < 20 by omega) (by decide)
          refine ⟨⟨_, _, _, _, rfl⟩, ?_, ⟨zs ++ [y], ?_, ?_, ?_, ?_⟩, bH.upd0 fF, (pool6.same s0).upd nlF.symm⟩
          · rw [upd_ne nFO]
            exact s0 _ _ hO6
          · rw [upd_same, List.map_append]
            rfl
          · rw [List.length_append, zl]
            rfl
          · rw [List.nodup_append]
            refine ⟨nd, by simp, fun a ha b hb e => ?_⟩
            rw [List.mem_singleton.mp hb] at e
            exact nf (e ▸ ha)
          · intro z hz
            rcases List.mem_append.mp hz with h | h
            · exact nm z h
            · rw [List.mem_singleton.mp h]
              exact ny
    · rintro σ H4 ⟨⟨y5, y6, y9, y10, rfl⟩, hO4, ⟨zs, hF4, zl, nd, nm⟩, b4, pool4⟩
      exact ⟨_, rfl, q H4 aF zs b4 pool4 fF hF4 (by omega) nd nm⟩
end
end WdQ

set_option Elab.async false
set_option linter.all false
set_option maxRecDepth 100000
set_option maxHeartbeats 4000000
set_option exponentiation.threshold 5000
namespace WdQ
open PySem PySem.Spec PyProof.Rows L2 WdM Wd
/-! ### goods -/
abbrev sGood : Stmt := topS 30
theorem scGood : FnScope ["thing", "ahead", "name", "kind", "worth"] ["thing", "ahead"] (defScope sGood) := ⟨rfl, rfl, rfl, by decide +kernel, rfl, by decide +kernel, by decide +kernel⟩
theorem scChkG2 : FnScope ["goods", "ahead", "number", "good"] ["goods"] (defScope sChkG) := ⟨rfl, rfl, rfl, by decide +kernel, rfl, by decide +kernel, by decide +kernel⟩
def rowG (r : Str × Str × Int) : List V := [.str r.1, .str r.2.1, .int r.2.2]
def GoodsAt (K : PySem.W.Frag) (H : Hp) (v : V) (rows : List (Str × Str × Int)) : Prop := ∃ (t : Addr) (xs : List V), v = .ref t ∧ SqT K H t xs ∧ xs.length = rows.length ∧ ∀ (i : Nat) (x : V), xs[i]? = some x → ∃ (a : Addr) (r : Str × Str × Int), x = .ref a ∧ rows[i]? = some r ∧ SqT K H a (rowG r)
structure GoodG (rows : List (Str × Str × Int)) : Prop where
  l8 : rows.length ≤ 8
  nd : (rows.map Prod.fst).Nodup
  nm : ∀ r ∈ rows, Nm r.1 ∧ Nm r.2.1
  sm : ∀ r ∈ rows, 0 ≤ r.2.2 ∧ r.2.2 ≤ 1000000000
section
variable {P : Program} {w : World} {K : PySem.W.Frag} {mg : Str → Option Value} {base : Heap} {CH CY : Addr}
theorem GoodsAt.tk {H H' : Hp} {v : V} {rows : List (Str × Str × Int)} (h : GoodsAt K H v rows) (e : Tk H H') : GoodsAt K H' v rows := by
  obtain ⟨t, xs, rfl, hs, l, hx⟩ := h
  exact ⟨t, xs, rfl, e.sq hs, l, fun i x hi => by obtain ⟨a, r, e1, e2, e3⟩ := hx i x hi; exact ⟨a, r, e1, e2, e.sq e3⟩⟩
def spSumG : Sp := fun vs H Q _ => ∃ i : Int, vs = [.int i] ∧ 0 ≤ i ∧ i ≤ 1000000000 ∧ Q (.bl true) H
theorem ok_sumG {f fW : Addr} {fd fdW : FuncData} {k : Nat} {tS : Tok} (B : Bi mg) (gS : mg "MOST_SUM" = some (.int 1000000000 tS)) (D : Df K mg "is_sum" sSum f fd ["thing"]) (DW : Df K mg "is_whole" sWhole fW fdW ["thing"]) : FnOk P w K mg base CX0 (k + 2) f fd ["thing"] spSumG := by
  have GW : FnOk P w K mg base CX0 (k + 1) fW fdW ["thing"] (spWhole K) := ok_whole B DW
  refine D.fn.ok scSum (fun vs H Q E h => ?_) (fun cdv A outer s H vs Q E hr h => ?_)
  · obtain ⟨i, rfl, _⟩ := h
    rfl
  · obtain ⟨i, rfl, i0, i1, q⟩ := h
    refine ⟨_, pss_one (ps_ret (pe_and (pe_call GW hr (by rfl) DW.mg DW.fn.kp DW.bd .nil pass0 (pa_cons (pv 0) pa_nil)) (pe_one (pe_chain op_le op_le pe_int (pv 0) (pe_glob (v := .int 1000000000) (by rfl) gS ⟨_, rfl⟩))))), ?_⟩
    refine ⟨_, rfl, .int i, .int i, rfl, (Th.dp (.int i)).is, true, rfl, iteT ⟨_, rfl, 0, i, rfl, rfl, _, rfl, ?_⟩⟩
    rw [decide_eq_true i0]
    refine iteT ⟨i, _, rfl, rfl, ?_⟩
    show Q (.bl (decide (i ≤ 1000000000))) H
    rw [decide_eq_true i1]
    exact q
def spGood (K : PySem.W.Frag) : Sp := fun vs H Q _ => ∃ (t l : Addr) (r : Str × Str × Int) (ns : List Str), vs = [.ref t, .ref l] ∧ SqT K H t (rowG r) ∧ H l = some (.lst (ns.map V.str)) ∧ Nm r.1 ∧ Nm r.2.1 ∧ r.1 ∉ ns ∧ 0 ≤ r.2.2 ∧ r.2.2 ≤ 1000000000 ∧ ∀ H', Same H H' → Q (.bl true) H'
theorem ok_good {f fN fS : Addr} {fd fdN fdS : FuncData} {k : Nat} (B : Bi mg) (GN : FnOk P w K mg base CX0 (k + 2) fN fdN ["thing"] (spName K)) (GS : FnOk P w K mg base CX0 (k + 2) fS fdS ["thing"] spSumG) (D : Df K mg "is_good" sGood f fd ["thing", "ahead"]) (DN : Df K mg "is_name" sName fN fdN ["thing"]) (DS : Df K mg "is_sum" sSum fS fdS ["thing"]) :
    FnOk P w K mg base CX0 (k + 3) f fd ["thing", "ahead"] (spGood K) := by
  refine D.fn.ok scGood (fun vs H Q E h => ?_) (fun cdv A outer s H vs Q E hr h => ?_)
  · obtain ⟨t, l, r, ns, rfl, _⟩ := h
    rfl
  · obtain ⟨t, l, r, ns, rfl, hs, hl, nm, nk, nn, s0, s1, q⟩ := h
    refine ⟨_, pss_cons (ps_if (PW.pt (pw_or (pt_not (pt_val (pe_callB call_isi (by rfl) B.isi boot_isinstance (pa_cons (pv 0) (pa_cons (pe_bltn (v := .ty "tuple") (by rfl) B.tuple boot_tuple rfl) pa_nil)))))
          (pw_or1 (pt_cmpR op_ne (pe_callB call_len_seq (by rfl) B.len PySem.boot_len (pa_cons (pv 0) pa_nil)) pe_int (nomark _))))) (pss_one (ps_ret pe_bl)) pss_nil)
      (pss_cons (ps_asg (pv 0) (pg_tup rfl (pgs_cons (pg_name (i := 2) scGood.nd rfl (.inl rfl)) (pgs_cons (pg_name (i := 3) scGood.nd rfl (.inl rfl)) (pgs_cons (pg_name (i := 4) scGood.nd rfl (.inl rfl)) pgs_nil)))))
      (pss_one (ps_ret (pe_and (pe_call GN hr (by rfl) DN.mg DN.fn.kp DN.bd .nil pass0 (pa_cons (pv 2) pa_nil)) (pe_and (pe_cmpR (r := rIn K true) op_notIn_seq (pv 2) (pv 1) (by rfl)) (pe_and (pe_call GN hr (by rfl) DN.mg DN.fn.kp DN.bd .nil pass0 (pa_cons (pv 3) pa_nil)) (pe_one (pe_call GS hr (by rfl) DS.mg DS.fn.kp DS.bd .nil pass0 (pa_cons (pv 4) pa_nil))))))))), ?_⟩
    refine ⟨_, rfl, _, .ty "tuple", _, .type "tuple", true, rfl, .ty _, tyT hs, kit_ty (by decide +kernel), true, rfl, iteF ⟨_, rfl, t, _, rfl, .inr hs, rfl, _, rfl, iteF ?_⟩⟩
    refine ⟨_, rfl, t, _, rfl, hs, rfl, _, _, rfl, _, _, rfl, _, _, rfl, rfl, ?_⟩
    refine ⟨_, rfl, .str r.1, .str r.1, rfl, (Th.dp (.str r.1)).is, (fun y e => by cases e; have := nm.1.2.2; omega), fun H1 sm => ?_⟩
    rw [show nameB (.str r.1) = true from nm.name]
    have nin : inV (.str r.1) (ns.map V.str) = false := by
      rw [Bool.eq_false_iff]
      exact fun e => nn (inV_str.mp e)
    refine ⟨true, rfl, iteT ⟨_, rfl, _, rfl, l, _, rfl, .inl (sqL (sm _ _ hl)), rfl, flatS ns, true, ?_, iteT ?_⟩⟩
    · show V.bl (!inV (.str r.1) (ns.map V.str)) = _
      rw [nin]
      rfl
    refine ⟨_, rfl, .str r.2.1, .str r.2.1, rfl, (Th.dp (.str r.2.1)).is, (fun y e => by cases e; have := nk.1.2.2; omega), fun H2 sm2 => ?_⟩
    rw [show nameB (.str r.2.1) = true from nk.name]
    exact ⟨true, rfl, iteT ⟨_, rfl, r.2.2, rfl, s0, s1, q H2 (sm.trans sm2)⟩⟩
def spChkG (K : PySem.W.Frag) : Sp := fun vs H Q _ => ∃ (v : V) (rows : List (Str × Str × Int)), vs = [v] ∧ GoodsAt K H v rows ∧ GoodG rows ∧ ∀ H', Same H H' → Q .non H'
theorem ok_chkG {f fD : Addr} {fd fdD : FuncData} {tM : Tok} {k : Nat} (B : Bi mg) (gM : mg "MOST_GOODS" = some (.int 8 tM))
    (GD : FnOk P w K mg base CX0 (k + 3) fD fdD ["thing", "ahead"] (spGood K)) (D : Df K mg "check_goods" sChkG f fd ["goods"]) (DD : Df K mg "is_good" sGood fD fdD ["thing", "ahead"]) : FnOk P w K mg base (L2.CX P w) (k + 4) f fd ["goods"] (spChkG K) := by
  refine D.fn.okX scChkG2 (fun vs H Q E h => ?_) (fun cdv A outer s H vs Q E hr h => ?_)
  · obtain ⟨v, rows, rfl, _⟩ := h
    rfl
  · obtain ⟨v, rows, rfl, ⟨t, xs, rfl, ht, xl, hx⟩, gf, q⟩ := h
    refine ⟨_, pss_cons (ps_if (PW.pt (pw_or (pt_not (pt_val (pe_callB call_isi (by rfl) B.isi boot_isinstance (pa_cons (pv 0) (pa_cons (pe_bltn (v := .ty "tuple") (by rfl) B.tuple boot_tuple rfl) pa_nil)))))
          (pw_or1 (pt_cmpR op_gt (pe_callB call_len_seq (by rfl) B.len PySem.boot_len (pa_cons (pv 0) pa_nil)) (pe_glob (v := .int 8) (by rfl) gM ⟨_, rfl⟩) (nomark _))))) (pss_one ps_no) pss_nil)
      (pss_cons (ps_set (i := 1) scChkG2.nd rfl (.inl rfl) (pe_lst pa_nil))
      (pss_one (ps_for (passes_of rfl) rfl (pi_E .tu (by rfl) B.enum (pa_cons (pv 0) pa_nil)) (pg_tup rfl (pgs_cons (pg_name (i := 2) scChkG2.nd rfl (.inl rfl)) (pgs_cons (pg_name (i := 3) scChkG2.nd rfl (.inl rfl)) pgs_nil)))
        (pss_cons (ps_if (pt_not (pt_val (pe_call GD hr (by rfl) DD.mg DD.fn.kp DD.bd .nil pass0 (pa_cons (pv 3) (pa_cons (pv 1) pa_nil))))) (pss_one ps_no) pss_nil)
        (pss_one (ps_expr (pe_bm PySem.F.plainAttrs_list PySem.F.slot_list_append PySem.F.type_list_append mt_append (pv 1) (pa_cons (pe_ix (r := rIxT K) ix_tup (pv 3) pe_int (fun _ _ => rfl)) pa_nil)))))))), ?_⟩
    have l8 := gf.l8
    refine ⟨_, rfl, _, .ty "tuple", _, .type "tuple", true, rfl, .ty _, tyT ht, kit_ty (by decide +kernel), true, rfl, iteF ⟨_, rfl, t, _, rfl, .inr ht, _, 8, rfl, rfl, _, rfl, ?_⟩⟩
    rw [decide_eq_false (show ¬ (8 : Int) < ((xs.length : Nat) : Int) by omega)]
    refine iteF ?_
    refine ⟨by show 0 ≤ sizeLine; decide, fun l nl => ?_⟩
    have sm0 : Same H (upd H l (.lst [])) := same_new nl
    have hl0 : (upd H l (.lst [])) l = some (.lst []) := upd_same
    revert sm0 hl0
    generalize upd H l (.lst []) = H1
    intro sm0 hl0
    have ht1 := (tk_same sm0).sq ht
    refine ⟨_, rfl, t, _, rfl, ht1, for_it (walkE (K := K) (k := .tu) (a := t) (xs := xs)) (fun i σ H' => ∃ y2 y3, σ = [some (.ref t), some (.ref l), y2, y3] ∧ Same H H' ∧ H' l = some (.lst (((rows.take i).map Prod.fst).map V.str))) ⟨none, none, rfl, sm0, hl0⟩ (fun i σ H' _ ⟨_, _, _, s, _⟩ => (tk_same s).sq ht) ?_ ?_⟩
    · rintro i _ σ H4 _ i1 ⟨y2, y3, rfl, s4, hl4⟩ ⟨T1, _, y, rfl, nT, rfl, ei, hy⟩
      cases ei
      obtain ⟨a, r, rfl, hr, ha⟩ := hx i y hy
      have s5 : Same H4 (upd H4 T1 (.tup [.int (i : Nat), .ref a])) := same_new nT
      have g5 : (upd H4 T1 (.tup [.int (i : Nat), .ref a])) T1 = some (.tup [.int (i : Nat), .ref a]) := upd_same
      revert s5 g5
      generalize upd H4 T1 (.tup [.int (i : Nat), .ref a]) = H5
      intro s5 g5
      refine ⟨T1, _, rfl, sqT g5, rfl, _, _, rfl, _, _, rfl, rfl, ?_⟩
      have h25 := (tk_same (s4.trans s5)).sq ha
      obtain ⟨nm, nk⟩ := gf.nm r (List.mem_of_getElem? hr)
      obtain ⟨s0, s1⟩ := gf.sm r (List.mem_of_getElem? hr)
      refine ⟨_, rfl, _, rfl, a, l, r, _, rfl, h25, s5 _ _ hl4, nm, nk, fst_new gf.nd hr, s0, s1, fun H6 s6 => ⟨true, rfl, iteF ?_⟩⟩
      have hl6 := s6 _ _ (s5 _ _ hl4)
      refine ⟨_, rfl, .inl ⟨rfl, _, sqL hl6⟩, _, rfl, a, _, 0, .str r.1, rfl, rfl, (tk_same s6).sq h25, atI_nat (j := 0) rfl, l, _, _, rfl, rfl, hl6, ?_, ?_⟩
      · rw [List.length_map, List.length_map, List.length_take]
        exact Nat.lt_of_lt_of_le (show _ < 9 by omega) (by decide)
      refine ⟨_, _, rfl, ((Bt.of_same (S := []) (s4.trans (s5.trans s6))).upd0 nl).same, ?_⟩
      rw [upd_same, take_more hr, List.map_append, List.map_append]
      rfl
    · rintro σ H4 ⟨y2, y3, rfl, s4, _⟩
      exact q H4 s4
/-! ### a house with goods, a purse, debts -/
def spHIg (K : PySem.W.Frag) (CH : Addr) : Sp := fun vs H Q _ => ∃ (o dx : Addr) (v g : V) (p d : Int) (rows : List (Str × Option Str)) (goods : List (Str × Str × Int)), vs = [.ref o, v, g, .int p, .int d] ∧ H o = some (.ins CH dx []) ∧ FolkAt K H v rows ∧ GoodF rows ∧ GoodsAt K H g goods ∧ GoodG goods ∧ 0 ≤ p ∧ p ≤ 1000000000 ∧ 0 ≤ d ∧ d ≤ 1000000000 ∧ ∀ H', Bt [o] H H' → HomeAt K CH H' o rows → Q .non H'
theorem ok_HIg {f fC fG fS : Addr} {fd fdC fdG fdS : FuncData} {k : Nat} (B : Bi mg) (T : HsF K CH) (F : FunD K "__init__" "House.__init__" (defArgs sHI) (defBody sHI) (defScope sHI) [.non, .int 0, .int 0] [] f fd) (GC : FnOk P w K mg base (L2.CX P w) (k + 4) fC fdC ["people"] (spChkP K)) (DC : Df K mg "check_people" sChkP fC fdC ["people"])
    (GG : FnOk P w K mg base (L2.CX P w) (k + 4) fG fdG ["goods"] (spChkG K)) (DG : Df K mg "check_goods" sChkG fG fdG ["goods"]) (GS : FnOk P w K mg base CX0 (k + 2) fS fdS ["thing"] spSumG) (DS : Df K mg "is_sum" sSum fS fdS ["thing"]) :
    FnOk P w K mg base (L2.CX P w) (k + 5) f fd ["self", "people", "goods", "purse", "debts"] (spHIg K CH) := by
  refine F.ok scHI (fun vs H Q E h => ?_) (fun cdv A outer s H vs Q E hr h => ?_)
  · obtain ⟨o, dx, v, g, p, d, rows, goods, rfl, _⟩ := h
    rfl
  · obtain ⟨o, dx, v, g, p, d, rows, goods, rfl, ho, hv, gf, hg, gg, p0, p1, d0, d1, q⟩ := h
    have r2 : Room (k + 2) _ := hr.mono (by omega)
    obtain ⟨tg, xg, rfl, _⟩ := id hg
    refine ⟨_, pss_cons (ps_expr (pe_callS GC hr (by rfl) DC.mg DC.fn.kp DC.bd (fun σ => passAt (takes_of rfl rfl rfl rfl) σ) (pa_cons (pv 1) pa_nil)))
      (pss_cons (ps_set (i := 5) scHI.nd rfl (.inl rfl) (pe_ifExp (pt_cmpR op_isN (pv 2) pe_non (nomark _)) (pe_tup pa_nil) (pv 2)))
      (pss_cons (ps_expr (pe_callS GG hr (by rfl) DG.mg DG.fn.kp DG.bd (fun σ => passAt (takes_of rfl rfl rfl rfl) σ) (pa_cons (pv 5) pa_nil)))
      (pss_cons (ps_for (passes_of rfl) rfl (pi_tup (pe_tup (pa_cons (pv 3) (pa_cons (pv 4) pa_nil)))) (pg_name (i := 6) scHI.nd rfl (.inl rfl))
        (pss_one (ps_if (pt_not (pt_val (pe_call GS r2 (by rfl) DS.mg DS.fn.kp DS.bd .nil pass0 (pa_cons (pv 6) pa_nil)))) (pss_one ps_no) pss_nil)))
      (pss_cons (ps_fld (pv 0) (pv 1) rfl) (pss_cons (ps_fld (pv 0) (pv 5) rfl) (pss_cons (ps_fld (pv 0) (pv 3) rfl) (pss_one (ps_fld (pv 0) (pv 4) rfl)))))))), ?_⟩
    refine ⟨_, rfl, v, rows, rfl, hv, gf, fun H1 s1 => ?_⟩
    refine ⟨_, rfl, rfl, _, rfl, iteF ⟨_, rfl, ?_⟩⟩
    refine ⟨_, rfl, _, goods, rfl, hg.tk (tk_same s1), gg, fun H2 s2 => ?_⟩
    have s12 : Same H H2 := s1.trans s2
    refine ⟨_, rfl, _, rfl, by show 2 ≤ sizeLine; decide, fun t2 nt2 => ⟨t2, rfl, ⟨_, sqT upd_same⟩, ?_⟩⟩
    have s3 : Same H (upd H2 t2 (.tup [.int p, .int d])) := s12.trans (same_new nt2)
    have g3 : (upd H2 t2 (.tup [.int p, .int d])) t2 = some (.tup [.int p, .int d]) := upd_same
    revert s3 g3
    generalize upd H2 t2 (.tup [.int p, .int d]) = H3
    intro s3 g3
    refine for_tup (K := K) (a := t2) (xs := [.int p, .int d]) (fun i σ H' => (∃ y, σ = [some (.ref o), some v, some (.ref tg), some (.int p), some (.int d), some (.ref tg), y]) ∧ H' = H3) ⟨⟨_, rfl⟩, rfl⟩ (fun i σ H' _ h => h.2 ▸ sqT g3) ?_ ?_
    · rintro i x σ H4 hx ⟨⟨y, rfl⟩, rfl⟩
      obtain ⟨c, rfl, c0, c1⟩ : ∃ c : Int, x = .int c ∧ 0 ≤ c ∧ c ≤ 1000000000 := by
        match i, hx with
        | 0, hx => cases hx; exact ⟨p, rfl, p0, p1⟩
        | 1, hx => cases hx; exact ⟨d, rfl, d0, d1⟩
        | i + 2, hx => cases hx
      exact ⟨_, rfl, c, rfl, c0, c1, true, rfl, iteF ⟨⟨_, rfl⟩, rfl⟩⟩
    · rintro σ H4 ⟨⟨y, rfl⟩, rfl⟩
      refine ⟨_, rfl, _, rfl, o, CH, dx, _, rfl, s3 _ _ ho, T.cl, T.n1, by show 0 < 1000; decide, ?_⟩
      refine ⟨_, rfl, _, rfl, o, CH, dx, _, rfl, upd_same, T.cl, T.n2, by show 1 < 1000; decide, ?_⟩
      refine ⟨_, rfl, _, rfl, o, CH, dx, _, rfl, upd_same, T.cl, T.n3, by show 2 < 1000; decide, ?_⟩
      refine ⟨_, rfl, _, rfl, o, CH, dx, _, rfl, upd_same, T.cl, T.n4, by show 3 < 1000; decide, ?_⟩
      have tk1 : ∀ {A : Hp} {fs : List (Str × V)} {ob : HO}, A o = some (.ins CH dx fs) → Tk A (upd A o ob) := fun {A fs ob} h => tk_ins h
      refine q _ (((((Bt.of_same s3).upd1 (by simp)).upd1 (by simp)).upd1 (by simp)).upd1 (by simp)) ⟨dx, v, (.ref tg, .int p, .int d), upd_same, ?_, gf, trivial⟩
      exact ((((hv.tk (tk_same s3)).tk (tk1 (s3 _ _ ho))).tk (tk1 upd_same)).tk (tk1 upd_same)).tk (tk1 upd_same)
end
end WdQ

set_option Elab.async false
set_option linter.all false
set_option maxRecDepth 100000
set_option maxHeartbeats 4000000
set_option exponentiation.threshold 5000
namespace WdQ
open PySem PySem.Spec PyProof.Rows L2 WdM Wd
section
variable {P : Program} {w : World} {K : PySem.W.Frag} {mg : Str → Option Value} {base : Heap} {CY CN : Addr}
/-! ### a story, made of rows or of nothing -/
def spSIa (K : PySem.W.Frag) (CY : Addr) : Sp := fun vs H Q _ => ∃ (o dx : Addr) (v : V) (rows : List (Str × Int)), vs = [.ref o, v] ∧ H o = some (.ins CY dx []) ∧ ((v = .non ∧ rows = []) ∨ DeathsAt K H v rows) ∧ GoodD rows ∧ ∀ H', Bt [o] H H' → StoryAt K CY H' o rows → Q .non H'
theorem ok_SIa {f fC : Addr} {fd fdC : FuncData} {k : Nat} (T : SyF K CY) (F : FunD K "__init__" "Story.__init__" (defArgs sSI) (defBody sSI) (defScope sSI) [.non] [] f fd) (GC : FnOk P w K mg base (L2.CX P w) (k + 4) fC fdC ["deaths"] (spChkD K)) (DC : Df K mg "check_deaths" sChkD fC fdC ["deaths"]) :
    FnOk P w K mg base (L2.CX P w) (k + 5) f fd ["self", "deaths"] (spSIa K CY) := by
  refine F.ok scSI (fun vs H Q E h => ?_) (fun cdv A outer s H vs Q E hr h => ?_)
  · obtain ⟨o, dx, v, rows, rfl, _⟩ := h
    rfl
  · obtain ⟨o, dx, v, rows, rfl, ho, hv, gd, q⟩ := h
    refine ⟨_, pss_cons (ps_set (i := 2) scSI.nd rfl (.inl rfl) (pe_ifExp (pt_cmpR op_isN (pv 1) pe_non (nomark _)) (pe_tup pa_nil) (pv 1)))
      (pss_cons (ps_expr (pe_callS GC hr (by rfl) DC.mg DC.fn.kp DC.bd (fun σ => passAt (takes_of rfl rfl rfl rfl) σ) (pa_cons (pv 2) pa_nil)))
      (pss_one (ps_fld (pv 0) (pv 2) rfl))), ?_⟩
    have fin : ∀ H1 H2 (t : Addr), Same H H1 → Same H1 H2 → DeathsAt K H1 (.ref t) rows → Q .non (upd H2 o (.ins CY dx [("deaths", .ref t)])) := fun H1 H2 t s1 s2 dh => by
      refine q _ ((Bt.of_same (s1.trans s2)).upd1 (by simp)) ⟨dx, .ref t, upd_same, ?_, gd⟩
      refine (dh.tk (tk_same s2)).tk ?_
      exact tk_ins (s2 _ _ (s1 _ _ ho))
    rcases hv with ⟨rfl, rfl⟩ | hv
    · refine ⟨_, rfl, rfl, _, rfl, iteT ⟨by show 0 ≤ sizeLine; decide, fun t nt => ?_⟩⟩
      have s1 : Same H (upd H t (.tup [])) := same_new nt
      have dh : DeathsAt K (upd H t (.tup [])) (.ref t) [] := ⟨t, [], rfl, sqT upd_same, rfl, fun i x h => by simp at h⟩
      refine ⟨_, rfl, .ref t, [], rfl, dh, gd, fun H2 s2 => ?_⟩
      exact ⟨_, rfl, _, rfl, o, CY, dx, _, rfl, s2 _ _ (s1 _ _ ho), T.cl, T.n1, by show 0 < 1000; decide, fin _ H2 t s1 s2 dh⟩
    · have hv0 := hv
      obtain ⟨t, xs, rfl, hs, xl, hx⟩ := hv
      refine ⟨_, rfl, rfl, _, rfl, iteF ⟨_, rfl, _, rfl, .ref t, rows, rfl, hv0, gd, fun H1 s1 => ?_⟩⟩
      exact ⟨_, rfl, _, rfl, o, CY, dx, _, rfl, s1 _ _ ho, T.cl, T.n1, by show 0 < 1000; decide, fin H H1 t (Same.refl H) s1 hv0⟩
theorem same_made {G H' : Hp} {o d : Addr} {h1 h2 : HO} (no : G o = none) (nd : G d = none) (b : Bt [o] (upd (upd G d h1) o h2) H') : Same G H' := fun c x e => by
  have c1 : c ≠ o := ne_of_none e no
  have c2 : c ≠ d := ne_of_none e nd
  exact b c x (by simp [c1]) (by rw [upd_ne c1, upd_ne c2]; exact e)
end
end WdQ



set_option Elab.async false
set_option linter.all false
set_option maxRecDepth 100000
set_option maxHeartbeats 4000000
set_option exponentiation.threshold 5000
namespace WdQ
open PySem PySem.Spec PyProof.Rows L2 WdM Wd
/-! ### what a house is made of, drawn -/
abbrev sHome : Stmt := topS 61
def nHome : List Str := ["_law_pool_here", "_law_most", "_law_many", "_law_folk", "_law_wares", "_law_sorts", "_law_crowd", "_law_k", "_law_at", "_law_size", "_law_ware", "_law_store"]
theorem scHome : FnScope nHome ["_law_pool_here", "_law_most"] (defScope sHome) := ⟨rfl, rfl, rfl, by decide +kernel, rfl, by decide +kernel, by decide +kernel⟩
section
variable {P : Program} {w : World} {K : PySem.W.Frag} {mg : Str → Option Value} {base : Heap}
theorem rows_snoc {α : Type} {f : α → List V} {H : Hp} {xs : List V} {rows : List α} {b : Addr} {r0 : α} (l : xs.length = rows.length) (h : ∀ (i : Nat) (x : V), xs[i]? = some x → ∃ (a : Addr) (r : α), x = .ref a ∧ rows[i]? = some r ∧ SqT K H a (f r)) (hb : SqT K H b (f r0)) :
    ∀ (i : Nat) (x : V), (xs ++ [V.ref b])[i]? = some x → ∃ (a : Addr) (r : α), x = .ref a ∧ (rows ++ [r0])[i]? = some r ∧ SqT K H a (f r) := by
  intro i x hx
  by_cases hi : i < xs.length
  · rw [List.getElem?_append_left hi] at hx
    obtain ⟨a, r, e1, e2, e3⟩ := h i x hx
    exact ⟨a, r, e1, by rw [List.getElem?_append_left (by omega)]; exact e2, e3⟩
  · have hl := lt_get hx
    rw [List.length_append] at hl
    simp only [List.length_cons, List.length_nil] at hl
    obtain rfl : i = xs.length := by omega
    rw [List.getElem?_append_right (Nat.le_refl _), Nat.sub_self] at hx
    cases hx
    exact ⟨b, r0, rfl, by rw [List.getElem?_append_right (by omega), l, Nat.sub_self]; rfl, hb⟩
theorem rows_tk {α : Type} {f : α → List V} {H H' : Hp} {xs : List V} {rows : List α} (e : Tk H H') (h : ∀ (i : Nat) (x : V), xs[i]? = some x → ∃ (a : Addr) (r : α), x = .ref a ∧ rows[i]? = some r ∧ SqT K H a (f r)) :
    ∀ (i : Nat) (x : V), xs[i]? = some x → ∃ (a : Addr) (r : α), x = .ref a ∧ rows[i]? = some r ∧ SqT K H' a (f r) := fun i x hx => by
  obtain ⟨a, r, e1, e2, e3⟩ := h i x hx
  exact ⟨a, r, e1, e2, e.sq e3⟩
def rowF (r : Str × Option Str) : List V := [.str r.1, parV r.2]
/-- None, or one of those ahead -/
def tPar (K : PySem.W.Frag) : TE := fun σ H Q => ∃ (aW : Addr) (zs : List Str) (i : Nat) (d : Int), σ[3]? = some (some (.ref aW)) ∧ σ[7]? = some (some (.int (0 + (i : Nat)))) ∧ σ[8]? = some (some (.int d)) ∧ H aW = some (.lst (zs.map V.str)) ∧ 0 ≤ d ∧ i ≤ zs.length ∧ ∀ o : Option Str, (∀ y, o = some y → y ∈ zs.take i) → Q (parV o) H
def spHome (K : PySem.W.Frag) (M : Int) : Sp := fun vs H Q _ => ∃ l : Addr, vs = [.ref l, .int M] ∧ PoolAt H l ∧ ∀ (H' : Hp) (p tp tg : Addr) (pu de : Int) (rows : List (Str × Option Str)) (goods : List (Str × Str × Int)), Bt [l] H H' → PoolAt H' l → SqT K H' p [.ref tp, .ref tg, .int pu, .int de] → FolkAt K H' (.ref tp) rows → GoodF rows → (rows.length : Int) ≤ M → GoodsAt K H' (.ref tg) goods → GoodG goods → 0 ≤ pu → pu ≤ 1000000000 → 0 ≤ de → de ≤ 1000000000 → Q (.ref p) H'
theorem sizes {d : Int} (d0 : 0 ≤ d) (d1 : d < 3) : ∃ n : Int, atI [V.int 10, V.int 100, V.int (10 ^ (9 : Int).toNat)] d = some (.int n) ∧ 10 ≤ n ∧ n ≤ 1000000000 := by
  have hd : d = 0 ∨ d = 1 ∨ d = 2 := by omega
  rcases hd with rfl | rfl | rfl
  · exact ⟨10, rfl, by decide, by decide⟩
  · exact ⟨100, rfl, by decide, by decide⟩
  · exact ⟨1000000000, rfl, by decide, by decide⟩
theorem ok_home {f fT fW : Addr} {fd fdT fdW : FuncData} {k : Nat} {M : Int} (M1 : 1 ≤ M) (M8 : M ≤ 8) (B : Bi mg) (D : Df K mg "_law_home" sHome f fd ["_law_pool_here", "_law_most"]) (DT : Df K mg "_law_take" sTake fT fdT ["_law_pool_here", "_law_many"]) (DW : Df K mg "_law_words" sWords fW fdW ["_law_pool_here", "_law_many"])
    (GT : FnOk P w K mg base CX0 (k + 1) fT fdT ["_law_pool_here", "_law_many"] spTake) (GW : FnOk P w K mg base CX0 (k + 2) fW fdW ["_law_pool_here", "_law_many"] spWords) : FnOk P w K mg base CX0 (k + 3) f fd ["_law_pool_here", "_law_most"] (spHome K M) := by
  refine D.fn.ok scHome (fun vs H Q E h => ?_) (fun cdv A outer s H vs Q E hr h => ?_)
  · obtain ⟨l, rfl, _⟩ := h
    rfl
  · obtain ⟨l, rfl, pool, q⟩ := h
    have r1 : Room (k + 1) _ := hr.mono (by omega)
    refine ⟨_, pss_cons (ps_set (i := 2) scHome.nd rfl (.inl rfl) (pe_op op_add pe_int (pe_call GT r1 (by rfl) DT.mg DT.fn.kp DT.bd .nil pass0 (pa_cons (pv 0) (pa_cons (pv 1) pa_nil)))))
      (pss_cons (ps_asg (pe_tup (pa_cons (pe_call GW hr (by rfl) DW.mg DW.fn.kp DW.bd .nil pass0 (pa_cons (pv 0) (pa_cons (pv 2) pa_nil))) (pa_cons (pe_call GW hr (by rfl) DW.mg DW.fn.kp DW.bd .nil pass0 (pa_cons (pv 0) (pa_cons (pe_call GT r1 (by rfl) DT.mg DT.fn.kp DT.bd .nil pass0 (pa_cons (pv 0) (pa_cons (pe_op op_add (pv 1) pe_int) pa_nil))) pa_nil))) (pa_cons (pe_call GW hr (by rfl) DW.mg DW.fn.kp DW.bd .nil pass0 (pa_cons (pv 0) (pa_cons pe_int pa_nil))) pa_nil))))
          (pg_tup rfl (pgs_cons (pg_name (i := 3) scHome.nd rfl (.inl rfl)) (pgs_cons (pg_name (i := 4) scHome.nd rfl (.inl rfl)) (pgs_cons (pg_name (i := 5) scHome.nd rfl (.inr rfl)) pgs_nil)))))
      (pss_cons (ps_set (i := 6) scHome.nd rfl (.inl rfl) (pe_lst pa_nil))
      (pss_cons (ps_for PassesOwn.never rfl (pi_range1 (by rfl) B.range (pa_cons (pv 2) pa_nil)) (pg_name (i := 7) scHome.nd rfl (.inl rfl))
        (pss_cons (ps_set (i := 8) scHome.nd rfl (.inl rfl) (pe_call GT r1 (by rfl) DT.mg DT.fn.kp DT.bd .nil pass0 (pa_cons (pv 0) (pa_cons (pe_op op_add (pv 7) pe_int) pa_nil))))
        (pss_one (ps_expr (pe_bm PySem.F.plainAttrs_list PySem.F.slot_list_append PySem.F.type_list_append mt_append (pv 6) (pa_cons (pe_tup (pa_cons (pe_ix (r := rIxL K) ix_list (pv 3) (pv 7) (fun _ _ => rfl)) (pa_cons (PE.wk (t' := tPar K) (pe_ifExp (pt_cmpR op_ge (pv 8) (pv 7) (nomark _)) pe_non (pe_ix (r := rIxL K) ix_list (pv 3) (pv 8) (fun _ _ => rfl))) (by
            rintro σ H Q ⟨aW, zs, i, d, h3, h7, h8, hW, d0, il, q⟩
            refine ⟨_, h8, _, h7, d, _, rfl, rfl, _, rfl, ?_⟩
            by_cases dc : (0 : Int) + (i : Nat) ≤ d
            · rw [decide_eq_true dc]
              exact iteT (q none (fun y e => nomatch e))
            · rw [decide_eq_false dc]
              obtain ⟨n, rfl⟩ := Int.eq_ofNat_of_zero_le d0
              have nl : n < zs.length := by omega
              have hy : zs[n]? = some zs[n] := List.getElem?_eq_getElem nl
              have hyV : (zs.map V.str)[n]? = some (.str zs[n]) := by rw [List.getElem?_map, hy]; rfl
              refine iteF ⟨_, h3, _, h8, aW, _, _, .str zs[n], rfl, rfl, sqL hW, atI_nat hyV, q (some zs[n]) fun y e => ?_⟩
              cases e
              exact List.mem_of_getElem? (i := n) (by rw [List.getElem?_take_of_lt (by omega)]; exact hy))) pa_nil))) pa_nil))))))
      (pss_cons (ps_set (i := 9) scHome.nd rfl (.inr rfl) (pe_ix (r := rIxL K) ix_list (pe_lst (pa_cons pe_int (pa_cons pe_int (pa_cons (pe_op op_pow pe_int pe_int) pa_nil)))) (pe_call GT r1 (by rfl) DT.mg DT.fn.kp DT.bd .nil pass0 (pa_cons (pv 0) (pa_cons pe_int pa_nil))) (fun _ _ => rfl)))
      (pss_cons (ps_setLc (i := 11) (own := [("_law_ware", 10)]) (g := gName 10) (tt := tYes) rfl scHome.nd rfl rfl (sw_true rfl rfl rfl (by decide +kernel)) (pi_list (pv 4)) (blkOk_by (own := [("_law_ware", 10)]) (N := nHome) (sc := defScope sHome) (by decide +kernel))
          (fun _ _ _ _ _ => pg_name (i := 10) scHome.nd rfl (Or.inl rfl)) (fun _ _ _ _ _ => pts_nil) (fun _ _ _ _ _ => pe_tup (pa_cons (pv 10) (pa_cons (pe_ix (r := rIxL K) ix_list (pv 5) (pe_call GT r1 (by rfl) DT.mg DT.fn.kp DT.bd .nil pass0 (pa_cons (pv 0) (pa_cons pe_int pa_nil))) (fun _ _ => rfl)) (pa_cons (pe_call GT r1 (by rfl) DT.mg DT.fn.kp DT.bd .nil pass0 (pa_cons (pv 0) (pa_cons (pe_op op_add (pv 9) pe_int) pa_nil))) pa_nil)))))
      (pss_one (ps_ret (pe_tup (pa_cons (pe_callTy call_tuple_of (by rfl) B.tuple boot_tuple (pa_cons (pv 6) pa_nil)) (pa_cons (pe_callTy call_tuple_of (by rfl) B.tuple boot_tuple (pa_cons (pv 11) pa_nil)) (pa_cons (pe_op op_mod (pe_call GT r1 (by rfl) DT.mg DT.fn.kp DT.bd .nil pass0 (pa_cons (pv 0) (pa_cons (pe_op op_mul pe_int (pv 9)) pa_nil))) (pe_op op_add (pe_op op_pow pe_int pe_int) pe_int)) (pa_cons (pe_call GT r1 (by rfl) DT.mg DT.fn.kp DT.bd .nil pass0 (pa_cons (pv 0) (pa_cons (pe_op op_add (pv 9) pe_int) pa_nil))) pa_nil)))))))))))), ?_⟩
    refine ⟨_, rfl, _, rfl, l, M, rfl, pool, by omega, fun H0 d0 b0 pool0 d00 d01 => ⟨1, d0, rfl, rfl, ?_⟩⟩
    obtain ⟨n0, rfl⟩ := Int.eq_ofNat_of_zero_le d00
    have key : ((fun i j : Int => V.int (i + j)) 1 (n0 : Nat)) = V.int ((n0 + 1 : Nat) : Int) := by
      show V.int (1 + (n0 : Nat)) = _
      rw [show (1 : Int) + (n0 : Nat) = ((n0 + 1 : Nat) : Int) by omega]
    rw [key]
    obtain ⟨m, hm⟩ : ∃ m, m = n0 + 1 := ⟨_, rfl⟩
    rw [← hm]
    have m6 : (m : Int) ≤ M := by omega
    have m1 : 1 ≤ m := by omega
    clear key hm d00 d01 n0
    refine ⟨_, rfl, _, rfl, l, m, rfl, pool0, by omega, fun H1 aW zs b1 pool1 nW hW zl nd nm => ?_⟩
    refine ⟨_, rfl, _, rfl, _, rfl, M, 1, rfl, rfl, l, _, rfl, pool1, by omega, fun H2 d2 b2 pool2 d20 d21 => ?_⟩
    obtain ⟨n2, rfl⟩ := Int.eq_ofNat_of_zero_le d20
    have n26 : (n2 : Int) ≤ M := by omega
    refine ⟨l, n2, rfl, pool2, by omega, fun H3 aG gs b3 pool3 nG hG gl gnd gnm => ?_⟩
    refine ⟨_, rfl, l, 2, rfl, pool3, by decide, fun H4 aK ks b4 pool4 nK hK kl knd knm => ?_⟩
    refine ⟨by show 3 ≤ sizeLine; decide, fun tt ntt => ⟨tt, _, rfl, sqT upd_same, rfl, _, _, rfl, _, _, rfl, _, _, rfl, rfl, ?_⟩⟩
    have nlW : aW ≠ l := fun e => pool0.ne nW e.symm
    have nlG : aG ≠ l := fun e => pool2.ne nG e.symm
    have nlK : aK ≠ l := fun e => pool3.ne nK e.symm
    have hW5 : (upd H4 tt (.tup [.ref aW, .ref aG, .ref aK])) aW = some (.lst (zs.map V.str)) := same_new ntt _ _ (kept ((b2.trans b3).trans b4) hW (by simp [nlW]))
    have hG5 : (upd H4 tt (.tup [.ref aW, .ref aG, .ref aK])) aG = some (.lst (gs.map V.str)) := same_new ntt _ _ (kept b4 hG (by simp [nlG]))
    have hK5 : (upd H4 tt (.tup [.ref aW, .ref aG, .ref aK])) aK = some (.lst (ks.map V.str)) := same_new ntt _ _ hK
    have b5 : Bt [l] H (upd H4 tt (.tup [.ref aW, .ref aG, .ref aK])) := ((((b0.trans b1).trans b2).trans b3).trans b4).new ntt
    have pool5 : PoolAt (upd H4 tt (.tup [.ref aW, .ref aG, .ref aK])) l := pool4.same (same_new ntt)
    revert hW5 hG5 hK5 b5 pool5
    generalize upd H4 tt (.tup [.ref aW, .ref aG, .ref aK]) = H5
    intro hW5 hG5 hK5 b5 pool5
    clear b0 b1 b2 b3 b4 pool0 pool1 pool2 pool3 pool4 nW nG nK hW hG hK ntt d20 d21
    refine ⟨by show 0 ≤ sizeLine; decide, fun aF nF => ?_⟩
    have nlF : l ≠ aF := pool5.ne nF
    have nWF : aW ≠ aF := ne_of_none hW5 nF
    have nGF : aG ≠ aF := ne_of_none hG5 nF
    have nKF : aK ≠ aF := ne_of_none hK5 nF
    have fF : H aF = none := by
      cases e : H aF with
      | none => rfl
      | some o =>
        have := b5 aF o (by simp [nlF.symm]) e
        rw [nF] at this
        cases this
    refine ⟨_, rfl, (m : Int), rfl, by omega, by omega, for_range (lo := 0) (n := ((m : Nat) : Int).toNat) (fun i σ H' => (∃ y7 y8 : Option V, σ = [some (.ref l), some (.int M), some (.int (m : Nat)), some (.ref aW), some (.ref aG), some (.ref aK), some (.ref aF), y7, y8, none, none, none]) ∧ H' aW = some (.lst (zs.map V.str)) ∧ H' aG = some (.lst (gs.map V.str)) ∧ H' aK = some (.lst (ks.map V.str)) ∧ (∃ (xs : List V) (rows : List (Str × Option Str)), H' aF = some (.lst xs) ∧ xs.length = i ∧ rows.length = i ∧ rows.map Prod.fst = zs.take i ∧ (∀ (j : Nat) (x : V), xs[j]? = some x → ∃ (a : Addr) (r : Str × Option Str), x = .ref a ∧ rows[j]? = some r ∧ SqT K H' a (rowF r)) ∧ (∀ (j : Nat) (r : Str × Option Str) (y : Str), rows[j]? = some r → r.2 = some y → y ∈ zs.take j)) ∧ Bt [l] H H' ∧ PoolAt H' l)
      ⟨⟨none, none, rfl⟩, ?_, ?_, ?_, ⟨[], [], upd_same, rfl, rfl, rfl, (fun j x hx => nomatch hx), (fun j r y hr => nomatch hr)⟩, b5.new nF, pool5.upd nlF⟩ ?_ ?_⟩
    · rw [upd_ne nWF]
      exact hW5
    · rw [upd_ne nGF]
      exact hG5
    · rw [upd_ne nKF]
      exact hK5
    · rintro i σ H6 hi ⟨⟨y7, y8, rfl⟩, hW6, hG6, hK6, ⟨xs, rows, hF6, xl, rl, rz, hx, pr⟩, b6, pool6⟩
      refine ⟨_, rfl, _, rfl, _, 2, rfl, rfl, l, _, rfl, pool6, by omega, fun H7 d b7 pool7 d0 d1 => ?_⟩
      have hW7 := kept b7 hW6 (by simp [nlW])
      have hG7 := kept b7 hG6 (by simp [nlG])
      have hK7 := kept b7 hK6 (by simp [nlK])
      have hF7 := kept b7 hF6 (by simp [nlF.symm])
      have tk7 : Tk H6 H7 := b7.tk pool6.lst
      obtain ⟨z, hz⟩ : ∃ z, zs[i]? = some z := ⟨zs[i], List.getElem?_eq_getElem (by omega)⟩
      have hzV : (zs.map V.str)[i]? = some (.str z) := by rw [List.getElem?_map, hz]; rfl
      have hat : atI (zs.map V.str) (0 + (i : Nat)) = some (.str z) := by
        rw [Int.zero_add]
        exact atI_nat hzV
      refine ⟨_, rfl, .inl ⟨rfl, _, sqL hF7⟩, _, rfl, _, rfl, aW, _, _, .str z, rfl, rfl, sqL hW7, hat, ?_⟩
      refine ⟨aW, zs, i, d, rfl, rfl, rfl, hW7, d0, by omega, fun o ho => ⟨by show 2 ≤ sizeLine; decide, fun tp ntp => ?_⟩⟩
      have nlt : l ≠ tp := pool7.ne ntp
      have s8 : Same H7 (upd H7 tp (.tup [.str z, parV o])) := same_new ntp
      have tk8 : Tk H6 (upd H7 tp (.tup [.str z, parV o])) := tk7.trans (tk_new ntp)
      have sN : SqT K (upd H7 tp (.tup [.str z, parV o])) tp (rowF (z, o)) := sqT upd_same
      have b8 : Bt [l] H (upd H7 tp (.tup [.str z, parV o])) := (b6.trans b7).new ntp
      have pool8 := pool7.upd (o := .tup [.str z, parV o]) nlt
      revert s8 tk8 sN b8 pool8
      generalize upd H7 tp (.tup [.str z, parV o]) = H8
      intro s8 tk8 sN b8 pool8
      have hF8 := s8 _ _ hF7
      have tk9 : Tk H8 (upd H8 aF (.lst (xs ++ [.ref tp]))) := tk_lst hF8
      refine ⟨aF, xs, .ref tp, rfl, rfl, hF8, by rw [xl]; exact Nat.lt_of_lt_of_le (show i < 8 by omega) (by decide), ⟨_, _, rfl⟩, ?_, ?_, ?_, ⟨xs ++ [.ref tp], rows ++ [(z, o)], upd_same, ?_, ?_, ?_, ?_, ?_⟩, b8.upd0 fF, pool8.upd nlF⟩
      · rw [upd_ne nWF]
        exact s8 _ _ hW7
      · rw [upd_ne nGF]
        exact s8 _ _ hG7
      · rw [upd_ne nKF]
        exact s8 _ _ hK7
      · rw [List.length_append, xl]
        rfl
      · rw [List.length_append, rl]
        rfl
      · rw [List.map_append, rz, take_more hz]
        rfl
      · exact rows_tk tk9 (rows_snoc (f := rowF) (by omega) (rows_tk tk8 hx) sN)
      · intro j r y hr e
        by_cases hj : j < rows.length
        · rw [List.getElem?_append_left hj] at hr
          exact pr j r y hr e
        · have hj2 : j = rows.length := by
            have := lt_get hr
            rw [List.length_append] at this
            simp only [List.length_cons, List.length_nil] at this
            omega
          subst hj2
          rw [List.getElem?_append_right (Nat.le_refl _), Nat.sub_self] at hr
          cases hr
          rw [rl]
          exact ho y e
    rintro σ H6 ⟨⟨y7, y8, rfl⟩, hW6, hG6, hK6, ⟨xs, rows, hF6, xl, rl, rz, hx, pr⟩, b6, pool6⟩
    have rm : rows.length = m := by omega
    have rz2 : rows.map Prod.fst = zs := by rw [rz]; exact List.take_of_length_le (by omega)
    have gf : GoodF rows := ⟨by omega, by omega, rz2 ▸ nd, fun r hr => nm r.1 (rz2 ▸ List.mem_map_of_mem hr), fun j r y hr e => by
      have := pr j r y hr e
      rw [List.map_take, rz2]
      exact this⟩
    have xl2 : xs.length = rows.length := by omega
    clear pr rz rz2 nd nm zl hW6 hW5 hG5 hK5 b5 pool5 nF nWF nlW rl xl nGF nKF fF
    refine ⟨10, 9, rfl, rfl, ⟨by decide, by decide, by decide⟩, by show 3 ≤ sizeLine; decide, fun pS nS => ?_⟩
    have hS7 : (upd H6 pS (.lst [.int 10, .int 100, .int (10 ^ (9 : Int).toNat)])) pS = some (.lst [.int 10, .int 100, .int (10 ^ (9 : Int).toNat)]) := upd_same
    have s7 : Same H6 (upd H6 pS (.lst [.int 10, .int 100, .int (10 ^ (9 : Int).toNat)])) := same_new nS
    have nSl : pS ≠ l := fun e => pool6.ne nS e.symm
    revert hS7 s7
    generalize upd H6 pS (.lst [.int 10, .int 100, .int (10 ^ (9 : Int).toNat)]) = H7
    intro hS7 s7
    refine ⟨_, rfl, l, 3, rfl, pool6.same s7, by decide, fun H8 d8 b8 pool8 d80 d81 => ?_⟩
    obtain ⟨sz, esz, z10, z9⟩ := sizes d80 d81
    refine ⟨pS, _, d8, _, rfl, rfl, sqL (kept b8 hS7 (by simp [nSl])), esz, ?_⟩
    have b68 : Bt [l] H6 H8 := (Bt.of_same s7).trans b8
    have hG8 := kept b68 hG6 (by simp [nlG])
    have hK8 := kept b68 hK6 (by simp [nlK])
    have hF8 := kept b68 hF6 (by simp [nlF.symm])
    have hx8 := rows_tk (b68.tk pool6.lst) hx
    have b08 := b6.trans b68
    clear hS7 s7 nS nSl b8 b68 hG6 hK6 hF6 hx b6 pool6 d80 d81 esz
    refine ⟨_, rfl, aG, rfl, ⟨_, sqL hG8⟩, fun L nL => ?_⟩
    have nlL : L ≠ l := fun e => pool8.ne nL e.symm
    refine lc_list (K := K) (a := aG) (xs := gs.map V.str) (fun j H' => (∃ (ys : List V) (goods : List (Str × Str × Int)), H' L = some (.lst ys) ∧ ys.length = goods.length ∧ goods.map Prod.fst = gs.take j ∧ (∀ (i : Nat) (x : V), ys[i]? = some x → ∃ (a : Addr) (r : Str × Str × Int), x = .ref a ∧ goods[i]? = some r ∧ SqT K H' a (rowG r)) ∧ ∀ r ∈ goods, Nm r.2.1 ∧ 0 ≤ r.2.2 ∧ r.2.2 ≤ 1000000000) ∧ Bt [l] H8 H' ∧ PoolAt H' l) ⟨⟨[], [], upd_same, rfl, rfl, (fun j x hx => nomatch hx), fun r hr => nomatch hr⟩, (Bt.refl H8).new nL, pool8.upd nlL.symm⟩ (fun j H' _ h => sqL (kept h.2.1 hG8 (by simp [nlG]))) ?_ ?_
    · rintro j x H9 hx9 ⟨⟨ys, goods, hL, yl, gz, hy, gd⟩, b9, pool9⟩
      obtain ⟨z, hz, rfl⟩ : ∃ z, gs[j]? = some z ∧ x = .str z := by
        rw [List.getElem?_map] at hx9
        cases hc : gs[j]? with
        | none => rw [hc] at hx9; cases hx9
        | some y => rw [hc] at hx9; cases hx9; exact ⟨y, rfl, rfl⟩
      have jl := lt_get hz
      refine ⟨rfl, tyes (iteT ⟨_, rfl, _, rfl, _, rfl, l, 2, rfl, pool9, by decide, fun H10 d b10 pool10 d0 d1 => ?_⟩)⟩
      have hK10 := kept (b9.trans b10) hK8 (by simp [nlK])
      obtain ⟨_, ex, kz, rfl, nkz⟩ := at_of (P := fun v => ∃ z : Str, v = .str z ∧ Nm z) (xs := ks.map V.str) (d := d) (fun x hx => by
        obtain ⟨z, hz, rfl⟩ := List.mem_map.mp hx
        exact ⟨z, rfl, knm z hz⟩) d0 (by rw [List.length_map, kl]; exact d1)
      refine ⟨aK, _, d, _, rfl, rfl, sqL hK10, ex, _, rfl, _, rfl, sz, 1, rfl, rfl, l, _, rfl, pool10, by omega, fun H11 c b11 pool11 c0 c1 => ⟨by show 3 ≤ sizeLine; decide, fun tp ntp => ?_⟩⟩
      have b911 := b10.trans b11
      have hL11 := kept b911 hL (by simp [nlL])
      have hL12 : (upd H11 tp (.tup [.str z, .str kz, .int c])) L = some (.lst ys) := same_new ntp _ _ hL11
      have tk12 : Tk H9 (upd H11 tp (.tup [.str z, .str kz, .int c])) := (b911.tk pool9.lst).trans (tk_new ntp)
      refine ⟨ys, hL12, ?_, ⟨ys ++ [.ref tp], goods ++ [(z, kz, c)], upd_same, ?_, ?_, ?_, ?_⟩, (((b9.trans b911).new ntp).upd0 nL), (pool11.same (same_new ntp)).upd nlL.symm⟩
      · have := congrArg List.length gz
        rw [List.length_map, List.length_take] at this
        rw [yl]
        exact small1000 (by omega)
      · rw [List.length_append, List.length_append, yl]
        rfl
      · rw [List.map_append, gz, take_more hz]
        rfl
      · exact rows_tk (tk_lst hL12) (rows_snoc (f := rowG) yl (rows_tk tk12 hy) (sqT upd_same))
      · intro r hr
        rcases List.mem_append.mp hr with h | h
        · exact gd r h
        · rw [List.mem_singleton.mp h]
          exact ⟨nkz, c0, by show c ≤ _; omega⟩
    rintro H9 ⟨⟨ys, goods, hL, yl, gz, hy, gd⟩, b9, pool9⟩
    rw [List.length_map, List.take_length] at gz
    have gg : GoodG goods := ⟨by have := congrArg List.length gz; rw [List.length_map] at this; omega, gz ▸ gnd, fun r hr => ⟨gnm r.1 (gz ▸ List.mem_map_of_mem hr), (gd r hr).1⟩, fun r hr => (gd r hr).2⟩
    have hF9 := kept b9 hF8 (by simp [nlF.symm])
    have hx9 := rows_tk (b9.tk pool8.lst) hx8
    have b09 := b08.trans b9
    refine ⟨_, rfl, aF, xs, rfl, .inl ⟨sqL hF9, fun tp ntp => ?_⟩⟩
    refine ⟨_, rfl, L, ys, rfl, .inl ⟨sqL (same_new ntp _ _ hL), fun tg ntg => ?_⟩⟩
    have fk : FolkAt K (upd (upd H9 tp (.tup xs)) tg (.tup ys)) (.ref tp) rows := ⟨tp, xs, rfl, (tk_new ntg).sq (sqT upd_same), xl2, rows_tk (tk_new ntg) (rows_tk (tk_new ntp) hx9)⟩
    have gds : GoodsAt K (upd (upd H9 tp (.tup xs)) tg (.tup ys)) (.ref tg) goods := ⟨tg, ys, rfl, sqT upd_same, yl, rows_tk (tk_new ntg) (rows_tk (tk_new ntp) hy)⟩
    have b10 : Bt [l] H (upd (upd H9 tp (.tup xs)) tg (.tup ys)) := (b09.new ntp).new ntg
    have pool10 : PoolAt (upd (upd H9 tp (.tup xs)) tg (.tup ys)) l := (pool9.same (same_new ntp)).same (same_new ntg)
    revert fk gds b10 pool10
    generalize upd (upd H9 tp (.tup xs)) tg (.tup ys) = H10
    intro fk gds b10 pool10
    refine ⟨_, rfl, _, rfl, 2, sz, rfl, rfl, .inl ⟨by decide, by decide⟩, l, _, rfl, pool10, by omega, fun H11 c b11 pool11 c0 c1 => ?_⟩
    refine ⟨10, 9, rfl, rfl, ⟨by decide, by decide, by decide⟩, _, 1, rfl, rfl, c, _, rfl, rfl, (by show (0 : Int) < 10 ^ (9 : Int).toNat + 1; decide), _, rfl, _, rfl, sz, 1, rfl, rfl, l, _, rfl, pool11, by omega, fun H12 e b12 pool12 e0 e1 => ⟨by show 4 ≤ sizeLine; decide, fun p np => ?_⟩⟩
    have tk := (b11.trans b12).tk pool10.lst
    have big : (10 : Int) ^ (9 : Int).toNat + 1 = 1000000001 := by decide
    refine q _ p tp tg _ e rows goods (((b10.trans b11).trans b12).new np) (pool12.same (same_new np)) (sqT upd_same) ((fk.tk tk).tk (tk_new np)) gf (by omega) ((gds.tk tk).tk (tk_new np)) gg ?_ ?_ e0 (by omega)
    · rw [big]
      exact Int.emod_nonneg _ (by decide)
    · rw [big]
      have := Int.emod_lt_of_pos c (show (0 : Int) < 1000000001 by decide)
      omega
end
end WdQ

set_option Elab.async false
set_option linter.all false
set_option maxRecDepth 100000
set_option maxHeartbeats 4000000
set_option exponentiation.threshold 5000
namespace WdQ
open PySem PySem.Spec PyProof.Rows L2 WdM Wd
abbrev sDeaths : Stmt := topS 63
def nDeaths : List Str := ["_law_pool_here", "_law_folk", "_law_dates_here", "_law_found", "_law_one", "_law_near", "_law_day"]
theorem scDeaths : FnScope nDeaths ["_law_pool_here", "_law_folk", "_law_dates_here"] (defScope sDeaths) := ⟨rfl, rfl, rfl, by decide +kernel, rfl, by decide +kernel, by decide +kernel⟩
section
variable {P : Program} {w : World} {K : PySem.W.Frag} {mg : Str → Option Value} {base : Heap}
def rowD (r : Str × Int) : List V := [.str r.1, .int r.2]
def spDeaths (K : PySem.W.Frag) : Sp := fun vs H Q _ => ∃ (l aN aD : Addr) (zs : List Str) (ds : List Int), vs = [.ref l, .ref aN, .ref aD] ∧ PoolAt H l ∧ H aN = some (.lst (zs.map V.str)) ∧ H aD = some (.lst (ds.map V.int)) ∧ aD ≠ l ∧ zs.Nodup ∧ (∀ z ∈ zs, Nm z) ∧ zs.length ≤ 8 ∧ 1 ≤ ds.length ∧ ds.length ≤ 100 ∧
  ∀ (H' : Hp) (p : Addr) (rows : List (Str × Int)), Bt [l] H H' → PoolAt H' l → DeathsAt K H' (.ref p) rows → GoodD rows → (∀ r ∈ rows, r.1 ∈ zs) → Q (.ref p) H'
theorem ok_deaths {f fT : Addr} {fd fdT : FuncData} {k : Nat} (B : Bi mg) (nS : mg "sorted" = none) (D : Df K mg "_law_deaths" sDeaths f fd ["_law_pool_here", "_law_folk", "_law_dates_here"]) (DT : Df K mg "_law_take" sTake fT fdT ["_law_pool_here", "_law_many"])
    (GT : FnOk P w K mg base CX0 (k + 1) fT fdT ["_law_pool_here", "_law_many"] spTake) : FnOk P w K mg base CX0 (k + 2) f fd ["_law_pool_here", "_law_folk", "_law_dates_here"] (spDeaths K) := by
  refine D.fn.ok scDeaths (fun vs H Q E h => ?_) (fun cdv A outer s H vs Q E hr h => ?_)
  · obtain ⟨l, aN, aD, zs, ds, rfl, _⟩ := h
    rfl
  · obtain ⟨l, aN, aD, zs, ds, rfl, pool, hN, hD, nDl, nd, nm, z8, d1, d100, q⟩ := h
    refine ⟨_, pss_cons (ps_set (i := 3) scDeaths.nd rfl (.inl rfl) (pe_lst pa_nil))
      (pss_cons (ps_for PassesOwn.never rfl (pi_list (pe_callB cr_sortedS (by rfl) nS (by decide +kernel) (pa_cons (pv 1) pa_nil))) (pg_name (i := 4) scDeaths.nd rfl (.inl rfl))
        (pss_cons (ps_set (i := 5) scDeaths.nd rfl (.inl rfl) (pe_op op_sub (pe_op op_add (pe_ix (r := rIxL K) ix_list (pv 2) (pe_call GT hr (by rfl) DT.mg DT.fn.kp DT.bd .nil pass0 (pa_cons (pv 0) (pa_cons (pe_callB call_len_seq (by rfl) B.len PySem.boot_len (pa_cons (pv 2) pa_nil)) pa_nil))) (fun _ _ => rfl)) (pe_call GT hr (by rfl) DT.mg DT.fn.kp DT.bd .nil pass0 (pa_cons (pv 0) (pa_cons pe_int pa_nil)))) pe_int))
        (pss_cons (ps_set (i := 6) scDeaths.nd rfl (.inl rfl) (pe_ix (r := rIxL K) ix_list (pe_lst (pa_cons (pv 5) (pa_cons (pe_op op_sub (pe_call GT hr (by rfl) DT.mg DT.fn.kp DT.bd .nil pass0 (pa_cons (pv 0) (pa_cons pe_int pa_nil))) pe_int) pa_nil))) (pe_call GT hr (by rfl) DT.mg DT.fn.kp DT.bd .nil pass0 (pa_cons (pv 0) (pa_cons pe_int pa_nil))) (fun _ _ => rfl)))
        (pss_one (ps_if (pt_cmpR op_eq (pe_call GT hr (by rfl) DT.mg DT.fn.kp DT.bd .nil pass0 (pa_cons (pv 0) (pa_cons pe_int pa_nil))) pe_int (nomark _))
          (pss_one (ps_expr (pe_bm PySem.F.plainAttrs_list PySem.F.slot_list_append PySem.F.type_list_append mt_append (pv 3) (pa_cons (pe_tup (pa_cons (pv 4) (pa_cons (pe_callB (call_max2 rfl) (by rfl) B.max (by decide +kernel) (pa_cons (pe_un un_neg pe_int) (pa_cons (pe_callB (call_min2 rfl) (by rfl) B.min (by decide +kernel) (pa_cons pe_int (pa_cons (pv 6) pa_nil))) pa_nil))) pa_nil))) pa_nil)))) pss_nil)))))
      (pss_one (ps_ret (pe_callTy call_tuple_of (by rfl) B.tuple boot_tuple (pa_cons (pv 3) pa_nil))))), ?_⟩
    refine ⟨by show 0 ≤ sizeLine; decide, fun aF nF => ?_⟩
    have hN1 : (upd H aF (.lst [])) aN = some (.lst (zs.map V.str)) := by rw [upd_ne (ne_of_none hN nF)]; exact hN
    refine ⟨_, rfl, aN, zs, rfl, sqL hN1, by omega, fun ys p perm srt np => ?_⟩
    have ny : ys.Nodup := perm.nodup_iff.mpr nd
    have pw := sorted_pw srt ny
    have y8 : ys.length ≤ 8 := by rw [perm.length_eq]; exact z8
    have nmy : ∀ z ∈ ys, Nm z := fun z hz => nm z (perm.mem_iff.mp hz)
    have npF : aF ≠ p := ne_of_none upd_same np
    have nFl : aF ≠ l := fun e => pool.ne nF e.symm
    have s1 : Same H (upd (upd H aF (.lst [])) p (.lst (ys.map V.str))) := (same_new nF).trans (same_new np)
    have hp2 : (upd (upd H aF (.lst [])) p (.lst (ys.map V.str))) p = some (.lst (ys.map V.str)) := upd_same
    have hF2 : (upd (upd H aF (.lst [])) p (.lst (ys.map V.str))) aF = some (.lst []) := by rw [upd_ne npF]; exact upd_same
    have npl : p ≠ l := fun e => by
      have := (pool.same (same_new nF)).ne np
      exact this e.symm
    revert s1 hp2 hF2
    generalize upd (upd H aF (.lst [])) p (.lst (ys.map V.str)) = H2
    intro s1 hp2 hF2
    have pool2 := pool.same s1
    have hD2 := s1 _ _ hD
    refine ⟨p, rfl, ⟨_, sqL hp2⟩, for_list (K := K) (a := p) (xs := ys.map V.str) (fun i σ H' => (∃ y4 y5 y6 : Option V, σ = [some (.ref l), some (.ref aN), some (.ref aD), some (.ref aF), y4, y5, y6]) ∧ H' aD = some (.lst (ds.map V.int)) ∧ H' p = some (.lst (ys.map V.str)) ∧ (∃ (xs : List V) (rows : List (Str × Int)), H' aF = some (.lst xs) ∧ xs.length = rows.length ∧ (rows.map Prod.fst).Sublist (ys.take i) ∧ (∀ r ∈ rows, -9999 ≤ r.2 ∧ r.2 ≤ 9999) ∧ (∀ (j : Nat) (x : V), xs[j]? = some x → ∃ (a : Addr) (r : Str × Int), x = .ref a ∧ rows[j]? = some r ∧ SqT K H' a (rowD r))) ∧ Bt [l] H H' ∧ PoolAt H' l)
      ⟨⟨none, none, none, rfl⟩, hD2, hp2, ⟨[], [], hF2, rfl, List.Sublist.refl _, (fun r hr => nomatch hr), (fun j x hx => nomatch hx)⟩, Bt.of_same s1, pool2⟩ (fun i σ H' _ h => sqL h.2.2.1) ?_ ?_⟩
    · rintro i x σ H4 hx ⟨⟨y4, y5, y6, rfl⟩, hD4, hp4, ⟨xs, rows, hF4, xl, sub, dy, hrow⟩, b4, pool4⟩
      obtain ⟨z, hz, rfl⟩ : ∃ z, ys[i]? = some z ∧ x = .str z := by
        rw [List.getElem?_map] at hx
        cases hc : ys[i]? with
        | none => rw [hc] at hx; cases hx
        | some y => rw [hc] at hx; cases hx; exact ⟨y, rfl, rfl⟩
      have r8 : rows.length ≤ 8 := by
        have := sub.length_le
        rw [List.length_map, List.length_take] at this
        omega
      refine ⟨_, rfl, _, rfl, _, rfl, aD, _, rfl, .inl (sqL hD4), l, _, rfl, pool4, by rw [List.length_map]; omega, fun H5 d5 b5 pool5 d50 d51 => ?_⟩
      rw [List.length_map] at d51
      obtain ⟨v5, e5, i5, rfl⟩ := at_of (P := fun v => ∃ i, v = .int i) (xs := ds.map V.int) (d := d5) (fun x hx => by
        obtain ⟨z, hz, rfl⟩ := List.mem_map.mp hx
        exact ⟨z, rfl⟩) d50 (by rw [List.length_map]; exact d51)
      have hD5 := kept b5 hD4 (by simp [nDl])
      refine ⟨aD, _, d5, _, rfl, rfl, sqL hD5, e5, ?_⟩
      refine ⟨_, rfl, l, 3, rfl, pool5, by decide, fun H6 d6 b6 pool6 d60 d61 => ⟨i5, d6, rfl, rfl, _, 1, rfl, rfl, ?_⟩⟩
      refine ⟨_, rfl, _, rfl, l, 19999, rfl, pool6, by decide, fun H7 d7 b7 pool7 d70 d71 => ⟨d7, 9999, rfl, rfl, by show 2 ≤ sizeLine; decide, fun pL nL => ?_⟩⟩
      have nlL : l ≠ pL := pool7.ne nL
      refine ⟨_, rfl, l, 2, rfl, pool7.upd nlL, by decide, fun H8 d8 b8 pool8 d80 d81 => ?_⟩
      obtain ⟨v8, e8, i8, rfl⟩ := at_of (P := fun v => ∃ i, v = .int i) (xs := [.int (i5 + d6 - 1), .int (d7 - 9999)]) (d := d8) (fun x hx => by
        simp only [List.mem_cons, List.not_mem_nil, or_false] at hx
        rcases hx with rfl | rfl <;> exact ⟨_, rfl⟩) d80 (by show d8 < 2; omega)
      refine ⟨pL, _, d8, _, rfl, rfl, sqL (kept b8 upd_same (by simp [nlL.symm])), e8, ?_⟩
      have b48 : Bt [l] H4 H8 := ((b5.trans (b6.trans b7)).new nL).trans b8
      refine ⟨_, rfl, l, 2, rfl, pool8, by decide, fun H9 d9 b9 pool9 d90 d91 => ⟨rfl, _, rfl, ?_⟩⟩
      have b49 := b48.trans b9
      have tk9 : Tk H4 H9 := b49.tk pool4.lst
      have hD9 := kept b49 hD4 (by simp [nDl])
      have hp9 := kept b49 hp4 (by simp [npl])
      have hF9 := kept b49 hF4 (by simp [nFl])
      have more : (ys.take i).Sublist (ys.take (i + 1)) := by
        rw [take_more hz]
        exact List.sublist_append_left _ _
      by_cases dp : d9 = 0
      rotate_left
      · rw [show decide (V.int d9 = V.int 0) = false by simp [dp]]
        exact iteF ⟨⟨_, _, _, rfl⟩, hD9, hp9, ⟨xs, rows, hF9, xl, sub.trans more, dy, rows_tk tk9 hrow⟩, b4.trans b49, pool9⟩
      rw [show decide (V.int d9 = V.int 0) = true by simp [dp]]
      refine iteT ⟨_, rfl, .inl ⟨rfl, _, sqL hF9⟩, _, rfl, 9999, rfl, _, rfl, 9999, i8, rfl, -9999, _, rfl, by show 2 ≤ sizeLine; decide, fun tp ntp => ?_⟩
      have dd : ∃ e : Int, (if (if i8 < 9999 then i8 else 9999) > -9999 then (if i8 < 9999 then i8 else 9999) else -9999) = e ∧ -9999 ≤ e ∧ e ≤ 9999 := ⟨_, rfl, by split <;> split at * <;> omega, by split <;> split at * <;> omega⟩
      obtain ⟨e, ee, e0, e1⟩ := dd
      rw [ee]
      have nlt : l ≠ tp := pool9.ne ntp
      have hF6 : (upd H9 tp (.tup [.str z, .int e])) aF = some (.lst xs) := by rw [upd_ne (ne_of_none hF9 ntp)]; exact hF9
      have hD6 : (upd H9 tp (.tup [.str z, .int e])) aD = some (.lst (ds.map V.int)) := by rw [upd_ne (ne_of_none hD9 ntp)]; exact hD9
      have hp6 : (upd H9 tp (.tup [.str z, .int e])) p = some (.lst (ys.map V.str)) := by rw [upd_ne (ne_of_none hp9 ntp)]; exact hp9
      have tk6 : Tk H4 (upd H9 tp (.tup [.str z, .int e])) := tk9.trans (tk_new ntp)
      have sN : SqT K (upd H9 tp (.tup [.str z, .int e])) tp (rowD (z, e)) := sqT upd_same
      have bb : Bt [l] H (upd H9 tp (.tup [.str z, .int e])) := (b4.trans b49).new ntp
      have pool10 := pool9.upd (o := .tup [.str z, .int e]) nlt
      revert hF6 hD6 hp6 tk6 sN bb pool10
      generalize upd H9 tp (.tup [.str z, .int e]) = H10
      intro hF6 hD6 hp6 tk6 sN bb pool10
      have tk7 : Tk H10 (upd H10 aF (.lst (xs ++ [.ref tp]))) := tk_lst hF6
      refine ⟨aF, xs, .ref tp, rfl, rfl, hF6, by rw [xl]; exact Nat.lt_of_lt_of_le (show rows.length < 9 by omega) (by decide), ⟨_, _, _, rfl⟩, ?_, ?_, ⟨xs ++ [.ref tp], rows ++ [(z, e)], upd_same, ?_, ?_, ?_, ?_⟩, bb.upd0 nF, pool10.upd nFl.symm⟩
      · rw [upd_ne (ne_of_none hD nF)]
        exact hD6
      · rw [upd_ne npF.symm]
        exact hp6
      · rw [List.length_append, List.length_append, xl]
        rfl
      · rw [List.map_append, take_more hz]
        exact List.Sublist.append sub (List.Sublist.refl _)
      · intro r hr
        rcases List.mem_append.mp hr with h | h
        · exact dy r h
        · rw [List.mem_singleton.mp h]
          exact ⟨e0, e1⟩
      · exact rows_tk tk7 (rows_snoc (f := rowD) xl (rows_tk tk6 hrow) sN)
    · rintro σ H4 ⟨⟨y4, y5, y6, rfl⟩, hD4, hp4, ⟨xs, rows, hF4, xl, sub, dy, hrow⟩, b4, pool4⟩
      have sub : (rows.map Prod.fst).Sublist ys := sub.trans (List.take_sublist _ _)
      have r8 : rows.length ≤ 8 := by
        have := sub.length_le
        rw [List.length_map] at this
        omega
      refine ⟨_, rfl, aF, xs, rfl, .inl ⟨sqL hF4, fun tp ntp => q _ _ rows (b4.new ntp) (pool4.upd (pool4.ne ntp)) ⟨tp, xs, rfl, sqT upd_same, xl, rows_tk (tk_new ntp) hrow⟩ ⟨r8, fun r hr => ?_, dy, fun j r s h1 h2 => ?_⟩ fun r hr => perm.mem_iff.mp (sub.subset (List.mem_map_of_mem hr))⟩⟩
      · have := nmy r.1 (sub.subset (List.mem_map_of_mem hr))
        exact ⟨this.name, by have := this.1.2.2; omega⟩
      · exact pw_next (pw.sublist sub) (by rw [List.getElem?_map, h1]; rfl) (by rw [List.getElem?_map, h2]; rfl)
end
end WdQ

set_option Elab.async false
set_option linter.all false
set_option maxRecDepth 100000
set_option maxHeartbeats 4000000
set_option exponentiation.threshold 5000
namespace WdQ
open PySem PySem.Spec PyProof.Rows L2 WdM Wd
abbrev sWhm : Stmt := topS 62
def nWhm : List Str := ["_law_pool_here", "_law_folk", "_law_found", "_law_turn", "_law_parts", "_law_place", "_law_word"]
theorem scWhm : FnScope nWhm ["_law_pool_here", "_law_folk"] (defScope sWhm) := ⟨rfl, rfl, rfl, by decide +kernel, rfl, by decide +kernel, by decide +kernel⟩
section
variable {P : Program} {w : World} {K : PySem.W.Frag} {mg : Str → Option Value} {base : Heap}
def spDates (K : PySem.W.Frag) : Sp := fun vs H Q _ => ∃ l : Addr, vs = [.ref l] ∧ PoolAt H l ∧ ∀ (H' : Hp) (p : Addr) (ds : List Int), Bt [l] H H' → PoolAt H' l → H' p = some (.lst (ds.map V.int)) → p ≠ l → H p = none → 1 ≤ ds.length → ds.length ≤ 3 → (∀ d ∈ ds, -300 ≤ d ∧ d ≤ 600) → Q (.ref p) H'
theorem ok_dates {f fT : Addr} {fd fdT : FuncData} {k : Nat} (B : Bi mg) (D : Df K mg "_law_dates" sDates f fd ["_law_pool_here"]) (DT : Df K mg "_law_take" sTake fT fdT ["_law_pool_here", "_law_many"])
    (GT : FnOk P w K mg base CX0 (k + 1) fT fdT ["_law_pool_here", "_law_many"] spTake) : FnOk P w K mg base CX0 (k + 2) f fd ["_law_pool_here"] (spDates K) := by
  refine D.fn.ok scDates (fun vs H Q E h => ?_) (fun cdv A outer s H vs Q E hr h => ?_)
  · obtain ⟨l, rfl, _⟩ := h
    rfl
  · obtain ⟨l, rfl, pool, q⟩ := h
    refine ⟨_, pss_one (ps_ret (pe_op op_cat (pe_lst (pa_cons pe_int pa_nil)) (pe_lc (own := [("_law_turn", 1)]) (g := gName 1) (tt := tYes) rfl scDates.nd (pi_range1 (by rfl) B.range (pa_cons (pe_call GT hr (by rfl) DT.mg DT.fn.kp DT.bd .nil pass0 (pa_cons (pv 0) (pa_cons pe_int pa_nil))) pa_nil)) (blkOk_by (own := [("_law_turn", 1)]) (N := ["_law_pool_here", "_law_turn"]) (sc := defScope sDates) (by decide +kernel))
          (fun _ _ _ _ _ => pg_name (i := 1) scDates.nd rfl (Or.inl rfl)) (fun _ _ _ _ _ => pts_nil) (fun _ _ _ _ _ => pe_op op_sub (pe_call GT hr (by rfl) DT.mg DT.fn.kp DT.bd .nil pass0 (pa_cons (pv 0) (pa_cons pe_int pa_nil))) pe_int)))), ?_⟩
    refine ⟨by show 1 ≤ sizeLine; decide, fun p0 n0 => ?_⟩
    have nl0 : l ≠ p0 := pool.ne n0
    refine ⟨_, rfl, l, 3, rfl, pool.upd nl0, by decide, fun H1 d1 b1 pool1 d10 d11 => ?_⟩
    have hp1 : H1 p0 = some (.lst [.int 0]) := kept b1 upd_same (by simp [nl0.symm])
    refine ⟨_, rfl, by omega, by omega, fun L nL => ?_⟩
    have nlL : l ≠ L := pool1.ne nL
    have n0L : p0 ≠ L := ne_of_none hp1 nL
    refine lc_range (lo := 0) (n := d1.toNat) (fun j H' => (∃ ds : List Int, H' L = some (.lst (ds.map V.int)) ∧ ds.length = j ∧ ∀ d ∈ ds, -300 ≤ d ∧ d ≤ 600) ∧ PoolAt H' l ∧ Bt [l] H1 H') ⟨⟨[], upd_same, rfl, (fun x hx => nomatch hx)⟩, pool1.upd nlL, (Bt.refl H1).new nL⟩ ?_ ?_
    · rintro j H2 hj ⟨⟨ds, hL, dl, dd⟩, pool2, b2⟩
      refine ⟨rfl, tyes (iteT ⟨_, rfl, l, 900, rfl, pool2, by decide, fun H3 d3 b3 pool3 d30 d31 => ⟨_, 300, rfl, rfl, ?_⟩⟩)⟩
      have hL3 := kept b3 hL (by simp [nlL.symm])
      refine ⟨_, hL3, by rw [List.length_map]; exact small1000 (by omega), ⟨ds ++ [d3 - 300], ?_, ?_, ?_⟩, pool3.upd nlL, (b2.trans b3).upd0 nL⟩
      · rw [upd_same, List.map_append]
        rfl
      · rw [List.length_append, dl]
        rfl
      · intro d hd
        rcases List.mem_append.mp hd with h | h
        · exact dd d h
        · rw [List.mem_singleton.mp h]
          omega
    · rintro H2 ⟨⟨ds, hL, dl, dd⟩, pool2, b2⟩
      have hp2 := kept b2 hp1 (by simp [nl0.symm])
      refine ⟨p0, L, [.int 0], ds.map V.int, rfl, rfl, hp2, hL, ?_, fun p np => ?_⟩
      · rw [List.length_map, dl]
        exact Nat.le_of_lt (small1000 (n := [V.int 0].length + d1.toNat) (by show 1 + d1.toNat ≤ 1000; omega))
      · refine q _ p (0 :: ds) ((((Bt.refl H).new n0).trans (b1.trans b2)).new np) (pool2.upd (pool2.ne np)) ?_ (fun e => pool2.ne np e.symm) ((((Bt.refl H).new n0).trans (b1.trans b2)).none (by simp [(pool2.ne np).symm]) np) ?_ ?_ ?_
        · exact upd_same
        · rw [List.length_cons]; omega
        · rw [List.length_cons]; omega
        · intro d hd
          rcases List.mem_cons.mp hd with rfl | h
          · decide
          · exact dd d h
/-! ### a WHOM that is drawn -/
def AltAt (K : PySem.W.Frag) (H : Hp) (v : V) (a : List Part) : Prop := ∃ t ys, v = .ref t ∧ SqT K H t ys ∧ A2 (PartAt K H) ys a
theorem pts_tk {H H' : Hp} {xs : List V} {a : List Part} (h : A2 (PartAt K H) xs a) (e : Tk H H') : A2 (PartAt K H') xs a := h.imp fun _ _ h => h.tk e
theorem AltAt.tk {H H' : Hp} {v : V} {a : List Part} (h : AltAt K H v a) (e : Tk H H') : AltAt K H' v a := by
  obtain ⟨t, ys, rfl, h1, h2⟩ := h
  exact ⟨t, ys, rfl, e.sq h1, pts_tk h2 e⟩
theorem alts_tk {H H' : Hp} {xs : List V} {as : List (List Part)} (h : A2 (AltAt K H) xs as) (e : Tk H H') : A2 (AltAt K H') xs as := h.imp fun _ _ h => h.tk e
theorem pts_dz {H : Hp} {xs : List V} {a : List Part} (h : A2 (PartAt K H) xs a) : DzAll [] K H xs (a.map partD) := by
  induction h with
  | nil => exact .nil
  | cons h _ ih =>
    obtain ⟨b, rfl, h⟩ := h
    exact .cons (.tup h (.cons (.str _) (.cons (.str _) .nil))) ih
theorem AltAt.dz {H : Hp} {v : V} {a : List Part} (h : AltAt K H v a) : Dz [] K H v (altD a) := by
  obtain ⟨t, ys, rfl, h1, h2⟩ := h
  exact .tup h1 (pts_dz h2)
theorem alts_dz {H : Hp} {xs : List V} {as : List (List Part)} (h : A2 (AltAt K H) xs as) : DzAll [] K H xs (as.map altD) := by
  induction h with
  | nil => exact .nil
  | cons h _ ih => exact .cons h.dz ih
/-- a WHOM at a place -/
def WhomAt (K : PySem.W.Frag) (H : Hp) (v : V) (as : List (List Part)) : Prop := ∃ t xs, v = .ref t ∧ SqT K H t xs ∧ A2 (AltAt K H) xs as
theorem WhomAt.tk {H H' : Hp} {v : V} {as : List (List Part)} (h : WhomAt K H v as) (e : Tk H H') : WhomAt K H' v as := by
  obtain ⟨t, xs, rfl, h1, h2⟩ := h
  exact ⟨t, xs, rfl, e.sq h1, alts_tk h2 e⟩
theorem WhomAt.dz {H : Hp} {v : V} {as : List (List Part)} (h : WhomAt K H v as) : Dz [] K H v (whomD as) := by
  obtain ⟨t, xs, rfl, h1, h2⟩ := h
  exact .tup h1 (alts_dz h2)
structure DrA (zs : List Str) (a : List Part) : Prop where
  l1 : 1 ≤ a.length
  l3 : a.length ≤ 3
  wd : ∀ p ∈ a, p.1 = "one" ∨ p.1 = "children" ∨ p.1 = "stock"
  nm : ∀ p ∈ a, p.2 ∈ zs
theorem nums4 {d : Int} (d0 : 0 ≤ d) (d1 : d < 4) : ∃ n : Int, atI [V.int 0, V.int 0, V.int 1, V.int 2] d = some (.int n) ∧ 0 ≤ n ∧ n ≤ 2 := by
  have hd : d = 0 ∨ d = 1 ∨ d = 2 ∨ d = 3 := by omega
  rcases hd with rfl | rfl | rfl | rfl
  · exact ⟨0, rfl, by decide, by decide⟩
  · exact ⟨0, rfl, by decide, by decide⟩
  · exact ⟨1, rfl, by decide, by decide⟩
  · exact ⟨2, rfl, by decide, by decide⟩
theorem words4 {d : Int} (d0 : 0 ≤ d) (d1 : d < 4) : ∃ x : Str, atI [V.str "one", V.str "one", V.str "children", V.str "stock"] d = some (.str x) ∧ (x = "one" ∨ x = "children" ∨ x = "stock") := by
  have hd : d = 0 ∨ d = 1 ∨ d = 2 ∨ d = 3 := by omega
  rcases hd with rfl | rfl | rfl | rfl
  · exact ⟨_, rfl, .inl rfl⟩
  · exact ⟨_, rfl, .inl rfl⟩
  · exact ⟨_, rfl, .inr (.inl rfl)⟩
  · exact ⟨_, rfl, .inr (.inr rfl)⟩
def tOne13 : TE := fun σ H Q => ∃ l : Addr, σ[0]? = some (some (.ref l)) ∧ PoolAt H l ∧ ∀ (H' : Hp) (n : Int), Bt [l] H H' → PoolAt H' l → 1 ≤ n → n ≤ 3 → Q (.int n) H'
def spWhm (K : PySem.W.Frag) : Sp := fun vs H Q _ => ∃ (l aN : Addr) (zs : List Str), vs = [.ref l, .ref aN] ∧ PoolAt H l ∧ H aN = some (.lst (zs.map V.str)) ∧ aN ≠ l ∧ 1 ≤ zs.length ∧ zs.length ≤ 8 ∧
  ∀ (H' : Hp) (p : Addr) (as : List (List Part)), Bt [l] H H' → PoolAt H' l → WhomAt K H' (.ref p) as → 1 ≤ as.length → as.length ≤ 3 → (∀ a ∈ as, DrA zs a) → Q (.ref p) H'
theorem ok_whm {f fT : Addr} {fd fdT : FuncData} {k : Nat} (B : Bi mg) (D : Df K mg "_law_whom" sWhm f fd ["_law_pool_here", "_law_folk"]) (DT : Df K mg "_law_take" sTake fT fdT ["_law_pool_here", "_law_many"])
    (GT : FnOk P w K mg base CX0 (k + 1) fT fdT ["_law_pool_here", "_law_many"] spTake) : FnOk P w K mg base CX0 (k + 2) f fd ["_law_pool_here", "_law_folk"] (spWhm K) := by
  refine D.fn.ok scWhm (fun vs H Q E h => ?_) (fun cdv A outer s H vs Q E hr h => ?_)
  · obtain ⟨l, aN, zs, rfl, _⟩ := h
    rfl
  · obtain ⟨l, aN, zs, rfl, pool, hN, nNl, z1, z8, q⟩ := h
    refine ⟨_, pss_cons (ps_set (i := 2) scWhm.nd rfl (.inl rfl) (pe_lst pa_nil))
      (pss_cons (ps_for PassesOwn.never rfl (pi_range1 (by rfl) B.range (pa_cons (PE.wk (t' := tOne13) (pe_op op_add pe_int (pe_ix (r := rIxL K) ix_list (pe_lst (pa_cons pe_int (pa_cons pe_int (pa_cons pe_int (pa_cons pe_int pa_nil))))) (pe_call GT hr (by rfl) DT.mg DT.fn.kp DT.bd .nil pass0 (pa_cons (pv 0) (pa_cons pe_int pa_nil))) (fun _ _ => rfl))) (by
            rintro σ H Q ⟨l, h0, pool, q⟩
            refine ⟨by show 4 ≤ sizeLine; decide, fun p0 n0 => ?_⟩
            have nl : l ≠ p0 := pool.ne n0
            refine ⟨_, h0, l, 4, rfl, pool.upd nl, by decide, fun H1 d1 b1 pool1 d10 d11 => ?_⟩
            obtain ⟨n, e, n0', n2⟩ := nums4 d10 d11
            exact ⟨p0, _, d1, _, rfl, rfl, sqL (kept b1 upd_same (by simp [nl.symm])), e, 1, n, rfl, rfl, q H1 (1 + n) (((Bt.refl H).new n0).trans b1) pool1 (by omega) (by omega)⟩)) pa_nil)) (pg_name (i := 3) scWhm.nd rfl (.inl rfl))
        (pss_cons (ps_set (i := 4) scWhm.nd rfl (.inl rfl) (pe_lst pa_nil))
        (pss_cons (ps_for PassesOwn.never rfl (pi_range1 (by rfl) B.range (pa_cons (PE.wk (t' := tOne13) (pe_op op_add pe_int (pe_ix (r := rIxL K) ix_list (pe_lst (pa_cons pe_int (pa_cons pe_int (pa_cons pe_int (pa_cons pe_int pa_nil))))) (pe_call GT hr (by rfl) DT.mg DT.fn.kp DT.bd .nil pass0 (pa_cons (pv 0) (pa_cons pe_int pa_nil))) (fun _ _ => rfl))) (by
            rintro σ H Q ⟨l, h0, pool, q⟩
            refine ⟨by show 4 ≤ sizeLine; decide, fun p0 n0 => ?_⟩
            have nl : l ≠ p0 := pool.ne n0
            refine ⟨_, h0, l, 4, rfl, pool.upd nl, by decide, fun H1 d1 b1 pool1 d10 d11 => ?_⟩
            obtain ⟨n, e, n0', n2⟩ := nums4 d10 d11
            exact ⟨p0, _, d1, _, rfl, rfl, sqL (kept b1 upd_same (by simp [nl.symm])), e, 1, n, rfl, rfl, q H1 (1 + n) (((Bt.refl H).new n0).trans b1) pool1 (by omega) (by omega)⟩)) pa_nil)) (pg_name (i := 5) scWhm.nd rfl (.inl rfl))
          (pss_cons (ps_set (i := 6) scWhm.nd rfl (.inl rfl) (pe_ix (r := rIxL K) ix_list (pe_lst (pa_cons pe_str (pa_cons pe_str (pa_cons pe_str (pa_cons pe_str pa_nil))))) (pe_call GT hr (by rfl) DT.mg DT.fn.kp DT.bd .nil pass0 (pa_cons (pv 0) (pa_cons pe_int pa_nil))) (fun _ _ => rfl)))
          (pss_one (ps_expr (pe_bm PySem.F.plainAttrs_list PySem.F.slot_list_append PySem.F.type_list_append mt_append (pv 4) (pa_cons (pe_tup (pa_cons (pv 6) (pa_cons (pe_ix (r := rIxL K) ix_list (pv 1) (pe_call GT hr (by rfl) DT.mg DT.fn.kp DT.bd .nil pass0 (pa_cons (pv 0) (pa_cons (pe_callB (r := rLenK K) call_len_seq (by rfl) B.len PySem.boot_len (pa_cons (pv 1) pa_nil)) pa_nil))) (fun _ _ => rfl)) pa_nil))) pa_nil))))))
        (pss_one (ps_expr (pe_bm PySem.F.plainAttrs_list PySem.F.slot_list_append PySem.F.type_list_append mt_append (pv 2) (pa_cons (pe_callTy call_tuple_of (by rfl) B.tuple boot_tuple (pa_cons (pv 4) pa_nil)) pa_nil)))))))
      (pss_one (ps_ret (pe_callTy call_tuple_of (by rfl) B.tuple boot_tuple (pa_cons (pv 2) pa_nil))))), ?_⟩
    refine ⟨by show 0 ≤ sizeLine; decide, fun aF nF => ?_⟩
    have nlF : l ≠ aF := pool.ne nF
    refine ⟨l, rfl, pool.upd nlF, fun H1 n b1 pool1 n1 n3 => ?_⟩
    have nNF : aN ≠ aF := ne_of_none hN nF
    have hN1 : H1 aN = some (.lst (zs.map V.str)) := kept b1 (by rw [upd_ne nNF]; exact hN) (by simp [nNl])
    have hF1 : H1 aF = some (.lst []) := kept b1 upd_same (by simp [nlF.symm])
    have b01 : Bt [l] H H1 := ((Bt.refl H).new nF).trans b1
    refine ⟨n, rfl, by omega, by omega, for_range (lo := 0) (n := n.toNat) (fun i σ H' => (∃ y3 y4 y5 y6 : Option V, σ = [some (.ref l), some (.ref aN), some (.ref aF), y3, y4, y5, y6]) ∧ H' aN = some (.lst (zs.map V.str)) ∧ (∃ xs as, H' aF = some (.lst xs) ∧ A2 (AltAt K H') xs as ∧ as.length = i ∧ ∀ a ∈ as, DrA zs a) ∧ Bt [l] H H' ∧ PoolAt H' l) ⟨⟨none, none, none, none, rfl⟩, hN1, ⟨[], [], hF1, .nil, rfl, (fun a ha => nomatch ha)⟩, b01, pool1⟩ ?_ ?_⟩
    · rintro i σ H2 hi ⟨⟨y3, y4, y5, y6, rfl⟩, hN2, ⟨xs, as, hF2, hx, al, dr⟩, b2, pool2⟩
      refine ⟨by show 0 ≤ sizeLine; decide, fun aP nP => ?_⟩
      have nlP : l ≠ aP := pool2.ne nP
      have nFP : aF ≠ aP := ne_of_none hF2 nP
      have nNP : aN ≠ aP := ne_of_none hN2 nP
      refine ⟨l, rfl, pool2.upd nlP, fun H3 m b3 pool3 m1 m3 => ?_⟩
      have hN3 : H3 aN = some (.lst (zs.map V.str)) := kept b3 (by rw [upd_ne nNP]; exact hN2) (by simp [nNl])
      have hF3 : H3 aF = some (.lst xs) := kept b3 (by rw [upd_ne nFP]; exact hF2) (by simp [nlF.symm])
      have hP3 : H3 aP = some (.lst []) := kept b3 upd_same (by simp [nlP.symm])
      have b23 : Bt [l] H2 H3 := ((Bt.refl H2).new nP).trans b3
      have hx3 := alts_tk hx (b23.tk pool2.lst)
      refine ⟨m, rfl, by omega, by omega, for_range (lo := 0) (n := m.toNat) (fun j σ H' => (∃ y3 y5 y6 : Option V, σ = [some (.ref l), some (.ref aN), some (.ref aF), y3, some (.ref aP), y5, y6]) ∧ H' aN = some (.lst (zs.map V.str)) ∧ H' aF = some (.lst xs) ∧ A2 (AltAt K H') xs as ∧ (∃ ws ps, H' aP = some (.lst ws) ∧ A2 (PartAt K H') ws ps ∧ ps.length = j ∧ (∀ p ∈ ps, p.1 = "one" ∨ p.1 = "children" ∨ p.1 = "stock") ∧ ∀ p ∈ ps, p.2 ∈ zs) ∧ Bt [l] H H' ∧ PoolAt H' l) ⟨⟨_, _, _, rfl⟩, hN3, hF3, hx3, ⟨[], [], hP3, .nil, rfl, (fun a ha => nomatch ha), (fun a ha => nomatch ha)⟩, b2.trans b23, pool3⟩ ?_ ?_⟩
      · rintro j σ H4 hj ⟨⟨y3, y5, y6, rfl⟩, hN4, hF4, hx4, ⟨ws, ps, hP4, hp4, pl, pw, pn⟩, b4, pool4⟩
        refine ⟨by show 4 ≤ sizeLine; decide, fun p0 n0 => ?_⟩
        have nl0 : l ≠ p0 := pool4.ne n0
        refine ⟨_, rfl, l, 4, rfl, pool4.upd nl0, by decide, fun H5 d5 b5 pool5 d50 d51 => ?_⟩
        obtain ⟨wd, e5, hw⟩ := words4 d50 d51
        refine ⟨p0, _, d5, _, rfl, rfl, sqL (kept b5 upd_same (by simp [nl0.symm])), e5, ?_⟩
        have b45 : Bt [l] H4 H5 := ((Bt.refl H4).new n0).trans b5
        have hN5 := kept b45 hN4 (by simp [nNl])
        have hP5 := kept b45 hP4 (by simp [nlP.symm])
        refine ⟨_, rfl, .inl ⟨rfl, _, sqL hP5⟩, _, rfl, _, rfl, _, rfl, _, rfl, aN, _, rfl, .inl (sqL hN5), l, _, rfl, pool5, by rw [List.length_map]; omega, fun H6 d6 b6 pool6 d60 d61 => ?_⟩
        rw [List.length_map] at d61
        obtain ⟨v6, e6, z, hz, rfl⟩ := at_of (P := fun v => ∃ z, z ∈ zs ∧ v = .str z) (xs := zs.map V.str) (d := d6) (fun x hx => by
          obtain ⟨z, hz, rfl⟩ := List.mem_map.mp hx
          exact ⟨z, hz, rfl⟩) d60 (by rw [List.length_map]; exact d61)
        have hN6 := kept b6 hN5 (by simp [nNl])
        have b46 := b45.trans b6
        have hP6 := kept b46 hP4 (by simp [nlP.symm])
        have hF6 := kept b46 hF4 (by simp [nlF.symm])
        have tk6 : Tk H4 H6 := b46.tk pool4.lst
        refine ⟨aN, _, d6, _, rfl, rfl, sqL hN6, e6, by show 2 ≤ sizeLine; decide, fun tp ntp => ?_⟩
        have hP7 : (upd H6 tp (.tup [.str wd, .str z])) aP = some (.lst ws) := by rw [upd_ne (ne_of_none hP6 ntp)]; exact hP6
        have hN7 : (upd H6 tp (.tup [.str wd, .str z])) aN = some (.lst (zs.map V.str)) := by rw [upd_ne (ne_of_none hN6 ntp)]; exact hN6
        have hF7 : (upd H6 tp (.tup [.str wd, .str z])) aF = some (.lst xs) := by rw [upd_ne (ne_of_none hF6 ntp)]; exact hF6
        have tk7 : Tk H4 (upd H6 tp (.tup [.str wd, .str z])) := tk6.trans (tk_new ntp)
        have sN : PartAt K (upd H6 tp (.tup [.str wd, .str z])) (.ref tp) (wd, z) := ⟨tp, rfl, sqT upd_same⟩
        have bb : Bt [l] H (upd H6 tp (.tup [.str wd, .str z])) := (b4.trans b46).new ntp
        have pool7 := pool6.upd (o := .tup [.str wd, .str z]) (pool6.ne ntp)
        revert hP7 hN7 hF7 tk7 sN bb pool7
        generalize upd H6 tp (.tup [.str wd, .str z]) = H7
        intro hP7 hN7 hF7 tk7 sN bb pool7
        have tk8 : Tk H7 (upd H7 aP (.lst (ws ++ [.ref tp]))) := tk_lst hP7
        have wl := hp4.len
        have nPH : H aP = none := b2.none (by simp [nlP.symm]) nP
        refine ⟨aP, ws, .ref tp, rfl, rfl, hP7, Nat.lt_of_lt_of_le (show ws.length < 9 by omega) (by decide), ⟨_, _, _, rfl⟩, ?_, ?_, alts_tk hx4 (tk7.trans tk8), ⟨ws ++ [.ref tp], ps ++ [(wd, z)], upd_same, ?_, ?_, ?_, ?_⟩, bb.upd0 nPH, pool7.upd nlP⟩
        · rw [upd_ne nNP]
          exact hN7
        · rw [upd_ne nFP]
          exact hF7
        · exact (pts_tk hp4 (tk7.trans tk8)).snoc (sN.tk tk8)
        · rw [List.length_append, pl]
          rfl
        · intro p hp
          rcases List.mem_append.mp hp with h | h
          · exact pw p h
          · rw [List.mem_singleton.mp h]
            exact hw
        · intro p hp
          rcases List.mem_append.mp hp with h | h
          · exact pn p h
          · rw [List.mem_singleton.mp h]
            exact hz
      · rintro σ H4 ⟨⟨y3, y5, y6, rfl⟩, hN4, hF4, hx4, ⟨ws, ps, hP4, hp4, pl, pw, pn⟩, b4, pool4⟩
        refine ⟨_, rfl, .inl ⟨rfl, _, sqL hF4⟩, _, rfl, aP, ws, rfl, .inl ⟨sqL hP4, fun tp ntp => ?_⟩⟩
        have hF5 : (upd H4 tp (.tup ws)) aF = some (.lst xs) := by rw [upd_ne (ne_of_none hF4 ntp)]; exact hF4
        have hN5 : (upd H4 tp (.tup ws)) aN = some (.lst (zs.map V.str)) := by rw [upd_ne (ne_of_none hN4 ntp)]; exact hN4
        have nFH : H aF = none := nF
        have xl := hx4.len
        have tk5 : Tk H4 (upd H4 tp (.tup ws)) := tk_new ntp
        have tk6 : Tk (upd H4 tp (.tup ws)) (upd (upd H4 tp (.tup ws)) aF (.lst (xs ++ [.ref tp]))) := tk_lst hF5
        have sN : AltAt K (upd H4 tp (.tup ws)) (.ref tp) ps := ⟨tp, ws, rfl, sqT upd_same, pts_tk hp4 tk5⟩
        refine ⟨aF, xs, .ref tp, rfl, rfl, hF5, Nat.lt_of_lt_of_le (show xs.length < 9 by omega) (by decide), ⟨_, _, _, _, rfl⟩, ?_, ⟨xs ++ [.ref tp], as ++ [ps], upd_same, ?_, ?_, ?_⟩, (b4.new ntp).upd0 nFH, (pool4.upd (pool4.ne ntp)).upd nlF⟩
        · rw [upd_ne nNF]
          exact hN5
        · exact (alts_tk hx4 (tk5.trans tk6)).snoc (sN.tk tk6)
        · rw [List.length_append, al]
          rfl
        · intro a ha
          rcases List.mem_append.mp ha with h | h
          · exact dr a h
          · rw [List.mem_singleton.mp h]
            exact ⟨by omega, by omega, pw, pn⟩
    · rintro σ H2 ⟨⟨y3, y4, y5, y6, rfl⟩, hN2, ⟨xs, as, hF2, hx, al, dr⟩, b2, pool2⟩
      exact ⟨_, rfl, aF, xs, rfl, .inl ⟨sqL hF2, fun tp ntp => q _ tp as (b2.new ntp) (pool2.upd (pool2.ne ntp)) ⟨tp, xs, rfl, sqT upd_same, alts_tk hx (tk_new ntp)⟩ (by omega) (by omega) dr⟩⟩
end
end WdQ

set_option Elab.async false
set_option linter.all false
set_option maxRecDepth 100000
set_option maxHeartbeats 4000000
set_option exponentiation.threshold 5000
namespace WdQ
open PySem PySem.Spec PyProof.Rows L2 WdM Wd
abbrev sNob : Stmt := topS 68
def nNob : List Str := ["_law_estate", "_law_folk", "_law_tale", "_law_day", "_law_one", "_law_word"]
theorem scNob : FnScope nNob ["_law_estate", "_law_folk", "_law_tale", "_law_day"] (defScope sNob) := ⟨rfl, rfl, rfl, by decide +kernel, rfl, by decide +kernel, by decide +kernel⟩
theorem sum_nil {rs : List (Str × Nat)} : sumN rs = [] ↔ rs = [] := by
  constructor
  · intro h
    have := congrArg (List.map Prod.fst) h
    rw [sum_keys] at this
    cases rs with
    | nil => rfl
    | cons r rs =>
      have m : r.1 ∈ firsts ((r :: rs).map Prod.fst) := (mem_firsts _).mpr (by simp)
      rw [this] at m
      cases m
  · rintro rfl
    rfl
section
variable {P : Program} {w : World} {K : PySem.W.Frag} {mg : Str → Option Value} {base : Heap} {CH CY : Addr}
theorem one_good {F : List (Str × Option Str)} {x z : Str} (hx : x = "one" ∨ x = "children" ∨ x = "stock") (hz : z ∈ F.map Prod.fst) : GoodW F [[(x, z)]] :=
  ⟨Nat.le_refl 1, by show 1 ≤ 4; decide, fun a ha => by
    rw [List.mem_singleton.mp ha]
    exact ⟨by show 1 ≤ 1; decide, by show 1 ≤ 6; decide, fun p hp => by rw [List.mem_singleton.mp hp]; exact hx, fun p hp => by rw [List.mem_singleton.mp hp]; exact hz⟩⟩
def spNob (K : PySem.W.Frag) (CH CY : Addr) : Sp := fun vs H Q _ => ∃ (ho so aN : Addr) (zs : List Str) (m : Int) (F : List (Str × Option Str)) (D : List (Str × Int)), vs = [.ref ho, .ref aN, .ref so, .int m] ∧ HomeAt K CH H ho F ∧ StoryAt K CY H so D ∧ H aN = some (.lst (zs.map V.str)) ∧ (∀ z ∈ zs, z ∈ F.map Prod.fst) ∧ -9999 ≤ m ∧ m ≤ 9999 ∧
  (∀ H', Same H H' → Q .non H') ∧ ∀ (H' : Hp) (p : Addr) (x z : Str), Same H H' → (x = "one" ∨ x = "children" ∨ x = "stock") → z ∈ zs → ptN F (fun y => aliveB D y m) (x, z) = [] → SqT K H' p [.str x, .str z] → Q (.ref p) H'
theorem ok_nob {f fT : Addr} {fd fdT : FuncData} {k : Nat} (B : Bi mg) (D : Df K mg "_law_nobody" sNob f fd ["_law_estate", "_law_folk", "_law_tale", "_law_day"]) (gT : mg "takers" = some (.ref fT)) (kT : PySem.W.keepIn K (.ref fT) = true) (bT : Binds K fdT ["house", "whom", "story", "wait"] [])
    (GT : FnOk P w K mg base CX0 (k + 14) fT fdT ["house", "whom", "story", "wait"] (spTks K CH CY)) : FnOk P w K mg base CX0 (k + 15) f fd ["_law_estate", "_law_folk", "_law_tale", "_law_day"] (spNob K CH CY) := by
  refine D.fn.ok scNob (fun vs H Q E h => ?_) (fun cdv A outer s H vs Q E hr h => ?_)
  · obtain ⟨ho, so, aN, zs, m, F, Dd, rfl, _⟩ := h
    rfl
  · obtain ⟨ho, so, aN, zs, m, F, Dd, rfl, hH, hY, hN, zm, m0, m1, q0, q1⟩ := h
    have hu : _ + 64 < cLine := hr.units
    refine ⟨_, pss_cons (ps_for PassesOwn.never rfl (pi_list (pv 1)) (pg_name (i := 4) scNob.nd rfl (.inl rfl))
        (pss_one (ps_for PassesOwn.never rfl (pi_list (pe_lst (pa_cons pe_str (pa_cons pe_str (pa_cons pe_str pa_nil))))) (pg_name (i := 5) scNob.nd rfl (.inl rfl))
          (pss_one (ps_if (pt_cmpR (r := rEqNil K) (op_eqNil hu) (pe_call GT hr (by rfl) gT kT bT .nil pass0 (pa_cons (pv 0) (pa_cons (pe_tup (pa_cons (pe_tup (pa_cons (pe_tup (pa_cons (pv 5) (pa_cons (pv 4) pa_nil))) pa_nil)) pa_nil)) (pa_cons (pv 2) (pa_cons (pv 3) pa_nil))))) (pe_tup pa_nil) (nomark _))
            (pss_one (ps_ret (pe_tup (pa_cons (pv 5) (pa_cons (pv 4) pa_nil))))) pss_nil)))))
      (pss_one (ps_ret pe_non)), ?_⟩
    refine ⟨_, rfl, aN, rfl, ⟨_, sqL hN⟩, for_list (K := K) (a := aN) (xs := zs.map V.str) (fun i σ H' => (∃ y4 y5 : Option V, σ = [some (.ref ho), some (.ref aN), some (.ref so), some (.int m), y4, y5]) ∧ Same H H') ⟨⟨none, none, rfl⟩, Same.refl H⟩ (fun i σ H' _ h => sqL (h.2 _ _ hN)) ?_ ?_⟩
    · rintro i x σ H1 hx ⟨⟨y4, y5, rfl⟩, s1⟩
      obtain ⟨z, hz, rfl⟩ : ∃ z, zs[i]? = some z ∧ x = .str z := by
        rw [List.getElem?_map] at hx
        cases hc : zs[i]? with
        | none => rw [hc] at hx; cases hx
        | some z => rw [hc] at hx; cases hx; exact ⟨z, rfl, rfl⟩
      have zz := List.mem_of_getElem? hz
      refine ⟨by show 3 ≤ sizeLine; decide, fun pL nL => ?_⟩
      have s2 : Same H1 (upd H1 pL (.lst [.str "one", .str "children", .str "stock"])) := same_new nL
      have hL : (upd H1 pL (.lst [.str "one", .str "children", .str "stock"])) pL = some (.lst [.str "one", .str "children", .str "stock"]) := upd_same
      revert s2 hL
      generalize upd H1 pL (.lst [.str "one", .str "children", .str "stock"]) = H2
      intro s2 hL
      refine ⟨pL, rfl, ⟨_, sqL hL⟩, for_list (K := K) (a := pL) (xs := [.str "one", .str "children", .str "stock"]) (fun i σ H' => (∃ y5 : Option V, σ = [some (.ref ho), some (.ref aN), some (.ref so), some (.int m), some (.str z), y5]) ∧ Same H2 H') ⟨⟨_, rfl⟩, Same.refl H2⟩ (fun i σ H' _ h => sqL (h.2 _ _ hL)) ?_ ?_⟩
      · rintro j y σ H3 hy ⟨⟨y5, rfl⟩, s3⟩
        obtain ⟨x, rfl, hw⟩ : ∃ x : Str, y = .str x ∧ (x = "one" ∨ x = "children" ∨ x = "stock") := by
          have := List.mem_of_getElem? hy
          simp only [List.mem_cons, List.not_mem_nil, or_false] at this
          rcases this with h | h | h
          · exact ⟨_, h, .inl rfl⟩
          · exact ⟨_, h, .inr (.inl rfl)⟩
          · exact ⟨_, h, .inr (.inr rfl)⟩
        have s13 := (s1.trans s2).trans s3
        refine ⟨_, rfl, _, rfl, _, rfl, by show 2 ≤ sizeLine; decide, fun p1 n1 => ⟨by show 1 ≤ sizeLine; decide, fun p2 n2 => ⟨by show 1 ≤ sizeLine; decide, fun p3 n3 => ?_⟩⟩⟩
        have s4 : Same H3 (upd (upd (upd H3 p1 (.tup [.str x, .str z])) p2 (.tup [.ref p1])) p3 (.tup [.ref p2])) := ((same_new n1).trans (same_new n2)).trans (same_new n3)
        have wh : WhomAt K (upd (upd (upd H3 p1 (.tup [.str x, .str z])) p2 (.tup [.ref p1])) p3 (.tup [.ref p2])) (.ref p3) [[(x, z)]] :=
          ⟨p3, _, rfl, sqT upd_same, .cons ⟨p2, _, rfl, (tk_new n3).sq (sqT upd_same), .cons ⟨p1, rfl, ((tk_new n2).trans (tk_new n3)).sq (sqT upd_same)⟩ .nil⟩ .nil⟩
        revert s4 wh
        generalize upd (upd (upd H3 p1 (.tup [.str x, .str z])) p2 (.tup [.ref p1])) p3 (.tup [.ref p2]) = H4
        intro s4 wh
        refine ⟨_, rfl, _, rfl, ho, so, .ref p3, [[(x, z)]], m, F, Dd, rfl, hH.same (s13.trans s4), hY.same (s13.trans s4), wh.dz, one_good hw (zm z zz), m0, m1, fun H5 t s5 told _ => ?_⟩
        rw [tak_part] at told
        obtain ⟨t', xs, e, ht, hx5⟩ := told
        cases e
        refine ⟨by show 0 ≤ sizeLine; decide, fun p6 n6 => ⟨t, p6, xs, rfl, rfl, (tk_new n6).sq ht, sqT upd_same, _, rfl, ?_⟩⟩
        have s6 := ((s13.trans s4).trans s5).trans (same_new (o := .tup []) n6)
        by_cases c : xs = []
        · rw [decide_eq_true c]
          have e0 : ptN F (fun y => aliveB Dd y m) (x, z) = [] := by
            rw [← sum_nil]
            have := hx5.len
            rw [c] at this
            exact List.length_eq_zero_iff.mp this.symm
          exact iteT ⟨_, rfl, _, rfl, by show 2 ≤ sizeLine; decide, fun p7 n7 => q1 _ p7 x z (s6.trans (same_new n7)) hw zz e0 (sqT upd_same)⟩
        · rw [decide_eq_false c]
          exact iteF ⟨⟨_, rfl⟩, ((s3.trans s4).trans s5).trans (same_new n6)⟩
      · rintro σ H3 ⟨⟨y5, rfl⟩, s3⟩
        exact ⟨⟨_, _, rfl⟩, (s1.trans s2).trans s3⟩
    · rintro σ H1 ⟨⟨y4, y5, rfl⟩, s1⟩
      exact q0 H1 s1
end
end WdQ

set_option Elab.async false
set_option linter.all false
set_option maxRecDepth 100000
set_option maxHeartbeats 4000000
set_option exponentiation.threshold 5000
namespace WdQ
open PySem PySem.Spec PyProof.Rows L2 WdM Wd
/-! ### alternatives and parts put in -/
section
variable {F : List (Str × Option Str)} {al : Str → Bool}
theorem has_nil {g : List (Str × Nat)} : ¬ hasB g = true ↔ g = [] := by
  rw [has_iff]
  exact ⟨fun h => Classical.byContradiction h, fun h k => k h⟩
theorem tak_app : ∀ as bs : List (List Part), takN F al (as ++ bs) = if takN F al as = [] then takN F al bs else takN F al as
  | [], bs => by rw [if_pos (show takN F al [] = [] from rfl), List.nil_append]
  | a :: as, bs => by
    have e1 : takN F al (a :: as) = if hasB (altN F al a) = true then sumN (altN F al a) else takN F al as := rfl
    have e2 : takN F al (a :: as ++ bs) = if hasB (altN F al a) = true then sumN (altN F al a) else takN F al (as ++ bs) := rfl
    by_cases c : hasB (altN F al a) = true
    · rw [if_pos c] at e1 e2
      rw [e2, e1, if_neg]
      intro h
      exact has_iff.mp c (sum_nil.mp h)
    · rw [if_neg c] at e1 e2
      rw [e2, e1]
      exact tak_app as bs
theorem tak_congr : ∀ {as bs : List (List Part)}, as.map (altN F al) = bs.map (altN F al) → takN F al as = takN F al bs
  | [], [], _ => rfl
  | [], _ :: _, h => by cases h
  | _ :: _, [], h => by cases h
  | a :: as, b :: bs, h => by
    rw [List.map_cons, List.map_cons] at h
    injection h with h1 h2
    show (if hasB (altN F al a) = true then sumN (altN F al a) else takN F al as) = if hasB (altN F al b) = true then sumN (altN F al b) else takN F al bs
    rw [h1, tak_congr h2]
theorem tak_nil : ∀ {as : List (List Part)}, takN F al as = [] ↔ ∀ a ∈ as, takN F al [a] = []
  | [] => ⟨fun _ a h => (nomatch h), fun _ => rfl⟩
  | a :: as => by
    rw [show a :: as = [a] ++ as from rfl, tak_app]
    constructor
    · intro h b hb
      by_cases c : takN F al [a] = []
      · rw [if_pos c] at h
        rcases List.mem_cons.mp hb with rfl | hb
        · exact c
        · exact tak_nil.mp h b hb
      · rw [if_neg c] at h
        exact absurd h c
    · intro h
      rw [if_pos (h a (by simp))]
      exact tak_nil.mpr fun b hb => h b (by simp [hb])
/-- the first one by which somebody takes, whatever stands behind it -/
theorem tak_first {as bs : List (List Part)} {k : Nat} {a : List Part} (ha : as[k]? = some a) (h : takN F al [a] ≠ []) : takN F al (as.take (k + 1) ++ bs) = takN F al as := by
  have c : takN F al (as.take (k + 1)) ≠ [] := fun e => h (tak_nil.mp e a (by rw [take_more ha]; simp))
  rw [tak_app, if_neg c]
  have := tak_app (F := F) (al := al) (as.take (k + 1)) (as.drop (k + 1))
  rw [List.take_append_drop, if_neg c] at this
  exact this.symm
theorem tak_put {as : List (List Part)} {k : Nat} {p : Part} (h : ptN F al p = []) : takN F al (as.take k ++ [[p]] ++ as.drop k) = takN F al as := by
  have e : takN F al [[p]] = [] := by rw [tak_part, h]; rfl
  have := tak_app (F := F) (al := al) (as.take k) (as.drop k)
  rw [List.take_append_drop] at this
  rw [List.append_assoc, tak_app, this]
  congr 1
  rw [tak_app, if_pos e]
theorem alt_put {a : List Part} {k : Nat} {p : Part} (h : ptN F al p = []) : altN F al (a.take k ++ [p] ++ a.drop k) = altN F al a := by
  unfold altN
  refine pe_nil ?_
  rw [List.map_append, List.map_append, List.filter_append, List.filter_append, List.map_cons, List.map_nil, h, List.filter_cons_of_neg (by decide), List.filter_nil, List.append_nil, ← List.filter_append, ← List.map_append, List.take_append_drop]
theorem tak_in {as : List (List Part)} {i j : Nat} {a : List Part} {p : Part} (ha : as[i]? = some a) (h : ptN F al p = []) : takN F al (as.take i ++ [a.take j ++ [p] ++ a.drop j] ++ as.drop (i + 1)) = takN F al as := by
  refine tak_congr ?_
  rw [List.map_append, List.map_append, List.map_cons, List.map_nil, alt_put h]
  obtain ⟨hi, rfl⟩ := List.getElem?_eq_some_iff.mp ha
  conv => rhs; rw [← List.take_append_drop i as, List.drop_eq_getElem_cons hi]
  rw [List.map_append, List.map_cons, List.append_assoc]
  rfl
/-- those by which somebody takes -/
def fstN (F : List (Str × Option Str)) (al : Str → Bool) (as : List (List Part)) (n : Nat) : List Nat := (List.range n).filter fun k => match as[k]? with | some a => decide (takN F al [a] ≠ []) | none => false
theorem fst_succ {as : List (List Part)} {n : Nat} {a : List Part} (h : as[n]? = some a) : fstN F al as (n + 1) = fstN F al as n ++ if takN F al [a] = [] then [] else [n] := by
  unfold fstN
  rw [List.range_succ, List.filter_append]
  congr 1
  by_cases c : takN F al [a] = []
  · rw [if_pos c, List.filter_cons_of_neg, List.filter_nil]
    rw [h]
    simpa using c
  · rw [if_neg c, List.filter_cons_of_pos, List.filter_nil]
    rw [h]
    simpa using c
theorem fst_mem {as : List (List Part)} {n k : Nat} (h : k ∈ fstN F al as n) : ∃ a, as[k]? = some a ∧ takN F al [a] ≠ [] := by
  obtain ⟨_, h⟩ := List.mem_filter.mp h
  cases c : as[k]? with
  | none => rw [c] at h; cases h
  | some a => rw [c] at h; exact ⟨a, rfl, of_decide_eq_true h⟩
theorem fst_nil {as : List (List Part)} : fstN F al as as.length = [] ↔ takN F al as = [] := by
  rw [tak_nil]
  constructor
  · intro h a ha
    refine Classical.byContradiction fun c => ?_
    obtain ⟨k, hk⟩ := List.mem_iff_getElem?.mp ha
    have : k ∈ fstN F al as as.length := List.mem_filter.mpr ⟨List.mem_range.mpr (lt_get hk), by rw [hk]; exact decide_eq_true c⟩
    rw [h] at this
    cases this
  · intro h
    cases c : fstN F al as as.length with
    | nil => rfl
    | cons k ks =>
      obtain ⟨a, ha, hn⟩ := fst_mem (F := F) (al := al) (as := as) (n := as.length) (k := k) (by rw [c]; simp)
      exact absurd (h a (List.mem_of_getElem? ha)) hn
theorem fst_len {as : List (List Part)} {n : Nat} : (fstN F al as n).length ≤ n := by
  have := List.length_filter_le (fun k => match as[k]? with | some a => decide (takN F al [a] ≠ []) | none => false) (List.range n)
  rw [List.length_range] at this
  exact this
end
/-! ### a good WHOM's names; a good WHOM -/
theorem nm_okL {z : Str} (h : Nm z) : okL z := by
  have := h.name
  unfold nmB at this
  rw [Bool.and_eq_true] at this
  exact fun c hc => List.all_eq_true.mp this.2 c hc
section
variable {F : List (Str × Option Str)}
theorem dr_good {as : List (List Part)} (l1 : 1 ≤ as.length) (l3 : as.length ≤ 4) (h : ∀ a ∈ as, GoodA F a) : GoodW F as := ⟨l1, l3, h⟩
theorem DrA.good {a : List Part} (h : DrA (F.map Prod.fst) a) : GoodA F a := ⟨h.l1, by have := h.l3; omega, h.wd, h.nm⟩
theorem tak_okL {al : Str → Bool} (g : GoodF F) {as : List (List Part)} (gw : GoodW F as) : ∀ t ∈ takN F al as, okL t.1 := by
  intro t ht
  rcases tak_ways (F := F) (al := al) as with ⟨h, _⟩ | ⟨a, ha, _, e⟩
  · rw [h] at ht
    cases ht
  · rw [e] at ht
    have hk : t.1 ∈ (sumN (altN F al a)).map Prod.fst := List.mem_map_of_mem ht
    rw [sum_keys, mem_firsts] at hk
    obtain ⟨r, hr, e1⟩ := List.mem_map.mp hk
    have := (alt_stand (al := al) (gw.al a ha).nm r hr).2
    rw [e1] at this
    obtain ⟨q, hq, e2⟩ := List.mem_map.mp this
    have nm := g.nm q hq
    rw [e2] at nm
    exact nm_okL nm
end
/-! ### compared, asked -/
section
variable {K : PySem.W.Frag} {CH CY : Addr}
/-- what is told of who takes, as a structure: lemmas unify with it -/
structure SpTk (K : PySem.W.Frag) (CH CY : Addr) (vs : List V) (H : Hp) (Q : VK) (E : XK) : Prop where
  it : spTks K CH CY vs H Q E
theorem tks_goN {H : Hp} {Q : VK} {E : XK} {ho so : Addr} {v : V} {as : List (List Part)} {m : Int} {F : List (Str × Option Str)} {D : List (Str × Int)} (hH : HomeAt K CH H ho F) (hY : StoryAt K CY H so D) (hW : WhomAt K H v as) (gw : GoodW F as) (m0 : -9999 ≤ m) (m1 : m ≤ 9999)
    (q : ∀ H' t, Same H H' → ToldAt K H' (.ref t) (takN F (fun y => aliveB D y m) as) → (∀ t ∈ takN F (fun y => aliveB D y m) as, okL t.1) → ToldN K H' t (takN F (fun y => aliveB D y m) as) → Q (.ref t) H') : SpTk K CH CY [.ref ho, v, .ref so, .int m] H Q E :=
  ⟨⟨ho, so, v, as, m, F, D, rfl, hH, hY, hW.dz, gw, m0, m1, fun H' t s h nd => q H' t s h (tak_okL hH.good gw) nd⟩⟩
theorem tks_go {H : Hp} {Q : VK} {E : XK} {ho so : Addr} {v : V} {as : List (List Part)} {m : Int} {F : List (Str × Option Str)} {D : List (Str × Int)} (hH : HomeAt K CH H ho F) (hY : StoryAt K CY H so D) (hW : WhomAt K H v as) (gw : GoodW F as) (m0 : -9999 ≤ m) (m1 : m ≤ 9999)
    (q : ∀ H' t, Same H H' → ToldAt K H' (.ref t) (takN F (fun y => aliveB D y m) as) → (∀ t ∈ takN F (fun y => aliveB D y m) as, okL t.1) → Q (.ref t) H') : SpTk K CH CY [.ref ho, v, .ref so, .int m] H Q E :=
  tks_goN hH hY hW gw m0 m1 fun H' t s h o _ => q H' t s h o
structure SpNb (K : PySem.W.Frag) (CH CY : Addr) (vs : List V) (H : Hp) (Q : VK) (E : XK) : Prop where
  it : spNob K CH CY vs H Q E
theorem nob_go {H : Hp} {Q : VK} {E : XK} {ho so aN : Addr} {zs : List Str} {m : Int} {F : List (Str × Option Str)} {D : List (Str × Int)} (hH : HomeAt K CH H ho F) (hY : StoryAt K CY H so D) (hN : H aN = some (.lst (zs.map V.str))) (zm : ∀ z ∈ zs, z ∈ F.map Prod.fst) (m0 : -9999 ≤ m) (m1 : m ≤ 9999)
    (q : ∀ H' v, Same H H' → (v = .non ∨ ∃ (p : Addr) (c : Part), v = .ref p ∧ PartAt K H' (.ref p) c ∧ (c.1 = "one" ∨ c.1 = "children" ∨ c.1 = "stock") ∧ c.2 ∈ F.map Prod.fst ∧ ptN F (fun y => aliveB D y m) c = []) → Q v H') : SpNb K CH CY [.ref ho, .ref aN, .ref so, .int m] H Q E :=
  ⟨⟨ho, so, aN, zs, m, F, D, rfl, hH, hY, hN, zm, m0, m1, fun H' s => q H' _ s (.inl rfl), fun H' p x z s hw hz hp sq => q H' _ s (.inr ⟨p, (x, z), rfl, ⟨p, rfl, sq⟩, hw, zm z hz, hp⟩)⟩⟩
/-- what is told, compared -/
structure RNe (K : PySem.W.Frag) (x y : V) (H : Hp) (Q : VK) : Prop where
  it : rNeD K x y H Q
structure REq (K : PySem.W.Frag) (x y : V) (H : Hp) (Q : VK) : Prop where
  it : rEqD K x y H Q
theorem op_neT {X : Cx} (hu : X.A.units + 64 < cLine) : OpR X (compareOp .NotEq) (RNe X.K) := fun pins s σ H x y v u Q I rx ry h => op_neD hu pins s σ H x y v u Q I rx ry h.it
theorem op_eqT {X : Cx} (hu : X.A.units + 64 < cLine) : OpR X (compareOp .Eq) (REq X.K) := fun pins s σ H x y v u Q I rx ry h => op_eqD hu pins s σ H x y v u Q I rx ry h.it
theorem told_ne {H : Hp} {x y : V} {ts us : List (Str × Fr)} {Q : VK} (h1 : ToldAt K H x ts) (o1 : ∀ t ∈ ts, okL t.1) (h2 : ToldAt K H y us) (o2 : ∀ t ∈ us, okL t.1) (q : Q (.bl (!decide (ts = us))) H) : RNe K x y H Q :=
  ⟨⟨toldD ts, toldD us, h1.dp, h2.dp, told_sh o1, told_sh o2, by rw [told_eqv]; exact q⟩⟩
theorem told_eq {H : Hp} {x y : V} {ts us : List (Str × Fr)} {Q : VK} (h1 : ToldAt K H x ts) (o1 : ∀ t ∈ ts, okL t.1) (h2 : ToldAt K H y us) (o2 : ∀ t ∈ us, okL t.1) (q : Q (.bl (decide (ts = us))) H) : REq K x y H Q :=
  ⟨⟨toldD ts, toldD us, h1.dp, h2.dp, told_sh o1, told_sh o2, by rw [told_eqv]; exact q⟩⟩
/-- lists of places -/
theorem nat_dp {H : Hp} : ∀ ns : List Nat, DpAll K H (ns.map fun n : Nat => V.int (n : Int)) (ns.map fun n : Nat => PyData.int (n : Int))
  | [] => .nil
  | n :: ns => .cons (.int _) (nat_dp ns)
theorem nat_eqv : ∀ ns ms : List Nat, PyData.eqvAll (ns.map fun n : Nat => PyData.int (n : Int)) (ms.map fun n : Nat => PyData.int (n : Int)) = decide (ns = ms)
  | [], [] => by simp [PyData.eqvAll]
  | [], u :: us => by simp [PyData.eqvAll]
  | t :: ts, [] => by simp [PyData.eqvAll]
  | t :: ts, u :: us => by
    rw [List.map_cons, List.map_cons]
    unfold PyData.eqvAll
    rw [nat_eqv ts us]
    have : PyData.eqv (.int (t : Int)) (.int (u : Int)) = decide (t = u) := by
      simp only [PyData.eqv]
      exact beq_nat t u
    rw [this]
    simp
theorem nat_sh (ns : List Nat) : SeqAt.shaped (.list (ns.map fun n : Nat => PyData.int (n : Int))) = true := by
  have h1 : PyData.canLay0 (.list (ns.map fun n : Nat => PyData.int (n : Int))) = true := by
    simp only [PyData.canLay0]
    refine canLayAll_of fun d hd => ?_
    obtain ⟨t, ht, rfl⟩ := List.mem_map.mp hd
    rfl
  have h2 : PyData.depth (.list (ns.map fun n : Nat => PyData.int (n : Int))) ≤ 64 := by
    have := depth_all (n := 1) (ds := ns.map fun n : Nat => PyData.int (n : Int)) fun d hd => by
      obtain ⟨t, ht, rfl⟩ := List.mem_map.mp hd
      simp only [PyData.depth]
      omega
    simp only [PyData.depth]
    omega
  unfold SeqAt.shaped
  rw [h1, decide_eq_true h2]
  rfl
theorem nats_ne {H : Hp} {a b : Addr} {ns ms : List Nat} {Q : VK} (h1 : H a = some (.lst (ns.map fun n : Nat => V.int (n : Int)))) (h2 : H b = some (.lst (ms.map fun n : Nat => V.int (n : Int)))) (q : Q (.bl (!decide (ns = ms))) H) : RNe K (.ref a) (.ref b) H Q :=
  ⟨⟨_, _, .lst (sqL h1) (nat_dp ns), .lst (sqL h2) (nat_dp ms), nat_sh ns, nat_sh ms, by simp only [PyData.eqv]; rw [nat_eqv]; exact q⟩⟩
theorem nats_eq {H : Hp} {a b : Addr} {ns ms : List Nat} {Q : VK} (h1 : H a = some (.lst (ns.map fun n : Nat => V.int (n : Int)))) (h2 : H b = some (.lst (ms.map fun n : Nat => V.int (n : Int)))) (q : Q (.bl (decide (ns = ms))) H) : REq K (.ref a) (.ref b) H Q :=
  ⟨⟨_, _, .lst (sqL h1) (nat_dp ns), .lst (sqL h2) (nat_dp ms), nat_sh ns, nat_sh ms, by simp only [PyData.eqv]; rw [nat_eqv]; exact q⟩⟩
theorem told_nil {H : Hp} {p : Addr} (h : SqT K H p []) : ToldAt K H (.ref p) [] := ⟨p, [], rfl, h, .nil⟩
theorem no_okL : ∀ t ∈ ([] : List (Str × Fr)), okL t.1 := fun t h => nomatch h
end
end WdQ

set_option Elab.async false
set_option linter.all false
set_option maxRecDepth 100000
set_option maxHeartbeats 4000000
set_option exponentiation.threshold 5000
namespace WdQ
open PySem PySem.Spec PyProof.Rows L2 WdM Wd
/-! ### all parts twice; all parts turned about -/
section
variable {F : List (Str × Option Str)} {al : Str → Bool}
theorem pe_empty {gs : List (List (Str × Nat))} : peN gs = [] ↔ ∀ g ∈ gs, g = [] := by
  have e := pe_names gs
  constructor
  · intro h g hg
    rw [h] at e
    cases g with
    | nil => rfl
    | cons r g =>
      have : r.1 ∈ gs.flatten.map Prod.fst := List.mem_map_of_mem (List.mem_flatten.mpr ⟨_, hg, by simp⟩)
      rw [← e] at this
      cases this
  · intro h
    unfold peN
    rw [List.filter_eq_nil_iff.mpr fun g hg => by rw [h g hg]; decide]
    rfl
theorem tak_rel {R : List (Str × Fr) → List (Str × Fr) → Prop} (r0 : R [] []) : ∀ {as bs : List (List Part)}, A2 (fun a b => (altN F al a = [] ↔ altN F al b = []) ∧ R (sumN (altN F al a)) (sumN (altN F al b))) as bs → R (takN F al as) (takN F al bs)
  | _, _, .nil => r0
  | a :: as, b :: bs, .cons ⟨h1, h2⟩ t => by
    show R (if hasB (altN F al a) = true then sumN (altN F al a) else takN F al as) (if hasB (altN F al b) = true then sumN (altN F al b) else takN F al bs)
    by_cases c : altN F al a = []
    · rw [if_neg (has_nil.mpr c), if_neg (has_nil.mpr (h1.mp c))]
      exact tak_rel r0 t
    · rw [if_pos (has_iff.mpr c), if_pos (has_iff.mpr fun e => c (h1.mpr e))]
      exact h2
theorem a2_map {α β : Type} {R : β → α → Prop} {f : α → β} : ∀ {as : List α}, (∀ a ∈ as, R (f a) a) → A2 R (as.map f) as
  | [], _ => .nil
  | a :: as, h => .cons (h a (by simp)) (a2_map fun b hb => h b (List.mem_cons_of_mem _ hb))
theorem tak_twice (g : GoodF F) {as : List (List Part)} (l : ∀ a ∈ as, a.length ≤ 3) : takN F al (as.map fun a => a ++ a) = takN F al as := by
  refine tak_rel (R := Eq) rfl (a2_map fun a ha => ?_)
  have la := l a ha
  have e : altN F al (a ++ a) = peN (a.map (ptN F al) ++ a.map (ptN F al)) := by unfold altN; rw [List.map_append]
  refine ⟨?_, ?_⟩
  · rw [e]
    unfold altN
    rw [pe_empty, pe_empty]
    constructor
    · intro h g hg
      exact h g (List.mem_append_left _ hg)
    · intro h g hg
      rcases List.mem_append.mp hg with hg | hg <;> exact h g hg
  · rw [e]
    have m2 : Mu LB (altN F al (a ++ a)) := alt_mu g (by rw [List.length_append]; omega)
    rw [e] at m2
    exact twice_sum (by decide) m2 (alt_mu (F := F) (al := al) g (a := a) (by omega))
/-- the same names, each with the same share, in whatever order -/
def Turn (ts us : List (Str × Fr)) : Prop := ts.length = us.length ∧ ∀ t ∈ ts, lookF us t.1 = some t.2
theorem look_mem {us : List (Str × Fr)} {z : Str} {s : Fr} (h : (z, s) ∈ us) (nd : (us.map Prod.fst).Nodup) : lookF us z = some s := by
  obtain ⟨i, hi⟩ := List.mem_iff_getElem?.mp h
  exact look_at nd hi
theorem nodup_sub {L B : List Str} (nd : L.Nodup) (h : ∀ z ∈ L, z ∈ B) : L.length ≤ B.length := by
  induction L generalizing B with
  | nil => exact Nat.zero_le _
  | cons z L ih =>
    obtain ⟨zn, nd⟩ := List.nodup_cons.mp nd
    have zB := h z List.mem_cons_self
    have ih := ih (B := B.erase z) nd fun y hy => (List.mem_erase_of_ne (fun e : y = z => zn (by rw [← e]; exact hy))).mpr (h y (List.mem_cons_of_mem _ hy))
    rw [List.length_erase_of_mem zB] at ih
    have := List.length_pos_of_mem zB
    rw [List.length_cons]
    omega
theorem sum_turn {L : Nat} (l : 0 < L) {rs qs : List (Str × Nat)} (m1 : Mu L rs) (m2 : Mu L qs) (k : ∀ z, z ∈ rs.map Prod.fst ↔ z ∈ qs.map Prod.fst) (v : ∀ z, WN L rs z = WN L qs z) : Turn (sumN rs) (sumN qs) := by
  have mem : ∀ (rs : List (Str × Nat)) z, z ∈ (sumN rs).map Prod.fst ↔ z ∈ rs.map Prod.fst := fun rs z => by rw [sum_keys, mem_firsts]
  constructor
  · have e1 := nodup_sub (sum_nd rs) fun z hz => (mem qs z).mpr ((k z).mp ((mem rs z).mp hz))
    have e2 := nodup_sub (sum_nd qs) fun z hz => (mem rs z).mpr ((k z).mpr ((mem qs z).mp hz))
    rw [List.length_map, List.length_map] at e1 e2
    omega
  · intro t ht
    have hz : t.1 ∈ (sumN qs).map Prod.fst := (mem qs t.1).mpr ((k t.1).mp ((mem rs t.1).mp (List.mem_map_of_mem ht)))
    obtain ⟨u, hu, e⟩ := List.mem_map.mp hz
    have h1 := sum_mem_val m1 t ht
    have h2 := sum_mem_val m2 u hu
    rw [e, ← v t.1] at h2
    have := vl_uniq l h1 h2
    rw [this]
    refine look_mem ?_ (sum_nd qs)
    rw [← e]
    exact hu
theorem tak_back (g : GoodF F) {as : List (List Part)} (l : ∀ a ∈ as, a.length ≤ 3) : Turn (takN F al (as.map List.reverse)) (takN F al as) := by
  refine tak_rel (R := Turn) ⟨rfl, fun t h => nomatch h⟩ (a2_map fun a ha => ?_)
  have la := l a ha
  have e : altN F al a.reverse = peN (a.map (ptN F al)).reverse := by unfold altN; rw [List.map_reverse]
  refine ⟨?_, ?_⟩
  · rw [e]
    unfold altN
    rw [pe_empty, pe_empty]
    constructor
    · intro h g hg
      exact h g (List.mem_reverse.mpr hg)
    · intro h g hg
      exact h g (List.mem_reverse.mp hg)
  · have m1 : Mu LB (altN F al a.reverse) := alt_mu g (by rw [List.length_reverse]; omega)
    refine sum_turn (by decide) m1 (alt_mu g (by omega)) (fun z => ?_) fun z => ?_
    · rw [e]
      unfold altN
      rw [pe_names, pe_names, List.mem_map, List.mem_map]
      constructor
      · rintro ⟨r, hr, e⟩
        obtain ⟨gr, hg, h⟩ := List.mem_flatten.mp hr
        exact ⟨r, List.mem_flatten.mpr ⟨gr, List.mem_reverse.mp hg, h⟩, e⟩
      · rintro ⟨r, hr, e⟩
        obtain ⟨gr, hg, h⟩ := List.mem_flatten.mp hr
        exact ⟨r, List.mem_flatten.mpr ⟨gr, List.mem_reverse.mpr hg, h⟩, e⟩
    · rw [e]
      exact wn_rev _
end
/-! ### told, as a dict -/
section
variable {K : PySem.W.Frag}
theorem told_pairs {H : Hp} : ∀ {xs : List V} {ts : List (Str × Fr)}, A2 (TkAt K H) xs ts → ∃ (ps : List Addr) (kvs : List (Key × V)), xs = ps.map V.ref ∧ Paired (fun p kv => SqT K H p [kV kv.1, kv.2]) ps kvs ∧ A2 (KfAt K H) kvs ts
  | _, _, .nil => ⟨[], [], rfl, .nil, .nil⟩
  | _, _, .cons (b := t) h tl => by
    obtain ⟨c, b, rfl, h1, h2⟩ := h
    obtain ⟨ps, kvs, rfl, hp, hk⟩ := told_pairs tl
    exact ⟨c :: ps, (.inr t.1, .ref b) :: kvs, rfl, .cons h1 hp, .cons ⟨rfl, b, rfl, h2⟩ hk⟩
theorem merge_new : ∀ {kvs acc : List (Key × V)}, (acc.map Prod.fst ++ kvs.map Prod.fst).Nodup → mergeK acc kvs = acc ++ kvs
  | [], acc, _ => by rw [List.append_nil]; rfl
  | kv :: kvs, acc, nd => by
    have nk : kv.1 ∉ acc.map Prod.fst := fun h => by
      rw [List.nodup_append] at nd
      exact nd.2.2 kv.1 h kv.1 (by simp) rfl
    have e : putK acc kv.1 kv.2 = acc ++ [(kv.1, kv.2)] := by
      unfold putK
      rw [if_neg]
      intro h
      obtain ⟨p, hp, e⟩ := List.any_eq_true.mp h
      exact nk (by rw [← of_decide_eq_true e]; exact List.mem_map_of_mem hp)
    show mergeK (putK acc kv.1 kv.2) kvs = _
    rw [e, merge_new (by simpa [List.append_assoc] using nd), List.append_assoc]
    rfl
end
end WdQ

set_option Elab.async false
set_option linter.all false
set_option maxRecDepth 100000
set_option maxHeartbeats 4000000
set_option exponentiation.threshold 5000
namespace WdQ
open PySem PySem.Spec PyProof.Rows L2 WdM Wd
abbrev sPi : Stmt := topS 69
def pPi : List Str := ["_law_pool_here", "_law_estate", "_law_whom_here", "_law_tale", "_law_day", "_law_folk"]
def nPi : List Str := ["_law_pool_here", "_law_estate", "_law_whom_here", "_law_tale", "_law_day", "_law_folk", "_law_found", "_law_none", "_law_k", "_law_first", "_law_some", "_law_at", "_law_place", "_law_parts"]
theorem scPi : FnScope nPi pPi (defScope sPi) := ⟨rfl, rfl, rfl, by decide +kernel, rfl, by decide +kernel, by decide +kernel⟩
section
variable {P : Program} {w : World} {K : PySem.W.Frag} {mg : Str → Option Value} {base : Heap} {CH CY : Addr}
theorem HomeAt.bt {H H' : Hp} {o l : Addr} {rows : List (Str × Option Str)} (h : HomeAt K CH H o rows) (p : PoolAt H l) (b : Bt [l] H H') : HomeAt K CH H' o rows := by
  obtain ⟨dx, v, t, h, d, g, ht⟩ := h
  have tk := b.tk p.lst
  refine ⟨dx, v, t, b _ _ (fun z => ?_) h, d.tk tk, g, trivial⟩
  obtain ⟨zs, q⟩ := p.lst o z
  rw [h] at q
  cases q
theorem StoryAt.bt {H H' : Hp} {o l : Addr} {rows : List (Str × Int)} (h : StoryAt K CY H o rows) (p : PoolAt H l) (b : Bt [l] H H') : StoryAt K CY H' o rows := by
  obtain ⟨dx, v, h, d, g⟩ := h
  have tk := b.tk p.lst
  refine ⟨dx, v, b _ _ (fun z => ?_) h, d.tk tk, g⟩
  obtain ⟨zs, q⟩ := p.lst o z
  rw [h] at q
  cases q
/-- whom[k:k + 1] -/
def tOneW (K : PySem.W.Frag) : TE := fun σ H Q => ∃ (aW : Addr) (i : Int) (k : Nat) (as : List (List Part)) (a : List Part), σ[2]? = some (some (.ref aW)) ∧ WhomAt K H (.ref aW) as ∧ σ[8]? = some (some (.int i)) ∧ i = (k : Int) ∧ as[k]? = some a ∧ ∀ p H', Same H H' → WhomAt K H' (.ref p) [a] → Q (.ref p) H'
/-- whom[:first[0] + 1] + ((("one", folk[0]),),) -/
def tSomeW (K : PySem.W.Frag) : TE := fun σ H Q => ∃ (aW aF aN : Addr) (k : Nat) (ks : List Nat) (as : List (List Part)) (z : Str) (zs : List Str), σ[2]? = some (some (.ref aW)) ∧ WhomAt K H (.ref aW) as ∧ as.length ≤ 3 ∧ σ[9]? = some (some (.ref aF)) ∧ H aF = some (.lst ((k :: ks).map fun n : Nat => V.int (n : Int))) ∧ k < as.length ∧ σ[5]? = some (some (.ref aN)) ∧ H aN = some (.lst ((z :: zs).map V.str)) ∧ ∀ p H', Same H H' → WhomAt K H' (.ref p) (as.take (k + 1) ++ ([[("one", z)]] : List (List Part))) → Q (.ref p) H'
/-- whom[:at] + ((none,),) + whom[at:] -/
def tPutW (K : PySem.W.Frag) : TE := fun σ H Q => ∃ (aW pN : Addr) (i : Int) (k : Nat) (as : List (List Part)) (p : Part), σ[2]? = some (some (.ref aW)) ∧ WhomAt K H (.ref aW) as ∧ as.length ≤ 3 ∧ σ[11]? = some (some (.int i)) ∧ i = (k : Int) ∧ k ≤ as.length ∧ σ[7]? = some (some (.ref pN)) ∧ PartAt K H (.ref pN) p ∧ ∀ q H', Same H H' → WhomAt K H' (.ref q) (as.take k ++ [[p]] ++ as.drop k) → Q (.ref q) H'
/-- whom[at][:place] + (none,) + whom[at][place:] -/
def tInW (K : PySem.W.Frag) : TE := fun σ H Q => ∃ (aW pN : Addr) (i j : Int) (n k : Nat) (as : List (List Part)) (a : List Part) (p : Part), σ[2]? = some (some (.ref aW)) ∧ WhomAt K H (.ref aW) as ∧ σ[11]? = some (some (.int i)) ∧ i = (n : Int) ∧ as[n]? = some a ∧ a.length ≤ 3 ∧ σ[12]? = some (some (.int j)) ∧ j = (k : Int) ∧ k ≤ a.length ∧ σ[7]? = some (some (.ref pN)) ∧ PartAt K H (.ref pN) p ∧ ∀ q H', Same H H' → AltAt K H' (.ref q) (a.take k ++ [p] ++ a.drop k) → Q (.ref q) H'
/-- whom[:at] + (parts,) + whom[at + 1:] -/
def tLastW (K : PySem.W.Frag) : TE := fun σ H Q => ∃ (aW aP : Addr) (i : Int) (k : Nat) (as : List (List Part)) (a : List Part), σ[2]? = some (some (.ref aW)) ∧ WhomAt K H (.ref aW) as ∧ as.length ≤ 3 ∧ σ[11]? = some (some (.int i)) ∧ i = (k : Int) ∧ k < as.length ∧ σ[13]? = some (some (.ref aP)) ∧ AltAt K H (.ref aP) a ∧ ∀ q H', Same H H' → WhomAt K H' (.ref q) (as.take k ++ [a] ++ as.drop (k + 1)) → Q (.ref q) H'
def spPi (K : PySem.W.Frag) (CH CY : Addr) : Sp := fun vs H Q _ => ∃ (l ho so aW aN : Addr) (zs : List Str) (m : Int) (as : List (List Part)) (F : List (Str × Option Str)) (D : List (Str × Int)), vs = [.ref l, .ref ho, .ref aW, .ref so, .int m, .ref aN] ∧ PoolAt H l ∧ HomeAt K CH H ho F ∧ StoryAt K CY H so D ∧ WhomAt K H (.ref aW) as ∧ 1 ≤ as.length ∧ as.length ≤ 3 ∧ (∀ a ∈ as, DrA (F.map Prod.fst) a) ∧
  H aN = some (.lst (zs.map V.str)) ∧ zs = F.map Prod.fst ∧ aN ≠ l ∧ -9999 ≤ m ∧ m ≤ 9999 ∧ ∀ H', Bt [l] H H' → PoolAt H' l → Q (.bl true) H'
def tRestPi (K : PySem.W.Frag) (CH CY : Addr) : TS := fun D σ H => ∃ (l ho so aW aN t L : Addr) (vN : V) (m : Int) (as : List (List Part)) (F : List (Str × Option Str)) (Dd : List (Str × Int)) (y8 y10 : Option V),
  σ = [some (.ref l), some (.ref ho), some (.ref aW), some (.ref so), some (.int m), some (.ref aN), some (.ref t), some vN, y8, some (.ref L), y10, none, none, none] ∧ PoolAt H l ∧ HomeAt K CH H ho F ∧ StoryAt K CY H so Dd ∧ WhomAt K H (.ref aW) as ∧ 1 ≤ as.length ∧ as.length ≤ 3 ∧ (∀ a ∈ as, DrA (F.map Prod.fst) a) ∧ -9999 ≤ m ∧ m ≤ 9999 ∧
  ToldAt K H (.ref t) (takN F (fun y => aliveB Dd y m) as) ∧ (∀ t ∈ takN F (fun y => aliveB Dd y m) as, okL t.1) ∧ (vN = .non ∨ ∃ (p : Addr) (c : Part), vN = .ref p ∧ PartAt K H (.ref p) c ∧ (c.1 = "one" ∨ c.1 = "children" ∨ c.1 = "stock") ∧ c.2 ∈ F.map Prod.fst ∧ ptN F (fun y => aliveB Dd y m) c = []) ∧
  ∀ H', Bt [l] H H' → PoolAt H' l → D.rt (.bl true) H'
theorem ok_pi {f fT fN fK : Addr} {fd fdT fdN fdK : FuncData} {k : Nat} (B : Bi mg) (D : Df K mg "_law_put_in_right" sPi f fd pPi) (DK : Df K mg "_law_take" sTake fK fdK ["_law_pool_here", "_law_many"]) (GK : FnOk P w K mg base CX0 (k + 1) fK fdK ["_law_pool_here", "_law_many"] spTake)
    (gT : mg "takers" = some (.ref fT)) (kT : PySem.W.keepIn K (.ref fT) = true) (bT : Binds K fdT ["house", "whom", "story", "wait"] []) (GT : FnOk P w K mg base CX0 (k + 14) fT fdT ["house", "whom", "story", "wait"] (SpTk K CH CY))
    (DN : Df K mg "_law_nobody" sNob fN fdN ["_law_estate", "_law_folk", "_law_tale", "_law_day"]) : FnOk P w K mg base CX0 (k + 16) f fd pPi (spPi K CH CY) := by
  have GN : FnOk P w K mg base CX0 (k + 15) fN fdN ["_law_estate", "_law_folk", "_law_tale", "_law_day"] (SpNb K CH CY) := (ok_nob B DN gT kT bT (GT.imp fun _ _ _ _ h => ⟨h⟩)).imp fun _ _ _ _ h => h.it
  refine D.fn.ok scPi (fun vs H Q E h => ?_) (fun cdv A outer s H vs Q E hr h => ?_)
  · obtain ⟨l, ho, so, aW, aN, zs, m, as, F, Dd, rfl, _⟩ := h
    rfl
  · obtain ⟨l, ho, so, aW, aN, zs, m, as, F, Dd, rfl, pool, hH, hY, hW, a1, a3, dr, hN, rfl, nNl, m0, m1, q⟩ := h
    have hu : _ + 64 < cLine := hr.units
    have r1 : Room (k + 1) _ := hr.mono (by omega)
    have r14 : Room (k + 14) _ := hr.mono (by omega)
    refine ⟨_, pss_cons (ps_par (i := 6) (j := 7) rfl scPi.nd rfl rfl (by decide) rfl rfl (pa_cons (pe_call GT r14 (by rfl) gT kT bT .nil pass0 (pa_cons (pv 1) (pa_cons (pv 2) (pa_cons (pv 3) (pa_cons (pv 4) pa_nil))))) (pa_cons (pe_call GN hr (by rfl) DN.mg DN.fn.kp DN.bd .nil pass0 (pa_cons (pv 1) (pa_cons (pv 5) (pa_cons (pv 3) (pa_cons (pv 4) pa_nil))))) pa_nil)) (by rfl))
      (pss_cons (ps_setLc (i := 9) (own := [("_law_k", 8)]) (g := gName 8) rfl scPi.nd rfl rfl (sw_true rfl rfl rfl (by decide +kernel)) (pi_range1 (by rfl) B.range (pa_cons (pe_callB (r := rLenK K) call_len_seq (by rfl) B.len PySem.boot_len (pa_cons (pv 2) pa_nil)) pa_nil)) (blkOk_by (own := [("_law_k", 8)]) (N := nPi) (sc := defScope sPi) (by decide +kernel))
          (fun _ _ _ _ _ => pg_name (i := 8) scPi.nd rfl (Or.inl rfl)) (fun _ _ _ _ _ => pts_one (pt_cmpR (r := RNe K) (op_neT hu) (pe_call GT r14 (by rfl) gT kT bT .nil pass0 (pa_cons (pv 1) (pa_cons (PE.wk (t' := tOneW K) (pe_slice (r := rSlA K) sl_tupA (pv 2) (po_some (pv 8)) (po_some (pe_op op_add (pv 8) pe_int))) (by
            rintro σ H Q ⟨aW, i, k, as, a, h2, ⟨t, xs, e, ht, hx⟩, h8, rfl, ha, q⟩
            cases e
            obtain ⟨x, hk, hA⟩ := hx.get2 ha
            exact ⟨_, h2, _, h8, _, rfl, _, h8, _, 1, rfl, rfl, _, rfl, tcut_at ht hk fun p H' s c => q p H' s ⟨p, _, rfl, c, .cons (hA.tk (tk_same s)) .nil⟩⟩)) (pa_cons (pv 3) (pa_cons (pv 4) pa_nil))))) (pe_tup pa_nil) (nomark _))) (fun _ _ _ _ _ => pv 8))
      (pss_cons (ps_if (pt_cmpR op_ne (pe_cmpR (r := REq K) (op_eqT hu) (pv 6) (pe_tup pa_nil) (nomark _)) (pe_cmpR (r := REq K) (op_eqT hu) (pv 9) (pe_lst pa_nil) (nomark _)) (nomark _)) pss_noS pss_nil)
      (pss_cons (ps_if (pt_cmpR (r := RNe K) (op_neT hu) (pv 9) (pe_lst pa_nil) (nomark _))
          (pss_cons (ps_set (i := 10) scPi.nd rfl (.inl rfl) (PE.wk (t' := tSomeW K) (pe_op (r := rCatA K) op_catA (pe_slice (r := rSlA K) sl_tupA (pv 2) po_none (po_some (pe_op op_add (pe_ix (r := rIxL K) ix_list (pv 9) pe_int (fun _ _ => rfl)) pe_int))) (pe_tup (pa_cons (pe_tup (pa_cons (pe_tup (pa_cons pe_str (pa_cons (pe_ix (r := rIxL K) ix_list (pv 5) pe_int (fun _ _ => rfl)) pa_nil))) pa_nil)) pa_nil))) (by
            rintro σ H Q ⟨aW, aF, aN, k, ks, as, z, zs, h2, ⟨t, xs, e, ht, hx⟩, l3, h9, hF, kl, h5, hN, q⟩
            cases e
            have xl := hx.len
            refine ⟨_, h2, _, h9, aF, _, 0, _, rfl, rfl, sqL hF, atI_nat (j := 0) rfl, _, 1, rfl, rfl, _, rfl, tcut_lo (k := k + 1) ht (by omega) fun p1 H1 s1 c1 => ⟨_, h5, aN, _, 0, _, rfl, rfl, sqL (s1 _ _ hN), atI_nat (j := 0) rfl, by show 2 ≤ sizeLine; decide, fun p2 n2 => ⟨by show 1 ≤ sizeLine; decide, fun p3 n3 => ⟨by show 1 ≤ sizeLine; decide, fun p4 n4 => ?_⟩⟩⟩⟩
            have s4 := (same_new (o := .tup [.str "one", .str z]) n2).trans ((same_new (o := .tup [.ref p2]) n3).trans (same_new (o := .tup [.ref p3]) n4))
            refine tcat ((tk_same s4).sq c1) (sqT upd_same) (by rw [List.length_take]; show _ + 1 ≤ 1000; omega) fun p5 H5 s5 c5 => q p5 H5 (s1.trans (s4.trans s5)) ⟨p5, _, rfl, c5, (alts_tk (hx.take (k + 1)) (tk_same (s1.trans (s4.trans s5)))).append (.cons ?_ .nil)⟩
            exact AltAt.tk ⟨p3, _, rfl, (tk_new n4).sq (sqT upd_same), .cons ⟨p2, rfl, ((tk_new n3).trans (tk_new n4)).sq (sqT upd_same)⟩ .nil⟩ (tk_same s5))))
          (pss_one (ps_if (pt_cmpR (r := RNe K) (op_neT hu) (pe_call GT r14 (by rfl) gT kT bT .nil pass0 (pa_cons (pv 1) (pa_cons (pv 10) (pa_cons (pv 3) (pa_cons (pv 4) pa_nil))))) (pv 6) (nomark _)) pss_noS pss_nil))) pss_nil)
      (PSs.wk (t' := tRestPi K CH CY) (pss_cons (ps_if (pt_cmpR op_isN (pv 7) pe_non (nomark _)) (pss_one (ps_ret pe_bl)) pss_nil)
      (pss_cons (ps_set (i := 11) scPi.nd rfl (.inl rfl) (pe_call GK r1 (by rfl) DK.mg DK.fn.kp DK.bd .nil pass0 (pa_cons (pv 0) (pa_cons (pe_op op_add (pe_callB (r := rLenK K) call_len_seq (by rfl) B.len PySem.boot_len (pa_cons (pv 2) pa_nil)) pe_int) pa_nil))))
      (pss_cons (ps_if (pt_cmpR (r := RNe K) (op_neT hu) (pe_call GT r14 (by rfl) gT kT bT .nil pass0 (pa_cons (pv 1) (pa_cons (PE.wk (t' := tPutW K) (pe_op (r := rCatA K) op_catA (pe_op (r := rCatA K) op_catA (pe_slice (r := rSlA K) sl_tupA (pv 2) po_none (po_some (pv 11))) (pe_tup (pa_cons (pe_tup (pa_cons (pv 7) pa_nil)) pa_nil))) (pe_slice (r := rSlA K) sl_tupA (pv 2) (po_some (pv 11)) po_none)) (by
            rintro σ H Q ⟨aW, pN, i, k, as, p, h2, ⟨t, xs, e, ht, hx⟩, l3, h11, rfl, kl, h7, hp, q⟩
            cases e
            have xl := hx.len
            refine ⟨_, h2, _, h11, _, rfl, tcut_lo (k := k) ht (by omega) fun p1 H1 s1 c1 => ⟨_, h7, by show 1 ≤ sizeLine; decide, fun p2 n2 => ⟨by show 1 ≤ sizeLine; decide, fun p3 n3 => ?_⟩⟩⟩
            have s3 := (same_new (o := .tup [.ref pN]) n2).trans (same_new (o := .tup [.ref p2]) n3)
            have alt : AltAt K (upd (upd H1 p2 (.tup [.ref pN])) p3 (.tup [.ref p2])) (.ref p2) [p] := ⟨p2, _, rfl, (tk_new n3).sq (sqT upd_same), .cons (hp.tk (tk_same (s1.trans s3))) .nil⟩
            refine tcat ((tk_same s3).sq c1) (sqT upd_same) (by rw [List.length_take]; show _ + 1 ≤ 1000; omega) fun p4 H4 s4 c4 => ?_
            have s14 := s1.trans (s3.trans s4)
            refine ⟨_, h2, _, h11, _, rfl, tcut_hi (k := k) ((tk_same s14).sq ht) (by omega) fun p5 H5 s5 c5 => tcat ((tk_same s5).sq c4) c5 (by rw [List.length_append, List.length_take, List.length_drop]; show _ + 1 + _ ≤ 1000; omega) fun p6 H6 s6 c6 => q p6 H6 (s14.trans (s5.trans s6)) ⟨p6, _, rfl, c6, ((alts_tk (hx.take k) (tk_same (s14.trans (s5.trans s6)))).append (.cons (alt.tk (tk_same (s4.trans (s5.trans s6)))) .nil)).append (alts_tk (hx.drop k) (tk_same (s14.trans (s5.trans s6))))⟩⟩)) (pa_cons (pv 3) (pa_cons (pv 4) pa_nil))))) (pv 6) (nomark _)) pss_noS pss_nil)
      (pss_cons (ps_set (i := 11) scPi.nd rfl (.inl rfl) (pe_call GK r1 (by rfl) DK.mg DK.fn.kp DK.bd .nil pass0 (pa_cons (pv 0) (pa_cons (pe_callB (r := rLenK K) call_len_seq (by rfl) B.len PySem.boot_len (pa_cons (pv 2) pa_nil)) pa_nil))))
      (pss_cons (ps_set (i := 12) scPi.nd rfl (.inl rfl) (pe_call GK r1 (by rfl) DK.mg DK.fn.kp DK.bd .nil pass0 (pa_cons (pv 0) (pa_cons (pe_op op_add (pe_callB (r := rLenK K) call_len_seq (by rfl) B.len PySem.boot_len (pa_cons (pe_ix (r := rIxT K) ix_tup (pv 2) (pv 11) (fun _ _ => rfl)) pa_nil)) pe_int) pa_nil))))
      (pss_cons (ps_set (i := 13) scPi.nd rfl (.inl rfl) (PE.wk (t' := tInW K) (pe_op (r := rCatA K) op_catA (pe_op (r := rCatA K) op_catA (pe_slice (r := rSlA K) sl_tupA (pe_ix (r := rIxT K) ix_tup (pv 2) (pv 11) (fun _ _ => rfl)) po_none (po_some (pv 12))) (pe_tup (pa_cons (pv 7) pa_nil))) (pe_slice (r := rSlA K) sl_tupA (pe_ix (r := rIxT K) ix_tup (pv 2) (pv 11) (fun _ _ => rfl)) (po_some (pv 12)) po_none)) (by
            rintro σ H Q ⟨aW, pN, i, j, n, k, as, a, p, h2, ⟨t, xs, e, ht, hx⟩, h11, rfl, ha, l3, h12, rfl, kl, h7, hp, q⟩
            cases e
            obtain ⟨x, hk, u, ys, rfl, hu, hy⟩ := hx.get2 ha
            have yl := hy.len
            refine ⟨_, h2, _, h11, aW, _, _, _, rfl, rfl, ht, atI_nat hk, _, h12, _, rfl, tcut_lo (k := k) hu (by omega) fun p1 H1 s1 c1 => ⟨_, h7, by show 1 ≤ sizeLine; decide, fun p2 n2 => ?_⟩⟩
            have s2 := same_new (o := .tup [.ref pN]) n2
            refine tcat ((tk_same s2).sq c1) (sqT upd_same) (by rw [List.length_take]; show _ + 1 ≤ 1000; omega) fun p4 H4 s4 c4 => ?_
            have s14 := s1.trans (s2.trans s4)
            refine ⟨_, h2, _, h11, aW, _, _, _, rfl, rfl, (tk_same s14).sq ht, atI_nat hk, _, h12, _, rfl, tcut_hi (k := k) ((tk_same s14).sq hu) (by omega) fun p5 H5 s5 c5 => tcat ((tk_same s5).sq c4) c5 (by rw [List.length_append, List.length_take, List.length_drop]; show _ + 1 + _ ≤ 1000; omega) fun p6 H6 s6 c6 => q p6 H6 (s14.trans (s5.trans s6)) ⟨p6, _, rfl, c6, ((pts_tk (hy.take k) (tk_same (s14.trans (s5.trans s6)))).append (.cons (hp.tk (tk_same (s14.trans (s5.trans s6)))) .nil)).append (pts_tk (hy.drop k) (tk_same (s14.trans (s5.trans s6))))⟩⟩)))
      (pss_one (ps_ret (pe_cmpR (r := REq K) (op_eqT hu) (pe_call GT r14 (by rfl) gT kT bT .nil pass0 (pa_cons (pv 1) (pa_cons (PE.wk (t' := tLastW K) (pe_op (r := rCatA K) op_catA (pe_op (r := rCatA K) op_catA (pe_slice (r := rSlA K) sl_tupA (pv 2) po_none (po_some (pv 11))) (pe_tup (pa_cons (pv 13) pa_nil))) (pe_slice (r := rSlA K) sl_tupA (pv 2) (po_some (pe_op op_add (pv 11) pe_int)) po_none)) (by
            rintro σ H Q ⟨aW, aP, i, k, as, a, h2, ⟨t, xs, e, ht, hx⟩, l3, h11, rfl, kl, h13, hp, q⟩
            cases e
            have xl := hx.len
            refine ⟨_, h2, _, h11, _, rfl, tcut_lo (k := k) ht (by omega) fun p1 H1 s1 c1 => ⟨_, h13, by show 1 ≤ sizeLine; decide, fun p2 n2 => ?_⟩⟩
            have s2 := same_new (o := .tup [.ref aP]) n2
            refine tcat ((tk_same s2).sq c1) (sqT upd_same) (by rw [List.length_take]; show _ + 1 ≤ 1000; omega) fun p4 H4 s4 c4 => ?_
            have s14 := s1.trans (s2.trans s4)
            refine ⟨_, h2, _, h11, _, 1, rfl, rfl, _, rfl, tcut_hi (k := k + 1) ((tk_same s14).sq ht) (by omega) fun p5 H5 s5 c5 => tcat ((tk_same s5).sq c4) c5 (by rw [List.length_append, List.length_take, List.length_drop]; show _ + 1 + _ ≤ 1000; omega) fun p6 H6 s6 c6 => q p6 H6 (s14.trans (s5.trans s6)) ⟨p6, _, rfl, c6, ((alts_tk (hx.take k) (tk_same (s14.trans (s5.trans s6)))).append (.cons (hp.tk (tk_same (s14.trans (s5.trans s6)))) .nil)).append (alts_tk (hx.drop (k + 1)) (tk_same (s14.trans (s5.trans s6))))⟩⟩)) (pa_cons (pv 3) (pa_cons (pv 4) pa_nil))))) (pv 6) (nomark _)))))))))) (by
            rintro Dx σ H ⟨l, ho, so, aW, aN, t, L, vN, m, as, F, Dd, y8, y10, rfl, pool, hH, hY, hW, a1, a3, dr, m0, m1, told, okt, hn, q⟩
            have gA : ∀ a ∈ as, GoodA F a := fun a ha => (dr a ha).good
            obtain ⟨_, xs, e, ht, hx⟩ := id hW
            cases e
            have xl := hx.len
            refine ⟨_, rfl, rfl, _, rfl, ?_⟩
            rcases hn with rfl | ⟨pN, c, rfl, hp, hc1, hc2, hz⟩
            · exact iteT (q H (Bt.refl H) pool)
            refine iteF ⟨_, rfl, _, rfl, aW, xs, rfl, .inr ht, _, 1, rfl, rfl, l, _, rfl, pool, by omega, fun H1 d1 b1 pool1 d10 d11 => ?_⟩
            have tk1 : Tk H H1 := b1.tk pool.lst
            have hH1 := hH.bt pool b1
            have hY1 := hY.bt pool b1
            have hW1 := hW.tk tk1
            have hp1 := hp.tk tk1
            have told1 := told.tk tk1
            have gc : GoodA F [c] := ⟨by show 1 ≤ 1; decide, by show 1 ≤ 6; decide, fun p hp => by rw [List.mem_singleton.mp hp]; exact hc1, fun p hp => by rw [List.mem_singleton.mp hp]; exact hc2⟩
            refine ⟨_, rfl, aW, pN, d1, d1.toNat, as, c, rfl, hW1, a3, rfl, by omega, by omega, rfl, hp1, fun p2 H2 s2 w2 => ?_⟩
            have gw2 : GoodW F (as.take d1.toNat ++ [[c]] ++ as.drop d1.toNat) := by
              refine ⟨?_, ?_, fun a ha => ?_⟩
              · rw [List.length_append, List.length_append]
                show 1 ≤ _ + 1 + _
                omega
              · rw [List.length_append, List.length_append, List.length_take, List.length_drop]
                show _ + 1 + _ ≤ 4
                omega
              · rcases List.mem_append.mp ha with h | h
                · rcases List.mem_append.mp h with h | h
                  · exact gA a (List.mem_of_mem_take h)
                  · rw [List.mem_singleton.mp h]
                    exact gc
                · exact gA a (List.mem_of_mem_drop h)
            refine ⟨_, rfl, _, rfl, tks_go (hH1.same s2) (hY1.same s2) w2 gw2 m0 m1 fun H3 t3 s3 td3 o3 => ⟨_, rfl, told_ne td3 o3 (told1.tk (tk_same (s2.trans s3))) okt ⟨_, rfl, ?_⟩⟩⟩
            rw [decide_eq_true (tak_put hz)]
            have s23 := s2.trans s3
            have b3 : Bt [l] H H3 := b1.trans (Bt.of_same s23)
            have pool3 := pool1.same s23
            have tk3 : Tk H H3 := tk1.trans (tk_same s23)
            refine iteF ⟨_, rfl, _, rfl, aW, xs, rfl, .inr (tk3.sq ht), l, _, rfl, pool3, by omega, fun H4 d4 b4 pool4 d40 d41 => ?_⟩
            have b04 := b3.trans b4
            have tk4 : Tk H H4 := b04.tk pool.lst
            obtain ⟨a, ha⟩ : ∃ a, as[d4.toNat]? = some a := ⟨_, List.getElem?_eq_getElem (show d4.toNat < as.length by omega)⟩
            obtain ⟨x, hxk, u, ys, rfl, hu4, hy⟩ := hx.get2 ha
            have yl := hy.len
            have da := dr a (List.mem_of_getElem? ha)
            have dl3 := da.l3
            have e4 : d4 = (d4.toNat : Int) := by omega
            have at4 : atI xs d4 = some (.ref u) := by
              rw [e4]
              exact atI_nat hxk
            refine ⟨_, rfl, _, rfl, _, rfl, aW, _, d4, _, rfl, rfl, tk4.sq ht, at4, u, ys, rfl, .inr (tk4.sq hu4), _, 1, rfl, rfl, l, _, rfl, pool4, by omega, fun H5 d5 b5 pool5 d50 d51 => ?_⟩
            have b05 := b04.trans b5
            have tk5 : Tk H H5 := b05.tk pool.lst
            refine ⟨aW, pN, d4, d5, d4.toNat, d5.toNat, as, a, c, rfl, hW.tk tk5, rfl, e4, ha, dl3, rfl, by omega, by omega, rfl, hp.tk tk5, fun p6 H6 s6 w6 => ?_⟩
            have tk6 : Tk H H6 := tk5.trans (tk_same s6)
            refine ⟨_, rfl, aW, p6, d4, d4.toNat, as, _, rfl, hW.tk tk6, a3, rfl, e4, by omega, rfl, w6, fun p7 H7 s7 w7 => ?_⟩
            have s67 := s6.trans s7
            have gw7 : GoodW F (as.take d4.toNat ++ [a.take d5.toNat ++ [c] ++ a.drop d5.toNat] ++ as.drop (d4.toNat + 1)) := by
              refine ⟨?_, ?_, fun b hb => ?_⟩
              · rw [List.length_append, List.length_append]
                show 1 ≤ _ + 1 + _
                omega
              · rw [List.length_append, List.length_append, List.length_take, List.length_drop]
                show _ + 1 + _ ≤ 4
                omega
              · rcases List.mem_append.mp hb with h | h
                · rcases List.mem_append.mp h with h | h
                  · exact gA b (List.mem_of_mem_take h)
                  · rw [List.mem_singleton.mp h]
                    have g1 := (gA a (List.mem_of_getElem? ha))
                    refine ⟨?_, ?_, fun p hp => ?_, fun p hp => ?_⟩
                    · rw [List.length_append, List.length_append]
                      show 1 ≤ _ + 1 + _
                      omega
                    · rw [List.length_append, List.length_append, List.length_take, List.length_drop]
                      show _ + 1 + _ ≤ 6
                      omega
                    · rcases List.mem_append.mp hp with h | h
                      · rcases List.mem_append.mp h with h | h
                        · exact g1.wd p (List.mem_of_mem_take h)
                        · exact gc.wd p h
                      · exact g1.wd p (List.mem_of_mem_drop h)
                    · rcases List.mem_append.mp hp with h | h
                      · rcases List.mem_append.mp h with h | h
                        · exact g1.nm p (List.mem_of_mem_take h)
                        · exact gc.nm p h
                      · exact g1.nm p (List.mem_of_mem_drop h)
                · exact gA b (List.mem_of_mem_drop h)
            refine ⟨_, rfl, _, rfl, tks_go ((hH.bt pool b05).same s67) ((hY.bt pool b05).same s67) w7 gw7 m0 m1 fun H8 t8 s8 td8 o8 => ⟨_, rfl, told_eq td8 o8 (told.tk (tk5.trans (tk_same (s67.trans s8)))) okt ?_⟩⟩
            rw [decide_eq_true (tak_in ha hz)]
            exact q H8 (b05.trans (Bt.of_same (s67.trans s8))) (pool5.same (s67.trans s8))))))), ?_⟩
    have gA : ∀ a ∈ as, GoodA F a := fun a ha => (dr a ha).good
    have gw : GoodW F as := ⟨a1, by omega, gA⟩
    have g := hH.good
    refine ⟨_, rfl, _, rfl, _, rfl, _, rfl, tks_go hH hY hW gw m0 m1 fun H1 t s1 t1 o1 => ?_⟩
    refine ⟨_, rfl, _, rfl, _, rfl, _, rfl, nob_go (hH.same s1) (hY.same s1) (s1 _ _ hN) (fun z hz => hz) m0 m1 fun H2 vN s2 hn => ?_⟩
    have s12 := s1.trans s2
    have hH2 := hH.same s12
    have hY2 := hY.same s12
    have hN2 := s12 _ _ hN
    have hW2 := hW.tk (tk_same s12)
    have t2 := t1.tk (tk_same s2)
    have pool2 := pool.same s12
    revert hn
    clear t1
    generalize hal : (fun y => aliveB Dd y m) = al at t2 o1 ⊢
    intro hn
    obtain ⟨_, xs, e, ht, hx⟩ := id hW2
    cases e
    have xl := hx.len
    refine ⟨_, _, rfl, _, rfl, aW, xs, rfl, .inr ht, _, rfl, by omega, by omega, fun L nL => lc_range (lo := 0) (n := xs.length) (fun j H' => H' L = some (.lst ((fstN F al as j).map fun n : Nat => V.int (n : Int))) ∧ Same H2 H') ⟨upd_same, same_new nL⟩ ?_ ?_⟩
    · rintro j H3 hj ⟨hL, s3⟩
      obtain ⟨a, ha⟩ : ∃ a, as[j]? = some a := ⟨_, List.getElem?_eq_getElem (show j < as.length by omega)⟩
      refine ⟨rfl, _, rfl, aW, _, j, as, a, rfl, hW2.tk (tk_same s3), rfl, Int.zero_add _, ha, fun p1 H4 s4 w4 => ?_⟩
      have s34 := s3.trans s4
      have gw1 : GoodW F [a] := ⟨by show 1 ≤ 1; decide, by show 1 ≤ 4; decide, fun b hb => by rw [List.mem_singleton.mp hb]; exact gA a (List.mem_of_getElem? ha)⟩
      refine ⟨_, rfl, _, rfl, tks_go (hH2.same s34) (hY2.same s34) w4 gw1 m0 m1 fun H5 t5 s5 td5 o5 => ?_⟩
      rw [hal] at td5 o5
      refine ⟨by show 0 ≤ sizeLine; decide, fun p6 n6 => told_ne (td5.tk (tk_new n6)) o5 (told_nil (sqT upd_same)) no_okL ⟨_, rfl, ?_⟩⟩
      have s36 := (s4.trans s5).trans (same_new (o := .tup []) n6)
      have nLH : H2 L = none := nL
      have hL6 := s36 _ _ hL
      have fl := fst_len (F := F) (al := al) (as := as) (n := j)
      by_cases c : takN F al [a] = []
      · rw [decide_eq_true c]
        refine iteF ⟨?_, s3.trans s36⟩
        rw [fst_succ ha, if_pos c, List.append_nil]
        exact hL6
      · rw [decide_eq_false c]
        refine iteT ⟨_, rfl, _, hL6, ?_, ?_, ((Bt.of_same (S := []) (s3.trans s36)).upd0 nLH).same⟩
        · rw [List.length_map]
          exact small1000 (by omega)
        · rw [upd_same, fst_succ ha, if_neg c, List.map_append, Int.zero_add]
          rfl
    · rintro H3 ⟨hL, s3⟩
      rw [xl] at hL
      have t3 := t2.tk (tk_same s3)
      refine ⟨_, rfl, by show 0 ≤ sizeLine; decide, fun p4 n4 => told_eq (t3.tk (tk_new n4)) o1 (told_nil (sqT upd_same)) no_okL ?_⟩
      have s4 : Same H3 (upd H3 p4 (.tup [])) := same_new n4
      refine ⟨_, rfl, by show 0 ≤ sizeLine; decide, fun p5 n5 => nats_eq (ms := []) ((s4.trans (same_new n5)) _ _ hL) upd_same ⟨rfl, _, rfl, ?_⟩⟩
      have s45 := (s3.trans s4).trans (same_new (o := .lst []) n5)
      have eb : decide (takN F al as = []) = decide (fstN F al as as.length = []) := decide_eq_decide.mpr fst_nil.symm
      rw [eb, show (!decide (V.bl (decide (fstN F al as as.length = [])) = V.bl (decide (fstN F al as as.length = [])))) = false by simp]
      refine iteF ⟨_, rfl, by show 0 ≤ sizeLine; decide, fun p6 n6 => ?_⟩
      have s36 := s45.trans (same_new (o := .lst []) n6)
      have hL6 := ((s4.trans (same_new n5)).trans (same_new (o := .lst []) n6)) _ _ hL
      have t6 := t2.tk (tk_same s36)
      refine nats_ne (ms := []) hL6 upd_same ⟨_, rfl, ?_⟩
      subst hal
      have hn6 : vN = .non ∨ ∃ (p : Addr) (c : Part), vN = .ref p ∧ PartAt K H2 (.ref p) c ∧ (c.1 = "one" ∨ c.1 = "children" ∨ c.1 = "stock") ∧ c.2 ∈ F.map Prod.fst ∧ ptN F (fun y => aliveB Dd y m) c = [] := hn
      have nn : ∀ H', Same H2 H' → (vN = .non ∨ ∃ (p : Addr) (c : Part), vN = .ref p ∧ PartAt K H' (.ref p) c ∧ (c.1 = "one" ∨ c.1 = "children" ∨ c.1 = "stock") ∧ c.2 ∈ F.map Prod.fst ∧ ptN F (fun y => aliveB Dd y m) c = []) := fun H' s => by
        rcases hn6 with h | ⟨p, c, h1, h2, h3⟩
        · exact .inl h
        · exact .inr ⟨p, c, h1, h2.tk (tk_same s), h3⟩
      cases hk : fstN F (fun y => aliveB Dd y m) as as.length with
      | nil =>
        rw [show (!decide (([] : List Nat) = [])) = false by rfl]
        exact iteF ⟨l, ho, so, aW, aN, t, L, vN, m, as, F, Dd, _, _, rfl, pool2.same s36, hH2.same s36, hY2.same s36, hW2.tk (tk_same s36), a1, a3, dr, m0, m1, t6, o1, nn _ s36, fun H' b => q H' ((Bt.of_same (s12.trans s36)).trans b)⟩
      | cons n0 ns =>
        rw [show (!decide (n0 :: ns = [])) = true by rfl]
        obtain ⟨a0, ha0, hne⟩ := fst_mem (F := F) (al := fun y => aliveB Dd y m) (as := as) (n := as.length) (k := n0) (by rw [hk]; simp)
        have kl := lt_get ha0
        obtain ⟨z, zs, hz⟩ : ∃ z zs, F.map Prod.fst = z :: zs := by
          have := g.l1
          cases F with
          | nil => cases this
          | cons r F => exact ⟨_, _, rfl⟩
        have hN6 := s36 _ _ hN2
        rw [hz] at hN6
        rw [hk] at hL6
        refine iteT ⟨aW, L, aN, n0, ns, as, z, zs, rfl, hW2.tk (tk_same s36), a3, rfl, hL6, kl, rfl, hN6, fun p7 H7 s7 w7 => ?_⟩
        have s37 := s36.trans s7
        have gw7 : GoodW F (as.take (n0 + 1) ++ ([[("one", z)]] : List (List Part))) := by
          refine ⟨?_, ?_, fun a ha => ?_⟩
          · rw [List.length_append]
            show 1 ≤ _ + 1
            omega
          · rw [List.length_append, List.length_take]
            show _ + 1 ≤ 4
            omega
          · rcases List.mem_append.mp ha with h | h
            · exact gA a (List.mem_of_mem_take h)
            · exact (one_good (x := "one") (.inl rfl) (by rw [hz]; simp)).al a h
        refine ⟨_, rfl, _, rfl, _, rfl, _, rfl, tks_go (hH2.same s37) (hY2.same s37) w7 gw7 m0 m1 fun H8 t8 s8 td8 o8 => ⟨_, rfl, told_ne td8 o8 ((t6.tk (tk_same s7)).tk (tk_same s8)) o1 ⟨_, rfl, ?_⟩⟩⟩
        rw [decide_eq_true (tak_first ha0 hne)]
        have s38 := s37.trans s8
        exact iteF ⟨l, ho, so, aW, aN, t, L, vN, m, as, F, Dd, _, _, rfl, pool2.same s38, hH2.same s38, hY2.same s38, hW2.tk (tk_same s38), a1, a3, dr, m0, m1, t2.tk (tk_same s38), o1, nn _ s38, fun H' b => q H' ((Bt.of_same (s12.trans s38)).trans b)⟩
end
end WdQ

set_option Elab.async false
set_option linter.all false
set_option maxRecDepth 100000
set_option maxHeartbeats 4000000
set_option exponentiation.threshold 5000
namespace WdQ
open PySem PySem.Spec PyProof.Rows L2 WdM Wd
abbrev sPr : Stmt := topS 70
def pPr : List Str := ["_law_estate", "_law_whom_here", "_law_tale", "_law_day"]
def nPr : List Str := ["_law_estate", "_law_whom_here", "_law_tale", "_law_day", "_law_parts", "_law_twice", "_law_back"]
theorem scPr : FnScope nPr pPr (defScope sPr) := ⟨rfl, rfl, rfl, by decide +kernel, rfl, by decide +kernel, by decide +kernel⟩
section
variable {P : Program} {w : World} {K : PySem.W.Frag} {mg : Str → Option Value} {base : Heap} {CH CY : Addr}
/-- parts + parts -/
def tDbl (K : PySem.W.Frag) : TE := fun σ H Q => ∃ (v : V) (a : List Part), σ[4]? = some (some v) ∧ AltAt K H v a ∧ a.length ≤ 3 ∧ ∀ p H', Same H H' → AltAt K H' (.ref p) (a ++ a) → Q (.ref p) H'
/-- parts[::-1] -/
def tBck (K : PySem.W.Frag) : TE := fun σ H Q => ∃ (v : V) (a : List Part), σ[4]? = some (some v) ∧ AltAt K H v a ∧ ∀ p H', Same H H' → AltAt K H' (.ref p) a.reverse → Q (.ref p) H'
theorem kfs_val {H : Hp} {kvs : List (Key × V)} {ts : List (Str × Fr)} (h : A2 (KfAt K H) kvs ts) : ∀ p ∈ kvs, ∃ t ∈ ts, p.1 = .inr t.1 ∧ FrAt K H p.2 t.2 := by
  intro p hp
  obtain ⟨i, hi⟩ := List.mem_iff_getElem?.mp hp
  obtain ⟨t, ht, e, hv⟩ := h.get hi
  exact ⟨t, List.mem_of_getElem? ht, e, hv⟩
theorem fr_dp {H : Hp} {v : V} {s : Fr} (h : FrAt K H v s) : Dp K H v (.tuple [.int (s.1 : Nat), .int (s.2 : Nat)]) := by
  obtain ⟨b, rfl, h⟩ := h
  exact .tup h (.cons (.int _) (.cons (.int _) .nil))
theorem kfs_keys {H : Hp} : ∀ {kvs : List (Key × V)} {ts : List (Str × Fr)}, A2 (KfAt K H) kvs ts → kvs.map Prod.fst = ts.map fun t => (.inr t.1 : Key)
  | _, _, .nil => rfl
  | _, _, .cons h t => by
    obtain ⟨e, _⟩ := h
    rw [List.map_cons, List.map_cons, e, kfs_keys t]
theorem kfs_nd {H : Hp} {kvs : List (Key × V)} {ts : List (Str × Fr)} (h : A2 (KfAt K H) kvs ts) (nd : (ts.map Prod.fst).Nodup) : (kvs.map Prod.fst).Nodup := by
  rw [kfs_keys h]
  have : (ts.map fun t => (.inr t.1 : Key)) = (ts.map Prod.fst).map Sum.inr := by rw [List.map_map]; rfl
  rw [this]
  exact (List.pairwise_map.mpr (nd.imp fun h e => h (Sum.inr.inj e)))
theorem tak_nd {F : List (Str × Option Str)} {al : Str → Bool} (as : List (List Part)) : ((takN F al as).map Prod.fst).Nodup := by
  rcases tak_ways (F := F) (al := al) as with ⟨h, _⟩ | ⟨a, _, _, e⟩
  · rw [h]
    exact List.nodup_nil
  · rw [e]
    exact sum_nd _
/-- dict(told) -/
structure SpDi (K : PySem.W.Frag) (vs : List V) (H : Hp) (Q : VK) : Prop where
  it : ∃ (a : Addr) (o : Obj) (ps : List Addr) (kvs : List (Key × V)), vs = [.ref a] ∧ H a = some (.frz o (.tup (ps.map V.ref))) ∧ o.dict = none ∧ Paired (fun p kv => SqT K H p [kV kv.1, kv.2]) ps kvs ∧ ∀ p, H p = none → Q (.ref p) (upd H p (.dK (mergeK [] kvs)))
theorem call_dictS {X : Cx} (hcalm : X.calm = true) : CallR X (.type "dict") (SpDi X.K) := fun pins s σ H xs us Q I r h => call_dictT hcalm pins s σ H xs us Q I r h.it
def TdD (K : PySem.W.Frag) (H : Hp) (d : Addr) (ts : List (Str × Fr)) : Prop := ∃ kvs, H d = some (.dK kvs) ∧ A2 (KfAt K H) kvs ts
theorem dict_go {H : Hp} {Q : VK} {t : Addr} {ts : List (Str × Fr)} (told : ToldN K H t ts) (nd : (ts.map Prod.fst).Nodup) (q : ∀ p H', Same H H' → TdD K H' p ts → Q (.ref p) H') : SpDi K [.ref t] H Q := by
  obtain ⟨o, xs, hy, on, hx⟩ := told
  obtain ⟨ps, kvs, rfl, hp, hk⟩ := told_pairs hx
  refine ⟨t, o, ps, kvs, rfl, hy, on, hp, fun p np => q p _ (same_new np) ⟨kvs, ?_, kfs_tk hk (tk_new np)⟩⟩
  rw [merge_new (by simpa using kfs_nd hk nd), List.nil_append]
  exact upd_same
theorem TdD.same {H H' : Hp} {d : Addr} {ts : List (Str × Fr)} (h : TdD K H d ts) (s : Same H H') : TdD K H' d ts := by
  obtain ⟨kvs, h1, h2⟩ := h
  exact ⟨kvs, s _ _ h1, kfs_tk h2 (tk_same s)⟩
theorem dict_eq {H : Hp} {Q : VK} {d e : Addr} {ts us : List (Str × Fr)} (h1 : TdD K H d ts) (h2 : TdD K H e us) (tu : Turn ts us) (q : Q (.bl true) H) : rEqDD K (.ref d) (.ref e) H Q := by
  obtain ⟨ks, hd, hk⟩ := h1
  obtain ⟨ls, he, hl⟩ := h2
  refine ⟨d, e, ks, ls, rfl, rfl, hd, he, ?_, fun p hp => ?_, q⟩
  · rw [hk.len, hl.len]
    exact tu.1
  · obtain ⟨t, ht, e, hv⟩ := kfs_val hk p hp
    have lk := tu.2 t ht
    rcases kf_look (z := t.1) hl with ⟨_, e2⟩ | ⟨v, s, e1, e2, hv2⟩
    · rw [lk] at e2
      cases e2
    · rw [lk] at e2
      cases e2
      rw [e]
      refine ⟨v, _, _, e1, fr_dp hv, fr_dp hv2, ?_, ?_, ?_⟩
      · simp [SeqAt.shaped, PyData.canLay0, PyData.canLayAll0, PyData.depth, PyData.depthAll]
      · simp [SeqAt.shaped, PyData.canLay0, PyData.canLayAll0, PyData.depth, PyData.depthAll]
      · simp [PyData.eqv, PyData.eqvAll]
structure REd (K : PySem.W.Frag) (x y : V) (H : Hp) (Q : VK) : Prop where
  it : rEqDD K x y H Q
theorem op_eqS {X : Cx} (hu : X.A.units + 66 < cLine) : OpR X (compareOp .Eq) (REd X.K) := fun pins s σ H x y v u Q I rx ry h => op_eqDD hu pins s σ H x y v u Q I rx ry h.it
def spPr (K : PySem.W.Frag) (CH CY : Addr) : Sp := fun vs H Q _ => ∃ (ho so aW : Addr) (m : Int) (as : List (List Part)) (F : List (Str × Option Str)) (D : List (Str × Int)), vs = [.ref ho, .ref aW, .ref so, .int m] ∧ HomeAt K CH H ho F ∧ StoryAt K CY H so D ∧ WhomAt K H (.ref aW) as ∧ 1 ≤ as.length ∧ as.length ≤ 3 ∧ (∀ a ∈ as, DrA (F.map Prod.fst) a) ∧ -9999 ≤ m ∧ m ≤ 9999 ∧ ∀ H', Same H H' → Q (.bl true) H'
theorem ok_pr {f fT : Addr} {fd fdT : FuncData} {k : Nat} (B : Bi mg) (nDi : mg "dict" = none) (D : Df K mg "_law_parts_right" sPr f fd pPr)
    (gT : mg "takers" = some (.ref fT)) (kT : PySem.W.keepIn K (.ref fT) = true) (bT : Binds K fdT ["house", "whom", "story", "wait"] []) (GT : FnOk P w K mg base CX0 (k + 14) fT fdT ["house", "whom", "story", "wait"] (SpTk K CH CY)) : FnOk P w K mg base CX0 (k + 15) f fd pPr (spPr K CH CY) := by
  refine D.fn.ok scPr (fun vs H Q E h => ?_) (fun cdv A outer s H vs Q E hr h => ?_)
  · obtain ⟨ho, so, aW, m, as, F, Dd, rfl, _⟩ := h
    rfl
  · obtain ⟨ho, so, aW, m, as, F, Dd, rfl, hH, hY, hW, a1, a3, dr, m0, m1, q⟩ := h
    have hu : _ + 64 < cLine := hr.units
    have hu6 : _ + 66 < cLine := Nat.lt_of_le_of_lt (Nat.add_le_add_left (by omega : 66 ≤ 16 * (k + 14) + 200) _) (by have := hr.un; rw [Nat.add_assoc] at this; exact this)
    refine ⟨_, pss_cons (ps_set (i := 5) scPr.nd rfl (.inl rfl) (pe_callTy call_tuple_of (by rfl) B.tuple boot_tuple (pa_cons (pe_lc (own := [("_law_parts", 4)]) (g := gName 4) (tt := tYes) rfl scPr.nd (pi_tup (pv 1)) (blkOk_by (own := [("_law_parts", 4)]) (N := nPr) (sc := defScope sPr) (by decide +kernel))
          (fun _ _ _ _ _ => pg_name (i := 4) scPr.nd rfl (Or.inl rfl)) (fun _ _ _ _ _ => pts_nil) (fun _ _ _ _ _ => PE.wk (t' := tDbl K) (pe_op (r := rCatA K) op_catA (pv 4) (pv 4)) (by
            rintro σ H Q ⟨v, a, h4, ⟨u, zs, rfl, hu, hz⟩, l3, q⟩
            have zl := hz.len
            exact ⟨_, h4, _, h4, tcat hu hu (by omega) fun p H' s c => q p H' s ⟨p, _, rfl, c, pts_tk (hz.append hz) (tk_same s)⟩⟩))) pa_nil)))
      (pss_cons (ps_if (pt_cmpR (r := RNe K) (op_neT hu) (pe_call GT hr (by rfl) gT kT bT .nil pass0 (pa_cons (pv 0) (pa_cons (pv 5) (pa_cons (pv 2) (pa_cons (pv 3) pa_nil))))) (pe_call GT hr (by rfl) gT kT bT .nil pass0 (pa_cons (pv 0) (pa_cons (pv 1) (pa_cons (pv 2) (pa_cons (pv 3) pa_nil))))) (nomark _)) pss_noS pss_nil)
      (pss_cons (ps_set (i := 6) scPr.nd rfl (.inl rfl) (pe_callTy call_tuple_of (by rfl) B.tuple boot_tuple (pa_cons (pe_lc (own := [("_law_parts", 4)]) (g := gName 4) (tt := tYes) rfl scPr.nd (pi_tup (pv 1)) (blkOk_by (own := [("_law_parts", 4)]) (N := nPr) (sc := defScope sPr) (by decide +kernel))
          (fun _ _ _ _ _ => pg_name (i := 4) scPr.nd rfl (Or.inl rfl)) (fun _ _ _ _ _ => pts_nil) (fun _ _ _ _ _ => PE.wk (t' := tBck K) (pe_revT (pv 4)) (by
            rintro σ H Q ⟨v, a, h4, ⟨u, zs, rfl, hu, hz⟩, q⟩
            exact ⟨_, h4, u, zs, rfl, hu, fun p n => q p _ (same_new n) ⟨p, _, rfl, sqT upd_same, pts_tk hz.rev (tk_new n)⟩⟩))) pa_nil)))
      (pss_one (ps_ret (pe_cmpR (r := REd K) (op_eqS hu6) (pe_callTy (call_dictS rfl) (by rfl) nDi boot_dict (pa_cons (pe_call GT hr (by rfl) gT kT bT .nil pass0 (pa_cons (pv 0) (pa_cons (pv 6) (pa_cons (pv 2) (pa_cons (pv 3) pa_nil))))) pa_nil)) (pe_callTy (call_dictS rfl) (by rfl) nDi boot_dict (pa_cons (pe_call GT hr (by rfl) gT kT bT .nil pass0 (pa_cons (pv 0) (pa_cons (pv 1) (pa_cons (pv 2) (pa_cons (pv 3) pa_nil))))) pa_nil)) (nomark _)))))), ?_⟩
    have gA : ∀ a ∈ as, GoodA F a := fun a ha => (dr a ha).good
    have gw : GoodW F as := ⟨a1, by omega, gA⟩
    have g := hH.good
    have la : ∀ a ∈ as, a.length ≤ 3 := fun a ha => (dr a ha).l3
    obtain ⟨_, xs, e, ht, hx⟩ := id hW
    cases e
    have xl := hx.len
    refine ⟨_, rfl, aW, rfl, ⟨_, ht⟩, fun L nL => lc_tup (K := K) (a := aW) (xs := xs) (fun j H' => (∃ ys, H' L = some (.lst ys) ∧ A2 (AltAt K H') ys ((as.take j).map fun a => a ++ a)) ∧ Same H H') ⟨⟨[], upd_same, .nil⟩, same_new nL⟩ (fun j H' _ h => (tk_same h.2).sq ht) ?_ ?_⟩
    · rintro j x H1 hx1 ⟨⟨ys, hL, hy⟩, s1⟩
      obtain ⟨a, ha, hA⟩ := hx.get hx1
      have jl := lt_get ha
      have yl := hy.len
      rw [List.length_map, List.length_take] at yl
      refine ⟨rfl, tyes (iteT ⟨x, a, rfl, hA.tk (tk_same s1), la a (List.mem_of_getElem? ha), fun p H2 s2 h2 => ⟨ys, s2 _ _ hL, small1000 (by omega), ⟨ys ++ [.ref p], upd_same, ?_⟩, ((Bt.of_same (S := []) (s1.trans s2)).upd0 nL).same⟩⟩)⟩
      rw [take_more ha, List.map_append]
      have tk2 : Tk H2 (upd H2 L (.lst (ys ++ [.ref p]))) := tk_lst (s2 _ _ hL)
      exact (alts_tk (alts_tk hy (tk_same s2)) tk2).snoc (h2.tk tk2)
    rintro H1 ⟨⟨ys, hL, hy⟩, s1⟩
    rw [xl, List.take_length] at hy
    refine ⟨L, ys, rfl, .inl ⟨sqL hL, fun t2 n2 => ?_⟩⟩
    have w2 : WhomAt K (upd H1 t2 (.tup ys)) (.ref t2) (as.map fun a => a ++ a) := ⟨t2, ys, rfl, sqT upd_same, alts_tk hy (tk_new n2)⟩
    have s2 : Same H (upd H1 t2 (.tup ys)) := s1.trans (same_new n2)
    revert w2 s2
    generalize upd H1 t2 (.tup ys) = H2
    intro w2 s2
    have gw2 : GoodW F (as.map fun a => a ++ a) := by
      refine ⟨by rw [List.length_map]; exact a1, by rw [List.length_map]; omega, fun b hb => ?_⟩
      obtain ⟨a, ha, rfl⟩ := List.mem_map.mp hb
      have ga := gA a ha
      have l3 := la a ha
      refine ⟨by rw [List.length_append]; have := ga.l1; omega, by rw [List.length_append]; omega, fun p hp => ?_, fun p hp => ?_⟩
      · rcases List.mem_append.mp hp with h | h <;> exact ga.wd p h
      · rcases List.mem_append.mp hp with h | h <;> exact ga.nm p h
    refine ⟨_, rfl, _, rfl, _, rfl, _, rfl, tks_go (hH.same s2) (hY.same s2) w2 gw2 m0 m1 fun H3 t3 s3 td3 o3 => ?_⟩
    have s03 := s2.trans s3
    refine ⟨_, rfl, _, rfl, _, rfl, _, rfl, tks_go (hH.same s03) (hY.same s03) (hW.tk (tk_same s03)) gw m0 m1 fun H4 t4 s4 td4 o4 => told_ne (td3.tk (tk_same s4)) o3 td4 o4 ⟨_, rfl, ?_⟩⟩
    rw [decide_eq_true (tak_twice g la)]
    have s04 := s03.trans s4
    have ht4 := (tk_same s04).sq ht
    have hx4 := alts_tk hx (tk_same s04)
    refine iteF ⟨_, rfl, aW, rfl, ⟨_, ht4⟩, fun M nM => lc_tup (K := K) (a := aW) (xs := xs) (fun j H' => (∃ ys, H' M = some (.lst ys) ∧ A2 (AltAt K H') ys ((as.take j).map List.reverse)) ∧ Same H4 H') ⟨⟨[], upd_same, .nil⟩, same_new nM⟩ (fun j H' _ h => (tk_same h.2).sq ht4) ?_ ?_⟩
    · rintro j x H5 hx5 ⟨⟨zs, hM, hz⟩, s5⟩
      obtain ⟨a, ha, hA⟩ := hx4.get hx5
      have jl := lt_get ha
      have zl := hz.len
      rw [List.length_map, List.length_take] at zl
      refine ⟨rfl, tyes (iteT ⟨x, a, rfl, hA.tk (tk_same s5), fun p H6 s6 h6 => ⟨zs, s6 _ _ hM, small1000 (by omega), ⟨zs ++ [.ref p], upd_same, ?_⟩, ((Bt.of_same (S := []) (s5.trans s6)).upd0 nM).same⟩⟩)⟩
      rw [take_more ha, List.map_append]
      have tk6 : Tk H6 (upd H6 M (.lst (zs ++ [.ref p]))) := tk_lst (s6 _ _ hM)
      exact (alts_tk (alts_tk hz (tk_same s6)) tk6).snoc (h6.tk tk6)
    rintro H5 ⟨⟨zs, hM, hz⟩, s5⟩
    rw [xl, List.take_length] at hz
    refine ⟨M, zs, rfl, .inl ⟨sqL hM, fun t6 n6 => ?_⟩⟩
    have w6 : WhomAt K (upd H5 t6 (.tup zs)) (.ref t6) (as.map List.reverse) := ⟨t6, zs, rfl, sqT upd_same, alts_tk hz (tk_new n6)⟩
    have s6 : Same H (upd H5 t6 (.tup zs)) := (s04.trans s5).trans (same_new n6)
    revert w6 s6
    generalize upd H5 t6 (.tup zs) = H6
    intro w6 s6
    have gw6 : GoodW F (as.map List.reverse) := by
      refine ⟨by rw [List.length_map]; exact a1, by rw [List.length_map]; omega, fun b hb => ?_⟩
      obtain ⟨a, ha, rfl⟩ := List.mem_map.mp hb
      have ga := gA a ha
      exact ⟨by rw [List.length_reverse]; exact ga.l1, by rw [List.length_reverse]; exact ga.l6, fun p hp => ga.wd p (List.mem_reverse.mp hp), fun p hp => ga.nm p (List.mem_reverse.mp hp)⟩
    refine ⟨_, rfl, _, rfl, _, rfl, _, rfl, tks_goN (hH.same s6) (hY.same s6) w6 gw6 m0 m1 fun H7 t7 s7 _ _ td7 => dict_go td7 (tak_nd _) fun d8 H8 s8 dd8 => ?_⟩
    have s68 := s6.trans (s7.trans s8)
    refine ⟨_, rfl, _, rfl, _, rfl, _, rfl, tks_goN (hH.same s68) (hY.same s68) (hW.tk (tk_same s68)) gw m0 m1 fun H9 t9 s9 _ _ td9 => dict_go td9 (tak_nd _) fun d10 H10 s10 dd10 => ⟨dict_eq (dd8.same (s9.trans s10)) dd10 (tak_back g la) ?_⟩⟩
    exact q H10 (s68.trans (s9.trans s10))
end
end WdQ

set_option Elab.async false
set_option linter.all false
set_option maxRecDepth 100000
set_option maxHeartbeats 4000000
set_option exponentiation.threshold 5000
namespace WdQ
open PySem PySem.Spec PyProof.Rows L2 WdM Wd
/-! ### kin -/
section
variable {F : List (Str × Option Str)} {al : Str → Bool}
theorem sum_one1 (z : Str) : sumN (one1 z) = [(z, (1, 1))] := all_alike (ks := [z]) (by simp) (n := 1) (by decide)
theorem tak_stock {z : Str} : takN F al [[("stock", z)]] = sumN (stk F al z) := by rw [tak_part, pt_stock]
theorem stock_lives (g : GoodF F) {z : Str} (h : z ∈ F.map Prod.fst) (c : al z = true) : takN F al [[("stock", z)]] = [(z, (1, 1))] := by
  rw [tak_stock, stk_eq g h, if_pos c]
  exact sum_one1 z
theorem one_lives {z : Str} (c : al z = true) : takN F al [[("one", z)]] = [(z, (1, 1))] := by
  rw [tak_part, pt_ones, if_pos c]
  exact sum_one1 z
theorem stock_none (g : GoodF F) {z : Str} (h : z ∈ F.map Prod.fst) (c : ¬ al z = true) (k : kidsOf F z = []) : takN F al [[("stock", z)]] = [] := by
  rw [tak_stock, stk_eq g h, if_neg c, k]
  rfl
theorem stock_kids (g : GoodF F) {z : Str} (h : z ∈ F.map Prod.fst) (c : ¬ al z = true) : takN F al [(kidsOf F z).map fun y => (("stock", y) : Part)] = takN F al [[("stock", z)]] := by
  rw [tak_stock, tak_one, kids_stocks g h c]
theorem ones_kids {z : Str} : takN F al [(kidsOf F z).map fun y => (("one", y) : Part)] = takN F al [[("children", z)]] := by
  rw [tak_part, tak_one, kids_ones]
theorem pe_ones (ks : List Str) : peN (ks.map one1) = ks.map fun y => (y, ks.length) := by
  have f : (ks.map one1).filter hasB = ks.map one1 := List.filter_eq_self.mpr fun g hg => by
    obtain ⟨y, _, rfl⟩ := List.mem_map.mp hg
    rfl
  unfold peN
  rw [f, List.length_map]
  have : ∀ (n : Nat) (ks : List Str), ((ks.map one1).map fun g => g.map (wide n)).flatten = ks.map fun y => (y, n) := by
    intro n ks
    induction ks with
    | nil => rfl
    | cons y ks ih =>
      rw [List.map_cons, List.map_cons, List.flatten_cons, ih, List.map_cons]
      show [(y, 1 * n)] ++ _ = _
      rw [Nat.one_mul]
      rfl
  exact this _ _
theorem kids_nd (g : GoodF F) (z : Str) : (kidsOf F z).Nodup := by
  unfold kidsOf
  exact List.Nodup.sublist (List.filter_sublist.map _) g.nd
theorem kids_due (g : GoodF F) {z : Str} (c : ∀ y, al y = true) : takN F al [[("children", z)]] = (kidsOf F z).map fun y => (y, ((1, (kidsOf F z).length) : Fr)) := by
  have f : (kidsOf F z).filter al = kidsOf F z := List.filter_eq_self.mpr fun y _ => c y
  rw [tak_part, pt_kids, f, pe_ones]
  cases h : kidsOf F z with
  | nil => rfl
  | cons y ks =>
    rw [← h]
    exact all_alike (kids_nd g z) (by rw [h]; simp)
theorem alive_nil (y : Str) (m : Int) : aliveB [] y m = true := rfl
theorem kids_le (z : Str) : (kidsOf F z).length ≤ F.length := by
  unfold kidsOf
  rw [List.length_map]
  exact List.length_filter_le _ _
theorem kin_good {x : Str} (hx : x = "one" ∨ x = "children" ∨ x = "stock") {z : Str} (l1 : kidsOf F z ≠ []) (l6 : (kidsOf F z).length ≤ 6) : GoodW F [(kidsOf F z).map fun y => ((x, y) : Part)] :=
  ⟨Nat.le_refl 1, by show 1 ≤ 4; decide, fun a ha => by
    rw [List.mem_singleton.mp ha]
    refine ⟨?_, by rw [List.length_map]; exact l6, fun p hp => ?_, fun p hp => ?_⟩
    · rw [List.length_map]
      exact List.length_pos_iff.mpr l1
    · obtain ⟨y, _, rfl⟩ := List.mem_map.mp hp
      exact hx
    · obtain ⟨y, hy, rfl⟩ := List.mem_map.mp hp
      exact kids_mem hy⟩
end
section
variable {K : PySem.W.Frag}
theorem str_dp {H : Hp} : ∀ zs : List Str, DpAll K H (zs.map V.str) (zs.map PyData.str)
  | [] => .nil
  | n :: ns => .cons (.str _) (str_dp ns)
theorem str_sh {zs : List Str} (h : ∀ z ∈ zs, okL z) : SeqAt.shaped (.tuple (zs.map PyData.str)) = true := by
  have h1 : PyData.canLay0 (.tuple (zs.map PyData.str)) = true := by
    simp only [PyData.canLay0]
    refine canLayAll_of fun d hd => ?_
    obtain ⟨t, ht, rfl⟩ := List.mem_map.mp hd
    simp only [PyData.canLay0]
    exact strOk_of (h t ht).ok
  have h2 : PyData.depth (.tuple (zs.map PyData.str)) ≤ 64 := by
    have := depth_all (n := 1) (ds := zs.map PyData.str) fun d hd => by
      obtain ⟨t, ht, rfl⟩ := List.mem_map.mp hd
      simp only [PyData.depth]
      omega
    simp only [PyData.depth]
    omega
  unfold SeqAt.shaped
  rw [h1, decide_eq_true h2]
  rfl
theorem str_eqv (zs : List Str) : PyData.eqv (.tuple (zs.map PyData.str)) (.tuple []) = decide (zs = []) := by
  cases zs <;> simp [PyData.eqv, PyData.eqvAll]
theorem strs_ne {H : Hp} {a b : Addr} {zs : List Str} {Q : VK} (h1 : SqT K H a (zs.map V.str)) (o : ∀ z ∈ zs, okL z) (h2 : SqT K H b []) (q : Q (.bl (!decide (zs = []))) H) : RNe K (.ref a) (.ref b) H Q :=
  ⟨⟨.tuple (zs.map PyData.str), .tuple [], .tup h1 (str_dp zs), .tup h2 .nil, str_sh o, by decide +kernel, by rw [str_eqv]; exact q⟩⟩
theorem strs_eq {H : Hp} {a b : Addr} {zs : List Str} {Q : VK} (h1 : SqT K H a (zs.map V.str)) (o : ∀ z ∈ zs, okL z) (h2 : SqT K H b []) (q : Q (.bl (decide (zs = []))) H) : REq K (.ref a) (.ref b) H Q :=
  ⟨⟨.tuple (zs.map PyData.str), .tuple [], .tup h1 (str_dp zs), .tup h2 .nil, str_sh o, by decide +kernel, by rw [str_eqv]; exact q⟩⟩
end
abbrev sKn : Stmt := topS 71
def pKn : List Str := ["_law_estate", "_law_tale", "_law_day"]
def nKn : List Str := ["_law_estate", "_law_tale", "_law_day", "_law_one", "_law_heirs", "_law_stock", "_law_parts", "_law_child", "_law_some", "_law_due"]
theorem scKn : FnScope nKn pKn (defScope sKn) := ⟨rfl, rfl, rfl, by decide +kernel, rfl, by decide +kernel, by decide +kernel⟩
section
variable {P : Program} {w : World} {K : PySem.W.Frag} {mg : Str → Option Value} {base : Heap} {CH CY : Addr}
theorem passNk {X : Cx} : Passes (L2.CX X.prog X.w) X E0 := fun _ _ _ _ _ _ _ h => by
  obtain ⟨_, _, _, _, _, _, _, _, _, _, _, _, h⟩ := h
  exact h.elim
/-- (((x, one),),) -/
def tW1 (K : PySem.W.Frag) (x : Str) : TE := fun σ H Q => ∃ z : Str, σ[3]? = some (some (.str z)) ∧ ∀ p H', Same H H' → WhomAt K H' (.ref p) [[(x, z)]] → Q (.ref p) H'
theorem w1_of {x : Str} {σ : L2.St} {H : Hp} {Q : VK} (h : tW1 K x σ H Q) : tTup (tCons (tTup (tCons (tTup (tCons (tC (.str x)) (tCons (tVar 3) tNil))) tNil)) tNil) σ H Q := by
  obtain ⟨z, h3, q⟩ := h
  refine ⟨_, h3, by show 2 ≤ sizeLine; decide, fun p1 n1 => ⟨by show 1 ≤ sizeLine; decide, fun p2 n2 => ⟨by show 1 ≤ sizeLine; decide, fun p3 n3 => ?_⟩⟩⟩
  exact q p3 _ (((same_new n1).trans (same_new n2)).trans (same_new n3)) ⟨p3, _, rfl, sqT upd_same, .cons ⟨p2, _, rfl, (tk_new n3).sq (sqT upd_same), .cons ⟨p1, rfl, ((tk_new n2).trans (tk_new n3)).sq (sqT upd_same)⟩ .nil⟩ .nil⟩
/-- tuple([(x, child) for child in heirs]) -/
def tKs (K : PySem.W.Frag) (x : Str) : TE := fun σ H Q => ∃ (t : Addr) (ks : List Str) (y0 y1 y2 y3 y5 y6 y7 y8 y9 : Option V), σ = [y0, y1, y2, y3, some (.ref t), y5, y6, y7, y8, y9] ∧ SqT K H t (ks.map V.str) ∧ ks.length ≤ 8 ∧ ∀ p H', Same H H' → AltAt K H' (.ref p) (ks.map fun y => ((x, y) : Part)) → Q (.ref p) H'
theorem str_at {ks : List Str} {j : Nat} {x : V} (h : (ks.map V.str)[j]? = some x) : ∃ y, ks[j]? = some y ∧ x = .str y := by
  rw [List.getElem?_map] at h
  cases hc : ks[j]? with
  | none => rw [hc] at h; cases h
  | some z => rw [hc] at h; cases h; exact ⟨z, rfl, rfl⟩
def tRestKn (K : PySem.W.Frag) (CH CY : Addr) : TS := fun D σ H => ∃ (ho so aK aS : Addr) (z : Str) (m : Int) (F : List (Str × Option Str)) (Dd : List (Str × Int)) (y6 y7 y8 y9 : Option V), σ = [some (.ref ho), some (.ref so), some (.int m), some (.str z), some (.ref aK), some (.ref aS), y6, y7, y8, y9] ∧
  HomeAt K CH H ho F ∧ StoryAt K CY H so Dd ∧ -9999 ≤ m ∧ m ≤ 9999 ∧ z ∈ F.map Prod.fst ∧ SqT K H aK ((kidsOf F z).map V.str) ∧ ∀ H' y6 y7 y8 y9, Same H H' → D.nx [some (.ref ho), some (.ref so), some (.int m), some (.str z), some (.ref aK), some (.ref aS), y6, y7, y8, y9] H'
def spKn (K : PySem.W.Frag) (CH CY : Addr) : Sp := fun vs H Q _ => ∃ (ho so : Addr) (m : Int) (F : List (Str × Option Str)) (D : List (Str × Int)), vs = [.ref ho, .ref so, .int m] ∧ HomeAt K CH H ho F ∧ StoryAt K CY H so D ∧ -9999 ≤ m ∧ m ≤ 9999 ∧ ∀ H', Same H H' → Q (.bl true) H'
theorem ok_kn {f fT fP fC fL fY : Addr} {fd fdT fdP fdC fdL fdY : FuncData} {dY d3 : List Value} {k : Nat} (B : Bi mg) (TH : HsF K CH) (TY : SyF K CY) (D : Df K mg "_law_kin_right" sKn f fd pKn)
    (gT : mg "takers" = some (.ref fT)) (kT : PySem.W.keepIn K (.ref fT) = true) (bT : Binds K fdT ["house", "whom", "story", "wait"] []) (b3 : Binds K fdT ["house", "whom", "story", "wait"] d3) (v3 : Vals [.int 0] d3) (GT : FnOk P w K mg base CX0 (k + 14) fT fdT ["house", "whom", "story", "wait"] (SpTk K CH CY))
    (MP : Meth K CH "people" fP) (bP : Binds K fdP ["self"] []) (GP : FnOk P w K mg base CX0 (k + 1) fP fdP ["self"] (spPeo K CH))
    (MC : Meth K CH "children" fC) (bC : Binds K fdC ["self", "name"] []) (GC : FnOk P w K mg base CX0 (k + 4) fC fdC ["self", "name"] (spKids K CH))
    (ML : Meth K CY "lives" fL) (bL : Binds K fdL ["self", "name", "more"] []) (GL : FnOk P w K mg base CX0 (k + 3) fL fdL ["self", "name", "more"] (spLiv K CY))
    (MY : Mk K CY fY) (gY : mg "Story" = some (.ref CY)) (bY : Binds K fdY ["self", "deaths"] dY) (vY : Vals [.non] dY) (GY : FnOk P w K mg base (L2.CX P w) (k + 14) fY fdY ["self", "deaths"] (spSIa K CY)) : FnOk P w K mg base CX0 (k + 16) f fd pKn (spKn K CH CY) := by
  refine D.fn.ok scKn (fun vs H Q E h => ?_) (fun cdv A outer s H vs Q E hr h => ?_)
  · obtain ⟨ho, so, m, F, Dd, rfl, _⟩ := h
    rfl
  · obtain ⟨ho, so, m, F, Dd, rfl, hH, hY, m0, m1, q⟩ := h
    have hu : _ + 64 < cLine := hr.units
    have r1 : Room (k + 1) _ := hr.mono (by omega)
    have r3 : Room (k + 3) _ := hr.mono (by omega)
    have r4 : Room (k + 4) _ := hr.mono (by omega)
    have r14 : Room (k + 14) _ := hr.mono (by omega)
    refine ⟨_, pss_cons (ps_for PassesOwn.never rfl (pi_tup (pe_meth0 (pv 0) TH.cl MP GP r1 bP .nil pass0)) (pg_name (i := 3) scKn.nd rfl (.inl rfl))
        (pss_cons (ps_asg (pe_tup (pa_cons (pe_meth (pv 0) TH.cl MC GC r4 bC .nil pass0 (pa_cons (pv 3) pa_nil)) (pa_cons (pe_call GT r14 (by rfl) gT kT bT .nil pass0 (pa_cons (pv 0) (pa_cons (PE.wk (t' := tW1 K "stock") (pe_tup (pa_cons (pe_tup (pa_cons (pe_tup (pa_cons pe_str (pa_cons (pv 3) pa_nil))) pa_nil)) pa_nil)) (fun _ _ _ h => w1_of h)) (pa_cons (pv 1) (pa_cons (pv 2) pa_nil))))) pa_nil)))
            (pg_tup rfl (pgs_cons (pg_name (i := 4) scKn.nd rfl (.inr rfl)) (pgs_cons (pg_name (i := 5) scKn.nd rfl (.inl rfl)) pgs_nil))))
        (pss_cons (ps_if (pt_val (pe_meth (pv 1) TY.cl ML GL r3 bL .nil pass0 (pa_cons (pv 3) (pa_cons (pv 2) pa_nil))))
            (pss_one (ps_if (PW.pt (pw_or (pt_cmpR (r := RNe K) (op_neT hu) (pv 5) (pe_tup (pa_cons (pe_tup (pa_cons (pv 3) (pa_cons (pe_tup (pa_cons pe_int (pa_cons pe_int pa_nil))) pa_nil))) pa_nil)) (nomark _)) (pw_or1 (pt_cmpR (r := RNe K) (op_neT hu) (pe_call GT r14 (by rfl) gT kT bT .nil pass0 (pa_cons (pv 0) (pa_cons (PE.wk (t' := tW1 K "one") (pe_tup (pa_cons (pe_tup (pa_cons (pe_tup (pa_cons pe_str (pa_cons (pv 3) pa_nil))) pa_nil)) pa_nil)) (fun _ _ _ h => w1_of h)) (pa_cons (pv 1) (pa_cons (pv 2) pa_nil))))) (pv 5) (nomark _))))) pss_noS pss_nil))
            (pss_one (ps_if (pt_cmpR (r := REq K) (op_eqT hu) (pv 4) (pe_tup pa_nil) (nomark _))
              (pss_one (ps_if (pt_cmpR (r := RNe K) (op_neT hu) (pv 5) (pe_tup pa_nil) (nomark _)) pss_noS pss_nil))
              (pss_one (ps_if (pt_cmpR op_lt (pe_callB (r := rLenK K) call_len_seq (by rfl) B.len PySem.boot_len (pa_cons (pv 4) pa_nil)) pe_int (nomark _))
                (pss_cons (ps_set (i := 6) scKn.nd rfl (.inl rfl) (PE.wk (t' := tKs K "stock") (pe_callTy call_tuple_of (by rfl) B.tuple boot_tuple (pa_cons (pe_lc (own := [("_law_child", 7)]) (g := gName 7) (tt := tYes) rfl scKn.nd (pi_tup (pv 4)) (blkOk_by (own := [("_law_child", 7)]) (N := nKn) (sc := defScope sKn) (by decide +kernel))
                    (fun _ _ _ _ _ => pg_name (i := 7) scKn.nd rfl (Or.inl rfl)) (fun _ _ _ _ _ => pts_nil) (fun _ _ _ _ _ => pe_tup (pa_cons pe_str (pa_cons (pv 7) pa_nil)))) pa_nil)) (by
                    rintro σ H Q ⟨t, ks, y0, y1, y2, y3, y5, y6, y7, y8, y9, rfl, ht, k8, q⟩
                    refine ⟨_, rfl, t, rfl, ⟨_, ht⟩, fun L nL => lc_tup (K := K) (a := t) (xs := ks.map V.str) (fun j H' => (∃ ys, H' L = some (.lst ys) ∧ A2 (PartAt K H') ys ((ks.take j).map fun y => (("stock", y) : Part))) ∧ Same H H') ⟨⟨[], upd_same, .nil⟩, same_new nL⟩ (fun j H' _ h => (tk_same h.2).sq ht) ?_ ?_⟩
                    · rintro j x H1 hx1 ⟨⟨ys, hL, hy⟩, s1⟩
                      obtain ⟨y, hj, rfl⟩ := str_at hx1
                      have jl := lt_get hj
                      have yl := hy.len
                      rw [List.length_map, List.length_take] at yl
                      refine ⟨rfl, tyes (iteT ⟨_, rfl, by show 2 ≤ sizeLine; decide, fun p n => ⟨ys, (same_new n) _ _ hL, small1000 (by omega), ⟨ys ++ [.ref p], upd_same, ?_⟩, ((Bt.of_same (S := []) (s1.trans (same_new n))).upd0 nL).same⟩⟩)⟩
                      rw [take_more hj, List.map_append]
                      have tk2 : Tk (upd H1 p (.tup [.str "stock", .str y])) (upd (upd H1 p (.tup [.str "stock", .str y])) L (.lst (ys ++ [.ref p]))) := tk_lst ((same_new n) _ _ hL)
                      exact (pts_tk (pts_tk hy (tk_new n)) tk2).snoc ⟨p, rfl, tk2.sq (sqT upd_same)⟩
                    · rintro H1 ⟨⟨ys, hL, hy⟩, s1⟩
                      rw [List.length_map, List.take_length] at hy
                      exact ⟨L, ys, rfl, .inl ⟨sqL hL, fun p n => q p _ (s1.trans (same_new n)) ⟨p, ys, rfl, sqT upd_same, pts_tk hy (tk_new n)⟩⟩⟩)))
                (pss_one (ps_if (pt_cmpR (r := RNe K) (op_neT hu) (pe_call GT r14 (by rfl) gT kT bT .nil pass0 (pa_cons (pv 0) (pa_cons (pe_tup (pa_cons (pv 6) pa_nil)) (pa_cons (pv 1) (pa_cons (pv 2) pa_nil))))) (pv 5) (nomark _)) pss_noS pss_nil)))
                pss_nil)))))
        (PSs.wk (t' := tRestKn K CH CY) (pss_cons (ps_set (i := 8) scKn.nd rfl (.inl rfl) (pe_call GT r14 (by rfl) gT kT bT .nil pass0 (pa_cons (pv 0) (pa_cons (PE.wk (t' := tW1 K "children") (pe_tup (pa_cons (pe_tup (pa_cons (pe_tup (pa_cons pe_str (pa_cons (pv 3) pa_nil))) pa_nil)) pa_nil)) (fun _ _ _ h => w1_of h)) (pa_cons (pv 1) (pa_cons (pv 2) pa_nil))))))
        (pss_cons (ps_if (PW.pt (pw_and (pt_cmpR (r := RNe K) (op_neT hu) (pv 4) (pe_tup pa_nil) (nomark _)) (pw_and1 (pt_cmpR op_lt (pe_callB (r := rLenK K) call_len_seq (by rfl) B.len PySem.boot_len (pa_cons (pv 4) pa_nil)) pe_int (nomark _)))))
            (pss_one (ps_if (pt_cmpR (r := RNe K) (op_neT hu) (pe_call GT r14 (by rfl) gT kT bT .nil pass0 (pa_cons (pv 0) (pa_cons (pe_tup (pa_cons (PE.wk (t' := tKs K "one") (pe_callTy call_tuple_of (by rfl) B.tuple boot_tuple (pa_cons (pe_lc (own := [("_law_child", 7)]) (g := gName 7) (tt := tYes) rfl scKn.nd (pi_tup (pv 4)) (blkOk_by (own := [("_law_child", 7)]) (N := nKn) (sc := defScope sKn) (by decide +kernel))
                    (fun _ _ _ _ _ => pg_name (i := 7) scKn.nd rfl (Or.inl rfl)) (fun _ _ _ _ _ => pts_nil) (fun _ _ _ _ _ => pe_tup (pa_cons pe_str (pa_cons (pv 7) pa_nil)))) pa_nil)) (by
                    rintro σ H Q ⟨t, ks, y0, y1, y2, y3, y5, y6, y7, y8, y9, rfl, ht, k8, q⟩
                    refine ⟨_, rfl, t, rfl, ⟨_, ht⟩, fun L nL => lc_tup (K := K) (a := t) (xs := ks.map V.str) (fun j H' => (∃ ys, H' L = some (.lst ys) ∧ A2 (PartAt K H') ys ((ks.take j).map fun y => (("one", y) : Part))) ∧ Same H H') ⟨⟨[], upd_same, .nil⟩, same_new nL⟩ (fun j H' _ h => (tk_same h.2).sq ht) ?_ ?_⟩
                    · rintro j x H1 hx1 ⟨⟨ys, hL, hy⟩, s1⟩
                      obtain ⟨y, hj, rfl⟩ := str_at hx1
                      have jl := lt_get hj
                      have yl := hy.len
                      rw [List.length_map, List.length_take] at yl
                      refine ⟨rfl, tyes (iteT ⟨_, rfl, by show 2 ≤ sizeLine; decide, fun p n => ⟨ys, (same_new n) _ _ hL, small1000 (by omega), ⟨ys ++ [.ref p], upd_same, ?_⟩, ((Bt.of_same (S := []) (s1.trans (same_new n))).upd0 nL).same⟩⟩)⟩
                      rw [take_more hj, List.map_append]
                      have tk2 : Tk (upd H1 p (.tup [.str "one", .str y])) (upd (upd H1 p (.tup [.str "one", .str y])) L (.lst (ys ++ [.ref p]))) := tk_lst ((same_new n) _ _ hL)
                      exact (pts_tk (pts_tk hy (tk_new n)) tk2).snoc ⟨p, rfl, tk2.sq (sqT upd_same)⟩
                    · rintro H1 ⟨⟨ys, hL, hy⟩, s1⟩
                      rw [List.length_map, List.take_length] at hy
                      exact ⟨L, ys, rfl, .inl ⟨sqL hL, fun p n => q p _ (s1.trans (same_new n)) ⟨p, ys, rfl, sqT upd_same, pts_tk hy (tk_new n)⟩⟩⟩)) pa_nil)) (pa_cons (pv 1) (pa_cons (pv 2) pa_nil))))) (pv 8) (nomark _)) pss_noS pss_nil)) pss_nil)
        (PSs.wk (t' := tRestKn K CH CY) (pss_cons (ps_set (i := 9) scKn.nd rfl (.inl rfl) (pe_callTy call_tuple_of (by rfl) B.tuple boot_tuple (pa_cons (pe_lc (own := [("_law_child", 7)]) (g := gName 7) (tt := tYes) rfl scKn.nd (pi_tup (pv 4)) (blkOk_by (own := [("_law_child", 7)]) (N := nKn) (sc := defScope sKn) (by decide +kernel))
                    (fun _ _ _ _ _ => pg_name (i := 7) scKn.nd rfl (Or.inl rfl)) (fun _ _ _ _ _ => pts_nil) (fun _ _ _ _ _ => pe_tup (pa_cons (pv 7) (pa_cons (pe_tup (pa_cons pe_int (pa_cons (pe_callB (r := rLenK K) call_len_seq (by rfl) B.len PySem.boot_len (pa_cons (pv 4) pa_nil)) pa_nil))) pa_nil)))) pa_nil)))
          (pss_one (ps_if (pt_cmpR (r := RNe K) (op_neT hu) (pe_call GT r14 (by rfl) gT kT b3 v3 pass0 (pa_cons (pv 0) (pa_cons (PE.wk (t' := tW1 K "children") (pe_tup (pa_cons (pe_tup (pa_cons (pe_tup (pa_cons pe_str (pa_cons (pv 3) pa_nil))) pa_nil)) pa_nil)) (fun _ _ _ h => w1_of h)) (pa_cons (pe_make0 MY GY hr (by rfl) gY bY vY passNk) pa_nil)))) (pv 9) (nomark _)) pss_noS pss_nil))) (by
            rintro Dx σ H ⟨ho, so, aK, aS, z, m, F, Dd, y6, y7, y8, y9, rfl, hH, hY, m0, m1, zm, hK, q⟩
            have g := hH.good
            have kle := kids_le (F := F) z
            have f8 := g.l8
            refine ⟨_, rfl, aK, rfl, ⟨_, hK⟩, fun L nL => lc_tup (K := K) (a := aK) (xs := (kidsOf F z).map V.str) (fun j H' => (∃ ys, H' L = some (.lst ys) ∧ A2 (TkAt K H') ys (((kidsOf F z).take j).map fun y => (y, ((1, (kidsOf F z).length) : Fr)))) ∧ Same H H') ⟨⟨[], upd_same, .nil⟩, same_new nL⟩ (fun j H' _ h => (tk_same h.2).sq hK) ?_ ?_⟩
            · rintro j x H1 hx1 ⟨⟨ys, hL, hy⟩, s1⟩
              obtain ⟨y, hj, rfl⟩ := str_at hx1
              have jl := lt_get hj
              have yl := hy.len
              rw [List.length_map, List.length_take] at yl
              refine ⟨rfl, tyes (iteT ⟨_, rfl, _, rfl, aK, _, rfl, .inr ((tk_same s1).sq hK), by show 2 ≤ sizeLine; decide, fun b nb => ⟨by show 2 ≤ sizeLine; decide, fun c nc => ⟨ys, ((same_new nb).trans (same_new nc)) _ _ hL, small1000 (by omega), ⟨ys ++ [.ref c], upd_same, ?_⟩, ((Bt.of_same (S := []) (s1.trans ((same_new nb).trans (same_new nc)))).upd0 nL).same⟩⟩⟩)⟩
              rw [take_more hj, List.map_append]
              have hL2 := ((same_new nb).trans (same_new (o := .tup [.str y, .ref b]) nc)) _ _ hL
              refine (tks_tk (tks_tk hy ((tk_new nb).trans (tk_new nc))) (tk_lst hL2)).snoc ⟨c, b, rfl, (tk_lst hL2).sq (sqT upd_same), ?_⟩
              have hb := ((tk_new (o := .tup [.str y, .ref b]) nc).trans (tk_lst (o := .lst (ys ++ [.ref c])) hL2)).sq (K := K) (sqT upd_same)
              have e : ((kidsOf F z).map V.str).length = (kidsOf F z).length := List.length_map _
              show SqT K _ b [.int ((1 : Nat) : Int), .int ((kidsOf F z).length : Nat)]
              rw [← e]
              exact hb
            rintro H1 ⟨⟨ys, hL, hy⟩, s1⟩
            rw [List.length_map, List.take_length] at hy
            refine ⟨L, ys, rfl, .inl ⟨sqL hL, fun t2 n2 => ?_⟩⟩
            have told2 : ToldAt K (upd H1 t2 (.tup ys)) (.ref t2) ((kidsOf F z).map fun y => (y, ((1, (kidsOf F z).length) : Fr))) := ⟨t2, ys, rfl, sqT upd_same, tks_tk hy (tk_new n2)⟩
            have s2 : Same H (upd H1 t2 (.tup ys)) := s1.trans (same_new n2)
            revert told2 s2
            generalize upd H1 t2 (.tup ys) = H2
            intro told2 s2
            have okd : ∀ t ∈ (kidsOf F z).map fun y => (y, ((1, (kidsOf F z).length) : Fr)), okL t.1 := fun t ht => by
              obtain ⟨y, hy, rfl⟩ := List.mem_map.mp ht
              obtain ⟨r, hr, e⟩ := List.mem_map.mp (kids_mem hy)
              have := nm_okL (g.nm r hr)
              rw [e] at this
              exact this
            refine ⟨_, rfl, z, rfl, fun p3 H3 s3 w3 => fun x dx nx ndx nex => ⟨x, dx, .non, [], rfl, upd_same, .inl ⟨rfl, rfl⟩, ⟨by show 0 ≤ 8; decide, fun r h => (nomatch h), fun r h => (nomatch h), fun i r s h => (by simp at h)⟩, fun H5 b5 st5 => ⟨rfl, ?_⟩⟩⟩
            have s35 : Same H3 H5 := fun c o hc => b5 c o (by simp [ne_of_none hc nx]) (by rw [upd_ne (ne_of_none hc nx), upd_ne (ne_of_none hc ndx)]; exact hc)
            have s5 := (s2.trans s3).trans s35
            refine tks_go (hH.same s5) st5 (w3.tk (tk_same s35)) (one_good (.inr (.inl rfl)) zm) (by decide) (by decide) fun H6 t6 s6 td6 o6 => ⟨_, rfl, told_ne td6 o6 (told2.tk (tk_same ((s3.trans s35).trans s6))) okd ⟨_, rfl, ?_⟩⟩
            rw [decide_eq_true (kids_due g fun y => alive_nil y 0)]
            exact iteF (q _ _ _ _ _ (s5.trans s6)))))) (by
            rintro Dx σ H ⟨ho, so, aK, aS, z, m, F, Dd, y6, y7, y8, y9, rfl, hH, hY, m0, m1, zm, hK, q⟩
            have g := hH.good
            have kle := kids_le (F := F) z
            have f8 := g.l8
            have okk : ∀ y ∈ kidsOf F z, okL y := fun y hy => by
              obtain ⟨r, hr, e⟩ := List.mem_map.mp (kids_mem hy)
              have := nm_okL (g.nm r hr)
              rw [e] at this
              exact this
            refine ⟨_, rfl, z, rfl, fun p1 H1 s1 w1 => ⟨_, rfl, _, rfl, tks_go (hH.same s1) (hY.same s1) w1 (one_good (.inr (.inl rfl)) zm) m0 m1 fun H2 t2 s2 td2 o2 => ?_⟩⟩
            have s12 := s1.trans s2
            refine ⟨_, rfl, by show 0 ≤ sizeLine; decide, fun p3 n3 => strs_ne ((tk_same (s12.trans (same_new n3))).sq hK) okk (sqT upd_same) ⟨_, rfl, ?_⟩⟩
            have s13 := s12.trans (same_new (o := .tup []) n3)
            have td3 := td2.tk (tk_new (o := .tup []) n3)
            have go : ∀ H' y6 y7 y8 y9, Same H H' → tRestKn K CH CY Dx [some (.ref ho), some (.ref so), some (.int m), some (.str z), some (.ref aK), some (.ref aS), y6, y7, y8, y9] H' := fun H' y6 y7 y8 y9 s' =>
              ⟨ho, so, aK, aS, z, m, F, Dd, y6, y7, y8, y9, rfl, hH.same s', hY.same s', m0, m1, zm, (tk_same s').sq hK, fun H'' y6 y7 y8 y9 s'' => q H'' y6 y7 y8 y9 (s'.trans s'')⟩
            revert s13 td3
            generalize upd H2 p3 (.tup []) = H3
            intro s13 td3
            by_cases c : kidsOf F z = []
            · rw [decide_eq_true c]
              exact iteF (iteF (go _ _ _ _ _ s13))
            rw [decide_eq_false c]
            refine iteT ⟨_, rfl, aK, _, rfl, .inr ((tk_same s13).sq hK), _, 7, rfl, rfl, _, rfl, ?_⟩
            rw [List.length_map]
            by_cases c7 : ((kidsOf F z).length : Int) < 7
            · rw [decide_eq_true c7]
              refine iteT ⟨_, rfl, aK, kidsOf F z, _, _, _, _, _, _, _, _, _, rfl, (tk_same s13).sq hK, by omega, fun p4 H4 s4 a4 => ?_⟩
              refine ⟨by show 1 ≤ sizeLine; decide, fun p5 n5 => ?_⟩
              have w5 : WhomAt K (upd H4 p5 (.tup [.ref p4])) (.ref p5) [(kidsOf F z).map fun y => (("one", y) : Part)] := ⟨p5, _, rfl, sqT upd_same, .cons (a4.tk (tk_new n5)) .nil⟩
              have s5 : Same H3 (upd H4 p5 (.tup [.ref p4])) := s4.trans (same_new n5)
              revert w5 s5
              generalize upd H4 p5 (.tup [.ref p4]) = H5
              intro w5 s5
              have s15 := s13.trans s5
              refine ⟨_, rfl, _, rfl, tks_go (hH.same s15) (hY.same s15) w5 (kin_good (.inl rfl) c (by omega)) m0 m1 fun H6 t6 s6 td6 o6 => ⟨_, rfl, told_ne td6 o6 (td3.tk (tk_same (s5.trans s6))) o2 ⟨_, rfl, ?_⟩⟩⟩
              rw [decide_eq_true ones_kids]
              exact iteF (go _ _ _ _ _ (s15.trans s6))
            · rw [decide_eq_false c7]
              exact iteF (go _ _ _ _ _ s13))))))
      (pss_one (ps_ret pe_bl)), ?_⟩
    have g := hH.good
    have f8 := g.l8
    obtain ⟨dh, _, _, _, _, hHo⟩ := hH.at
    refine ⟨_, rfl, ho, dh, _, rfl, hHo, rfl, ho, F, rfl, hH, fun H1 tP s1 hP => ⟨tP, rfl, ⟨_, hP⟩, for_tup (K := K) (a := tP) (xs := (F.map Prod.fst).map V.str) (fun i σ H' => (∃ y3 y4 y5 y6 y7 y8 y9 : Option V, σ = [some (.ref ho), some (.ref so), some (.int m), y3, y4, y5, y6, y7, y8, y9]) ∧ Same H1 H') ⟨⟨none, none, none, none, none, none, none, rfl⟩, Same.refl H1⟩ (fun i σ H' _ h => (tk_same h.2).sq hP) ?_ ?_⟩⟩
    · rintro i x σ H2 hx ⟨⟨y3, y4, y5, y6, y7, y8, y9, rfl⟩, s2⟩
      obtain ⟨z, hz, rfl⟩ := str_at hx
      have zm := List.mem_of_getElem? hz
      have s12 := s1.trans s2
      have hH2 := hH.same s12
      have hY2 := hY.same s12
      obtain ⟨dh2, _, _, _, _, hHo2⟩ := hH2.at
      have kle := kids_le (F := F) z
      have okk : ∀ y ∈ kidsOf F z, okL y := fun y hy => by
        obtain ⟨r, hr, e⟩ := List.mem_map.mp (kids_mem hy)
        have := nm_okL (g.nm r hr)
        rw [e] at this
        exact this
      have okz : okL z := by
        obtain ⟨r, hr, e⟩ := List.mem_map.mp zm
        have := nm_okL (g.nm r hr)
        rw [e] at this
        exact this
      refine ⟨_, rfl, ho, dh2, _, rfl, hHo2, rfl, _, rfl, ho, z, F, rfl, hH2, zm, fun H3 aK s3 hK => ⟨_, rfl, z, rfl, fun p4 H4 s4 w4 => ⟨_, rfl, _, rfl, tks_go (hH2.same (s3.trans s4)) (hY2.same (s3.trans s4)) w4 (one_good (.inr (.inr rfl)) zm) m0 m1 fun H5 aS s5 td5 o5 => ⟨by show 2 ≤ sizeLine; decide, fun p6 n6 => ⟨p6, _, rfl, sqT upd_same, rfl, _, _, rfl, _, _, rfl, rfl, ?_⟩⟩⟩⟩⟩
      have s6 : Same H3 (upd H5 p6 (.tup [.ref aK, .ref aS])) := (s4.trans s5).trans (same_new n6)
      have td6 := td5.tk (tk_new (o := .tup [.ref aK, .ref aS]) n6)
      revert s6 td6
      generalize upd H5 p6 (.tup [.ref aK, .ref aS]) = H6
      intro s6 td6
      have s26 := s3.trans s6
      have hY6 := hY2.same s26
      obtain ⟨dy, _, hYo⟩ := hY6.at
      refine ⟨_, rfl, so, dy, _, rfl, hYo, rfl, _, rfl, _, rfl, so, z, m, Dd, rfl, hY6, deep_nm (n := 0) g zm, m0, m1, fun H7 s7 => ⟨_, rfl, ?_⟩⟩
      have s27 := s26.trans s7
      have hH7 := hH2.same s27
      have hY7 := hY2.same s27
      have hK7 := (tk_same (s6.trans s7)).sq hK
      have td7 := td6.tk (tk_same s7)
      cases c : aliveB Dd z m with
      | true =>
        refine iteT ⟨_, rfl, _, rfl, by show 2 ≤ sizeLine; decide, fun b nb => ⟨by show 2 ≤ sizeLine; decide, fun e ne => ⟨by show 1 ≤ sizeLine; decide, fun d nd => ?_⟩⟩⟩
        have told1 : ToldAt K (upd (upd (upd H7 b (.tup [.int 1, .int 1])) e (.tup [.str z, .ref b])) d (.tup [.ref e])) (.ref d) [(z, (1, 1))] := ⟨d, _, rfl, sqT upd_same, .cons ⟨e, b, rfl, (tk_new nd).sq (sqT upd_same), ((tk_new ne).trans (tk_new nd)).sq (sqT upd_same)⟩ .nil⟩
        have s8 : Same H7 (upd (upd (upd H7 b (.tup [.int 1, .int 1])) e (.tup [.str z, .ref b])) d (.tup [.ref e])) := ((same_new nb).trans (same_new ne)).trans (same_new nd)
        revert told1 s8
        generalize upd (upd (upd H7 b (.tup [.int 1, .int 1])) e (.tup [.str z, .ref b])) d (.tup [.ref e]) = H8
        intro told1 s8
        have ok1 : ∀ t ∈ ([(z, (1, 1))] : List (Str × Fr)), okL t.1 := fun t ht => by rw [List.mem_singleton.mp ht]; exact okz
        have e5 := stock_lives (al := fun y => aliveB Dd y m) g zm c
        refine told_ne (td7.tk (tk_same s8)) o5 told1 ok1 ⟨_, rfl, ?_⟩
        rw [decide_eq_true e5]
        refine iteF ⟨_, rfl, z, rfl, fun p9 H9 s9 w9 => ⟨_, rfl, _, rfl, tks_go (hH7.same (s8.trans s9)) (hY7.same (s8.trans s9)) w9 (one_good (.inl rfl) zm) m0 m1 fun H10 t10 s10 td10 o10 => ⟨_, rfl, told_ne td10 o10 (td7.tk (tk_same ((s8.trans s9).trans s10))) o5 ⟨_, rfl, ?_⟩⟩⟩⟩
        rw [decide_eq_true ((one_lives (F := F) (al := fun y => aliveB Dd y m) c).trans e5.symm)]
        exact iteF ⟨ho, so, aK, aS, z, m, F, Dd, _, _, _, _, rfl, hH7.same ((s8.trans s9).trans s10), hY7.same ((s8.trans s9).trans s10), m0, m1, zm, (tk_same ((s8.trans s9).trans s10)).sq hK7, fun H'' y6 y7 y8 y9 s'' => ⟨⟨_, _, _, _, _, _, _, rfl⟩, (s2.trans s27).trans (((s8.trans s9).trans s10).trans s'')⟩⟩
      | false =>
        have c' : ¬ (fun y => aliveB Dd y m) z = true := by show ¬ aliveB Dd z m = true; rw [c]; decide
        refine iteF ⟨_, rfl, by show 0 ≤ sizeLine; decide, fun p8 n8 => strs_eq ((tk_new n8).sq hK7) okk (sqT upd_same) ⟨_, rfl, ?_⟩⟩
        have s8 : Same H7 (upd H7 p8 (.tup [])) := same_new n8
        revert s8
        generalize upd H7 p8 (.tup []) = H8
        intro s8
        by_cases ck : kidsOf F z = []
        · rw [decide_eq_true ck]
          refine iteT ⟨_, rfl, by show 0 ≤ sizeLine; decide, fun p9 n9 => told_ne (td7.tk (tk_same (s8.trans (same_new n9)))) o5 (told_nil (sqT upd_same)) no_okL ⟨_, rfl, ?_⟩⟩
          rw [decide_eq_true (stock_none (al := fun y => aliveB Dd y m) g zm c' ck)]
          exact iteF ⟨ho, so, aK, aS, z, m, F, Dd, _, _, _, _, rfl, hH7.same (s8.trans (same_new n9)), hY7.same (s8.trans (same_new n9)), m0, m1, zm, (tk_same (s8.trans (same_new n9))).sq hK7, fun H'' y6 y7 y8 y9 s'' => ⟨⟨_, _, _, _, _, _, _, rfl⟩, (s2.trans s27).trans ((s8.trans (same_new n9)).trans s'')⟩⟩
        rw [decide_eq_false ck]
        refine iteF ⟨_, rfl, aK, _, rfl, .inr ((tk_same s8).sq hK7), _, 7, rfl, rfl, _, rfl, ?_⟩
        rw [List.length_map]
        by_cases c7 : ((kidsOf F z).length : Int) < 7
        · rw [decide_eq_true c7]
          refine iteT ⟨aK, kidsOf F z, _, _, _, _, _, _, _, _, _, rfl, (tk_same s8).sq hK7, by omega, fun p9 H9 s9 a9 => ?_⟩
          refine ⟨_, rfl, _, rfl, by show 1 ≤ sizeLine; decide, fun p10 n10 => ?_⟩
          have w10 : WhomAt K (upd H9 p10 (.tup [.ref p9])) (.ref p10) [(kidsOf F z).map fun y => (("stock", y) : Part)] := ⟨p10, _, rfl, sqT upd_same, .cons (a9.tk (tk_new n10)) .nil⟩
          have s10 : Same H7 (upd H9 p10 (.tup [.ref p9])) := (s8.trans s9).trans (same_new n10)
          revert w10 s10
          generalize upd H9 p10 (.tup [.ref p9]) = H10
          intro w10 s10
          refine ⟨_, rfl, _, rfl, tks_go (hH7.same s10) (hY7.same s10) w10 (kin_good (.inr (.inr rfl)) ck (by omega)) m0 m1 fun H11 t11 s11 td11 o11 => ⟨_, rfl, told_ne td11 o11 (td7.tk (tk_same (s10.trans s11))) o5 ⟨_, rfl, ?_⟩⟩⟩
          rw [decide_eq_true (stock_kids (al := fun y => aliveB Dd y m) g zm c')]
          exact iteF ⟨ho, so, aK, aS, z, m, F, Dd, _, _, _, _, rfl, hH7.same (s10.trans s11), hY7.same (s10.trans s11), m0, m1, zm, (tk_same (s10.trans s11)).sq hK7, fun H'' y6 y7 y8 y9 s'' => ⟨⟨_, _, _, _, _, _, _, rfl⟩, (s2.trans s27).trans ((s10.trans s11).trans s'')⟩⟩
        · rw [decide_eq_false c7]
          exact iteF ⟨ho, so, aK, aS, z, m, F, Dd, _, _, _, _, rfl, hH7.same (s8), hY7.same (s8), m0, m1, zm, (tk_same (s8)).sq hK7, fun H'' y6 y7 y8 y9 s'' => ⟨⟨_, _, _, _, _, _, _, rfl⟩, (s2.trans s27).trans ((s8).trans s'')⟩⟩
    · rintro σ H2 ⟨⟨y3, y4, y5, y6, y7, y8, y9, rfl⟩, s2⟩
      exact q H2 (s1.trans s2)
end
end WdQ

set_option Elab.async false
set_option linter.all false
set_option maxRecDepth 100000
/-! len(set(xs)) of a list of unlike texts -/
namespace WdSe
open PySem PySem.Spec PyProof.Rows
/-- what the set holds behind the first i of them -/
abbrev Held (prog : Program) (w : World) (h : Heap) (S : Addr) (xs : List Str) (i : Nat) : Prop := h.SetOf (PySem.strKind prog w) S (fun k' => (xs.take i).any (· == k')) i
theorem getD_at {xs : List Str} {i : Nat} (h : i < xs.length) : xs[i]? = some (xs.getD i Str.empty) := by
  rw [List.getD_eq_getElem?_getD, List.getElem?_eq_getElem h]
  rfl
theorem fresh_at {xs : List Str} (nd : xs.Nodup) {i : Nat} (h : i < xs.length) : (xs.take i).any (· == xs.getD i Str.empty) = false := by
  rw [List.any_eq_false]
  intro y hy e
  have e : y = xs.getD i Str.empty := by simpa using e
  obtain ⟨j, hj⟩ := List.mem_iff_getElem?.mp hy
  have jl : j < (xs.take i).length := by
    rcases Nat.lt_or_ge j (xs.take i).length with l | l
    · exact l
    · rw [List.getElem?_eq_none l] at hj
      cases hj
  rw [List.length_take] at jl
  rw [List.getElem?_take_of_lt (by omega)] at hj
  have := (List.getElem?_inj (l := xs) (by omega) nd).mp (hj.trans (by rw [e, getD_at h]))
  omega
theorem more_at {xs : List Str} {i : Nat} (h : i < xs.length) (k' : Str) : ((xs.take i).any (· == k') || decide (k' = xs.getD i Str.empty)) = (xs.take (i + 1)).any (· == k') := by
  have e0 : xs.take (i + 1) = xs.take i ++ [xs.getD i Str.empty] := by rw [List.take_add_one, getD_at h]; rfl
  rw [e0, List.any_append]
  congr 1
  by_cases e : k' = xs.getD i Str.empty
  · rw [e]; simp
  · rw [decide_eq_false e]
    have : ¬ xs.getD i Str.empty = k' := fun h => e h.symm
    rw [List.any_cons, List.any_nil, Bool.or_false]
    exact (beq_eq_false_iff_ne.mpr this).symm
section
variable {prog : Program} {w : World} {A : Around} {R : Result → Shared → Prop} {I : Addr} {fp wr : List Addr} {G : Array GenState → Array GenState → Prop} {n : Nat} {P : Nat → Value → Prop} {St : Nat → Shared → Prop}
theorem held_keep {s s' : Shared} {S : Addr} {xs : List Str} {i : Nat} (h : Held prog w s.heap S xs i) (k : ∀ o, s.heap.get? S = some o → s'.heap.get? S = some o) : Held prog w s'.heap S xs i := by
  obtain ⟨o, es, ep, t, ho, rest⟩ := h
  exact ⟨o, es, ep, t, k _ ho, rest⟩
theorem addAll (W : WalksS prog w A.in1 I fp wr G n P St) (S : Addr) (hSf : S ∉ fp) (xs : List Str) (nd : xs.Nodup) (hsz : xs.length = n) (small : n + 1 < scanBound) (hval : ∀ i v, P i v → ∃ t, v = .str (xs.getD i Str.empty) t) :
    ∀ (k i : Nat) (s : Shared), n - i = k → i ≤ n → St i s → Held prog w s.heap S xs i → (∀ s', Moved (S :: wr) G s s' → Held prog w s'.heap S xs n → R (.ok (.ret .none)) s') →
      codeAny (model prog w) A (.builtin "set.update.loop" ⟨[.ref S, .ref I], []⟩) R s := by
  have hSw : S ∉ wr := fun h => hSf (W.sub _ h)
  have wider : ∀ b ∈ wr, b ∈ S :: wr := fun b hb => List.mem_cons_of_mem _ hb
  intro k
  induction k with
  | zero =>
    intro i s hk hi hst hS hR
    obtain rfl : i = n := by omega
    refine codeAny_builtin PyProof.Rows.F.entry_set_update_loop ?_
    rw [Around.under_plainId PyProof.Rows.F.plain_set_update_loop _]
    refine wpAny_bind (W.done s _ _ hst fun s' hm => ?_)
    exact wpAny_pure (hR s' (hm.mono wider) (held_keep hS fun o => hm.heap S o hSw))
  | succ k ih =>
    intro i s hk hi hst hS hR
    have hlt : i < n := by omega
    refine codeAny_builtin PyProof.Rows.F.entry_set_update_loop ?_
    rw [Around.under_plainId PyProof.Rows.F.plain_set_update_loop _]
    refine wpAny_bind (W.item i s _ _ hlt hst fun v s' hP hst' hm => ?_)
    obtain ⟨t, rfl⟩ := hval i v hP
    have hS' : Held prog w s'.heap S xs i := held_keep hS fun o => hm.heap S o hSw
    show wpAny _ A.in1 (holding [Value.str (xs.getD i Str.empty) t] (setAdd S (.str (xs.getD i Str.empty) t)) >>= _) _ _ s'
    refine wpAny_bind (wpAny_holding ?_)
    unfold setAdd
    refine wpAny_holding (wpAny_bind ((PySem.strKind prog w).pyHash (k := xs.getD i Str.empty) (strKind_is _ _ _ _) ?_))
    refine wpAny_setAddHashed_of (knd := PySem.strKind prog w) (s := { s' with toks := s'.toks + 1 }) (strKind_is _ _ _ _) rfl hS' (by omega) fun h' hsb hS2 => ?_
    have next : Held prog w h' S xs (i + 1) := SetOf_congr hS2 (fun k' => more_at (by omega) k') (by rw [fresh_at nd (by omega)]; rfl)
    refine wpAny_pure ⟨plainId_quiet PyProof.Rows.F.plain_set_update_loop _, ih (i + 1) _ (by omega) hlt (W.frame _ s' _ _ hst' (Nat.le_succ _) fun b hb o e => ?_) next fun s'' hm'' hS'' => ?_⟩
    · rw [hsb.2 b (fun h : b = S => hSf (by rw [← h]; exact hb))]
      exact e
    · refine hR s'' (Moved.trans W.gtrans ((hm.mono wider).then_heap (Nat.le_succ _) fun b o hb e => ?_) hm'') hS''
      rw [hsb.2 b (fun h : b = S => hb (by rw [h]; exact List.mem_cons_self))]
      exact e
end
section
variable {prog : Program} {w : World} {A : Around} {E : Value → Shared → Prop} {s : Shared}
set_option maxHeartbeats 3200000 in
theorem setOf_list {l : Addr} {items : Array Value} {xs : List Str} {Q : Value → Shared → Prop} (hh : A.handled = none) (hl : s.heap.IsList l items) (hi : PyProof.Rows.StrsAre items.toList xs) (nd : xs.Nodup) (small : items.size + 1 < scanBound)
    (h : ∀ (h' : Heap) (tk : Nat), Held prog w h' s.heap.objs.size xs items.size → (∀ b o, b < s.heap.objs.size → s.heap.get? b = some o → h'.get? b = some o) → Q (.ref s.heap.objs.size) { s with heap := h', toks := tk }) :
    wpAny (model prog w) A (call (.type "set") [.ref l]) Q E s := by
  obtain ⟨c, tl, hmro⟩ := PySem.F.called_set.mro
  have hmade := PySem.F.called_set.made
  have hsub := PySem.F.called_set.sub
  refine wpAny_call (codeAny_of_tree ?_)
  show wpAny _ _ (callAny (.type "set") _) _ _ _
  refine wpAny_pure ⟨Code.quiet_builtin _ (by decide +kernel), codeAny_builtin PySem.F.entry_type_call ?_⟩
  rw [Around.under_plain (weight_type_call_type "set" [.ref l] []) rfl]
  have h1 := PySem.F.called_set.notType
  have h2 := PySem.F.called_set.canCreate
  have hct := PySem.F.typeCall_set_1 (.ref l)
  repeat (any_goals (first | assumption | wp_step))
  refine codeAny_mono (code_set_new_1 (.ref l) (E := E) (Q₁ := fun obj s₁ => ∃ led : Bool, obj = .ref s.heap.objs.size ∧ s₁ = { s with heap := s.heap.push { cls := .type "set", dict := none, data := .set #[] 0 (.fresh 0 0 led) } }) fun led => ⟨led, rfl, rfl⟩) fun r s₁ hr => ?_
  rcases r with e | fl
  · exact hr
  rcases fl with obj | _ | _ | _
  all_goals first | exact hr.elim | skip
  obtain ⟨led, rfl, rfl⟩ := hr
  have at0 := Heap.get?_push_size s.heap (o := { cls := .type "set", dict := none, data := .set #[] 0 (.fresh 0 0 led) }) rfl
  have ty0 : Shared.TypeIs { s with heap := s.heap.push { cls := .type "set", dict := none, data := .set #[] 0 (.fresh 0 0 led) } } (.ref s.heap.objs.size) "set" := ⟨_, at0, rfl⟩
  have hli := PySem.F.called_set.init.lookup
  have hbi := PySem.F.called_set.init.bind (.ref s.heap.objs.size)
  repeat (any_goals (first | assumption | wp_step))
  refine codeAny_mono (codeAny_call_builtin (R := wants (fun r s₂ => r = .none ∧ ∃ h' tk, s₂ = { s with heap := h', toks := tk } ∧ Held prog w h' s.heap.objs.size xs items.size ∧ (∀ b o, b < s.heap.objs.size → s.heap.get? b = some o → h'.get? b = some o)) E) PySem.F.called_set.init.plain PySem.F.entry_set_init (check_set_init_1 ty0 ?_)) fun r₂ s₂ hr₂ => ?_
  · obtain ⟨ol, hol, hcl, nl, hdl⟩ := hl
    obtain ⟨ocls, odict, odata, oslots⟩ := ol
    simp only at hcl hdl
    subst hcl hdl
    have hol' := Heap.get?_push_of_some (o := { cls := .type "set", dict := none, data := .set #[] 0 (.fresh 0 0 led) }) hol
    have hsls := PySem.F.sub_list_set
    have hslf := PySem.F.sub_list_frozenset
    have hne : (Value.type "list" == Value.type "dict") = false := by decide
    have hl1 : (s.heap.push { cls := .type "set", dict := none, data := .set #[] 0 (.fresh 0 0 led) }).IsList l items := ⟨_, hol', rfl, nl, rfl⟩
    unfold Builtin.«set.__init__» noKeywords Builtin.Frozenset.updateFrom
    generalize hPI : pyIter = PI
    wp_walk
    subst hPI
    refine wpAny_pyIter_list hl1 (wpAny_bind (wpAny_runValue ?_))
    have lS : l < s.heap.objs.size := Heap.lt_size hol
    have calm3 : A.in1.in1.in1.handled = none := by simp [hh]
    have apart : l ≠ (s.heap.push { cls := .type "set", dict := none, data := .set #[] 0 (.fresh 0 0 led) }).objs.size := by
      rw [Heap.size_push]
      exact Nat.ne_of_lt (Nat.lt_succ_of_lt lS)
    have out : s.heap.objs.size ∉ [(s.heap.push { cls := .type "set", dict := none, data := .set #[] 0 (.fresh 0 0 led) }).objs.size, l] := by
      rw [Heap.size_push]
      simp only [List.mem_cons, List.not_mem_nil, or_false, not_or]
      exact ⟨Nat.ne_of_lt (Nat.lt_succ_self _), Nat.ne_of_gt lS⟩
    have hsz : xs.length = items.size := by rw [← StrsAre.len_eq hi, Array.length_toList]
    refine addAll ((Walks.list calm3 _ l apart items).toS) s.heap.objs.size out xs nd hsz small (fun i v hv => SS.strs_at hi i v (by rw [Array.getElem?_toList]; exact hv)) (items.size - 0) 0 _ (by omega) (Nat.zero_le _) ⟨⟨_, Heap.get?_push_size _ rfl, rfl, rfl⟩, (hl1.push _)⟩ ?_ ?_
    · exact PyProof.Rows.SetOf_congr ((PyProof.Rows.setObjOf_fresh (knd := PySem.strKind prog w) led).setOf (Heap.get?_push_of_some _ at0) (by unfold scanBound; omega)) (fun _ => rfl) rfl
    · intro s' hm hS'
      obtain ⟨h', g', d', tk', os'⟩ := s'
      have eg : g' = s.gens := hm.gens
      have ed : d' = s.drawn := hm.drawn
      have eo : os' = s.os := hm.os
      subst eg ed eo
      refine wpAny_pure (wpAny_pure ⟨rfl, h', tk', rfl, hS', fun b o hb e => ?_⟩)
      refine hm.heap b o ?_ (Heap.get?_push_of_some _ (Heap.get?_push_of_some _ e))
      simp only [List.mem_cons, List.not_mem_nil, or_false, not_or, Heap.size_push]
      exact ⟨Nat.ne_of_lt hb, Nat.ne_of_lt (Nat.lt_succ_of_lt hb)⟩
  · rcases r₂ with e | fl₂
    · exact hr₂
    rcases fl₂ with r | _ | _ | _
    all_goals first | exact hr₂.elim | skip
    obtain ⟨rfl, h', tk, rfl, hS', hk'⟩ := hr₂
    repeat (any_goals (first | assumption | wp_step))
    exact h _ _ hS' hk'
end
end WdSe
namespace L2
open PySem PySem.Spec PyProof.Rows
section
variable {X : Cx}
/-- len(set(xs)), xs a list of unlike texts -/
def tLenSetD (K : PySem.W.Frag) (ta : TE) : TE := fun σ H Q => ta σ H fun x H1 => ∃ (l : Addr) (xs : List Str), x = .ref l ∧ SqL K H1 l (xs.map V.str) ∧ xs.Nodup ∧ xs.length ≤ 100 ∧ Q (.int (xs.length : Nat)) H1
theorem pe_lenSetD {a : Expr} {ta : TE} {p p2 q pos : Pos} (hc : X.calm = true) (hg : Gl X "len") (hm : X.mg "len" = none) (hg2 : Gl X "set") (hm2 : X.mg "set" = none) (ha : PE X a ta)
    (na : starEach [a] X.env = (false, eval a X.env) :: starEach [] X.env := by rfl) : PE X (.Call (.Name "len" p) [.Call (.Name "set" p2) [a] [] q] [] pos) (tLenSetD X.K ta) := by
  refine ⟨fun pins s σ H Q I h => ?_⟩
  refine Call_ (ld_blt I hg hm boot_len (PyProof.Rows.callWith_builtin1 (PyProof.Rows.args_cons ?_ rfl) rfl rfl))
  refine Call_ (ld_blt I hg2 hm2 boot_set (PyProof.Rows.callWith_type1 (PyProof.Rows.args_cons (thn (ha.run pins s σ H _ I h) fun v s1 ⟨x, H1, I1, r1, q1⟩ => PyProof.Rows.args_nil ?_) na) na rfl))
  obtain ⟨l, xs, rfl, hq, nd, h1, q1⟩ := q1
  cases r1
  obtain ⟨its, r, pl, hz⟩ := I1.list hq
  have hlen : its.toArray.size = xs.length := by rw [List.size_toArray, ← r.length, List.length_map]
  refine WdSe.setOf_list (I1.ok.hd hc) pl.isList (by simpa using strsAre_of r) nd (by rw [hlen]; unfold scanBound; omega) fun h' tk hS hk => PyProof.Rows.args_nil ?_
  rw [hlen] at hS
  obtain ⟨o, es, ep, t, ho, hex, hd, _, _, _, hf, hn⟩ := hS
  have I2 : Inv X pins σ H1 { s1 with heap := h', toks := tk } := I1.kept fun b o e => hk b o (Heap.lt_size e) e
  exact call_len_set ho hex hd hf (by rw [hn] <;> omega) ⟨.int xs.length, H1, I2.tok _, ⟨_, by rw [hn]⟩, q1⟩
end
end L2

set_option Elab.async false
set_option linter.all false
set_option maxRecDepth 100000
set_option maxHeartbeats 4000000
set_option exponentiation.threshold 5000
namespace WdQ
open PySem PySem.Spec PyProof.Rows L2 WdM Wd
abbrev sShr : Stmt := topS 67
def nShr : List Str := ["_law_estate", "_law_found", "_law_tale", "_law_day", "_law_names", "_law_one", "_law_share", "_law_pair"]
theorem scShr : FnScope nShr ["_law_estate", "_law_found", "_law_tale", "_law_day"] (defScope sShr) := ⟨rfl, rfl, rfl, by decide +kernel, rfl, by decide +kernel, by decide +kernel⟩
section
variable {P : Program} {w : World} {K : PySem.W.Frag} {mg : Str → Option Value} {base : Heap} {CH CY : Addr}
/-- what is told is as it should be -/
structure Fair (F : List (Str × Option Str)) (D : List (Str × Int)) (m : Int) (ts : List (Str × Fr)) : Prop where
  nd : (ts.map Prod.fst).Nodup
  st : ∀ t ∈ ts, aliveB D t.1 m = true ∧ t.1 ∈ F.map Prod.fst
  po : ∀ t ∈ ts, 0 < t.2.1
  fit : tFit ts
  one : ts = [] ∨ wholeN ts = (1, 1)
  l : ts.length ≤ 100
def spShr (K : PySem.W.Frag) (CH CY : Addr) : Sp := fun vs H Q _ => ∃ (ho so : Addr) (v : V) (ts : List (Str × Fr)) (m : Int) (F : List (Str × Option Str)) (D : List (Str × Int)), vs = [.ref ho, v, .ref so, .int m] ∧ HomeAt K CH H ho F ∧ StoryAt K CY H so D ∧ ToldAt K H v ts ∧ Fair F D m ts ∧ -9999 ≤ m ∧ m ≤ 9999 ∧ ∀ H', Same H H' → Q (.bl true) H'
theorem ok_shr {f fL fP fW fO : Addr} {fd fdL fdP fdW fdO : FuncData} {k : Nat} (B : Bi mg) (nS : mg "set" = none) (TH : HsF K CH) (TY : SyF K CY) (D : Df K mg "_law_shares_right" sShr f fd ["_law_estate", "_law_found", "_law_tale", "_law_day"])
    (ML : Meth K CY "lives" fL) (bL : Binds K fdL ["self", "name", "more"] []) (GL : FnOk P w K mg base CX0 (k + 3) fL fdL ["self", "name", "more"] (spLiv K CY))
    (MP : Meth K CH "people" fP) (bP : Binds K fdP ["self"] []) (GP : FnOk P w K mg base CX0 (k + 1) fP fdP ["self"] (spPeo K CH))
    (DW : Df K mg "_law_whole" sWhl fW fdW ["_law_found"]) (DO : Df K mg "_law_low" sLow fO fdO ["_law_top", "_law_bottom"]) : FnOk P w K mg base CX0 (k + 4) f fd ["_law_estate", "_law_found", "_law_tale", "_law_day"] (spShr K CH CY) := by
  have GW : FnOk P w K mg base CX0 (k + 2) fW fdW ["_law_found"] (spWhl K) := ok_whl DW DO
  refine D.fn.ok scShr (fun vs H Q E h => ?_) (fun cdv A outer s H vs Q E hr h => ?_)
  · obtain ⟨ho, so, v, ts, m, F, Dd, rfl, _⟩ := h
    rfl
  · obtain ⟨ho, so, v, ts, m, F, Dd, rfl, hH, hY, told, fair, m0, m1, q⟩ := h
    have hu : _ + 64 < cLine := hr.units
    have r1 : Room (k + 1) _ := hr.mono (by omega)
    have r2 : Room (k + 2) _ := hr.mono (by omega)
    refine ⟨_, pss_cons (ps_setLc (i := 4) (own := [("_law_one", 5), ("_law_share", 6)]) (g := gTup K 2 (gCons (gName 5) (gCons (gName 6) gNil))) (tt := tYes) rfl scShr.nd rfl rfl (sw_true rfl rfl rfl (by decide +kernel)) (pi_tup (pv 1)) (blkOk_by (own := [("_law_one", 5), ("_law_share", 6)]) (N := nShr) (sc := defScope sShr) (by decide +kernel))
          (fun _ _ _ _ _ => pg_tup rfl (pgs_cons (pg_name (i := 5) scShr.nd rfl (Or.inl rfl)) (pgs_cons (pg_name (i := 6) scShr.nd rfl (Or.inl rfl)) pgs_nil))) (fun _ _ _ _ _ => pts_nil) (fun _ _ _ _ _ => pv 5))
      (pss_cons (ps_if (PW.pt (pw_or (pt_not (pt_val (pe_callB call_isi (by rfl) B.isi boot_isinstance (pa_cons (pv 1) (pa_cons (pe_bltn (v := .ty "tuple") (by rfl) B.tuple boot_tuple rfl) pa_nil)))))
          (pw_or1 (pt_cmpR op_ne (pe_lenSetD rfl (by rfl) B.len (by rfl) nS (pv 4)) (pe_callB (r := rLenK K) call_len_seq (by rfl) B.len PySem.boot_len (pa_cons (pv 4) pa_nil)) (nomark _))))) pss_noS pss_nil)
      (pss_cons (ps_if (pt_not (pt_val (pe_callB (cr_all rfl) (by rfl) B.all (by decide +kernel) (pa_cons (pe_lc (own := [("_law_one", 5)]) (g := gName 5) (tt := tYes) rfl scShr.nd (pi_list (pv 4)) (blkOk_by (own := [("_law_one", 5)]) (N := nShr) (sc := defScope sShr) (by decide +kernel))
            (fun _ _ _ _ _ => pg_name (i := 5) scShr.nd rfl (Or.inl rfl)) (fun _ _ _ _ _ => pts_nil) (fun _ _ _ _ _ => pe_and (pe_meth (pv 2) TY.cl ML GL hr bL .nil pass0 (pa_cons (pv 5) (pa_cons (pv 3) pa_nil))) (pe_one (pe_cmpR (r := rIn K false) op_in_seq (pv 5) (pe_meth0 (pv 0) TH.cl MP GP r1 bP .nil pass0) (by rfl))))) pa_nil)))) pss_noS pss_nil)
      (pss_cons (ps_if (pt_not (pt_val (pe_callB (cr_all rfl) (by rfl) B.all (by decide +kernel) (pa_cons (pe_lc (own := [("_law_pair", 7)]) (g := gName 7) (tt := tYes) rfl scShr.nd (pi_tup (pv 1)) (blkOk_by (own := [("_law_pair", 7)]) (N := nShr) (sc := defScope sShr) (by decide +kernel))
            (fun _ _ _ _ _ => pg_name (i := 7) scShr.nd rfl (Or.inl rfl)) (fun _ _ _ _ _ => pts_nil) (fun _ _ _ _ _ => pe_and (pe_callB (r := rIsi K) call_isi (by rfl) B.isi boot_isinstance (pa_cons (pv 7) (pa_cons (pe_bltn (v := .ty "tuple") (by rfl) B.tuple boot_tuple rfl) pa_nil))) (pe_one (pe_cmpR op_gt (pe_ix (r := rIxT K) ix_tup (pe_ix (r := rIxT K) ix_tup (pv 7) pe_int (fun _ _ => rfl)) pe_int (fun _ _ => rfl)) pe_int (nomark _))))) pa_nil)))) pss_noS pss_nil)
      (pss_one (ps_ret (pe_or (pe_cmpR (r := rEqNil K) (op_eqNil hu) (pv 1) (pe_tup pa_nil) (nomark _)) (pe_one (pe_cmpR (r := rEqD K) (op_eqD hu) (pe_call GW r2 (by rfl) DW.mg DW.fn.kp DW.bd .nil pass0 (pa_cons (pv 1) pa_nil)) (pe_tup (pa_cons pe_int (pa_cons pe_int pa_nil))) (nomark _))))))))), ?_⟩
    obtain ⟨t, xs, rfl, ht, hx⟩ := told
    have xl := hx.len
    have l100 := fair.l
    refine ⟨_, rfl, t, rfl, ⟨_, ht⟩, fun L nL => lc_tup (K := K) (a := t) (xs := xs) (fun j H' => H' L = some (.lst (((ts.take j).map Prod.fst).map V.str)) ∧ Same H H') ⟨upd_same, same_new nL⟩ (fun j H' _ h => (tk_same h.2).sq ht) ?_ ?_⟩
    · rintro j x H1 hx1 ⟨hL, s1⟩
      obtain ⟨r, hr1, c, b, rfl, hc, hb⟩ := hx.get hx1
      have jl := lt_get hr1
      refine ⟨c, _, rfl, (tk_same s1).sq hc, rfl, _, _, rfl, _, _, rfl, rfl, rfl, tyes (iteT ⟨_, rfl, _, hL, ?_, ?_, ((Bt.of_same (S := []) s1).upd0 nL).same⟩)⟩
      · rw [List.length_map, List.length_map, List.length_take]
        exact small1000 (by omega)
      · rw [upd_same, take_more hr1, List.map_append, List.map_append]
        rfl
    · rintro H1 ⟨hL, s1⟩
      rw [xl, List.take_length] at hL
      have hL0 := hL
      have t1 : SqT K H1 t xs := (tk_same s1).sq ht
      refine ⟨_, rfl, _, .ty "tuple", _, .type "tuple", _, rfl, .ty _, tyT t1, kit_tup (.tuple []), _, rfl, iteF ⟨_, rfl, L, ts.map Prod.fst, rfl, sqL hL, fair.nd, by rw [List.length_map]; exact l100, _, rfl, L, _, rfl, .inl (sqL hL), rfl, _, rfl, ?_⟩⟩
      rw [show (!decide (V.int ((ts.map Prod.fst).length : Nat) = V.int (((ts.map Prod.fst).map V.str).length : Nat))) = false by simp]
      refine iteF ?_
      have hH1 := hH.same s1
      have hY1 := hY.same s1
      refine ⟨_, rfl, L, rfl, ⟨_, sqL hL⟩, fun M nM => lc_list (K := K) (a := L) (xs := (ts.map Prod.fst).map V.str) (fun j H' => H' M = some (.lst ((List.replicate j true).map V.bl)) ∧ Same H1 H') ⟨upd_same, same_new nM⟩ (fun j H' _ h => sqL (h.2 _ _ hL)) ?_ ?_⟩
      · rintro j x H2 hx2 ⟨hM, s2⟩
        obtain ⟨r, hr2, rfl⟩ : ∃ r, ts[j]? = some r ∧ x = .str r.1 := by
          rw [List.getElem?_map, List.getElem?_map] at hx2
          cases hc : ts[j]? with
          | none => rw [hc] at hx2; cases hx2
          | some r => rw [hc] at hx2; cases hx2; exact ⟨r, rfl, rfl⟩
        have jl := lt_get hr2
        obtain ⟨st1, st2⟩ := fair.st r (List.mem_of_getElem? hr2)
        obtain ⟨dy, _, hYo⟩ := (hY1.same s2).at
        refine ⟨rfl, tyes (iteT ⟨_, rfl, so, dy, _, rfl, hYo, rfl, _, rfl, _, rfl, so, r.1, m, Dd, rfl, hY1.same s2, deep_nm (n := 0) hH.good st2, m0, m1, fun H3 s3 => ⟨_, rfl, ?_⟩⟩)⟩
        rw [st1]
        obtain ⟨dh, _, _, _, _, hHo⟩ := (hH1.same (s2.trans s3)).at
        refine iteT ⟨_, rfl, _, rfl, ho, dh, _, rfl, hHo, rfl, ho, F, rfl, hH1.same (s2.trans s3), fun H4 p s4 hp => ⟨p, _, rfl, .inr hp, rfl, flatS _, ?_⟩⟩
        rw [inV_str.mpr st2]
        have s24 := (s2.trans s3).trans s4
        refine ⟨_, (s3.trans s4) _ _ hM, ?_, ?_, ((Bt.of_same (S := []) s24).upd0 nM).same⟩
        · rw [List.length_map, List.length_replicate]
          exact small1000 (by omega)
        · rw [upd_same, List.replicate_succ', List.map_append]
          rfl
      · rintro H2 ⟨hM, s2⟩
        refine ⟨M, _, rfl, sqL hM, ?_⟩
        rw [show (List.replicate ((ts.map Prod.fst).map V.str).length true).all id = true by simp]
        refine ⟨_, rfl, iteF ?_⟩
        have s12 := s1.trans s2
        have t2 : SqT K H2 t xs := (tk_same s12).sq ht
        refine ⟨_, rfl, t, rfl, ⟨_, t2⟩, fun N nN => lc_tup (K := K) (a := t) (xs := xs) (fun j H' => H' N = some (.lst ((List.replicate j true).map V.bl)) ∧ Same H2 H') ⟨upd_same, same_new nN⟩ (fun j H' _ h => (tk_same h.2).sq t2) ?_ ?_⟩
        · rintro j x H3 hx3 ⟨hN, s3⟩
          obtain ⟨r, hr3, c, b, rfl, hc, hb⟩ := hx.get hx3
          have jl := lt_get hr3
          have po := fair.po r (List.mem_of_getElem? hr3)
          have c3 := (tk_same (s12.trans s3)).sq hc
          have b3 := (tk_same (s12.trans s3)).sq hb
          refine ⟨rfl, tyes (iteT ⟨_, rfl, _, .ty "tuple", _, .type "tuple", _, rfl, .ty _, tyT c3, kit_tup (.tuple []), _, rfl, iteT ⟨_, rfl, c, _, 1, _, rfl, rfl, c3, atI_nat (j := 1) rfl, b, _, 0, _, rfl, rfl, b3, atI_nat (j := 0) rfl, _, 0, rfl, rfl, ?_⟩⟩)⟩
          rw [show ((fun i j : Int => V.bl (decide (j < i))) (r.2.1 : Nat) 0) = V.bl true from congrArg V.bl (decide_eq_true (show (0 : Int) < (r.2.1 : Nat) by omega))]
          refine ⟨_, hN, ?_, ?_, ((Bt.of_same (S := []) s3).upd0 nN).same⟩
          · rw [List.length_map, List.length_replicate]
            exact small1000 (by omega)
          · rw [upd_same, List.replicate_succ', List.map_append]
            rfl
        · rintro H3 ⟨hN, s3⟩
          refine ⟨N, _, rfl, sqL hN, ?_⟩
          rw [show (List.replicate xs.length true).all id = true by simp]
          refine ⟨_, rfl, iteF ?_⟩
          have s13 := s12.trans s3
          have told3 : ToldAt K H3 (.ref t) ts := ToldAt.tk ⟨t, xs, rfl, ht, hx⟩ (tk_same s13)
          refine ⟨_, rfl, by show 0 ≤ sizeLine; decide, fun p0 n0 => ⟨t, p0, xs, rfl, rfl, (tk_new n0).sq ((tk_same s13).sq ht), sqT upd_same, _, rfl, ?_⟩⟩
          by_cases c : xs = []
          · rw [decide_eq_true c]
            exact iteT (q _ (s13.trans (same_new n0)))
          · rw [decide_eq_false c]
            have w1 : wholeN ts = (1, 1) := by
              rcases fair.one with e | e
              · rw [e] at xl
                exact absurd (List.length_eq_zero_iff.mp xl) c
              · exact e
            refine iteF ⟨_, rfl, .ref t, ts, rfl, told3.tk (tk_new n0), fair.fit, fun H4 p s4 hp => ⟨by show 2 ≤ sizeLine; decide, fun p5 n5 => ?_⟩⟩
            rw [w1] at hp
            refine ⟨.tuple [.int 1, .int 1], .tuple [.int 1, .int 1], .tup ((tk_new n5).sq hp) (.cons (.int _) (.cons (.int _) .nil)), .tup (sqT upd_same) (.cons (.int _) (.cons (.int _) .nil)), by decide +kernel, by decide +kernel, ?_⟩
            rw [show PyData.eqv (.tuple [.int 1, .int 1]) (.tuple [.int 1, .int 1]) = true by decide +kernel]
            exact q _ (((s13.trans (same_new n0)).trans s4).trans (same_new n5))
end
end WdQ

set_option Elab.async false
set_option linter.all false
set_option maxRecDepth 100000
set_option maxHeartbeats 8000000
set_option exponentiation.threshold 5000
namespace WdQ
open PySem PySem.Spec PyProof.Rows L2 WdM Wd
/-! ### what is told is fair -/
section
variable {F : List (Str × Option Str)}
theorem wn_pos {L : Nat} (l : 0 < L) {z : Str} : ∀ {rs : List (Str × Nat)}, Mu L rs → z ∈ rs.map Prod.fst → 0 < WN L rs z
  | [], _, h => nomatch h
  | r :: rs, mu, h => by
    have e : WN L (r :: rs) z = wnm L z r + WN L rs z := by unfold WN; rw [List.map_cons, List.sum_cons]
    rw [e]
    rw [List.map_cons] at h
    rcases List.mem_cons.mp h with rfl | h
    · have : wnm L r.1 r = L / r.2 := by unfold wnm; rw [if_pos rfl]
      rw [this]
      have hr := mu r (by simp)
      have := Nat.div_pos (Nat.le_of_dvd l hr.1) hr.2
      omega
    · have := wn_pos l (rs := rs) (fun r' h' => mu r' (List.mem_cons_of_mem _ h')) h
      omega
theorem tak_fair (g : GoodF F) {D : List (Str × Int)} {m : Int} {as : List (List Part)} (gw : GoodW F as) : Fair F D m (takN F (fun y => aliveB D y m) as) := by
  have nd := tak_nd (F := F) (al := fun y => aliveB D y m) as
  rcases tak_ways (F := F) (al := fun y => aliveB D y m) as with ⟨h, _⟩ | ⟨a, ha, ne, e⟩
  · rw [h]
    exact ⟨List.nodup_nil, fun t ht => (nomatch ht), fun t ht => (nomatch ht), ⟨fun _ => 0, fun t ht => (nomatch ht), Nat.zero_le _⟩, .inl rfl, by decide⟩
  · have ga := gw.al a ha
    have mu := alt_mu (F := F) (al := fun y => aliveB D y m) g (a := a) ga.l6
    have one := alt_one ne LB lb_pos mu
    have st : ∀ t ∈ takN F (fun y => aliveB D y m) as, aliveB D t.1 m = true ∧ t.1 ∈ F.map Prod.fst := fun t ht => by
      rw [e] at ht
      have hk : t.1 ∈ (sumN (altN F (fun y => aliveB D y m) a)).map Prod.fst := List.mem_map_of_mem ht
      rw [sum_keys, mem_firsts] at hk
      obtain ⟨r, hr, e1⟩ := List.mem_map.mp hk
      have := alt_stand (al := fun y => aliveB D y m) ga.nm r hr
      rw [e1] at this
      exact this
    refine ⟨nd, st, fun t ht => ?_, ?_, .inr ?_, ?_⟩
    · rw [e] at ht
      have hk : t.1 ∈ (sumN (altN F (fun y => aliveB D y m) a)).map Prod.fst := List.mem_map_of_mem ht
      rw [sum_keys, mem_firsts] at hk
      exact (sum_mem_val mu t ht).pos (wn_pos lb_pos mu hk)
    · rw [e]
      refine ⟨WN LB (altN F (fun y => aliveB D y m) a), sum_mem_val mu, ?_⟩
      rw [tot_keys (sum_nd _) (fun r hr => by rw [sum_keys, mem_firsts]; exact List.mem_map_of_mem hr), one]
      exact Nat.le_refl _
    · rw [e]
      exact whole_one lb_pos mu one
    · have := nodup_sub nd fun z hz => by
        obtain ⟨t, ht, rfl⟩ := List.mem_map.mp hz
        exact (st t ht).2
      rw [List.length_map, List.length_map] at this
      have := g.l8
      omega
end
abbrev sR18 : Stmt := topS 72
def pR18 : List Str := ["_law_pool_here", "_law_more"]
def nR18 : List Str := ["_law_pool_here", "_law_more", "_law_home_here", "_law_dates_here", "_law_one", "_law_mate", "_law_folk", "_law_whom_here", "_law_estate", "_law_day", "_law_turn", "_law_tale", "_law_found"]
theorem scR18 : FnScope nR18 pR18 (defScope sR18) := ⟨rfl, rfl, rfl, by decide +kernel, rfl, by decide +kernel, by decide +kernel⟩
theorem Bt.two8 {l0 l : Addr} {H H' : Hp} (b : Bt [l] H H') : Bt [l0, l] H H' := fun c x hc e => b c x (fun m => hc (List.mem_cons_of_mem _ m)) e
theorem Bt.one8 {l0 l : Addr} {H H' : Hp} (b : Bt [l0] H H') : Bt [l0, l] H H' := fun c x hc e => b c x (fun m => hc (by rw [List.mem_singleton.mp m]; exact List.mem_cons_self)) e
section
variable {P : Program} {w : World} {K : PySem.W.Frag} {mg : Str → Option Value} {base : Heap} {CH CY : Addr}
theorem passNs {X : Cx} {σ : L2.St} : PassesAt (L2.CX X.prog X.w) X σ E0 := fun _ _ _ _ _ _ h => by
  obtain ⟨_, _, _, _, _, _, _, _, _, _, _, _, h⟩ := h
  exact h.elim
/-- [one for one, mate in home[0]] -/
def tFolk (K : PySem.W.Frag) : TE := fun σ H Q => ∃ (hh tp : Addr) (g p d : V) (F : List (Str × Option Str)) (y0 y1 y3 y4 y5 y6 y7 y8 y9 y10 y11 y12 : Option V), σ = [y0, y1, some (.ref hh), y3, y4, y5, y6, y7, y8, y9, y10, y11, y12] ∧ SqT K H hh [.ref tp, g, p, d] ∧ FolkAt K H (.ref tp) F ∧ F.length ≤ 8 ∧ ∀ H' L, Same H H' → H L = none → H' L = some (.lst ((F.map Prod.fst).map V.str)) → Q (.ref L) H'
/-- what the law has drawn -/
structure Ev8 (K : PySem.W.Frag) (CH : Addr) (H : Hp) (l oH L aD aW : Addr) (F : List (Str × Option Str)) (ds : List Int) (as : List (List Part)) : Prop where
  pool : PoolAt H l
  home : HomeAt K CH H oH F
  whom : WhomAt K H (.ref aW) as
  hL : H L = some (.lst ((F.map Prod.fst).map V.str))
  nL : L ≠ l
  hD : H aD = some (.lst (ds.map V.int))
  nD : aD ≠ l
theorem Ev8.bt {H H' : Hp} {l oH L aD aW : Addr} {F : List (Str × Option Str)} {ds : List Int} {as : List (List Part)} (h : Ev8 K CH H l oH L aD aW F ds as) (b : Bt [l] H H') (p : PoolAt H' l) : Ev8 K CH H' l oH L aD aW F ds as :=
  ⟨p, h.home.bt h.pool b, h.whom.tk (b.tk h.pool.lst), kept b h.hL (by simp [h.nL]), h.nL, kept b h.hD (by simp [h.nD]), h.nD⟩
theorem Ev8.same {H H' : Hp} {l oH L aD aW : Addr} {F : List (Str × Option Str)} {ds : List Int} {as : List (List Part)} (h : Ev8 K CH H l oH L aD aW F ds as) (b : Same H H') : Ev8 K CH H' l oH L aD aW F ds as :=
  ⟨h.pool.same b, h.home.same b, h.whom.tk (tk_same b), b _ _ h.hL, h.nL, b _ _ h.hD, h.nD⟩
def spR18 (K : PySem.W.Frag) : Sp := fun vs H Q _ => ∃ (l0 l : Addr), vs = [.ref l0, .ref l] ∧ PoolAt H l0 ∧ PoolAt H l ∧ l0 ≠ l ∧ ∀ H', Bt [l0, l] H H' → Q (.bl true) H'
theorem ok_r18 {f fK fHo fDa fWh fDe fH fY fT fSh fPi fPr fKn : Addr} {fd fdK fdHo fdDa fdWh fdDe fdH fdY fdT fdSh fdPi fdPr fdKn : FuncData} {k : Nat} (B : Bi mg) (D : Df K mg "_law_right" sR18 f fd pR18)
    (DK : Df K mg "_law_take" sTake fK fdK ["_law_pool_here", "_law_many"]) (GK : FnOk P w K mg base CX0 (k + 16) fK fdK ["_law_pool_here", "_law_many"] spTake)
    (DHo : Df K mg "_law_home" sHome fHo fdHo ["_law_pool_here", "_law_most"]) (GHo : FnOk P w K mg base CX0 (k + 16) fHo fdHo ["_law_pool_here", "_law_most"] (spHome K 8))
    (DDa : Df K mg "_law_dates" sDates fDa fdDa ["_law_pool_here"]) (GDa : FnOk P w K mg base CX0 (k + 16) fDa fdDa ["_law_pool_here"] (spDates K))
    (DWh : Df K mg "_law_whom" sWhm fWh fdWh ["_law_pool_here", "_law_folk"]) (GWh : FnOk P w K mg base CX0 (k + 16) fWh fdWh ["_law_pool_here", "_law_folk"] (spWhm K))
    (DDe : Df K mg "_law_deaths" sDeaths fDe fdDe ["_law_pool_here", "_law_folk", "_law_dates_here"]) (GDe : FnOk P w K mg base CX0 (k + 16) fDe fdDe ["_law_pool_here", "_law_folk", "_law_dates_here"] (spDeaths K))
    (MH : Mk K CH fH) (gH : mg "House" = some (.ref CH)) (GH : FnOk P w K mg base (L2.CX P w) (k + 14) fH fdH ["self", "people", "goods", "purse", "debts"] (spHIg K CH)) (bH : Binds K fdH ["self", "people", "goods", "purse", "debts"] [])
    (MY : Mk K CY fY) (gY : mg "Story" = some (.ref CY)) (GY : FnOk P w K mg base (L2.CX P w) (k + 14) fY fdY ["self", "deaths"] (spSIa K CY)) (bY : Binds K fdY ["self", "deaths"] [])
    (gT : mg "takers" = some (.ref fT)) (kT : PySem.W.keepIn K (.ref fT) = true) (bT : Binds K fdT ["house", "whom", "story", "wait"] []) (k3 : KBn K fdT ["house", "whom", "story", "wait"] 3 ["wait"] (fun us ws => us ++ ws) (fun vs zs => vs ++ zs)) (GT : FnOk P w K mg base CX0 (k + 14) fT fdT ["house", "whom", "story", "wait"] (SpTk K CH CY))
    (DSh : Df K mg "_law_shares_right" sShr fSh fdSh ["_law_estate", "_law_found", "_law_tale", "_law_day"]) (GSh : FnOk P w K mg base CX0 (k + 16) fSh fdSh ["_law_estate", "_law_found", "_law_tale", "_law_day"] (spShr K CH CY))
    (DPi : Df K mg "_law_put_in_right" sPi fPi fdPi pPi) (GPi : FnOk P w K mg base CX0 (k + 16) fPi fdPi pPi (spPi K CH CY))
    (DPr : Df K mg "_law_parts_right" sPr fPr fdPr pPr) (GPr : FnOk P w K mg base CX0 (k + 16) fPr fdPr pPr (spPr K CH CY))
    (DKn : Df K mg "_law_kin_right" sKn fKn fdKn pKn) (GKn : FnOk P w K mg base CX0 (k + 16) fKn fdKn pKn (spKn K CH CY)) : FnOk P w K mg base CX0 (k + 17) f fd pR18 (spR18 K) := by
  refine D.fn.ok scR18 (fun vs H Q E h => ?_) (fun cdv A outer s H vs Q E hr h => ?_)
  · obtain ⟨l0, l, rfl, _⟩ := h
    rfl
  · obtain ⟨l0, l, rfl, pool0, pool, nll, q⟩ := h
    have hu : _ + 64 < cLine := hr.units
    have r14 : Room (k + 14) _ := hr.mono (by omega)
    have r15 : Room (k + 14 + 1) _ := hr.mono (by omega)
    refine ⟨_, pss_cons (ps_par (i := 2) (j := 3) rfl scR18.nd rfl rfl (by decide) rfl rfl (pa_cons (pe_call GHo hr (by rfl) DHo.mg DHo.fn.kp DHo.bd .nil pass0 (pa_cons (pv 0) (pa_cons pe_int pa_nil))) (pa_cons (pe_call GDa hr (by rfl) DDa.mg DDa.fn.kp DDa.bd .nil pass0 (pa_cons (pv 0) pa_nil)) pa_nil)) (by rfl))
      (pss_cons (ps_par (i := 6) (j := 7) rfl scR18.nd rfl rfl (by decide) rfl rfl (pa_cons (PE.wk (t' := tFolk K) (pe_lc (own := [("_law_one", 4), ("_law_mate", 5)]) (g := gTup K 2 (gCons (gName 4) (gCons (gName 5) gNil))) (tt := tYes) rfl scR18.nd (pi_tup (pe_ix (r := rIxT K) ix_tup (pv 2) pe_int (fun _ _ => rfl))) (blkOk_by (own := [("_law_one", 4), ("_law_mate", 5)]) (N := nR18) (sc := defScope sR18) (by decide +kernel))
            (fun _ _ _ _ _ => pg_tup rfl (pgs_cons (pg_name (i := 4) scR18.nd rfl (Or.inl rfl)) (pgs_cons (pg_name (i := 5) scR18.nd rfl (Or.inl rfl)) pgs_nil))) (fun _ _ _ _ _ => pts_nil) (fun _ _ _ _ _ => pv 4)) (by
              rintro σ H Q ⟨hh, tp, g, p, d, F, y0, y1, y3, y4, y5, y6, y7, y8, y9, y10, y11, y12, rfl, hh1, ⟨_, xs, e, ht, xl, hx⟩, f8, q⟩
              cases e
              refine ⟨_, rfl, hh, _, 0, _, rfl, rfl, hh1, atI_nat (j := 0) rfl, tp, rfl, ⟨_, ht⟩, fun L nL => lc_tup (K := K) (a := tp) (xs := xs) (fun j H' => H' L = some (.lst (((F.take j).map Prod.fst).map V.str)) ∧ Same H H') ⟨upd_same, same_new nL⟩ (fun j H' _ h => (tk_same h.2).sq ht) ?_ ?_⟩
              · rintro j x H1 hx1 ⟨hL, s1⟩
                obtain ⟨a, r, rfl, hr1, ha⟩ := hx j x hx1
                have jl := lt_get hr1
                refine ⟨a, _, rfl, (tk_same s1).sq ha, rfl, _, _, rfl, _, _, rfl, rfl, rfl, tyes (iteT ⟨_, rfl, _, hL, ?_, ?_, ((Bt.of_same (S := []) s1).upd0 nL).same⟩)⟩
                · rw [List.length_map, List.length_map, List.length_take]
                  exact small1000 (by omega)
                · rw [upd_same, take_more hr1, List.map_append, List.map_append]
                  rfl
              · rintro H1 ⟨hL, s1⟩
                rw [xl, List.take_length] at hL
                exact q H1 L s1 nL hL))
          (pa_cons (pe_call GWh hr (by rfl) DWh.mg DWh.fn.kp DWh.bd .nil pass0 (pa_cons (pv 0) (pa_cons (PE.wk (t' := tFolk K) (pe_lc (own := [("_law_one", 4), ("_law_mate", 5)]) (g := gTup K 2 (gCons (gName 4) (gCons (gName 5) gNil))) (tt := tYes) rfl scR18.nd (pi_tup (pe_ix (r := rIxT K) ix_tup (pv 2) pe_int (fun _ _ => rfl))) (blkOk_by (own := [("_law_one", 4), ("_law_mate", 5)]) (N := nR18) (sc := defScope sR18) (by decide +kernel))
            (fun _ _ _ _ _ => pg_tup rfl (pgs_cons (pg_name (i := 4) scR18.nd rfl (Or.inl rfl)) (pgs_cons (pg_name (i := 5) scR18.nd rfl (Or.inl rfl)) pgs_nil))) (fun _ _ _ _ _ => pts_nil) (fun _ _ _ _ _ => pv 4)) (by
              rintro σ H Q ⟨hh, tp, g, p, d, F, y0, y1, y3, y4, y5, y6, y7, y8, y9, y10, y11, y12, rfl, hh1, ⟨_, xs, e, ht, xl, hx⟩, f8, q⟩
              cases e
              refine ⟨_, rfl, hh, _, 0, _, rfl, rfl, hh1, atI_nat (j := 0) rfl, tp, rfl, ⟨_, ht⟩, fun L nL => lc_tup (K := K) (a := tp) (xs := xs) (fun j H' => H' L = some (.lst (((F.take j).map Prod.fst).map V.str)) ∧ Same H H') ⟨upd_same, same_new nL⟩ (fun j H' _ h => (tk_same h.2).sq ht) ?_ ?_⟩
              · rintro j x H1 hx1 ⟨hL, s1⟩
                obtain ⟨a, r, rfl, hr1, ha⟩ := hx j x hx1
                have jl := lt_get hr1
                refine ⟨a, _, rfl, (tk_same s1).sq ha, rfl, _, _, rfl, _, _, rfl, rfl, rfl, tyes (iteT ⟨_, rfl, _, hL, ?_, ?_, ((Bt.of_same (S := []) s1).upd0 nL).same⟩)⟩
                · rw [List.length_map, List.length_map, List.length_take]
                  exact small1000 (by omega)
                · rw [upd_same, take_more hr1, List.map_append, List.map_append]
                  rfl
              · rintro H1 ⟨hL, s1⟩
                rw [xl, List.take_length] at hL
                exact q H1 L s1 nL hL)) pa_nil))) pa_nil)) (by rfl))
      (pss_cons (ps_par (i := 8) (j := 9) rfl scR18.nd rfl rfl (by decide) rfl rfl (pa_cons (pe_makeS MH GH r15 (by rfl) gH bH .nil (fun _ => passNs) (pa_cons (pe_ix (r := rIxT K) ix_tup (pv 2) pe_int (fun _ _ => rfl)) (pa_cons (pe_ix (r := rIxT K) ix_tup (pv 2) pe_int (fun _ _ => rfl)) (pa_cons (pe_ix (r := rIxT K) ix_tup (pv 2) pe_int (fun _ _ => rfl)) (pa_cons (pe_ix (r := rIxT K) ix_tup (pv 2) pe_int (fun _ _ => rfl)) pa_nil))))) (pa_cons (pe_ix (r := rIxL K) ix_list (pv 3) (pe_call GK hr (by rfl) DK.mg DK.fn.kp DK.bd .nil pass0 (pa_cons (pv 1) (pa_cons (pe_callB (r := rLenK K) call_len_seq (by rfl) B.len PySem.boot_len (pa_cons (pv 3) pa_nil)) pa_nil))) (fun _ _ => rfl)) pa_nil)) (by rfl))
      (pss_cons (ps_for PassesOwn.never rfl (pi_range1 (by rfl) B.range (pa_cons pe_int pa_nil)) (pg_name (i := 10) scR18.nd rfl (.inl rfl))
        (pss_cons (ps_set (i := 11) scR18.nd rfl (.inl rfl) (pe_makeS MY GY r15 (by rfl) gY bY .nil (fun _ => passNs) (pa_cons (pe_call GDe hr (by rfl) DDe.mg DDe.fn.kp DDe.bd .nil pass0 (pa_cons (pv 1) (pa_cons (pv 6) (pa_cons (pv 3) pa_nil)))) pa_nil)))
        (pss_cons (ps_set (i := 12) scR18.nd rfl (.inl rfl) (pe_call GT r14 (by rfl) gT kT bT .nil pass0 (pa_cons (pv 8) (pa_cons (pv 7) (pa_cons (pv 11) (pa_cons (pv 9) pa_nil))))))
        (pss_cons (ps_if (PW.pt (pw_or (pt_not (pt_val (pe_call GSh hr (by rfl) DSh.mg DSh.fn.kp DSh.bd .nil pass0 (pa_cons (pv 8) (pa_cons (pv 12) (pa_cons (pv 11) (pa_cons (pv 9) pa_nil))))))) (pw_or1 (pt_cmpR (r := RNe K) (op_neT hu) (pe_callN GT r14 (by rfl) gT kT k3 pass0 (pa_cons (pv 8) (pa_cons (pv 7) (pa_cons (pv 11) pa_nil))) (pk_cons (pv 9) pk_nil)) (pv 12) (nomark _))))) pss_noS pss_nil)
        (pss_cons (ps_if (pt_not (pt_val (pe_call GPi hr (by rfl) DPi.mg DPi.fn.kp DPi.bd .nil pass0 (pa_cons (pv 1) (pa_cons (pv 8) (pa_cons (pv 7) (pa_cons (pv 11) (pa_cons (pv 9) (pa_cons (pv 6) pa_nil))))))))) pss_noS pss_nil)
        (pss_cons (ps_if (pt_not (pt_val (pe_call GPr hr (by rfl) DPr.mg DPr.fn.kp DPr.bd .nil pass0 (pa_cons (pv 8) (pa_cons (pv 7) (pa_cons (pv 11) (pa_cons (pv 9) pa_nil))))))) pss_noS pss_nil)
        (pss_one (ps_if (pt_not (pt_val (pe_call GKn hr (by rfl) DKn.mg DKn.fn.kp DKn.bd .nil pass0 (pa_cons (pv 8) (pa_cons (pv 11) (pa_cons (pv 9) pa_nil)))))) pss_noS pss_nil))))))))
      (pss_one (ps_ret pe_bl))))), ?_⟩
    refine ⟨_, rfl, l0, rfl, pool0, fun H1 hh tp tg pu de F goods b1 pl1 hh1 folk1 gf f8 gd1 gg pu0 pu1 de0 de1 => ⟨_, rfl, l0, rfl, pl1, fun H2 aD ds b2 pl2 hD2 nD0 nwD d1 d3 dd => ⟨_, _, rfl, ?_⟩⟩⟩
    have tk2 : Tk H1 H2 := b2.tk pl1.lst
    have b02 := b1.trans b2
    have f88 := gf.l8
    have fl1 := gf.l1
    refine ⟨hh, tp, _, _, _, F, _, _, _, _, _, _, _, _, _, _, _, _, rfl, tk2.sq hh1, folk1.tk tk2, f88, fun H3 L s3 nL hL3 => ⟨_, rfl, hh, tp, _, _, _, F, _, _, _, _, _, _, _, _, _, _, _, _, rfl, (tk2.trans (tk_same s3)).sq hh1, folk1.tk (tk2.trans (tk_same s3)), f88, fun H4 L4 s4 nL4 hL4 => ?_⟩⟩
    have pl4 : PoolAt H4 l0 := (pl2.same s3).same s4
    refine ⟨l0, L4, F.map Prod.fst, rfl, pl4, hL4, ((pl2.same s3).ne nL4).symm, by rw [List.length_map]; exact fl1, by rw [List.length_map]; exact f88, fun H5 aW as b5 pl5 w5 a1 a3 dr => ⟨_, _, rfl, ?_⟩⟩
    have tk5 : Tk H1 H5 := (tk2.trans (tk_same (s3.trans s4))).trans (b5.tk pl4.lst)
    have hh5 := tk5.sq hh1
    have b05 : Bt [l0] H H5 := (b02.trans (Bt.of_same (s3.trans s4))).trans b5
    have nL0 : L ≠ l0 := (pl2.ne nL).symm
    have hL5 : H5 L = some (.lst ((F.map Prod.fst).map V.str)) := kept b5 (s4 _ _ hL3) (by simp [nL0])
    have hD5 : H5 aD = some (.lst (ds.map V.int)) := kept b5 (s4 _ _ (s3 _ _ hD2)) (by simp [nD0])
    have pl : PoolAt H5 l := pool.bt b05 nll.symm
    have nLl : L ≠ l := fun e => by
      have h2 : PoolAt H2 l := pool.bt b02 nll.symm
      exact h2.ne nL e.symm
    have nDl : aD ≠ l := fun e => (pool.bt b1 nll.symm).ne nwD e.symm
    refine ⟨_, rfl, hh, _, 0, _, rfl, rfl, hh5, atI_nat (j := 0) rfl, _, rfl, hh, _, 1, _, rfl, rfl, hh5, atI_nat (j := 1) rfl, _, rfl, hh, _, 2, _, rfl, rfl, hh5, atI_nat (j := 2) rfl, _, rfl, hh, _, 3, _, rfl, rfl, hh5, atI_nat (j := 3) rfl, fun oH dH nH ndH neH => ?_⟩
    have sN : Same H5 (upd (upd H5 dH (.own oH)) oH (.ins CH dH [])) := fun c o hc => by rw [upd_ne (ne_of_none hc nH), upd_ne (ne_of_none hc ndH)]; exact hc
    refine ⟨oH, dH, .ref tp, .ref tg, pu, de, F, goods, rfl, upd_same, folk1.tk (tk5.trans (tk_same sN)), gf, gd1.tk (tk5.trans (tk_same sN)), gg, pu0, pu1, de0, de1, fun H6 b6 home6 => ⟨rfl, ?_⟩⟩
    have s56 : Same H5 H6 := fun c o hc => b6 c o (by simp [ne_of_none hc nH]) (sN c o hc)
    refine ⟨_, rfl, _, rfl, _, rfl, aD, _, rfl, .inl (sqL (s56 _ _ hD5)), l, _, rfl, pl.same s56, by rw [List.length_map]; omega, fun H7 d7 b7 pl7 d70 d71 => ?_⟩
    rw [List.length_map] at d71
    obtain ⟨v7, e7, m, hm, rfl⟩ := at_of (P := fun v => ∃ z, z ∈ ds ∧ v = .int z) (xs := ds.map V.int) (d := d7) (fun x hx => by
      obtain ⟨z, hz, rfl⟩ := List.mem_map.mp hx
      exact ⟨z, hz, rfl⟩) d70 (by rw [List.length_map]; exact d71)
    have hD7 : H7 aD = some (.lst (ds.map V.int)) := kept b7 (s56 _ _ hD5) (by simp [nDl])
    refine ⟨aD, _, d7, _, rfl, rfl, sqL hD7, e7, _, _, rfl, ?_⟩
    have dm := dd m hm
    have b07 : Bt [l0, l] H H7 := ((Bt.one8 b05).trans (Bt.of_same s56)).trans (Bt.two8 b7)
    have ev7 : Ev8 K CH H7 l oH L aD aW F ds as := ⟨pl7, home6.bt (pl.same s56) b7, (w5.tk (tk_same s56)).tk (b7.tk (pl.same s56).lst), kept b7 (s56 _ _ hL5) (by simp [nLl]), nLl, hD7, nDl⟩
    have gw : GoodW F as := ⟨a1, by omega, fun a ha => (dr a ha).good⟩
    refine ⟨3, rfl, by decide, by decide, for_range (lo := 0) (n := 3) (fun i σ H' => (∃ y4 y5 y10 y11 y12 : Option V, σ = [some (.ref l0), some (.ref l), some (.ref hh), some (.ref aD), y4, y5, some (.ref L), some (.ref aW), some (.ref oH), some (.int m), y10, y11, y12]) ∧ Ev8 K CH H' l oH L aD aW F ds as ∧ Bt [l0, l] H H') ⟨⟨_, _, _, _, _, rfl⟩, ev7, b07⟩ ?_ ?_⟩
    · rintro i σ H8 hi ⟨⟨y4, y5, y10, y11, y12, rfl⟩, ev8, b08⟩
      refine ⟨_, rfl, _, rfl, _, rfl, l, L, aD, F.map Prod.fst, ds, rfl, ev8.pool, ev8.hL, ev8.hD, ev8.nD, gf.nd, fun z hz => ?_, by rw [List.length_map]; exact f88, d1, by omega, fun H9 p9 rows b9 pl9 dh9 gd din => fun o d no nd ne => ?_⟩
      · obtain ⟨r, hr, rfl⟩ := List.mem_map.mp hz
        exact gf.nm r hr
      have sM : Same H9 (upd (upd H9 d (.own o)) o (.ins CY d [])) := fun c x hc => by rw [upd_ne (ne_of_none hc no), upd_ne (ne_of_none hc nd)]; exact hc
      refine ⟨o, d, .ref p9, rows, rfl, upd_same, .inr (dh9.tk (tk_same sM)), gd, fun H10 b10 st10 => ⟨rfl, ?_⟩⟩
      have s10 : Same H9 H10 := fun c x hc => b10 c x (by simp [ne_of_none hc no]) (sM c x hc)
      have ev10 := (ev8.bt b9 pl9).same s10
      have b010 : Bt [l0, l] H H10 := (b08.trans (Bt.two8 b9)).trans (Bt.of_same s10)
      refine ⟨_, rfl, _, rfl, _, rfl, _, rfl, tks_go ev10.home st10 ev10.whom gw (by omega) (by omega) fun H11 t11 s11 td11 o11 => ?_⟩
      have ev11 := ev10.same s11
      have st11 := st10.same s11
      refine ⟨_, rfl, _, rfl, _, rfl, _, rfl, oH, o, .ref t11, _, m, F, rows, rfl, ev11.home, st11, td11, tak_fair gf gw, by omega, by omega, fun H12 s12 => ⟨_, rfl, iteF ?_⟩⟩
      have s112 := s11.trans s12
      refine ⟨_, rfl, _, rfl, _, rfl, _, rfl, rfl, rfl, tks_go (ev10.same s112).home (st10.same s112) (ev10.same s112).whom gw (by omega) (by omega) fun H13 t13 s13 td13 o13 => ⟨_, rfl, told_ne td13 o13 (td11.tk (tk_same (s12.trans s13))) o11 ⟨_, rfl, ?_⟩⟩⟩
      rw [decide_eq_true rfl]
      have s113 := s112.trans s13
      have ev13 := ev10.same s113
      have st13 := st10.same s113
      refine iteF ⟨_, rfl, _, rfl, _, rfl, _, rfl, _, rfl, _, rfl, l, oH, o, aW, L, F.map Prod.fst, m, as, F, rows, rfl, ev13.pool, ev13.home, st13, ev13.whom, a1, a3, dr, ev13.hL, rfl, ev13.nL, by omega, by omega, fun H14 b14 pl14 => ⟨true, rfl, iteF ?_⟩⟩
      have ev14 := ev13.bt b14 pl14
      have st14 := st13.bt ev13.pool b14
      refine ⟨_, rfl, _, rfl, _, rfl, _, rfl, oH, o, aW, m, as, F, rows, rfl, ev14.home, st14, ev14.whom, a1, a3, dr, by omega, by omega, fun H15 s15 => ⟨true, rfl, iteF ?_⟩⟩
      refine ⟨_, rfl, _, rfl, _, rfl, oH, o, m, F, rows, rfl, (ev14.same s15).home, st14.same s15, by omega, by omega, fun H16 s16 => ⟨true, rfl, iteF ?_⟩⟩
      exact ⟨⟨_, _, _, _, _, rfl⟩, ev14.same (s15.trans s16), ((b010.trans (Bt.of_same s113)).trans (Bt.two8 b14)).trans (Bt.of_same (s15.trans s16))⟩
    · rintro σ H8 ⟨_, _, b08⟩
      exact q H8 b08
end
end WdQ

set_option Elab.async false
set_option linter.all false
set_option maxRecDepth 100000
set_option maxHeartbeats 4000000
set_option exponentiation.threshold 5000
namespace WdQ
open PySem PySem.Spec PyProof.Rows L2 WdM Wd
abbrev sLaw : Stmt := topS 73
abbrev nL : List Str := ["_law_script", "_law_k"]
theorem scLaw : FnScope nL ["_law_script"] (defScope sLaw) := ⟨rfl, rfl, rfl, by decide +kernel, rfl, by decide +kernel, by decide +kernel⟩
theorem rg2 {j : Int} (h1 : 1 ≤ j) (h2 : j ≤ 10) : RgC 0 j 2 (Builtin.Range.rangeSize 0 j 2).toNat ∧ (Builtin.Range.rangeSize 0 j 2).toNat ≤ 5 := by
  have all : ∀ m : Fin 11, Builtin.Range.small 0 ((m.val : Nat) : Int) 2 = true ∧ 0 ≤ Builtin.Range.rangeSize 0 ((m.val : Nat) : Int) 2 ∧ (Builtin.Range.rangeSize 0 ((m.val : Nat) : Int) 2).toNat ≤ 5 := by decide +kernel
  obtain ⟨m, rfl⟩ := Int.eq_ofNat_of_zero_le (show 0 ≤ j by omega)
  have := all ⟨m, by omega⟩
  exact ⟨⟨by decide, by decide, this.1, (Int.toNat_of_nonneg this.2.1).symm⟩, this.2.2⟩
section
variable {P : Program} {w : World} {K : PySem.W.Frag} {mg : Str → Option Value} {base : Heap}
def spLaw (K : PySem.W.Frag) : Sp := fun vs H Q _ => ∃ (a : Addr) (ns : List Int), vs = [.ref a] ∧ SqL K H a (ns.map V.int) ∧ ns.length ≤ 63 ∧ ∀ H', Q (.bl true) H'
theorem ok_law {f fO fR : Addr} {fd fdO fdR : FuncData} (B : Bi mg) (D : Df K mg "law" sLaw f fd ["_law_script"]) (DO : Df K mg "_law_pool" sPool fO fdO ["_law_script", "_law_k"]) (DR : Df K mg "_law_right" sR18 fR fdR pR18)
    (GO : FnOk P w K mg base CX0 17 fO fdO ["_law_script", "_law_k"] (spPool K)) (GR : FnOk P w K mg base CX0 17 fR fdR pR18 (spR18 K)) : FnOk P w K mg base CX0 18 f fd ["_law_script"] (spLaw K) := by
  refine D.fn.ok scLaw (fun vs H Q E h => ?_) (fun cdv A outer s H vs Q E hr h => ?_)
  · obtain ⟨a, ns, rfl, _⟩ := h
    rfl
  · obtain ⟨a, ns, rfl, hs, hlen, q⟩ := h
    refine ⟨_, pss_cons (ps_for PassesOwn.never rfl (pi_range3 (by rfl) B.range (pa_cons pe_int (pa_cons (pe_callB (call_max2 rfl) (by rfl) B.max (by decide +kernel) (pa_cons pe_int (pa_cons (pe_callB (call_min2 rfl) (by rfl) B.min (by decide +kernel) (pa_cons (pe_callB call_len_seq (by rfl) B.len PySem.boot_len (pa_cons (pv 0) pa_nil)) (pa_cons pe_int pa_nil))) pa_nil))) (pa_cons pe_int pa_nil)))) (pg_name (i := 1) scLaw.nd rfl (.inl rfl))
        (pss_one (ps_if (pt_not (pt_val (pe_call GR hr (by rfl) DR.mg DR.fn.kp DR.bd .nil pass0 (pa_cons (pe_call GO hr (by rfl) DO.mg DO.fn.kp DO.bd .nil pass0 (pa_cons (pv 0) (pa_cons (pv 1) pa_nil))) (pa_cons (pe_call GO hr (by rfl) DO.mg DO.fn.kp DO.bd .nil pass0 (pa_cons (pv 0) (pa_cons (pe_op op_add (pv 1) pe_int) pa_nil))) pa_nil))))) (pss_one (ps_ret pe_bl)) pss_nil)))
      (pss_one (ps_ret pe_bl)), ?_⟩
    refine ⟨_, rfl, a, _, rfl, .inl hs, _, _, rfl, 1, _, rfl, 0, _, 2, _, rfl, (rg2 ?_ ?_).1, for_rangeC (lo := 0) (c := 2) (n := _) (fun i σ H' => (∃ y1 : Option V, σ = [some (.ref a), y1]) ∧ Same H H') ⟨⟨none, rfl⟩, Same.refl H⟩ ?_ ?_⟩
    · split <;> (try split) <;> omega
    · rw [List.length_map]
      split <;> (try split) <;> omega
    rotate_left
    · rintro σ H1 ⟨⟨y1, rfl⟩, s1⟩
      exact q H1
    · rintro i σ H1 hi ⟨⟨y1, rfl⟩, s1⟩
      have i5 : i < 5 := by
        refine Nat.lt_of_lt_of_le hi (rg2 ?_ ?_).2
        · split <;> (try split) <;> omega
        · rw [List.length_map]
          split <;> (try split) <;> omega
      refine ⟨_, rfl, _, rfl, a, ns, _, rfl, s1.seq hs, by omega, by omega, fun H2 l0 s2 n0 pool0 => ?_⟩
      refine ⟨_, rfl, _, rfl, _, 1, rfl, rfl, a, ns, _, rfl, (s1.trans s2).seq hs, by omega, by omega, fun H3 l s3 nl pool => ?_⟩
      have ne : l0 ≠ l := pool0.ne nl
      refine ⟨l0, l, rfl, pool0.same s3, pool, ne, fun H4 b4 => ⟨true, rfl, iteF ⟨⟨_, rfl⟩, s1.trans fun c x e => ?_⟩⟩⟩
      have e2 := s2 c x e
      exact b4 c x (by simp [ne_of_none e n0, ne_of_none e2 nl]) (s3 c x e2)
end
end WdQ

set_option Elab.async false
set_option linter.all false
set_option maxRecDepth 100000
set_option maxHeartbeats 4000000
namespace WdQ
open PySem PySem.Spec PyProof.Rows L2 WdM Wd
theorem factsN {P : Program} {w : World} {K : PySem.W.Frag} {h : Heap} {mg : Str → Option Value} {f : Addr} (X : K.In h) (G : h.Ns mainGlobals mg) (hfa : mg "law" = some (.ref f)) (c : SaysW asksN defsN K) :
    ∃ fd : FuncData, (∀ (s : Shared) (v : Value), BindsTo s fd ⟨[v], []⟩ [("_law_script", v)]) ∧ ∀ base : Heap, K.In base → base.Ns mainGlobals mg → FnOk P w K mg base CX0 18 f fd ["_law_script"] (spLaw K) := by
  have a1 : PySem.W.nsIn K mainGlobals "is_name" = some (some (.ref (He.ga K "is_name"))) := of_decide_eq_true (c.ask 0 rfl)
  obtain ⟨fd1, FF1⟩ := c.def_ 0 rfl
  have F1 : L2.Fun K "is_name" "is_name" sName (He.ga K "is_name") fd1 := fun_of FF1
  have D1 : Df K mg "is_name" sName (He.ga K "is_name") fd1 ["thing"] := ⟨F1, PySem.W.mg_of X G a1, F1.binds (ps := ["thing"]) fun _ _ _ _ _ _ us hl => match us, hl with | [_], _ => rfl⟩
  have a2 : PySem.W.nsIn K mainGlobals "is_word" = some (some (.ref (He.ga K "is_word"))) := of_decide_eq_true (c.ask 1 rfl)
  obtain ⟨fd2, FF2⟩ := c.def_ 1 rfl
  have F2 : L2.Fun K "is_word" "is_word" sWord (He.ga K "is_word") fd2 := fun_of FF2
  have D2 : Df K mg "is_word" sWord (He.ga K "is_word") fd2 ["thing", "words"] := ⟨F2, PySem.W.mg_of X G a2, F2.binds (ps := ["thing", "words"]) fun _ _ _ _ _ _ us hl => match us, hl with | [_, _], _ => rfl⟩
  have a3 : PySem.W.nsIn K mainGlobals "is_whole" = some (some (.ref (He.ga K "is_whole"))) := of_decide_eq_true (c.ask 2 rfl)
  obtain ⟨fd3, FF3⟩ := c.def_ 2 rfl
  have F3 : L2.Fun K "is_whole" "is_whole" sWhole (He.ga K "is_whole") fd3 := fun_of FF3
  have D3 : Df K mg "is_whole" sWhole (He.ga K "is_whole") fd3 ["thing"] := ⟨F3, PySem.W.mg_of X G a3, F3.binds (ps := ["thing"]) fun _ _ _ _ _ _ us hl => match us, hl with | [_], _ => rfl⟩
  have a4 : PySem.W.nsIn K mainGlobals "is_sum" = some (some (.ref (He.ga K "is_sum"))) := of_decide_eq_true (c.ask 3 rfl)
  obtain ⟨fd4, FF4⟩ := c.def_ 3 rfl
  have F4 : L2.Fun K "is_sum" "is_sum" sSum (He.ga K "is_sum") fd4 := fun_of FF4
  have D4 : Df K mg "is_sum" sSum (He.ga K "is_sum") fd4 ["thing"] := ⟨F4, PySem.W.mg_of X G a4, F4.binds (ps := ["thing"]) fun _ _ _ _ _ _ us hl => match us, hl with | [_], _ => rfl⟩
  have a5 : PySem.W.nsIn K mainGlobals "is_day" = some (some (.ref (He.ga K "is_day"))) := of_decide_eq_true (c.ask 4 rfl)
  obtain ⟨fd5, FF5⟩ := c.def_ 4 rfl
  have F5 : L2.Fun K "is_day" "is_day" sDay (He.ga K "is_day") fd5 := fun_of FF5
  have D5 : Df K mg "is_day" sDay (He.ga K "is_day") fd5 ["thing"] := ⟨F5, PySem.W.mg_of X G a5, F5.binds (ps := ["thing"]) fun _ _ _ _ _ _ us hl => match us, hl with | [_], _ => rfl⟩
  have a6 : PySem.W.nsIn K mainGlobals "is_person" = some (some (.ref (He.ga K "is_person"))) := of_decide_eq_true (c.ask 5 rfl)
  obtain ⟨fd6, FF6⟩ := c.def_ 5 rfl
  have F6 : L2.Fun K "is_person" "is_person" sPerson (He.ga K "is_person") fd6 := fun_of FF6
  have D6 : Df K mg "is_person" sPerson (He.ga K "is_person") fd6 ["thing", "ahead"] := ⟨F6, PySem.W.mg_of X G a6, F6.binds (ps := ["thing", "ahead"]) fun _ _ _ _ _ _ us hl => match us, hl with | [_, _], _ => rfl⟩
  have a7 : PySem.W.nsIn K mainGlobals "check_people" = some (some (.ref (He.ga K "check_people"))) := of_decide_eq_true (c.ask 6 rfl)
  obtain ⟨fd7, FF7⟩ := c.def_ 6 rfl
  have F7 : L2.Fun K "check_people" "check_people" sChkP (He.ga K "check_people") fd7 := fun_of FF7
  have D7 : Df K mg "check_people" sChkP (He.ga K "check_people") fd7 ["people"] := ⟨F7, PySem.W.mg_of X G a7, F7.binds (ps := ["people"]) fun _ _ _ _ _ _ us hl => match us, hl with | [_], _ => rfl⟩
  have a8 : PySem.W.nsIn K mainGlobals "is_good" = some (some (.ref (He.ga K "is_good"))) := of_decide_eq_true (c.ask 7 rfl)
  obtain ⟨fd8, FF8⟩ := c.def_ 7 rfl
  have F8 : L2.Fun K "is_good" "is_good" sGood (He.ga K "is_good") fd8 := fun_of FF8
  have D8 : Df K mg "is_good" sGood (He.ga K "is_good") fd8 ["thing", "ahead"] := ⟨F8, PySem.W.mg_of X G a8, F8.binds (ps := ["thing", "ahead"]) fun _ _ _ _ _ _ us hl => match us, hl with | [_, _], _ => rfl⟩
  have a9 : PySem.W.nsIn K mainGlobals "check_goods" = some (some (.ref (He.ga K "check_goods"))) := of_decide_eq_true (c.ask 8 rfl)
  obtain ⟨fd9, FF9⟩ := c.def_ 8 rfl
  have F9 : L2.Fun K "check_goods" "check_goods" sChkG (He.ga K "check_goods") fd9 := fun_of FF9
  have D9 : Df K mg "check_goods" sChkG (He.ga K "check_goods") fd9 ["goods"] := ⟨F9, PySem.W.mg_of X G a9, F9.binds (ps := ["goods"]) fun _ _ _ _ _ _ us hl => match us, hl with | [_], _ => rfl⟩
  have a10 : PySem.W.nsIn K mainGlobals "is_death" = some (some (.ref (He.ga K "is_death"))) := of_decide_eq_true (c.ask 9 rfl)
  obtain ⟨fd10, FF10⟩ := c.def_ 9 rfl
  have F10 : L2.Fun K "is_death" "is_death" sDeath (He.ga K "is_death") fd10 := fun_of FF10
  have D10 : Df K mg "is_death" sDeath (He.ga K "is_death") fd10 ["thing", "ahead"] := ⟨F10, PySem.W.mg_of X G a10, F10.binds (ps := ["thing", "ahead"]) fun _ _ _ _ _ _ us hl => match us, hl with | [_, _], _ => rfl⟩
  have a11 : PySem.W.nsIn K mainGlobals "check_deaths" = some (some (.ref (He.ga K "check_deaths"))) := of_decide_eq_true (c.ask 10 rfl)
  obtain ⟨fd11, FF11⟩ := c.def_ 10 rfl
  have F11 : L2.Fun K "check_deaths" "check_deaths" sChkD (He.ga K "check_deaths") fd11 := fun_of FF11
  have D11 : Df K mg "check_deaths" sChkD (He.ga K "check_deaths") fd11 ["deaths"] := ⟨F11, PySem.W.mg_of X G a11, F11.binds (ps := ["deaths"]) fun _ _ _ _ _ _ us hl => match us, hl with | [_], _ => rfl⟩
  have a12 : PySem.W.nsIn K mainGlobals "row_named" = some (some (.ref (He.ga K "row_named"))) := of_decide_eq_true (c.ask 11 rfl)
  obtain ⟨fd12, FF12⟩ := c.def_ 11 rfl
  have F12 : L2.Fun K "row_named" "row_named" sRow (He.ga K "row_named") fd12 := fun_of FF12
  have D12 : Df K mg "row_named" sRow (He.ga K "row_named") fd12 ["rows", "name"] := ⟨F12, PySem.W.mg_of X G a12, F12.binds (ps := ["rows", "name"]) fun _ _ _ _ _ _ us hl => match us, hl with | [_, _], _ => rfl⟩
  have a13 : PySem.W.nsIn K mainGlobals "check_persons" = some (some (.ref (He.ga K "check_persons"))) := of_decide_eq_true (c.ask 12 rfl)
  obtain ⟨fd13, FF13⟩ := c.def_ 12 rfl
  have F13 : L2.Fun K "check_persons" "check_persons" sCkP (He.ga K "check_persons") fd13 := fun_of FF13
  have D13 : Df K mg "check_persons" sCkP (He.ga K "check_persons") fd13 ["house", "names"] := ⟨F13, PySem.W.mg_of X G a13, F13.binds (ps := ["house", "names"]) fun _ _ _ _ _ _ us hl => match us, hl with | [_, _], _ => rfl⟩
  have a14 : PySem.W.nsIn K mainGlobals "is_part" = some (some (.ref (He.ga K "is_part"))) := of_decide_eq_true (c.ask 13 rfl)
  obtain ⟨fd14, FF14⟩ := c.def_ 13 rfl
  have F14 : L2.Fun K "is_part" "is_part" sPart (He.ga K "is_part") fd14 := fun_of FF14
  have D14 : Df K mg "is_part" sPart (He.ga K "is_part") fd14 ["thing"] := ⟨F14, PySem.W.mg_of X G a14, F14.binds (ps := ["thing"]) fun _ _ _ _ _ _ us hl => match us, hl with | [_], _ => rfl⟩
  have a15 : PySem.W.nsIn K mainGlobals "is_alternative" = some (some (.ref (He.ga K "is_alternative"))) := of_decide_eq_true (c.ask 14 rfl)
  obtain ⟨fd15, FF15⟩ := c.def_ 14 rfl
  have F15 : L2.Fun K "is_alternative" "is_alternative" sAlt (He.ga K "is_alternative") fd15 := fun_of FF15
  have D15 : Df K mg "is_alternative" sAlt (He.ga K "is_alternative") fd15 ["thing"] := ⟨F15, PySem.W.mg_of X G a15, F15.binds (ps := ["thing"]) fun _ _ _ _ _ _ us hl => match us, hl with | [_], _ => rfl⟩
  have a16 : PySem.W.nsIn K mainGlobals "is_whom" = some (some (.ref (He.ga K "is_whom"))) := of_decide_eq_true (c.ask 15 rfl)
  obtain ⟨fd16, FF16⟩ := c.def_ 15 rfl
  have F16 : L2.Fun K "is_whom" "is_whom" sWhom (He.ga K "is_whom") fd16 := fun_of FF16
  have D16 : Df K mg "is_whom" sWhom (He.ga K "is_whom") fd16 ["thing"] := ⟨F16, PySem.W.mg_of X G a16, F16.binds (ps := ["thing"]) fun _ _ _ _ _ _ us hl => match us, hl with | [_], _ => rfl⟩
  have a17 : PySem.W.nsIn K mainGlobals "whom_names" = some (some (.ref (He.ga K "whom_names"))) := of_decide_eq_true (c.ask 16 rfl)
  obtain ⟨fd17, FF17⟩ := c.def_ 16 rfl
  have F17 : L2.Fun K "whom_names" "whom_names" sWn (He.ga K "whom_names") fd17 := fun_of FF17
  have D17 : Df K mg "whom_names" sWn (He.ga K "whom_names") fd17 ["whom"] := ⟨F17, PySem.W.mg_of X G a17, F17.binds (ps := ["whom"]) fun _ _ _ _ _ _ us hl => match us, hl with | [_], _ => rfl⟩
  have a18 : PySem.W.nsIn K mainGlobals "parted_equally" = some (some (.ref (He.ga K "parted_equally"))) := of_decide_eq_true (c.ask 17 rfl)
  obtain ⟨fd18, FF18⟩ := c.def_ 17 rfl
  have F18 : L2.Fun K "parted_equally" "parted_equally" sPE (He.ga K "parted_equally") fd18 := fun_of FF18
  have D18 : Df K mg "parted_equally" sPE (He.ga K "parted_equally") fd18 ["groups"] := ⟨F18, PySem.W.mg_of X G a18, F18.binds (ps := ["groups"]) fun _ _ _ _ _ _ us hl => match us, hl with | [_], _ => rfl⟩
  have a19 : PySem.W.nsIn K mainGlobals "stock_takers" = some (some (.ref (He.ga K "stock_takers"))) := of_decide_eq_true (c.ask 18 rfl)
  obtain ⟨fd19, FF19⟩ := c.def_ 18 rfl
  have F19 : L2.Fun K "stock_takers" "stock_takers" sStk (He.ga K "stock_takers") fd19 := fun_of FF19
  have D19 : Df K mg "stock_takers" sStk (He.ga K "stock_takers") fd19 ["house", "name", "story", "wait"] := ⟨F19, PySem.W.mg_of X G a19, F19.binds (ps := ["house", "name", "story", "wait"]) fun _ _ _ _ _ _ us hl => match us, hl with | [_, _, _, _], _ => rfl⟩
  have a20 : PySem.W.nsIn K mainGlobals "part_takers" = some (some (.ref (He.ga K "part_takers"))) := of_decide_eq_true (c.ask 19 rfl)
  obtain ⟨fd20, FF20⟩ := c.def_ 19 rfl
  have F20 : L2.Fun K "part_takers" "part_takers" sPt (He.ga K "part_takers") fd20 := fun_of FF20
  have D20 : Df K mg "part_takers" sPt (He.ga K "part_takers") fd20 ["house", "part", "story", "wait"] := ⟨F20, PySem.W.mg_of X G a20, F20.binds (ps := ["house", "part", "story", "wait"]) fun _ _ _ _ _ _ us hl => match us, hl with | [_, _, _, _], _ => rfl⟩
  have a21 : PySem.W.nsIn K mainGlobals "common_measure" = some (some (.ref (He.ga K "common_measure"))) := of_decide_eq_true (c.ask 20 rfl)
  obtain ⟨fd21, FF21⟩ := c.def_ 20 rfl
  have F21 : L2.Fun K "common_measure" "common_measure" sCm (He.ga K "common_measure") fd21 := fun_of FF21
  have D21 : Df K mg "common_measure" sCm (He.ga K "common_measure") fd21 ["one", "other"] := ⟨F21, PySem.W.mg_of X G a21, F21.binds (ps := ["one", "other"]) fun _ _ _ _ _ _ us hl => match us, hl with | [_, _], _ => rfl⟩
  have a22 : PySem.W.nsIn K mainGlobals "plus_share" = some (some (.ref (He.ga K "plus_share"))) := of_decide_eq_true (c.ask 21 rfl)
  obtain ⟨fd22, FF22⟩ := c.def_ 21 rfl
  have F22 : L2.Fun K "plus_share" "plus_share" sPls (He.ga K "plus_share") fd22 := fun_of FF22
  have D22 : Df K mg "plus_share" sPls (He.ga K "plus_share") fd22 ["share", "bottom"] := ⟨F22, PySem.W.mg_of X G a22, F22.binds (ps := ["share", "bottom"]) fun _ _ _ _ _ _ us hl => match us, hl with | [_, _], _ => rfl⟩
  have a23 : PySem.W.nsIn K mainGlobals "summed" = some (some (.ref (He.ga K "summed"))) := of_decide_eq_true (c.ask 22 rfl)
  obtain ⟨fd23, FF23⟩ := c.def_ 22 rfl
  have F23 : L2.Fun K "summed" "summed" sSmd (He.ga K "summed") fd23 := fun_of FF23
  have D23 : Df K mg "summed" sSmd (He.ga K "summed") fd23 ["rows"] := ⟨F23, PySem.W.mg_of X G a23, F23.binds (ps := ["rows"]) fun _ _ _ _ _ _ us hl => match us, hl with | [_], _ => rfl⟩
  have a24 : PySem.W.nsIn K mainGlobals "_law_pool" = some (some (.ref (He.ga K "_law_pool"))) := of_decide_eq_true (c.ask 23 rfl)
  obtain ⟨fd24, FF24⟩ := c.def_ 23 rfl
  have F24 : L2.Fun K "_law_pool" "_law_pool" sPool (He.ga K "_law_pool") fd24 := fun_of FF24
  have D24 : Df K mg "_law_pool" sPool (He.ga K "_law_pool") fd24 ["_law_script", "_law_k"] := ⟨F24, PySem.W.mg_of X G a24, F24.binds (ps := ["_law_script", "_law_k"]) fun _ _ _ _ _ _ us hl => match us, hl with | [_, _], _ => rfl⟩
  have a25 : PySem.W.nsIn K mainGlobals "_law_take" = some (some (.ref (He.ga K "_law_take"))) := of_decide_eq_true (c.ask 24 rfl)
  obtain ⟨fd25, FF25⟩ := c.def_ 24 rfl
  have F25 : L2.Fun K "_law_take" "_law_take" sTake (He.ga K "_law_take") fd25 := fun_of FF25
  have D25 : Df K mg "_law_take" sTake (He.ga K "_law_take") fd25 ["_law_pool_here", "_law_many"] := ⟨F25, PySem.W.mg_of X G a25, F25.binds (ps := ["_law_pool_here", "_law_many"]) fun _ _ _ _ _ _ us hl => match us, hl with | [_, _], _ => rfl⟩
  have a26 : PySem.W.nsIn K mainGlobals "_law_words" = some (some (.ref (He.ga K "_law_words"))) := of_decide_eq_true (c.ask 25 rfl)
  obtain ⟨fd26, FF26⟩ := c.def_ 25 rfl
  have F26 : L2.Fun K "_law_words" "_law_words" sWords (He.ga K "_law_words") fd26 := fun_of FF26
  have D26 : Df K mg "_law_words" sWords (He.ga K "_law_words") fd26 ["_law_pool_here", "_law_many"] := ⟨F26, PySem.W.mg_of X G a26, F26.binds (ps := ["_law_pool_here", "_law_many"]) fun _ _ _ _ _ _ us hl => match us, hl with | [_, _], _ => rfl⟩
  have a27 : PySem.W.nsIn K mainGlobals "_law_home" = some (some (.ref (He.ga K "_law_home"))) := of_decide_eq_true (c.ask 26 rfl)
  obtain ⟨fd27, FF27⟩ := c.def_ 26 rfl
  have F27 : L2.Fun K "_law_home" "_law_home" sHome (He.ga K "_law_home") fd27 := fun_of FF27
  have D27 : Df K mg "_law_home" sHome (He.ga K "_law_home") fd27 ["_law_pool_here", "_law_most"] := ⟨F27, PySem.W.mg_of X G a27, F27.binds (ps := ["_law_pool_here", "_law_most"]) fun _ _ _ _ _ _ us hl => match us, hl with | [_, _], _ => rfl⟩
  have a28 : PySem.W.nsIn K mainGlobals "_law_whom" = some (some (.ref (He.ga K "_law_whom"))) := of_decide_eq_true (c.ask 27 rfl)
  obtain ⟨fd28, FF28⟩ := c.def_ 27 rfl
  have F28 : L2.Fun K "_law_whom" "_law_whom" sWhm (He.ga K "_law_whom") fd28 := fun_of FF28
  have D28 : Df K mg "_law_whom" sWhm (He.ga K "_law_whom") fd28 ["_law_pool_here", "_law_folk"] := ⟨F28, PySem.W.mg_of X G a28, F28.binds (ps := ["_law_pool_here", "_law_folk"]) fun _ _ _ _ _ _ us hl => match us, hl with | [_, _], _ => rfl⟩
  have a29 : PySem.W.nsIn K mainGlobals "_law_deaths" = some (some (.ref (He.ga K "_law_deaths"))) := of_decide_eq_true (c.ask 28 rfl)
  obtain ⟨fd29, FF29⟩ := c.def_ 28 rfl
  have F29 : L2.Fun K "_law_deaths" "_law_deaths" sDeaths (He.ga K "_law_deaths") fd29 := fun_of FF29
  have D29 : Df K mg "_law_deaths" sDeaths (He.ga K "_law_deaths") fd29 ["_law_pool_here", "_law_folk", "_law_dates_here"] := ⟨F29, PySem.W.mg_of X G a29, F29.binds (ps := ["_law_pool_here", "_law_folk", "_law_dates_here"]) fun _ _ _ _ _ _ us hl => match us, hl with | [_, _, _], _ => rfl⟩
  have a30 : PySem.W.nsIn K mainGlobals "_law_dates" = some (some (.ref (He.ga K "_law_dates"))) := of_decide_eq_true (c.ask 29 rfl)
  obtain ⟨fd30, FF30⟩ := c.def_ 29 rfl
  have F30 : L2.Fun K "_law_dates" "_law_dates" sDates (He.ga K "_law_dates") fd30 := fun_of FF30
  have D30 : Df K mg "_law_dates" sDates (He.ga K "_law_dates") fd30 ["_law_pool_here"] := ⟨F30, PySem.W.mg_of X G a30, F30.binds (ps := ["_law_pool_here"]) fun _ _ _ _ _ _ us hl => match us, hl with | [_], _ => rfl⟩
  have a31 : PySem.W.nsIn K mainGlobals "_law_low" = some (some (.ref (He.ga K "_law_low"))) := of_decide_eq_true (c.ask 30 rfl)
  obtain ⟨fd31, FF31⟩ := c.def_ 30 rfl
  have F31 : L2.Fun K "_law_low" "_law_low" sLow (He.ga K "_law_low") fd31 := fun_of FF31
  have D31 : Df K mg "_law_low" sLow (He.ga K "_law_low") fd31 ["_law_top", "_law_bottom"] := ⟨F31, PySem.W.mg_of X G a31, F31.binds (ps := ["_law_top", "_law_bottom"]) fun _ _ _ _ _ _ us hl => match us, hl with | [_, _], _ => rfl⟩
  have a32 : PySem.W.nsIn K mainGlobals "_law_whole" = some (some (.ref (He.ga K "_law_whole"))) := of_decide_eq_true (c.ask 31 rfl)
  obtain ⟨fd32, FF32⟩ := c.def_ 31 rfl
  have F32 : L2.Fun K "_law_whole" "_law_whole" sWhl (He.ga K "_law_whole") fd32 := fun_of FF32
  have D32 : Df K mg "_law_whole" sWhl (He.ga K "_law_whole") fd32 ["_law_found"] := ⟨F32, PySem.W.mg_of X G a32, F32.binds (ps := ["_law_found"]) fun _ _ _ _ _ _ us hl => match us, hl with | [_], _ => rfl⟩
  have a33 : PySem.W.nsIn K mainGlobals "_law_shares_right" = some (some (.ref (He.ga K "_law_shares_right"))) := of_decide_eq_true (c.ask 32 rfl)
  obtain ⟨fd33, FF33⟩ := c.def_ 32 rfl
  have F33 : L2.Fun K "_law_shares_right" "_law_shares_right" sShr (He.ga K "_law_shares_right") fd33 := fun_of FF33
  have D33 : Df K mg "_law_shares_right" sShr (He.ga K "_law_shares_right") fd33 ["_law_estate", "_law_found", "_law_tale", "_law_day"] := ⟨F33, PySem.W.mg_of X G a33, F33.binds (ps := ["_law_estate", "_law_found", "_law_tale", "_law_day"]) fun _ _ _ _ _ _ us hl => match us, hl with | [_, _, _, _], _ => rfl⟩
  have a34 : PySem.W.nsIn K mainGlobals "_law_nobody" = some (some (.ref (He.ga K "_law_nobody"))) := of_decide_eq_true (c.ask 33 rfl)
  obtain ⟨fd34, FF34⟩ := c.def_ 33 rfl
  have F34 : L2.Fun K "_law_nobody" "_law_nobody" sNob (He.ga K "_law_nobody") fd34 := fun_of FF34
  have D34 : Df K mg "_law_nobody" sNob (He.ga K "_law_nobody") fd34 ["_law_estate", "_law_folk", "_law_tale", "_law_day"] := ⟨F34, PySem.W.mg_of X G a34, F34.binds (ps := ["_law_estate", "_law_folk", "_law_tale", "_law_day"]) fun _ _ _ _ _ _ us hl => match us, hl with | [_, _, _, _], _ => rfl⟩
  have a35 : PySem.W.nsIn K mainGlobals "_law_put_in_right" = some (some (.ref (He.ga K "_law_put_in_right"))) := of_decide_eq_true (c.ask 34 rfl)
  obtain ⟨fd35, FF35⟩ := c.def_ 34 rfl
  have F35 : L2.Fun K "_law_put_in_right" "_law_put_in_right" sPi (He.ga K "_law_put_in_right") fd35 := fun_of FF35
  have D35 : Df K mg "_law_put_in_right" sPi (He.ga K "_law_put_in_right") fd35 ["_law_pool_here", "_law_estate", "_law_whom_here", "_law_tale", "_law_day", "_law_folk"] := ⟨F35, PySem.W.mg_of X G a35, F35.binds (ps := ["_law_pool_here", "_law_estate", "_law_whom_here", "_law_tale", "_law_day", "_law_folk"]) fun _ _ _ _ _ _ us hl => match us, hl with | [_, _, _, _, _, _], _ => rfl⟩
  have a36 : PySem.W.nsIn K mainGlobals "_law_parts_right" = some (some (.ref (He.ga K "_law_parts_right"))) := of_decide_eq_true (c.ask 35 rfl)
  obtain ⟨fd36, FF36⟩ := c.def_ 35 rfl
  have F36 : L2.Fun K "_law_parts_right" "_law_parts_right" sPr (He.ga K "_law_parts_right") fd36 := fun_of FF36
  have D36 : Df K mg "_law_parts_right" sPr (He.ga K "_law_parts_right") fd36 ["_law_estate", "_law_whom_here", "_law_tale", "_law_day"] := ⟨F36, PySem.W.mg_of X G a36, F36.binds (ps := ["_law_estate", "_law_whom_here", "_law_tale", "_law_day"]) fun _ _ _ _ _ _ us hl => match us, hl with | [_, _, _, _], _ => rfl⟩
  have a37 : PySem.W.nsIn K mainGlobals "_law_kin_right" = some (some (.ref (He.ga K "_law_kin_right"))) := of_decide_eq_true (c.ask 36 rfl)
  obtain ⟨fd37, FF37⟩ := c.def_ 36 rfl
  have F37 : L2.Fun K "_law_kin_right" "_law_kin_right" sKn (He.ga K "_law_kin_right") fd37 := fun_of FF37
  have D37 : Df K mg "_law_kin_right" sKn (He.ga K "_law_kin_right") fd37 ["_law_estate", "_law_tale", "_law_day"] := ⟨F37, PySem.W.mg_of X G a37, F37.binds (ps := ["_law_estate", "_law_tale", "_law_day"]) fun _ _ _ _ _ _ us hl => match us, hl with | [_, _, _], _ => rfl⟩
  have a38 : PySem.W.nsIn K mainGlobals "_law_right" = some (some (.ref (He.ga K "_law_right"))) := of_decide_eq_true (c.ask 37 rfl)
  obtain ⟨fd38, FF38⟩ := c.def_ 37 rfl
  have F38 : L2.Fun K "_law_right" "_law_right" sR18 (He.ga K "_law_right") fd38 := fun_of FF38
  have D38 : Df K mg "_law_right" sR18 (He.ga K "_law_right") fd38 ["_law_pool_here", "_law_more"] := ⟨F38, PySem.W.mg_of X G a38, F38.binds (ps := ["_law_pool_here", "_law_more"]) fun _ _ _ _ _ _ us hl => match us, hl with | [_, _], _ => rfl⟩
  have a39 : PySem.W.nsIn K mainGlobals "law" = some (some (.ref (He.ga K "law"))) := of_decide_eq_true (c.ask 38 rfl)
  obtain ⟨fd39, FF39⟩ := c.def_ 38 rfl
  have F39 : L2.Fun K "law" "law" sLaw (He.ga K "law") fd39 := fun_of FF39
  have D39 : Df K mg "law" sLaw (He.ga K "law") fd39 ["_law_script"] := ⟨F39, PySem.W.mg_of X G a39, F39.binds (ps := ["_law_script"]) fun _ _ _ _ _ _ us hl => match us, hl with | [_], _ => rfl⟩
  have z_isinstance : PySem.W.nsIn K mainGlobals "isinstance" = some none := of_decide_eq_true (c.ask 39 rfl)
  have z_int : PySem.W.nsIn K mainGlobals "int" = some none := of_decide_eq_true (c.ask 40 rfl)
  have z_bool : PySem.W.nsIn K mainGlobals "bool" = some none := of_decide_eq_true (c.ask 41 rfl)
  have z_str : PySem.W.nsIn K mainGlobals "str" = some none := of_decide_eq_true (c.ask 42 rfl)
  have z_tuple : PySem.W.nsIn K mainGlobals "tuple" = some none := of_decide_eq_true (c.ask 43 rfl)
  have z_list : PySem.W.nsIn K mainGlobals "list" = some none := of_decide_eq_true (c.ask 44 rfl)
  have z_len : PySem.W.nsIn K mainGlobals "len" = some none := of_decide_eq_true (c.ask 45 rfl)
  have z_abs : PySem.W.nsIn K mainGlobals "abs" = some none := of_decide_eq_true (c.ask 46 rfl)
  have z_all : PySem.W.nsIn K mainGlobals "all" = some none := of_decide_eq_true (c.ask 47 rfl)
  have z_any : PySem.W.nsIn K mainGlobals "any" = some none := of_decide_eq_true (c.ask 48 rfl)
  have z_sum : PySem.W.nsIn K mainGlobals "sum" = some none := of_decide_eq_true (c.ask 49 rfl)
  have z_enumerate : PySem.W.nsIn K mainGlobals "enumerate" = some none := of_decide_eq_true (c.ask 50 rfl)
  have z_divmod : PySem.W.nsIn K mainGlobals "divmod" = some none := of_decide_eq_true (c.ask 51 rfl)
  have z_range : PySem.W.nsIn K mainGlobals "range" = some none := of_decide_eq_true (c.ask 52 rfl)
  have z_max : PySem.W.nsIn K mainGlobals "max" = some none := of_decide_eq_true (c.ask 53 rfl)
  have z_min : PySem.W.nsIn K mainGlobals "min" = some none := of_decide_eq_true (c.ask 54 rfl)
  have z_zip : PySem.W.nsIn K mainGlobals "zip" = some none := of_decide_eq_true (c.ask 55 rfl)
  have z_repr : PySem.W.nsIn K mainGlobals "repr" = some none := of_decide_eq_true (c.ask 56 rfl)
  have z_sorted : PySem.W.nsIn K mainGlobals "sorted" = some none := of_decide_eq_true (c.ask 57 rfl)
  have z_dict : PySem.W.nsIn K mainGlobals "dict" = some none := of_decide_eq_true (c.ask 58 rfl)
  have z_set : PySem.W.nsIn K mainGlobals "set" = some none := of_decide_eq_true (c.ask 59 rfl)
  have B : Bi mg := ⟨PySem.W.mg_none_of X G z_isinstance, PySem.W.mg_none_of X G z_int, PySem.W.mg_none_of X G z_bool, PySem.W.mg_none_of X G z_str, PySem.W.mg_none_of X G z_tuple, PySem.W.mg_none_of X G z_list, PySem.W.mg_none_of X G z_len, PySem.W.mg_none_of X G z_abs, PySem.W.mg_none_of X G z_all, PySem.W.mg_none_of X G z_any, PySem.W.mg_none_of X G z_sum, PySem.W.mg_none_of X G z_enumerate, PySem.W.mg_none_of X G z_divmod, PySem.W.mg_none_of X G z_range, PySem.W.mg_none_of X G z_max, PySem.W.mg_none_of X G z_min, PySem.W.mg_none_of X G z_zip, PySem.W.mg_none_of X G z_repr⟩
  have gW : PySem.W.nsIn K mainGlobals "WORDS" = some (some (.ref (He.ga K "WORDS"))) := of_decide_eq_true (c.ask 60 rfl)
  have TN : NmF K mg (He.ga K "WORDS") := ⟨He.str_ok X G (c.ask 61 (f := fun K => (He.Fa.str "LETTERS" "abcdefghijklmnopqrstuvwxyz").ok K) rfl), He.int_ok X G (c.ask 62 (f := fun K => (He.Fa.int "LONGEST" 8).ok K) rfl), PySem.W.mg_of X G gW, fun H => He.tupB_ok (c.ask 63 (f := fun K => He.tupB K "WORDS" [.str "all", .str "and", .str "children", .str "childless", .str "crown", .str "else", .str "if", .str "lives", .str "not", .str "of", .str "or", .str "stock", .str "to"]) rfl) H⟩
  have gP : PySem.W.nsIn K mainGlobals "PART_WORDS" = some (some (.ref (He.ga K "PART_WORDS"))) := of_decide_eq_true (c.ask 64 rfl)
  obtain ⟨t_MOST_PARTS, g_MOST_PARTS⟩ := He.int_ok X G (c.ask 66 (f := fun K => (He.Fa.int "MOST_PARTS" 6).ok K) rfl)
  obtain ⟨t_MOST_ALTERNATIVES, g_MOST_ALTERNATIVES⟩ := He.int_ok X G (c.ask 67 (f := fun K => (He.Fa.int "MOST_ALTERNATIVES" 4).ok K) rfl)
  obtain ⟨t_LAST_DAY, g_LAST_DAY⟩ := He.int_ok X G (c.ask 68 (f := fun K => (He.Fa.int "LAST_DAY" 9999).ok K) rfl)
  obtain ⟨t_MOST_SUM, g_MOST_SUM⟩ := He.int_ok X G (c.ask 69 (f := fun K => (He.Fa.int "MOST_SUM" 1000000000).ok K) rfl)
  obtain ⟨t_MOST_PEOPLE, g_MOST_PEOPLE⟩ := He.int_ok X G (c.ask 70 (f := fun K => (He.Fa.int "MOST_PEOPLE" 8).ok K) rfl)
  obtain ⟨t_MOST_GOODS, g_MOST_GOODS⟩ := He.int_ok X G (c.ask 71 (f := fun K => (He.Fa.int "MOST_GOODS" 8).ok K) rfl)
  obtain ⟨t_MOST_DEATHS, g_MOST_DEATHS⟩ := He.int_ok X G (c.ask 72 (f := fun K => (He.Fa.int "MOST_DEATHS" 8).ok K) rfl)
  have TW : WhF K mg (He.ga K "PART_WORDS") := ⟨PySem.W.mg_of X G gP, fun H => He.tupB_ok (c.ask 65 (f := fun K => He.tupB K "PART_WORDS" [.str "one", .str "children", .str "stock"]) rfl) H, ⟨_, g_MOST_PARTS⟩, ⟨_, g_MOST_ALTERNATIVES⟩⟩
  have gH : PySem.W.nsIn K mainGlobals "House" = some (some (.ref (He.ga K "House"))) := of_decide_eq_true (c.ask 73 rfl)
  obtain ⟨fdIH, FD0H⟩ := c.def_ 39 rfl
  have FDH : FunD K "__init__" "House.__init__" (defArgs sHI) (defBody sHI) (defScope sHI) [.non, .int 0, .int 0] [] (He.ma K (He.ga K "House") "__init__") fdIH := FD0H
  have MH : Mk K (He.ga K "House") (He.ma K (He.ga K "House") "__init__") := He.mkr_ok (c.ask 74 (f := fun K => (He.Fa.mkr "House").ok K) rfl)
  obtain ⟨dsH, vH, bH⟩ := FDH.binds1 (ps := ["self", "people", "goods", "purse", "debts"]) 2 0 (by simp) rfl fun _ _ _ _ _ _ _ us its hu hi => match us, hu, its, hi with | [_, _], _, [_, _, _], _ => ⟨_, rfl, rfl⟩
  obtain ⟨dsH5, vH5, bH5⟩ := FDH.binds1 (ps := ["self", "people", "goods", "purse", "debts"]) 5 3 (by simp) rfl fun _ _ _ _ _ _ _ us its hu hi => match us, hu, its, hi with | [_, _, _, _, _], _, [_, _, _], _ => ⟨_, rfl, rfl⟩
  have gY : PySem.W.nsIn K mainGlobals "Story" = some (some (.ref (He.ga K "Story"))) := of_decide_eq_true (c.ask 75 rfl)
  obtain ⟨fdIY, FD0Y⟩ := c.def_ 40 rfl
  have FDY : FunD K "__init__" "Story.__init__" (defArgs sSI) (defBody sSI) (defScope sSI) [.non] [] (He.ma K (He.ga K "Story") "__init__") fdIY := FD0Y
  have MY : Mk K (He.ga K "Story") (He.ma K (He.ga K "Story") "__init__") := He.mkr_ok (c.ask 76 (f := fun K => (He.Fa.mkr "Story").ok K) rfl)
  obtain ⟨dsY, vY, bY⟩ := FDY.binds1 (ps := ["self", "deaths"]) 2 1 (by simp) rfl fun _ _ _ _ _ _ _ us its hu hi => match us, hu, its, hi with | [_, _], _, [_], _ => ⟨_, rfl, rfl⟩
  obtain ⟨dsY1, vY1, bY1⟩ := FDY.binds1 (ps := ["self", "deaths"]) 1 0 (by simp) rfl fun _ _ _ _ _ _ _ us its hu hi => match us, hu, its, hi with | [_], _, [_], _ => ⟨_, rfl, rfl⟩
  have TH : HsF K (He.ga K "House") := ⟨He.cls_ok (c.ask 77 (f := fun K => (He.Fa.cls "House").ok K) rfl), He.noat_ok (c.ask 78 (f := fun K => (He.Fa.noat "House" "folk").ok K) rfl), He.noat_ok (c.ask 79 (f := fun K => (He.Fa.noat "House" "things").ok K) rfl), He.noat_ok (c.ask 80 (f := fun K => (He.Fa.noat "House" "purse").ok K) rfl), He.noat_ok (c.ask 81 (f := fun K => (He.Fa.noat "House" "debts").ok K) rfl)⟩
  have TY : SyF K (He.ga K "Story") := ⟨He.cls_ok (c.ask 82 (f := fun K => (He.Fa.cls "Story").ok K) rfl), He.noat_ok (c.ask 83 (f := fun K => (He.Fa.noat "Story" "deaths").ok K) rfl)⟩
  have gDM : PySem.W.nsIn K mainGlobals "takers" = some (some (.ref (He.ga K "takers"))) := of_decide_eq_true (c.ask 84 rfl)
  obtain ⟨fdDM, FD0M⟩ := c.def_ 41 rfl
  have FDM : FunD K "takers" "takers" (defArgs sTks) (defBody sTks) (defScope sTks) [.int 0] [] (He.ga K "takers") fdDM := FD0M
  obtain ⟨dsM, vM, bM⟩ := FDM.binds1 (ps := ["house", "whom", "story", "wait"]) 4 1 (by simp) rfl fun _ _ _ _ _ _ _ us its hu hi => match us, hu, its, hi with | [_, _, _, _], _, [_], _ => ⟨_, rfl, rfl⟩
  obtain ⟨dsM3, vM3, bM3⟩ := FDM.binds1 (ps := ["house", "whom", "story", "wait"]) 3 0 (by simp) rfl fun _ _ _ _ _ _ _ us its hu hi => match us, hu, its, hi with | [_, _, _], _, [_], _ => ⟨_, rfl, rfl⟩
  obtain ⟨fdMp, FM0p⟩ := c.def_ 42 rfl
  have MTp : Meth K (He.ga K "House") "people" (He.ma K (He.ga K "House") "people") := He.meth_ok (c.ask 85 (f := fun K => (He.Fa.meth "House" "people").ok K) rfl)
  have FMp : L2.Fun K "people" "House.people" sPeo (He.ma K (He.ga K "House") "people") fdMp := fun_of FM0p
  have bMp : Binds K fdMp ["self"] [] := FMp.binds (ps := ["self"]) fun _ _ _ _ _ _ us hl => match us, hl with | [_], _ => rfl
  obtain ⟨fdMq, FM0q⟩ := c.def_ 43 rfl
  have MTq : Meth K (He.ga K "House") "person" (He.ma K (He.ga K "House") "person") := He.meth_ok (c.ask 86 (f := fun K => (He.Fa.meth "House" "person").ok K) rfl)
  have FMq : L2.Fun K "person" "House.person" sPers (He.ma K (He.ga K "House") "person") fdMq := fun_of FM0q
  have bMq : Binds K fdMq ["self", "name"] [] := FMq.binds (ps := ["self", "name"]) fun _ _ _ _ _ _ us hl => match us, hl with | [_, _], _ => rfl
  obtain ⟨fdMc, FM0c⟩ := c.def_ 44 rfl
  have MTc : Meth K (He.ga K "House") "children" (He.ma K (He.ga K "House") "children") := He.meth_ok (c.ask 87 (f := fun K => (He.Fa.meth "House" "children").ok K) rfl)
  have FMc : L2.Fun K "children" "House.children" sChi (He.ma K (He.ga K "House") "children") fdMc := fun_of FM0c
  have bMc : Binds K fdMc ["self", "name"] [] := FMc.binds (ps := ["self", "name"]) fun _ _ _ _ _ _ us hl => match us, hl with | [_, _], _ => rfl
  obtain ⟨fdMd, FM0d⟩ := c.def_ 45 rfl
  have MTd : Meth K (He.ga K "Story") "died" (He.ma K (He.ga K "Story") "died") := He.meth_ok (c.ask 88 (f := fun K => (He.Fa.meth "Story" "died").ok K) rfl)
  have FMd : L2.Fun K "died" "Story.died" sDied (He.ma K (He.ga K "Story") "died") fdMd := fun_of FM0d
  have bMd : Binds K fdMd ["self", "name"] [] := FMd.binds (ps := ["self", "name"]) fun _ _ _ _ _ _ us hl => match us, hl with | [_, _], _ => rfl
  obtain ⟨fdMl, FM0l⟩ := c.def_ 46 rfl
  have MTl : Meth K (He.ga K "Story") "lives" (He.ma K (He.ga K "Story") "lives") := He.meth_ok (c.ask 89 (f := fun K => (He.Fa.meth "Story" "lives").ok K) rfl)
  have FDl : FunD K "lives" "Story.lives" (defArgs sLiv) (defBody sLiv) (defScope sLiv) [.int 0] [] (He.ma K (He.ga K "Story") "lives") fdMl := FM0l
  obtain ⟨dsl, vl, bl0⟩ := FDl.binds1 (ps := ["self", "name", "more"]) 3 1 (by simp) rfl fun _ _ _ _ _ _ _ us its hu hi => match us, hu, its, hi with | [_, _, _], _, [_], _ => ⟨_, rfl, rfl⟩
  have bLl : Binds K fdMl ["self", "name", "more"] [] := by
    have v : Vals [] dsl := vl
    cases v
    exact bl0
  have bM4 : Binds K fdDM ["house", "whom", "story", "wait"] [] := by
    have v : Vals [] dsM := vM
    cases v
    exact bM
  have bH50 : Binds K fdIH ["self", "people", "goods", "purse", "debts"] [] := by
    have v : Vals [] dsH5 := vH5
    cases v
    exact bH5
  have bY0 : Binds K fdIY ["self", "deaths"] [] := by
    have v : Vals [] dsY := vY
    cases v
    exact bY
  have k3 : KBn K fdDM ["house", "whom", "story", "wait"] 3 ["wait"] (fun us ws => us ++ ws) (fun vs zs => vs ++ zs) := kbn_of FDM 3 ["wait"] (fun us ws => us ++ ws) (fun vs zs => vs ++ zs) (by simp) (fun _ _ _ _ _ _ _ us its ws hu hi hw => match us, hu, its, hi, ws, hw with | [_, _, _], _, [_], _, [_], _ => ⟨_, rfl, rfl⟩) (fun r1 r2 => r1.append r2)
  have e := hfa.symm.trans (PySem.W.mg_of X G a39)
  cases e
  refine ⟨fd39, fun s v => FunD.bindsA (ps := ["_law_script"]) FF39 (fun _ _ _ _ _ _ us hl => match us, hl with | [_], _ => rfl) s [v] rfl, fun base _ _ => ?_⟩
  have GN : ∀ k, FnOk P w K mg base CX0 (k + 1) _ _ ["thing"] (spName K) := fun k => ok_name (k := k) B TN D1
  have GW : ∀ k, FnOk P w K mg base CX0 (k + 1) _ _ ["thing", "words"] (spWord K) := fun k => ok_word (k := k) B D2
  have GD : ∀ k, FnOk P w K mg base CX0 (k + 2) _ _ ["thing"] (spDay K) := fun k => ok_day (k := k) B (g_LAST_DAY) D5 D3
  have GPa : FnOk P w K mg base CX0 2 _ _ ["thing"] (spData K partB) := ok_part (k := 0) B TW D14 D2 D1 (GN 0)
  have GAl : FnOk P w K mg base CX0 3 _ _ ["thing"] (spData K altB) := ok_alt (k := 0) B TW D15 D14 GPa
  have GWh : FnOk P w K mg base CX0 4 _ _ ["thing"] (spData K whomB) := ok_whom (k := 0) B TW D16 D15 GAl
  have GPo : FnOk P w K mg base CX0 1 _ _ ["self"] (spPeo K (He.ga K "House")) := ok_peo (k := 0) B TH FMp
  have GCk : FnOk P w K mg base CX0 2 _ _ ["house", "names"] (spCk0 K (He.ga K "House")) := ok_ck0 (k := 0) TH D13 MTp bMp GPo
  have GRw : FnOk P w K mg base CX0 2 _ _ ["rows", "name"] (spRow K) := ok_row (k := 0) D12 D2 (GW 0)
  have GPr : FnOk P w K mg base CX0 3 _ _ ["self", "name"] (spPers K (He.ga K "House")) := ok_pers (k := 0) TH FMq D12 GRw
  have GKi : FnOk P w K mg base CX0 4 _ _ ["self", "name"] (spKids K (He.ga K "House")) := ok_kids (k := 0) B TH FMc MTq bMq GPr
  have GDi : FnOk P w K mg base CX0 2 _ _ ["self", "name"] (spDied K (He.ga K "Story")) := ok_died (k := 0) TY FMd (GN 0) D1
  have GLi : FnOk P w K mg base CX0 3 _ _ ["self", "name", "more"] (spLiv K (He.ga K "Story")) := ok_liv (k := 0) TY FDl MTd bMd GDi (GD 0) D5
  have GPt : FnOk P w K mg base CX0 13 _ _ ["house", "part", "story", "wait"] (spPt K (He.ga K "House") (He.ga K "Story")) := ok_pt (k := 0) B TH TY D20 D19 MTc bMc GKi MTl bLl GLi D18
  have GSm : FnOk P w K mg base CX0 3 _ _ ["rows"] (spSmd K) := ok_smd (k := 0) B D23 D22 D21
  have GT0 : FnOk P w K mg base CX0 14 _ _ ["house", "whom", "story", "wait"] (spTks K (He.ga K "House") (He.ga K "Story")) := ok_tks (k := 0) B FDM D16 GWh D5 (GD 0) D17 D13 GCk D18 D20 GPt D23 GSm
  have GTk : FnOk P w K mg base CX0 14 _ _ ["house", "whom", "story", "wait"] (SpTk K (He.ga K "House") (He.ga K "Story")) := GT0.imp fun _ _ _ _ h => h.it
  have gTk := PySem.W.mg_of X G gDM
  have GT : ∀ k, FnOk P w K mg base CX0 (k + 1) _ _ ["_law_pool_here", "_law_many"] spTake := fun k => ok_take (k := k) B D25
  have GO : FnOk P w K mg base CX0 17 _ _ ["_law_script", "_law_k"] (spPool K) := ok_pool (k := 16) B D24
  have GWo : FnOk P w K mg base CX0 15 _ _ ["_law_pool_here", "_law_many"] spWords := ok_words (k := 13) B D26 D25 (GT 13)
  have GHo : FnOk P w K mg base CX0 16 _ _ ["_law_pool_here", "_law_most"] (spHome K 8) := ok_home (k := 13) (by decide) (by decide) B D27 D25 D26 (GT 13) GWo
  have GDa : FnOk P w K mg base CX0 16 _ _ ["_law_pool_here"] (spDates K) := ok_dates (k := 14) B D30 D25 (GT 14)
  have GWm : FnOk P w K mg base CX0 16 _ _ ["_law_pool_here", "_law_folk"] (spWhm K) := ok_whm (k := 14) B D28 D25 (GT 14)
  have GDe : FnOk P w K mg base CX0 16 _ _ ["_law_pool_here", "_law_folk", "_law_dates_here"] (spDeaths K) := ok_deaths (k := 14) B (PySem.W.mg_none_of X G z_sorted) D29 D25 (GT 14)
  have GPe : FnOk P w K mg base CX0 12 _ _ ["thing", "ahead"] (spPerson K) := ok_person (k := 10) B (GN 10) (GW 10) D6 D1 D2
  have GCP : FnOk P w K mg base (L2.CX P w) 13 _ _ ["people"] (spChkP K) := ok_chkP (k := 10) B (g_MOST_PEOPLE) GPe D7 D6
  have GSg : FnOk P w K mg base CX0 11 _ _ ["thing"] spSumG := ok_sumG (k := 9) B (g_MOST_SUM) D4 D3
  have GGd : FnOk P w K mg base CX0 12 _ _ ["thing", "ahead"] (spGood K) := ok_good (k := 9) B (GN 10) GSg D8 D1 D4
  have GCg : FnOk P w K mg base (L2.CX P w) 13 _ _ ["goods"] (spChkG K) := ok_chkG (k := 9) B (g_MOST_GOODS) GGd D9 D8
  have GHg : FnOk P w K mg base (L2.CX P w) 14 _ _ ["self", "people", "goods", "purse", "debts"] (spHIg K (He.ga K "House")) := ok_HIg (k := 9) B TH FDH GCP D7 GCg D9 GSg D4
  have GDh : FnOk P w K mg base CX0 12 _ _ ["thing", "ahead"] (spDeath K) := ok_death (k := 9) B (GN 10) (GD 9) D10 D1 D5
  have GCD : FnOk P w K mg base (L2.CX P w) 13 _ _ ["deaths"] (spChkD K) := ok_chkD (k := 9) B (g_MOST_DEATHS) GDh D11 D10
  have GY : FnOk P w K mg base (L2.CX P w) 14 _ _ ["self", "deaths"] (spSIa K (He.ga K "Story")) := ok_SIa (k := 9) TY FDY GCD D11
  have GSh : FnOk P w K mg base CX0 16 _ _ ["_law_estate", "_law_found", "_law_tale", "_law_day"] (spShr K (He.ga K "House") (He.ga K "Story")) := (ok_shr (k := 0) B (PySem.W.mg_none_of X G z_set) TH TY D33 MTl bLl GLi MTp bMp GPo D32 D31).mono (by decide)
  have GPi : FnOk P w K mg base CX0 16 _ _ pPi (spPi K (He.ga K "House") (He.ga K "Story")) := ok_pi (k := 0) B D35 D25 (GT 0) gTk FDM.kp bM4 GTk D34
  have GPp : FnOk P w K mg base CX0 16 _ _ pPr (spPr K (He.ga K "House") (He.ga K "Story")) := (ok_pr (k := 0) B (PySem.W.mg_none_of X G z_dict) D36 gTk FDM.kp bM4 GTk).mono (by decide)
  have GKn : FnOk P w K mg base CX0 16 _ _ pKn (spKn K (He.ga K "House") (He.ga K "Story")) := ok_kn (k := 0) B TH TY D37 gTk FDM.kp bM4 bM3 vM3 GTk MTp bMp GPo MTc bMc GKi MTl bLl GLi MY (PySem.W.mg_of X G gY) bY1 vY1 GY
  have GR : FnOk P w K mg base CX0 17 _ _ pR18 (spR18 K) := ok_r18 (k := 0) B D38 D25 (GT 15) D27 GHo D30 GDa D28 GWm D29 GDe MH (PySem.W.mg_of X G gH) GHg bH50 MY (PySem.W.mg_of X G gY) GY bY0 gTk FDM.kp bM4 k3 GTk D33 GSh D35 GPi D36 GPp D37 GKn
  exact ok_law B D39 D24 D38 GO GR
end WdQ

set_option Elab.async false
set_option linter.all false
set_option maxRecDepth 100000
set_option maxHeartbeats 0
namespace WdQ
open PySem PySem.Spec PyProof.Rows L2 Wd
end WdQ
open PySem PySem.W PySem.Calls PyProof.Rows
set_option maxRecDepth 100000 in
set_option maxHeartbeats 0 in
theorem PySem.Challenge.cw_willdealt_k18_whole_takers_hang_together_holds : PySem.Challenge.rw_willdealt_k18_whole_takers_hang_together.Holds := by
  w_on; o_law
  refine HandSHeadRun.head_any (r := OpenLaw.row PySem.Challenge.rw_willdealt_k18_whole_takers_hang_together) (q := view (OpenLaw.row PySem.Challenge.rw_willdealt_k18_whole_takers_hang_together).prog [73]) (H := WdQ.hkN) (ob := WdQ.obN) (M := 12000) (loose := WdQ.looseN) (d := HandSHeadRun.topDef (OpenLaw.row PySem.Challenge.rw_willdealt_k18_whole_takers_hang_together).prog 73) (kwd := []) WdQ.obN_eq
    (by kernel_rfl) (fun s => by kernel_rfl) WdQ.runN (by kernel_rfl) (by kernel_rfl) (by kernel_rfl) (by rfl) (by first | assumption | decide +kernel) (by decide +kernel) ⟨rfl, rfl, rfl, rfl, rfl, by decide +kernel⟩ ?hw ?hc
  case hw => w_witness2
  case hc =>
    refine L2.walk_ofE (l := PySem.Challenge.rw_willdealt_k18_whole_takers_hang_together) (n := 63) (k := 18) (x := "_law_script") (CX := L2.CX0) rfl (by decide) (by kernel_rfl) ⟨rfl, by decide, by decide⟩ ?F (fun _ _ _ _ z => z)
    intro w mg fa h Y G hmg0
    obtain ⟨K, KX, c⟩ := Y
    have hmg : mg ("law" : PySem.Str) = some (.ref fa) := by
      have e : (HandSHeadRun.topDef (OpenLaw.row PySem.Challenge.rw_willdealt_k18_whole_takers_hang_together).prog 73).name = ("law" : PySem.Str) := by kernel_rfl
      rw [← e]
      exact hmg0
    obtain ⟨fd, hb, hF⟩ := WdQ.factsN (P := (PySem.Challenge.rw_willdealt_k18_whole_takers_hang_together).prog) (w := w) KX G hmg c
    exact ⟨K, fd, WdQ.spLaw K, KX, hb, fun H a ns hl _ hS => ⟨a, ns, rfl, hS, hl, fun _ => rfl⟩, hF⟩


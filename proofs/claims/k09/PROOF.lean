import PyProof.Rows.All
import Wide.All
import OpenK.AllK
import Wide.FinOn
import KE.KStateDown
import HandS.Base
import HandS.Call
import HandS.Ends
import HandS.More
import HandS.Words
import HandS.WordsExc
import HandS.Defaults
import HandS.ExcInit
import HandS.ExcField
import HandS.Head0
import HandS.Head1
import HandS.Head2
import HandS.HeadEnd
import HandS.HeadHook1
import HandS.HeadHook2
import KE.GoesMore
import KE.GoesEnum
import KE.KTupSum
import KE.KRevSl
import HandS.ForMost
import HandS.Walk
import HandS.IsInst
import HandS.Wide
import HandS.WideBits
import HandS.TupAny
import HandS.Exc
import HandS.ExcOwn
import HandS.ExcIs
import HandS.CallSlots
import HandS.TupMul
import KE.KExcIs
import PyProof.FactsAll.list_3
import PyProof.Draws
import KE.KExcInit
import HandS.Star
import HandS.FStr
import HandS.StrMore
import HandS.Replace
import KE.GoesEnumKw
import PyProof.Rows.CallKwBuiltin
import HandS.OwnEq
import KE.KCallOwn
import KE.KFmtOwn
import PyProof.InstNe
import PyProof.MeetsIn
import HandS.MakeKwOnly
import HandS.SortRule
import HandS.List
import KE.KSortTupAny
import PySem.Challenge.RW_willdealt_k09_whole_houses_grown_by_line
set_option Elab.async false
set_option linter.all false
set_option maxRecDepth 100000
set_option maxHeartbeats 4000000
namespace Wd
open PySem PySem.Spec PyProof.Rows L2 He
/-! ### a head by facts: a row of questions about the written part, and the defs -/
abbrev Ask := PySem.W.Frag → Bool
def obsW (as : List Ask) (fn : List DefD) (K : PySem.W.Frag) : AlD := ((as.all fun f => f K) && fn.all fun d => d.ok K, fn.map fun d => fnW K d.at_)
def SaysW (as : List Ask) (fn : List DefD) (K : PySem.W.Frag) : Prop := obsW as fn K = valD fn
def obsWG (n : Nat) (as : List Ask) (fn : List DefD) (g : Addr → Option Obj) : AlD := obsW as fn (frG g (asD g n))
def hookW (n : Nat) (as : List Ask) (fn : List DefD) : PySem.W.Hook where
  α := AlD
  obs := fun s => obsWG n as fn s.heap.get?
  val := fun _ => valD fn
  says := fun _ h => ∃ K : PySem.W.Frag, K.In h ∧ SaysW as fn K
  of := fun _ _ e => ⟨_, frG_in, e⟩
  keeps := fun _ _ _ ⟨K, hK, c⟩ k => ⟨K, PySem.W.Frag.In.keeps hK k, c⟩
theorem obsWG_eq {n : Nat} {as : List Ask} {fn : List DefD} {g : Addr → Option Obj} {s : Shared} (h : ∀ a, g a = s.heap.get? a) : obsWG n as fn g = (hookW n as fn).obs s := by
  have e : g = s.heap.get? := funext h
  rw [e] <;> rfl
section
variable {as : List Ask} {fn : List DefD} {K : PySem.W.Frag}
theorem SaysW.ask (c : SaysW as fn K) (i : Nat) {f : Ask} (h : as[i]? = some f := by rfl) : f K = true := by
  have c1 := (ba (show ((as.all fun f => f K) && fn.all fun d => d.ok K) = true from congrArg (fun z : AlD => z.1) c)).1
  exact List.all_eq_true.mp c1 f (List.mem_of_getElem? h)
theorem SaysW.def_ (c : SaysW as fn K) (i : Nat) {d : DefD} (h : fn[i]? = some d := by rfl) : ∃ fd, FunD K d.name d.qual d.params d.body d.scope (d.dvs K) (d.kws K) (fAd K d.at_) fd := by
  have c2 := (ba (show ((as.all fun f => f K) && fn.all fun d => d.ok K) = true from congrArg (fun z : AlD => z.1) c)).2
  have e : fn.map (fun d => fnW K d.at_) = fn.map DefD.val := congrArg (fun z : AlD => z.2) c
  have e2 : (fn.map fun d => fnW K d.at_)[i]? = (fn.map DefD.val)[i]? := by rw [e]
  rw [List.getElem?_map, List.getElem?_map, h] at e2
  exact DefD.funD (Option.some.inj e2) (List.all_eq_true.mp c2 d (List.mem_of_getElem? h))
end
theorem obsW_app {as1 as2 : List Ask} {fn1 fn2 : List DefD} {K : PySem.W.Frag} (h1 : obsW as1 fn1 K = valD fn1) (h2 : obsW as2 fn2 K = valD fn2) : obsW (as1 ++ as2) (fn1 ++ fn2) K = valD (fn1 ++ fn2) := by
  have a1 : ((as1.all fun f => f K) && fn1.all fun d => d.ok K) = true := congrArg (fun z : AlD => z.1) h1
  have a2 : ((as2.all fun f => f K) && fn2.all fun d => d.ok K) = true := congrArg (fun z : AlD => z.1) h2
  have b1 : fn1.map (fun d => fnW K d.at_) = fn1.map DefD.val := congrArg (fun z : AlD => z.2) h1
  have b2 : fn2.map (fun d => fnW K d.at_) = fn2.map DefD.val := congrArg (fun z : AlD => z.2) h2
  obtain ⟨p1, p2⟩ := ba a1
  obtain ⟨q1, q2⟩ := ba a2
  unfold obsW valD
  rw [List.all_append, List.all_append, List.map_append, List.map_append, p1, p2, q1, q2, b1, b2]
  rfl
/-- two runs with a part of the questions each are one with both -/
theorem run_app {r : PySem.W.OpenRow} {q : Program} {n M : Nat} {as1 as2 : List Ask} {fn1 fn2 : List DefD} {loose : List Str} {w : World}
    (h1 : HandSHeadRun.RunEq r q (hookW n as1 fn1) (fun s => obsWG n as1 fn1 (HandSHeadRun.getT s)) M loose w) (h2 : HandSHeadRun.RunEq r q (hookW n as2 fn2) (fun s => obsWG n as2 fn2 (HandSHeadRun.getT s)) M loose w) :
    HandSHeadRun.RunEq r q (hookW n (as1 ++ as2) (fn1 ++ fn2)) (fun s => obsWG n (as1 ++ as2) (fn1 ++ fn2) (HandSHeadRun.getT s)) M loose w := by
  intro os
  have e1 := h1 os
  have e2 := h2 os
  revert e1 e2
  generalize HandSHeadRun.endF _ _ _ _ _ = z
  intro e1 e2
  cases z with
  | none => cases e1
  | some s =>
    have e1 := Option.some.inj e1
    have e2 := Option.some.inj e2
    have l : _ = true := congrArg (fun z => z.1) e1
    have m := congrArg (fun z => z.2.1) e1
    have o1 : obsWG n as1 fn1 (HandSHeadRun.getT s) = valD fn1 := congrArg (fun z => z.2.2) e1
    have o2 : obsWG n as2 fn2 (HandSHeadRun.getT s) = valD fn2 := congrArg (fun z => z.2.2) e2
    have o : obsWG n (as1 ++ as2) (fn1 ++ fn2) (HandSHeadRun.getT s) = valD (fn1 ++ fn2) := obsW_app o1 o2
    exact congrArg some (Prod.ext l (Prod.ext m o))
/-! ### the run asked in parts, each a run of its own (less is held at a time) -/
def LkEq (r : PySem.W.OpenRow) (M : Nat) (w : World) : Prop := ∀ os : OsState, (HandSHeadRun.endF (HandSHeadRun.stepQ (HandSHeadRun.denQ HandSHeadRun.tabQ) r.prog w) M r.prog w os).map (fun s => HandSHeadRun.looksF r.prog (PySem.W.boot_heap w.params) s.abs) = some true
def SnEq (r : PySem.W.OpenRow) (q : Program) (M : Nat) (loose : List Str) (w : World) : Prop := ∀ os : OsState, (HandSHeadRun.endF (HandSHeadRun.stepQ (HandSHeadRun.denQ HandSHeadRun.tabQ) r.prog w) M r.prog w os).map (fun s => HandSHeadRun.seenQ q loose (importedModules r.prog.main.body) (fun s => PySem.W.xlAt q [] s && PySem.W.recOk r.toRowW.records s) s.abs) = some (PySem.W.openGood q loose)
def ObEq (r : PySem.W.OpenRow) (n M : Nat) (as : List Ask) (fn : List DefD) (w : World) : Prop := ∀ os : OsState, (HandSHeadRun.endF (HandSHeadRun.stepQ (HandSHeadRun.denQ HandSHeadRun.tabQ) r.prog w) M r.prog w os).map (fun s => obsWG n as fn (HandSHeadRun.getT s)) = some (valD fn)
theorem ob_app {r : PySem.W.OpenRow} {n M : Nat} {as1 as2 : List Ask} {fn1 fn2 : List DefD} {w : World} (h1 : ObEq r n M as1 fn1 w) (h2 : ObEq r n M as2 fn2 w) : ObEq r n M (as1 ++ as2) (fn1 ++ fn2) w := by
  intro os
  have e1 := h1 os
  have e2 := h2 os
  revert e1 e2
  generalize HandSHeadRun.endF _ _ _ _ _ = z
  intro e1 e2
  cases z with
  | none => cases e1
  | some s => exact congrArg some (obsW_app (Option.some.inj e1) (Option.some.inj e2))
theorem run_of3 {r : PySem.W.OpenRow} {q : Program} {n M : Nat} {as : List Ask} {fn : List DefD} {loose : List Str} {w : World} (a : LkEq r M w) (b : SnEq r q M loose w) (c : ObEq r n M as fn w) :
    HandSHeadRun.RunEq r q (hookW n as fn) (fun s => obsWG n as fn (HandSHeadRun.getT s)) M loose w := by
  intro os
  have e1 := a os
  have e2 := b os
  have e3 := c os
  revert e1 e2 e3
  generalize HandSHeadRun.endF _ _ _ _ _ = z
  intro e1 e2 e3
  cases z with
  | none => cases e1
  | some s => exact congrArg some (Prod.ext (Option.some.inj e1) (Prod.ext (Option.some.inj e2) (Option.some.inj e3)))
/-- a def without defaults -/
theorem fun_of {K : PySem.W.Frag} {x q : Str} {st : Stmt} {f : Addr} {fd : FuncData} (F : FunD K x q (defArgs st) (defBody st) (defScope st) [] [] f fd) : L2.Fun K x q st f fd := by
  obtain ⟨⟨oc, od, dV, kV, doc, pm, an, cdv, ct, osl, rfl, lk, hcd, hd, _⟩, kp⟩ := F
  rcases hd with ⟨_, rfl⟩ | ⟨e, _⟩
  · exact ⟨⟨oc, od, kV, doc, pm, an, cdv, ct, osl, rfl, lk, hcd⟩, kp⟩
  · exact absurd rfl e
/-- an own error with an __init__ of its own, over ValueError -/
def oexB (K : PySem.W.Frag) (C : Addr) : Bool := match K.lookup C with
  | some ⟨.type "type", _, .cls cd, sl⟩ => (match cd.mro, sl.toList with
    | .ref C' :: bm, [_, _, _, _, some (.builtin n), _] => C' == C && n == "ValueError.__new__" && !cd.hasDel && cd.hasDict && PySem.HandSPX.refsVE bm
    | _, _ => false)
  | _ => false
theorem oexB_ok {K : PySem.W.Frag} {C : Addr} (q : oexB K C = true) : ∃ nm q N bs bm sn sub ab col dd k0 k1 k2 k3 k5, K.lookup C = some (excClassObj nm q C N bs bm true sn sub ab col dd k0 k1 k2 k3 k5 "ValueError.__new__") ∧ PySem.HandSPX.refsVE bm = true := by
  unfold oexB at q
  split at q
  · rename_i dd cd sl ho
    split at q
    · rename_i C' bm k0 k1 k2 k3 n k5 hm hs
      simp only [Bool.and_eq_true, beq_iff_eq, Bool.not_eq_true'] at q
      obtain ⟨⟨⟨⟨rfl, rfl⟩, hdel⟩, hd⟩, hr⟩ := q
      obtain ⟨nm, bs, mro, N, qn, hasd, sn, sub, ab, col, hdl⟩ := cd
      simp only at hm hdel hd
      subst hm
      subst hdel
      subst hd
      have e : sl = #[k0, k1, k2, k3, some (.builtin "ValueError.__new__"), k5] := by
        have := congrArg List.toArray hs
        simpa using this
      subst e
      exact ⟨nm, qn, N, bs, bm, sn, sub, ab, col, dd, k0, k1, k2, k3, k5, ho, hr⟩
    · cases q
  · cases q
end Wd

set_option Elab.async false
set_option linter.all false
set_option maxRecDepth 100000
set_option maxHeartbeats 4000000
namespace Wd
open PySem PySem.Spec PyProof.Rows L2 He
/-- own classes, then the family's order tl -/
def refsB (tl : List Value) : List Value → Bool
  | .ref _ :: r => refsB tl r
  | l => l == tl
/-- an own error with an __init__ of its own, of any family -/
def oexTB (newId : String) (tl : List Value) (K : PySem.W.Frag) (C : Addr) : Bool := match K.lookup C with
  | some ⟨.type "type", _, .cls cd, sl⟩ => (match cd.mro, sl.toList with
    | .ref C' :: bm, [_, _, _, _, some (.builtin n), _] => C' == C && n == newId && !cd.hasDel && cd.hasDict && refsB tl bm
    | _, _ => false)
  | _ => false
section
variable {K : PySem.W.Frag} {x qual : Str} {params : Arguments} {body : List Stmt} {scope : Scope} {dvs : List V} {kws : List (Str × V)} {f : Addr} {fd : FuncData} {ps : List Str}
/-- a call with keywords, of a def with defaults -/
theorem kbn_of (F : FunD K x qual params body scope dvs kws f fd) (n : Nat) (ks : List Str) (g : List Value → List Value → List Value) (gV : List V → List V → List V) (hd : dvs ≠ [])
    (h : ∀ (T : Addr) (kV doc pm : Value) (an : Option Addr) (cdv ct : Value) (us its ws : List Value), us.length = n → its.length = dvs.length → ws.length = ks.length →
      ∃ k, bindArgs (PySem.W.fnOf x qual params body scope (.ref T) kV doc pm an cdv ct) ⟨us, ks.zip ws⟩ = seqItems? (.ref T) >>= k ∧ k (some its.toArray) = pure (ps.zip (g us ws)))
    (rel : ∀ {vs : List V} {us : List Value} {zs : List V} {ws : List Value}, Vals vs us → Vals zs ws → Vals (gV vs zs) (g us ws)) : KBn K fd ps n ks g gV := by
  obtain ⟨oc, od, dV, kV, doc, pm, an, cdv, ct, osl, rfl, lk, hcd, hD, hK⟩ := F.ex
  rcases hD with ⟨e, _⟩ | ⟨_, T, o, its, m, rfl, lT, oT, rT⟩
  · exact absurd e hd
  · refine ⟨fun s us ws X l1 l2 => ?_, rel⟩
    obtain ⟨k, e1, e2⟩ := h T kV doc pm an cdv ct us its ws l1 rT.length.symm l2
    refine BindsTo.of_looks fun M => ?_
    rw [e1]
    exact looks_items X lT oT (.of_pure e2)
theorem vals_rev {vs : List V} {us : List Value} (r : Vals vs us) : Vals vs.reverse us.reverse := by
  induction r with
  | nil => exact .nil
  | cons h _ ih =>
    rw [List.reverse_cons, List.reverse_cons]
    exact ih.append (.cons h .nil)
end
end Wd

set_option Elab.async false
set_option linter.all false
set_option maxRecDepth 100000
set_option maxHeartbeats 0
namespace WdQ
open PySem PySem.Spec PyProof.Rows L2 Wd
def topR (i : Nat) : Stmt := PySem.Challenge.pw_willdealt_k09_whole_houses_grown_by_line.main.body.getD i (.Pass ⟨0, 0, 0, 0⟩)
def loose0 : List Str := ["__name__", "WordError", "LostError", "NoSum", "NoPeople", "NoGoods", "NoText", "NoPerson", "NoThing", "MOST_SUM", "is_whole", "is_sum", "FIGURES", "read_number", "LETTERS", "LONGEST", "WORDS", "is_word", "is_name", "MOST_PEOPLE", "MOST_GOODS", "is_person", "is_good", "check_people", "check_goods", "row_named", "person_line", "House", "PEOPLE_FROM", "read_amount"]
def loose1 : List Str := ["read_person", "read_thing", "read_people", "read_goods", "read_house", "show_house", "_law_pool", "_law_take", "_law_words", "_law_home", "_law_folk_lines", "_law_ware_lines", "_law_lines", "_law_line_refused", "_law_is_house", "_law_grown_right", "_law_first_twice", "_law_both_right", "_law_turned_right"]
def looseN : List Str := loose0 ++ loose1
def asks0 : List Ask := [
  fun K => decide (PySem.W.nsIn K mainGlobals "is_name" = some (some (.ref (He.ga K "is_name")))),
  fun K => decide (PySem.W.nsIn K mainGlobals "is_word" = some (some (.ref (He.ga K "is_word")))),
  fun K => decide (PySem.W.nsIn K mainGlobals "is_whole" = some (some (.ref (He.ga K "is_whole")))),
  fun K => decide (PySem.W.nsIn K mainGlobals "is_sum" = some (some (.ref (He.ga K "is_sum")))),
  fun K => decide (PySem.W.nsIn K mainGlobals "is_person" = some (some (.ref (He.ga K "is_person")))),
  fun K => decide (PySem.W.nsIn K mainGlobals "check_people" = some (some (.ref (He.ga K "check_people")))),
  fun K => decide (PySem.W.nsIn K mainGlobals "is_good" = some (some (.ref (He.ga K "is_good")))),
  fun K => decide (PySem.W.nsIn K mainGlobals "check_goods" = some (some (.ref (He.ga K "check_goods")))),
  fun K => decide (PySem.W.nsIn K mainGlobals "row_named" = some (some (.ref (He.ga K "row_named")))),
  fun K => decide (PySem.W.nsIn K mainGlobals "person_line" = some (some (.ref (He.ga K "person_line")))),
  fun K => decide (PySem.W.nsIn K mainGlobals "read_number" = some (some (.ref (He.ga K "read_number")))),
  fun K => decide (PySem.W.nsIn K mainGlobals "read_amount" = some (some (.ref (He.ga K "read_amount")))),
  fun K => decide (PySem.W.nsIn K mainGlobals "read_person" = some (some (.ref (He.ga K "read_person")))),
  fun K => decide (PySem.W.nsIn K mainGlobals "read_thing" = some (some (.ref (He.ga K "read_thing")))),
  fun K => decide (PySem.W.nsIn K mainGlobals "read_people" = some (some (.ref (He.ga K "read_people")))),
  fun K => decide (PySem.W.nsIn K mainGlobals "read_goods" = some (some (.ref (He.ga K "read_goods")))),
  fun K => decide (PySem.W.nsIn K mainGlobals "read_house" = some (some (.ref (He.ga K "read_house")))),
  fun K => decide (PySem.W.nsIn K mainGlobals "show_house" = some (some (.ref (He.ga K "show_house")))),
  fun K => decide (PySem.W.nsIn K mainGlobals "_law_pool" = some (some (.ref (He.ga K "_law_pool")))),
  fun K => decide (PySem.W.nsIn K mainGlobals "_law_take" = some (some (.ref (He.ga K "_law_take")))),
  fun K => decide (PySem.W.nsIn K mainGlobals "_law_words" = some (some (.ref (He.ga K "_law_words")))),
  fun K => decide (PySem.W.nsIn K mainGlobals "_law_home" = some (some (.ref (He.ga K "_law_home")))),
  fun K => decide (PySem.W.nsIn K mainGlobals "_law_folk_lines" = some (some (.ref (He.ga K "_law_folk_lines")))),
  fun K => decide (PySem.W.nsIn K mainGlobals "_law_ware_lines" = some (some (.ref (He.ga K "_law_ware_lines")))),
  fun K => decide (PySem.W.nsIn K mainGlobals "_law_lines" = some (some (.ref (He.ga K "_law_lines")))),
  fun K => decide (PySem.W.nsIn K mainGlobals "_law_line_refused" = some (some (.ref (He.ga K "_law_line_refused")))),
  fun K => decide (PySem.W.nsIn K mainGlobals "_law_is_house" = some (some (.ref (He.ga K "_law_is_house")))),
  fun K => decide (PySem.W.nsIn K mainGlobals "_law_grown_right" = some (some (.ref (He.ga K "_law_grown_right")))),
  fun K => decide (PySem.W.nsIn K mainGlobals "_law_first_twice" = some (some (.ref (He.ga K "_law_first_twice")))),
  fun K => decide (PySem.W.nsIn K mainGlobals "_law_both_right" = some (some (.ref (He.ga K "_law_both_right")))),
  fun K => decide (PySem.W.nsIn K mainGlobals "_law_turned_right" = some (some (.ref (He.ga K "_law_turned_right")))),
  fun K => decide (PySem.W.nsIn K mainGlobals "law" = some (some (.ref (He.ga K "law")))),
  fun K => decide (PySem.W.nsIn K mainGlobals "isinstance" = some none),
  fun K => decide (PySem.W.nsIn K mainGlobals "int" = some none),
  fun K => decide (PySem.W.nsIn K mainGlobals "bool" = some none),
  fun K => decide (PySem.W.nsIn K mainGlobals "str" = some none),
  fun K => decide (PySem.W.nsIn K mainGlobals "tuple" = some none),
  fun K => decide (PySem.W.nsIn K mainGlobals "list" = some none)]
def asks1 : List Ask := [
  fun K => decide (PySem.W.nsIn K mainGlobals "len" = some none),
  fun K => decide (PySem.W.nsIn K mainGlobals "abs" = some none),
  fun K => decide (PySem.W.nsIn K mainGlobals "all" = some none),
  fun K => decide (PySem.W.nsIn K mainGlobals "any" = some none),
  fun K => decide (PySem.W.nsIn K mainGlobals "sum" = some none),
  fun K => decide (PySem.W.nsIn K mainGlobals "enumerate" = some none),
  fun K => decide (PySem.W.nsIn K mainGlobals "divmod" = some none),
  fun K => decide (PySem.W.nsIn K mainGlobals "range" = some none),
  fun K => decide (PySem.W.nsIn K mainGlobals "max" = some none),
  fun K => decide (PySem.W.nsIn K mainGlobals "min" = some none),
  fun K => decide (PySem.W.nsIn K mainGlobals "zip" = some none),
  fun K => decide (PySem.W.nsIn K mainGlobals "repr" = some none),
  fun K => decide (PySem.W.nsIn K mainGlobals "sorted" = some none),
  fun K => decide (PySem.W.nsIn K mainGlobals "WORDS" = some (some (.ref (He.ga K "WORDS")))),
  fun K => (He.Fa.str "LETTERS" "abcdefghijklmnopqrstuvwxyz").ok K,
  fun K => (He.Fa.int "LONGEST" 8).ok K,
  fun K => He.tupB K "WORDS" [.str "all", .str "and", .str "children", .str "childless", .str "crown", .str "else", .str "if", .str "lives", .str "not", .str "of", .str "or", .str "stock", .str "to"],
  fun K => (He.Fa.int "MOST_SUM" 1000000000).ok K,
  fun K => (He.Fa.int "MOST_PEOPLE" 8).ok K,
  fun K => (He.Fa.int "MOST_GOODS" 8).ok K,
  fun K => (He.Fa.int "PEOPLE_FROM" 2).ok K,
  fun K => (He.Fa.str "FIGURES" "0123456789").ok K,
  fun K => decide (PySem.W.nsIn K mainGlobals "House" = some (some (.ref (He.ga K "House")))),
  fun K => (He.Fa.mkr "House").ok K,
  fun K => (He.Fa.cls "House").ok K,
  fun K => (He.Fa.noat "House" "folk").ok K,
  fun K => (He.Fa.noat "House" "things").ok K,
  fun K => (He.Fa.noat "House" "purse").ok K,
  fun K => (He.Fa.noat "House" "debts").ok K,
  fun K => decide (PySem.W.specialIn K (.builtin "object.__class__") "__get__" = some (some (.builtin "getset_descriptor.__get__"))),
  fun K => decide (PySem.W.takesIn K (.builtin "object.__class__") = some true),
  fun K => decide (PySem.W.nsIn K mainGlobals "NoText" = some (some (.ref (He.ga K "NoText")))),
  fun K => decide (PySem.W.nsIn K mainGlobals "WordError" = some (some (.ref (He.ga K "WordError")))),
  fun K => decide (PySem.W.findIn K (.ref (He.ga K "NoText")) "__getattribute__" = some (some (.builtin "BaseException.__getattribute__"))),
  fun K => decide (PySem.W.findIn K (.ref (He.ga K "NoText")) "__getattr__" = some none),
  fun K => decide (PySem.W.hasDictIn K (He.ga K "NoText") = true),
  fun K => decide (PySem.W.findIn K (.ref (He.ga K "NoText")) "__class__" = some (some (.builtin "object.__class__"))),
  fun K => decide (PySem.W.mroIn K (He.ga K "NoText") (.type "object") = some true)]
def asks2 : List Ask := [
  fun K => decide (PySem.W.subIn K (.ref (He.ga K "NoText")) (.type "BaseException") = some true),
  fun K => decide (PySem.W.typeIn K (.ref (He.ga K "NoText")) = some (.type "type")),
  fun K => decide (PySem.W.keepIn K (.ref (He.ga K "NoText")) = true),
  fun K => decide (PySem.W.findIn K (.ref (He.ga K "NoText")) "__init__" = some (some (.ref (He.ma K (He.ga K "NoText") "__init__")))),
  fun K => decide (PySem.W.typeIn K (.ref (He.ma K (He.ga K "NoText") "__init__")) = some (.type "function")),
  fun K => decide (PySem.W.findIn K (.ref (He.ga K "NoText")) "__setattr__" = some (some (.builtin "object.__setattr__"))),
  fun K => decide (PySem.W.findIn K (.ref (He.ga K "NoText")) "line" = some none),
  fun K => decide (PySem.W.exmOne K (.ref (He.ga K "NoText")) (.ref (He.ga K "WordError")) = some true),
  fun K => oexB K (He.ga K "NoText"),
  fun K => decide (PySem.W.exmOne K (.ref (He.ga K "NoText")) (.ref (He.ga K "NoText")) = some true),
  fun K => decide (PySem.W.findIn K (.ref (He.ga K "House")) "__class__" = some (some (.builtin "object.__class__"))),
  fun K => decide (PySem.W.mroIn K (He.ga K "House") (.type "object") = some true),
  fun K => decide (PySem.W.kitOne K (.ref (He.ga K "House")) (.ref (He.ga K "House")) = some true),
  fun K => decide (PySem.W.findIn K (.ref (He.ga K "House")) "__ne__" = some (some (.builtin "object.__ne__"))),
  fun K => decide (PySem.W.findIn K (.ref (He.ga K "House")) "__format__" = some (some (.builtin "object.__format__"))),
  fun K => decide (PySem.W.notFirst K (He.ga K "House") (.type "str") = true),
  fun K => decide (PySem.W.notFirst K (He.ga K "House") (.type "tuple") = true),
  fun K => decide (PySem.W.kitOne K (.type "str") (.ref (He.ga K "House")) = some false),
  fun K => decide (PySem.W.kitOne K (.type "tuple") (.ref (He.ga K "House")) = some false),
  fun K => (He.Fa.meth "House" "people").ok K,
  fun K => (He.Fa.meth "House" "person").ok K,
  fun K => (He.Fa.meth "House" "children").ok K,
  fun K => (He.Fa.meth "House" "parent").ok K,
  fun K => (He.Fa.meth "House" "good").ok K,
  fun K => (He.Fa.meth "House" "kind").ok K,
  fun K => (He.Fa.meth "House" "worth").ok K,
  fun K => (He.Fa.meth "House" "lines").ok K,
  fun K => (He.Fa.meth "House" "goods").ok K,
  fun K => decide (PySem.W.findIn K (.ref (He.ga K "House")) "__len__" = some (some (.ref (He.ma K (He.ga K "House") "__len__")))),
  fun K => decide (PySem.W.isFn K (.ref (He.ma K (He.ga K "House") "__len__")) = true),
  fun K => decide (PySem.W.findIn K (.ref (He.ga K "House")) "__repr__" = some (some (.ref (He.ma K (He.ga K "House") "__repr__")))),
  fun K => decide (PySem.W.isFn K (.ref (He.ma K (He.ga K "House") "__repr__")) = true),
  fun K => decide (PySem.W.findIn K (.ref (He.ga K "House")) "__str__" = some (some (.ref (He.ma K (He.ga K "House") "__str__")))),
  fun K => decide (PySem.W.isFn K (.ref (He.ma K (He.ga K "House") "__str__")) = true),
  fun K => decide (PySem.W.findIn K (.ref (He.ga K "House")) "__eq__" = some (some (.ref (He.ma K (He.ga K "House") "__eq__")))),
  fun K => decide (PySem.W.isFn K (.ref (He.ma K (He.ga K "House") "__eq__")) = true)]
def asksN : List Ask := asks0 ++ asks1 ++ asks2
def defs0 : List He.DefD := [
  ⟨("is_name", none), "is_name", "is_name", defArgs (topR 21), defBody (topR 21), defScope (topR 21), [], []⟩,
  ⟨("is_word", none), "is_word", "is_word", defArgs (topR 20), defBody (topR 20), defScope (topR 20), [], []⟩,
  ⟨("is_whole", none), "is_whole", "is_whole", defArgs (topR 11), defBody (topR 11), defScope (topR 11), [], []⟩,
  ⟨("is_sum", none), "is_sum", "is_sum", defArgs (topR 12), defBody (topR 12), defScope (topR 12), [], []⟩,
  ⟨("is_person", none), "is_person", "is_person", defArgs (topR 25), defBody (topR 25), defScope (topR 25), [], []⟩,
  ⟨("check_people", none), "check_people", "check_people", defArgs (topR 27), defBody (topR 27), defScope (topR 27), [], []⟩,
  ⟨("is_good", none), "is_good", "is_good", defArgs (topR 26), defBody (topR 26), defScope (topR 26), [], []⟩,
  ⟨("check_goods", none), "check_goods", "check_goods", defArgs (topR 28), defBody (topR 28), defScope (topR 28), [], []⟩,
  ⟨("row_named", none), "row_named", "row_named", defArgs (topR 29), defBody (topR 29), defScope (topR 29), [], []⟩,
  ⟨("person_line", none), "person_line", "person_line", defArgs (topR 30), defBody (topR 30), defScope (topR 30), [], []⟩,
  ⟨("read_number", none), "read_number", "read_number", defArgs (topR 15), defBody (topR 15), defScope (topR 15), [], []⟩,
  ⟨("read_amount", none), "read_amount", "read_amount", defArgs (topR 34), defBody (topR 34), defScope (topR 34), [], []⟩,
  ⟨("read_person", none), "read_person", "read_person", defArgs (topR 35), defBody (topR 35), defScope (topR 35), [], []⟩,
  ⟨("read_thing", none), "read_thing", "read_thing", defArgs (topR 36), defBody (topR 36), defScope (topR 36), [], []⟩,
  ⟨("read_people", none), "read_people", "read_people", defArgs (topR 37), defBody (topR 37), defScope (topR 37), [], []⟩,
  ⟨("read_goods", none), "read_goods", "read_goods", defArgs (topR 38), defBody (topR 38), defScope (topR 38), [], []⟩]
def defs1 : List He.DefD := [
  ⟨("read_house", none), "read_house", "read_house", defArgs (topR 39), defBody (topR 39), defScope (topR 39), [], []⟩,
  ⟨("show_house", none), "show_house", "show_house", defArgs (topR 40), defBody (topR 40), defScope (topR 40), [], []⟩,
  ⟨("_law_pool", none), "_law_pool", "_law_pool", defArgs (topR 42), defBody (topR 42), defScope (topR 42), [], []⟩,
  ⟨("_law_take", none), "_law_take", "_law_take", defArgs (topR 43), defBody (topR 43), defScope (topR 43), [], []⟩,
  ⟨("_law_words", none), "_law_words", "_law_words", defArgs (topR 44), defBody (topR 44), defScope (topR 44), [], []⟩,
  ⟨("_law_home", none), "_law_home", "_law_home", defArgs (topR 45), defBody (topR 45), defScope (topR 45), [], []⟩,
  ⟨("_law_folk_lines", none), "_law_folk_lines", "_law_folk_lines", defArgs (topR 46), defBody (topR 46), defScope (topR 46), [], []⟩,
  ⟨("_law_ware_lines", none), "_law_ware_lines", "_law_ware_lines", defArgs (topR 47), defBody (topR 47), defScope (topR 47), [], []⟩,
  ⟨("_law_lines", none), "_law_lines", "_law_lines", defArgs (topR 48), defBody (topR 48), defScope (topR 48), [], []⟩,
  ⟨("_law_line_refused", none), "_law_line_refused", "_law_line_refused", defArgs (topR 49), defBody (topR 49), defScope (topR 49), [], []⟩,
  ⟨("_law_is_house", none), "_law_is_house", "_law_is_house", defArgs (topR 50), defBody (topR 50), defScope (topR 50), [], []⟩,
  ⟨("_law_grown_right", none), "_law_grown_right", "_law_grown_right", defArgs (topR 51), defBody (topR 51), defScope (topR 51), [], []⟩,
  ⟨("_law_first_twice", none), "_law_first_twice", "_law_first_twice", defArgs (topR 52), defBody (topR 52), defScope (topR 52), [], []⟩,
  ⟨("_law_both_right", none), "_law_both_right", "_law_both_right", defArgs (topR 53), defBody (topR 53), defScope (topR 53), [], []⟩,
  ⟨("_law_turned_right", none), "_law_turned_right", "_law_turned_right", defArgs (topR 54), defBody (topR 54), defScope (topR 54), [], []⟩,
  ⟨("law", none), "law", "law", defArgs (topR 55), defBody (topR 55), defScope (topR 55), [], []⟩]
def defs2 : List He.DefD := [
  ⟨("House", some "__init__"), "__init__", "House.__init__", defArgs (inClass (topR 31) 0), defBody (inClass (topR 31) 0), defScope (inClass (topR 31) 0), [.non, .int 0, .int 0], []⟩,
  ⟨("NoText", some "__init__"), "__init__", "NoText.__init__", defArgs (inClass (topR 6) 0), defBody (inClass (topR 6) 0), defScope (inClass (topR 6) 0), [], []⟩,
  ⟨("House", some "people"), "people", "House.people", defArgs (inClass (topR 31) 1), defBody (inClass (topR 31) 1), defScope (inClass (topR 31) 1), [], []⟩,
  ⟨("House", some "person"), "person", "House.person", defArgs (inClass (topR 31) 7), defBody (inClass (topR 31) 7), defScope (inClass (topR 31) 7), [], []⟩,
  ⟨("House", some "children"), "children", "House.children", defArgs (inClass (topR 31) 2), defBody (inClass (topR 31) 2), defScope (inClass (topR 31) 2), [], []⟩,
  ⟨("House", some "parent"), "parent", "House.parent", defArgs (inClass (topR 31) 3), defBody (inClass (topR 31) 3), defScope (inClass (topR 31) 3), [], []⟩,
  ⟨("House", some "good"), "good", "House.good", defArgs (inClass (topR 31) 8), defBody (inClass (topR 31) 8), defScope (inClass (topR 31) 8), [], []⟩,
  ⟨("House", some "kind"), "kind", "House.kind", defArgs (inClass (topR 31) 5), defBody (inClass (topR 31) 5), defScope (inClass (topR 31) 5), [], []⟩,
  ⟨("House", some "worth"), "worth", "House.worth", defArgs (inClass (topR 31) 6), defBody (inClass (topR 31) 6), defScope (inClass (topR 31) 6), [], []⟩,
  ⟨("House", some "lines"), "lines", "House.lines", defArgs (inClass (topR 31) 9), defBody (inClass (topR 31) 9), defScope (inClass (topR 31) 9), [], []⟩,
  ⟨("House", some "goods"), "goods", "House.goods", defArgs (inClass (topR 31) 4), defBody (inClass (topR 31) 4), defScope (inClass (topR 31) 4), [.non, .non], []⟩,
  ⟨("House", some "__len__"), "__len__", "House.__len__", defArgs (inClass (topR 31) 10), defBody (inClass (topR 31) 10), defScope (inClass (topR 31) 10), [], []⟩,
  ⟨("House", some "__repr__"), "__repr__", "House.__repr__", defArgs (inClass (topR 31) 13), defBody (inClass (topR 31) 13), defScope (inClass (topR 31) 13), [], []⟩,
  ⟨("House", some "__str__"), "__str__", "House.__str__", defArgs (inClass (topR 31) 12), defBody (inClass (topR 31) 12), defScope (inClass (topR 31) 12), [], []⟩,
  ⟨("House", some "__eq__"), "__eq__", "House.__eq__", defArgs (inClass (topR 31) 11), defBody (inClass (topR 31) 11), defScope (inClass (topR 31) 11), [], []⟩]
def defsN : List He.DefD := defs0 ++ defs1 ++ defs2
abbrev hkN : PySem.W.Hook := hookW 4 asksN defsN
def obN (s : PySem.W.SharedT) : He.AlD := obsWG 4 asksN defsN (HandSHeadRun.getT s)
theorem obN_eq (s : PySem.W.SharedT) : obN s = hkN.obs s.abs := obsWG_eq (HandSHeadRun.getT_eq s)
theorem runA (w : World) : LkEq (PySem.W.OpenLaw.row PySem.Challenge.rw_willdealt_k09_whole_houses_grown_by_line) 12000 w := by
  intro os
  kernel_rfl
theorem runB (w : World) : SnEq (PySem.W.OpenLaw.row PySem.Challenge.rw_willdealt_k09_whole_houses_grown_by_line) (PySem.W.view (PySem.W.OpenLaw.row PySem.Challenge.rw_willdealt_k09_whole_houses_grown_by_line).prog [55]) 12000 looseN w := by
  intro os
  kernel_rfl
theorem runP0 (w : World) : ObEq (PySem.W.OpenLaw.row PySem.Challenge.rw_willdealt_k09_whole_houses_grown_by_line) 4 12000 asks0 defs0 w := by
  intro os
  kernel_rfl
theorem runP1 (w : World) : ObEq (PySem.W.OpenLaw.row PySem.Challenge.rw_willdealt_k09_whole_houses_grown_by_line) 4 12000 asks1 defs1 w := by
  intro os
  kernel_rfl
theorem runP2 (w : World) : ObEq (PySem.W.OpenLaw.row PySem.Challenge.rw_willdealt_k09_whole_houses_grown_by_line) 4 12000 asks2 defs2 w := by
  intro os
  kernel_rfl
theorem runN (w : World) : HandSHeadRun.RunEq (PySem.W.OpenLaw.row PySem.Challenge.rw_willdealt_k09_whole_houses_grown_by_line) (PySem.W.view (PySem.W.OpenLaw.row PySem.Challenge.rw_willdealt_k09_whole_houses_grown_by_line).prog [55]) hkN obN 12000 looseN w := run_of3 (runA w) (runB w) (ob_app (ob_app (runP0 w) (runP1 w)) (runP2 w))
end WdQ

set_option Elab.async false
set_option linter.all false
set_option maxRecDepth 100000
set_option maxHeartbeats 4000000
namespace Wd
open PySem PySem.Spec PyProof.Rows L2
/-! ### zip of a list or tuple with a list or tuple: one rule for the four mixes. A feed is what zip draws from. -/
inductive Feed where
  | li
  | tu
namespace Feed
def sq : Feed → PySem.W.Frag → Hp → Addr → List V → Prop
  | .li => SqL
  | .tu => SqT
def stands : Feed → Heap → Addr → Array Value → Prop
  | .li => Heap.IsList
  | .tu => Heap.IsTuple
def at_ : Feed → Heap → Addr → Addr → Nat → Prop
  | .li => Heap.IsListIter
  | .tu => Heap.IsTupleIter
def head : Feed → Addr → Obj
  | .li, a => { cls := .type "list_iterator", data := .fields #[.ref a, .int 0 0] }
  | .tu, a => { cls := .type "tuple_iterator", data := .fields #[.ref a, .int 0 0] }
variable (k : Feed)
theorem begins (a : Addr) (its : Array Value) : Begins (.ref a) (k.head a) fun h => k.stands h a its := by
  cases k
  · exact begins_list a its
  · exact begins_tuple a its
theorem draws {prog : Program} {w : World} {A : Around} (hA : A.handled = none) {it a : Addr} (ne : a ≠ it) (its : Array Value) : Draws prog w A it [it, a] its.size (fun i v => its[i]? = some v) (fun i h => k.at_ h it a i ∧ k.stands h a its) := by
  cases k
  · exact Draws.list hA it a ne its
  · exact Draws.tuple hA it a ne its
theorem first {h : Heap} {it a : Addr} (e : h.get? it = some (k.head a)) : k.at_ h it a 0 := by
  cases k <;> exact ⟨_, e, rfl, rfl⟩
theorem lives {h : Heap} {it a : Addr} {i : Nat} (e : k.at_ h it a i) : ∃ o, h.get? it = some o ∧ ∀ v, o.data ≠ .cell v := by
  cases k
  all_goals
    obtain ⟨o, e1, _, e2⟩ := e
    exact ⟨o, e1, fun v z => by rw [e2] at z; cases z⟩
theorem moved {h h' : Heap} {it a : Addr} {i : Nat} (e : k.at_ h it a i) (m : ∀ o, h.get? it = some o → h'.get? it = some o) : k.at_ h' it a i := by
  cases k
  · exact Heap.IsListIter.at e m
  · exact Heap.IsTupleIter.at e m
theorem known {X : Cx} {pins : List (Addr × Obj)} {σ : L2.St} {H : Hp} {s : Shared} {a : Addr} {xs : List V} (I : Inv X pins σ H s) (e : k.sq X.K H a xs) : ∃ its : List Value, Vals xs its ∧ k.stands s.heap a its.toArray ∧ a < s.heap.objs.size := by
  cases k
  · obtain ⟨its, v, p, _⟩ := I.list e
    exact ⟨its, v, p.isList, p.lt⟩
  · obtain ⟨its, v, p, _⟩ := I.tuple e
    obtain ⟨o, e1, _⟩ := id p
    exact ⟨its, v, p, Heap.lt_size e1⟩
theorem one {X : Cx} {pins : List (Addr × Obj)} {σ : L2.St} {H : Hp} {s : Shared} {a : Addr} {xs ys : List V} (I : Inv X pins σ H s) (e : k.sq X.K H a xs) (e' : k.sq X.K H a ys) : xs = ys := by
  cases k
  · exact I.list_inj e e'
  · exact I.tuple_inj e e'
end Feed
/-- the walk over zip of two feeds of one length -/
def ItZ (K : PySem.W.Frag) (k m : Feed) (a b : Addr) : It where
  go i H := ∃ xs ys x y, k.sq K H a xs ∧ m.sq K H b ys ∧ xs[i]? = some x ∧ ys[i]? = some y
  yld i H v H' := ∃ T x y, v = .ref T ∧ H T = none ∧ H' = upd H T (.tup [x, y]) ∧ (∀ xs, k.sq K H a xs → xs[i]? = some x) ∧ ∀ ys, m.sq K H b ys → ys[i]? = some y
  stop i H := ∃ xs ys, k.sq K H a xs ∧ m.sq K H b ys ∧ xs.length = i ∧ ys.length = i
theorem walkZ {K : PySem.W.Frag} {k m : Feed} {a b : Addr} {xs ys : List V} (hl : xs.length = ys.length) : Walk (ItZ K k m a b) xs.length (fun H => k.sq K H a xs ∧ m.sq K H b ys) (YPair (fun i => xs[i]?) fun i => ys[i]?) where
  goes := fun i H hi g => ⟨xs, ys, xs[i], ys[i]'(hl ▸ hi), g.1, g.2, List.getElem?_eq_getElem hi, List.getElem?_eq_getElem (hl ▸ hi)⟩
  stops := fun H g => ⟨xs, ys, g.1, g.2, rfl, hl.symm⟩
  yields := fun i H v H' _ g ⟨T, x, y, e1, e2, e3, e4, e5⟩ => ⟨T, x, y, e1, e2, e3, e4 xs g.1, e5 ys g.2⟩
/-- what holds of each of five cells holds of any of them -/
theorem of_five {z p q i j c : Addr} {R : Addr → Prop} (hc : c ∈ [z, p, q, i, j]) (hz : R z) (hp : R p) (hq : R q) (hi : R i) (hj : R j) : R c := by
  simp only [List.mem_cons, List.not_mem_nil, or_false] at hc
  rcases hc with e | e | e | e | e <;> (rw [e]; assumption)
theorem turnZ {P : Program} {w : World} {K : PySem.W.Frag} {elts : List Expr} {kk : Nat} {tpos : Pos} {k m : Feed} {a b z p q i1 i2 : Addr} (S : ZipSep2 z p q i1 i2 [i1, a] [i2, b]) (na : a ≠ i1) (nb : b ≠ i2) :
    Turn P w K (.Tuple elts kk tpos) (ItZ K k m a b) [z, p, q, i1, i2] z fun i h => IsZip h z p q .none ∧ IsTupOf2 h p (.ref i1) (.ref i2) ∧ (∃ x y, IsTupOf2 h q x y) ∧ k.at_ h i1 a i ∧ m.at_ h i2 b i where
  mem := List.mem_cons_self
  obj := by
    rintro i h ⟨gz, gp, ⟨x, y, gq⟩, g1, g2⟩ c hc
    exact of_five (R := fun c => ∃ o, h.get? c = some o ∧ ∀ v, o.data ≠ .cell v) hc ⟨_, gz, fun _ e => nomatch e⟩ ⟨_, gp, fun _ e => nomatch e⟩ ⟨_, gq, fun _ e => nomatch e⟩ (k.lives g1) (m.lives g2)
  keep := by
    rintro i h h' ⟨gz, gp, ⟨x, y, gq⟩, g1, g2⟩ same
    exact ⟨same _ (by simp) _ gz, same _ (by simp) _ gp, ⟨x, y, same _ (by simp) _ gq⟩, k.moved g1 (same _ (by simp)), m.moved g2 (same _ (by simp))⟩
  item := by
    rintro X rfl rfl rfl calm i pins s σ H E I free ⟨gz, gp, ⟨x0, y0, gq⟩, g1, g2⟩ ⟨xs, ys, x, y, hxs, hys, hx, hy⟩
    obtain ⟨us, rel1, st1, _⟩ := k.known I hxs
    obtain ⟨vs, rel2, st2, _⟩ := m.known I hys
    obtain ⟨u, hu, ru⟩ := rel1.get hx
    obtain ⟨v, hv, rv⟩ := rel2.get hy
    have hA : X.A.in1.handled = none := I.ok.hd calm
    have zlt := Heap.lt_size gz
    have n1 : i < us.toArray.size := by
      rw [List.size_toArray]
      exact (List.getElem?_eq_some_iff.mp hu).1
    have n2 : i < vs.toArray.size := by
      rw [List.size_toArray]
      exact (List.getElem?_eq_some_iff.mp hv).1
    refine wpAny_pyNext_zipD2_item S (k.draws hA na _) (m.draws hA nb _) gz gp gq ⟨g1, st1⟩ ⟨g2, st2⟩ n1 n2 ?_
    rintro u' v' h1 t1 eu ev gz1 gq1 ⟨d1, _⟩ ⟨d2, _⟩ gT _ same
    obtain rfl : u = u' := Option.some.inj (hu.symm.trans (by simpa using eu))
    obtain rfl : v = v' := Option.some.inj (hv.symm.trans (by simpa using ev))
    refine ⟨_, rfl, wpAny_letOwnedTupleGo_zip (s := { s with heap := h1, toks := t1 }) gz1 fun h2 gz2 sb => ?_⟩
    have all : ∀ c o, c ∉ [z, p, q, i1, i2] → s.heap.get? c = some o → h2.get? c = some o := fun c o hc e => by
      simp only [List.mem_cons, List.not_mem_nil, or_false, not_or] at hc
      rw [sb.2 c hc.1]
      exact same c o hc.1 hc.2.2.1 hc.2.2.2.1 hc.2.2.2.2 e
    have pair : h2.get? s.heap.objs.size = some { cls := .type "tuple", data := .seq #[u, v] } := (sb.2 _ (Nat.ne_of_gt zlt)).trans gT
    have made : ObjOk X.prog X.w (upd H s.heap.objs.size (.tup [x, y])) h2 s.heap.objs.size (.tup [x, y]) := ⟨by show 2 ≤ sizeLine; decide, [u, v], .cons ru (.cons rv .nil), _, pair, rfl, _, rfl⟩
    refine ⟨.ref s.heap.objs.size, _, I.turnedNew (t' := t1) all free (Nat.le_refl _) made, rfl, ?_, ?_, ?_⟩
    · exact ⟨_, x, y, rfl, I.hok.fresh (Nat.le_refl _), rfl, fun l e => k.one I e hxs ▸ hx, fun l e => m.one I e hys ▸ hy⟩
    · exact ⟨gz2, (sb.2 _ S.TIz).trans (same _ _ S.TIz S.TITO S.TIi1 S.TIi2 gp), ⟨u, v, (sb.2 _ S.TOz).trans gq1⟩, k.moved d1 fun o e => (sb.2 _ S.zi1.symm).trans e, m.moved d2 fun o e => (sb.2 _ S.zi2.symm).trans e⟩
    · intro c hc
      have old : c < s.heap.objs.size := by
        obtain ⟨o1, e1, _⟩ := k.lives g1
        obtain ⟨o2, e2, _⟩ := m.lives g2
        exact of_five (R := fun c => c < s.heap.objs.size) hc zlt (Heap.lt_size gp) (Heap.lt_size gq) (Heap.lt_size e1) (Heap.lt_size e2)
      rw [upd_ne (Nat.ne_of_lt old)]
      exact (free c hc).1
  done := by
    rintro X rfl rfl rfl calm i pins s σ H E I free ⟨gz, gp, ⟨x0, y0, gq⟩, g1, g2⟩ ⟨xs, ys, hxs, hys, n1, n2⟩
    obtain ⟨us, rel1, st1, _⟩ := k.known I hxs
    obtain ⟨vs, rel2, st2, _⟩ := m.known I hys
    have hA : X.A.in1.handled = none := I.ok.hd calm
    have z1 : us.toArray.size = i := by rw [List.size_toArray, ← rel1.length, n1]
    have z2 : vs.toArray.size = i := by rw [List.size_toArray, ← rel2.length, n2]
    refine wpAny_pyNext_zipD2_end S (k.draws hA na _) (m.draws hA nb _) gz gp gq ⟨g1, st1⟩ ⟨g2, st2⟩ (by omega) (by omega) (by omega) fun h1 t1 same => ⟨rfl, I.turnedL (t' := t1) (fun c o hc e => ?_) free⟩
    simp only [List.mem_cons, List.not_mem_nil, or_false, not_or] at hc
    exact same c o hc.1 hc.2.2.1 hc.2.2.2.1 hc.2.2.2.2 e
  self := fun _ _ _ _ _ g e => wpAny_pyIter_zip g.1 e
def iZ (K : PySem.W.Frag) (k m : Feed) (ta : TA) : TI := fun σ H R => ta σ H fun vs H1 => ∃ a b xs ys, vs = [.ref a, .ref b] ∧ k.sq K H1 a xs ∧ m.sq K H1 b ys ∧ R (ItZ K k m a b) H1
theorem pi_Z {X : Cx} {e e2 : Expr} {ta : TA} {pz pos tpos : Pos} {elts : List Expr} {kk : Nat} (k m : Feed) (hg : Gl X "zip") (hm : X.mg "zip" = none) (ha : PA X [e, e2] ta)
    (star : starEach [e, e2] X.env = (false, eval e X.env) :: starEach [e2] X.env := by rfl) (plain : (backTo pos (starEach [e2] X.env)).any (·.1) = false := by rfl) :
    PI X (.Tuple elts kk tpos) (.Call (.Name "zip" pz) [e, e2] [] pos) (iZ X.K k m ta) where
  run := by
    intro pins s σ H R I h
    refine Call_ (ld_blt I hg hm PyProof.Rows.boot_zip (PyProof.Rows.callWith_type1 (thn (ha.run pos pins s σ H _ I h) ?_) star plain))
    rintro us s1 ⟨vs, H1, I1, rel, a, b, xs, ys, rfl, hxs, hys, r⟩
    obtain ⟨ua, ub, rfl, ra, rb⟩ := vals2 rel
    cases ra
    cases rb
    obtain ⟨its1, _, st1, la⟩ := k.known I1 hxs
    obtain ⟨its2, _, st2, lb⟩ := m.known I1 hys
    have S : ZipSep2 (s1.heap.objs.size + 4) (s1.heap.objs.size + 2) (s1.heap.objs.size + 3) s1.heap.objs.size (s1.heap.objs.size + 1) [s1.heap.objs.size, a] [s1.heap.objs.size + 1, b] :=
      zip_sep2 (fun c hc => by rw [List.mem_singleton.mp hc]; exact la) (fun c hc => by rw [List.mem_singleton.mp hc]; exact lb)
    have far : ∀ c, s1.heap.objs.size ≤ c → FpOk X pins H1 c := fun c hc => I1.fpOk hc (I1.hok.fresh hc)
    refine zip_begins2 (k.begins a _) (m.begins b _) st1 st2 fun h1 gz gp gq f1 f2 _ same => wpAny_pyIter_zip gz ?_
    refine ⟨_, _, _, _, H1, rfl, I1.kept (t' := s1.toks) same, turnZ S (Nat.ne_of_lt la) (Nat.ne_of_lt (Nat.lt_succ_of_lt lb)), ⟨gz, gp, ⟨_, _, gq⟩, k.first f1, m.first f2⟩, fun c hc => ?_, r⟩
    exact of_five hc (far _ (Nat.le_add_right _ _)) (far _ (Nat.le_add_right _ _)) (far _ (Nat.le_add_right _ _)) (far _ (Nat.le_refl _)) (far _ (Nat.le_add_right _ _))
/-! ### sum of a tuple of ints -/
def rSumT (K : PySem.W.Frag) : List V → Hp → VK → Prop := fun vs H Q => ∃ (t : Addr) (ns : List Int), vs = [V.ref t] ∧ SqT K H t (ns.map V.int) ∧ Q (.int ns.sum) H
theorem cr_sumT {X : Cx} (calm : X.calm = true) : CallR X (.builtin "sum") (rSumT X.K) := by
  rintro pins s σ H vs us Q I rel ⟨t, ns, rfl, hs, want⟩
  obtain ⟨its, vals, tup, _⟩ := I.tuple hs
  rw [Vals.ref1 rel]
  have aI : IntsAre its ns := vals.ints
  obtain ⟨zs, ez⟩ := aI.allInts.items
  have sum_is : preSum (numAt zs) zs.size = ns.sum := by
    rw [preSum_eq, List.take_of_length_le (by simp), ← nums_intItems, ← ez]
    exact congrArg List.sum aI.numsOf
  have tup2 : s.heap.IsTuple t (intItems zs) := ez ▸ tup
  refine PySem.W.ktm_sumG (I.ok.hd calm) tup2 fun h1 k1 t1 same => ?_
  rw [sum_is]
  exact ⟨.int _, H, I.kept same, ⟨_, rfl⟩, want⟩
/-! ### xs[i] read by values, for xs[i] += e -/
def rGetL (K : PySem.W.Frag) : V → V → Hp → VK → Prop := fun x y H Q => ∃ p xs i v, x = .ref p ∧ y = .int i ∧ 0 ≤ i ∧ SqL K H p xs ∧ atI xs i = some v ∧ Q v H
theorem get_list {X : Cx} : PGet X (rGetL X.K) := by
  rintro pins s σ H _ _ ov iv Q I ro ri ⟨p, xs, i, v, rfl, rfl, i0, hxs, hat, want⟩
  cases ro
  obtain ⟨t, rfl⟩ := ri
  obtain ⟨its, vals, plain, small⟩ := I.list hxs
  obtain ⟨j, sj, gj, _, _, hi⟩ := atI_get hat
  obtain ⟨u, gu, ru⟩ := vals.get gj
  have ej : i.toNat = j := Option.some.inj ((seqIndex_of i0 hi).symm.trans sj)
  have line := line63
  exact wpAny_getItem_list plain.isList i0 (by omega) (by rw [ej]; simpa using gu) ⟨v, H, I, ru, want⟩
/-! ### f(k = v, ..), keywords alone -/
def tCallN0 (m : Nat) (sp : Sp) (gV : List V → List V → List V) (E : XK) (tk : TA) : TE := fun σ H Q => tk σ H fun zs H2 => zs.length = m ∧ sp (gV [] zs) H2 Q E
theorem pe_callN0 {X : Cx} {CX : CXT} {k : Nat} {f : Addr} {fd : FuncData} {ps ks : List Str} {sp : Sp} {E : XK} {x : Str} {p pos : Pos} {kws : List Keyword} {tk : TA} {g : List Value → List Value → List Value} {gV : List V → List V → List V}
    (F : FnOk X.prog X.w X.K X.mg X.base CX k f fd ps sp) (room : Room k X.A) (glob : Gl X x) (is : X.mg x = some (.ref f)) (kp : PySem.W.keepIn X.K (.ref f) = true) (bind : KBn X.K fd ps 0 ks g gV) (pass : Passes CX X E) (args : PK X kws tk)
    (named : (backToKw pos (keywordEach kws X.env)).all (·.1.isSome) = true := by rfl) (names : (backToKw pos (keywordEach kws X.env)).filterMap (·.1) = ks := by rfl)
    (nodebug : (x == ("__debug__" : Str)) = false := by decide) (plain : ((backTo pos (starEach [] X.env)).any (·.1) || (backToKw pos (keywordEach kws X.env)).any (·.1.isNone)) = false := by rfl) :
    PE X (.Call (.Name x p) [] kws pos) (tCallN0 ks.length sp gV E tk) where
  run := by
    intro pins s σ H Q I h
    refine wpAny_Call_Name_kw (ld_glob I glob is (PySem.W.callWith_KW0 (h₀ := X.base) I.ok.mod.kin kp named (thn (args.run pos pins s σ H _ I h) ?_) plain) nodebug)
    rintro ws s2 ⟨zs, H2, I2, rel, len, want⟩
    rw [names]
    exact ⟨I2.kIn, run_fnN F room bind pass I2 .nil rel rfl len want⟩
/-! ### t[::-1] of a tuple -/
section
variable {prog : Program} {w : World} {A : Around} {E : Value → Shared → Prop} {s : Shared}
theorem back_parts {sl : Addr} {v0 v1 v2 : Value} {n : Nat} {R : Int × Int × Nat → Shared → Prop} (cut : s.heap.IsSliceOf sl v0 v1 v2) (p0 : IsPart v0 none) (p1 : IsPart v1 none) (p2 : IsPart v2 (some (-1))) (want : R ((n : Int) - 1, -1, n) s) :
    wpAny (model prog w) A (Builtin.Slice.sliceApplied (.ref sl) (pure (n : Int))) R E s := by
  obtain ⟨o, eo, _, eds⟩ := cut
  have num : Builtin.Slice.slicePlaces ((n : Int) - 1) (-1) (-1) = n := by
    show (if (-1 : Int) > 0 then _ else if (n : Int) - 1 > -1 then ((n : Int) - 1 - -1 - 1) / (- -1) + 1 else 0).toNat = n
    rw [if_neg (by decide)]
    by_cases some : (n : Int) - 1 > -1
    · rw [if_pos some, show (- -1 : Int) = 1 by decide, Int.ediv_one]
      omega
    · rw [if_neg some]
      omega
  show wpAny _ _ (Builtin.Slice.sliceFields (.ref sl) >>= _) _ _ _
  refine wpAny_bind (wpAny_bind (wpAny_field eo eds (x := v0) rfl (wpAny_bind (wpAny_field eo eds (x := v1) rfl (wpAny_bind (wpAny_field eo eds (x := v2) rfl (wpAny_pure (wpAny_bind (HT.slicePart_ p2 ?_)))))))))
  show wpAny _ _ (if ((-1 : Int) == 0) = true then _ else _) _ _ _
  rw [if_neg (by decide)]
  refine wpAny_bind (HT.slicePart_ p0 (wpAny_bind (HT.slicePart_ p1 (wpAny_bind (wpAny_pure (wpAny_pure ?_))))))
  show R ((n : Int) - 1, -1, Builtin.Slice.slicePlaces ((n : Int) - 1) (-1) (-1)) s
  rw [num]
  exact want
theorem back_items (xs : Array Value) : ((List.range xs.size).filterMap fun (m : Nat) => xs[(((xs.size : Nat) : Int) - 1 + (m : Int) * (-1)).toNat]?).toArray = xs.toList.reverse.toArray := by
  have e : (fun (m : Nat) => xs[(((xs.size : Nat) : Int) - 1 + (m : Int) * (-1)).toNat]?) = (xs[·]?) ∘ fun m => xs.size - 1 - m := funext fun m => by
    show xs[(((xs.size : Nat) : Int) - 1 + (m : Int) * (-1)).toNat]? = xs[xs.size - 1 - m]?
    congr 1
    omega
  rw [e, ← List.filterMap_map, PySem.W.krv_range, List.filterMap_reverse, PySem.W.krv_all xs]
theorem tuple_back {t sl : Addr} {its : Array Value} {v0 v1 v2 : Value} {R : Value → Shared → Prop} (tup : IsTup s.heap t its) (cut : s.heap.IsSliceOf sl v0 v1 v2) (p0 : IsPart v0 none) (p1 : IsPart v1 none) (p2 : IsPart v2 (some (-1))) (small : its.size ≤ sizeLine)
    (want : R (.ref s.heap.objs.size) { s with heap := s.heap.push { cls := .type "tuple", data := .seq its.toList.reverse.toArray } }) : wpAny (model prog w) A (getItem (.ref t) (.ref sl)) R E s := by
  obtain ⟨o, eo, ecs, _⟩ := id cut
  have isSl : s.TypeIs (.ref sl) "slice" := ⟨o, eo, ecs⟩
  have fits : sizeOk (.seq its.toList.reverse.toArray) := by
    show its.toList.reverse.toArray.size ≤ sizeLine
    simpa using small
  unfold getItem
  (try with_reducible refine wpAny_holding ?_); (first | refine wpAny_bind (wpAny_pure ?_) | skip)
  refine wpAny_bind (wpAny_sequenceKey tup.typeIs (by decide) (wpAny_bind (wpAny_callSpecial?_slot (name := Str.ofString "__getitem__") tup.typeIs PyProof.Rows.slot_tuple_getitem (wpAny_call_entry PyProof.Rows.slot_tuple_getitem tup.typeIs entry_tuple_getitem ?_ (args_tuple_getitem _ _)))))
  refine wpAny_bind (m := Builtin.Tuple.tupleItemsOf (.ref t)) (tupleItemsOf_ tup (wpAny_bind (wpAny_typeOf isSl ?_)))
  rw [if_pos (by decide)]
  refine wpAny_bind (back_parts cut p0 p1 p2 ?_)
  show wpAny _ _ (if ((((its.size : Int) - 1) == 0 && (-1 : Int) == 1 && its.size == its.size) = true) then _ else _) _ _ _
  rw [if_neg (by simp), back_items]
  first
    | exact wpAny_bind (m := Builtin.Tuple.tupleExact _) (wpAny_newObj_type (wpAny_pure ⟨_, rfl, wpAny_pure want⟩) fits)
    | exact wpAny_bind (m := Builtin.Tuple.tupleExact _) (wpAny_newObj_type (wpAny_bind (wpAny_pure (wpAny_pure ⟨_, rfl, wpAny_pure want⟩))) fits)
end
def tRevT (K : PySem.W.Frag) (te : TE) : TE := fun σ H Q => te σ H fun x H1 => ∃ t xs, x = .ref t ∧ SqT K H1 t xs ∧ ∀ p, H1 p = none → Q (.ref p) (upd H1 p (.tup xs.reverse))
theorem pe_revT {X : Cx} {e : Expr} {te : TE} {k : Nat} {q1 q2 q3 pos : Pos} (he : PE X e te) : PE X (.Subscript e (.Slice none none (some (.UnaryOp .USub (.Constant (.int 1) k q1) q2)) q3) pos) (tRevT X.K te) where
  run := by
    intro pins s σ H Q I h
    have minus : PO X (some (.UnaryOp .USub (.Constant (.int 1) k q1) q2)) (tPart (tUn (rU fun i => .int (-i)) (tC (.int 1)))) := po_some (pe_un un_neg pe_int)
    refine Subscript_ (thn (he.run pins s σ H _ I h) ?_)
    rintro _ s1 ⟨_, H1, I1, rel, t, xs, rfl, hxs, want⟩
    cases rel
    refine wpAny_Slice (thn (po_none.run pins s1 σ H1 (fun o G => o = none ∧ G = H1) I1 ⟨rfl, rfl⟩) ?_)
    rintro v0 s2 ⟨_, _, I2, p0, rfl, rfl⟩
    refine thn (po_none.run pins s2 σ _ (fun o G => o = none ∧ G = _) I2 ⟨rfl, rfl⟩) ?_
    rintro v1 s3 ⟨_, _, I3, p1, rfl, rfl⟩
    refine thn (minus.run pins s3 σ _ (fun o G => o = some (-1) ∧ G = _) I3 ⟨1, rfl, -1, rfl, rfl, rfl⟩) ?_
    rintro v2 s4 ⟨_, _, I4, p2, rfl, rfl⟩
    have I5 := I4.kept (h' := s4.heap.push { cls := .type "slice", data := .fields #[v0, v1, v2] }) (t' := s4.toks) fun c o g => Heap.get?_push_of_some _ g
    obtain ⟨its, vals, tup, small⟩ := I5.tuple hxs
    refine tail_any (ops := [.ref t, .ref s4.heap.objs.size]) tup.typeIs PyProof.Rows.slot_tuple_getitem.lookup (tuple_back tup (Heap.IsSliceOf.new _ v0 v1 v2) p0 p1 p2 (by rw [List.size_toArray, ← vals.length]; exact small) ?_) (by with_unfolding_all rfl)
    exact ⟨.ref _, _, I5.laid (t' := s4.toks) (o := .tup xs.reverse) (fun c o g => Heap.get?_push_of_some _ g) (Nat.le_refl _) ⟨by rw [List.length_reverse]; exact small, _, vals.reverse, IsTup.new _ _⟩, rfl, want _ (I5.hok.fresh (Nat.le_refl _))⟩
end Wd

set_option linter.all false
namespace WdM
/-! ### pennies by weights -/
def deal (a T : Int) : Int → List Int → List Int
  | _, [] => []
  | k, w :: ws => if 0 < k ∧ a * w % T ≠ 0 then (a * w / T + 1) :: deal a T (k - 1) ws else a * w / T :: deal a T k ws
def bases (a T : Int) (ws : List Int) : List Int := ws.map fun w => a * w / T
def cnt (a T : Int) : List Int → Int
  | [] => 0
  | w :: ws => (if a * w % T ≠ 0 then 1 else 0) + cnt a T ws
def dealt (a : Int) (ws : List Int) : List Int := deal a ws.sum (a - (bases a ws.sum ws).sum) ws

theorem deal_len (a T : Int) : ∀ (k : Int) (ws : List Int), (deal a T k ws).length = ws.length
  | _, [] => rfl
  | k, w :: ws => by
    unfold deal
    split
    · rw [List.length_cons, deal_len a T (k - 1) ws, List.length_cons]
    · rw [List.length_cons, deal_len a T k ws, List.length_cons]
theorem dealt_len (a : Int) (ws : List Int) : (dealt a ws).length = ws.length := deal_len _ _ _ _
theorem cnt_cons (a T w : Int) (ws : List Int) : cnt a T (w :: ws) = (if a * w % T ≠ 0 then 1 else 0) + cnt a T ws := rfl
theorem cnt_nonneg (a T : Int) : ∀ ws, 0 ≤ cnt a T ws
  | [] => Int.le_refl 0
  | w :: ws => by
    have := cnt_nonneg a T ws
    unfold cnt
    split <;> omega
theorem deal_sum (a T : Int) : ∀ (k : Int) (ws : List Int), 0 ≤ k → (deal a T k ws).sum = (bases a T ws).sum + min k (cnt a T ws)
  | k, [], hk => by
    show (0 : Int) = 0 + min k 0
    omega
  | k, w :: ws, hk => by
    have hb : (bases a T (w :: ws)).sum = a * w / T + (bases a T ws).sum := by unfold bases; rw [List.map_cons, List.sum_cons]
    have hc := cnt_nonneg a T ws
    unfold deal
    split
    · rename_i h
      have ih := deal_sum a T (k - 1) ws (by omega)
      rw [List.sum_cons, ih, hb]
      rw [cnt_cons, if_pos h.2]
      generalize a * w / T = q
      omega
    · rename_i h
      have ih := deal_sum a T k ws hk
      rw [List.sum_cons, ih, hb]
      rw [cnt_cons]
      generalize a * w / T = q
      by_cases hz : a * w % T ≠ 0
      · have : ¬ 0 < k := fun z => h ⟨z, hz⟩
        rw [if_pos hz]
        omega
      · rw [if_neg hz]
        omega
def rems (a T : Int) (ws : List Int) : List Int := ws.map fun w => a * w % T
theorem bases_rems (a T : Int) : ∀ ws : List Int, T * (bases a T ws).sum + (rems a T ws).sum = a * ws.sum
  | [] => by
    show T * 0 + 0 = a * 0
    simp
  | w :: ws => by
    have ih := bases_rems a T ws
    have e : T * (a * w / T) + a * w % T = a * w := Int.mul_ediv_add_emod (a * w) T
    unfold bases rems at *
    rw [List.map_cons, List.map_cons, List.sum_cons, List.sum_cons, List.sum_cons, Int.mul_add, Int.mul_add]
    omega
theorem rems_bound (a T : Int) (hT : 0 < T) : ∀ ws : List Int, 0 ≤ (rems a T ws).sum ∧ (rems a T ws).sum ≤ (T - 1) * cnt a T ws
  | [] => by
    constructor
    · exact Int.le_refl 0
    · show (0 : Int) ≤ (T - 1) * 0
      simp
  | w :: ws => by
    have ih := rems_bound a T hT ws
    have h0 := Int.emod_nonneg (a * w) (show T ≠ 0 by omega)
    have h1 := Int.emod_lt_of_pos (a * w) hT
    unfold rems at *
    rw [List.map_cons, List.sum_cons]
    rw [cnt_cons]
    generalize hr : a * w % T = r at *
    by_cases hz : r ≠ 0
    · rw [if_pos hz, Int.mul_add, Int.mul_one]
      omega
    · rw [if_neg hz]
      have : r = 0 := by omega
      subst this
      rw [Int.zero_add, Int.zero_add]
      omega
theorem lack_bounds (a : Int) (ws : List Int) (hT : 0 < ws.sum) : 0 ≤ a - (bases a ws.sum ws).sum ∧ a - (bases a ws.sum ws).sum ≤ cnt a ws.sum ws := by
  have h1 := bases_rems a ws.sum ws
  have ⟨h2, h3⟩ := rems_bound a ws.sum hT ws
  have hc := cnt_nonneg a ws.sum ws
  generalize ws.sum = T at *
  generalize (bases a T ws).sum = B at *
  generalize (rems a T ws).sum = R at *
  generalize cnt a T ws = c at *
  have e : T * (a - B) = R := by
    rw [Int.mul_sub]
    have : a * T = T * a := Int.mul_comm _ _
    omega
  constructor
  · rcases Int.lt_or_le (a - B) 0 with h | h
    · have : T * (a - B) < 0 := Int.mul_neg_of_pos_of_neg hT h
      omega
    · exact h
  · rcases Int.lt_or_le c (a - B) with h | h
    · have h4 : T * (c + 1) ≤ T * (a - B) := Int.mul_le_mul_of_nonneg_left (by omega) (by omega)
      have h5 : (T - 1) * c = T * c - c := by rw [Int.sub_mul, Int.one_mul]
      rw [Int.mul_add, Int.mul_one] at h4
      omega
    · exact h
theorem dealt_sum (a : Int) (ws : List Int) (hT : 0 < ws.sum) : (dealt a ws).sum = a := by
  have ⟨h1, h2⟩ := lack_bounds a ws hT
  unfold dealt
  rw [deal_sum _ _ _ _ h1]
  omega
/-- each is its exact part, rounded down or up -/
theorem deal_get (a T : Int) : ∀ (k : Int) (ws : List Int) (i : Nat) (v : Int), (deal a T k ws)[i]? = some v → ∃ w, ws[i]? = some w ∧ (v = a * w / T ∨ v = a * w / T + 1)
  | _, [], i, v, h => by unfold deal at h; simp at h
  | k, w :: ws, i, v, h => by
    unfold deal at h
    split at h
    · cases i with
      | zero => exact ⟨w, rfl, .inr (by simpa using h.symm)⟩
      | succ i => exact deal_get a T _ ws i v (by simpa using h)
    · cases i with
      | zero => exact ⟨w, rfl, .inl (by simpa using h.symm)⟩
      | succ i => exact deal_get a T _ ws i v (by simpa using h)
/-! ### the same by other numbers of the same shares -/
theorem sum_scale (p : Int) : ∀ ws : List Int, (ws.map (p * ·)).sum = p * ws.sum
  | [] => by simp
  | w :: ws => by rw [List.map_cons, List.sum_cons, List.sum_cons, sum_scale p ws, Int.mul_add]
theorem part_scale {a T w p : Int} (hp : 0 < p) : a * (p * w) / (p * T) = a * w / T := by
  rw [show a * (p * w) = p * (a * w) by rw [← Int.mul_assoc, Int.mul_comm a p, Int.mul_assoc]]
  exact Int.mul_ediv_mul_of_pos _ _ hp
theorem rem_scale {a T w p : Int} (hp : 0 < p) : (a * (p * w) % (p * T) ≠ 0) ↔ (a * w % T ≠ 0) := by
  rw [show a * (p * w) = p * (a * w) by rw [← Int.mul_assoc, Int.mul_comm a p, Int.mul_assoc], Int.mul_emod_mul_of_pos _ _ hp]
  constructor
  · intro h z
    exact h (by rw [z, Int.mul_zero])
  · intro h z
    rcases Int.mul_eq_zero.mp z with q | q
    · omega
    · exact h q
theorem deal_scale {a T p : Int} (hp : 0 < p) : ∀ (k : Int) (ws : List Int), deal a (p * T) k (ws.map (p * ·)) = deal a T k ws
  | _, [] => rfl
  | k, w :: ws => by
    rw [List.map_cons]
    unfold deal
    rw [part_scale hp]
    by_cases h : 0 < k ∧ a * w % T ≠ 0
    · rw [if_pos h, if_pos ⟨h.1, (rem_scale hp).mpr h.2⟩, deal_scale hp (k - 1) ws]
    · rw [if_neg h, if_neg (fun z => h ⟨z.1, (rem_scale hp).mp z.2⟩), deal_scale hp k ws]
theorem bases_scale {a T p : Int} (hp : 0 < p) (ws : List Int) : bases a (p * T) (ws.map (p * ·)) = bases a T ws := by
  unfold bases
  rw [List.map_map]
  apply List.map_congr_left
  intro w _
  exact part_scale hp
theorem dealt_scale {a p : Int} (hp : 0 < p) (ws : List Int) : dealt a (ws.map (p * ·)) = dealt a ws := by
  unfold dealt
  rw [sum_scale, bases_scale hp, deal_scale hp]
theorem dealt_like {a p q : Int} (hp : 0 < p) (hq : 0 < q) {ws ws' : List Int} (h : ws.map (p * ·) = ws'.map (q * ·)) : dealt a ws = dealt a ws' := by
  rw [← dealt_scale hp ws, h, dealt_scale hq]
/-! ### weights of fractions -/
def lcmF : Int → List (Int × Int) → Int
  | b, [] => b
  | b, f :: fs => lcmF (b / (Int.gcd b f.2 : Int) * f.2) fs
def wts (L : Int) (fs : List (Int × Int)) : List Int := fs.map fun f => f.1 * (L / f.2)
def wtsOf (fs : List (Int × Int)) : List Int := wts (lcmF 1 fs) fs
structure Lcm (b L : Int) (fs : List (Int × Int)) : Prop where
  pos : 0 < L
  dvd : b ∣ L
  all : ∀ f ∈ fs, f.2 ∣ L
theorem step_lcm {b d : Int} (hb : 0 < b) (hd : 0 < d) : 0 < b / (Int.gcd b d : Int) * d ∧ b ∣ b / (Int.gcd b d : Int) * d ∧ d ∣ b / (Int.gcd b d : Int) * d := by
  have g0 : (0 : Int) < (Int.gcd b d : Int) := by
    have : Int.gcd b d ≠ 0 := fun z => by
      have := (Int.gcd_eq_zero_iff.mp z).1
      omega
    omega
  obtain ⟨x, hx⟩ := Int.gcd_dvd_left b d
  obtain ⟨y, hy⟩ := Int.gcd_dvd_right b d
  generalize hg : (Int.gcd b d : Int) = g at *
  have e : b / g = x := by rw [hx]; exact Int.mul_ediv_cancel_left x (by omega)
  have xp : 0 < x := by
    rcases Int.lt_or_le 0 x with h | h
    · exact h
    · have : g * x ≤ 0 := Int.mul_nonpos_of_nonneg_of_nonpos (by omega) h
      omega
  rw [e]
  refine ⟨Int.mul_pos xp hd, ⟨y, ?_⟩, ⟨x, Int.mul_comm _ _⟩⟩
  rw [hy, hx, ← Int.mul_assoc, Int.mul_comm x g]
theorem lcm_is : ∀ (fs : List (Int × Int)) (b : Int), 0 < b → (∀ f ∈ fs, 0 < f.2) → Lcm b (lcmF b fs) fs
  | [], b, hb, _ => ⟨hb, Int.dvd_refl b, fun f h => by cases h⟩
  | f :: fs, b, hb, h => by
    have hd := h f List.mem_cons_self
    have ⟨s1, s2, s3⟩ := step_lcm hb hd
    have ih := lcm_is fs _ s1 (fun g hg => h g (List.mem_cons_of_mem _ hg))
    refine ⟨ih.pos, Int.dvd_trans s2 ih.dvd, fun g hg => ?_⟩
    rcases List.mem_cons.mp hg with rfl | hg
    · exact Int.dvd_trans s3 ih.dvd
    · exact ih.all g hg
theorem wt_eq {L t d : Int} (h : d ∣ L) : t * (L / d) * d = t * L := by
  rw [Int.mul_assoc, Int.ediv_mul_cancel h]
/-- two rows of fractions that stand as B to A -/
theorem wts_like {A B L L' : Int} (hA : 0 < A) (hB : 0 < B) : ∀ (fs fs' : List (Int × Int)), fs.length = fs'.length → (∀ f ∈ fs, 0 < f.2 ∧ f.2 ∣ L) → (∀ f ∈ fs', 0 < f.2 ∧ f.2 ∣ L') →
    (∀ (i : Nat) (f f' : Int × Int), fs[i]? = some f → fs'[i]? = some f' → f'.1 * f.2 * B = f.1 * A * f'.2) → (wts L fs).map (A * L' * ·) = (wts L' fs').map (B * L * ·)
  | [], [], _, _, _, _ => rfl
  | f :: fs, f' :: fs', hl, h1, h2, h3 => by
    have ih := wts_like (L := L) (L' := L') hA hB fs fs' (by simpa using hl) (fun g hg => h1 g (List.mem_cons_of_mem _ hg)) (fun g hg => h2 g (List.mem_cons_of_mem _ hg)) (fun i g g' a b => h3 (i + 1) g g' (by simpa using a) (by simpa using b))
    have e := h3 0 f f' rfl rfl
    have ⟨p1, d1⟩ := h1 f List.mem_cons_self
    have ⟨p2, d2⟩ := h2 f' List.mem_cons_self
    unfold wts at *
    rw [List.map_cons, List.map_cons, List.map_cons, List.map_cons, ih]
    congr 1
    have w1 := wt_eq (t := f.1) d1
    have w2 := wt_eq (t := f'.1) d2
    generalize f.1 * (L / f.2) = w at *
    generalize f'.1 * (L' / f'.2) = w' at *
    have ne : f.2 * f'.2 ≠ 0 := Int.ne_of_gt (Int.mul_pos p1 p2)
    apply Int.eq_of_mul_eq_mul_right ne
    have l1 : A * L' * w * (f.2 * f'.2) = (w * f.2) * (A * L' * f'.2) := by
      ac_rfl
    have l2 : B * L * w' * (f.2 * f'.2) = (w' * f'.2) * (B * L * f.2) := by
      ac_rfl
    rw [l1, l2, w1, w2]
    have l3 : f.1 * L * (A * L' * f'.2) = (f.1 * A * f'.2) * (L * L') := by ac_rfl
    have l4 : f'.1 * L' * (B * L * f.2) = (f'.1 * f.2 * B) * (L * L') := by ac_rfl
    rw [l3, l4, e]
theorem dealt_frac {a A B : Int} (hA : 0 < A) (hB : 0 < B) {fs fs' : List (Int × Int)} (hl : fs.length = fs'.length) (h1 : ∀ f ∈ fs, 0 < f.2) (h2 : ∀ f ∈ fs', 0 < f.2)
    (h3 : ∀ (i : Nat) (f f' : Int × Int), fs[i]? = some f → fs'[i]? = some f' → f'.1 * f.2 * B = f.1 * A * f'.2) : dealt a (wtsOf fs) = dealt a (wtsOf fs') := by
  have c1 := lcm_is fs 1 (by decide) h1
  have c2 := lcm_is fs' 1 (by decide) h2
  exact dealt_like (Int.mul_pos hA c2.pos) (Int.mul_pos hB c1.pos) (wts_like hA hB fs fs' hl (fun f hf => ⟨h1 f hf, c1.all f hf⟩) (fun f hf => ⟨h2 f hf, c2.all f hf⟩) h3)
theorem wtsOf_sum_pos {fs : List (Int × Int)} (h1 : ∀ f ∈ fs, 0 ≤ f.1 ∧ 0 < f.2) (h2 : ∃ f ∈ fs, 0 < f.1) : 0 < (wtsOf fs).sum ∧ ∀ w ∈ wtsOf fs, 0 ≤ w := by
  have c := lcm_is fs 1 (by decide) (fun f hf => (h1 f hf).2)
  unfold wtsOf
  generalize lcmF 1 fs = L at *
  have q : ∀ f ∈ fs, 0 < L / f.2 := fun f hf => Int.ediv_pos_of_pos_of_dvd c.pos (Int.le_of_lt (h1 f hf).2) (c.all f hf)
  clear c
  have nn : ∀ w ∈ wts L fs, 0 ≤ w := fun w hw => by
    unfold wts at hw
    obtain ⟨f, hf, rfl⟩ := List.mem_map.mp hw
    exact Int.mul_nonneg (h1 f hf).1 (Int.le_of_lt (q f hf))
  refine ⟨?_, nn⟩
  induction fs with
  | nil => obtain ⟨f, hf, _⟩ := h2; cases hf
  | cons g fs ih =>
    unfold wts
    rw [List.map_cons, List.sum_cons]
    have g0 : 0 ≤ g.1 * (L / g.2) := nn _ (by unfold wts; rw [List.map_cons]; exact List.mem_cons_self)
    have rest : ∀ (xs : List Int), (∀ w ∈ xs, 0 ≤ w) → 0 ≤ xs.sum := fun xs => by
      induction xs with
      | nil => intro _; exact Int.le_refl 0
      | cons x xs ihx =>
        intro hx
        rw [List.sum_cons]
        have a := hx x List.mem_cons_self
        have b := ihx (fun w hw => hx w (List.mem_cons_of_mem _ hw))
        omega
    have r0 : 0 ≤ (fs.map fun f => f.1 * (L / f.2)).sum := rest _ (fun w hw => nn w (by unfold wts; rw [List.map_cons]; exact List.mem_cons_of_mem _ hw))
    obtain ⟨f, hf, hp⟩ := h2
    rcases List.mem_cons.mp hf with rfl | hf
    · have := Int.mul_pos hp (q f List.mem_cons_self)
      omega
    · have ih2 := ih (fun f hf => h1 f (List.mem_cons_of_mem _ hf)) ⟨f, hf, hp⟩ (fun f hf => q f (List.mem_cons_of_mem _ hf)) (fun w hw => nn w (by unfold wts at *; rw [List.map_cons]; exact List.mem_cons_of_mem _ hw))
      unfold wts at ih2
      omega
theorem wtsOf_len (fs : List (Int × Int)) : (wtsOf fs).length = fs.length := by unfold wtsOf wts; rw [List.length_map]
/-! ### whole shares -/
theorem lcm_whole : ∀ fs : List (Int × Int), (∀ f ∈ fs, f.2 = 1) → lcmF 1 fs = 1
  | [], _ => rfl
  | f :: fs, h => by
    unfold lcmF
    rw [h f List.mem_cons_self]
    show lcmF (1 / (Int.gcd 1 1 : Int) * 1) fs = 1
    rw [show (1 : Int) / (Int.gcd 1 1 : Int) * 1 = 1 by decide]
    exact lcm_whole fs (fun g hg => h g (List.mem_cons_of_mem _ hg))
theorem wtsOf_whole (ts : List Int) : wtsOf (ts.map fun t => (t, 1)) = ts := by
  unfold wtsOf
  rw [lcm_whole _ (fun f hf => by obtain ⟨t, _, rfl⟩ := List.mem_map.mp hf; rfl)]
  unfold wts
  rw [List.map_map]
  have e : ((fun f : Int × Int => f.1 * (1 / f.2)) ∘ fun t : Int => (t, (1 : Int))) = id := by
    funext t
    show t * (1 / 1) = t
    rw [show (1 : Int) / 1 = 1 by decide, Int.mul_one]
  rw [e, List.map_id]
theorem deal_self {T : Int} (hT : 0 < T) : ∀ (k : Int) (ws : List Int), deal T T k ws = ws
  | _, [] => rfl
  | k, w :: ws => by
    unfold deal
    have e : T * w % T = 0 := Int.mul_emod_right T w
    rw [if_neg (fun z => z.2 e), Int.mul_ediv_cancel_left w (by omega), deal_self hT k ws]
theorem dealt_self {ws : List Int} (hT : 0 < ws.sum) : dealt ws.sum ws = ws := deal_self hT _ _
theorem deal_more {a T t : Int} (hT : 0 < T) : ∀ (k : Int) (ws : List Int), deal (a + t * T) T k ws = List.zipWith (fun p w => p + t * w) (deal a T k ws) ws
  | _, [] => rfl
  | k, w :: ws => by
    have e : (a + t * T) * w = a * w + T * (t * w) := by
      rw [Int.add_mul]
      congr 1
      ac_rfl
    have e1 : (a + t * T) * w / T = a * w / T + t * w := by
      rw [e, Int.add_mul_ediv_left _ _ (by omega)]
    have e2 : (a + t * T) * w % T = a * w % T := by
      rw [e, Int.add_mul_emod_self_left]
    unfold deal
    rw [e1, e2]
    by_cases h : 0 < k ∧ a * w % T ≠ 0
    · rw [if_pos h, if_pos h, deal_more hT (k - 1) ws, List.zipWith_cons_cons]
      congr 1
      omega
    · rw [if_neg h, if_neg h, deal_more hT k ws, List.zipWith_cons_cons]
theorem bases_more {a T t : Int} (hT : 0 < T) : ∀ ws : List Int, (bases (a + t * T) T ws).sum = (bases a T ws).sum + t * ws.sum
  | [] => by
    show (0 : Int) = 0 + t * 0
    simp
  | w :: ws => by
    have ih := bases_more (a := a) (t := t) hT ws
    have e : (a + t * T) * w = a * w + T * (t * w) := by
      rw [Int.add_mul]
      congr 1
      ac_rfl
    have e1 : (a + t * T) * w / T = a * w / T + t * w := by
      rw [e, Int.add_mul_ediv_left _ _ (by omega)]
    unfold bases at *
    rw [List.map_cons, List.map_cons, List.sum_cons, List.sum_cons, List.sum_cons, ih, e1, Int.mul_add]
    omega
theorem dealt_more {a t : Int} {ws : List Int} (hT : 0 < ws.sum) : dealt (a + t * ws.sum) ws = List.zipWith (fun p w => p + t * w) (dealt a ws) ws := by
  unfold dealt
  rw [bases_more hT, deal_more hT]
  congr 2
  omega
/-! ### noughts between -/
def trues : Nat → List Bool → List Nat
  | _, [] => []
  | n, true :: r => n :: trues (n + 1) r
  | n, false :: r => trues (n + 1) r
theorem trues_append : ∀ (a b : List Bool) (n : Nat), trues n (a ++ b) = trues n a ++ trues (n + a.length) b
  | [], b, n => by simp [trues]
  | true :: a, b, n => by
    have := trues_append a b (n + 1)
    simp only [List.cons_append, trues, this, List.length_cons]
    rw [show n + 1 + a.length = n + (a.length + 1) by omega]
  | false :: a, b, n => by
    have := trues_append a b (n + 1)
    simp only [List.cons_append, trues, this, List.length_cons]
    rw [show n + 1 + a.length = n + (a.length + 1) by omega]
theorem trues_false : ∀ (z n : Nat), trues n (List.replicate z false) = []
  | 0, n => rfl
  | z + 1, n => by rw [List.replicate_succ]; exact trues_false z (n + 1)
theorem trues_mem : ∀ (m : List Bool) (n q : Nat), q ∈ trues n m ↔ n ≤ q ∧ m[q - n]? = some true
  | [], n, q => by simp [trues]
  | true :: m, n, q => by
    have ih := trues_mem m (n + 1) q
    simp only [trues, List.mem_cons, ih]
    constructor
    · rintro (rfl | ⟨h1, h2⟩)
      · simp
      · refine ⟨by omega, ?_⟩
        rw [show q - n = (q - (n + 1)) + 1 by omega]
        simpa using h2
    · rintro ⟨h1, h2⟩
      by_cases e : q = n
      · exact .inl e
      · right
        refine ⟨by omega, ?_⟩
        rw [show q - n = (q - (n + 1)) + 1 by omega] at h2
        simpa using h2
  | false :: m, n, q => by
    have ih := trues_mem m (n + 1) q
    simp only [trues, ih]
    constructor
    · rintro ⟨h1, h2⟩
      refine ⟨by omega, ?_⟩
      rw [show q - n = (q - (n + 1)) + 1 by omega]
      simpa using h2
    · rintro ⟨h1, h2⟩
      by_cases e : q = n
      · subst e
        simp at h2
      · refine ⟨by omega, ?_⟩
        rw [show q - n = (q - (n + 1)) + 1 by omega] at h2
        simpa using h2
theorem trues_lt {m : List Bool} {q : Nat} (h : q ∈ trues 0 m) : q < m.length := by
  have := ((trues_mem m 0 q).mp h).2
  rw [Nat.sub_zero] at this
  exact (List.getElem?_eq_some_iff.mp this).1
/-- what stands at the marked places -/
theorem trues_pick : ∀ (m : List (Bool × Int)) (pre : List Int), (trues pre.length (m.map (·.1))).map (fun p => (pre ++ m.map (·.2)).getD p 0) = (m.filter (·.1)).map (·.2)
  | [], pre => rfl
  | (true, v) :: m, pre => by
    have ih := trues_pick m (pre ++ [v])
    simp only [List.length_append, List.length_cons, List.length_nil, List.append_assoc, List.cons_append, List.nil_append] at ih
    simp only [List.map_cons, trues, List.filter_cons, if_true]
    rw [show pre.length + 1 = pre.length + (0 + 1) by omega, ih]
    congr 1
    simp [List.getD]
  | (false, v) :: m, pre => by
    have ih := trues_pick m (pre ++ [v])
    simp only [List.length_append, List.length_cons, List.length_nil, List.append_assoc, List.cons_append, List.nil_append] at ih
    simp only [List.map_cons, trues, List.filter_cons]
    rw [show pre.length + 1 = pre.length + (0 + 1) by omega, ih]
    simp
def Naught (m : List (Bool × Int)) : Prop := ∀ x ∈ m, x.1 = false → x.2 = 0
theorem sum_naught : ∀ m : List (Bool × Int), Naught m → (m.map (·.2)).sum = ((m.filter (·.1)).map (·.2)).sum
  | [], _ => rfl
  | (true, v) :: m, h => by
    have ih := sum_naught m (fun x hx => h x (List.mem_cons_of_mem _ hx))
    simp only [List.map_cons, List.sum_cons, List.filter_cons, if_true, ih]
  | (false, v) :: m, h => by
    have ih := sum_naught m (fun x hx => h x (List.mem_cons_of_mem _ hx))
    have e : v = 0 := h _ List.mem_cons_self rfl
    subst e
    simp only [List.map_cons, List.sum_cons, List.filter_cons, ih]
    simp
/-- the pennies with their marks -/
def marked (a T : Int) : Int → List (Bool × Int) → List (Bool × Int)
  | _, [] => []
  | k, (b, w) :: m => if 0 < k ∧ a * w % T ≠ 0 then (b, a * w / T + 1) :: marked a T (k - 1) m else (b, a * w / T) :: marked a T k m
theorem marked_snd (a T : Int) : ∀ (k : Int) (m : List (Bool × Int)), (marked a T k m).map (·.2) = deal a T k (m.map (·.2))
  | _, [] => rfl
  | k, (b, w) :: m => by
    unfold marked
    rw [List.map_cons]
    unfold deal
    split
    · rw [List.map_cons, marked_snd a T (k - 1) m]
    · rw [List.map_cons, marked_snd a T k m]
theorem marked_fst (a T : Int) : ∀ (k : Int) (m : List (Bool × Int)), (marked a T k m).map (·.1) = m.map (·.1)
  | _, [] => rfl
  | k, (b, w) :: m => by
    unfold marked
    rw [List.map_cons]
    split
    · rw [List.map_cons, marked_fst a T (k - 1) m]
    · rw [List.map_cons, marked_fst a T k m]
theorem marked_pick (a T : Int) : ∀ (k : Int) (m : List (Bool × Int)), Naught m → ((marked a T k m).filter (·.1)).map (·.2) = deal a T k ((m.filter (·.1)).map (·.2))
  | _, [], _ => rfl
  | k, (true, w) :: m, h => by
    have ih := fun k => marked_pick a T k m (fun x hx => h x (List.mem_cons_of_mem _ hx))
    unfold marked
    simp only [List.filter_cons, if_true, List.map_cons]
    unfold deal
    split
    · simp only [List.filter_cons, if_true, List.map_cons, ih]
    · simp only [List.filter_cons, if_true, List.map_cons, ih]
  | k, (false, w) :: m, h => by
    have ih := fun k => marked_pick a T k m (fun x hx => h x (List.mem_cons_of_mem _ hx))
    have e : w = 0 := h _ List.mem_cons_self rfl
    subst e
    unfold marked
    have e0 : a * 0 % T = 0 := by rw [Int.mul_zero, Int.zero_emod]
    rw [if_neg (fun z => z.2 e0)]
    simp [List.filter_cons, ih]
theorem marked_naught (a T : Int) : ∀ (k : Int) (m : List (Bool × Int)), Naught m → Naught (marked a T k m)
  | _, [], _ => fun x hx => by cases hx
  | k, (b, w) :: m, h => by
    have ih := fun k => marked_naught a T k m (fun x hx => h x (List.mem_cons_of_mem _ hx))
    have h0 := h _ List.mem_cons_self
    unfold marked
    split
    · rename_i hc
      intro x hx hf
      rcases List.mem_cons.mp hx with rfl | hx
      · have e : w = 0 := h0 hf
        subst e
        exact absurd (by rw [Int.mul_zero, Int.zero_emod]) hc.2
      · exact ih _ x hx hf
    · intro x hx hf
      rcases List.mem_cons.mp hx with rfl | hx
      · have e : w = 0 := h0 hf
        subst e
        show a * 0 / T = 0
        rw [Int.mul_zero, Int.zero_ediv]
      · exact ih _ x hx hf
theorem bases_naught (a T : Int) (m : List (Bool × Int)) (h : Naught m) : (bases a T (m.map (·.2))).sum = (bases a T ((m.filter (·.1)).map (·.2))).sum := by
  have e := sum_naught (m.map fun x => (x.1, a * x.2 / T)) (fun x hx hf => by
    obtain ⟨y, hy, rfl⟩ := List.mem_map.mp hx
    have : y.2 = 0 := h y hy hf
    show a * y.2 / T = 0
    rw [this, Int.mul_zero, Int.zero_ediv])
  unfold bases
  simp only [List.map_map, List.filter_map] at *
  exact e
/-- the pennies of a row with noughts between -/
theorem dealt_naught (a : Int) (m : List (Bool × Int)) (h : Naught m) : ∃ m' : List (Bool × Int), m'.map (·.2) = dealt a (m.map (·.2)) ∧ m'.map (·.1) = m.map (·.1) ∧ Naught m' ∧ (m'.filter (·.1)).map (·.2) = dealt a ((m.filter (·.1)).map (·.2)) := by
  refine ⟨marked a (m.map (·.2)).sum (a - (bases a (m.map (·.2)).sum (m.map (·.2))).sum) m, marked_snd .., marked_fst .., marked_naught _ _ _ _ h, ?_⟩
  rw [marked_pick _ _ _ _ h, bases_naught _ _ _ h, sum_naught m h]
  rfl
end WdM

set_option Elab.async false
set_option linter.all false
set_option maxRecDepth 100000
set_option maxHeartbeats 4000000
namespace Wd
open PySem PySem.Spec PyProof.Rows L2 WdM
/-! ### heaps: all but some addresses stand -/
def Bt (S : List Addr) (H H' : Hp) : Prop := ∀ b o, b ∉ S → H b = some o → H' b = some o
theorem Bt.refl {S : List Addr} (H : Hp) : Bt S H H := fun _ _ _ h => h
theorem Bt.trans {S : List Addr} {H H1 H2 : Hp} (a : Bt S H H1) (b : Bt S H1 H2) : Bt S H H2 := fun c o n h => b c o n (a c o n h)
theorem Bt.of_same {S : List Addr} {H H' : Hp} (e : Same H H') : Bt S H H' := fun b o _ h => e b o h
theorem Bt.same {H H' : Hp} (e : Bt [] H H') : Same H H' := fun b o h => e b o (by simp) h
theorem Bt.wide {S T : List Addr} {H H' : Hp} (h : ∀ a ∈ S, a ∈ T) (e : Bt S H H') : Bt T H H' := fun b o n q => e b o (fun z => n (h b z)) q
theorem Bt.new {S : List Addr} {H H1 : Hp} {p : Addr} {o : HO} (e : Bt S H H1) (h : H1 p = none) : Bt S H (upd H1 p o) := fun b x n q => by
  have q1 := e b x n q
  rw [upd_ne (ne_of_none q1 h)]
  exact q1
theorem Bt.upd0 {S : List Addr} {H H1 : Hp} {p : Addr} {o : HO} (e : Bt S H H1) (h : H p = none) : Bt S H (upd H1 p o) := fun b x n q => by
  rw [upd_ne (ne_of_none q h)]
  exact e b x n q
theorem Bt.upd1 {S : List Addr} {H H1 : Hp} {p : Addr} {o : HO} (e : Bt S H H1) (h : p ∈ S) : Bt S H (upd H1 p o) := fun b x n q => by
  rw [upd_ne (fun z => n (by rw [z]; exact h))]
  exact e b x n q
theorem Bt.none {S : List Addr} {H H' : Hp} (e : Bt S H H') {p : Addr} (hS : p ∉ S) (h : H' p = none) : H p = none := by
  cases q : H p with
  | none => rfl
  | some o => rw [e p o hS q] at h; cases h
/-! ### tuples stand where lists change -/
def Tk (H H' : Hp) : Prop := ∀ a xs, Rd H a (.tup xs) → Rd H' a (.tup xs)
theorem Tk.refl (H : Hp) : Tk H H := fun _ _ h => h
theorem Tk.trans {H H1 H2 : Hp} (a : Tk H H1) (b : Tk H1 H2) : Tk H H2 := fun c xs h => b c xs (a c xs h)
theorem Tk.sq {K : PySem.W.Frag} {H H' : Hp} {a : Addr} {xs : List V} (t : Tk H H') (h : SqT K H a xs) : SqT K H' a xs := by
  rcases h with h | h
  · exact .inl (t _ _ h)
  · exact .inr h
theorem Bt.tk {S : List Addr} {H H' : Hp} (e : Bt S H H') (h : ∀ l ∈ S, ∃ zs, H l = some (.lst zs)) : Tk H H' := fun a xs r => by
  rcases r with r | ⟨o, r⟩
  · refine .inl (e a _ (fun z => ?_) r)
    obtain ⟨zs, q⟩ := h a z
    rw [q] at r; cases r
  · refine .inr ⟨o, e a _ (fun z => ?_) r⟩
    obtain ⟨zs, q⟩ := h a z
    rw [q] at r; cases r
theorem tk_same {H H' : Hp} (e : Same H H') : Tk H H' := (Bt.of_same (S := []) e).tk (fun l h => by cases h)
theorem tk_new {H : Hp} {p : Addr} {o : HO} (h : H p = none) : Tk H (upd H p o) := tk_same ((Bt.refl (S := []) H).new h).same
theorem tk_lst {H : Hp} {p : Addr} {zs : List V} {o : HO} (h : H p = some (.lst zs)) : Tk H (upd H p o) := ((Bt.refl (S := [p]) H).upd1 (by simp)).tk (fun l hl => by
  rw [List.mem_singleton.mp hl]; exact ⟨zs, h⟩)
theorem sqT {K : PySem.W.Frag} {H : Hp} {a : Addr} {xs : List V} (h : H a = some (.tup xs)) : SqT K H a xs := .inl (.inl h)
theorem sqL {K : PySem.W.Frag} {H : Hp} {a : Addr} {xs : List V} (h : H a = some (.lst xs)) : SqL K H a xs := .inl (.inl h)
theorem same_new {H : Hp} {p : Addr} {o : HO} (h : H p = none) : Same H (upd H p o) := ((Bt.refl (S := []) H).new h).same
/-! ### fractions in the heap -/
def Fr (K : PySem.W.Frag) (H : Hp) (v : V) (f : Int × Int) : Prop := ∃ a, v = .ref a ∧ SqT K H a [.int f.1, .int f.2]
def FrAll (K : PySem.W.Frag) (H : Hp) (xs : List V) (fs : List (Int × Int)) : Prop := xs.length = fs.length ∧ ∀ (i : Nat) (x : V) (f : Int × Int), xs[i]? = some x → fs[i]? = some f → Fr K H x f
def Sh (K : PySem.W.Frag) (H : Hp) (v : V) (fs : List (Int × Int)) : Prop := ∃ a xs, v = .ref a ∧ SqT K H a xs ∧ FrAll K H xs fs
theorem Fr.tk {K : PySem.W.Frag} {H H' : Hp} {v : V} {f : Int × Int} (t : Tk H H') (h : Fr K H v f) : Fr K H' v f := by
  obtain ⟨a, e, s⟩ := h
  exact ⟨a, e, t.sq s⟩
theorem FrAll.tk {K : PySem.W.Frag} {H H' : Hp} {xs : List V} {fs : List (Int × Int)} (t : Tk H H') (h : FrAll K H xs fs) : FrAll K H' xs fs := ⟨h.1, fun i x f a b => (h.2 i x f a b).tk t⟩
theorem Sh.tk {K : PySem.W.Frag} {H H' : Hp} {v : V} {fs : List (Int × Int)} (t : Tk H H') (h : Sh K H v fs) : Sh K H' v fs := by
  obtain ⟨a, xs, e, s, q⟩ := h
  exact ⟨a, xs, e, t.sq s, q.tk t⟩
theorem FrAll.nil {K : PySem.W.Frag} {H : Hp} : FrAll K H [] [] := ⟨rfl, fun i x f a _ => by simp at a⟩
theorem FrAll.append {K : PySem.W.Frag} {H : Hp} {xs ys : List V} {fs gs : List (Int × Int)} (h : FrAll K H xs fs) (h' : FrAll K H ys gs) : FrAll K H (xs ++ ys) (fs ++ gs) := by
  refine ⟨by rw [List.length_append, List.length_append, h.1, h'.1], fun i x f a b => ?_⟩
  by_cases hi : i < xs.length
  · rw [List.getElem?_append_left hi] at a
    rw [List.getElem?_append_left (by rw [← h.1]; exact hi)] at b
    exact h.2 i x f a b
  · rw [List.getElem?_append_right (by omega)] at a
    rw [List.getElem?_append_right (by rw [← h.1]; omega)] at b
    exact h'.2 (i - xs.length) x f a (by rw [h.1]; exact b)
theorem FrAll.one {K : PySem.W.Frag} {H : Hp} {x : V} {f : Int × Int} (h : Fr K H x f) : FrAll K H [x] [f] := ⟨rfl, fun i y g a b => by
  cases i with
  | zero => cases a; cases b; exact h
  | succ i => simp at a⟩
theorem FrAll.snoc {K : PySem.W.Frag} {H : Hp} {xs : List V} {fs : List (Int × Int)} {x : V} {f : Int × Int} (h : FrAll K H xs fs) (h' : Fr K H x f) : FrAll K H (xs ++ [x]) (fs ++ [f]) := h.append (.one h')
theorem FrAll.reverse {K : PySem.W.Frag} {H : Hp} {xs : List V} {fs : List (Int × Int)} (h : FrAll K H xs fs) : FrAll K H xs.reverse fs.reverse := by
  refine ⟨by rw [List.length_reverse, List.length_reverse, h.1], fun i x f a b => ?_⟩
  have hi : i < xs.length := by
    have := (List.getElem?_eq_some_iff.mp a).1
    rwa [List.length_reverse] at this
  rw [List.getElem?_reverse hi] at a
  rw [List.getElem?_reverse (by rw [← h.1]; exact hi), ← h.1] at b
  exact h.2 _ x f a b
theorem FrAll.drop {K : PySem.W.Frag} {H : Hp} {xs : List V} {fs : List (Int × Int)} (n : Nat) (h : FrAll K H xs fs) : FrAll K H (xs.drop n) (fs.drop n) := by
  refine ⟨by rw [List.length_drop, List.length_drop, h.1], fun i x f a b => ?_⟩
  rw [List.getElem?_drop] at a b
  exact h.2 _ x f a b
theorem FrAll.get {K : PySem.W.Frag} {H : Hp} {xs : List V} {fs : List (Int × Int)} {i : Nat} {x : V} (h : FrAll K H xs fs) (e : xs[i]? = some x) : ∃ f p, fs[i]? = some f ∧ x = .ref p ∧ SqT K H p [.int f.1, .int f.2] := by
  have hi : i < fs.length := by
    rw [← h.1]
    exact (List.getElem?_eq_some_iff.mp e).1
  obtain ⟨p, rfl, s⟩ := h.2 i x _ e (List.getElem?_eq_getElem hi)
  exact ⟨_, p, List.getElem?_eq_getElem hi, rfl, s⟩
/-! ### ints of lists by place -/
theorem ints_get {ns : List Int} {i : Nat} {x : V} (h : (ns.map V.int)[i]? = some x) : ∃ n, ns[i]? = some n ∧ x = .int n := by
  rw [List.getElem?_map] at h
  cases e : ns[i]? with
  | none => rw [e] at h; cases h
  | some n => rw [e] at h; exact ⟨n, rfl, (Option.some.inj h).symm⟩
theorem take_more {α : Type} {l : List α} {i : Nat} {x : α} (h : l[i]? = some x) : l.take (i + 1) = l.take i ++ [x] := by
  rw [List.take_add_one, h]
  rfl
theorem lt_get {α : Type} {l : List α} {i : Nat} {x : α} (h : l[i]? = some x) : i < l.length := (List.getElem?_eq_some_iff.mp h).1
theorem small_line {n m : Nat} (h : n ≤ m) (hm : m ≤ 1000 := by decide) : n ≤ sizeLine := Nat.le_of_lt (small1000 (Nat.le_trans h hm))
/-! ### Euclid -/
theorem gcd_step {a b : Int} (ha : 0 ≤ a) (hb : 0 ≤ b) : Int.gcd b (a % b) = Int.gcd a b := by
  obtain ⟨m, rfl⟩ := Int.eq_ofNat_of_zero_le ha
  obtain ⟨n, rfl⟩ := Int.eq_ofNat_of_zero_le hb
  show Nat.gcd n (((m : Int) % (n : Int))).natAbs = Nat.gcd m n
  rw [← Int.natCast_emod, Int.natAbs_natCast, Nat.gcd_comm n, ← Nat.gcd_rec, Nat.gcd_comm]
theorem gcd_end {a : Int} (ha : 0 ≤ a) : (Int.gcd a 0 : Int) = a := by
  rw [Int.gcd_zero_right]
  omega
theorem canLay_ints : ∀ ns : List Int, PyData.canLayAll0 (ns.map .int) = true
  | [] => by simp [PyData.canLayAll0]
  | n :: ns => by
    rw [List.map_cons]
    unfold PyData.canLayAll0
    rw [canLay_ints ns]
    simp [PyData.canLay0]
theorem depth_ints : ∀ ns : List Int, PyData.depthAll (ns.map .int) = 0
  | [] => by simp [PyData.depthAll]
  | n :: ns => by
    rw [List.map_cons]
    unfold PyData.depthAll
    rw [depth_ints ns]
    simp [PyData.depth]
theorem eqv_ints : ∀ ns : List Int, PyData.eqvAll (ns.map .int) (ns.map .int) = true
  | [] => by simp [PyData.eqvAll]
  | n :: ns => by
    rw [List.map_cons]
    unfold PyData.eqvAll
    rw [eqv_ints ns]
    simp [PyData.eqv]
theorem shT (ns : List Int) : SeqAt.shaped (.tuple (ns.map .int)) = true := by
  unfold SeqAt.shaped PyData.canLay0 PyData.depth
  rw [canLay_ints, depth_ints]
  rfl
theorem shL (ns : List Int) : SeqAt.shaped (.list (ns.map .int)) = true := by
  unfold SeqAt.shaped PyData.canLay0 PyData.depth
  rw [canLay_ints, depth_ints]
  rfl
theorem eqvT (ns : List Int) : PyData.eqv (.tuple (ns.map .int)) (.tuple (ns.map .int)) = true := by
  unfold PyData.eqv
  exact eqv_ints ns
theorem eqvL (ns : List Int) : PyData.eqv (.list (ns.map .int)) (.list (ns.map .int)) = true := by
  unfold PyData.eqv
  exact eqv_ints ns
theorem dInts {K : PySem.W.Frag} {H : Hp} : ∀ ns : List Int, DpAll K H (ns.map V.int) (ns.map PyData.int)
  | [] => .nil
  | n :: ns => .cons (.int n) (dInts ns)
theorem dT {K : PySem.W.Frag} {H : Hp} {a : Addr} {ns : List Int} (h : SqT K H a (ns.map V.int)) : Dp K H (.ref a) (.tuple (ns.map .int)) := .tup h (dInts ns)
theorem dL {K : PySem.W.Frag} {H : Hp} {a : Addr} {ns : List Int} (h : SqL K H a (ns.map V.int)) : Dp K H (.ref a) (.list (ns.map .int)) := .lst h (dInts ns)
theorem tyT {K : PySem.W.Frag} {H : Hp} {a : Addr} {xs : List V} (h : SqT K H a xs) : TyX K H (.ref a) (.type "tuple") := by
  rcases h with (h | ⟨o, h⟩) | ⟨o, its, n, e, c, _⟩
  · exact .base (.tup h)
  · exact .fTuple h
  · exact .kTuple e c
/-! ### sizes -/
theorem lcm_snoc : ∀ (fs : List (Int × Int)) (b : Int) (f : Int × Int), lcmF b (fs ++ [f]) = lcmF b fs / (Int.gcd (lcmF b fs) f.2 : Int) * f.2
  | [], b, f => rfl
  | g :: fs, b, f => lcm_snoc fs _ f
theorem gcd_pos {a b : Int} (h : 0 < b) : (0 : Int) < (Int.gcd a b : Int) := by
  have : Int.gcd a b ≠ 0 := fun z => by
    have := (Int.gcd_eq_zero_iff.mp z).2
    omega
  omega
theorem gcd_le {a b : Int} (h : 0 < b) : (Int.gcd a b : Int) ≤ b := Int.le_of_dvd h (Int.gcd_dvd_right a b)
theorem lcm_bound : ∀ (fs : List (Int × Int)) (b : Int) (m : Nat), 0 < b → b.natAbs < 2 ^ m → (∀ f ∈ fs, 0 < f.2 ∧ f.2.natAbs < 2 ^ 64) → (lcmF b fs).natAbs < 2 ^ (m + 64 * fs.length)
  | [], b, m, _, h, _ => h
  | f :: fs, b, m, hb, h, hf => by
    have ⟨f1, f2⟩ := hf f List.mem_cons_self
    have g0 := gcd_pos (a := b) f1
    have s := step_lcm hb f1
    have q : (b / (Int.gcd b f.2 : Int) * f.2).natAbs < 2 ^ (m + 64) := wide_lt (wide_le (Int.ediv_nonneg (Int.le_of_lt hb) (Int.le_of_lt g0)) (Int.ediv_le_self _ (Int.le_of_lt hb)) h) f2
    have ih := lcm_bound fs _ _ s.1 q (fun g hg => hf g (List.mem_cons_of_mem _ hg))
    rw [List.length_cons, show m + 64 * (fs.length + 1) = m + 64 + 64 * fs.length by omega]
    exact ih
theorem pow_le {a b : Nat} (h : a ≤ b) : 2 ^ a ≤ 2 ^ b := Nat.pow_le_pow_right (by decide) h
/-- shares that can be parted by -/
structure Good (fs : List (Int × Int)) : Prop where
  len0 : 1 ≤ fs.length
  len1 : fs.length ≤ 64
  each : ∀ f ∈ fs, 0 ≤ f.1 ∧ 0 < f.2 ∧ f.1.natAbs < 2 ^ 64 ∧ f.2.natAbs < 2 ^ 64 ∧ Int.gcd f.1 f.2 = 1
  some : ∃ f ∈ fs, 0 < f.1
theorem Good.pos {fs : List (Int × Int)} (g : Good fs) : ∀ f ∈ fs, 0 < f.2 := fun f hf => (g.each f hf).2.1
theorem Good.lcm {fs : List (Int × Int)} (g : Good fs) : Lcm 1 (lcmF 1 fs) fs := lcm_is fs 1 (by decide) g.pos
theorem Good.sum {fs : List (Int × Int)} (g : Good fs) : 0 < (wtsOf fs).sum ∧ ∀ w ∈ wtsOf fs, 0 ≤ w := wtsOf_sum_pos (fun f hf => ⟨(g.each f hf).1, (g.each f hf).2.1⟩) g.some
theorem Good.lcmB {fs : List (Int × Int)} (g : Good fs) : (lcmF 1 fs).natAbs < 2 ^ 4097 :=
  Nat.lt_of_lt_of_le (lcm_bound fs 1 1 (by decide) (by decide) (fun f hf => ⟨(g.each f hf).2.1, (g.each f hf).2.2.2.1⟩)) (pow_le (by have := g.len1; omega))
theorem Good.quo {fs : List (Int × Int)} (g : Good fs) : ∀ f ∈ fs, 0 ≤ lcmF 1 fs / f.2 ∧ (lcmF 1 fs / f.2).natAbs < 2 ^ 4097 := fun f hf => by
  have h0 : 0 ≤ lcmF 1 fs / f.2 := Int.ediv_nonneg (Int.le_of_lt g.lcm.pos) (Int.le_of_lt (g.pos f hf))
  exact ⟨h0, wide_le h0 (Int.ediv_le_self _ (Int.le_of_lt g.lcm.pos)) g.lcmB⟩
theorem Good.wB {fs : List (Int × Int)} (g : Good fs) : ∀ w ∈ wtsOf fs, w.natAbs < 2 ^ 4161 := fun w hw => by
  unfold wtsOf wts at hw
  obtain ⟨f, hf, rfl⟩ := List.mem_map.mp hw
  exact wide_lt (a := 64) (b := 4097) (g.each f hf).2.2.1 (g.quo f hf).2
theorem sum_abs {B : Nat} : ∀ ws : List Int, (∀ w ∈ ws, w.natAbs < B) → ws.sum.natAbs ≤ ws.length * B
  | [], _ => by simp
  | w :: ws, h => by
    have ih := sum_abs ws (fun x hx => h x (List.mem_cons_of_mem _ hx))
    have h0 := h w List.mem_cons_self
    rw [List.sum_cons, List.length_cons, Nat.add_mul, Nat.one_mul]
    have := Int.natAbs_add_le w ws.sum
    omega
theorem Good.sumB {fs : List (Int × Int)} (g : Good fs) : (wtsOf fs).sum.natAbs < 2 ^ 4168 := by
  have h := sum_abs (wtsOf fs) g.wB
  rw [wtsOf_len] at h
  have h1 := g.len1
  have h2 : fs.length * 2 ^ 4161 ≤ 64 * 2 ^ 4161 := Nat.mul_le_mul_right _ h1
  have h3 : 64 * 2 ^ 4161 < 2 ^ 4168 := by
    rw [show (4168 : Nat) = 7 + 4161 by rfl, Nat.pow_add]
    exact Nat.mul_lt_mul_of_pos_right (by decide) (Nat.pow_pos (by decide))
  exact Nat.lt_of_le_of_lt h (Nat.lt_of_le_of_lt h2 h3)
/-! ### a def of the text -/
structure Df (K : PySem.W.Frag) (mg : Str → Option Value) (name : Str) (st : Stmt) (f : Addr) (fd : FuncData) (ps : List Str) : Prop where
  fn : Fun K name name st f fd
  mg : mg name = some (.ref f)
  bd : Binds K fd ps []
end Wd

set_option Elab.async false
set_option linter.all false
set_option maxRecDepth 100000
set_option maxHeartbeats 4000000
namespace Wd
open PySem PySem.Spec PyProof.Rows L2 WdM
/-! ### an exception that was caught and is kept: tracked from then on -/
def ExT (a : Addr) (cls : Value) (d : Option Addr) : HO := .ext fun h => ∃ oe vs, h.get? a = some oe ∧ Zc cls d oe ∧ oe.data = .fields vs
theorem exT_ok {P : Program} {w : World} {H : Hp} {h : Heap} {a : Addr} {cls : Value} {d : Option Addr} {oe : Obj} {vs : Array Value} (g : h.get? a = some oe) (z : Zc cls d oe) (f : oe.data = .fields vs) : ObjOk P w H h a (ExT a cls d) :=
  ⟨⟨oe, vs, g, z, f⟩, ⟨oe, g⟩, fun _ _ ⟨oe, vs, e, r⟩ k => ⟨oe, vs, k _ e, r⟩⟩
theorem exT_at {P : Program} {w : World} {H : Hp} {h : Heap} {a : Addr} {cls : Value} {d : Option Addr} (ok : HOk P w H h) (e : H a = some (ExT a cls d)) : ∃ oe vs, h.get? a = some oe ∧ Zc cls d oe ∧ oe.data = .fields vs := by
  have x : ObjOk P w H h a (.ext fun h => ∃ oe vs, h.get? a = some oe ∧ Zc cls d oe ∧ oe.data = .fields vs) := ok a _ e
  exact x.1
section
variable {X : Cx} {pins : List (Addr × Obj)} {σ : L2.St} {H : Hp} {s : Shared}
theorem track {a : Addr} {oe : Obj} {vs : Array Value} {cls : Value} {d : Option Addr} (I : Inv X ((a, oe) :: pins) σ H s) (hx : X.ex = []) (n0 : X.s_0.heap.get? a = none) (np : ∀ p ∈ X.pn ++ pins, p.1 ≠ a) (z : Zc cls d oe) (f : oe.data = .fields vs) :
    Inv X pins σ (upd H a (ExT a cls d)) s := by
  obtain ⟨ga, na, nl, nf, nc⟩ := I.pin (a, oe) (List.mem_append_right _ List.mem_cons_self)
  have far : ∀ {b : Addr} {u : HO}, H b = some u → b ≠ a := fun {b u} e z => by rw [z, na] at e; cases e
  refine { ok := I.ok, os := I.os, bare := I.bare, loc := I.loc, cell := I.cell, len := I.len, base := ?_, free := ?_, freeC := ?_, pin := ?_, hok := ?_ }
  · exact { keep := I.base.keep, slot := I.base.slot, there := I.base.there,
            free := fun b o e n k => by
              rw [upd_ne (fun z => by rw [z, n0] at e; cases e)]
              exact I.base.free b o e n k
            tups := fun b xs e => by
              have q := I.base.tups b xs e
              rw [upd_ne (far q)]
              exact q
            frzs := fun b o u e => by
              have q := I.base.frzs b o u e
              rw [upd_ne (far q)]
              exact q
            tbls := fun b ps e => by
              obtain ⟨m, q⟩ := I.base.tbls b ps e
              exact ⟨m, by rw [upd_ne (far q)]; exact q⟩ }
  · rw [upd_ne (Ne.symm nl)]
    exact I.free
  · intro x c e
    rw [upd_ne (fun z => by
      obtain ⟨v, o, go, eo⟩ := I.cell x c e
      rw [z, ga] at go
      cases go
      exact nc _ eo)]
    exact I.freeC x c e
  · intro p hp
    obtain ⟨e1, e2, e3⟩ := I.pin p (by
      rcases List.mem_append.mp hp with h | h
      · exact List.mem_append_left _ h
      · exact List.mem_append_right _ (List.mem_cons_of_mem _ h))
    exact ⟨e1, by rw [upd_ne (np p hp)]; exact e2, e3⟩
  · intro b u e
    by_cases hb : b = a
    · subst hb
      rw [upd_same] at e
      cases e
      exact exT_ok ga z f
    · rw [upd_ne hb] at e
      exact (I.hok b u e).stay (fun _ _ _ q => q) (fun c q => by rw [upd_ne (far q)]; exact q) fun c xs q => by rw [upd_ne (far q)]; exact q
end
/-- what «except x as n» wishes, where what was caught is looked at behind the suite: all that is raised is of x, and the suite runs to its end -/
def wGot (K : PySem.W.Frag) (c : Value) (i : Nat) (ts : Addr → Value → Option Addr → TS) (D : Ends) : WX := fun cls d σ H =>
  PySem.W.exmOne K cls c = some true ∧ ∀ a, H a = none → ts a cls d { nx := fun σ' H' => D.nx (σ'.set i none) (upd H' a (ExT a cls d)), rt := fun _ _ => False, bk := fun _ _ => False, ct := fun _ _ => False } (σ.set i (some (.ref a))) H
section
variable {X : Cx} {x n : Str} {c : Value} {i : Nat} {body suite : List Stmt} {b0 : Stmt} {np pos pos' : Pos} {tb : WX → TS} {ts : Addr → Value → Option Addr → TS}
theorem ps_try_got (top : X.stack = X.env :: X.outer) (fr : X.env.frame = some X.env.locals) (hex : X.ex = []) (nd : X.N.Nodup) (hi : X.N[i]? = some n) (loc : X.env.kindOf n = some .local) (hc : Names X x c)
    (runs : ∀ (W : WX) (pn : List (Addr × Obj)) (xe : Value → Shared → Prop), Takes (X.tr pn xe) W → PassesOwn (model X.prog X.w) X.A X.env xe → PSs (X.tr pn xe) body (tb W))
    (hsu : ∀ (a : Addr) (oe : Obj) (cls : Value) (d : Option Addr) (pn : List (Addr × Obj)), Zc cls d oe → (∃ vs, oe.data = .fields vs) → PSs (X.suite a ((a, oe) :: pn)) (b0 :: suite) (ts a cls d)) :
    PS X (.Try body [.ExceptHandler (some (.Name x np)) (some n) (b0 :: suite) pos'] [] [] pos) (fun D σ H => tb (wGot X.K c i ts D) D σ H) where
  run := by
    intro pins s σ H D I h
    have ok := I.ok
    have frames : X.A.frames = some (X.env :: X.outer) := by rw [ok.frames, top]
    refine wpAny_Try_except (wpAny_mono ((runs (wGot X.K c i ts D) (X.pn ++ pins) (fun e s₁ => wpAny (model X.prog X.w) X.A (noteFrame e X.env) (fun _ s₂ => wpAny (model X.prog X.w) X.A (setFlight e none) (fun _ s₃ =>
      wpAny (model X.prog X.w) X.A (handleBy e X.env [.ExceptHandler (some (.Name x np)) (some n) (b0 :: suite) pos']) (SP X pins D) X.xe s₃) X.xe s₂) X.xe s₁) ?_ PassesOwn.looking).run [] s σ H D (I.toTry _) h) ?_ (fun e s1 he => he))
    · rintro _ s' ⟨a, B, sI, pins', σ', H', cls, d, rfl, J0, nb, up, sky, na, os, ag, is, go⟩
      have J : Inv X pins σ' H' sI := J0.ofTry ok
      show wpAny (model X.prog X.w) X.A (noteFrame (Value.ref a) X.env) _ _ _
      refine Sky.land Zc.steady frames fr (top ▸ sky) fun h3 fl3 up3 => ?_
      have J3 : Inv X pins σ' H' { s' with heap := h3 } := Inv.landed J nb fl3.1 (up.trans up3) os ag
      obtain ⟨oe3, vs3, g3, z3, d3⟩ := fl3.there
      have gone : B.get? a = none := fl3.2.1
      have out : a ∉ frs (X.env :: X.outer) := fun m => by
        obtain ⟨_, o, e, no⟩ := fl3.2.2.1.mem m
        rw [g3] at e
        cases e
        exact no _ d3
      have nL : a ≠ X.env.locals := fun z => out (List.mem_filterMap.mpr ⟨X.env, List.mem_cons_self, by rw [fr, z]⟩)
      have nF : a ∉ X.fs := fun m => by
        obtain ⟨e, he, q⟩ := List.mem_filterMap.mp m
        exact out (List.mem_filterMap.mpr ⟨e, List.mem_cons_of_mem _ he, q⟩)
      have fresh : ∀ b o, sI.heap.get? b = some o → b ∉ frs X.stack → b ≠ a := fun b o e m z => by
        have q := nb b o e m
        rw [z, gone] at q
        cases q
      have n0 : X.s_0.heap.get? a = Option.none := by
        cases e : Heap.get? X.s_0.heap a with
        | none => rfl
        | some o =>
          obtain ⟨o', e'⟩ := J.base.there a o e (by rw [hex]; exact fun z => nomatch z)
          exact absurd rfl (fresh a o' e' (by rw [top]; exact out))
      have npin : ∀ p ∈ X.pn ++ pins, p.1 ≠ a := fun p hp => by
        obtain ⟨e1, _, e3, e4, _⟩ := J.pin p hp
        refine fresh p.1 p.2 e1 (fun m => ?_)
        rw [top] at m
        obtain ⟨e, he, q⟩ := List.mem_filterMap.mp m
        rcases List.mem_cons.mp he with rfl | he
        · rw [fr] at q
          exact e3 (Option.some.inj q).symm
        · exact e4 (List.mem_filterMap.mpr ⟨e, he, q⟩)
      have S3 := J3.suite g3 d3 na nL nF
      refine wpAny_handleBy_cons (codeAny_handlers_test ?_) (fun z => by cases z)
      have isCls : PySem.W.Looks (model X.prog X.w) h3 (typeOf (.ref a)) cls := fun A Q E s k q => wpAny_typeOf_ref (k _ _ g3) (by rw [z3.1]; exact q)
      have matches_ := PySem.W.exm_one (M := model X.prog X.w) J3.kIn isCls is
      have named : ∀ {Q : Value → Shared → Prop} {E : Value → Shared → Prop}, Q c { s' with heap := h3 } → wpAny (model X.prog X.w) (X.A.mark (some (.ref a))) (eval (.Name x np) X.env) Q E { s' with heap := h3 } := fun {Q E} q => by
        rcases hc with ⟨gl, nb2, own | ⟨no, blt, nn⟩⟩
        · exact ld_glob (X := X.suite a ((a, oe3) :: (X.pn ++ pins))) S3 gl own q nb2
        · exact ld_blt (X := X.suite a ((a, oe3) :: (X.pn ++ pins))) S3 gl no blt q nn nb2
      refine named (matches_.here (codeAny_handlers_suite_as (HandSPX.lands_againZ fl3 fun h4 fl4 up4 => ?_)))
      have J4 : Inv X pins σ' H' { s' with heap := h4 } := Inv.landed J nb fl4.1 ((up.trans up3).trans up4) os ag
      obtain ⟨oe4, vs4, g4, z4, d4⟩ := fl4.there
      refine store_ok (X := X.suite a ((a, oe4) :: (X.pn ++ pins))) (v := .ref a) (J4.suite g4 d4 na nL nF) nd hi (.inl loc) rfl (fun s5 S5 => ?_) (.inr loc)
      refine wpAny_mono ((hsu a oe4 cls d (X.pn ++ pins) z4 ⟨_, d4⟩).run [] s5 _ H' _ S5 (go a na)) (fun f s6 ends => ?_) (fun _ _ z => False.elim z)
      cases f with
      | next =>
        obtain ⟨σ6, H6, S6, q6⟩ := ends
        have K6 : Inv X ((a, oe4) :: pins) σ6 H6 s6 := { ok := ok, os := S6.os, bare := S6.bare, base := S6.base, loc := S6.loc, cell := S6.cell, free := S6.free, freeC := S6.freeC, hok := S6.hok, len := S6.len, pin := fun p hp => S6.pin p (by
          rw [List.append_nil]
          rcases List.mem_append.mp hp with h | h
          · exact List.mem_cons_of_mem _ (List.mem_append_left _ h)
          · rcases List.mem_cons.mp h with rfl | h
            · exact List.mem_cons_self
            · exact List.mem_cons_of_mem _ (List.mem_append_right _ h)) }
        exact gone_ok K6 nd hi loc fun s7 K7 => ⟨_, _, track K7 hex n0 npin z4 d4, q6⟩
      | brk => exact ends.elim fun _ e => e.elim fun _ e => e.2.elim
      | cont => exact ends.elim fun _ e => e.elim fun _ e => e.2.elim
      | ret u => exact ends.elim fun _ e => e.elim fun _ e => e.elim fun _ e => e.2.2.elim
    · intro f s1 ends
      cases f with
      | next => exact ends.elim fun σ' e => e.elim fun H' e => wpAny_execs_nil ⟨σ', H', e.1.ofTry ok, e.2⟩
      | brk => exact ends.elim fun σ' e => e.elim fun H' e => ⟨σ', H', e.1.ofTry ok, e.2⟩
      | cont => exact ends.elim fun σ' e => e.elim fun H' e => ⟨σ', H', e.1.ofTry ok, e.2⟩
      | ret u => exact ends.elim fun v e => e.elim fun σ' e => e.elim fun H' e => ⟨v, σ', H', e.1.ofTry ok, e.2⟩
end
/-! ### what is asked of a kept error -/
/-- isinstance(e, c) -/
def rIsT (K : PySem.W.Frag) : List V → Hp → VK → Prop := fun xs H Q => ∃ (a D : Addr) (d : Option Addr) (c : V) (cv : Value) (b : Bool), xs = [.ref a, c] ∧ H a = some (ExT a (.ref D) d) ∧ (∀ dx, d = some dx → ∃ fs, H dx = some (.xd fs)) ∧ ExcC K D ∧ ClsV c cv ∧ PySem.W.kitOne K (.ref D) cv = some b ∧ Q (.bl b) H
theorem instT {P : Program} {w : World} {H : Hp} {h : Heap} {a D : Addr} {d : Option Addr} (ok : HOk P w H h) (e : H a = some (ExT a (.ref D) d)) (xd : ∀ dx, d = some dx → ∃ fs, H dx = some (.xd fs)) : ∃ oe od, PySem.W.InstAt h a oe D od := by
  obtain ⟨oe, vs, g, ⟨z1, z2⟩, f⟩ := exT_at ok e
  cases d with
  | none => exact ⟨oe, none, g, z1, by unfold PySem.W.notCls; rw [f], by rw [z2]; trivial⟩
  | some dx =>
    obtain ⟨fs, ed⟩ := xd dx rfl
    have at_ : ObjOk P w H h dx (.xd fs) := ok dx _ ed
    obtain ⟨m, ns, _⟩ := at_
    obtain ⟨od, ho, _⟩ := lookIn_ns ns
    exact ⟨oe, some od, g, z1, by unfold PySem.W.notCls; rw [f], by rw [z2]; exact ho⟩
theorem call_isT {X : Cx} : CallR X (.builtin "isinstance") (rIsT X.K) := by
  rintro pins s σ H _ us Q I rel ⟨a, D, d, c, cv, b, rfl, e, xd, C, cls, ans, want⟩
  obtain ⟨u1, u2, rfl, r1, r2⟩ := vals2 rel
  cases r1
  obtain rfl := cls.eq r2
  obtain ⟨oe, od, J⟩ := instT I.hok e xd
  have some_ : (PySem.W.clsIn X.K D).isSome = true := by
    obtain ⟨cd, hc, _⟩ := PySem.W.any_some C.hd
    rw [hc]
    rfl
  exact PySem.W.kia_one (PySem.W.kitx_exc some_ C.hg C.hk C.hs C.ha C.hn C.ht C.hm) I.kIn J ans (fun z => nomatch z) fun tk => ⟨.bl b, H, I.tok tk, rfl, want⟩
/-- e.n -/
def tXt (K : PySem.W.Frag) (n : Str) (te : TE) : TE := fun σ H Q => te σ H fun x H1 => ∃ (a C dd : Addr) (fs : List (Str × V)) (v : V), x = .ref a ∧ H1 a = some (ExT a (.ref C) (some dd)) ∧ XfC K C ∧ PySem.W.findIn K (.ref C) n = some none ∧ H1 dd = some (.xd fs) ∧ fs.lookup n = some v ∧ Q v H1
theorem pe_xt {X : Cx} {e : Expr} {te : TE} {pos : Pos} {n : Str} (he : PE X e te) (plain : attributeBase e n X.env (eval e X.env) = eval e X.env := by rfl) : PE X (.Attribute e n pos) (tXt X.K n te) where
  run := by
    intro pins s σ H Q I h
    refine attr_of plain (thn (he.run pins s σ H _ I h) ?_)
    rintro _ s1 ⟨_, H1, I1, rel, a, C, dd, fs, v, rfl, e1, T, no, e2, has, want⟩
    cases rel
    obtain ⟨oe, vs, g, ⟨z1, z2⟩, f⟩ := exT_at I1.hok e1
    have at_ : ObjOk X.prog X.w H1 s1.heap dd (.xd fs) := I1.hok dd _ e2
    obtain ⟨m, ns, rels⟩ := at_
    obtain ⟨od, ho, hl⟩ := lookIn_ns ns
    obtain ⟨u, hu, ru⟩ := RelO.some_of (v := v) (o := m n) (has ▸ rels n)
    have J : PySem.W.InstAt s1.heap a oe C (some od) := ⟨g, z1, by unfold PySem.W.notCls; rw [f], by rw [z2]; exact ho⟩
    exact HandSPX.exc_get I1.kIn J T.ga T.gg T.exC (PySem.W.findObj_own T.hdC no rfl (by rw [hl, hu])) (handed_of ru) ⟨v, H1, I1.tok _, ru, want⟩
/-- X(), an own error without an __init__ of its own -/
theorem pmk_own0 {X : Cx} {C : Addr} {bmB : List Value} {B newId initId : String} {x : Str} {p pos : Pos} (F : ExcBaseFacts B newId initId bmB) (q : PySem.W.excIn X.K C bmB newId = true) (is : X.mg x = some (.ref C)) (kp : PySem.W.keepIn X.K (.ref C) = true) (r : Raises X (.ref C)) (glob : Gl X x)
    (nodebug : (x == ("__debug__" : Str)) = false := by decide) : PMk X (.Call (.Name x p) [] [] pos) (fun _ H Q => Q (.ref C) none H) := by
  intro pins s σ H Q I want
  refine wpAny_Call_Name_kw (ld_glob I glob is ?_ nodebug)
  refine PySem.W.callWith_KW0 (kws := []) (h₀ := X.base) I.ok.mod.kin kp rfl (wpAny_pure ⟨I.kIn, ?_⟩) rfl
  obtain ⟨bm, N, nm, qn, bs, hdct, sn, sub, ab, col, dd, k0, k1, k2, k3, k5, mN, hC, hN, hni, T⟩ := exc_obj I.kIn q
  exact wpAny_call_exc_subT F T hC hN hni (fun h' e made => mk_of I made r want (I.hok.gone made.new)) (Nat.zero_le _)
/-! ### how often a flat value stands in a list -/
def rCnt (K : PySem.W.Frag) : V → List V → Hp → VK → Prop := fun x xs H Q => ∃ p ys y, x = .ref p ∧ xs = [y] ∧ SqL K H p ys ∧ flatV y = true ∧ ys.all flatV = true ∧ Q (.int (ys.countP (fun z => eqV z y) : Nat)) H
theorem count_eqU {y : V} : ∀ {ys : List V} {us : List Value}, Vals ys us → ys.all flatV = true → us.countP (eqU y) = ys.countP fun z => eqV z y
  | _, _, .nil, _ => rfl
  | z :: ys, u :: us, .cons r t, f => by
    simp only [List.all_cons, Bool.and_eq_true] at f
    simp only [List.countP_cons, eqU_of r f.1, count_eqU t f.2]
theorem mt_cnt {X : Cx} : MtR X "list.count" (rCnt X.K) := by
  rintro pins s σ H _ _ v us Q I rx rxs ⟨p, ys, y, rfl, rfl, hs, fy, fys, want⟩
  cases rx
  obtain ⟨u, rfl, ru⟩ := rxs.one
  obtain ⟨its, vals, ⟨⟨cls, dd, data, sl⟩, n, ho, hc, hdn, hd⟩, small⟩ := I.list hs
  dsimp only at hc hd
  subst hc hd
  refine call_meets PySem.F.slot_list_count ⟨_, ho, rfl⟩ PySem.F.entry_list_count (PySem.F.args_list_count_2 _ _) (SeqAt.list_countAt p its.toArray n dd sl u (eqU y)) ⟨ho, fun z hz => mem_eqAt ru fy vals fys z (by simpa using hz), ?_⟩
  refine ⟨.int (ys.countP (fun z => eqV z y) : Nat), H, I.tok _, ⟨s.toks, ?_⟩, want⟩
  rw [← count_eqU vals fys]
/-! ### repr of data -/
inductive Seen (K : PySem.W.Frag) (H : Hp) : V → PyData → Prop
  | dp {x : V} {d : PyData} (h : Dp K H x d) (nd : d.hasDict = false) : Seen K H x d
  | nod {a : Addr} (h : H a = some (.dK [])) : Seen K H (.ref a) (.dict [])
def rRepr (K : PySem.W.Frag) : List V → Hp → VK → Prop := fun xs H Q => ∃ x d, xs = [x] ∧ Seen K H x d ∧ PyData.showable d = true ∧ d.depth ≤ 8 ∧ d.shown.length ≤ sizeLine ∧ Q (.str d.shown) H
theorem reads_nod {P : Program} {w : World} {H : Hp} {h : Heap} {a : Addr} (ok : HOk P w H h) (e : H a = some (.dK [])) : Reads h (.ref a) (.dict []) [a] ∧ sysModules ∉ [a] := by
  have at_ : ObjOk P w H h a (.dK []) := ok a _ e
  obtain ⟨_, ns, vs, kv, o, es, ep, g, ex, d, _, el, _⟩ := at_
  cases kv
  have z : es.toList = [] := List.eq_nil_of_length_eq_zero el.length
  have r0 : ReadsAll h (es.toList.map (·.key)) (([] : List (PyData × PyData)).map (·.1)) [] := by rw [z]; exact .nil
  have r1 : ReadsAll h (es.toList.map (·.val)) (([] : List (PyData × PyData)).map (·.2)) [] := by rw [z]; exact .nil
  exact ⟨.dict g ex.1 d r0 r1, fun m => by rw [List.mem_singleton.mp m] at ns; simp at ns⟩
theorem call_reprD {X : Cx} (gs : X.A.guards = some []) (hu : X.A.units + 64 < cLine) : CallR X (.builtin "repr") (rRepr X.K) := by
  rintro pins s σ H _ us Q I rel ⟨x, d, rfl, seen, sh, dep, len, want⟩
  cases rel with
  | cons ru rn =>
    cases rn
    rename_i u
    have boxed : ∀ (a : Addr) (as : List Addr), Reads s.heap (.ref a) d as → (d.hasDict = true → sysModules ∉ as) → wpAny (model X.prog X.w) X.A (call (.builtin "repr") [.ref a]) (EP X pins σ Q) X.xe s := fun a as r sm =>
      repr_of_reads' r sh sm gs (by omega) (fun _ _ e => e) (fun h' _ tk same => ⟨.str d.shown, H, I.kept (t' := tk) same, ⟨_, rfl⟩, want⟩) len
    cases seen with
    | nod h =>
      cases ru
      obtain ⟨r, n⟩ := reads_nod I.hok h
      exact boxed _ _ r fun _ => n
    | dp h nd =>
      obtain ⟨as, r⟩ := Dp.reads I d _ u h ru
      have no : d.hasDict = true → sysModules ∉ as := fun z => by rw [nd] at z; cases z
      have fin : ∀ {z : Str} {t k : Tok}, z = d.shown → EP X pins σ Q (.str z t) { s with toks := k } := fun {z t k} e => ⟨.str z, H, I.tok k, ⟨_, rfl⟩, e ▸ want⟩
      cases h with
      | non => cases ru; exact PySem.P.repr_of_none (fin (by simp [PyData.shown]))
      | bl b => cases ru; exact PySem.P.repr_of_bool (fin (by simp [PyData.shown]))
      | int i =>
        obtain ⟨t, rfl⟩ := ru
        exact PySem.P.repr_of_int (by simpa [PyData.showable] using sh) (fin (by simp [PyData.shown]))
      | str z =>
        obtain ⟨t, rfl⟩ := ru
        exact PySem.P.repr_of_str (fin (by simp [PyData.shown])) (by simpa [PyData.shown] using len)
      | lst _ _ => cases ru; exact boxed _ _ r no
      | tup _ _ => cases ru; exact boxed _ _ r no
end Wd

set_option Elab.async false
set_option linter.all false
set_option maxRecDepth 100000
set_option maxHeartbeats 4000000
namespace Wd
open PySem PySem.Spec PyProof.Rows L2 WdM
/-! ### defs whose promise wants that no repr is under way around the call -/
structure FnG (P : Program) (w : World) (K : PySem.W.Frag) (mg : Str → Option Value) (base : Heap) (k : Nat) (f : Addr) (fd : FuncData) (ps : List Str) (sp : Sp) : Prop where
  len : ∀ vs H Q E, sp vs H Q E → vs.length = ps.length
  run : ∀ (A : Around) (outer : List Env) (s : Shared) (H : Hp) (args : Args) (us : List Value) (vs : List V) (Q : VK) (E : XK), A.guards = some [] → Room k A → Env0 P w K mg base A outer s H → BindsTo s fd args (ps.zip us) → Vals vs us → sp vs H Q E →
    codeAny (model P w) A (.call (.ref f) args) (CR CX0 outer P w H s Q E) s
section
variable {P : Program} {w : World} {K : PySem.W.Frag} {mg : Str → Option Value} {base : Heap}
theorem okG {x qual : Str} {st : Stmt} {f : Addr} {fd : FuncData} {N ps : List Str} {k : Nat} {sp : Sp} (F : Fun K x qual st f fd) (S : FnScope N ps (defScope st)) (len : ∀ vs H Q E, sp vs H Q E → vs.length = ps.length)
    (body : ∀ (cdv : Value) (A : Around) (outer : List Env) (s : Shared) (H : Hp) (vs : List V) (Q : VK) (E : XK), A.guards = some [] → Room k (A.deeper (envOfC qual (defScope st) s.heap.objs.size f cdv)) → sp vs H Q E →
      ∃ t, PSs (cxOf CX0 P w K mg base N qual (defScope st) f cdv A outer s H E).nox (defBody st) t ∧ t { nx := fun _ H' => Q .non H', rt := Q } (start N vs) H) : FnG P w K mg base (k + 1) f fd ps sp where
  len := len
  run := by
    intro A outer s H args us vs Q E gs room e0 binds rel want
    obtain ⟨oc, od, kV, doc, pm, an, cdv, ct, osl, rfl, at_, code⟩ := F.ex
    have kin : K.In s.heap := e0.mod.kin.keeps fun b o e => (e0.bs b o e).1
    have kinds : ∀ y ∈ ps.zip us, (defScope st).names.lookup y.1 = some .local ∨ ((defScope st).names.lookup y.1 = some .cell ∧ ((cellsFrom (s.heap.objs.size + 1) (defScope st).names []).lookup y.1).isSome = true) := by
      rintro ⟨n, v⟩ hy
      exact (S.par n (List.of_mem_zip hy).1).imp id fun q => ⟨q, PySem.W.cellsFrom_some _ _ _ (.inl q)⟩
    refine codeAny_call_function room.depth (kin _ _ at_) rfl S.co S.gen rfl (PySem.W.codeRec_of kin code) (binds _ _ _ _ (wpAny_newFunctionEnv_cells S.kind kinds ?_))
    rintro env rfl s1 inside
    refine ⟨(e0.mod.nolimit.keeps fun b o e => (e0.bs b o e).1).keeps inside.toInCall.keep, codeAny_func ?_⟩
    obtain ⟨t, ht, good⟩ := body cdv A outer s H vs Q E gs (room.deeper _) want
    refine wpAny_mono (ht.nox.run [] s1 (start N vs) H _ (inv_start S room.hd e0 (len _ _ _ _ want) rel inside) good) (fun fl s' ends => ?_) fun _ _ z => z
    cases fl with
    | ret u => exact ends.elim fun v e => e.elim fun σ' e => e.elim fun H' ⟨J, rv, q⟩ => ⟨v, H', J.os, J.bare, J.base, J.hok, rv, q⟩
    | next => exact ends.elim fun σ' e => e.elim fun H' ⟨J, q⟩ => ⟨.non, H', J.os, J.bare, J.base, J.hok, rfl, q⟩
    | brk => exact ends.elim fun _ e => e.elim fun _ e => e.2.elim
    | cont => exact ends.elim fun _ e => e.elim fun _ e => e.2.elim
end
section
variable {X : Cx} {k : Nat} {f : Addr} {fd : FuncData} {ps : List Str} {sp : Sp} {x : Str} {p pos : Pos} {e : Expr} {es : List Expr} {t : TA}
theorem pe_callG (F : FnG X.prog X.w X.K X.mg X.base k f fd ps sp) (gs : X.A.guards = some []) (room : Room k X.A) (glob : Gl X x) (is : X.mg x = some (.ref f)) (kp : PySem.W.keepIn X.K (.ref f) = true) (bd : Binds X.K fd ps []) (args : PA X (e :: es) t)
    (nodebug : (x == ("__debug__" : Str)) = false := by decide) (star : starEach (e :: es) X.env = (false, eval e X.env) :: starEach es X.env := by rfl) (plain : (backTo pos (starEach es X.env)).any (·.1) = false := by rfl) :
    PE X (.Call (.Name x p) (e :: es) [] pos) (tCall sp [] E0 t) where
  run := by
    intro pins s σ H Q I h
    refine wpAny_Call_Name_kw (ld_glob I glob is (PySem.W.callWith_K (h₀ := X.base) I.ok.mod.kin kp (thn (args.run pos pins s σ H _ I h) ?_) star plain) nodebug)
    rintro us s1 ⟨vs, H1, I1, rel, want⟩
    have rel2 : Vals (vs ++ []) (us ++ []) := rel.append .nil
    refine ⟨I1.kIn, wpAny_call (codeAny_mono (F.run X.A X.stack s1 H1 ⟨us, []⟩ (us ++ []) (vs ++ []) Q E0 gs room I1.env0 (bd s1 us I1.kIn (by rw [← rel2.length]; exact F.len _ _ _ _ want)) rel2 want) fun r s' res => ?_)⟩
    cases r with
    | error er => exact False.elim res
    | ok fl =>
      cases fl with
      | ret u => exact I1.after res
      | next => exact False.elim res
      | brk => exact False.elim res
      | cont => exact False.elim res
end
/-! ### the law's own call -/
theorem law_callG {P : Program} {w : World} {K : PySem.W.Frag} {mg mb : Str → Option Value} {k : Nat} {fa a : Addr} {fd : FuncData} {x : Str} {sp : Sp} {s1 : Shared} {vs : List Value} {ns : List Int}
    (kin : K.In s1.heap) (globs : s1.heap.Ns mainGlobals mg) (blts : s1.heap.Ns builtinsNs mb) (boot : ∀ x : Str, x ≠ "__name__" → mb x = bootBuiltins x) (lim : s1.heap.NoLimit) (nogens : s1.gens = #[])
    (at_ : s1.heap.get? a = some { cls := .type "list", data := .seq vs.toArray }) (its : IntsAre vs ns) (small : ns.length ≤ sizeLine) (room : Room k callerA)
    (F : ∀ base : Heap, K.In base → base.Ns mainGlobals mg → FnG P w K mg base k fa fd [x] sp) (binds : ∀ (s : Shared) (u : Value), BindsTo s fd ⟨[u], []⟩ [(x, u)])
    (good : ∀ H : Hp, SqL K H a (ns.map V.int) → sp [.ref a] H (fun v _ => v = .bl true) fun _ _ _ => False) :
    codeAny (model P w) callerA (.call (.ref fa) ⟨[.ref a], []⟩) (fun r s' => r = .ok (.ret (.bool true)) ∧ OldK s1.heap s'.heap ∧ s'.os = s1.os ∧ AllBare s'.gens) s1 := by
  have go : ∀ H : Hp, (∀ b, H b = none ∨ (b = a ∧ K.lookup a = none ∧ ∃ o u, H b = some (.frz o u))) → SqL K H a (ns.map V.int) → HOk P w H s1.heap →
      codeAny (model P w) callerA (.call (.ref fa) ⟨[.ref a], []⟩) (fun r s' => r = .ok (.ret (.bool true)) ∧ OldK s1.heap s'.heap ∧ s'.os = s1.os ∧ AllBare s'.gens) s1 := by
    intro H only hS hok
    have free : ∀ b o, K.lookup b = some o → H b = none := fun b o e => by
      rcases only b with z | ⟨rfl, z, _⟩
      · exact z
      · rw [z] at e; cases e
    have dicts : ∀ {b : Addr} {m : Str → Option Value}, s1.heap.Ns b m → (hidT s1.heap H).Ns b m := by
      rintro b m ⟨o, es, ep, g, d, r⟩
      refine ⟨o, es, ep, hidT_get g ?_, d, r⟩
      rcases only b with z | ⟨rfl, _, _⟩
      · exact z
      · rw [at_] at g
        cases g
        exact absurd (show Data.seq vs.toArray _ = Data.dict es ep from d) (fun z => by cases z)
    have kb : K.In (hidT s1.heap H) := fun b o e => hidT_get (kin b o e) (free b o e)
    obtain ⟨mc, l1, l2⟩ := lim
    have md : Mod K mg (hidT s1.heap H) := ⟨kb, dicts globs, ⟨mb, dicts blts, boot⟩, mc, dicts l1, l2⟩
    have e0 : Env0 P w K mg (hidT s1.heap H) callerA [] s1 H := ⟨rfl, md, fun b o e => of_hidT e, Nat.le_of_eq (hidT_size _ _), trivial, fun b hb => (by cases hb), hok, .of_eq nogens⟩
    refine codeAny_mono ((F _ kb (dicts globs)).run callerA [] s1 H ⟨[.ref a], []⟩ [.ref a] [.ref a] _ _ rfl room e0 (binds s1 (.ref a)) (.cons rfl .nil) (good H hS)) fun r s' res => ?_
    cases r with
    | error er => exact False.elim res
    | ok fl =>
      cases fl with
      | next => exact False.elim res
      | brk => exact False.elim res
      | cont => exact False.elim res
      | ret u =>
        obtain ⟨v, H', os, bare, un, hok', rv, rfl⟩ := res
        obtain rfl : u = Value.bool true := rv
        refine ⟨rfl, .of_keep fun b o e => ?_, os, bare⟩
        rcases only b with z | ⟨rfl, _, ob, u, z⟩
        · exact un.keep b o e z (fun m => by cases m) (fun m => by cases m)
        · have was := (hok _ _ z).1
          rw [e] at was
          cases was
          exact (hok' _ _ (un.frzs _ _ _ z)).1
  cases own : K.lookup a with
  | some o =>
    have e := kin a o own
    rw [at_] at e
    cases e
    exact go (fun _ => none) (fun _ => .inl rfl) (.inr ⟨_, vs.toArray, _, own, rfl, rfl, rfl, by rw [List.size_toArray, its.length]; exact small, by simpa using vals_ints its⟩) fun b u z => by cases z
  | none =>
    refine go (fun b => if b = a then some (.frz { cls := .type "list", data := .seq vs.toArray } (.lst (ns.map V.int))) else none) (fun b => ?_) (.inl (.inr ⟨_, if_pos rfl⟩)) (fun b u z => ?_)
    · by_cases hb : b = a
      · exact .inr ⟨hb, own, _, _, if_pos hb⟩
      · exact .inl (if_neg hb)
    · by_cases hb : b = a
      · subst hb
        cases (if_pos rfl).symm.trans z
        exact ⟨at_, by rw [List.length_map]; exact small, vs, _, vals_ints its, at_⟩
      · cases (if_neg hb).symm.trans z
theorem walk_G {l : PySem.W.OpenLaw} {n k : Nat} {q : Program} {loose : List Str} {XP : (Str → Option Value) → Heap → Prop} {YP : World → Heap → Prop} {d : DefRec} {K : Params → PySem.W.Frag} {sp : World → Sp} {x : Str}
    (most : l.most = some n) (small : n ≤ sizeLine) (plain : d.params.defaults = []) (room : Room k callerA) (hY : ∀ (w : World) (h : Heap), YP w h → (K w.params).In h)
    (F : ∀ (w : World) (mg : Str → Option Value) (fa : Addr) (h : Heap), (K w.params).In h → h.Ns mainGlobals mg → mg d.name = some (.ref fa) → ∃ fd : FuncData, (∀ (s : Shared) (u : Value), BindsTo s fd ⟨[u], []⟩ [(x, u)]) ∧ ∀ base : Heap, (K w.params).In base → base.Ns mainGlobals mg → FnG l.prog w (K w.params) mg base k fa fd [x] (sp w))
    (good : ∀ (w : World) (H : Hp) (a : Addr) (ns : List Int), ns.length ≤ n → SqL (K w.params) H a (ns.map V.int) → sp w [.ref a] H (fun v _ => v = .bl true) fun _ _ _ => False) :
    PySem.W.WalkO q loose XP YP l.row.toRowW d [] (fun f vs => PySem.call f vs) := by
  refine Att.attach_call most plain fun w s0 s1 mg mb fa o pm cd doc a vs ns G Y _ _ _ is at_ its len gens => ?_
  obtain ⟨fd, binds, promise⟩ := F w mg fa _ (hY w _ Y) G.T.g is
  exact law_callG (hY w _ Y) G.T.g G.T.b G.T.builtins G.T.nolimit gens at_ its (Nat.le_trans len small) room promise binds fun H hS => good w H a ns len hS
end Wd

set_option Elab.async false
set_option linter.all false
set_option maxRecDepth 100000
set_option maxHeartbeats 4000000
namespace Wd
open PySem PySem.Spec PyProof.Rows L2 WdM
/-! ### C(e, ..) where __init__ may raise, what is raised wished for at the caller's slots -/
section
variable {X : Cx} {CX : CXT} {k : Nat} {f C : Addr} {fd : FuncData} {ps : List Str} {sp : Sp} {dvs : List V} {ds : List Value} {E : L2.St → XK} {x : Str} {p pos : Pos} {e : Expr} {es : List Expr} {t : TA}
def tMakeS (C : Addr) (sp : Sp) (dvs : List V) (E : L2.St → XK) (t : TA) : TE := fun σ H Q => t σ H fun vs G => ∀ o d, G o = none → G d = none → d ≠ o → sp (.ref o :: (vs ++ dvs)) (upd (upd G d (.own o)) o (.ins C d [])) (fun v G' => v = .non ∧ Q (.ref o) G') (E σ)
theorem run_makeS {pins : List (Addr × Obj)} {σ : L2.St} {H : Hp} {s : Shared} {Q : VK} {us : List Value} {vs : List V} (M : Mk X.K C f) (F : FnOk X.prog X.w X.K X.mg X.base CX k f fd ps sp) (room : Room (k + 1) X.A) (bd : Binds X.K fd ps ds) (rd : Vals dvs ds) (out : PassesAt CX X σ (E σ)) (I : Inv X pins σ H s) (rel : Vals vs us)
    (want : ∀ o d, H o = none → H d = none → d ≠ o → sp (.ref o :: (vs ++ dvs)) (upd (upd H d (.own o)) o (.ins C d [])) (fun v G' => v = .non ∧ Q (.ref o) G') (E σ)) :
    wpAny (model X.prog X.w) X.A (call (.ref C) us) (EP X pins σ Q) X.xe s := by
  have good := want (s.heap.objs.size + 1) s.heap.objs.size (I.hok.fresh (Nat.le_succ _)) (I.hok.fresh (Nat.le_refl _)) (Nat.ne_of_lt (Nat.lt_succ_self _))
  have J := Inv.made (C := C) I
  have full : Vals (V.ref (s.heap.objs.size + 1) :: (vs ++ dvs)) (Value.ref (s.heap.objs.size + 1) :: (us ++ ds)) := .cons rfl (rel.append rd)
  have many : (Value.ref (s.heap.objs.size + 1) :: us ++ ds).length = ps.length := full.length.symm.trans (F.len _ _ _ _ good)
  refine wpAny_call (make_map (f := f) I.kIn M.makes M.init (beq_iff_eq.mp M.fn) (codeAny_mono (F.run _ X.stack _ _ ⟨Value.ref (s.heap.objs.size + 1) :: us, []⟩ (Value.ref (s.heap.objs.size + 1) :: (us ++ ds)) _ _ (E σ) (room.make C us []) (J.env0.make C us []) (bd _ (Value.ref (s.heap.objs.size + 1) :: us) J.kIn many) full good) fun r s' res => ?_))
  cases r with
  | error er => exact out pins _ _ er s' J res
  | ok fl =>
    cases fl with
    | next => exact False.elim res
    | brk => exact False.elim res
    | cont => exact False.elim res
    | ret u =>
      obtain ⟨v, G, J3, rv, ev, q⟩ := J.after res
      subst ev
      exact ⟨rv, .ref (s.heap.objs.size + 1), G, J3, rfl, q⟩
theorem pe_makeS (M : Mk X.K C f) (F : FnOk X.prog X.w X.K X.mg X.base CX k f fd ps sp) (room : Room (k + 1) X.A) (glob : Gl X x) (is : X.mg x = some (.ref C)) (bd : Binds X.K fd ps ds) (rd : Vals dvs ds) (out : ∀ σ, PassesAt CX X σ (E σ)) (args : PA X (e :: es) t)
    (nodebug : (x == ("__debug__" : Str)) = false := by decide) (star : starEach (e :: es) X.env = (false, eval e X.env) :: starEach es X.env := by rfl) (plain : (backTo pos (starEach es X.env)).any (·.1) = false := by rfl) :
    PE X (.Call (.Name x p) (e :: es) [] pos) (tMakeS C sp dvs E t) where
  run := by
    intro pins s σ H Q I h
    refine wpAny_Call_Name_kw (ld_glob I glob is (PySem.W.callWith_K (h₀ := X.base) I.ok.mod.kin M.kp (thn (args.run pos pins s σ H _ I h) ?_) star plain) nodebug)
    rintro us s1 ⟨vs, H1, I1, rel, want⟩
    exact ⟨I1.kIn, run_makeS M F room bd rd (out σ) I1 rel want⟩
end
/-! ### what is never reached -/
theorem pe_no {X : Cx} {e : Expr} : PE X e (fun _ _ _ => False) := ⟨fun _ _ _ _ _ _ h => h.elim⟩
theorem pt_no {X : Cx} {e : Expr} : PT X e (fun _ _ _ => False) := ⟨fun _ _ _ _ _ _ h => h.elim⟩
theorem ps_no {X : Cx} {st : Stmt} : PS X st (fun _ _ _ => False) := ⟨fun _ _ _ _ _ _ h => h.elim⟩
theorem pss_no {X : Cx} {st : List Stmt} : PSs X st (fun _ _ _ => False) := ⟨fun _ _ _ _ _ _ h => h.elim⟩
/-! ### enumerate of a list or tuple -/
theorem enum_new {v : Value} {o : Obj} {G : Heap → Prop} (B : Begins v o G) :
    Meets (Builtin.«enumerate.__new__» ⟨[.type "enumerate", v], []⟩) (fun _ R s => G s.heap ∧ R (.ok (.ret (.ref (s.heap.push o).objs.size))) { s with heap := (s.heap.push o).push { cls := .type "enumerate", data := .fields #[.none, .bool false, .ref s.heap.objs.size, rawInt 0, .none, .none] } }) :=
  .of_wp fun prog w A R s h => by
    obtain ⟨hp, gs, ds, tk, os⟩ := s
    obtain ⟨g0, fin⟩ := h
    have sub := sub_enumerate
    have iter : ∀ {A' : Around} {E : Value → Shared → Prop} {Q : Value → Shared → Prop}, Q (.ref hp.objs.size) ⟨hp.push o, gs, ds, tk, os⟩ → wpAny (model prog w) A' (pyIter v) Q E ⟨hp, gs, ds, tk, os⟩ := fun q => B.iter prog w _ _ _ _ g0 q
    wp_walk using iter
    refine wpAny_stack_any fun st => wpAny_pure ?_
    split
    · rename_i c _ _ _ _ _
      cases c == Value.type "enumerate" <;> (wp_walk using iter) <;> exact ⟨_, rfl, fin⟩
    · wp_walk using iter
      exact ⟨_, rfl, fin⟩
theorem enum_made {prog : Program} {w : World} {A : Around} {E : Value → Shared → Prop} {s : Shared} {v : Value} {o : Obj} {G : Heap → Prop} {Q : Value → Shared → Prop} (B : Begins v o G) (g0 : G s.heap)
    (want : ∀ h1, IsEnum h1 (s.heap.objs.size + 1) s.heap.objs.size 0 .none → h1.get? s.heap.objs.size = some o → (∀ b o, s.heap.get? b = some o → h1.get? b = some o) → Q (.ref (s.heap.objs.size + 1)) { s with heap := h1 }) :
    wpAny (model prog w) A (call (.type "enumerate") [v]) Q E s := by
  refine callType_new F.called_enumerate (by decide) (F.typeCall_enumerate_1 _) (F.newCall_enumerate_1 _) (fun obj => F.args_object_init_2 obj _) F.entry_enumerate_new (enum_new B) ⟨g0, ?_⟩
  have size1 : (s.heap.push o).objs.size = s.heap.objs.size + 1 := Heap.size_push ..
  have made := Heap.get?_push_size (s.heap.push o) (o := { cls := .type "enumerate", data := .fields #[.none, .bool false, .ref s.heap.objs.size, rawInt 0, .none, .none] }) rfl
  show _ ∧ _
  rw [size1] at made ⊢
  exact ⟨⟨_, made, rfl⟩, want _ made (Heap.get?_push_of_some _ (Heap.get?_push_size _ B.free)) fun b o g => Heap.get?_push_of_some _ (Heap.get?_push_of_some _ g)⟩
def ItE (K : PySem.W.Frag) (k : Feed) (a : Addr) : It where
  go i H := ∃ xs x, k.sq K H a xs ∧ xs[i]? = some x
  yld i H v H' := ∃ T x, v = .ref T ∧ H T = none ∧ H' = upd H T (.tup [.int (i : Nat), x]) ∧ ∀ xs, k.sq K H a xs → xs[i]? = some x
  stop i H := ∃ xs, k.sq K H a xs ∧ xs.length = i
theorem walkE {K : PySem.W.Frag} {k : Feed} {a : Addr} {xs : List V} : Walk (ItE K k a) xs.length (fun H => k.sq K H a xs) (YPair (fun i => some (.int (i : Nat))) fun i => xs[i]?) where
  goes := fun i H hi g => ⟨xs, xs[i], g, List.getElem?_eq_getElem hi⟩
  stops := fun H g => ⟨xs, g, rfl⟩
  yields := fun i H v H' _ g ⟨T, x, e1, e2, e3, e4⟩ => ⟨T, .int (i : Nat), x, e1, e2, e3, rfl, e4 xs g⟩
theorem turnE {P : Program} {w : World} {K : PySem.W.Frag} {elts : List Expr} {kk : Nat} {tpos : Pos} {k : Feed} {a e it : Addr} (na : a ≠ it) (ea : e ≠ a) (ei : e ≠ it) :
    Turn P w K (.Tuple elts kk tpos) (ItE K k a) [e, it] e fun i h => (∃ old, IsEnum h e it ((i : Nat) : Int) old) ∧ k.at_ h it a i where
  mem := List.mem_cons_self
  obj := by
    rintro i h ⟨⟨old, ge⟩, gi⟩ c hc
    rcases List.mem_cons.mp hc with rfl | hc
    · exact ⟨_, ge, fun _ z => nomatch z⟩
    · rw [List.mem_singleton.mp hc]
      exact k.lives gi
  keep := by
    rintro i h h' ⟨⟨old, ge⟩, gi⟩ same
    exact ⟨⟨old, same _ (by simp) _ ge⟩, k.moved gi (same _ (by simp))⟩
  item := by
    rintro X rfl rfl rfl calm i pins s σ H E I free ⟨⟨old, ge⟩, gi⟩ ⟨xs, x, hxs, hx⟩
    obtain ⟨us, rel, st, _⟩ := k.known I hxs
    obtain ⟨u, hu, ru⟩ := rel.get hx
    have hA : X.A.in1.handled = none := I.ok.hd calm
    have el := Heap.lt_size ge
    have n1 : i < us.toArray.size := by
      rw [List.size_toArray]
      exact (List.getElem?_eq_some_iff.mp hu).1
    refine wpAny_pyNext_enum_itemD (k.draws hA na _) ge ⟨gi, st⟩ n1 ei (by simp [ei, ea]) ?_
    rintro u' h1 t1 eu out ⟨d1, _⟩ gT _ same
    obtain rfl : u = u' := Option.some.inj (hu.symm.trans (by simpa using eu))
    refine ⟨_, rfl, wpAny_letOwnedTupleGo_enum (s := { s with heap := h1, toks := t1 + 1 }) out fun h2 ge2 sb => ?_⟩
    have all : ∀ c o, c ∉ [e, it] → s.heap.get? c = some o → h2.get? c = some o := fun c o hc g => by
      simp only [List.mem_cons, List.not_mem_nil, or_false, not_or] at hc
      exact (sb.2 c hc.1).trans (same c o hc.1 hc.2 g)
    have pair : h2.get? s.heap.objs.size = some { cls := .type "tuple", data := .seq #[.int i t1, u] } := (sb.2 _ (Nat.ne_of_gt el)).trans gT
    have made : ObjOk X.prog X.w (upd H s.heap.objs.size (.tup [.int (i : Nat), x])) h2 s.heap.objs.size (.tup [.int (i : Nat), x]) := ⟨by show 2 ≤ sizeLine; decide, [.int i t1, u], .cons ⟨_, rfl⟩ (.cons ru .nil), _, pair, rfl, _, rfl⟩
    refine ⟨.ref s.heap.objs.size, _, I.turnedNew (t' := t1 + 1) all free (Nat.le_refl _) made, rfl, ?_, ?_, ?_⟩
    · exact ⟨_, x, rfl, I.hok.fresh (Nat.le_refl _), rfl, fun l g => k.one I g hxs ▸ hx⟩
    · refine ⟨⟨u, ?_⟩, k.moved d1 fun o g => (sb.2 _ ei.symm).trans g⟩
      rw [show ((i + 1 : Nat) : Int) = (i : Int) + 1 by omega]
      exact ge2
    · intro c hc
      have old : c < s.heap.objs.size := by
        rcases List.mem_cons.mp hc with rfl | hc
        · exact el
        · rw [List.mem_singleton.mp hc]
          obtain ⟨o1, e1, _⟩ := k.lives gi
          exact Heap.lt_size e1
      rw [upd_ne (Nat.ne_of_lt old)]
      exact (free c hc).1
  done := by
    rintro X rfl rfl rfl calm i pins s σ H E I free ⟨⟨old, ge⟩, gi⟩ ⟨xs, hxs, n⟩
    obtain ⟨us, rel, st, _⟩ := k.known I hxs
    have hA : X.A.in1.handled = none := I.ok.hd calm
    have z : us.toArray.size = i := by rw [List.size_toArray, ← rel.length, n]
    refine wpAny_pyNext_enum_endD (k.draws hA na us.toArray) ge ⟨z ▸ gi, st⟩ fun h1 same => ⟨rfl, I.turnedL (t' := s.toks) (fun c o hc g => ?_) free⟩
    simp only [List.mem_cons, List.not_mem_nil, or_false, not_or] at hc
    exact same c o hc.2 g
  self := fun _ _ _ _ _ g q => g.1.elim fun _ ge => wpAny_pyIter_enum ge q
def iE (K : PySem.W.Frag) (k : Feed) (ta : TA) : TI := fun σ H R => ta σ H fun vs H1 => ∃ a xs, vs = [.ref a] ∧ k.sq K H1 a xs ∧ R (ItE K k a) H1
theorem pi_E {X : Cx} {e : Expr} {ta : TA} {p pos tpos : Pos} {elts : List Expr} {kk : Nat} (k : Feed) (hg : Gl X "enumerate") (hm : X.mg "enumerate" = none) (ha : PA X [e] ta) (star : starEach [e] X.env = [(false, eval e X.env)] := by rfl) :
    PI X (.Tuple elts kk tpos) (.Call (.Name "enumerate" p) [e] [] pos) (iE X.K k ta) where
  run := by
    intro pins s σ H R I h
    refine Call_ (ld_blt I hg hm boot_enumerate (PyProof.Rows.callWith_type1 (thn (ha.run pos pins s σ H _ I h) ?_) star rfl))
    rintro us s1 ⟨vs, H1, I1, rel, a, xs, rfl, hxs, r⟩
    rw [Vals.ref1 rel]
    obtain ⟨its, _, st, la⟩ := k.known I1 hxs
    refine enum_made (k.begins a its.toArray) st fun h1 ge gi same => wpAny_pyIter_enum ge ?_
    have I2 : Inv X pins σ H1 { s1 with heap := h1 } := I1.kept (t' := s1.toks) same
    have na : a ≠ s1.heap.objs.size := Nat.ne_of_lt la
    have ea : s1.heap.objs.size + 1 ≠ a := fun z => absurd la (by rw [← z]; exact Nat.not_lt.mpr (Nat.le_succ _))
    refine ⟨s1.heap.objs.size + 1, [s1.heap.objs.size + 1, s1.heap.objs.size], _, _, H1, rfl, I2, turnE na ea (Nat.succ_ne_self _), ⟨⟨.none, ge⟩, k.first gi⟩, fun b hb => ?_, r⟩
    have le : s1.heap.objs.size ≤ b := by
      rcases List.mem_cons.mp hb with rfl | hb
      · exact Nat.le_succ _
      · exact Nat.le_of_eq (List.mem_singleton.mp hb).symm
    exact I1.fpOk le (I1.hok.fresh le)
end Wd

set_option Elab.async false
set_option linter.all false
set_option maxRecDepth 100000
set_option maxHeartbeats 4000000
namespace Wd
open PySem PySem.Spec PyProof.Rows L2 WdM
/-! ### readings may be weakened -/
theorem PE.wk {X : Cx} {e : Expr} {t t' : TE} (h : PE X e t) (w : ∀ σ H Q, t' σ H Q → t σ H Q) : PE X e t' := ⟨fun pins s σ H Q I hw => h.run pins s σ H Q I (w _ _ _ hw)⟩
theorem PA.wk {X : Cx} {es : List Expr} {t t' : TA} (h : PA X es t) (w : ∀ σ H Q, t' σ H Q → t σ H Q) : PA X es t' := ⟨fun pos pins s σ H Q I hw => h.run pos pins s σ H Q I (w _ _ _ hw)⟩
theorem PT.wk {X : Cx} {e : Expr} {t t' : TT} (h : PT X e t) (w : ∀ σ H Q, t' σ H Q → t σ H Q) : PT X e t' := ⟨fun pins s σ H Q I hw => h.run pins s σ H Q I (w _ _ _ hw)⟩
theorem PS.wk {X : Cx} {st : Stmt} {t t' : TS} (h : PS X st t) (w : ∀ D σ H, t' D σ H → t D σ H) : PS X st t' := ⟨fun pins s σ H D I hw => h.run pins s σ H D I (w _ _ _ hw)⟩
theorem PSs.wk {X : Cx} {st : List Stmt} {t t' : TS} (h : PSs X st t) (w : ∀ D σ H, t' D σ H → t D σ H) : PSs X st t' := ⟨fun pins s σ H D I hw => h.run pins s σ H D I (w _ _ _ hw)⟩
theorem tyes {σ : L2.St} {H : Hp} {f : Bool → Hp → Prop} (h : f true H) : tYes σ H f := h
theorem bt_same1 {l : Addr} {H H' : Hp} (e : Bt [l] H H') (h : H l = none) : Same H H' := fun b o q => e b o (by simp [ne_of_none q h]) q
/-- the built-ins' names, which the top leaves alone -/
structure Bi (mg : Str → Option Value) : Prop where
  isi : mg "isinstance" = none
  int : mg "int" = none
  bool : mg "bool" = none
  str : mg "str" = none
  tuple : mg "tuple" = none
  list : mg "list" = none
  len : mg "len" = none
  abs : mg "abs" = none
  all : mg "all" = none
  any : mg "any" = none
  sum : mg "sum" = none
  enum : mg "enumerate" = none
  divmod : mg "divmod" = none
  range : mg "range" = none
  max : mg "max" = none
  min : mg "min" = none
  zip : mg "zip" = none
  repr : mg "repr" = none
section
variable {K : PySem.W.Frag}
/-! ### things of any kind -/
inductive Th (K : PySem.W.Frag) (H : Hp) : V → PyData → Prop
  | dp {x : V} {d : PyData} (h : Dp K H x d) : Th K H x d
  | nod {a : Addr} (h : H a = some (.dK [])) : Th K H (.ref a) (.dict [])
mutual
theorem dp_same {H H' : Hp} (e : Same H H') : ∀ {v : V} {d : PyData}, Dp K H v d → Dp K H' v d
  | _, _, .non => .non
  | _, _, .bl b => .bl b
  | _, _, .int i => .int i
  | _, _, .str x => .str x
  | _, _, .lst h a => .lst (e.seq h) (dpAll_same e a)
  | _, _, .tup h a => .tup ((tk_same e).sq h) (dpAll_same e a)
theorem dpAll_same {H H' : Hp} (e : Same H H') : ∀ {vs : List V} {ds : List PyData}, DpAll K H vs ds → DpAll K H' vs ds
  | _, _, .nil => .nil
  | _, _, .cons h t => .cons (dp_same e h) (dpAll_same e t)
end
theorem Th.same {H H' : Hp} {v : V} {d : PyData} (e : Same H H') (h : Th K H v d) : Th K H' v d := by
  cases h with
  | dp h => exact .dp (dp_same e h)
  | nod h => exact .nod (e _ _ h)
def tyN : PyData → String
  | .none => "NoneType"
  | .bool _ => "bool"
  | .int _ => "int"
  | .str _ => "str"
  | .list _ => "list"
  | .tuple _ => "tuple"
  | .dict _ => "dict"
theorem Th.ty {H : Hp} {v : V} {d : PyData} (h : Th K H v d) : TyX K H v (.type (tyN d)) := by
  cases h with
  | nod h => exact .base (.dK h)
  | dp h =>
    cases h with
    | non => exact .base .non
    | bl b => exact .base (.bl b)
    | int i => exact .base (.int i)
    | str x => exact .base (.str x)
    | lst h _ =>
      rcases h with (h | ⟨o, h⟩) | ⟨o, its, n, e, c, _⟩
      · exact .base (.lst h)
      · exact .base (.frz h)
      · exact .kList e c
    | tup h _ => exact tyT h
/-- whether a thing is an instance of a built-in class -/
def isaB (T : String) : PyData → Bool
  | .none => T == "NoneType"
  | .bool _ => T == "bool" || T == "int"
  | .int _ => T == "int"
  | .str _ => T == "str"
  | .list _ => T == "list"
  | .tuple _ => T == "tuple"
  | .dict _ => T == "dict"
theorem kit_all : ∀ T ∈ ["int", "bool", "str", "tuple", "list"], kitB "NoneType" T = some (T == "NoneType") ∧ kitB "bool" T = some (T == "bool" || T == "int") ∧ kitB "int" T = some (T == "int") ∧ kitB "str" T = some (T == "str") ∧ kitB "list" T = some (T == "list") ∧ kitB "tuple" T = some (T == "tuple") ∧ kitB "dict" T = some (T == "dict") := by
  decide +kernel
theorem kit_isa {T : String} (h : T ∈ ["int", "bool", "str", "tuple", "list"]) (d : PyData) : PySem.W.kitOne K (.type (tyN d)) (.type T) = some (isaB T d) := by
  obtain ⟨a0, a1, a2, a3, a4, a5, a6⟩ := kit_all T h
  cases d
  · exact kit_ty a0
  · exact kit_ty a1
  · exact kit_ty a2
  · exact kit_ty a3
  · exact kit_ty a4
  · exact kit_ty a5
  · exact kit_ty a6
def strB : PyData → Bool
  | .str _ => true
  | _ => false
def tupB : PyData → Bool
  | .tuple _ => true
  | _ => false
def wholeB : PyData → Bool
  | .int _ => true
  | _ => false
theorem kit_str (d : PyData) : PySem.W.kitOne K (.type (tyN d)) (.type "str") = some (strB d) := by
  rw [kit_isa (by decide) d]
  cases d <;> rfl
theorem kit_tup (d : PyData) : PySem.W.kitOne K (.type (tyN d)) (.type "tuple") = some (tupB d) := by
  rw [kit_isa (by decide) d]
  cases d <;> rfl
theorem kit_whole (d : PyData) : ∃ b1 b2, PySem.W.kitOne K (.type (tyN d)) (.type "int") = some b1 ∧ PySem.W.kitOne K (.type (tyN d)) (.type "bool") = some b2 ∧ (b1 && !b2) = wholeB d := by
  refine ⟨_, _, kit_isa (by decide) d, kit_isa (by decide) d, ?_⟩
  cases d <;> rfl
theorem str_of {d : PyData} (h : strB d = true) : ∃ z, d = .str z := by
  cases d with
  | str z => exact ⟨z, rfl⟩
  | _ => cases h
theorem tup_of {d : PyData} (h : tupB d = true) : ∃ ds, d = .tuple ds := by
  cases d with
  | tuple ds => exact ⟨ds, rfl⟩
  | _ => cases h
theorem whole_of {d : PyData} (h : wholeB d = true) : ∃ i, d = .int i := by
  cases d with
  | int i => exact ⟨i, rfl⟩
  | _ => cases h
theorem th_str {H : Hp} {v : V} {z : Str} (h : Th K H v (.str z)) : v = .str z := by
  cases h with
  | dp h => cases h; rfl
theorem th_tup {H : Hp} {v : V} {ds : List PyData} (h : Th K H v (.tuple ds)) : ∃ a xs, v = .ref a ∧ SqT K H a xs ∧ DpAll K H xs ds := by
  cases h with
  | dp h => cases h with | tup hs hd => exact ⟨_, _, rfl, hs, hd⟩
theorem dpAll_len {H : Hp} : ∀ {xs : List V} {ds : List PyData}, DpAll K H xs ds → xs.length = ds.length
  | _, _, .nil => rfl
  | _, _, .cons _ t => congrArg (· + 1) (dpAll_len t)
end
/-! ### names -/
def lettersS : Str := "abcdefghijklmnopqrstuvwxyz"
def noNames : List V := [.str "all", .str "and", .str "children", .str "childless", .str "crown", .str "else", .str "if", .str "lives", .str "not", .str "of", .str "or", .str "stock", .str "to"]
def letB (c : Nat) : Bool := decide (c ∈ lettersS.cps.toList)
def nmB (z : Str) : Bool := decide (1 ≤ z.length ∧ z.length ≤ 8) && !inV (.str z) noNames && z.cps.toList.all letB
def nameB : PyData → Bool
  | .str z => nmB z
  | _ => false
theorem name_no {d : PyData} (h : strB d = false) : nameB d = false := by
  cases d <;> first | rfl | cases h
/-- texts that are not too long -/
def Short (d : PyData) : Prop := ∀ z, d = .str z → z.length ≤ 1000
theorem ixN_nat {n i : Nat} (h : i < n) : ixN n (i : Int) = some i := by
  unfold ixN
  rw [if_pos (by omega), if_pos (by omega)]
  rfl
theorem small_len {n : Nat} (h : n ≤ 1000) : n ≤ sizeLine := Nat.le_trans h (by decide)
end Wd

set_option Elab.async false
set_option linter.all false
set_option maxRecDepth 100000
set_option maxHeartbeats 4000000
/-! ### own errors of any family, with an __init__ that stores one field -/
namespace Wd
open PySem PySem.W PySem.Calls PyProof.Rows PySem.HandSPX
open Builtin Builtin.ObjectAttr
/-- own classes, then the family's order tl -/
def refsT (tl : List Value) : List Value → Bool
  | .ref _ :: r => refsT tl r
  | l => l == tl
/-- what is known of a family -/
structure Fam (B newId initId : String) (tl : List Value) : Prop where
  base : ExcBaseFacts B newId initId tl
  pass : ∀ self, refuseLoop self "__setattr__" tl = pure ()
  ne : tl.isEmpty = false
  ob : tl.contains (.type "object") = true
theorem fam_lookup : Fam "LookupError" "LookupError.__new__" "LookupError.__init__" [.type "LookupError", .type "Exception", .type "BaseException", .type "object"] :=
  ⟨F.excBase_LookupError, fun self => F.store_LookupError.passes self, rfl, by decide +kernel⟩
theorem fam_arith : Fam "ArithmeticError" "ArithmeticError.__new__" "ArithmeticError.__init__" [.type "ArithmeticError", .type "Exception", .type "BaseException", .type "object"] :=
  ⟨F.excBase_ArithmeticError, fun self => F.store_ArithmeticError.passes self, rfl, by decide +kernel⟩
section
variable {B newId initId : String} {tl : List Value}
theorem refsT_cases : ∀ l : List Value, refsT tl l = true → (∃ c r, l = .ref c :: r ∧ refsT tl r = true) ∨ l = tl := by
  intro l e
  cases l with
  | nil => exact .inr (beq_iff_eq.mp e)
  | cons a r => cases a <;> first | exact .inl ⟨_, _, rfl, e⟩ | exact .inr (beq_iff_eq.mp e)
theorem refsT_pass (f : Fam B newId initId tl) (self : Value) : ∀ l : List Value, refsT tl l = true → refuseLoop self "__setattr__" l = pure () := by
  intro l
  induction l with
  | nil =>
    intro e
    rcases refsT_cases [] e with ⟨_, _, h, _⟩ | h
    · cases h
    · rw [h]; exact f.pass self
  | cons a r ih =>
    intro e
    rcases refsT_cases (a :: r) e with ⟨c, r', q, h⟩ | q
    · cases q
      rw [refuseLoop_ref]
      exact ih h
    · rw [q]; exact f.pass self
theorem refsT_has (X : String) : ∀ l : List Value, refsT tl l = true → l.contains (.type X) = tl.contains (.type X) := by
  intro l
  induction l with
  | nil =>
    intro e
    rcases refsT_cases [] e with ⟨_, _, h, _⟩ | h
    · cases h
    · rw [h]
  | cons a r ih =>
    intro e
    rcases refsT_cases (a :: r) e with ⟨c, r', q, h⟩ | q
    · cases q
      rw [List.contains_cons, ih h]
      rfl
    · rw [q]
theorem refsT_ne (f : Fam B newId initId tl) {l : List Value} (e : refsT tl l = true) : l.isEmpty = false := by
  cases l with
  | nil =>
    rcases refsT_cases [] e with ⟨_, _, h, _⟩ | h
    · cases h
    · rw [h]; exact f.ne
  | cons _ _ => rfl
end
section
variable {B newId initId : String} {tl : List Value} {prog : Program} {w : World} {A : Around} {E : Value → Shared → Prop} {R : Result → Shared → Prop} {hp : Heap} {g : Array GenState} {d : Drawn} {t : Nat} {os : OsState}
/-- the first field of an error that is being made -/
theorem osa_T (f : Fam B newId initId tl) {K : W.Frag} {name : Str} {tk : Tok} {v : Value} {x C : Addr} {fv : Array Value} {cd : ClassData}
    (X : K.In hp) (hx : hp.get? x = some { cls := .ref C, data := .fields fv }) (hcd : W.clsIn K C = some cd) (hm : refsT tl cd.mro = true) (hh : cd.hasDict = true) (ha : W.findIn K (.ref C) name = some none)
    (hq : ∀ h' tk' dx, (∀ b o, b ≠ x → hp.get? b = some o → h'.get? b = some o) → hp.objs.size ≤ dx → dx ≠ x → h'.get? x = some { cls := .ref C, dict := some dx, data := .fields fv } →
      h'.Ns1 dx (fun y => if y = name then some v else none) → R (.ok (.ret .none)) ⟨h', g, d, tk', os⟩) :
    codeAny (model prog w) A (.call (.builtin "object.__setattr__") ⟨[.ref x, .str name tk, v], []⟩) R ⟨hp, g, d, t, os⟩ := by
  have I : W.InstAt hp x { cls := .ref C, data := .fields fv } C none := ⟨hx, rfl, rfl, trivial⟩
  have SF := F.store_object
  have hob : cd.mro.contains (.type "object") = true := (refsT_has "object" _ hm).trans f.ob
  have hxs : x ≠ hp.objs.size := Nat.ne_of_lt (Heap.lt_size hx)
  have sub : W.Looks (model prog w) hp (isInstance (.ref x) (.type "object")) true := I.type.andThen (W.looks_mroIn X (by unfold W.mroIn; rw [hcd, Option.bind_some, if_neg (by rw [refsT_ne f hm]; decide), hob]))
  refine codeAny_call_builtin SF.slot.plain SF.entry (@W.check_slot (model prog w) _ _ ⟨hp, g, d, t, os⟩ "object.__setattr__" "object" "__setattr__" (.ref x) [.str name tk, v] [] _ SF.kind SF.split sub (SF.args (.ref x) (.str name tk) v) ?_)
  have hmr : W.Looks (model prog w) hp (mroOf (.ref C)) cd.mro := (W.looks_clsIn X hcd).andThen .now
  have L3 : W.Looks (model prog w) hp (storeTaker? none) none := .now
  have hcls : W.Looks (model prog w) hp (classData C) cd := W.looks_clsIn X hcd
  rw [W.osa_eq, refuse_eq]
  refine wpAny_bind (wpAny_bind (I.type.at (wpAny_bind (hmr.at ?_))))
  rw [refsT_pass f _ _ hm]
  refine wpAny_pure (wpAny_bind (I.type.at (wpAny_bind ((W.looks_findIn X ha).at (wpAny_bind (L3.at ?_))))))
  show wpAny _ _ (storeInOwnDict (.ref x) (.ref C) (.str name tk) name v false) _ _ _
  obtain ⟨nm, bs, mro, ns, qn, hd, sn, sb, ab, col, del⟩ := cd
  dsimp only at hh
  subst hh
  unfold storeInOwnDict ownDictForStores
  repeat (first | with_reducible refine store_in_new ?_ ?_ | with_reducible refine wpAny_loadPart_at hx ?_ | with_reducible refine hcls.at ?_ | wp_step)
  · exact ⟨_, #[], _, (Heap.get?_update_ne _ _ _ _ hxs.symm).trans (Heap.get?_push_at rfl rfl), rfl, fun e he => absurd he (by simp), fun _ => rfl⟩
  · intro h' tk' hn' hs
    have hx₁ : (hp.push { cls := .type "dict", data := .dict #[] }).get? x = some { cls := .ref C, data := .fields fv } := Heap.get?_push_of_some _ hx
    refine hq h' tk' hp.objs.size (fun b o hb ho => ?_) (Nat.le_refl _) hxs.symm ?_ hn'
    · exact (hs.2 b (Nat.ne_of_lt (Heap.lt_size ho))).trans ((Heap.get?_update_ne _ _ _ _ hb).trans (Heap.get?_push_of_some _ ho))
    · exact (hs.2 x hxs).trans (Heap.get?_update_self _ hx₁ rfl)
end
end Wd
namespace Wd
open PySem PySem.Spec PyProof.Rows L2 WdM
/-- what the top says of the class -/
structure OexT (newId : String) (tl : List Value) (K : PySem.W.Frag) (C : Addr) : Prop where
  cls : ∃ nm q N bs bm sn sub ab col dd k0 k1 k2 k3 k5, K.lookup C = some (excClassObj nm q C N bs bm true sn sub ab col dd k0 k1 k2 k3 k5 newId) ∧ refsT tl bm = true
  sa : PySem.W.findIn K (.ref C) "__setattr__" = some (some (.builtin "object.__setattr__"))
  exC : PySem.W.subIn K (.ref C) (.type "BaseException") = some true
  tyC : PySem.W.typeIn K (.ref C) = some (.type "type")
  kC : PySem.W.keepIn K (.ref C) = true
section
variable {B newId initId : String} {tl : List Value} {X : Cx} {pins : List (Addr × Obj)} {σ : L2.St} {H : Hp} {s : Shared} {a C : Addr} {fl : Str} {y : V} {u : Value} {Q : Unit → Shared → Prop} {E : Value → Shared → Prop} {A : Around}
theorem ost_T (f : Fam B newId initId tl) (T : OexT newId tl X.K C) (I : Inv X pins σ H s) (e : H a = some (exo a C none)) (hno : PySem.W.findIn X.K (.ref C) fl = some none) (ry : RelV y u)
    (h : ∀ dx s', H dx = none → dx ≠ a → Inv X pins σ (upd (upd H dx (exd dx [(fl, y)])) a (exo a C (some dx))) s' → Q () s') : wpAny (model X.prog X.w) A (setAttr (.ref a) fl u) Q E s := by
  obtain ⟨nm, q, N, bs, bm, sn, sub, ab, col, dd, k0, k1, k2, k3, k5, hC, hbm⟩ := T.cls
  have hcl : PySem.W.clsIn X.K C = some { name := nm, bases := bs, mro := .ref C :: bm, ns := N, qualname := q, hasDict := true, slotNames := sn, subclasses := sub, abstract := ab, collection := col, hasDel := false } := by unfold PySem.W.clsIn; rw [hC] <;> rfl
  obtain ⟨t1, ho⟩ := exo_at I.hok e
  obtain ⟨hp, g, d, t, os⟩ := s
  refine PySem.W.set_plain I.kIn (ox := { cls := .ref C, dict := none, data := .fields #[.ref t1, .none, .none, .none, .bool false, .none] }) (od := none) ⟨ho, rfl, rfl, trivial⟩ T.sa ?_
  refine osa_T f I.kIn ho hcl (show refsT tl (.ref C :: bm) = true from hbm) rfl hno (fun h' tk' dx k dn dne hx hn => ?_)
  have hnd : H dx = none := I.hok.fresh dn
  have nd : ∀ {b : Addr} {o : Obj}, hp.get? b = some o → b ≠ dx := fun {b o} q => Nat.ne_of_lt (Nat.lt_of_lt_of_le (Heap.lt_size q) dn)
  have na : ∀ {b : Addr}, H b = none → b ≠ a := fun {b} n z => by
    rw [z, e] at n
    cases n
  have Un1 : Un X.fs [] H (upd (upd H dx (exd dx [(fl, y)])) a (exo a C (some dx))) hp h' := {
    keep := fun b o q n _ _ => k b o (na n) q
    slot := fun b o q n _ _ => ⟨o.slots, k b o (na n) q⟩
    free := fun b o q n _ => by rw [upd_ne (na n), upd_ne (nd q)]; exact n
    there := fun b o q _ => by
      by_cases hb : b = a
      · exact ⟨_, by rw [hb]; exact hx⟩
      · exact ⟨o, k b o hb q⟩
    tups := fun b xs q => by rw [upd_ne (at_ne e q exo_tup), upd_ne (ne_of_none q hnd)]; exact q
    frzs := fun b o v q => by rw [upd_ne (at_ne e q exo_frz), upd_ne (ne_of_none q hnd)]; exact q
    tbls := fun b ps q => ⟨#[], by rw [upd_ne (at_ne e q exo_tbl), upd_ne (ne_of_none q hnd), q]; simp⟩ }
  refine h dx _ hnd dne (I.un (t' := tk') Un1 fun b o q => ?_)
  by_cases hb : b = a
  · subst hb
    rw [upd_same] at q
    cases q
    exact exo_ok hx
  · rw [upd_ne hb] at q
    by_cases hd : b = dx
    · subst hd
      rw [upd_same] at q
      cases q
      exact exd_ok hn (relO_put (fs := []) ry fun g => True.intro)
    · rw [upd_ne hd] at q
      exact (I.hok b o q).stay (fun c v hc z => k c v (by
          rcases hc with hc | hc
          · rw [hc]
            exact hb
          · exact at_ne e hc exo_own) z)
        (fun c hc => by rw [upd_ne (at_ne e hc exo_own), upd_ne (ne_of_none hc hnd)]; exact hc) (fun c xs hc => by rw [upd_ne (at_ne e hc exo_tup), upd_ne (ne_of_none hc hnd)]; exact hc)
end
/-- self.f = e, the first one -/
def tOsT (newId : String) (tl : List Value) (K : PySem.W.Frag) (f : Str) (to te : TE) : TS := fun D σ H => te σ H fun y H1 => to σ H1 fun x H2 => ∃ a C : Addr, x = .ref a ∧ OexT newId tl K C ∧ PySem.W.findIn K (.ref C) f = some none ∧
  H2 a = some (exo a C none) ∧ ∀ dx, H2 dx = none → dx ≠ a → D.nx σ (upd (upd H2 dx (exd dx [(f, y)])) a (exo a C (some dx)))
section
variable {B newId initId : String} {tl : List Value} {X : Cx} {o e : Expr} {es : List Expr} {to te : TE} {ta : TA} {f : Str} {p p' pos : Pos}
theorem ps_osT (fm : Fam B newId initId tl) (ho : PE X o to) (he : PE X e te) (hs : swapsWith e (some (.Attribute o f p')) pos.line X.env = pure false := by rfl) : PS X (.Assign [.Attribute o f p'] e pos) (tOsT newId tl X.K f to te) := by
  refine ⟨fun pins s σ H D I h => ?_⟩
  refine plainObj_wpAny_Assign_Attribute (thn (he.run pins s σ H _ I h) fun v s1 ⟨y, H1, I1, r1, q1⟩ => thn (ho.run pins s1 σ H1 _ I1 q1) fun u s2 ⟨x, H2, I2, r2, a, C, ex, T, hno, ea, q⟩ => ?_) hs
  subst ex
  obtain rfl : u = Value.ref a := r2
  exact ost_T fm T I2 ea hno r1 fun dx s' n ne J => ⟨σ, _, J, q dx n ne⟩
theorem pmk_T (fm : Fam B newId initId tl) {CX : CXT} {x : Str} {C fI : Addr} {k : Nat} {fd : FuncData} {ps : List Str} {sp : Sp} {ds : List Value} {dvs : List V} (T : OexT newId tl X.K C) (iC : PySem.W.findIn X.K (.ref C) "__init__" = some (some (.ref fI))) (tI : PySem.W.typeIn X.K (.ref fI) = some (.type "function"))
    (F1 : FnOk X.prog X.w X.K X.mg X.base CX k fI fd ps sp) (hr : Room (k + 1) X.A) (hb : Binds X.K fd ps ds) (hd : Vals dvs ds) (hx : Passes CX X (fun _ _ _ => False)) (hg : Gl X x) (hm : X.mg x = some (.ref C)) (ha : PA X (e :: es) ta)
    (hdb : (x == ("__debug__" : Str)) = false := by decide) (he : starEach (e :: es) X.env = (false, eval e X.env) :: starEach es X.env := by rfl) (hpl : (backTo pos (starEach es X.env)).any (·.1) = false := by rfl) :
    PMk X (.Call (.Name x p) (e :: es) [] pos) (tMkO C sp dvs ta) := by
  intro pins s σ H Q I h
  obtain ⟨nm, q, N, bs, bm, sn, sub, ab, col, dd, k0, k1, k2, k3, k5, hC, hbm⟩ := T.cls
  refine wpAny_Call_Name_kw (ld_glob I hg hm ?_ hdb)
  refine PySem.W.callWith_K (h₀ := X.base) I.ok.mod.kin T.kC (thn (ha.run pos pins s σ H _ I h) fun us s1 ⟨vs, H1, I1, r1, hz, q1⟩ => ⟨I1.kIn, ?_⟩) he hpl
  show wpAny _ _ (call (.ref C) us) _ _ _
  obtain ⟨hp, g, dr, tk, os⟩ := s1
  have hsz : hp.objs.size ≤ hp.objs.size + 1 := Nat.le_succ _
  have hn : H1 (hp.objs.size + 1) = none := I1.hok.fresh hsz
  have hq := q1 (hp.objs.size + 1) hn
  have kk : ∀ b o, hp.get? b = some o → ((hp.push (PySem.W.kdv_tup us)).push (PySem.HandSPX.excO C hp.objs.size)).get? b = some o := fun b o e => Heap.get?_push_of_some _ (Heap.get?_push_of_some _ e)
  have hget : ((hp.push (PySem.W.kdv_tup us)).push (PySem.HandSPX.excO C hp.objs.size)).get? (hp.objs.size + 1) = some (PySem.HandSPX.excO C hp.objs.size) := by heap_get
  have I2 : Inv X pins σ (upd H1 (hp.objs.size + 1) (exo (hp.objs.size + 1) C none)) ⟨(hp.push (PySem.W.kdv_tup us)).push (PySem.HandSPX.excO C hp.objs.size), g, dr, tk, os⟩ :=
    I1.laid (t' := tk) (a := hp.objs.size + 1) (o := exo (hp.objs.size + 1) C none) (h' := (hp.push (PySem.W.kdv_tup us)).push (PySem.HandSPX.excO C hp.objs.size)) kk hsz (exo_ok hget)
  have r2 : Vals (V.ref (hp.objs.size + 1) :: (vs ++ dvs)) (Value.ref (hp.objs.size + 1) :: (us ++ ds)) := .cons rfl (r1.append hd)
  have hl : (Value.ref (hp.objs.size + 1) :: us ++ ds).length = ps.length := by
    have e := r2.length
    rw [F1.len _ _ _ _ hq] at e
    exact e.symm
  have hus : us.length ≤ sizeLine := by
    rw [← Paired.length r1, sizeLine_eq]
    omega
  refine wpAny_call (PySem.HandSPX.call_own fm.base (fun Y => refsT_has Y bm hbm) (I1.kIn _ _ hC) (PySem.W.looks_findIn I1.kIn iC) (fun self => PySem.W.bind_fn I1.kIn self tI) hus
    (codeAny_mono (F1.run _ X.stack _ _ ⟨Value.ref (hp.objs.size + 1) :: us, []⟩ (Value.ref (hp.objs.size + 1) :: (us ++ ds)) _ _ (fun _ _ _ => False) (hr.make C us []) (I2.env0.make C us []) (hb _ (Value.ref (hp.objs.size + 1) :: us) I2.kIn hl) r2 hq) fun r s' hq' => ?_))
  cases r with
  | error er => exact hx pins σ _ _ er s' I2 hq'
  | ok fl =>
    cases fl with
    | ret u =>
      obtain ⟨v, H2, os2, bare2, un2, hok2, rv, ev, d, fs, ea, ed, hd1, q2⟩ := hq'
      subst ev
      obtain ⟨h2, g2, d2, t2, os'⟩ := s'
      exact ⟨rv, mk_end (raises_own T.exC T.tyC) I1 hsz kk un2 hok2 os2 bare2 ea ed hd1 q2⟩
    | next => exact False.elim hq'
    | brk => exact False.elim hq'
    | cont => exact False.elim hq'
end
end Wd

set_option Elab.async false
set_option linter.all false
set_option maxRecDepth 100000
set_option maxHeartbeats 4000000
namespace Wd
open PySem PySem.Spec PyProof.Rows L2 He
theorem refsB_eq {tl : List Value} : ∀ l : List Value, refsB tl l = true → refsT tl l = true
  | [], h => h
  | .ref _ :: r, h => refsB_eq r h
  | a :: r, h => by
    cases a <;> first | exact refsB_eq r h | exact h
theorem oexTB_ok {newId : String} {tl : List Value} {K : PySem.W.Frag} {C : Addr} (q : oexTB newId tl K C = true) : ∃ nm q N bs bm sn sub ab col dd k0 k1 k2 k3 k5, K.lookup C = some (excClassObj nm q C N bs bm true sn sub ab col dd k0 k1 k2 k3 k5 newId) ∧ refsT tl bm = true := by
  unfold oexTB at q
  split at q
  · rename_i dd cd sl ho
    split at q
    · rename_i C' bm k0 k1 k2 k3 n k5 hm hs
      simp only [Bool.and_eq_true, beq_iff_eq, Bool.not_eq_true'] at q
      obtain ⟨⟨⟨⟨rfl, rfl⟩, hdel⟩, hd⟩, hr⟩ := q
      obtain ⟨nm, bs, mro, N, qn, hasd, sn, sub, ab, col, hdl⟩ := cd
      simp only at hm hdel hd
      subst hm
      subst hdel
      subst hd
      have e : sl = #[k0, k1, k2, k3, some (.builtin n), k5] := by
        have := congrArg List.toArray hs
        simpa using this
      subst e
      exact ⟨nm, qn, N, bs, bm, sn, sub, ab, col, dd, k0, k1, k2, k3, k5, ho, refsB_eq _ hr⟩
    · cases q
  · cases q
end Wd

set_option Elab.async false
set_option linter.all false
set_option maxRecDepth 100000
set_option maxHeartbeats 4000000
namespace Wd
open PySem PySem.Spec PyProof.Rows L2 WdM
/-! ### displays of values that are all of one sort -/
section
variable {X : Cx} {R : L2.St → Hp → Prop} {Bd : Hp → V → Prop} {e : Expr} {es : List Expr} {n : Nat}
/-- where R holds, a value that is Bd -/
def tB (R : L2.St → Hp → Prop) (Bd : Hp → V → Prop) : TE := fun σ H Q => R σ H ∧ ∀ v H', Same H H' → Bd H' v → Q v H'
def taB (R : L2.St → Hp → Prop) (Bd : Hp → V → Prop) (n : Nat) : TA := fun σ H Q => R σ H ∧ ∀ xs H', Same H H' → xs.length = n → (∀ x ∈ xs, Bd H' x) → Q xs H'
def tlB (R : L2.St → Hp → Prop) (Bd : Hp → V → Prop) (n : Nat) : TE := fun σ H Q => R σ H ∧ ∀ p xs H', Same H H' → H' p = none → xs.length = n → (∀ x ∈ xs, Bd H' x) → Q (.ref p) (upd H' p (.lst xs))
/-- kept where the heap grows -/
structure Kp (R : L2.St → Hp → Prop) (Bd : Hp → V → Prop) : Prop where
  r : ∀ σ H H', Same H H' → R σ H → R σ H'
  b : ∀ H H' v, Same H H' → Bd H v → Bd H' v
theorem paB_nil : PA X [] (taB R Bd 0) := PA.wk pa_nil fun σ H Q ⟨_, q⟩ => q [] H (Same.refl H) rfl (fun x hx => nomatch hx)
theorem paB_cons (k : Kp R Bd) (h : PE X e (tB R Bd)) (t : PA X es (taB R Bd n)) (hs : starEach (e :: es) X.env = (false, eval e X.env) :: starEach es X.env := by rfl) : PA X (e :: es) (taB R Bd (n + 1)) :=
  PA.wk (pa_cons h t hs) fun σ H Q ⟨r, q⟩ => ⟨r, fun v H1 s1 b1 => ⟨k.r _ _ _ s1 r, fun xs H2 s2 l2 b2 => q (v :: xs) H2 (s1.trans s2) (by rw [List.length_cons, l2]) (fun x hx => by
    rcases List.mem_cons.mp hx with rfl | hx
    · exact k.b _ _ _ s2 b1
    · exact b2 x hx)⟩⟩
theorem peB_lst {pos : Pos} (t : PA X es (taB R Bd n)) (hn : n ≤ sizeLine) : PE X (.List es pos) (tlB R Bd n) :=
  PE.wk (pe_lst t) fun σ H Q ⟨r, q⟩ => ⟨r, fun xs H1 s1 l1 b1 => ⟨by rw [l1]; exact hn, fun p np => q p xs _ s1 np l1 b1⟩⟩
end
def RT : L2.St → Hp → Prop := fun _ _ => True
section
variable {K : PySem.W.Frag} {X : Cx}
/-- a thing whose texts aren't too long -/
def ThS (K : PySem.W.Frag) (H : Hp) (v : V) : Prop := ∃ d, Th K H v d ∧ Short d
theorem kpS : Kp RT (ThS K) := ⟨fun _ _ _ _ _ => trivial, fun _ _ _ e ⟨d, th, n⟩ => ⟨d, th.same e, n⟩⟩
theorem short_of {d : PyData} (h : strB d = false) : Short d := fun z e => by rw [e] at h; cases h
/-- texts of at most b signs -/
def StrL (b : Nat) (v : V) : Prop := ∃ z : Str, v = .str z ∧ z.length ≤ b
theorem StrL.th {b : Nat} {v : V} {H : Hp} (h : StrL b v) (hb : b ≤ 1000) : ThS K H v := by
  obtain ⟨z, rfl, l⟩ := h
  exact ⟨.str z, .dp (.str z), fun y e => by cases e; omega⟩
theorem at_of {P : V → Prop} {xs : List V} {d : Int} (h : ∀ x ∈ xs, P x) (d0 : 0 ≤ d) (d1 : d < xs.length) : ∃ v, atI xs d = some v ∧ P v := by
  obtain ⟨n, rfl⟩ := Int.eq_ofNat_of_zero_le d0
  have hn : n < xs.length := by omega
  exact ⟨xs[n], atI_nat (List.getElem?_eq_getElem hn), h _ (List.getElem_mem hn)⟩
end
end Wd

set_option Elab.async false
set_option linter.all false
set_option maxRecDepth 100000
set_option maxHeartbeats 4000000
namespace Wd
open PySem PySem.Spec PyProof.Rows L2 WdM
/-- what is never reached, by a name -/
def tsNo : TS := fun _ _ _ => False
theorem pss_noS {X : Cx} {st : List Stmt} : PSs X st tsNo := ⟨fun _ _ _ _ _ _ h => h.elim⟩
/-! ### data with empty dicts in it; its lists and dicts aren't at the places S -/
mutual
inductive Dz (S : List Addr) (K : PySem.W.Frag) (H : Hp) : V → PyData → Prop
  | non : Dz S K H .non .none
  | bl (b : Bool) : Dz S K H (.bl b) (.bool b)
  | int (i : Int) : Dz S K H (.int i) (.int i)
  | str (x : Str) : Dz S K H (.str x) (.str x)
  | lst {a : Addr} {xs : List V} {ds : List PyData} (n : a ∉ S) (h : SqL K H a xs) (t : DzAll S K H xs ds) : Dz S K H (.ref a) (.list ds)
  | tup {a : Addr} {xs : List V} {ds : List PyData} (h : SqT K H a xs) (t : DzAll S K H xs ds) : Dz S K H (.ref a) (.tuple ds)
  | nod {a : Addr} (n : a ∉ S) (h : H a = some (.dK [])) : Dz S K H (.ref a) (.dict [])
inductive DzAll (S : List Addr) (K : PySem.W.Frag) (H : Hp) : List V → List PyData → Prop
  | nil : DzAll S K H [] []
  | cons {v : V} {vs : List V} {d : PyData} {ds : List PyData} (h : Dz S K H v d) (t : DzAll S K H vs ds) : DzAll S K H (v :: vs) (d :: ds)
end
section
variable {S : List Addr} {K : PySem.W.Frag}
structure Stay (S : List Addr) (K : PySem.W.Frag) (H H' : Hp) : Prop where
  l : ∀ a xs, a ∉ S → SqL K H a xs → SqL K H' a xs
  t : ∀ a xs, SqT K H a xs → SqT K H' a xs
  d : ∀ a, a ∉ S → H a = some (.dK []) → H' a = some (.dK [])
mutual
theorem dz_stay {H H' : Hp} (e : Stay S K H H') : ∀ {v : V} {d : PyData}, Dz S K H v d → Dz S K H' v d
  | _, _, .non => .non
  | _, _, .bl b => .bl b
  | _, _, .int i => .int i
  | _, _, .str x => .str x
  | _, _, .lst n h a => .lst n (e.l _ _ n h) (dzAll_stay e a)
  | _, _, .tup h a => .tup (e.t _ _ h) (dzAll_stay e a)
  | _, _, .nod n h => .nod n (e.d _ n h)
theorem dzAll_stay {H H' : Hp} (e : Stay S K H H') : ∀ {vs : List V} {ds : List PyData}, DzAll S K H vs ds → DzAll S K H' vs ds
  | _, _, .nil => .nil
  | _, _, .cons h t => .cons (dz_stay e h) (dzAll_stay e t)
end
theorem stay_same {H H' : Hp} (e : Same H H') : Stay S K H H' := ⟨fun a xs _ h => e.seq h, fun a xs h => (tk_same e).sq h, fun a _ h => e _ _ h⟩
theorem stay_bt {H H' : Hp} (e : Bt S H H') (hl : ∀ a ∈ S, ∃ zs, H a = some (.lst zs)) : Stay S K H H' := ⟨fun a xs n h => by
  rcases h with (h | ⟨o, h⟩) | h
  · exact .inl (.inl (e _ _ n h))
  · exact .inl (.inr ⟨o, e _ _ n h⟩)
  · exact .inr h, fun a xs h => (e.tk hl).sq h, fun a n h => e _ _ n h⟩
theorem Dz.same {H H' : Hp} {v : V} {d : PyData} (h : Dz S K H v d) (e : Same H H') : Dz S K H' v d := dz_stay (stay_same e) h
theorem DzAll.same {H H' : Hp} {v : List V} {d : List PyData} (h : DzAll S K H v d) (e : Same H H') : DzAll S K H' v d := dzAll_stay (stay_same e) h
mutual
theorem Dz.less {H : Hp} : ∀ {v : V} {d : PyData}, Dz S K H v d → Dz [] K H v d
  | _, _, .non => .non
  | _, _, .bl b => .bl b
  | _, _, .int i => .int i
  | _, _, .str x => .str x
  | _, _, .lst n h a => .lst (by simp) h a.less
  | _, _, .tup h a => .tup h a.less
  | _, _, .nod n h => .nod (by simp) h
theorem DzAll.less {H : Hp} : ∀ {vs : List V} {ds : List PyData}, DzAll S K H vs ds → DzAll [] K H vs ds
  | _, _, .nil => .nil
  | _, _, .cons h t => .cons h.less t.less
end
theorem Dz.ty {H : Hp} {v : V} {d : PyData} (h : Dz S K H v d) : TyX K H v (.type (tyN d)) := by
  cases h with
  | non => exact .base .non
  | bl b => exact .base (.bl b)
  | int i => exact .base (.int i)
  | str x => exact .base (.str x)
  | lst _ h _ =>
    rcases h with (h | ⟨o, h⟩) | ⟨o, its, n, e, c, _⟩
    · exact .base (.lst h)
    · exact .base (.frz h)
    · exact .kList e c
  | tup h _ => exact tyT h
  | nod _ h => exact .base (.dK h)
theorem dz_str {H : Hp} {v : V} {z : Str} (h : Dz S K H v (.str z)) : v = .str z := by cases h; rfl
theorem dz_tup {H : Hp} {v : V} {ds : List PyData} (h : Dz S K H v (.tuple ds)) : ∃ a xs, v = .ref a ∧ SqT K H a xs ∧ DzAll S K H xs ds := by
  cases h with
  | tup h t => exact ⟨_, _, rfl, h, t⟩
theorem DzAll.len {H : Hp} : ∀ {xs : List V} {ds : List PyData}, DzAll S K H xs ds → xs.length = ds.length
  | _, _, .nil => rfl
  | _, _, .cons _ t => congrArg (· + 1) t.len
theorem DzAll.get {H : Hp} : ∀ {xs : List V} {ds : List PyData} {i : Nat} {x : V}, DzAll S K H xs ds → xs[i]? = some x → ∃ d, ds[i]? = some d ∧ Dz S K H x d
  | _, _, 0, _, .cons h t, e => by cases e; exact ⟨_, rfl, h⟩
  | _, _, i + 1, _, .cons h t, e => t.get (i := i) e
  | _, _, 0, _, .nil, e => by cases e
  | _, _, i + 1, _, .nil, e => by cases e
theorem DzAll.app {H : Hp} : ∀ {xs ys : List V} {ds es : List PyData}, DzAll S K H xs ds → DzAll S K H ys es → DzAll S K H (xs ++ ys) (ds ++ es)
  | _, _, _, _, .nil, q => q
  | _, _, _, _, .cons h t, q => .cons h (t.app q)
theorem DzAll.take {H : Hp} : ∀ {xs : List V} {ds : List PyData} (n : Nat), DzAll S K H xs ds → DzAll S K H (xs.take n) (ds.take n)
  | _, _, 0, _ => by simp only [List.take_zero]; exact .nil
  | _, _, n + 1, .nil => .nil
  | _, _, n + 1, .cons h t => .cons h (t.take n)
theorem DzAll.drop {H : Hp} : ∀ {xs : List V} {ds : List PyData} (n : Nat), DzAll S K H xs ds → DzAll S K H (xs.drop n) (ds.drop n)
  | _, _, 0, h => h
  | _, _, n + 1, .nil => .nil
  | _, _, n + 1, .cons h t => t.drop n
theorem DzAll.rev {H : Hp} : ∀ {xs : List V} {ds : List PyData}, DzAll S K H xs ds → DzAll S K H xs.reverse ds.reverse
  | _, _, .nil => .nil
  | _, _, .cons h t => by simp only [List.reverse_cons]; exact t.rev.app (.cons h .nil)
theorem DzAll.two {H : Hp} {xs : List V} {ds : List PyData} (h : DzAll S K H xs ds) (l : xs.length = 2) : ∃ x1 x2 d1 d2, xs = [x1, x2] ∧ ds = [d1, d2] ∧ Dz S K H x1 d1 ∧ Dz S K H x2 d2 := by
  cases h with
  | nil => cases l
  | cons h1 t =>
    cases t with
    | nil => cases l
    | cons h2 t =>
      cases t with
      | nil => exact ⟨_, _, _, _, rfl, rfl, h1, h2⟩
      | cons _ _ => simp only [List.length_cons] at l; omega
end
/-- what is asked of a thing at the door -/
structure Is (K : PySem.W.Frag) (H : Hp) (v : V) (d : PyData) : Prop where
  ty0 : ∀ H', Same H H' → TyX K H' v (.type (tyN d))
  str : ∀ z, d = .str z → v = .str z
theorem Is.ty {K : PySem.W.Frag} {H : Hp} {v : V} {d : PyData} (h : Is K H v d) : TyX K H v (.type (tyN d)) := h.ty0 H (Same.refl H)
theorem Dz.is {S : List Addr} {K : PySem.W.Frag} {H : Hp} {v : V} {d : PyData} (h : Dz S K H v d) : Is K H v d := ⟨fun _ e => (h.same e).ty, fun z e => by subst e; exact dz_str h⟩
theorem Th.is {K : PySem.W.Frag} {H : Hp} {v : V} {d : PyData} (h : Th K H v d) : Is K H v d := ⟨fun _ e => (h.same e).ty, fun z e => by subst e; exact th_str h⟩
/-! ### data that is small: depth n, b: lists, no dicts; else dicts, no lists -/
def okS (x : Str) : Prop := ∀ c ∈ x.cps.toList, c < 1114112
def Fine (b : Bool) : Nat → PyData → Prop
  | _, .none => True
  | _, .bool _ => True
  | _, .int i => -1 ≤ i ∧ i ≤ 1
  | _, .str x => okS x ∧ x.length ≤ 30
  | 0, .list _ => False
  | 0, .tuple _ => False
  | 0, .dict _ => False
  | n + 1, .list ds => b = true ∧ ds.length ≤ 8 ∧ ∀ d ∈ ds, Fine b n d
  | n + 1, .tuple ds => ds.length ≤ 8 ∧ ∀ d ∈ ds, Fine b n d
  | _ + 1, .dict [] => b = false
  | _ + 1, .dict (_ :: _) => False
theorem Fine.up {b : Bool} : ∀ {n : Nat} {d : PyData}, Fine b n d → Fine b (n + 1) d
  | n, .none, _ => trivial
  | n, .bool _, _ => trivial
  | n, .int _, h => by cases n <;> exact h
  | n, .str _, h => by cases n <;> exact h
  | n + 1, .list ds, h => ⟨h.1, h.2.1, fun d hd => (h.2.2 d hd).up⟩
  | n + 1, .tuple ds, h => ⟨h.1, fun d hd => (h.2 d hd).up⟩
  | n + 1, .dict [], h => h
  | n + 1, .dict (_ :: _), h => h.elim
theorem Fine.mono {b : Bool} {n : Nat} {d : PyData} (h : Fine b n d) : ∀ {m : Nat}, n ≤ m → Fine b m d := by
  intro m hm
  induction hm with
  | refl => exact h
  | step _ ih => exact ih.up
theorem Fine.short {b : Bool} {n : Nat} {d : PyData} (h : Fine b n d) : Short d := fun z e => by
  subst e
  have h : okS z ∧ z.length ≤ 30 := by cases n <;> exact h
  omega
theorem Fine.mem {b : Bool} {n : Nat} {ds : List PyData} {d : PyData} (h : Fine b n (.tuple ds)) (m : d ∈ ds) : ∃ n, Fine b n d := by
  cases n with
  | zero => exact h.elim
  | succ n => exact ⟨n, h.2 d m⟩
/-- small, in either way -/
def Fin (d : PyData) : Prop := ∃ b n, Fine b n d
theorem Fin.short {d : PyData} (h : Fin d) : Short d := h.elim fun _ h => h.elim fun _ h => h.short
theorem Fin.mem {ds : List PyData} {d : PyData} (h : Fin (.tuple ds)) (m : d ∈ ds) : Fin d := by
  obtain ⟨b, n, h⟩ := h
  exact ⟨b, h.mem m⟩
theorem Fin.len {ds : List PyData} (h : Fin (.tuple ds)) : ds.length ≤ 8 := by
  obtain ⟨b, n, h⟩ := h
  cases n with
  | zero => exact h.elim
  | succ n => exact h.1
def LL : Nat → Nat
  | 0 => 302
  | n + 1 => 8 * (LL n + 2) + 3
theorem LL_up (n : Nat) : LL n ≤ LL (n + 1) := by
  show LL n ≤ 8 * (LL n + 2) + 3
  omega
theorem piled_le {B : Nat} : ∀ {ts : List Str}, (∀ t ∈ ts, t.length ≤ B) → piled ts ≤ ts.length * (B + 2)
  | [], _ => by simp [piled]
  | t :: ts, h => by
    rw [piled_cons, List.length_cons, Nat.succ_mul]
    have h1 := h t List.mem_cons_self
    have h2 := piled_le (ts := ts) fun x hx => h x (List.mem_cons_of_mem _ hx)
    omega
theorem from_le : ∀ (ts : List Str) (k : Nat) (acc : Str), (textFrom k acc ts).length ≤ acc.length + piled ts
  | [], k, acc => by simp [textFrom, piled]
  | t :: ts, k, acc => by
    have ih := from_le ts (k + 1) (acc ++ (if k > 0 then ", " else "" : String) ++ t)
    rw [piled_cons]
    have e : (acc ++ (if k > 0 then ", " else "" : String) ++ t).length ≤ acc.length + (2 + t.length) := by
      rw [strLen_append, strLen_append]
      have : (((if k > 0 then ", " else "" : String) : Str)).length ≤ 2 := by
        split <;> decide
      omega
    show (textFrom (k + 1) _ ts).length ≤ _
    omega
theorem list_le {B : Nat} {ts : List Str} (h : ∀ t ∈ ts, t.length ≤ B) (l : ts.length ≤ 8) : (listText ts).length ≤ 8 * (B + 2) + 3 := by
  unfold listText
  rw [strLen_append]
  have a := from_le ts 0 "["
  have b := piled_le h
  have c : ts.length * (B + 2) ≤ 8 * (B + 2) := Nat.mul_le_mul_right _ l
  have d : ("[" : Str).length = 1 := by decide
  have e : ("]" : Str).length = 1 := by decide
  omega
theorem tuple_le {B : Nat} {ts : List Str} (h : ∀ t ∈ ts, t.length ≤ B) (l : ts.length ≤ 8) : (tupleText ts).length ≤ 8 * (B + 2) + 3 := by
  unfold tupleText
  rw [strLen_append, strLen_append]
  have b := piled_le h
  have c : ts.length * (B + 2) ≤ 8 * (B + 2) := Nat.mul_le_mul_right _ l
  have d : ("(" : Str).length = 1 := by decide
  have e : (((if ts.length == 1 then ",)" else ")" : String) : Str)).length ≤ 2 := by split <;> decide
  by_cases z : ts = []
  · subst z
    have : (Str.join ", " []).length = 0 := by decide
    omega
  · have := join_length_add ts z
    omega
theorem shownAll_eq : ∀ ds : List PyData, PyData.shownAll ds = ds.map PyData.shown
  | [] => by simp [PyData.shownAll]
  | d :: ds => by simp only [PyData.shownAll, List.map_cons, shownAll_eq ds]
theorem showableAll_eq : ∀ {ds : List PyData}, (∀ d ∈ ds, PyData.showable d = true) → PyData.showableAll ds = true
  | [], _ => by simp [PyData.showableAll]
  | d :: ds, h => by
    simp only [PyData.showableAll, h d List.mem_cons_self, Bool.true_and]
    exact showableAll_eq fun x hx => h x (List.mem_cons_of_mem _ hx)
theorem depthAll_le {n : Nat} : ∀ {ds : List PyData}, (∀ d ∈ ds, PyData.depth d ≤ n) → PyData.depthAll ds ≤ n
  | [], _ => by simp [PyData.depthAll]
  | d :: ds, h => by
    simp only [PyData.depthAll]
    exact Nat.max_le.mpr ⟨h d List.mem_cons_self, depthAll_le fun x hx => h x (List.mem_cons_of_mem _ hx)⟩
theorem hasDictAll_no : ∀ {ds : List PyData}, (∀ d ∈ ds, PyData.hasDict d = false) → PyData.hasDictAll ds = false
  | [], _ => by simp [PyData.hasDictAll]
  | d :: ds, h => by
    simp only [PyData.hasDictAll, h d List.mem_cons_self, Bool.false_or]
    exact hasDictAll_no fun x hx => h x (List.mem_cons_of_mem _ hx)
theorem Fine.shown {b : Bool} : ∀ {n : Nat} {d : PyData}, Fine b n d → (PyData.shown d).length ≤ LL n ∧ PyData.showable d = true ∧ PyData.depth d ≤ n ∧ (b = true → PyData.hasDict d = false) := by
  have l0 : ∀ n, 302 ≤ LL n := fun n => by
    induction n with
    | zero => exact Nat.le_refl _
    | succ n ih => exact Nat.le_trans ih (LL_up n)
  intro n
  induction n with
  | zero =>
    intro d h
    cases d with
    | none => exact ⟨by simp only [PyData.shown]; decide, by simp [PyData.showable], by simp [PyData.depth], fun _ => by simp [PyData.hasDict]⟩
    | bool c => exact ⟨by simp only [PyData.shown]; cases c <;> decide, by simp [PyData.showable], by simp [PyData.depth], fun _ => by simp [PyData.hasDict]⟩
    | int i =>
      have h : -1 ≤ i ∧ i ≤ 1 := h
      have : i = -1 ∨ i = 0 ∨ i = 1 := by omega
      rcases this with rfl | rfl | rfl <;> exact ⟨by simp only [PyData.shown]; decide, by simp only [PyData.showable]; decide, by simp [PyData.depth], fun _ => by simp [PyData.hasDict]⟩
    | str x =>
      have h : okS x ∧ x.length ≤ 30 := h
      refine ⟨?_, by simp [PyData.showable], by simp [PyData.depth], fun _ => by simp [PyData.hasDict]⟩
      simp only [PyData.shown]
      have := StrLaws.reprText_len x (fun c hc => Nat.lt_of_lt_of_le (h.1 c hc) (by decide))
      show _ ≤ 302
      omega
    | list ds => exact h.elim
    | tuple ds => exact h.elim
    | dict ds => exact h.elim
  | succ n ih =>
    intro d h
    cases d with
    | none => exact ⟨Nat.le_trans (by simp only [PyData.shown]; decide) (l0 _), by simp [PyData.showable], by simp [PyData.depth], fun _ => by simp [PyData.hasDict]⟩
    | bool c => exact ⟨Nat.le_trans (by simp only [PyData.shown]; cases c <;> decide) (l0 _), by simp [PyData.showable], by simp [PyData.depth], fun _ => by simp [PyData.hasDict]⟩
    | int i =>
      have h : -1 ≤ i ∧ i ≤ 1 := h
      have : i = -1 ∨ i = 0 ∨ i = 1 := by omega
      rcases this with rfl | rfl | rfl <;> exact ⟨Nat.le_trans (by simp only [PyData.shown]; decide) (l0 _), by simp only [PyData.showable]; decide, by simp [PyData.depth], fun _ => by simp [PyData.hasDict]⟩
    | str x =>
      have h : okS x ∧ x.length ≤ 30 := h
      refine ⟨?_, by simp [PyData.showable], by simp [PyData.depth], fun _ => by simp [PyData.hasDict]⟩
      simp only [PyData.shown]
      have := StrLaws.reprText_len x (fun c hc => Nat.lt_of_lt_of_le (h.1 c hc) (by decide))
      have := l0 (n + 1)
      omega
    | list ds =>
      have h : b = true ∧ ds.length ≤ 8 ∧ ∀ d ∈ ds, Fine b n d := h
      refine ⟨?_, ?_, ?_, fun hb => ?_⟩
      · simp only [PyData.shown, shownAll_eq]
        exact list_le (fun t ht => by obtain ⟨d, hd, rfl⟩ := List.mem_map.mp ht; exact (ih (h.2.2 d hd)).1) (by rw [List.length_map]; exact h.2.1)
      · simp only [PyData.showable]
        exact showableAll_eq fun d hd => (ih (h.2.2 d hd)).2.1
      · simp only [PyData.depth]
        have := depthAll_le fun d hd => (ih (h.2.2 d hd)).2.2.1
        omega
      · simp only [PyData.hasDict]
        exact hasDictAll_no fun d hd => (ih (h.2.2 d hd)).2.2.2 hb
    | tuple ds =>
      have h : ds.length ≤ 8 ∧ ∀ d ∈ ds, Fine b n d := h
      refine ⟨?_, ?_, ?_, fun hb => ?_⟩
      · simp only [PyData.shown, shownAll_eq]
        exact tuple_le (fun t ht => by obtain ⟨d, hd, rfl⟩ := List.mem_map.mp ht; exact (ih (h.2 d hd)).1) (by rw [List.length_map]; exact h.1)
      · simp only [PyData.showable]
        exact showableAll_eq fun d hd => (ih (h.2 d hd)).2.1
      · simp only [PyData.depth]
        have := depthAll_le fun d hd => (ih (h.2 d hd)).2.2.1
        omega
      · simp only [PyData.hasDict]
        exact hasDictAll_no fun d hd => (ih (h.2 d hd)).2.2.2 hb
    | dict kvs =>
      cases kvs with
      | nil =>
        have h : b = false := h
        refine ⟨Nat.le_trans ?_ (l0 _), by simp [PyData.showable, PyData.showableKv], by simp [PyData.depth, PyData.depthKv], fun hb => by rw [h] at hb; cases hb⟩
        simp only [PyData.shown, PyData.shownKv]
        decide
      | cons kv r => exact h.elim
theorem LL5 : LL 5 ≤ sizeLine := by decide
/-! ### such data in the machine's heap -/
section
variable {S : List Addr} {X : Cx} {pins : List (Addr × Obj)} {σ : L2.St} {H : Hp} {s : Shared}
mutual
theorem Dz.reads (I : Inv X pins σ H s) : ∀ (d : PyData) (v : V) (u : Value), Dz S X.K H v d → RelV v u → ∃ as, Reads s.heap u d as ∧ ∀ n, Fine false n d → sysModules ∉ as
  | .none, _, _, h, r => by
    cases h; cases r
    exact ⟨_, .none, fun _ _ => by simp⟩
  | .bool b, _, _, h, r => by
    cases h; cases r
    exact ⟨_, .bool b, fun _ _ => by simp⟩
  | .int i, _, _, h, r => by
    cases h
    obtain ⟨t, rfl⟩ := r
    exact ⟨_, .int i t, fun _ _ => by simp⟩
  | .str x, _, _, h, r => by
    cases h
    obtain ⟨t, rfl⟩ := r
    exact ⟨_, .str x t, fun _ _ => by simp⟩
  | .list ds, _, _, h, r => by
    cases h with
    | lst _ hs ha =>
      cases r
      obtain ⟨its, rv, ⟨o, n, ho, hc, _, hd⟩, _⟩ := I.list hs
      obtain ⟨as, hr, _⟩ := Dz.readsAll I ds _ its ha rv
      refine ⟨_, .list ho hc hd hr, fun n f => ?_⟩
      cases n with
      | zero => exact f.elim
      | succ n => exact nomatch f.1
  | .tuple ds, _, _, h, r => by
    cases h with
    | tup hs ha =>
      cases r
      obtain ⟨its, rv, ⟨o, ho, hc, n, hd⟩, _⟩ := I.tuple hs
      obtain ⟨as, hr, no⟩ := Dz.readsAll I ds _ its ha rv
      refine ⟨_, .tuple ho hc hd hr, fun n f => ?_⟩
      cases n with
      | zero => exact f.elim
      | succ n => exact no n f.2
  | .dict kvs, _, _, h, r => by
    cases h with
    | nod _ h =>
      cases r
      obtain ⟨q, n⟩ := reads_nod I.hok h
      exact ⟨_, q, fun _ _ => n⟩
theorem Dz.readsAll (I : Inv X pins σ H s) : ∀ (ds : List PyData) (vs : List V) (us : List Value), DzAll S X.K H vs ds → Vals vs us → ∃ as, ReadsAll s.heap us ds as ∧ ∀ n, (∀ d ∈ ds, Fine false n d) → sysModules ∉ as
  | [], _, _, h, r => by
    cases h; cases r
    exact ⟨_, .nil, fun _ _ => by simp⟩
  | d :: ds, _, _, h, r => by
    cases h with
    | cons h1 h2 =>
      cases r with
      | cons r1 r2 =>
        obtain ⟨as, q1, n1⟩ := Dz.reads I d _ _ h1 r1
        obtain ⟨bs, q2, n2⟩ := Dz.readsAll I ds _ _ h2 r2
        exact ⟨_, .cons q1 q2, fun n f m => (List.mem_append.mp m).elim (n1 n (f d List.mem_cons_self)) (n2 n fun x hx => f x (List.mem_cons_of_mem _ hx))⟩
end
end
def rReprZ (K : PySem.W.Frag) : List V → Hp → VK → Prop := fun xs H Q => ∃ x d b, xs = [x] ∧ Dz [] K H x d ∧ Fine b 5 d ∧ Q (.str d.shown) H
theorem call_reprZ {X : Cx} (gs : X.A.guards = some []) (hu : X.A.units + 64 < cLine) : CallR X (.builtin "repr") (rReprZ X.K) := by
  rintro pins s σ H _ us Q I rel ⟨x, d, b, rfl, dz, fine, want⟩
  obtain ⟨len, sh, dep, nd⟩ := fine.shown
  have len : d.shown.length ≤ sizeLine := Nat.le_trans len LL5
  cases rel with
  | cons ru rn =>
    cases rn
    rename_i u
    obtain ⟨as, r, sm⟩ := Dz.reads I d _ u dz ru
    have sm : d.hasDict = true → sysModules ∉ as := fun h => by
      cases b with
      | true => rw [nd rfl] at h; cases h
      | false => exact sm 5 fine
    have boxed : ∀ a : Addr, Reads s.heap (.ref a) d as → wpAny (model X.prog X.w) X.A (call (.builtin "repr") [.ref a]) (EP X pins σ Q) X.xe s := fun a r =>
      repr_of_reads' r sh sm gs (by omega) (fun _ _ e => e) (fun h' _ tk same => ⟨.str d.shown, H, I.kept (t' := tk) same, ⟨_, rfl⟩, want⟩) len
    have fin : ∀ {z : Str} {t k : Tok}, z = d.shown → EP X pins σ Q (.str z t) { s with toks := k } := fun {z t k} e => ⟨.str z, H, I.tok k, ⟨_, rfl⟩, e ▸ want⟩
    cases dz with
    | non => cases ru; exact PySem.P.repr_of_none (fin (by simp [PyData.shown]))
    | bl b => cases ru; exact PySem.P.repr_of_bool (fin (by simp [PyData.shown]))
    | int i =>
      obtain ⟨t, rfl⟩ := ru
      exact PySem.P.repr_of_int (by simpa [PyData.showable] using sh) (fin (by simp [PyData.shown]))
    | str z =>
      obtain ⟨t, rfl⟩ := ru
      exact PySem.P.repr_of_str (fin (by simp [PyData.shown])) (by simpa [PyData.shown] using len)
    | lst _ _ _ => cases ru; exact boxed _ r
    | tup _ _ => cases ru; exact boxed _ r
    | nod _ _ => cases ru; exact boxed _ r
end Wd

set_option Elab.async false
set_option linter.all false
set_option maxRecDepth 100000
set_option maxHeartbeats 4000000
namespace Wd
open PySem PySem.Spec PyProof.Rows L2 WdM
/-! ### clean data: tuples of small letters -/
def okL (x : Str) : Prop := ∀ c ∈ x.cps.toList, letB c = true
def Cl : Nat → PyData → Prop
  | _, .none => False
  | _, .bool _ => False
  | _, .int _ => False
  | _, .str x => okL x ∧ x.length ≤ 9
  | _, .list _ => False
  | 0, .tuple _ => False
  | n + 1, .tuple ds => ds.length ≤ 7 ∧ ∀ d ∈ ds, Cl n d
  | _, .dict _ => False
theorem let_lt : ∀ c ∈ lettersS.cps.toList, c < 128 := by decide +kernel
theorem okL.ok {x : Str} (h : okL x) : okS x := fun c hc => Nat.lt_trans (let_lt c (of_decide_eq_true (h c hc))) (by decide)
theorem Cl.str {n : Nat} {x : Str} (h : Cl n (.str x)) : okL x ∧ x.length ≤ 9 := by cases n <;> exact h
theorem Cl.of_str {n : Nat} {x : Str} (h : okL x ∧ x.length ≤ 9) : Cl n (.str x) := by cases n <;> exact h
theorem Cl.fine {b : Bool} : ∀ {n : Nat} {d : PyData}, Cl n d → Fine b n d
  | n, .none, h => by cases n <;> exact h.elim
  | n, .bool _, h => by cases n <;> exact h.elim
  | n, .int _, h => by cases n <;> exact h.elim
  | n, .str x, h => by
    have := h.str
    have : okS x ∧ x.length ≤ 30 := ⟨this.1.ok, by omega⟩
    cases n <;> exact this
  | n, .list _, h => by cases n <;> exact h.elim
  | n, .dict _, h => by cases n <;> exact h.elim
  | 0, .tuple _, h => h.elim
  | n + 1, .tuple ds, h => ⟨by have := h.1; omega, fun d hd => (h.2 d hd).fine⟩
/-- a clean value -/
def Cz (K : PySem.W.Frag) (n : Nat) (H : Hp) (v : V) : Prop := ∃ d, Dz [] K H v d ∧ Cl n d
section
variable {K : PySem.W.Frag} {S S' : List Addr}
theorem cl_tk {H H' : Hp} (e : Tk H H') : ∀ {n : Nat} {v : V} {d : PyData}, Cl n d → Dz S K H v d → Dz S' K H' v d := by
  intro n
  induction n with
  | zero =>
    intro v d c h
    cases h with
    | str x => exact .str x
    | _ => exact c.elim
  | succ n ih =>
    intro v d c h
    have all : ∀ {xs : List V} {ds : List PyData}, (∀ d ∈ ds, Cl n d) → DzAll S K H xs ds → DzAll S' K H' xs ds := by
      intro xs
      induction xs with
      | nil =>
        intro ds _ h
        cases h
        exact .nil
      | cons x xs ih2 =>
        intro ds hc h
        cases h with
        | cons h t => exact .cons (ih (hc _ List.mem_cons_self) h) (ih2 (fun d hd => hc d (List.mem_cons_of_mem _ hd)) t)
    cases h with
    | str x => exact .str x
    | tup h t => exact .tup (e.sq h) (all c.2 t)
    | _ => exact c.elim
theorem Cz.tk {H H' : Hp} {n : Nat} {v : V} (h : Cz K n H v) (e : Tk H H') : Cz K n H' v := by
  obtain ⟨d, h, c⟩ := h
  exact ⟨d, cl_tk e c h, c⟩
/-- a value of small data: lists where b, else dicts -/
def Bz (K : PySem.W.Frag) (S : List Addr) (b : Bool) (n : Nat) (H : Hp) (v : V) : Prop := ∃ d, Dz S K H v d ∧ Fine b n d
theorem Cz.bz {H : Hp} {n : Nat} {v : V} {b : Bool} (h : Cz K n H v) : Bz K S b n H v := by
  obtain ⟨d, h, c⟩ := h
  exact ⟨d, cl_tk (Tk.refl H) c h, c.fine⟩
theorem Bz.same {H H' : Hp} {n : Nat} {v : V} {b : Bool} (h : Bz K S b n H v) (e : Same H H') : Bz K S b n H' v := by
  obtain ⟨d, h, c⟩ := h
  exact ⟨d, h.same e, c⟩
theorem Bz.mono {H : Hp} {n m : Nat} {v : V} {b : Bool} (h : Bz K S b n H v) (l : n ≤ m) : Bz K S b m H v := by
  obtain ⟨d, h, c⟩ := h
  exact ⟨d, h, c.mono l⟩
theorem Bz.bt {H H' : Hp} {n : Nat} {v : V} {b : Bool} (h : Bz K S b n H v) (e : Bt S H H') (hl : ∀ a ∈ S, ∃ zs, H a = some (.lst zs)) : Bz K S b n H' v := by
  obtain ⟨d, h, c⟩ := h
  exact ⟨d, dz_stay (stay_bt e hl) h, c⟩
theorem Bz.less {H : Hp} {n : Nat} {v : V} {b : Bool} (h : Bz K S b n H v) : Bz K [] b n H v := by
  obtain ⟨d, h, c⟩ := h
  exact ⟨d, h.less, c⟩
theorem bz_all {H : Hp} {n : Nat} {b : Bool} : ∀ {xs : List V}, (∀ x ∈ xs, Bz K S b n H x) → ∃ ds, DzAll S K H xs ds ∧ ∀ d ∈ ds, Fine b n d
  | [], _ => ⟨[], .nil, fun _ h => nomatch h⟩
  | x :: xs, h => by
    obtain ⟨d, h1, f1⟩ := h x List.mem_cons_self
    obtain ⟨ds, h2, f2⟩ := bz_all (xs := xs) fun y hy => h y (List.mem_cons_of_mem _ hy)
    exact ⟨d :: ds, .cons h1 h2, fun e he => (List.mem_cons.mp he).elim (fun z => z ▸ f1) (f2 e)⟩
theorem bz_tup {H : Hp} {n : Nat} {b : Bool} {a : Addr} {xs : List V} (h : SqT K H a xs) (l : xs.length ≤ 8) (e : ∀ x ∈ xs, Bz K S b n H x) : Bz K S b (n + 1) H (.ref a) := by
  obtain ⟨ds, h1, f1⟩ := bz_all e
  exact ⟨.tuple ds, .tup h h1, by rw [← h1.len]; exact l, f1⟩
theorem bz_lst {H : Hp} {n : Nat} {a : Addr} {xs : List V} (na : a ∉ S) (h : SqL K H a xs) (l : xs.length ≤ 8) (e : ∀ x ∈ xs, Bz K S true n H x) : Bz K S true (n + 1) H (.ref a) := by
  obtain ⟨ds, h1, f1⟩ := bz_all e
  exact ⟨.list ds, .lst na h h1, rfl, by rw [← h1.len]; exact l, f1⟩
theorem cz_all {H : Hp} {n : Nat} : ∀ {xs : List V}, (∀ x ∈ xs, Cz K n H x) → ∃ ds, DzAll [] K H xs ds ∧ ∀ d ∈ ds, Cl n d
  | [], _ => ⟨[], .nil, fun _ h => nomatch h⟩
  | x :: xs, h => by
    obtain ⟨d, h1, f1⟩ := h x List.mem_cons_self
    obtain ⟨ds, h2, f2⟩ := cz_all (xs := xs) fun y hy => h y (List.mem_cons_of_mem _ hy)
    exact ⟨d :: ds, .cons h1 h2, fun e he => (List.mem_cons.mp he).elim (fun z => z ▸ f1) (f2 e)⟩
theorem cz_tup {H : Hp} {n : Nat} {a : Addr} {xs : List V} (h : SqT K H a xs) (l : xs.length ≤ 7) (e : ∀ x ∈ xs, Cz K n H x) : Cz K (n + 1) H (.ref a) := by
  obtain ⟨ds, h1, f1⟩ := cz_all e
  exact ⟨.tuple ds, .tup h h1, by rw [← h1.len]; exact l, f1⟩
theorem cz_str {H : Hp} {n : Nat} {z : Str} (h : okL z ∧ z.length ≤ 9) : Cz K n H (.str z) := ⟨.str z, .str z, Cl.of_str h⟩
/-- a clean value is a text or a tuple of clean ones -/
theorem cz_cases {H : Hp} {n : Nat} {v : V} (h : Cz K n H v) : (∃ z, v = .str z ∧ okL z ∧ z.length ≤ 9) ∨ ∃ (m : Nat) (a : Addr) (xs : List V), n = m + 1 ∧ v = .ref a ∧ SqT K H a xs ∧ xs.length ≤ 7 ∧ ∀ x ∈ xs, Cz K m H x := by
  obtain ⟨d, h, c⟩ := h
  cases h with
  | str x => exact .inl ⟨x, rfl, c.str⟩
  | tup h t =>
    cases n with
    | zero => exact c.elim
    | succ m =>
      refine .inr ⟨m, _, _, rfl, rfl, h, by rw [t.len]; exact c.1, fun x hx => ?_⟩
      obtain ⟨i, hi⟩ := List.mem_iff_getElem?.mp hx
      obtain ⟨e, he, q⟩ := t.get hi
      exact ⟨e, q, c.2 e (List.mem_of_getElem? he)⟩
  | non => cases n <;> exact c.elim
  | bl => cases n <;> exact c.elim
  | int => cases n <;> exact c.elim
  | lst => cases n <;> exact c.elim
  | nod => cases n <;> exact c.elim
theorem cl_dp {H : Hp} : ∀ {n : Nat} {v : V} {d : PyData}, Cl n d → Dz S K H v d → Dp K H v d := by
  intro n
  induction n with
  | zero =>
    intro v d c h
    cases h with
    | str x => exact .str x
    | _ => exact c.elim
  | succ n ih =>
    intro v d c h
    have all : ∀ {xs : List V} {ds : List PyData}, (∀ d ∈ ds, Cl n d) → DzAll S K H xs ds → DpAll K H xs ds := by
      intro xs
      induction xs with
      | nil =>
        intro ds _ h
        cases h
        exact .nil
      | cons x xs ih2 =>
        intro ds hc h
        cases h with
        | cons h t => exact .cons (ih (hc _ List.mem_cons_self) h) (ih2 (fun d hd => hc d (List.mem_cons_of_mem _ hd)) t)
    cases h with
    | str x => exact .str x
    | tup h t => exact .tup h (all c.2 t)
    | _ => exact c.elim
end
theorem strOk_of {x : Str} (h : okS x) : PyData.strOk x = true := by
  unfold PyData.strOk
  rw [Array.all_eq_true']
  intro c hc
  exact decide_eq_true (h c (Array.mem_toList_iff.mpr hc))
theorem canLayAll_of : ∀ {ds : List PyData}, (∀ d ∈ ds, PyData.canLay0 d = true) → PyData.canLayAll0 ds = true
  | [], _ => by simp [PyData.canLayAll0]
  | d :: ds, h => by
    simp only [PyData.canLayAll0, h d List.mem_cons_self, Bool.true_and]
    exact canLayAll_of fun x hx => h x (List.mem_cons_of_mem _ hx)
theorem cl_lay : ∀ {n : Nat} {d : PyData}, Cl n d → PyData.canLay0 d = true := by
  intro n
  induction n with
  | zero =>
    intro d c
    cases d with
    | str x => simp only [PyData.canLay0]; exact strOk_of c.1.ok
    | _ => exact c.elim
  | succ n ih =>
    intro d c
    cases d with
    | str x => simp only [PyData.canLay0]; exact strOk_of c.1.ok
    | tuple ds => simp only [PyData.canLay0]; exact canLayAll_of fun d hd => ih (c.2 d hd)
    | _ => exact c.elim
theorem cl_shaped {n : Nat} {d : PyData} (c : Cl n d) (hn : n ≤ 64) : SeqAt.shaped d = true := by
  unfold SeqAt.shaped
  rw [cl_lay c, decide_eq_true (Nat.le_trans (c.fine (b := true)).shown.2.2.1 hn)]
  rfl
/-! ### great letters -/
theorem up_lt : ∀ c ∈ lettersS.cps.toList, ∀ e ∈ Unicode.upperOf c, e < 1114112 := by decide +kernel
theorem up_ok {x : Str} (h : okL x) : okS (Txt.upper x) := by
  intro e he
  have he : e ∈ (Txt.upper x).cps := Array.mem_toList_iff.mp he
  unfold Txt.upper placed at he
  obtain ⟨ys, hy, hm⟩ := Array.mem_flatten.mp he
  obtain ⟨i, hi, rfl⟩ := Array.mem_mapIdx.mp hy
  exact up_lt _ (of_decide_eq_true (h _ (Array.mem_toList_iff.mpr (Array.getElem_mem hi)))) e (by simpa using hm)
/-! ### cuts of a list -/
theorem cut_front {xs : List V} {k : Nat} (h : k ≤ xs.length) : cutV xs none (some (k : Int)) = xs.take k := by
  unfold cutV
  rw [HT.sIx_none, HT.sIx_nat, Nat.min_eq_left h]
  simp
theorem cut_back {xs : List V} {k : Nat} (h : k ≤ xs.length) : cutV xs (some (k : Int)) none = xs.drop k := by
  unfold cutV
  rw [HT.sIx_none, HT.sIx_nat, Nat.min_eq_left h]
  rw [List.take_of_length_le (by rw [List.length_drop]; omega)]
theorem cut_mem {xs : List V} {lo hi : Option Int} {x : V} (h : x ∈ cutV xs lo hi) : x ∈ xs := by
  unfold cutV at h
  exact List.mem_of_mem_drop (List.mem_of_mem_take h)
end Wd

set_option Elab.async false
set_option linter.all false
set_option maxRecDepth 100000
set_option maxHeartbeats 4000000
namespace Wd
open PySem PySem.Spec PyProof.Rows L2 WdM
/-! ### data whose texts and tuples aren't too long -/
def Sm : Nat → PyData → Prop
  | _, .none => True
  | _, .bool _ => True
  | _, .int _ => True
  | _, .str x => x.length ≤ 100
  | 0, .list _ => False
  | 0, .tuple _ => False
  | 0, .dict _ => False
  | n + 1, .list ds => ∀ d ∈ ds, Sm n d
  | n + 1, .tuple ds => ds.length ≤ 100 ∧ ∀ d ∈ ds, Sm n d
  | _ + 1, .dict _ => True
def Sml (d : PyData) : Prop := ∃ n, Sm n d
theorem Sml.short {d : PyData} (h : Sml d) : Short d := fun z e => by
  subst e
  obtain ⟨n, h⟩ := h
  have h : z.length ≤ 100 := by cases n <;> exact h
  omega
theorem Sml.mem {ds : List PyData} {d : PyData} (h : Sml (.tuple ds)) (m : d ∈ ds) : Sml d := by
  obtain ⟨n, h⟩ := h
  cases n with
  | zero => exact h.elim
  | succ n => exact ⟨n, h.2 d m⟩
theorem Sml.len {ds : List PyData} (h : Sml (.tuple ds)) : ds.length ≤ 100 := by
  obtain ⟨n, h⟩ := h
  cases n with
  | zero => exact h.elim
  | succ n => exact h.1
theorem sm_up {n : Nat} : ∀ {d : PyData}, Sm n d → Sm (n + 1) d := by
  induction n with
  | zero =>
    intro d h
    cases d with
    | none => trivial
    | bool _ => trivial
    | int _ => trivial
    | str _ => exact h
    | _ => exact h.elim
  | succ n ih =>
    intro d h
    cases d with
    | none => trivial
    | bool _ => trivial
    | int _ => trivial
    | str _ => exact h
    | list ds => exact fun d hd => ih (h d hd)
    | tuple ds => exact ⟨h.1, fun d hd => ih (h.2 d hd)⟩
    | dict _ => trivial
theorem sm_mono {n m : Nat} {d : PyData} (h : Sm n d) (l : n ≤ m) : Sm m d := by
  induction l with
  | refl => exact h
  | step _ ih => exact sm_up ih
theorem dz_int {S : List Addr} {K : PySem.W.Frag} {H : Hp} {v : V} {i : Int} (h : Dz S K H v (.int i)) : v = .int i := by cases h; rfl
/-! ### t == (), whatever t holds -/
def rEqNil (K : PySem.W.Frag) : R2 := fun x y H Q => ∃ a b xs, x = .ref a ∧ y = .ref b ∧ SqT K H a xs ∧ SqT K H b [] ∧ Q (.bl (decide (xs = []))) H
theorem op_eqNil {X : Cx} (hu : X.A.units + 64 < cLine) : OpR X (compareOp .Eq) (rEqNil X.K) := by
  rintro pins s σ H _ _ v u Q I rx ry ⟨a, b, xs, rfl, rfl, ha, hb, q⟩
  cases rx
  cases ry
  obtain ⟨i1, r1, p1, _⟩ := I.tuple ha
  obtain ⟨i2, r2, p2, _⟩ := I.tuple hb
  cases r2
  refine SeqAt.eq_tupleAt (e := fun _ => true) p1 p2 (by omega) (fun j _ h2 => absurd h2 (by simp)) ⟨.bl (decide (xs = [])), H, I, ?_, q⟩
  show Value.bool _ = Value.bool _
  have e := r1.length
  congr 1
  cases xs with
  | nil =>
    cases r1
    simp
  | cons x xs =>
    cases r1
    simp
/-! ### t[1:] -/
theorem cut_tup1 {K : PySem.W.Frag} {σ : L2.St} {H : Hp} {a : Addr} {xs : List V} {Q : VK} (ha : SqT K H a xs) (l : 1 ≤ xs.length) (q : ∀ p H', Same H H' → SqT K H' p (xs.drop 1) → Q (.ref p) H') : tNoPart σ H fun u H3 => rSlA K (.ref a) (some 1) u H3 Q := by
  have e : cutV xs (some 1) none = xs.drop 1 := cut_back (k := 1) l
  refine ⟨a, xs, rfl, ha, fun ⟨e1, _⟩ => ?_, fun _ p np => q p _ (same_new np) (by rw [← e]; exact sqT upd_same)⟩
  have e2 : HT.sIx xs.length 0 (some ((1 : Nat) : Int)) = 0 := e1
  rw [HT.sIx_nat] at e2
  omega
/-! ### two sources in one comprehension -/
section
variable {J J1 : It} {n : Nat} {G : Hp → Prop} {Y : Nat → Hp → V → Hp → Prop}
theorem lc_outer (w : Walk J n G Y) {g : TG} {tt : TT} {B : (Hp → Prop) → L2.St → Hp → Prop} {vs : List Nat} {σ : L2.St} {H1 : Hp} {D : Addr} {Qd : Hp → Prop} (Pv : Nat → Hp → Prop) (h0 : Pv 0 (upd H1 D (.lst []))) (hG : ∀ i H, i ≤ n → Pv i H → G H)
    (hs : ∀ i x H H', i < n → Pv i H → Y i H x H' → g x (wipe σ vs) H' fun σ2 H2 => wipe σ2 vs = wipe σ vs ∧ tt σ2 H2 fun b H3 => if b = true then B (Pv (i + 1)) σ2 H3 else Pv (i + 1) H3) (hd : ∀ H, Pv n H → Qd H) :
    ∃ W : Nat → Nat → Hp → Prop, (∃ m, W 0 m (upd H1 D (.lst []))) ∧ ∀ i m H, W i m H → (J.stop i H ∧ Qd H) ∨ (J.go i H ∧ ∃ Nx : Hp → Prop, (∀ H', Nx H' → ∃ m', m' < m ∧ W (i + 1) m' H') ∧ ∀ x H', J.yld i H x H' → g x (wipe σ vs) H' fun σ2 H2 => wipe σ2 vs = wipe σ vs ∧ tt σ2 H2 fun b H3 => if b = true then B Nx σ2 H3 else Nx H3) := by
  refine ⟨fun i m H => m = n - i ∧ i ≤ n ∧ Pv i H, ⟨n, rfl, Nat.zero_le _, h0⟩, ?_⟩
  rintro i _ H ⟨rfl, hi, p⟩
  have g0 := hG i H hi p
  by_cases hlt : i < n
  · exact .inr ⟨w.goes i H hlt g0, Pv (i + 1), fun H' p' => ⟨n - (i + 1), by omega, rfl, hlt, p'⟩, fun x H' y => hs i x H H' hlt p (w.yields i H x H' hlt g0 y)⟩
  · obtain rfl : i = n := by omega
    exact .inl ⟨w.stops H g0, hd H p⟩
theorem lc_inner (w : Walk J n G Y) {g : TG} {tt : TT} {te : TE} {vs : List Nat} {σ : L2.St} {H1 : Hp} {D : Addr} {Nx : Hp → Prop} (Pv : Nat → Hp → Prop) (h0 : Pv 0 H1) (hG : ∀ i H, i ≤ n → Pv i H → G H)
    (hs : ∀ i x H H', i < n → Pv i H → Y i H x H' → g x (wipe σ vs) H' fun σ3 H5 => wipe σ3 vs = wipe σ vs ∧ tt σ3 H5 fun b H6 => if b = true then te σ3 H6 fun y H7 => ∃ acc, H7 D = some (.lst acc) ∧ acc.length < sizeLine ∧ Pv (i + 1) (upd H7 D (.lst (acc ++ [y]))) else Pv (i + 1) H6) (hd : ∀ H, Pv n H → Nx H) :
    ∃ W1 : Nat → Nat → Hp → Prop, (∃ m, W1 0 m H1) ∧ ∀ j k H, W1 j k H → (J.stop j H ∧ Nx H) ∨ (J.go j H ∧ ∃ Nx1 : Hp → Prop, (∀ H', Nx1 H' → ∃ k', k' < k ∧ W1 (j + 1) k' H') ∧ ∀ x H', J.yld j H x H' → g x (wipe σ vs) H' fun σ3 H5 => wipe σ3 vs = wipe σ vs ∧ tt σ3 H5 fun b H6 => if b = true then te σ3 H6 fun y H7 => ∃ acc, H7 D = some (.lst acc) ∧ acc.length < sizeLine ∧ Nx1 (upd H7 D (.lst (acc ++ [y]))) else Nx1 H6) := by
  refine ⟨fun i m H => m = n - i ∧ i ≤ n ∧ Pv i H, ⟨n, rfl, Nat.zero_le _, h0⟩, ?_⟩
  rintro i _ H ⟨rfl, hi, p⟩
  have g0 := hG i H hi p
  by_cases hlt : i < n
  · exact .inr ⟨w.goes i H hlt g0, Pv (i + 1), fun H' p' => ⟨n - (i + 1), by omega, rfl, hlt, p'⟩, fun x H' y => hs i x H H' hlt p (w.yields i H x H' hlt g0 y)⟩
  · obtain rfl : i = n := by omega
    exact .inl ⟨w.stops H g0, hd H p⟩
end
end Wd

set_option Elab.async false
set_option linter.all false
set_option maxRecDepth 100000
set_option maxHeartbeats 4000000
set_option exponentiation.threshold 5000
namespace WdQ
open PySem PySem.Spec PyProof.Rows L2 WdM Wd
def topS (i : Nat) : Stmt := PySem.Challenge.pw_willdealt_k09_whole_houses_grown_by_line.main.body.getD i (.Pass ⟨0, 0, 0, 0⟩)
abbrev sName : Stmt := topS 21
theorem scName : FnScope ["thing", "sign"] ["thing"] (defScope sName) := ⟨rfl, rfl, rfl, by decide +kernel, rfl, by decide +kernel, by decide +kernel⟩
/-- what the top holds for names -/
structure NmF (K : PySem.W.Frag) (mg : Str → Option Value) (aW : Addr) : Prop where
  gL : ∃ t, mg "LETTERS" = some (.str lettersS t)
  gN : ∃ t, mg "LONGEST" = some (.int 8 t)
  gW : mg "WORDS" = some (.ref aW)
  tW : ∀ H, SqT K H aW noNames
section
variable {P : Program} {w : World} {K : PySem.W.Frag} {mg : Str → Option Value} {base : Heap}
def spName (K : PySem.W.Frag) : Sp := fun vs H Q _ => ∃ (v : V) (d : PyData), vs = [v] ∧ Is K H v d ∧ Short d ∧ ∀ H', Same H H' → Q (.bl (nameB d)) H'
theorem ok_name {f : Addr} {fd : FuncData} {k : Nat} {aW : Addr} (B : Bi mg) (T : NmF K mg aW) (D : Df K mg "is_name" sName f fd ["thing"]) : FnOk P w K mg base CX0 (k + 1) f fd ["thing"] (spName K) := by
  refine D.fn.ok scName (fun vs H Q E h => ?_) (fun cdv A outer s H vs Q E hr h => ?_)
  · obtain ⟨v, d, rfl, _⟩ := h
    rfl
  · obtain ⟨v, d, rfl, th, sk, q⟩ := h
    obtain ⟨tL, gL⟩ := T.gL
    obtain ⟨tN, gN⟩ := T.gN
    refine ⟨_, pss_cons (ps_if (PW.pt (pw_or (pt_not (pt_val (pe_callB call_isi (by rfl) B.isi boot_isinstance (pa_cons (pv 0) (pa_cons (pe_bltn (v := .ty "str") (by rfl) B.str boot_str rfl) pa_nil)))))
          (pw_or1 (pt_not (pt_chain op_le op_le pe_int (pe_callB call_len_str (by rfl) B.len PySem.boot_len (pa_cons (pv 0) pa_nil)) (pe_glob (v := .int 8) (by rfl) gN ⟨_, rfl⟩)))))) (pss_one (ps_ret pe_bl)) pss_nil)
      (pss_one (ps_ret (pe_and (pe_cmpR op_notIn_seq (pv 0) (pe_glob (v := .ref aW) (by rfl) T.gW rfl) (by rfl)) (pe_one (pe_callB (cr_all rfl) (by rfl) B.all (by decide +kernel) (pa_cons
          (pe_lc (own := [("sign", 1)]) (g := gName 1) (tt := tYes) rfl scName.nd (pi_str (pv 0)) (blkOk_by (own := [("sign", 1)]) (N := ["thing", "sign"]) (sc := defScope sName) (by decide +kernel))
            (fun _ _ _ _ _ => pg_name (i := 1) scName.nd rfl (Or.inl rfl)) (fun _ _ _ _ _ => pts_nil)
            (fun _ _ _ _ _ => pe_cmpR op_in_sign (pv 1) (pe_glob (v := .str lettersS) (by rfl) gL ⟨_, rfl⟩) (by rfl))) pa_nil)))))), ?_⟩
    refine ⟨_, rfl, _, .ty "str", _, .type "str", _, rfl, .ty _, th.ty, kit_str d, _, rfl, ?_⟩
    by_cases hs : strB d = true
    · rw [hs]
      obtain ⟨z, rfl⟩ := str_of hs
      obtain rfl := th.str z rfl
      have zl := sk z rfl
      have no : ¬ (1 ≤ z.length ∧ z.length ≤ 8) → nameB (.str z) = false := fun e => by
        show (decide _ && _ && _) = false
        rw [decide_eq_false e]
        rfl
      refine iteF ⟨_, rfl, z, rfl, small_len zl, 1, _, rfl, rfl, _, rfl, ?_⟩
      by_cases l0 : 1 ≤ z.length
      · rw [decide_eq_true (show (1 : Int) ≤ (z.length : Int) by omega)]
        refine iteT ⟨_, 8, rfl, rfl, _, rfl, ?_⟩
        by_cases l1 : z.length ≤ 8
        · rw [decide_eq_true (show (z.length : Int) ≤ 8 by omega)]
          refine iteF ⟨_, rfl, aW, noNames, rfl, .inr (T.tW H), rfl, rfl, _, rfl, ?_⟩
          have yes : nameB (.str z) = (!inV (.str z) noNames && z.cps.toList.all letB) := by
            show (decide _ && _ && _) = _
            rw [decide_eq_true ⟨l0, l1⟩]
            rfl
          rw [yes] at q
          by_cases hi : inV (.str z) noNames = true
          · rw [hi] at q ⊢
            exact iteF (q H (Same.refl H))
          · have hi' : inV (.str z) noNames = false := by simpa using hi
            rw [hi'] at q ⊢
            refine iteT ⟨_, rfl, z, rfl, fun L nL => lc_it walk_str (fun i H' => H' L = some (.lst (((z.cps.toList.take i).map letB).map V.bl)) ∧ Same H H') ⟨upd_same, same_new nL⟩ (fun _ _ _ _ => trivial) ?_ ?_⟩
            · rintro i x H1 H' hx ⟨hL, sm⟩ ⟨rfl, c, hc, rfl⟩
              refine ⟨rfl, tyes (iteT ⟨_, rfl, c, lettersS, rfl, rfl, ?_⟩)⟩
              have hc' : z.cps.toList[i]? = some c := by simpa using hc
              refine ⟨_, hL, ?_, ?_, ?_⟩
              · rw [List.length_map, List.length_map, List.length_take]
                exact small1000 (by have := lt_get hc'; have : z.cps.toList.length = z.length := by simp [Str.length]
                                    omega)
              · rw [upd_same, take_more hc', List.map_append, List.map_append]
                rfl
              · exact ((Bt.of_same (S := []) sm).upd0 nL).same
            · rintro H' ⟨hL, sm⟩
              have e : z.cps.toList.take z.cps.size = z.cps.toList := List.take_of_length_le (by simp)
              rw [e] at hL
              refine ⟨L, _, rfl, sqL hL, ?_⟩
              have e2 : (z.cps.toList.map letB).all id = z.cps.toList.all letB := by rw [List.all_map]; rfl
              rw [e2]
              exact q H' sm
        · rw [decide_eq_false (show ¬ (z.length : Int) ≤ 8 by omega)]
          rw [no (fun e => l1 e.2)] at q
          exact iteT (q H (Same.refl H))
      · rw [decide_eq_false (show ¬ (1 : Int) ≤ (z.length : Int) by omega)]
        rw [no (fun e => l0 e.1)] at q
        exact iteF ⟨_, rfl, iteT (q H (Same.refl H))⟩
    · have hs' : strB d = false := by simpa using hs
      rw [hs']
      rw [name_no hs'] at q
      exact iteT (iteT (q H (Same.refl H)))
end
end WdQ

set_option Elab.async false
set_option linter.all false
set_option maxRecDepth 100000
set_option maxHeartbeats 4000000
set_option exponentiation.threshold 5000
namespace WdQ
open PySem PySem.Spec PyProof.Rows L2 WdM Wd
abbrev sWhole : Stmt := topS 11
theorem scWhole : FnScope ["thing"] ["thing"] (defScope sWhole) := ⟨rfl, rfl, rfl, by decide +kernel, rfl, by decide +kernel, by decide +kernel⟩
section
variable {P : Program} {w : World} {K : PySem.W.Frag} {mg : Str → Option Value} {base : Heap}
def spWhole (K : PySem.W.Frag) : Sp := fun vs H Q _ => ∃ (x : V) (d : PyData), vs = [x] ∧ Is K H x d ∧ Q (.bl (wholeB d)) H
theorem ok_whole {f : Addr} {fd : FuncData} {k : Nat} (B : Bi mg) (D : Df K mg "is_whole" sWhole f fd ["thing"]) : FnOk P w K mg base CX0 (k + 1) f fd ["thing"] (spWhole K) := by
  refine D.fn.ok scWhole (fun vs H Q E h => ?_) (fun cdv A outer s H vs Q E hr h => ?_)
  · obtain ⟨x, d, rfl, _⟩ := h
    rfl
  · obtain ⟨x, d, rfl, th, q⟩ := h
    obtain ⟨b1, b2, k1, k2, e⟩ := kit_whole (K := K) d
    rw [← e] at q
    refine ⟨_, pss_one (ps_ret (pe_and (pe_callB call_isi (by rfl) B.isi boot_isinstance (pa_cons (pv 0) (pa_cons (pe_bltn (v := .ty "int") (by rfl) B.int boot_int rfl) pa_nil)))
      (pe_one (pe_not (pe_callB call_isi (by rfl) B.isi boot_isinstance (pa_cons (pv 0) (pa_cons (pe_bltn (v := .ty "bool") (by rfl) B.bool boot_bool rfl) pa_nil))))))), ?_⟩
    refine ⟨x, rfl, x, .ty "int", _, _, b1, rfl, .ty _, th.ty, k1, b1, rfl, ?_⟩
    cases b1 with
    | false => exact iteF q
    | true => exact iteT ⟨x, rfl, x, .ty "bool", _, _, b2, rfl, .ty _, th.ty, k2, b2, rfl, q⟩
end
end WdQ



set_option Elab.async false
set_option linter.all false
set_option maxRecDepth 100000
set_option maxHeartbeats 4000000
set_option exponentiation.threshold 5000
namespace WdQ
open PySem PySem.Spec PyProof.Rows L2 WdM Wd
abbrev sWord : Stmt := topS 20
theorem scWord : FnScope ["thing", "words"] ["thing", "words"] (defScope sWord) := ⟨rfl, rfl, rfl, by decide +kernel, rfl, by decide +kernel, by decide +kernel⟩
def wordB (ws : List V) : PyData → Bool
  | .str z => inV (.str z) ws
  | _ => false
theorem word_no {ws : List V} {d : PyData} (h : strB d = false) : wordB ws d = false := by cases d <;> first | rfl | cases h
section
variable {P : Program} {w : World} {K : PySem.W.Frag} {mg : Str → Option Value} {base : Heap}
def spWord (K : PySem.W.Frag) : Sp := fun vs H Q _ => ∃ (v : V) (d : PyData) (a : Addr) (ws : List V), vs = [v, .ref a] ∧ Is K H v d ∧ (SqL K H a ws ∨ SqT K H a ws) ∧ ws.all flatV = true ∧ Q (.bl (wordB ws d)) H
theorem ok_word {f : Addr} {fd : FuncData} {k : Nat} (B : Bi mg) (D : Df K mg "is_word" sWord f fd ["thing", "words"]) : FnOk P w K mg base CX0 (k + 1) f fd ["thing", "words"] (spWord K) := by
  refine D.fn.ok scWord (fun vs H Q E h => ?_) (fun cdv A outer s H vs Q E hr h => ?_)
  · obtain ⟨v, d, a, ws, rfl, _⟩ := h
    rfl
  · obtain ⟨v, d, a, ws, rfl, th, hw, fl, q⟩ := h
    refine ⟨_, pss_one (ps_ret (pe_and (pe_callB call_isi (by rfl) B.isi boot_isinstance (pa_cons (pv 0) (pa_cons (pe_bltn (v := .ty "str") (by rfl) B.str boot_str rfl) pa_nil))) (pe_one (pe_cmpR op_in_seq (pv 0) (pv 1) (by rfl))))), ?_⟩
    refine ⟨_, rfl, _, .ty "str", _, .type "str", _, rfl, .ty _, th.ty, kit_str d, _, rfl, ?_⟩
    by_cases hs : strB d = true
    · rw [hs]
      obtain ⟨z, rfl⟩ := str_of hs
      obtain rfl := th.str z rfl
      exact iteT ⟨_, rfl, _, rfl, a, ws, rfl, hw, rfl, fl, q⟩
    · have hs' : strB d = false := by simpa using hs
      rw [hs']
      rw [word_no hs'] at q
      exact iteF q
end
end WdQ

set_option Elab.async false
set_option linter.all false
set_option maxRecDepth 100000
set_option maxHeartbeats 4000000
namespace Wd
open PySem PySem.Spec PyProof.Rows L2 WdM
/-- what the top has written of an own error with one field: the class x at C, its __init__ at fI; CW its family -/
structure ErC (K : PySem.W.Frag) (mg : Str → Option Value) (x fld : Str) (C fI CW : Addr) : Prop where
  o : OexC K C
  no : PySem.W.findIn K (.ref C) fld = some none
  i : PySem.W.findIn K (.ref C) "__init__" = some (some (.ref fI))
  t : PySem.W.typeIn K (.ref fI) = some (.type "function")
  g : mg x = some (.ref C)
  m : PySem.W.exmOne K (.ref C) (.ref CW) = some true
  c : ExcC K C
  f : XfC K C
def spInitE (C : Addr) (fld : Str) : Sp := fun vs H Q _ => ∃ (a : Addr) (y : V), vs = [.ref a, y] ∧ H a = some (exo a C none) ∧ ∀ dx, H dx = none → dx ≠ a → Q .non (upd (upd H dx (exd dx [(fld, y)])) a (exo a C (some dx)))
theorem heap_made {H : Hp} {a dx : Addr} {o1 o2 o3 o4 : HO} (ha : H a = none) (ne : dx ≠ a) : upd (del (upd (upd (upd H a o1) dx o2) a o3) a) dx o4 = upd H dx o4 := by
  funext b
  by_cases h1 : b = dx
  · rw [h1, upd_same, upd_same]
  · rw [upd_ne h1, upd_ne h1]
    by_cases h2 : b = a
    · rw [h2, del_same, ha]
    · rw [del_ne h2, upd_ne h2, upd_ne h1, upd_ne h2]
theorem raise_var {C : Addr} {fld : Str} {i : Nat} {x : V} {H : Hp} {σ : L2.St} {R : XK} (h0 : σ[i]? = some (some x)) (hq : ∀ dd, H dd = none → R (.ref C) (some dd) (upd H dd (.xd [(fld, x)]))) : tMkO C (spInitE C fld) [] (tCons (tVar i) tNil) σ H R :=
  ⟨x, h0, by show 1 ≤ 1000; decide, fun e ne => ⟨e, x, rfl, upd_same, fun dx h1 h2 => ⟨rfl, dx, [(fld, x)], upd_same, by rw [upd_ne h2, upd_same], by rw [upd_ne h2] at h1; exact h1, by
    rw [heap_made ne h2]
    exact hq dx (by rw [upd_ne h2] at h1; exact h1)⟩⟩⟩
/-- an own error without a field: the class x at C, CW its family -/
structure ErN (K : PySem.W.Frag) (mg : Str → Option Value) (x : Str) (C CW : Addr) : Prop where
  x_ : PySem.W.excIn K C [.type "ValueError", .type "Exception", .type "BaseException", .type "object"] "ValueError.__new__" = true
  g : mg x = some (.ref C)
  k : PySem.W.keepIn K (.ref C) = true
  b : PySem.W.subIn K (.ref C) (.type "BaseException") = some true
  t : PySem.W.typeIn K (.ref C) = some (.type "type")
  m : PySem.W.exmOne K (.ref C) (.ref CW) = some true
  c : ExcC K C
  i : PySem.W.kitOne K (.ref C) (.ref C) = some true
end Wd

set_option Elab.async false
set_option linter.all false
set_option maxRecDepth 100000
set_option maxHeartbeats 4000000
namespace Wd
open PySem PySem.Spec PyProof.Rows L2 WdM
/-! ### unlike names -/
/-- a text of letters, not too long -/
def wdB (n : Nat) (z : Str) : Prop := okL z ∧ 1 ≤ z.length ∧ z.length ≤ n
/-- a drawn name -/
def Nm (z : Str) : Prop := wdB 6 z ∧ inV (.str z) noNames = false
theorem Nm.name {z : Str} (h : Nm z) : nmB z = true := by
  unfold nmB
  rw [h.2, decide_eq_true (show 1 ≤ z.length ∧ z.length ≤ 8 from ⟨h.1.2.1, by have := h.1.2.2; omega⟩)]
  rw [show z.cps.toList.all letB = true from List.all_eq_true.mpr h.1.1]
  rfl
theorem app_cps (x y : Str) : (x ++ y).cps.toList = x.cps.toList ++ y.cps.toList := by
  show (x.cps ++ y.cps).toList = _
  exact Array.toList_append
theorem str_ext {x y : Str} (h : x.cps.toList = y.cps.toList) : x = y := by
  cases x; cases y
  have := Array.toList_inj.mp h
  simp only at this
  rw [this]
theorem app_len (x y : Str) : (x ++ y).length = x.length + y.length := by
  show (x.cps ++ y.cps).size = _
  rw [Array.size_append]
  rfl
theorem okL_app {x y : Str} (hx : okL x) (hy : okL y) : okL (x ++ y) := fun c hc => by
  rw [app_cps] at hc
  rcases List.mem_append.mp hc with h | h
  · exact hx c h
  · exact hy c h
theorem cut_sub {z : Str} {lo hi : Option Int} {c : Nat} (h : c ∈ (cutS z lo hi).cps.toList) : c ∈ z.cps.toList := by
  unfold cutS at h
  exact List.mem_of_mem_drop (List.mem_of_mem_take h)
/-- word[:4] + letter + "x" -/
def cand (z : Str) (c : Nat) : Str := cutS z none (some 4) ++ ⟨#[c]⟩ ++ "x"
theorem cand_cps (z : Str) (c : Nat) : (cand z c).cps.toList = (cutS z none (some 4)).cps.toList ++ [c, 120] := by
  unfold cand
  rw [app_cps, app_cps, List.append_assoc]
  rfl
theorem cand_inj {z : Str} {c d : Nat} (h : cand z c = cand z d) : c = d := by
  have := congrArg (fun s : Str => s.cps.toList) h
  simp only [cand_cps] at this
  have := List.append_cancel_left this
  exact (List.cons.inj this).1
theorem eqV_str {a b : Str} (h : eqV (.str a) (.str b) = true) : a = b := by
  have h : (a == b) = true := h
  exact eq_of_beq h
theorem inV_str {z : Str} {ws : List Str} : inV (.str z) (ws.map V.str) = true ↔ z ∈ ws := by
  unfold inV
  rw [List.any_map, List.any_eq_true]
  constructor
  · rintro ⟨x, hx, e⟩
    rw [← eqV_str e]
    exact hx
  · intro h
    exact ⟨z, h, by show (z == z) = true; exact beq_self_eq_true z⟩
def noS : List Str := ["all", "and", "children", "childless", "crown", "else", "if", "lives", "not", "of", "or", "stock", "to"]
theorem noNames_eq : noNames = noS.map V.str := rfl
theorem no_last : ∀ z ∈ noS, z.cps.toList.getLast? ≠ some 120 := by decide +kernel
theorem cand_no {z : Str} {c : Nat} : inV (.str (cand z c)) noNames = false := by
  rw [Bool.eq_false_iff, noNames_eq]
  intro h
  have := no_last _ (inV_str.mp h)
  rw [cand_cps] at this
  exact this (by simp)
theorem cand_wd {z : Str} {c : Nat} (h : okL z) (hc : letB c = true) : wdB 6 (cand z c) := by
  refine ⟨?_, ?_, ?_⟩
  · intro x hx
    rw [cand_cps] at hx
    rcases List.mem_append.mp hx with h1 | h1
    · exact h x (cut_sub h1)
    · simp only [List.mem_cons, List.not_mem_nil, or_false] at h1
      rcases h1 with rfl | rfl
      · exact hc
      · decide
  · unfold cand
    rw [app_len]
    show 1 ≤ _ + 1
    omega
  · unfold cand
    rw [app_len, app_len]
    have : (cutS z none (some 4)).length ≤ 4 := by
      show (((z.cps.toList.drop (HT.sIx z.length 0 none)).take (HT.sIx z.length z.length (some 4) - HT.sIx z.length 0 none)).toArray).size ≤ 4
      rw [List.size_toArray, List.length_take, List.length_drop]
      have : HT.sIx z.length z.length (some 4) ≤ 4 := by
        unfold HT.sIx
        simp
        omega
      omega
    show _ + 1 + 1 ≤ 6
    omega
theorem pick {f : Nat → Str} (inj : ∀ c d, f c = f d → c = d) : ∀ (cs : List Nat) (found : List Str), cs.Nodup → (∀ c ∈ cs, f c ∈ found) → cs.length ≤ found.length
  | [], _, _, _ => Nat.zero_le _
  | c :: cs, found, nd, h => by
    have h0 := h c List.mem_cons_self
    have nd' := List.nodup_cons.mp nd
    have := pick inj cs (found.erase (f c)) nd'.2 (fun d hd => by
      refine (List.mem_erase_of_ne (fun e => ?_)).mpr (h d (List.mem_cons_of_mem _ hd))
      exact nd'.1 (inj _ _ e ▸ hd))
    rw [List.length_erase_of_mem h0] at this
    have := List.length_pos_of_mem h0
    rw [List.length_cons]
    omega
theorem letters_nodup : lettersS.cps.toList.Nodup := by decide +kernel
/-- the candidates of a word, and those that may be taken -/
def cands (z : Str) : List Str := z :: lettersS.cps.toList.map (cand z)
def freeB (found : List Str) (z : Str) : Bool := !inV (.str z) (found.map V.str) && !inV (.str z) noNames
theorem some_free {z : Str} {found : List Str} (h : found.length < 26) : ∃ y ys, (cands z).filter (freeB found) = y :: ys := by
  cases e : (cands z).filter (freeB found) with
  | cons y ys => exact ⟨y, ys, rfl⟩
  | nil =>
    exfalso
    have all : ∀ c ∈ lettersS.cps.toList, cand z c ∈ found := fun c hc => by
      have := List.filter_eq_nil_iff.mp e (cand z c) (List.mem_cons_of_mem _ (List.mem_map_of_mem hc))
      unfold freeB at this
      rw [cand_no] at this
      apply inV_str.mp
      cases h2 : inV (.str (cand z c)) (found.map V.str) with
      | true => rfl
      | false => rw [h2] at this; exact absurd rfl this
    have := pick (f := cand z) (fun _ _ => cand_inj) _ _ letters_nodup all
    have : lettersS.cps.toList.length = 26 := by decide +kernel
    omega
theorem free_nm {z y : Str} {found : List Str} (hz : wdB 6 z) (h : y ∈ (cands z).filter (freeB found)) : Nm y ∧ y ∉ found := by
  obtain ⟨h1, h2⟩ := List.mem_filter.mp h
  obtain ⟨a, b⟩ := Bool.and_eq_true_iff.mp h2
  have b : inV (.str y) noNames = false := by simpa using b
  have a : inV (.str y) (found.map V.str) = false := by simpa using a
  refine ⟨⟨?_, b⟩, fun m => by rw [inV_str.mpr m] at a; cases a⟩
  rcases List.mem_cons.mp h1 with rfl | h1
  · exact hz
  · obtain ⟨c, hc, rfl⟩ := List.mem_map.mp h1
    exact cand_wd hz.1 (decide_eq_true hc)
/-! ### texts in their order -/
def LtS (a b : Str) : Prop := a.cps.toList < b.cps.toList
theorem LtS.trans {a b c : Str} (h : LtS a b) (h2 : LtS b c) : LtS a c := List.lt_trans h h2
theorem lt_of_not {a b : Str} (h : ltCps b.cps.toList a.cps.toList = false) (n : a ≠ b) : LtS a b := by
  rw [ltCps_eq] at h
  have h := of_decide_eq_false h
  have h1 := List.not_lt.mp h
  apply Classical.byContradiction
  intro h2
  exact n (str_ext (List.le_antisymm h1 (List.not_lt.mp h2)))
theorem rising_pw : ∀ (p : Str) (l : List Str), risingS p l = true → (p :: l).Nodup → (p :: l).Pairwise LtS
  | p, [], _, _ => List.pairwise_singleton _ _
  | p, x :: r, h, nd => by
    obtain ⟨h1, h2⟩ := Bool.and_eq_true_iff.mp (show (!ltCps x.cps.toList p.cps.toList && risingS x r) = true from h)
    have h1 : ltCps x.cps.toList p.cps.toList = false := by simpa using h1
    have nd' := List.nodup_cons.mp nd
    have ih := rising_pw x r h2 nd'.2
    have px : LtS p x := lt_of_not h1 (fun e => nd'.1 (e ▸ List.mem_cons_self))
    refine List.pairwise_cons.mpr ⟨fun y hy => ?_, ih⟩
    rcases List.mem_cons.mp hy with rfl | hy
    · exact px
    · exact px.trans ((List.pairwise_cons.mp ih).1 y hy)
theorem sorted_pw {l : List Str} (h : sortedS l = true) (nd : l.Nodup) : l.Pairwise LtS := by
  cases l with
  | nil => exact List.Pairwise.nil
  | cons x r => exact rising_pw x r h nd
theorem pw_next : ∀ {l : List Str} {i : Nat} {a b : Str}, l.Pairwise LtS → l[i]? = some a → l[i + 1]? = some b → LtS a b
  | [], i, a, b, _, h, _ => by cases h
  | x :: l, 0, a, b, p, h, h2 => by
    cases h
    exact (List.pairwise_cons.mp p).1 b (List.mem_of_getElem? (show l[0]? = some b from h2))
  | x :: l, i + 1, a, b, p, h, h2 => pw_next (List.pairwise_cons.mp p).2 (show l[i]? = some a from h) (show l[i + 1]? = some b from h2)
end Wd

set_option Elab.async false
set_option linter.all false
set_option maxRecDepth 100000
set_option maxHeartbeats 4000000
set_option exponentiation.threshold 5000
namespace WdQ
open PySem PySem.Spec PyProof.Rows L2 WdM Wd
abbrev sSum : Stmt := topS 12
abbrev sPerson : Stmt := topS 25
abbrev sChkP : Stmt := topS 27
abbrev sChkG : Stmt := topS 28
abbrev sHouse : Stmt := topS 31
abbrev sHI : Stmt := inClass sHouse 0
theorem scSum : FnScope ["thing"] ["thing"] (defScope sSum) := ⟨rfl, rfl, rfl, by decide +kernel, rfl, by decide +kernel, by decide +kernel⟩
theorem scPerson : FnScope ["thing", "ahead", "name", "parent"] ["thing", "ahead"] (defScope sPerson) := ⟨rfl, rfl, rfl, by decide +kernel, rfl, by decide +kernel, by decide +kernel⟩
theorem scChkP : FnScope ["people", "ahead", "number", "person"] ["people"] (defScope sChkP) := ⟨rfl, rfl, rfl, by decide +kernel, rfl, by decide +kernel, by decide +kernel⟩
theorem scChkG : FnScope ["goods", "ahead", "number", "good"] ["goods"] (defScope sChkG) := ⟨rfl, rfl, rfl, by decide +kernel, rfl, by decide +kernel, by decide +kernel⟩
theorem scHI : FnScope ["self", "people", "goods", "purse", "debts", "things", "amount"] ["self", "people", "goods", "purse", "debts"] (defScope sHI) := ⟨rfl, rfl, rfl, by decide +kernel, rfl, by decide +kernel, by decide +kernel⟩
def parV : Option Str → V
  | none => .non
  | some y => .str y
/-- rows that a house is made of -/
structure GoodF (rows : List (Str × Option Str)) : Prop where
  l1 : 1 ≤ rows.length
  l8 : rows.length ≤ 8
  nd : (rows.map Prod.fst).Nodup
  nm : ∀ r ∈ rows, Nm r.1
  pr : ∀ (i : Nat) (r : Str × Option Str) (y : Str), rows[i]? = some r → r.2 = some y → y ∈ (rows.take i).map Prod.fst
def FolkAt (K : PySem.W.Frag) (H : Hp) (v : V) (rows : List (Str × Option Str)) : Prop := ∃ (t : Addr) (xs : List V), v = .ref t ∧ SqT K H t xs ∧ xs.length = rows.length ∧ ∀ (i : Nat) (x : V), xs[i]? = some x → ∃ (a : Addr) (r : Str × Option Str), x = .ref a ∧ rows[i]? = some r ∧ SqT K H a [.str r.1, parV r.2]
section
variable {P : Program} {w : World} {K : PySem.W.Frag} {mg : Str → Option Value} {base : Heap} {CH CY : Addr}
theorem FolkAt.tk {H H' : Hp} {v : V} {rows : List (Str × Option Str)} (h : FolkAt K H v rows) (e : Tk H H') : FolkAt K H' v rows := by
  obtain ⟨t, xs, rfl, hs, l, hx⟩ := h
  exact ⟨t, xs, rfl, e.sq hs, l, fun i x hi => by obtain ⟨a, r, e1, e2, e3⟩ := hx i x hi; exact ⟨a, r, e1, e2, e.sq e3⟩⟩
def spZero : Sp := fun vs H Q _ => vs = [.int 0] ∧ Q (.bl true) H
theorem ok_zero {f fW : Addr} {fd fdW : FuncData} {k : Nat} {tS : Tok} (B : Bi mg) (gS : mg "MOST_SUM" = some (.int 1000000000 tS)) (D : Df K mg "is_sum" sSum f fd ["thing"]) (DW : Df K mg "is_whole" sWhole fW fdW ["thing"]) : FnOk P w K mg base CX0 (k + 2) f fd ["thing"] spZero := by
  have GW : FnOk P w K mg base CX0 (k + 1) fW fdW ["thing"] (spWhole K) := ok_whole B DW
  refine D.fn.ok scSum (fun vs H Q E h => ?_) (fun cdv A outer s H vs Q E hr h => ?_)
  · obtain ⟨rfl, _⟩ := h
    rfl
  · obtain ⟨rfl, q⟩ := h
    refine ⟨_, pss_one (ps_ret (pe_and (pe_call GW hr (by rfl) DW.mg DW.fn.kp DW.bd .nil pass0 (pa_cons (pv 0) pa_nil)) (pe_one (pe_chain op_le op_le pe_int (pv 0) (pe_glob (v := .int 1000000000) (by rfl) gS ⟨_, rfl⟩))))), ?_⟩
    exact ⟨_, rfl, .int 0, .int 0, rfl, (Th.dp (.int 0)).is, true, rfl, iteT ⟨_, rfl, 0, 0, rfl, rfl, true, rfl, iteT ⟨0, _, rfl, rfl, q⟩⟩⟩
/-! ### one of the people -/
def spPerson (K : PySem.W.Frag) : Sp := fun vs H Q _ => ∃ (t l : Addr) (z : Str) (o : Option Str) (ns : List Str), vs = [.ref t, .ref l] ∧ SqT K H t [.str z, parV o] ∧ H l = some (.lst (ns.map V.str)) ∧ nmB z = true ∧ z.length ≤ 1000 ∧ z ∉ ns ∧ (∀ y, o = some y → y ∈ ns) ∧ ∀ H', Same H H' → Q (.bl true) H'
theorem flatS (zs : List Str) : (zs.map V.str).all flatV = true := by
  rw [List.all_map, List.all_eq_true]
  exact fun _ _ => rfl
theorem ok_person {f fN fW : Addr} {fd fdN fdW : FuncData} {k : Nat} (B : Bi mg) (GN : FnOk P w K mg base CX0 (k + 1) fN fdN ["thing"] (spName K)) (GW : FnOk P w K mg base CX0 (k + 1) fW fdW ["thing", "words"] (spWord K)) (D : Df K mg "is_person" sPerson f fd ["thing", "ahead"]) (DN : Df K mg "is_name" sName fN fdN ["thing"]) (DW : Df K mg "is_word" sWord fW fdW ["thing", "words"]) :
    FnOk P w K mg base CX0 (k + 2) f fd ["thing", "ahead"] (spPerson K) := by
  refine D.fn.ok scPerson (fun vs H Q E h => ?_) (fun cdv A outer s H vs Q E hr h => ?_)
  · obtain ⟨t, l, z, o, ns, rfl, _⟩ := h
    rfl
  · obtain ⟨t, l, z, o, ns, rfl, hs, hl, nm, zl, nn, po, q⟩ := h
    refine ⟨_, pss_cons (ps_if (PW.pt (pw_or (pt_not (pt_val (pe_callB call_isi (by rfl) B.isi boot_isinstance (pa_cons (pv 0) (pa_cons (pe_bltn (v := .ty "tuple") (by rfl) B.tuple boot_tuple rfl) pa_nil)))))
          (pw_or1 (pt_cmpR op_ne (pe_callB call_len_seq (by rfl) B.len PySem.boot_len (pa_cons (pv 0) pa_nil)) pe_int (nomark _))))) (pss_one (ps_ret pe_bl)) pss_nil)
      (pss_cons (ps_asg (pv 0) (pg_tup rfl (pgs_cons (pg_name (i := 2) scPerson.nd rfl (.inl rfl)) (pgs_cons (pg_name (i := 3) scPerson.nd rfl (.inl rfl)) pgs_nil))))
      (pss_cons (ps_if (PW.pt (pw_or (pt_not (pt_val (pe_call GN hr (by rfl) DN.mg DN.fn.kp DN.bd .nil pass0 (pa_cons (pv 2) pa_nil)))) (pw_or1 (pt_cmpR op_in_seq (pv 2) (pv 1) (by rfl))))) (pss_one (ps_ret pe_bl)) pss_nil)
      (pss_one (ps_ret (pe_or (pe_cmpR op_isN (pv 3) pe_non (nomark _)) (pe_one (pe_call GW hr (by rfl) DW.mg DW.fn.kp DW.bd .nil pass0 (pa_cons (pv 3) (pa_cons (pv 1) pa_nil))))))))), ?_⟩
    refine ⟨_, rfl, _, .ty "tuple", _, .type "tuple", true, rfl, .ty _, tyT hs, kit_ty (by decide +kernel), true, rfl, iteF ⟨_, rfl, t, _, rfl, .inr hs, rfl, _, rfl, iteF ?_⟩⟩
    refine ⟨_, rfl, t, _, rfl, hs, rfl, _, _, rfl, _, _, rfl, rfl, ?_⟩
    refine ⟨_, rfl, .str z, .str z, rfl, (Th.dp (.str z)).is, (fun y e => by cases e; exact zl), fun H1 sm => ?_⟩
    rw [show nameB (.str z) = true from nm]
    have nin : inV (.str z) (ns.map V.str) = false := by
      rw [Bool.eq_false_iff]
      exact fun e => nn (inV_str.mp e)
    refine ⟨true, rfl, iteF ⟨_, rfl, _, rfl, l, _, rfl, .inl (sqL (sm _ _ hl)), rfl, flatS ns, _, rfl, ?_⟩⟩
    show if inV (.str z) (ns.map V.str) = true then _ else _
    rw [nin]
    cases o with
    | none => exact iteF ⟨_, rfl, rfl, true, rfl, iteT (q H1 sm)⟩
    | some y =>
      refine iteF ⟨_, rfl, rfl, false, rfl, iteF ⟨_, rfl, _, rfl, .str y, .str y, l, _, rfl, (Th.dp (.str y)).is, .inl (sqL (sm _ _ hl)), flatS ns, ?_⟩⟩
      rw [show wordB (ns.map V.str) (.str y) = true from inV_str.mpr (po y rfl)]
      exact q H1 sm
def spChkP (K : PySem.W.Frag) : Sp := fun vs H Q _ => ∃ (v : V) (rows : List (Str × Option Str)), vs = [v] ∧ FolkAt K H v rows ∧ GoodF rows ∧ ∀ H', Same H H' → Q .non H'
theorem fst_new {α : Type} : ∀ {rows : List (Str × α)} {i : Nat} {r : Str × α}, (rows.map Prod.fst).Nodup → rows[i]? = some r → r.1 ∉ (rows.take i).map Prod.fst
  | [], i, r, _, h => by cases h
  | s :: rows, 0, r, nd, h => by simp
  | s :: rows, i + 1, r, nd, h => by
    rw [List.map_cons, List.nodup_cons] at nd
    have h : rows[i]? = some r := h
    rw [List.take_succ_cons, List.map_cons, List.mem_cons]
    rintro (e | e)
    · exact nd.1 (e ▸ List.mem_map_of_mem (List.mem_of_getElem? h))
    · exact fst_new nd.2 h e
theorem ok_chkP {f fD : Addr} {fd fdD : FuncData} {tM : Tok} {k : Nat} (B : Bi mg) (gM : mg "MOST_PEOPLE" = some (.int 8 tM))
    (GD : FnOk P w K mg base CX0 (k + 2) fD fdD ["thing", "ahead"] (spPerson K)) (D : Df K mg "check_people" sChkP f fd ["people"]) (DD : Df K mg "is_person" sPerson fD fdD ["thing", "ahead"]) : FnOk P w K mg base (L2.CX P w) (k + 3) f fd ["people"] (spChkP K) := by
  refine D.fn.okX scChkP (fun vs H Q E h => ?_) (fun cdv A outer s H vs Q E hr h => ?_)
  · obtain ⟨v, rows, rfl, _⟩ := h
    rfl
  · obtain ⟨v, rows, rfl, ⟨t, xs, rfl, ht, xl, hx⟩, gf, q⟩ := h
    refine ⟨_, pss_cons (ps_if (PW.pt (pw_or (pt_not (pt_val (pe_callB call_isi (by rfl) B.isi boot_isinstance (pa_cons (pv 0) (pa_cons (pe_bltn (v := .ty "tuple") (by rfl) B.tuple boot_tuple rfl) pa_nil)))))
          (pw_or1 (pt_not (pt_chain op_le op_le pe_int (pe_callB call_len_seq (by rfl) B.len PySem.boot_len (pa_cons (pv 0) pa_nil)) (pe_glob (v := .int 8) (by rfl) gM ⟨_, rfl⟩)))))) (pss_one ps_no) pss_nil)
      (pss_cons (ps_set (i := 1) scChkP.nd rfl (.inl rfl) (pe_lst pa_nil))
      (pss_one (ps_for (passes_of rfl) rfl (pi_E .tu (by rfl) B.enum (pa_cons (pv 0) pa_nil)) (pg_tup rfl (pgs_cons (pg_name (i := 2) scChkP.nd rfl (.inl rfl)) (pgs_cons (pg_name (i := 3) scChkP.nd rfl (.inl rfl)) pgs_nil)))
        (pss_cons (ps_if (pt_not (pt_val (pe_call GD hr (by rfl) DD.mg DD.fn.kp DD.bd .nil pass0 (pa_cons (pv 3) (pa_cons (pv 1) pa_nil))))) (pss_one ps_no) pss_nil)
        (pss_one (ps_expr (pe_bm PySem.F.plainAttrs_list PySem.F.slot_list_append PySem.F.type_list_append mt_append (pv 1) (pa_cons (pe_ix (r := rIxT K) ix_tup (pv 3) pe_int (fun _ _ => rfl)) pa_nil)))))))), ?_⟩
    have l1 := gf.l1
    have l8 := gf.l8
    refine ⟨_, rfl, _, .ty "tuple", _, .type "tuple", true, rfl, .ty _, tyT ht, kit_ty (by decide +kernel), true, rfl, iteF ⟨_, rfl, t, _, rfl, .inr ht, 1, _, rfl, rfl, _, rfl, ?_⟩⟩
    rw [decide_eq_true (show (1 : Int) ≤ ((xs.length : Nat) : Int) by omega)]
    refine iteT ⟨_, 8, rfl, rfl, _, rfl, ?_⟩
    rw [decide_eq_true (show ((xs.length : Nat) : Int) ≤ 8 by omega)]
    refine iteF ?_
    refine ⟨by show 0 ≤ sizeLine; decide, fun l nl => ?_⟩
    have sm0 : Same H (upd H l (.lst [])) := same_new nl
    have hl0 : (upd H l (.lst [])) l = some (.lst []) := upd_same
    revert sm0 hl0
    generalize upd H l (.lst []) = H1
    intro sm0 hl0
    have ht1 := (tk_same sm0).sq ht
    refine ⟨_, rfl, t, _, rfl, ht1, for_it (walkE (K := K) (k := .tu) (a := t) (xs := xs)) (fun i σ H' => ∃ y2 y3, σ = [some (.ref t), some (.ref l), y2, y3] ∧ Same H H' ∧ H' l = some (.lst (((rows.take i).map Prod.fst).map V.str))) ⟨none, none, rfl, sm0, hl0⟩ (fun i σ H' _ ⟨_, _, _, s, _⟩ => (tk_same s).sq ht) ?_ ?_⟩
    · rintro i _ σ H4 _ i1 ⟨y2, y3, rfl, s4, hl4⟩ ⟨T1, _, y, rfl, nT, rfl, ei, hy⟩
      cases ei
      obtain ⟨a, r, rfl, hr, ha⟩ := hx i y hy
      have s5 : Same H4 (upd H4 T1 (.tup [.int (i : Nat), .ref a])) := same_new nT
      have g5 : (upd H4 T1 (.tup [.int (i : Nat), .ref a])) T1 = some (.tup [.int (i : Nat), .ref a]) := upd_same
      revert s5 g5
      generalize upd H4 T1 (.tup [.int (i : Nat), .ref a]) = H5
      intro s5 g5
      refine ⟨T1, _, rfl, sqT g5, rfl, _, _, rfl, _, _, rfl, rfl, ?_⟩
      have h25 := (tk_same (s4.trans s5)).sq ha
      have nm := gf.nm r (List.mem_of_getElem? hr)
      refine ⟨_, rfl, _, rfl, a, l, r.1, r.2, _, rfl, h25, s5 _ _ hl4, nm.name, by have := nm.1.2.2; omega, fst_new gf.nd hr, fun z e => gf.pr i r z hr e, fun H6 s6 => ⟨true, rfl, iteF ?_⟩⟩
      have hl6 := s6 _ _ (s5 _ _ hl4)
      refine ⟨_, rfl, .inl ⟨rfl, _, sqL hl6⟩, _, rfl, a, _, 0, .str r.1, rfl, rfl, (tk_same s6).sq h25, atI_nat (j := 0) rfl, l, _, _, rfl, rfl, hl6, ?_, ?_⟩
      · rw [List.length_map, List.length_map, List.length_take]
        exact Nat.lt_of_lt_of_le (show _ < 9 by omega) (by decide)
      refine ⟨_, _, rfl, ((Bt.of_same (S := []) (s4.trans (s5.trans s6))).upd0 nl).same, ?_⟩
      rw [upd_same, take_more hr, List.map_append, List.map_append]
      rfl
    · rintro σ H4 ⟨y2, y3, rfl, s4, _⟩
      exact q H4 s4
def spChk0 (K : PySem.W.Frag) : Sp := fun vs H Q _ => ∃ t, vs = [.ref t] ∧ SqT K H t [] ∧ ∀ H', Same H H' → Q .non H'
theorem ok_chkG0 {f : Addr} {fd : FuncData} {tM : Tok} {k : Nat} (B : Bi mg) (gM : mg "MOST_GOODS" = some (.int 8 tM)) (D : Df K mg "check_goods" sChkG f fd ["goods"]) : FnOk P w K mg base (L2.CX P w) (k + 1) f fd ["goods"] (spChk0 K) := by
  refine D.fn.okX scChkG (fun vs H Q E h => ?_) (fun cdv A outer s H vs Q E hr h => ?_)
  · obtain ⟨t, rfl, _⟩ := h
    rfl
  · obtain ⟨t, rfl, ht, q⟩ := h
    refine ⟨_, pss_cons (ps_if (PW.pt (pw_or (pt_not (pt_val (pe_callB call_isi (by rfl) B.isi boot_isinstance (pa_cons (pv 0) (pa_cons (pe_bltn (v := .ty "tuple") (by rfl) B.tuple boot_tuple rfl) pa_nil)))))
          (pw_or1 (pt_cmpR op_gt (pe_callB call_len_seq (by rfl) B.len PySem.boot_len (pa_cons (pv 0) pa_nil)) (pe_glob (v := .int 8) (by rfl) gM ⟨_, rfl⟩) (nomark _))))) (pss_one ps_no) pss_nil)
      (pss_cons (ps_set (i := 1) scChkG.nd rfl (.inl rfl) (pe_lst pa_nil))
      (pss_one (ps_for (passes_of rfl) rfl (pi_E .tu (by rfl) B.enum (pa_cons (pv 0) pa_nil)) (pg_tup rfl (pgs_cons (pg_name (i := 2) scChkG.nd rfl (.inl rfl)) (pgs_cons (pg_name (i := 3) scChkG.nd rfl (.inl rfl)) pgs_nil))) pss_noS))), ?_⟩
    refine ⟨_, rfl, _, .ty "tuple", _, .type "tuple", true, rfl, .ty _, tyT ht, kit_ty (by decide +kernel), true, rfl, iteF ⟨_, rfl, t, _, rfl, .inr ht, _, 8, rfl, rfl, _, rfl, iteF ?_⟩⟩
    refine ⟨by show 0 ≤ sizeLine; decide, fun l nl => ?_⟩
    have sm0 : Same H (upd H l (.lst [])) := same_new nl
    revert sm0
    generalize upd H l (.lst []) = H1
    intro sm0
    refine ⟨_, rfl, t, _, rfl, (tk_same sm0).sq ht, for_it (walkE (K := K) (k := .tu) (a := t) (xs := [])) (fun i σ H' => Same H H') sm0 (fun i σ H' _ s => (tk_same s).sq ht) ?_ ?_⟩
    · intro i x σ H3 H4 hi
      exact absurd hi (Nat.not_lt_zero _)
    · intro σ H' s
      exact q H' s
/-! ### House -/
structure HsF (K : PySem.W.Frag) (C : Addr) : Prop where
  cl : Cls K C
  n1 : NoAttr K C "folk"
  n2 : NoAttr K C "things"
  n3 : NoAttr K C "purse"
  n4 : NoAttr K C "debts"
/-- a house of people without goods, purse and debts -/
def HouseAt (K : PySem.W.Frag) (CH : Addr) (H : Hp) (o : Addr) (v : V) : Prop := ∃ (dx t : Addr), H o = some (.ins CH dx [("folk", v), ("things", .ref t), ("purse", .int 0), ("debts", .int 0)]) ∧ SqT K H t []
def spHI (K : PySem.W.Frag) (CH : Addr) : Sp := fun vs H Q _ => ∃ (o dx : Addr) (v : V) (rows : List (Str × Option Str)), vs = [.ref o, v, .non, .int 0, .int 0] ∧ H o = some (.ins CH dx []) ∧ FolkAt K H v rows ∧ GoodF rows ∧ ∀ H', Bt [o] H H' → Q .non H'
theorem ok_HI {f fC fG fS : Addr} {fd fdC fdG fdS : FuncData} {k : Nat} (B : Bi mg) (T : HsF K CH) (F : FunD K "__init__" "House.__init__" (defArgs sHI) (defBody sHI) (defScope sHI) [.non, .int 0, .int 0] [] f fd) (GC : FnOk P w K mg base (L2.CX P w) (k + 3) fC fdC ["people"] (spChkP K)) (DC : Df K mg "check_people" sChkP fC fdC ["people"])
    (GG : FnOk P w K mg base (L2.CX P w) (k + 1) fG fdG ["goods"] (spChk0 K)) (DG : Df K mg "check_goods" sChkG fG fdG ["goods"]) (GS : FnOk P w K mg base CX0 (k + 2) fS fdS ["thing"] spZero) (DS : Df K mg "is_sum" sSum fS fdS ["thing"]) :
    FnOk P w K mg base (L2.CX P w) (k + 4) f fd ["self", "people", "goods", "purse", "debts"] (spHI K CH) := by
  refine F.ok scHI (fun vs H Q E h => ?_) (fun cdv A outer s H vs Q E hr h => ?_)
  · obtain ⟨o, dx, v, rows, rfl, _⟩ := h
    rfl
  · obtain ⟨o, dx, v, rows, rfl, ho, hv, gf, q⟩ := h
    have r1 : Room (k + 1) _ := hr.mono (by omega)
    have r2 : Room (k + 2) _ := hr.mono (by omega)
    refine ⟨_, pss_cons (ps_expr (pe_callS GC hr (by rfl) DC.mg DC.fn.kp DC.bd (fun σ => passAt (takes_of rfl rfl rfl rfl) σ) (pa_cons (pv 1) pa_nil)))
      (pss_cons (ps_set (i := 5) scHI.nd rfl (.inl rfl) (pe_ifExp (pt_cmpR op_isN (pv 2) pe_non (nomark _)) (pe_tup pa_nil) pe_no))
      (pss_cons (ps_expr (pe_callS GG r1 (by rfl) DG.mg DG.fn.kp DG.bd (fun σ => passAt (takes_of rfl rfl rfl rfl) σ) (pa_cons (pv 5) pa_nil)))
      (pss_cons (ps_for (passes_of rfl) rfl (pi_tup (pe_tup (pa_cons (pv 3) (pa_cons (pv 4) pa_nil)))) (pg_name (i := 6) scHI.nd rfl (.inl rfl))
        (pss_one (ps_if (pt_not (pt_val (pe_call GS r2 (by rfl) DS.mg DS.fn.kp DS.bd .nil pass0 (pa_cons (pv 6) pa_nil)))) (pss_one ps_no) pss_nil)))
      (pss_cons (ps_fld (pv 0) (pv 1) rfl) (pss_cons (ps_fld (pv 0) (pv 5) rfl) (pss_cons (ps_fld (pv 0) (pv 3) rfl) (pss_one (ps_fld (pv 0) (pv 4) rfl)))))))), ?_⟩
    refine ⟨_, rfl, v, rows, rfl, hv, gf, fun H1 s1 => ?_⟩
    refine ⟨_, rfl, rfl, _, rfl, iteT ⟨by show 0 ≤ sizeLine; decide, fun t nt => ?_⟩⟩
    refine ⟨_, rfl, t, rfl, sqT upd_same, fun H2 s2 => ?_⟩
    have s12 : Same H H2 := s1.trans ((same_new nt).trans s2)
    refine ⟨_, rfl, _, rfl, by show 2 ≤ sizeLine; decide, fun t2 nt2 => ⟨t2, rfl, ⟨_, sqT upd_same⟩, ?_⟩⟩
    have s3 : Same H (upd H2 t2 (.tup [.int 0, .int 0])) := s12.trans (same_new nt2)
    have g3 : (upd H2 t2 (.tup [.int 0, .int 0])) t2 = some (.tup [.int 0, .int 0]) := upd_same
    revert s3 g3
    generalize upd H2 t2 (.tup [.int 0, .int 0]) = H3
    intro s3 g3
    refine for_tup (K := K) (a := t2) (xs := [.int 0, .int 0]) (fun i σ H' => (∃ y, σ = [some (.ref o), some v, some .non, some (.int 0), some (.int 0), some (.ref t), y]) ∧ H' = H3) ⟨⟨_, rfl⟩, rfl⟩ (fun i σ H' _ h => h.2 ▸ sqT g3) ?_ ?_
    · rintro i x σ H4 hx ⟨⟨y, rfl⟩, rfl⟩
      have : x = .int 0 := by
        match i, hx with
        | 0, hx => cases hx; rfl
        | 1, hx => cases hx; rfl
        | i + 2, hx => cases hx
      subst this
      exact ⟨_, rfl, rfl, true, rfl, iteF ⟨⟨_, rfl⟩, rfl⟩⟩
    · rintro σ H4 ⟨⟨y, rfl⟩, rfl⟩
      refine ⟨_, rfl, _, rfl, o, CH, dx, _, rfl, s3 _ _ ho, T.cl, T.n1, by show 0 < 1000; decide, ?_⟩
      refine ⟨_, rfl, _, rfl, o, CH, dx, _, rfl, upd_same, T.cl, T.n2, by show 1 < 1000; decide, ?_⟩
      refine ⟨_, rfl, _, rfl, o, CH, dx, _, rfl, upd_same, T.cl, T.n3, by show 2 < 1000; decide, ?_⟩
      refine ⟨_, rfl, _, rfl, o, CH, dx, _, rfl, upd_same, T.cl, T.n4, by show 3 < 1000; decide, ?_⟩
      exact q _ (((((Bt.of_same s3).upd1 (by simp)).upd1 (by simp)).upd1 (by simp)).upd1 (by simp))
end
end WdQ


set_option Elab.async false
set_option linter.all false
set_option maxRecDepth 100000
set_option maxHeartbeats 4000000
set_option exponentiation.threshold 5000
namespace WdQ
open PySem PySem.Spec PyProof.Rows L2 WdM Wd
abbrev sRow : Stmt := topS 29
abbrev sPers : Stmt := inClass sHouse 7
abbrev sPeo : Stmt := inClass sHouse 1
abbrev sChi : Stmt := inClass sHouse 2
theorem scRow : FnScope ["rows", "name", "row"] ["rows", "name"] (defScope sRow) := ⟨rfl, rfl, rfl, by decide +kernel, rfl, by decide +kernel, by decide +kernel⟩
theorem scPers : FnScope ["self", "name", "row"] ["self", "name"] (defScope sPers) := ⟨rfl, rfl, rfl, by decide +kernel, rfl, by decide +kernel, by decide +kernel⟩
theorem scPeo : FnScope ["self", "row"] ["self"] (defScope sPeo) := ⟨rfl, rfl, rfl, by decide +kernel, rfl, by decide +kernel, by decide +kernel⟩
theorem scChi : FnScope ["self", "name", "row"] ["self", "name"] (defScope sChi) := ⟨rfl, rfl, rfl, by decide +kernel, rfl, by decide +kernel, by decide +kernel⟩
theorem tk_ins {H : Hp} {p C dx : Addr} {fs : List (Str × V)} {o : HO} (h : H p = some (.ins C dx fs)) : Tk H (upd H p o) := fun a xs r => by
  rcases r with r | ⟨q, r⟩
  · refine .inl ?_
    rw [upd_ne (fun e => by rw [e, h] at r; cases r)]
    exact r
  · refine .inr ⟨q, ?_⟩
    rw [upd_ne (fun e => by rw [e, h] at r; cases r)]
    exact r
section
variable {P : Program} {w : World} {K : PySem.W.Frag} {mg : Str → Option Value} {base : Heap} {CH CY : Addr}
/-- a house, of which the people are told -/
def HomeAt (K : PySem.W.Frag) (CH : Addr) (H : Hp) (o : Addr) (rows : List (Str × Option Str)) : Prop := ∃ (dx : Addr) (v : V) (t : V × V × V), H o = some (.ins CH dx [("folk", v), ("things", t.1), ("purse", t.2.1), ("debts", t.2.2)]) ∧ FolkAt K H v rows ∧ GoodF rows ∧ True
theorem HomeAt.same {H H' : Hp} {o : Addr} {rows : List (Str × Option Str)} (h : HomeAt K CH H o rows) (e : Same H H') : HomeAt K CH H' o rows := by
  obtain ⟨dx, v, t, h, d, g, ht⟩ := h
  exact ⟨dx, v, t, e _ _ h, d.tk (tk_same e), g, trivial⟩
def spHIa (K : PySem.W.Frag) (CH : Addr) : Sp := fun vs H Q _ => ∃ (o dx : Addr) (v : V) (rows : List (Str × Option Str)), vs = [.ref o, v, .non, .int 0, .int 0] ∧ H o = some (.ins CH dx []) ∧ FolkAt K H v rows ∧ GoodF rows ∧ ∀ H', Bt [o] H H' → HomeAt K CH H' o rows → Q .non H'
theorem ok_HIa {f fC fG fS : Addr} {fd fdC fdG fdS : FuncData} {k : Nat} (B : Bi mg) (T : HsF K CH) (F : FunD K "__init__" "House.__init__" (defArgs sHI) (defBody sHI) (defScope sHI) [.non, .int 0, .int 0] [] f fd) (GC : FnOk P w K mg base (L2.CX P w) (k + 3) fC fdC ["people"] (spChkP K)) (DC : Df K mg "check_people" sChkP fC fdC ["people"])
    (GG : FnOk P w K mg base (L2.CX P w) (k + 1) fG fdG ["goods"] (spChk0 K)) (DG : Df K mg "check_goods" sChkG fG fdG ["goods"]) (GS : FnOk P w K mg base CX0 (k + 2) fS fdS ["thing"] spZero) (DS : Df K mg "is_sum" sSum fS fdS ["thing"]) :
    FnOk P w K mg base (L2.CX P w) (k + 4) f fd ["self", "people", "goods", "purse", "debts"] (spHIa K CH) := by
  refine F.ok scHI (fun vs H Q E h => ?_) (fun cdv A outer s H vs Q E hr h => ?_)
  · obtain ⟨o, dx, v, rows, rfl, _⟩ := h
    rfl
  · obtain ⟨o, dx, v, rows, rfl, ho, hv, gf, q⟩ := h
    have r1 : Room (k + 1) _ := hr.mono (by omega)
    have r2 : Room (k + 2) _ := hr.mono (by omega)
    refine ⟨_, pss_cons (ps_expr (pe_callS GC hr (by rfl) DC.mg DC.fn.kp DC.bd (fun σ => passAt (takes_of rfl rfl rfl rfl) σ) (pa_cons (pv 1) pa_nil)))
      (pss_cons (ps_set (i := 5) scHI.nd rfl (.inl rfl) (pe_ifExp (pt_cmpR op_isN (pv 2) pe_non (nomark _)) (pe_tup pa_nil) pe_no))
      (pss_cons (ps_expr (pe_callS GG r1 (by rfl) DG.mg DG.fn.kp DG.bd (fun σ => passAt (takes_of rfl rfl rfl rfl) σ) (pa_cons (pv 5) pa_nil)))
      (pss_cons (ps_for (passes_of rfl) rfl (pi_tup (pe_tup (pa_cons (pv 3) (pa_cons (pv 4) pa_nil)))) (pg_name (i := 6) scHI.nd rfl (.inl rfl))
        (pss_one (ps_if (pt_not (pt_val (pe_call GS r2 (by rfl) DS.mg DS.fn.kp DS.bd .nil pass0 (pa_cons (pv 6) pa_nil)))) (pss_one ps_no) pss_nil)))
      (pss_cons (ps_fld (pv 0) (pv 1) rfl) (pss_cons (ps_fld (pv 0) (pv 5) rfl) (pss_cons (ps_fld (pv 0) (pv 3) rfl) (pss_one (ps_fld (pv 0) (pv 4) rfl)))))))), ?_⟩
    refine ⟨_, rfl, v, rows, rfl, hv, gf, fun H1 s1 => ?_⟩
    refine ⟨_, rfl, rfl, _, rfl, iteT ⟨by show 0 ≤ sizeLine; decide, fun t nt => ?_⟩⟩
    refine ⟨_, rfl, t, rfl, sqT upd_same, fun H2 s2 => ?_⟩
    have s12 : Same H H2 := s1.trans ((same_new nt).trans s2)
    have ht2 : SqT K H2 t [] := sqT (s2 _ _ upd_same)
    refine ⟨_, rfl, _, rfl, by show 2 ≤ sizeLine; decide, fun t2 nt2 => ⟨t2, rfl, ⟨_, sqT upd_same⟩, ?_⟩⟩
    have s3 : Same H (upd H2 t2 (.tup [.int 0, .int 0])) := s12.trans (same_new nt2)
    have g3 : (upd H2 t2 (.tup [.int 0, .int 0])) t2 = some (.tup [.int 0, .int 0]) := upd_same
    have ht3 : SqT K (upd H2 t2 (.tup [.int 0, .int 0])) t [] := (tk_new nt2).sq ht2
    revert s3 g3 ht3
    generalize upd H2 t2 (.tup [.int 0, .int 0]) = H3
    intro s3 g3 ht3
    refine for_tup (K := K) (a := t2) (xs := [.int 0, .int 0]) (fun i σ H' => (∃ y, σ = [some (.ref o), some v, some .non, some (.int 0), some (.int 0), some (.ref t), y]) ∧ H' = H3) ⟨⟨_, rfl⟩, rfl⟩ (fun i σ H' _ h => h.2 ▸ sqT g3) ?_ ?_
    · rintro i x σ H4 hx ⟨⟨y, rfl⟩, rfl⟩
      have : x = .int 0 := by
        match i, hx with
        | 0, hx => cases hx; rfl
        | 1, hx => cases hx; rfl
        | i + 2, hx => cases hx
      subst this
      exact ⟨_, rfl, rfl, true, rfl, iteF ⟨⟨_, rfl⟩, rfl⟩⟩
    · rintro σ H4 ⟨⟨y, rfl⟩, rfl⟩
      refine ⟨_, rfl, _, rfl, o, CH, dx, _, rfl, s3 _ _ ho, T.cl, T.n1, by show 0 < 1000; decide, ?_⟩
      refine ⟨_, rfl, _, rfl, o, CH, dx, _, rfl, upd_same, T.cl, T.n2, by show 1 < 1000; decide, ?_⟩
      refine ⟨_, rfl, _, rfl, o, CH, dx, _, rfl, upd_same, T.cl, T.n3, by show 2 < 1000; decide, ?_⟩
      refine ⟨_, rfl, _, rfl, o, CH, dx, _, rfl, upd_same, T.cl, T.n4, by show 3 < 1000; decide, ?_⟩
      have tk1 : ∀ {A : Hp} {fs : List (Str × V)} {ob : HO}, A o = some (.ins CH dx fs) → Tk A (upd A o ob) := fun {A fs ob} h => tk_ins h
      refine q _ (((((Bt.of_same s3).upd1 (by simp)).upd1 (by simp)).upd1 (by simp)).upd1 (by simp)) ⟨dx, v, (.ref t, .int 0, .int 0), upd_same, ?_, gf, trivial⟩
      exact ((((hv.tk (tk_same s3)).tk (tk1 (s3 _ _ ho))).tk (tk1 upd_same)).tk (tk1 upd_same)).tk (tk1 upd_same)
/-! ### people -/
def spPeo (K : PySem.W.Frag) (CH : Addr) : Sp := fun vs H Q _ => ∃ (o : Addr) (rows : List (Str × Option Str)), vs = [.ref o] ∧ HomeAt K CH H o rows ∧ ∀ H' t, Same H H' → SqT K H' t ((rows.map Prod.fst).map V.str) → Q (.ref t) H'
theorem ok_peo {f : Addr} {fd : FuncData} {k : Nat} (B : Bi mg) (T : HsF K CH) (F : Fun K "people" "House.people" sPeo f fd) : FnOk P w K mg base CX0 (k + 1) f fd ["self"] (spPeo K CH) := by
  refine F.ok scPeo (fun vs H Q E h => ?_) (fun cdv A outer s H vs Q E hr h => ?_)
  · obtain ⟨o, rows, rfl, _⟩ := h
    rfl
  · obtain ⟨o, rows, rfl, ⟨dx, v, tt, ho, ⟨t, xs, rfl, ht, xl, hx⟩, gf, _⟩, q⟩ := h
    refine ⟨_, pss_one (ps_ret (pe_callTy call_tuple_of (by rfl) B.tuple boot_tuple (pa_cons (pe_lc (own := [("row", 1)]) (g := gName 1) (tt := tYes) rfl scPeo.nd (pi_tup (pe_fld (pv 0) rfl)) (blkOk_by (own := [("row", 1)]) (N := ["self", "row"]) (sc := defScope sPeo) (by decide +kernel))
        (fun _ _ _ _ _ => pg_name (i := 1) scPeo.nd rfl (Or.inl rfl)) (fun _ _ _ _ _ => pts_nil) (fun _ _ _ _ _ => pe_ix (r := rIxT K) ix_tup (pv 1) pe_int (fun _ _ => rfl))) pa_nil))), ?_⟩
    have l8 := gf.l8
    refine ⟨_, rfl, o, CH, dx, _, _, rfl, ho, T.cl, T.n1, rfl, t, rfl, ⟨_, ht⟩, fun L nL => lc_tup (K := K) (a := t) (xs := xs) (fun j H' => H' L = some (.lst (((rows.take j).map Prod.fst).map V.str)) ∧ Same H H') ⟨upd_same, same_new nL⟩ (fun j H' _ h => (tk_same h.2).sq ht) ?_ ?_⟩
    · rintro j x H5 hx5 ⟨hL, s5⟩
      obtain ⟨ra, r, rfl, hr5, hra⟩ := hx j x hx5
      have jl := lt_get hx5
      refine ⟨rfl, tyes (iteT ⟨_, rfl, ra, _, 0, .str r.1, rfl, rfl, (tk_same s5).sq hra, atI_nat (j := 0) rfl, _, hL, ?_, ?_, ((Bt.of_same (S := []) s5).upd0 nL).same⟩)⟩
      · rw [List.length_map, List.length_map, List.length_take]
        exact small1000 (by omega)
      · rw [upd_same, take_more hr5, List.map_append, List.map_append]
        rfl
    · rintro H5 ⟨hL, s5⟩
      rw [xl, List.take_length] at hL
      exact ⟨L, _, rfl, .inl ⟨sqL hL, fun tp ntp => q _ tp (s5.trans (same_new ntp)) (sqT upd_same)⟩⟩
/-! ### the row of a name -/
def spRow (K : PySem.W.Frag) : Sp := fun vs H Q _ => ∃ (v : V) (z : Str) (rows : List (Str × Option Str)), vs = [v, .str z] ∧ FolkAt K H v rows ∧ z ∈ rows.map Prod.fst ∧ ∀ H' a r, Same H H' → r ∈ rows → r.1 = z → SqT K H' a [.str r.1, parV r.2] → Q (.ref a) H'
theorem ok_row {f fW : Addr} {fd fdW : FuncData} {k : Nat} (D : Df K mg "row_named" sRow f fd ["rows", "name"]) (DW : Df K mg "is_word" sWord fW fdW ["thing", "words"]) (GW : FnOk P w K mg base CX0 (k + 1) fW fdW ["thing", "words"] (spWord K)) : FnOk P w K mg base CX0 (k + 2) f fd ["rows", "name"] (spRow K) := by
  refine D.fn.ok scRow (fun vs H Q E h => ?_) (fun cdv A outer s H vs Q E hr h => ?_)
  · obtain ⟨v, z, rows, rfl, _⟩ := h
    rfl
  · obtain ⟨v, z, rows, rfl, ⟨t, xs, rfl, ht, xl, hx⟩, zm, q⟩ := h
    refine ⟨_, pss_cons (ps_for PassesOwn.never rfl (pi_tup (pv 0)) (pg_name (i := 2) scRow.nd rfl (.inl rfl))
        (pss_one (ps_if (pt_val (pe_call GW hr (by rfl) DW.mg DW.fn.kp DW.bd .nil pass0 (pa_cons (pv 1) (pa_cons (pe_tup (pa_cons (pe_ix (r := rIxT K) ix_tup (pv 2) pe_int (fun _ _ => rfl)) pa_nil)) pa_nil)))) (pss_one (ps_ret (pv 2))) pss_nil)))
      (pss_one (ps_ret pe_non)), ?_⟩
    refine ⟨_, rfl, t, rfl, ⟨_, ht⟩, for_tup (K := K) (a := t) (xs := xs) (fun i σ H' => (∃ y2, σ = [some (.ref t), some (.str z), y2]) ∧ z ∈ (rows.drop i).map Prod.fst ∧ Same H H') ⟨⟨none, rfl⟩, zm, Same.refl H⟩ (fun i σ H' _ h => (tk_same h.2.2).sq ht) ?_ ?_⟩
    · rintro i x σ H2 hx2 ⟨⟨y2, rfl⟩, zi, s2⟩
      obtain ⟨a, r, rfl, hr2, ha⟩ := hx i x hx2
      have m := List.mem_of_getElem? hr2
      refine ⟨_, rfl, _, rfl, a, _, 0, .str r.1, rfl, rfl, (tk_same s2).sq ha, atI_nat (j := 0) rfl, by show 1 ≤ sizeLine; decide, fun tp ntp => ?_⟩
      have s3 : Same H (upd H2 tp (.tup [.str r.1])) := s2.trans (same_new ntp)
      have h3 : (upd H2 tp (.tup [.str r.1])) tp = some (.tup [.str r.1]) := upd_same
      revert s3 h3
      generalize upd H2 tp (.tup [.str r.1]) = H3
      intro s3 h3
      refine ⟨.str z, .str z, tp, [.str r.1], rfl, (Th.dp (.str z)).is, .inr (sqT h3), rfl, ?_⟩
      have wb : wordB [V.str r.1] (.str z) = decide (r.1 = z) := by
        show ((r.1 == z) || false) = _
        rw [Bool.or_false]
        by_cases e : r.1 = z <;> simp [e]
      rw [wb]
      refine ⟨_, rfl, ?_⟩
      by_cases e : r.1 = z
      · rw [decide_eq_true e]
        exact iteT ⟨_, rfl, q H3 a r s3 m e ((tk_same s3).sq ha)⟩
      · rw [decide_eq_false e]
        refine iteF ⟨⟨_, rfl⟩, ?_, s3⟩
        obtain ⟨hi, e2⟩ := List.getElem?_eq_some_iff.mp hr2
        rw [List.drop_eq_getElem_cons hi, List.map_cons] at zi
        rcases List.mem_cons.mp zi with h | h
        · exact absurd (by rw [← e2]; exact h.symm) e
        · exact h
    · rintro σ H2 ⟨⟨y2, rfl⟩, zi, s2⟩
      rw [xl, List.drop_length] at zi
      cases zi
end
end WdQ


set_option Elab.async false
set_option linter.all false
set_option maxRecDepth 100000
set_option maxHeartbeats 4000000
set_option exponentiation.threshold 5000
namespace WdQ
open PySem PySem.Spec PyProof.Rows L2 WdM Wd
/-! ### goods -/
abbrev sGood : Stmt := topS 26
theorem scGood : FnScope ["thing", "ahead", "name", "kind", "worth"] ["thing", "ahead"] (defScope sGood) := ⟨rfl, rfl, rfl, by decide +kernel, rfl, by decide +kernel, by decide +kernel⟩
theorem scChkG2 : FnScope ["goods", "ahead", "number", "good"] ["goods"] (defScope sChkG) := ⟨rfl, rfl, rfl, by decide +kernel, rfl, by decide +kernel, by decide +kernel⟩
def rowG (r : Str × Str × Int) : List V := [.str r.1, .str r.2.1, .int r.2.2]
def GoodsAt (K : PySem.W.Frag) (H : Hp) (v : V) (rows : List (Str × Str × Int)) : Prop := ∃ (t : Addr) (xs : List V), v = .ref t ∧ SqT K H t xs ∧ xs.length = rows.length ∧ ∀ (i : Nat) (x : V), xs[i]? = some x → ∃ (a : Addr) (r : Str × Str × Int), x = .ref a ∧ rows[i]? = some r ∧ SqT K H a (rowG r)
structure GoodG (rows : List (Str × Str × Int)) : Prop where
  l8 : rows.length ≤ 8
  nd : (rows.map Prod.fst).Nodup
  nm : ∀ r ∈ rows, Nm r.1 ∧ Nm r.2.1
  sm : ∀ r ∈ rows, 0 ≤ r.2.2 ∧ r.2.2 ≤ 1000000000
section
variable {P : Program} {w : World} {K : PySem.W.Frag} {mg : Str → Option Value} {base : Heap} {CH CY : Addr}
theorem GoodsAt.tk {H H' : Hp} {v : V} {rows : List (Str × Str × Int)} (h : GoodsAt K H v rows) (e : Tk H H') : GoodsAt K H' v rows := by
  obtain ⟨t, xs, rfl, hs, l, hx⟩ := h
  exact ⟨t, xs, rfl, e.sq hs, l, fun i x hi => by obtain ⟨a, r, e1, e2, e3⟩ := hx i x hi; exact ⟨a, r, e1, e2, e.sq e3⟩⟩
def spSumG : Sp := fun vs H Q _ => ∃ i : Int, vs = [.int i] ∧ 0 ≤ i ∧ i ≤ 1000000000 ∧ Q (.bl true) H
theorem ok_sumG {f fW : Addr} {fd fdW : FuncData} {k : Nat} {tS : Tok} (B : Bi mg) (gS : mg "MOST_SUM" = some (.int 1000000000 tS)) (D : Df K mg "is_sum" sSum f fd ["thing"]) (DW : Df K mg "is_whole" sWhole fW fdW ["thing"]) : FnOk P w K mg base CX0 (k + 2) f fd ["thing"] spSumG := by
  have GW : FnOk P w K mg base CX0 (k + 1) fW fdW ["thing"] (spWhole K) := ok_whole B DW
  refine D.fn.ok scSum (fun vs H Q E h => ?_) (fun cdv A outer s H vs Q E hr h => ?_)
  · obtain ⟨i, rfl, _⟩ := h
    rfl
  · obtain ⟨i, rfl, i0, i1, q⟩ := h
    refine ⟨_, pss_one (ps_ret (pe_and (pe_call GW hr (by rfl) DW.mg DW.fn.kp DW.bd .nil pass0 (pa_cons (pv 0) pa_nil)) (pe_one (pe_chain op_le op_le pe_int (pv 0) (pe_glob (v := .int 1000000000) (by rfl) gS ⟨_, rfl⟩))))), ?_⟩
    refine ⟨_, rfl, .int i, .int i, rfl, (Th.dp (.int i)).is, true, rfl, iteT ⟨_, rfl, 0, i, rfl, rfl, _, rfl, ?_⟩⟩
    rw [decide_eq_true i0]
    refine iteT ⟨i, _, rfl, rfl, ?_⟩
    show Q (.bl (decide (i ≤ 1000000000))) H
    rw [decide_eq_true i1]
    exact q
def spGood (K : PySem.W.Frag) : Sp := fun vs H Q _ => ∃ (t l : Addr) (r : Str × Str × Int) (ns : List Str), vs = [.ref t, .ref l] ∧ SqT K H t (rowG r) ∧ H l = some (.lst (ns.map V.str)) ∧ Nm r.1 ∧ Nm r.2.1 ∧ r.1 ∉ ns ∧ 0 ≤ r.2.2 ∧ r.2.2 ≤ 1000000000 ∧ ∀ H', Same H H' → Q (.bl true) H'
theorem ok_good {f fN fS : Addr} {fd fdN fdS : FuncData} {k : Nat} (B : Bi mg) (GN : FnOk P w K mg base CX0 (k + 2) fN fdN ["thing"] (spName K)) (GS : FnOk P w K mg base CX0 (k + 2) fS fdS ["thing"] spSumG) (D : Df K mg "is_good" sGood f fd ["thing", "ahead"]) (DN : Df K mg "is_name" sName fN fdN ["thing"]) (DS : Df K mg "is_sum" sSum fS fdS ["thing"]) :
    FnOk P w K mg base CX0 (k + 3) f fd ["thing", "ahead"] (spGood K) := by
  refine D.fn.ok scGood (fun vs H Q E h => ?_) (fun cdv A outer s H vs Q E hr h => ?_)
  · obtain ⟨t, l, r, ns, rfl, _⟩ := h
    rfl
  · obtain ⟨t, l, r, ns, rfl, hs, hl, nm, nk, nn, s0, s1, q⟩ := h
    refine ⟨_, pss_cons (ps_if (PW.pt (pw_or (pt_not (pt_val (pe_callB call_isi (by rfl) B.isi boot_isinstance (pa_cons (pv 0) (pa_cons (pe_bltn (v := .ty "tuple") (by rfl) B.tuple boot_tuple rfl) pa_nil)))))
          (pw_or1 (pt_cmpR op_ne (pe_callB call_len_seq (by rfl) B.len PySem.boot_len (pa_cons (pv 0) pa_nil)) pe_int (nomark _))))) (pss_one (ps_ret pe_bl)) pss_nil)
      (pss_cons (ps_asg (pv 0) (pg_tup rfl (pgs_cons (pg_name (i := 2) scGood.nd rfl (.inl rfl)) (pgs_cons (pg_name (i := 3) scGood.nd rfl (.inl rfl)) (pgs_cons (pg_name (i := 4) scGood.nd rfl (.inl rfl)) pgs_nil)))))
      (pss_one (ps_ret (pe_and (pe_call GN hr (by rfl) DN.mg DN.fn.kp DN.bd .nil pass0 (pa_cons (pv 2) pa_nil)) (pe_and (pe_cmpR (r := rIn K true) op_notIn_seq (pv 2) (pv 1) (by rfl)) (pe_and (pe_call GN hr (by rfl) DN.mg DN.fn.kp DN.bd .nil pass0 (pa_cons (pv 3) pa_nil)) (pe_one (pe_call GS hr (by rfl) DS.mg DS.fn.kp DS.bd .nil pass0 (pa_cons (pv 4) pa_nil))))))))), ?_⟩
    refine ⟨_, rfl, _, .ty "tuple", _, .type "tuple", true, rfl, .ty _, tyT hs, kit_ty (by decide +kernel), true, rfl, iteF ⟨_, rfl, t, _, rfl, .inr hs, rfl, _, rfl, iteF ?_⟩⟩
    refine ⟨_, rfl, t, _, rfl, hs, rfl, _, _, rfl, _, _, rfl, _, _, rfl, rfl, ?_⟩
    refine ⟨_, rfl, .str r.1, .str r.1, rfl, (Th.dp (.str r.1)).is, (fun y e => by cases e; have := nm.1.2.2; omega), fun H1 sm => ?_⟩
    rw [show nameB (.str r.1) = true from nm.name]
    have nin : inV (.str r.1) (ns.map V.str) = false := by
      rw [Bool.eq_false_iff]
      exact fun e => nn (inV_str.mp e)
    refine ⟨true, rfl, iteT ⟨_, rfl, _, rfl, l, _, rfl, .inl (sqL (sm _ _ hl)), rfl, flatS ns, true, ?_, iteT ?_⟩⟩
    · show V.bl (!inV (.str r.1) (ns.map V.str)) = _
      rw [nin]
      rfl
    refine ⟨_, rfl, .str r.2.1, .str r.2.1, rfl, (Th.dp (.str r.2.1)).is, (fun y e => by cases e; have := nk.1.2.2; omega), fun H2 sm2 => ?_⟩
    rw [show nameB (.str r.2.1) = true from nk.name]
    exact ⟨true, rfl, iteT ⟨_, rfl, r.2.2, rfl, s0, s1, q H2 (sm.trans sm2)⟩⟩
def spChkG (K : PySem.W.Frag) : Sp := fun vs H Q _ => ∃ (v : V) (rows : List (Str × Str × Int)), vs = [v] ∧ GoodsAt K H v rows ∧ GoodG rows ∧ ∀ H', Same H H' → Q .non H'
theorem ok_chkG {f fD : Addr} {fd fdD : FuncData} {tM : Tok} {k : Nat} (B : Bi mg) (gM : mg "MOST_GOODS" = some (.int 8 tM))
    (GD : FnOk P w K mg base CX0 (k + 3) fD fdD ["thing", "ahead"] (spGood K)) (D : Df K mg "check_goods" sChkG f fd ["goods"]) (DD : Df K mg "is_good" sGood fD fdD ["thing", "ahead"]) : FnOk P w K mg base (L2.CX P w) (k + 4) f fd ["goods"] (spChkG K) := by
  refine D.fn.okX scChkG2 (fun vs H Q E h => ?_) (fun cdv A outer s H vs Q E hr h => ?_)
  · obtain ⟨v, rows, rfl, _⟩ := h
    rfl
  · obtain ⟨v, rows, rfl, ⟨t, xs, rfl, ht, xl, hx⟩, gf, q⟩ := h
    refine ⟨_, pss_cons (ps_if (PW.pt (pw_or (pt_not (pt_val (pe_callB call_isi (by rfl) B.isi boot_isinstance (pa_cons (pv 0) (pa_cons (pe_bltn (v := .ty "tuple") (by rfl) B.tuple boot_tuple rfl) pa_nil)))))
          (pw_or1 (pt_cmpR op_gt (pe_callB call_len_seq (by rfl) B.len PySem.boot_len (pa_cons (pv 0) pa_nil)) (pe_glob (v := .int 8) (by rfl) gM ⟨_, rfl⟩) (nomark _))))) (pss_one ps_no) pss_nil)
      (pss_cons (ps_set (i := 1) scChkG2.nd rfl (.inl rfl) (pe_lst pa_nil))
      (pss_one (ps_for (passes_of rfl) rfl (pi_E .tu (by rfl) B.enum (pa_cons (pv 0) pa_nil)) (pg_tup rfl (pgs_cons (pg_name (i := 2) scChkG2.nd rfl (.inl rfl)) (pgs_cons (pg_name (i := 3) scChkG2.nd rfl (.inl rfl)) pgs_nil)))
        (pss_cons (ps_if (pt_not (pt_val (pe_call GD hr (by rfl) DD.mg DD.fn.kp DD.bd .nil pass0 (pa_cons (pv 3) (pa_cons (pv 1) pa_nil))))) (pss_one ps_no) pss_nil)
        (pss_one (ps_expr (pe_bm PySem.F.plainAttrs_list PySem.F.slot_list_append PySem.F.type_list_append mt_append (pv 1) (pa_cons (pe_ix (r := rIxT K) ix_tup (pv 3) pe_int (fun _ _ => rfl)) pa_nil)))))))), ?_⟩
    have l8 := gf.l8
    refine ⟨_, rfl, _, .ty "tuple", _, .type "tuple", true, rfl, .ty _, tyT ht, kit_ty (by decide +kernel), true, rfl, iteF ⟨_, rfl, t, _, rfl, .inr ht, _, 8, rfl, rfl, _, rfl, ?_⟩⟩
    rw [decide_eq_false (show ¬ (8 : Int) < ((xs.length : Nat) : Int) by omega)]
    refine iteF ?_
    refine ⟨by show 0 ≤ sizeLine; decide, fun l nl => ?_⟩
    have sm0 : Same H (upd H l (.lst [])) := same_new nl
    have hl0 : (upd H l (.lst [])) l = some (.lst []) := upd_same
    revert sm0 hl0
    generalize upd H l (.lst []) = H1
    intro sm0 hl0
    have ht1 := (tk_same sm0).sq ht
    refine ⟨_, rfl, t, _, rfl, ht1, for_it (walkE (K := K) (k := .tu) (a := t) (xs := xs)) (fun i σ H' => ∃ y2 y3, σ = [some (.ref t), some (.ref l), y2, y3] ∧ Same H H' ∧ H' l = some (.lst (((rows.take i).map Prod.fst).map V.str))) ⟨none, none, rfl, sm0, hl0⟩ (fun i σ H' _ ⟨_, _, _, s, _⟩ => (tk_same s).sq ht) ?_ ?_⟩
    · rintro i _ σ H4 _ i1 ⟨y2, y3, rfl, s4, hl4⟩ ⟨T1, _, y, rfl, nT, rfl, ei, hy⟩
      cases ei
      obtain ⟨a, r, rfl, hr, ha⟩ := hx i y hy
      have s5 : Same H4 (upd H4 T1 (.tup [.int (i : Nat), .ref a])) := same_new nT
      have g5 : (upd H4 T1 (.tup [.int (i : Nat), .ref a])) T1 = some (.tup [.int (i : Nat), .ref a]) := upd_same
      revert s5 g5
      generalize upd H4 T1 (.tup [.int (i : Nat), .ref a]) = H5
      intro s5 g5
      refine ⟨T1, _, rfl, sqT g5, rfl, _, _, rfl, _, _, rfl, rfl, ?_⟩
      have h25 := (tk_same (s4.trans s5)).sq ha
      obtain ⟨nm, nk⟩ := gf.nm r (List.mem_of_getElem? hr)
      obtain ⟨s0, s1⟩ := gf.sm r (List.mem_of_getElem? hr)
      refine ⟨_, rfl, _, rfl, a, l, r, _, rfl, h25, s5 _ _ hl4, nm, nk, fst_new gf.nd hr, s0, s1, fun H6 s6 => ⟨true, rfl, iteF ?_⟩⟩
      have hl6 := s6 _ _ (s5 _ _ hl4)
      refine ⟨_, rfl, .inl ⟨rfl, _, sqL hl6⟩, _, rfl, a, _, 0, .str r.1, rfl, rfl, (tk_same s6).sq h25, atI_nat (j := 0) rfl, l, _, _, rfl, rfl, hl6, ?_, ?_⟩
      · rw [List.length_map, List.length_map, List.length_take]
        exact Nat.lt_of_lt_of_le (show _ < 9 by omega) (by decide)
      refine ⟨_, _, rfl, ((Bt.of_same (S := []) (s4.trans (s5.trans s6))).upd0 nl).same, ?_⟩
      rw [upd_same, take_more hr, List.map_append, List.map_append]
      rfl
    · rintro σ H4 ⟨y2, y3, rfl, s4, _⟩
      exact q H4 s4
/-! ### a house with goods, a purse, debts -/
def spHIg (K : PySem.W.Frag) (CH : Addr) : Sp := fun vs H Q _ => ∃ (o dx : Addr) (v g : V) (p d : Int) (rows : List (Str × Option Str)) (goods : List (Str × Str × Int)), vs = [.ref o, v, g, .int p, .int d] ∧ H o = some (.ins CH dx []) ∧ FolkAt K H v rows ∧ GoodF rows ∧ GoodsAt K H g goods ∧ GoodG goods ∧ 0 ≤ p ∧ p ≤ 1000000000 ∧ 0 ≤ d ∧ d ≤ 1000000000 ∧ ∀ H', Bt [o] H H' → HomeAt K CH H' o rows → Q .non H'
theorem ok_HIg {f fC fG fS : Addr} {fd fdC fdG fdS : FuncData} {k : Nat} (B : Bi mg) (T : HsF K CH) (F : FunD K "__init__" "House.__init__" (defArgs sHI) (defBody sHI) (defScope sHI) [.non, .int 0, .int 0] [] f fd) (GC : FnOk P w K mg base (L2.CX P w) (k + 4) fC fdC ["people"] (spChkP K)) (DC : Df K mg "check_people" sChkP fC fdC ["people"])
    (GG : FnOk P w K mg base (L2.CX P w) (k + 4) fG fdG ["goods"] (spChkG K)) (DG : Df K mg "check_goods" sChkG fG fdG ["goods"]) (GS : FnOk P w K mg base CX0 (k + 2) fS fdS ["thing"] spSumG) (DS : Df K mg "is_sum" sSum fS fdS ["thing"]) :
    FnOk P w K mg base (L2.CX P w) (k + 5) f fd ["self", "people", "goods", "purse", "debts"] (spHIg K CH) := by
  refine F.ok scHI (fun vs H Q E h => ?_) (fun cdv A outer s H vs Q E hr h => ?_)
  · obtain ⟨o, dx, v, g, p, d, rows, goods, rfl, _⟩ := h
    rfl
  · obtain ⟨o, dx, v, g, p, d, rows, goods, rfl, ho, hv, gf, hg, gg, p0, p1, d0, d1, q⟩ := h
    have r2 : Room (k + 2) _ := hr.mono (by omega)
    obtain ⟨tg, xg, rfl, _⟩ := id hg
    refine ⟨_, pss_cons (ps_expr (pe_callS GC hr (by rfl) DC.mg DC.fn.kp DC.bd (fun σ => passAt (takes_of rfl rfl rfl rfl) σ) (pa_cons (pv 1) pa_nil)))
      (pss_cons (ps_set (i := 5) scHI.nd rfl (.inl rfl) (pe_ifExp (pt_cmpR op_isN (pv 2) pe_non (nomark _)) (pe_tup pa_nil) (pv 2)))
      (pss_cons (ps_expr (pe_callS GG hr (by rfl) DG.mg DG.fn.kp DG.bd (fun σ => passAt (takes_of rfl rfl rfl rfl) σ) (pa_cons (pv 5) pa_nil)))
      (pss_cons (ps_for (passes_of rfl) rfl (pi_tup (pe_tup (pa_cons (pv 3) (pa_cons (pv 4) pa_nil)))) (pg_name (i := 6) scHI.nd rfl (.inl rfl))
        (pss_one (ps_if (pt_not (pt_val (pe_call GS r2 (by rfl) DS.mg DS.fn.kp DS.bd .nil pass0 (pa_cons (pv 6) pa_nil)))) (pss_one ps_no) pss_nil)))
      (pss_cons (ps_fld (pv 0) (pv 1) rfl) (pss_cons (ps_fld (pv 0) (pv 5) rfl) (pss_cons (ps_fld (pv 0) (pv 3) rfl) (pss_one (ps_fld (pv 0) (pv 4) rfl)))))))), ?_⟩
    refine ⟨_, rfl, v, rows, rfl, hv, gf, fun H1 s1 => ?_⟩
    refine ⟨_, rfl, rfl, _, rfl, iteF ⟨_, rfl, ?_⟩⟩
    refine ⟨_, rfl, _, goods, rfl, hg.tk (tk_same s1), gg, fun H2 s2 => ?_⟩
    have s12 : Same H H2 := s1.trans s2
    refine ⟨_, rfl, _, rfl, by show 2 ≤ sizeLine; decide, fun t2 nt2 => ⟨t2, rfl, ⟨_, sqT upd_same⟩, ?_⟩⟩
    have s3 : Same H (upd H2 t2 (.tup [.int p, .int d])) := s12.trans (same_new nt2)
    have g3 : (upd H2 t2 (.tup [.int p, .int d])) t2 = some (.tup [.int p, .int d]) := upd_same
    revert s3 g3
    generalize upd H2 t2 (.tup [.int p, .int d]) = H3
    intro s3 g3
    refine for_tup (K := K) (a := t2) (xs := [.int p, .int d]) (fun i σ H' => (∃ y, σ = [some (.ref o), some v, some (.ref tg), some (.int p), some (.int d), some (.ref tg), y]) ∧ H' = H3) ⟨⟨_, rfl⟩, rfl⟩ (fun i σ H' _ h => h.2 ▸ sqT g3) ?_ ?_
    · rintro i x σ H4 hx ⟨⟨y, rfl⟩, rfl⟩
      obtain ⟨c, rfl, c0, c1⟩ : ∃ c : Int, x = .int c ∧ 0 ≤ c ∧ c ≤ 1000000000 := by
        match i, hx with
        | 0, hx => cases hx; exact ⟨p, rfl, p0, p1⟩
        | 1, hx => cases hx; exact ⟨d, rfl, d0, d1⟩
        | i + 2, hx => cases hx
      exact ⟨_, rfl, c, rfl, c0, c1, true, rfl, iteF ⟨⟨_, rfl⟩, rfl⟩⟩
    · rintro σ H4 ⟨⟨y, rfl⟩, rfl⟩
      refine ⟨_, rfl, _, rfl, o, CH, dx, _, rfl, s3 _ _ ho, T.cl, T.n1, by show 0 < 1000; decide, ?_⟩
      refine ⟨_, rfl, _, rfl, o, CH, dx, _, rfl, upd_same, T.cl, T.n2, by show 1 < 1000; decide, ?_⟩
      refine ⟨_, rfl, _, rfl, o, CH, dx, _, rfl, upd_same, T.cl, T.n3, by show 2 < 1000; decide, ?_⟩
      refine ⟨_, rfl, _, rfl, o, CH, dx, _, rfl, upd_same, T.cl, T.n4, by show 3 < 1000; decide, ?_⟩
      have tk1 : ∀ {A : Hp} {fs : List (Str × V)} {ob : HO}, A o = some (.ins CH dx fs) → Tk A (upd A o ob) := fun {A fs ob} h => tk_ins h
      refine q _ (((((Bt.of_same s3).upd1 (by simp)).upd1 (by simp)).upd1 (by simp)).upd1 (by simp)) ⟨dx, v, (.ref tg, .int p, .int d), upd_same, ?_, gf, trivial⟩
      exact ((((hv.tk (tk_same s3)).tk (tk1 (s3 _ _ ho))).tk (tk1 upd_same)).tk (tk1 upd_same)).tk (tk1 upd_same)
end
end WdQ

set_option Elab.async false
set_option linter.all false
set_option maxRecDepth 100000
set_option maxHeartbeats 4000000
set_option exponentiation.threshold 5000
namespace WdQ
open PySem PySem.Spec PyProof.Rows L2 WdM Wd
def kidB (z : Str) (r : Str × Option Str) : Bool := decide (r.2 = some z)
def kidsOf (rows : List (Str × Option Str)) (z : Str) : List Str := (rows.filter (kidB z)).map Prod.fst
theorem kid_eq (z : Str) (r : Str × Option Str) : decide (parV r.2 = V.str z) = kidB z r := by
  unfold kidB
  cases r.2 with
  | none => rfl
  | some y =>
    by_cases e : y = z
    · subst e; simp [parV]
    · rw [decide_eq_false (fun h => e (Option.some.inj h)), decide_eq_false]
      intro h
      cases h
      exact e rfl
section
variable {P : Program} {w : World} {K : PySem.W.Frag} {mg : Str → Option Value} {base : Heap} {CH CY : Addr}
def spPers (K : PySem.W.Frag) (CH : Addr) : Sp := fun vs H Q _ => ∃ (o : Addr) (z : Str) (rows : List (Str × Option Str)), vs = [.ref o, .str z] ∧ HomeAt K CH H o rows ∧ z ∈ rows.map Prod.fst ∧ ∀ H' a, Same H H' → Q (.ref a) H'
theorem ok_pers {f fR : Addr} {fd fdR : FuncData} {k : Nat} (T : HsF K CH) (F : Fun K "person" "House.person" sPers f fd) (DR : Df K mg "row_named" sRow fR fdR ["rows", "name"]) (GR : FnOk P w K mg base CX0 (k + 2) fR fdR ["rows", "name"] (spRow K)) : FnOk P w K mg base CX0 (k + 3) f fd ["self", "name"] (spPers K CH) := by
  refine F.ok scPers (fun vs H Q E h => ?_) (fun cdv A outer s H vs Q E hr h => ?_)
  · obtain ⟨o, z, rows, rfl, _⟩ := h
    rfl
  · obtain ⟨o, z, rows, rfl, ⟨dx, v, t, ho, hv, gf, ht⟩, zm, q⟩ := h
    refine ⟨_, pss_cons (ps_set (i := 2) scPers.nd rfl (.inl rfl) (pe_call GR hr (by rfl) DR.mg DR.fn.kp DR.bd .nil pass0 (pa_cons (pe_fld (pv 0) rfl) (pa_cons (pv 1) pa_nil))))
      (pss_cons (ps_if (pt_cmpR op_isN (pv 2) pe_non (nomark _)) pss_noS pss_nil) (pss_one (ps_ret (pv 2)))), ?_⟩
    refine ⟨_, rfl, o, CH, dx, _, _, rfl, ho, T.cl, T.n1, rfl, _, rfl, v, z, rows, rfl, hv, zm, fun H1 a r s1 _ _ _ => ?_⟩
    exact ⟨_, rfl, rfl, false, rfl, iteF ⟨_, rfl, q H1 a s1⟩⟩
def spKids (K : PySem.W.Frag) (CH : Addr) : Sp := fun vs H Q _ => ∃ (o : Addr) (z : Str) (rows : List (Str × Option Str)), vs = [.ref o, .str z] ∧ HomeAt K CH H o rows ∧ z ∈ rows.map Prod.fst ∧ ∀ H' t, Same H H' → SqT K H' t ((kidsOf rows z).map V.str) → Q (.ref t) H'
theorem ok_kids {f fP : Addr} {fd fdP : FuncData} {k : Nat} (B : Bi mg) (T : HsF K CH) (F : Fun K "children" "House.children" sChi f fd) (MP : Meth K CH "person" fP) (bP : Binds K fdP ["self", "name"] []) (GP : FnOk P w K mg base CX0 (k + 3) fP fdP ["self", "name"] (spPers K CH)) :
    FnOk P w K mg base CX0 (k + 4) f fd ["self", "name"] (spKids K CH) := by
  refine F.ok scChi (fun vs H Q E h => ?_) (fun cdv A outer s H vs Q E hr h => ?_)
  · obtain ⟨o, z, rows, rfl, _⟩ := h
    rfl
  · obtain ⟨o, z, rows, rfl, hh, zm, q⟩ := h
    refine ⟨_, pss_cons (ps_expr (pe_meth (pv 0) T.cl MP GP hr bP .nil pass0 (pa_cons (pv 1) pa_nil)))
      (pss_one (ps_ret (pe_callTy call_tuple_of (by rfl) B.tuple boot_tuple (pa_cons (pe_lc (own := [("row", 2)]) (g := gName 2) rfl scChi.nd (pi_tup (pe_fld (pv 0) rfl)) (blkOk_by (own := [("row", 2)]) (N := ["self", "name", "row"]) (sc := defScope sChi) (by decide +kernel))
        (fun _ _ _ _ _ => pg_name (i := 2) scChi.nd rfl (Or.inl rfl)) (fun _ _ _ _ _ => pts_one (pt_cmpR op_eq (pe_ix (r := rIxT K) ix_tup (pv 2) pe_int (fun _ _ => rfl)) (pv 1) (nomark _))) (fun _ _ _ _ _ => pe_ix (r := rIxT K) ix_tup (pv 2) pe_int (fun _ _ => rfl))) pa_nil)))), ?_⟩
    have hh0 := hh
    obtain ⟨dx, v, tt, ho, _, gf, _⟩ := hh
    refine ⟨_, rfl, o, dx, _, rfl, ho, rfl, _, rfl, o, z, rows, rfl, hh0, zm, fun H1 a1 s1 => ?_⟩
    obtain ⟨dx1, v1, tt1, ho1, ⟨t, xs, rfl, ht, xl, hx⟩, gf1, _⟩ := hh0.same s1
    have l8 := gf.l8
    refine ⟨_, rfl, o, CH, dx1, _, _, rfl, ho1, T.cl, T.n1, rfl, t, rfl, ⟨_, ht⟩, fun L nL => lc_tup (K := K) (a := t) (xs := xs) (fun j H' => H' L = some (.lst ((kidsOf (rows.take j) z).map V.str)) ∧ Same H1 H') ⟨upd_same, same_new nL⟩ (fun j H' _ h => (tk_same h.2).sq ht) ?_ ?_⟩
    · rintro j x H5 hx5 ⟨hL, s5⟩
      obtain ⟨ra, r, rfl, hr5, hra⟩ := hx j x hx5
      have jl := lt_get hx5
      have hr6 : SqT K H5 ra [.str r.1, parV r.2] := (tk_same s5).sq hra
      have fl : ((rows.take j).filter (kidB z)).length ≤ 8 := by
        have := List.length_filter_le (kidB z) (rows.take j)
        rw [List.length_take] at this
        omega
      refine ⟨rfl, _, rfl, ra, _, 1, parV r.2, rfl, rfl, hr6, atI_nat (j := 1) rfl, _, rfl, by cases r.2 <;> rfl, _, rfl, ?_⟩
      rw [kid_eq]
      by_cases e : kidB z r = true
      · rw [e]
        refine iteT ⟨_, rfl, ra, _, 0, .str r.1, rfl, rfl, hr6, atI_nat (j := 0) rfl, _, hL, ?_, ?_, ((Bt.of_same (S := []) s5).upd0 nL).same⟩
        · rw [List.length_map]
          unfold kidsOf
          rw [List.length_map]
          exact small1000 (by omega)
        · rw [upd_same, take_more hr5]
          unfold kidsOf
          rw [List.filter_append, List.filter_cons_of_pos e, List.map_append, List.map_append]
          rfl
      · rw [show kidB z r = false by simpa using e]
        refine iteF ⟨?_, s5⟩
        rw [hL, take_more hr5]
        unfold kidsOf
        rw [List.filter_append, List.filter_cons_of_neg e, List.filter_nil, List.append_nil]
    · rintro H5 ⟨hL, s5⟩
      rw [xl, List.take_length] at hL
      exact ⟨L, _, rfl, .inl ⟨sqL hL, fun tp ntp => q _ tp ((s1.trans s5).trans (same_new ntp)) (sqT upd_same)⟩⟩
end
end WdQ

set_option Elab.async false
set_option linter.all false
set_option maxRecDepth 100000
set_option maxHeartbeats 4000000
set_option exponentiation.threshold 5000
namespace WdQ
open PySem PySem.Spec PyProof.Rows L2 WdM Wd
/-! ### a house in full: people, goods, purse, debts -/
abbrev Gd := Str × Str × Int
section
variable {P : Program} {w : World} {K : PySem.W.Frag} {mg : Str → Option Value} {base : Heap} {CH : Addr}
structure Pu (p d : Int) : Prop where
  p0 : 0 ≤ p
  p1 : p ≤ 1000000000
  d0 : 0 ≤ d
  d1 : d ≤ 1000000000
def HsAt (K : PySem.W.Frag) (CH : Addr) (H : Hp) (o : Addr) (F : List (Str × Option Str)) (G : List Gd) (p d : Int) : Prop := ∃ (dx : Addr) (v t : V), H o = some (.ins CH dx [("folk", v), ("things", t), ("purse", .int p), ("debts", .int d)]) ∧ FolkAt K H v F ∧ GoodsAt K H t G ∧ GoodF F ∧ GoodG G ∧ Pu p d
theorem HsAt.same {H H' : Hp} {o : Addr} {F : List (Str × Option Str)} {G : List Gd} {p d : Int} (h : HsAt K CH H o F G p d) (e : Same H H') : HsAt K CH H' o F G p d := by
  obtain ⟨dx, v, t, h, f, g, r⟩ := h
  exact ⟨dx, v, t, e _ _ h, f.tk (tk_same e), g.tk (tk_same e), r⟩
theorem HsAt.home {H : Hp} {o : Addr} {F : List (Str × Option Str)} {G : List Gd} {p d : Int} (h : HsAt K CH H o F G p d) : HomeAt K CH H o F := by
  obtain ⟨dx, v, t, h, f, g, gf, _⟩ := h
  exact ⟨dx, v, (t, .int p, .int d), h, f, gf, trivial⟩
def spHIf (K : PySem.W.Frag) (CH : Addr) : Sp := fun vs H Q _ => ∃ (o dx : Addr) (v g : V) (p d : Int) (F : List (Str × Option Str)) (G : List Gd), vs = [.ref o, v, g, .int p, .int d] ∧ H o = some (.ins CH dx []) ∧ FolkAt K H v F ∧ GoodF F ∧ ((g = .non ∧ G = []) ∨ GoodsAt K H g G) ∧ GoodG G ∧ Pu p d ∧ ∀ H', Bt [o] H H' → HsAt K CH H' o F G p d → Q .non H'
def tHIr (K : PySem.W.Frag) (CH : Addr) : TS := fun D σ H => ∃ (o dx tg : Addr) (v g : V) (p d : Int) (F : List (Str × Option Str)) (G : List Gd), σ = [some (.ref o), some v, some g, some (.int p), some (.int d), some (.ref tg), none] ∧ H o = some (.ins CH dx []) ∧ FolkAt K H v F ∧ GoodF F ∧ GoodsAt K H (.ref tg) G ∧ GoodG G ∧ Pu p d ∧ ∀ H' σ', Bt [o] H H' → HsAt K CH H' o F G p d → D.nx σ' H'
theorem ok_HIf {f fC fG fS : Addr} {fd fdC fdG fdS : FuncData} {k : Nat} (B : Bi mg) (T : HsF K CH) (F : FunD K "__init__" "House.__init__" (defArgs sHI) (defBody sHI) (defScope sHI) [.non, .int 0, .int 0] [] f fd) (GC : FnOk P w K mg base (L2.CX P w) (k + 4) fC fdC ["people"] (spChkP K)) (DC : Df K mg "check_people" sChkP fC fdC ["people"])
    (GG : FnOk P w K mg base (L2.CX P w) (k + 4) fG fdG ["goods"] (spChkG K)) (DG : Df K mg "check_goods" sChkG fG fdG ["goods"]) (GS : FnOk P w K mg base CX0 (k + 2) fS fdS ["thing"] spSumG) (DS : Df K mg "is_sum" sSum fS fdS ["thing"]) :
    FnOk P w K mg base (L2.CX P w) (k + 5) f fd ["self", "people", "goods", "purse", "debts"] (spHIf K CH) := by
  refine F.ok scHI (fun vs H Q E h => ?_) (fun cdv A outer s H vs Q E hr h => ?_)
  · obtain ⟨o, dx, v, g, p, d, F, G, rfl, _⟩ := h
    rfl
  · obtain ⟨o, dx, v, g, p, d, rows, goods, rfl, ho, hv, gf, hg, gg, pu, q⟩ := h
    have r2 : Room (k + 2) _ := hr.mono (by omega)
    refine ⟨_, pss_cons (ps_expr (pe_callS GC hr (by rfl) DC.mg DC.fn.kp DC.bd (fun σ => passAt (takes_of rfl rfl rfl rfl) σ) (pa_cons (pv 1) pa_nil)))
      (pss_cons (ps_set (i := 5) scHI.nd rfl (.inl rfl) (pe_ifExp (pt_cmpR op_isN (pv 2) pe_non (nomark _)) (pe_tup pa_nil) (pv 2)))
      (PSs.wk (t' := tHIr K CH) (pss_cons (ps_expr (pe_callS GG hr (by rfl) DG.mg DG.fn.kp DG.bd (fun σ => passAt (takes_of rfl rfl rfl rfl) σ) (pa_cons (pv 5) pa_nil)))
      (pss_cons (ps_for (passes_of rfl) rfl (pi_tup (pe_tup (pa_cons (pv 3) (pa_cons (pv 4) pa_nil)))) (pg_name (i := 6) scHI.nd rfl (.inl rfl))
        (pss_one (ps_if (pt_not (pt_val (pe_call GS r2 (by rfl) DS.mg DS.fn.kp DS.bd .nil pass0 (pa_cons (pv 6) pa_nil)))) (pss_one ps_no) pss_nil)))
      (pss_cons (ps_fld (pv 0) (pv 1) rfl) (pss_cons (ps_fld (pv 0) (pv 5) rfl) (pss_cons (ps_fld (pv 0) (pv 3) rfl) (pss_one (ps_fld (pv 0) (pv 4) rfl))))))) (by
        rintro Dx σ H ⟨o, dx, tg, v, g, p, d, rows, goods, rfl, ho, hv, gf, hg, gg, pu, q⟩
        refine ⟨_, rfl, _, goods, rfl, hg, gg, fun H2 s2 => ?_⟩
        refine ⟨_, rfl, _, rfl, by show 2 ≤ sizeLine; decide, fun t2 nt2 => ⟨t2, rfl, ⟨_, sqT upd_same⟩, ?_⟩⟩
        have s3 : Same H (upd H2 t2 (.tup [.int p, .int d])) := s2.trans (same_new nt2)
        have g3 : (upd H2 t2 (.tup [.int p, .int d])) t2 = some (.tup [.int p, .int d]) := upd_same
        revert s3 g3
        generalize upd H2 t2 (.tup [.int p, .int d]) = H3
        intro s3 g3
        refine for_tup (K := K) (a := t2) (xs := [.int p, .int d]) (fun i σ H' => (∃ y, σ = [some (.ref o), some v, some g, some (.int p), some (.int d), some (.ref tg), y]) ∧ H' = H3) ⟨⟨_, rfl⟩, rfl⟩ (fun i σ H' _ h => h.2 ▸ sqT g3) ?_ ?_
        · rintro i x σ H4 hx ⟨⟨y, rfl⟩, rfl⟩
          obtain ⟨c, rfl, c0, c1⟩ : ∃ c : Int, x = .int c ∧ 0 ≤ c ∧ c ≤ 1000000000 := by
            match i, hx with
            | 0, hx => cases hx; exact ⟨p, rfl, pu.p0, pu.p1⟩
            | 1, hx => cases hx; exact ⟨d, rfl, pu.d0, pu.d1⟩
            | i + 2, hx => cases hx
          exact ⟨_, rfl, c, rfl, c0, c1, true, rfl, iteF ⟨⟨_, rfl⟩, rfl⟩⟩
        · rintro σ H4 ⟨⟨y, rfl⟩, rfl⟩
          refine ⟨_, rfl, _, rfl, o, CH, dx, _, rfl, s3 _ _ ho, T.cl, T.n1, by show 0 < 1000; decide, ?_⟩
          refine ⟨_, rfl, _, rfl, o, CH, dx, _, rfl, upd_same, T.cl, T.n2, by show 1 < 1000; decide, ?_⟩
          refine ⟨_, rfl, _, rfl, o, CH, dx, _, rfl, upd_same, T.cl, T.n3, by show 2 < 1000; decide, ?_⟩
          refine ⟨_, rfl, _, rfl, o, CH, dx, _, rfl, upd_same, T.cl, T.n4, by show 3 < 1000; decide, ?_⟩
          have tk1 : ∀ {A : Hp} {fs : List (Str × V)} {ob : HO}, A o = some (.ins CH dx fs) → Tk A (upd A o ob) := fun {A fs ob} h => tk_ins h
          refine q _ _ (((((Bt.of_same s3).upd1 (by simp)).upd1 (by simp)).upd1 (by simp)).upd1 (by simp)) ⟨dx, v, .ref tg, upd_same, ?_, ?_, gf, gg, pu⟩
          · exact ((((hv.tk (tk_same s3)).tk (tk1 (s3 _ _ ho))).tk (tk1 upd_same)).tk (tk1 upd_same)).tk (tk1 upd_same)
          · exact ((((hg.tk (tk_same s3)).tk (tk1 (s3 _ _ ho))).tk (tk1 upd_same)).tk (tk1 upd_same)).tk (tk1 upd_same)))), ?_⟩
    refine ⟨_, rfl, v, rows, rfl, hv, gf, fun H1 s1 => ⟨_, rfl, rfl, _, rfl, ?_⟩⟩
    rcases hg with ⟨rfl, rfl⟩ | hg
    · refine iteT ⟨by show 0 ≤ sizeLine; decide, fun t nt => ?_⟩
      have s2 := s1.trans (same_new (o := .tup []) nt)
      exact ⟨o, dx, t, v, .non, p, d, rows, [], rfl, s2 _ _ ho, hv.tk (tk_same s2), gf, ⟨t, [], rfl, sqT upd_same, rfl, fun i x h => by simp at h⟩, gg, pu, fun H' σ' b hh => q H' ((Bt.of_same s2).trans b) hh⟩
    · obtain ⟨tg, xg, rfl, _⟩ := id hg
      exact iteF ⟨_, rfl, o, dx, tg, v, _, p, d, rows, goods, rfl, s1 _ _ ho, hv.tk (tk_same s1), gf, hg.tk (tk_same s1), gg, pu, fun H' σ' b hh => q H' ((Bt.of_same s1).trans b) hh⟩
end
end WdQ

set_option Elab.async false
set_option linter.all false
set_option maxRecDepth 100000
set_option maxHeartbeats 4000000
set_option exponentiation.threshold 5000
namespace WdQ
open PySem PySem.Spec PyProof.Rows L2 WdM Wd
/-! ### a house's text -/
abbrev sPLn : Stmt := topS 30
abbrev sLns : Stmt := inClass sHouse 9
abbrev sHStr : Stmt := inClass sHouse 12
abbrev sHLen : Stmt := inClass sHouse 10
abbrev sHRep : Stmt := inClass sHouse 13
theorem scPLn : FnScope ["name", "parent"] ["name", "parent"] (defScope sPLn) := ⟨rfl, rfl, rfl, by decide +kernel, rfl, by decide +kernel, by decide +kernel⟩
def nLns : List Str := ["self", "people", "name", "parent", "things", "kind", "worth"]
theorem scLns : FnScope nLns ["self"] (defScope sLns) := ⟨rfl, rfl, rfl, by decide +kernel, rfl, by decide +kernel, by decide +kernel⟩
theorem scHStr : FnScope ["self"] ["self"] (defScope sHStr) := ⟨rfl, rfl, rfl, by decide +kernel, rfl, by decide +kernel, by decide +kernel⟩
theorem scHLen : FnScope ["self"] ["self"] (defScope sHLen) := ⟨rfl, rfl, rfl, by decide +kernel, rfl, by decide +kernel, by decide +kernel⟩
theorem scHRep : FnScope ["self"] ["self"] (defScope sHRep) := ⟨rfl, rfl, rfl, by decide +kernel, rfl, by decide +kernel, by decide +kernel⟩
def intT (i : Int) : Str := Str.ofString (toString i)
def personT (r : Str × Option Str) : Str := match r.2 with
  | none => (Str.empty ++ "person ") ++ r.1
  | some y => (((Str.empty ++ "person ") ++ r.1) ++ " of ") ++ y
def thingT (r : Gd) : Str := (((((Str.empty ++ "thing ") ++ r.1) ++ " ") ++ r.2.1) ++ " ") ++ intT r.2.2
def purseT (p : Int) : Str := (Str.empty ++ "purse ") ++ intT p
def debtsT (d : Int) : Str := (Str.empty ++ "debts ") ++ intT d
def linesT (F : List (Str × Option Str)) (G : List Gd) (p d : Int) : List Str := purseT p :: debtsT d :: (F.map personT ++ G.map thingT)
def houseT (F : List (Str × Option Str)) (G : List Gd) (p d : Int) : Str := Txt.join "\n" (linesT F G p d)
theorem hl_app (x y : Str) : (x ++ y).length = x.length + y.length := strLen_append x y
theorem hl_nm {z : Str} (h : Nm z) : 1 ≤ z.length ∧ z.length ≤ 8 := by
  have h := h.name
  unfold nmB at h
  simp only [Bool.and_eq_true, decide_eq_true_eq] at h
  exact h.1.1
theorem hl_log {i : Int} (h0 : 0 ≤ i) (h1 : i ≤ 1000000000) : i.natAbs.log2 < 1920 := by
  by_cases z : i.natAbs = 0
  · rw [z]; decide
  · exact Nat.lt_of_lt_of_le ((Nat.log2_lt z).mpr (show i.natAbs < 2 ^ 31 by omega)) (by decide)
theorem hl_int {i : Int} (h0 : 0 ≤ i) (h1 : i ≤ 1000000000) : (intT i).length ≤ 11 := by
  have e : (toString i).length ≤ 10 + 1 := int_text_length_le10 (k := 10) (by decide) (by omega)
  unfold intT
  rw [PySem.ofString_length]
  omega
theorem hl_person {r : Str × Option Str} (h : Nm r.1) (hp : ∀ y, r.2 = some y → Nm y) : (personT r).length ≤ 27 := by
  have a := hl_nm h
  obtain ⟨z, o⟩ := r
  cases o with
  | none =>
    show ((Str.empty ++ "person ") ++ z).length ≤ 27
    rw [hl_app, hl_app]
    show 0 + 7 + z.length ≤ 27
    have a : 1 ≤ z.length ∧ z.length ≤ 8 := a
    omega
  | some y =>
    have b := hl_nm (hp y rfl)
    show ((((Str.empty ++ "person ") ++ z) ++ " of ") ++ y).length ≤ 27
    rw [hl_app, hl_app, hl_app, hl_app]
    show 0 + 7 + z.length + 4 + y.length ≤ 27
    have a : 1 ≤ z.length ∧ z.length ≤ 8 := a
    omega
theorem hl_thing {r : Gd} (h1 : Nm r.1) (h2 : Nm r.2.1) (h0 : 0 ≤ r.2.2) (hm : r.2.2 ≤ 1000000000) : (thingT r).length ≤ 35 := by
  have a := hl_nm h1
  have b := hl_nm h2
  have c := hl_int h0 hm
  unfold thingT
  rw [hl_app, hl_app, hl_app, hl_app, hl_app, hl_app]
  show 0 + 6 + r.1.length + 1 + r.2.1.length + 1 + _ ≤ 35
  omega
theorem hl_purse {i : Int} (h0 : 0 ≤ i) (h1 : i ≤ 1000000000) : (purseT i).length ≤ 17 ∧ (debtsT i).length ≤ 17 := by
  have c := hl_int h0 h1
  unfold purseT debtsT
  rw [hl_app, hl_app, hl_app, hl_app]
  exact ⟨by show 0 + 6 + _ ≤ 17; omega, by show 0 + 6 + _ ≤ 17; omega⟩
theorem f_par {F : List (Str × Option Str)} (g : GoodF F) {r : Str × Option Str} (hr : r ∈ F) : ∀ y, r.2 = some y → Nm y := fun y e => by
  obtain ⟨i, hi⟩ := List.mem_iff_getElem?.mp hr
  obtain ⟨q, hq, rfl⟩ := List.mem_map.mp (g.pr i r y hi e)
  exact g.nm q (List.mem_of_mem_take hq)
section
variable {P : Program} {w : World} {K : PySem.W.Frag} {mg : Str → Option Value} {base : Heap} {CH : Addr}
def spPLn : Sp := fun vs H Q _ => ∃ r : Str × Option Str, vs = [.str r.1, parV r.2] ∧ Nm r.1 ∧ (∀ y, r.2 = some y → Nm y) ∧ Q (.str (personT r)) H
theorem ok_pln {f : Addr} {fd : FuncData} {k : Nat} (D : Df K mg "person_line" sPLn f fd ["name", "parent"]) : FnOk P w K mg base CX0 (k + 1) f fd ["name", "parent"] spPLn := by
  refine D.fn.ok scPLn (fun vs H Q E h => ?_) (fun cdv A outer s H vs Q E hr h => ?_)
  · obtain ⟨r, rfl, _⟩ := h
    rfl
  · obtain ⟨⟨z, o⟩, rfl, nz, no, q⟩ := h
    refine ⟨_, pss_one (ps_ret (pe_ifExp (pt_cmpR op_isN (pv 1) pe_non (nomark _)) (pe_joined (PJ.cons pe_str (PJ.cons (pe_fmt (pv 0)) PJ.nil))) (pe_joined (PJ.cons pe_str (PJ.cons (pe_fmt (pv 0)) (PJ.cons pe_str (PJ.cons (pe_fmt (pv 1)) PJ.nil))))))), ?_⟩
    have a : 1 ≤ z.length ∧ z.length ≤ 8 := hl_nm nz
    cases o with
    | none =>
      refine ⟨_, rfl, rfl, _, rfl, iteT ⟨"person ", rfl, by decide, _, rfl, .inl ⟨z, rfl, small_len (by omega), z, rfl, ?_, q⟩⟩⟩
      rw [hl_app]
      exact small_len (by show 7 + z.length ≤ 1000; omega)
    | some y =>
      have b := hl_nm (no y rfl)
      refine ⟨_, rfl, rfl, _, rfl, iteF ⟨"person ", rfl, by decide, _, rfl, .inl ⟨z, rfl, small_len (by omega), z, rfl, ?_, " of ", rfl, ?_, _, rfl, .inl ⟨y, rfl, small_len (by omega), y, rfl, ?_, q⟩⟩⟩⟩
      · rw [hl_app]
        exact small_len (by show 7 + z.length ≤ 1000; omega)
      · rw [hl_app, hl_app]
        exact small_len (by show 7 + z.length + 4 ≤ 1000; omega)
      · rw [hl_app, hl_app, hl_app]
        exact small_len (by show 7 + z.length + 4 + y.length ≤ 1000; omega)
/-- f'thing {name} {kind} {worth}' -/
def tThg : TE := fun σ H Q => ∃ r : Gd, σ[2]? = some (some (.str r.1)) ∧ σ[5]? = some (some (.str r.2.1)) ∧ σ[6]? = some (some (.int r.2.2)) ∧ Nm r.1 ∧ Nm r.2.1 ∧ 0 ≤ r.2.2 ∧ r.2.2 ≤ 1000000000 ∧ Q (.str (thingT r)) H
def spLns (K : PySem.W.Frag) (CH : Addr) : Sp := fun vs H Q _ => ∃ (o : Addr) (F : List (Str × Option Str)) (G : List Gd) (p d : Int), vs = [.ref o] ∧ HsAt K CH H o F G p d ∧ ∀ H' L, Same H H' → H' L = some (.lst ((linesT F G p d).map V.str)) → Q (.ref L) H'
theorem ok_lns {f fL : Addr} {fd fdL : FuncData} {k : Nat} (T : HsF K CH) (F : Fun K "lines" "House.lines" sLns f fd) (DL : Df K mg "person_line" sPLn fL fdL ["name", "parent"]) : FnOk P w K mg base CX0 (k + 2) f fd ["self"] (spLns K CH) := by
  have GL : FnOk P w K mg base CX0 (k + 1) fL fdL ["name", "parent"] spPLn := ok_pln DL
  refine F.ok scLns (fun vs H Q E h => ?_) (fun cdv A outer s H vs Q E hr h => ?_)
  · obtain ⟨o, F, G, p, d, rfl, _⟩ := h
    rfl
  · obtain ⟨o, F, G, p, d, rfl, hh, q⟩ := h
    refine ⟨_, pss_cons (ps_setLc (i := 1) (own := [("name", 2), ("parent", 3)]) (g := gTup K 2 (gCons (gName 2) (gCons (gName 3) gNil))) (tt := tYes) rfl scLns.nd rfl rfl (sw_true rfl rfl rfl (by decide +kernel)) (pi_tup (pe_fld (pv 0) rfl)) (blkOk_by (own := [("name", 2), ("parent", 3)]) (N := nLns) (sc := defScope sLns) (by decide +kernel))
          (fun _ _ _ _ _ => pg_tup rfl (pgs_cons (pg_name (i := 2) scLns.nd rfl (Or.inl rfl)) (pgs_cons (pg_name (i := 3) scLns.nd rfl (Or.inl rfl)) pgs_nil))) (fun _ _ _ _ _ => pts_nil) (fun _ _ _ _ _ => pe_call GL hr (by rfl) DL.mg DL.fn.kp DL.bd .nil pass0 (pa_cons (pv 2) (pa_cons (pv 3) pa_nil))))
      (pss_cons (ps_setLc (i := 4) (own := [("name", 2), ("kind", 5), ("worth", 6)]) (g := gTup K 3 (gCons (gName 2) (gCons (gName 5) (gCons (gName 6) gNil)))) (tt := tYes) rfl scLns.nd rfl rfl (sw_true rfl rfl rfl (by decide +kernel)) (pi_tup (pe_fld (pv 0) rfl)) (blkOk_by (own := [("name", 2), ("kind", 5), ("worth", 6)]) (N := nLns) (sc := defScope sLns) (by decide +kernel))
          (fun _ _ _ _ _ => pg_tup rfl (pgs_cons (pg_name (i := 2) scLns.nd rfl (Or.inl rfl)) (pgs_cons (pg_name (i := 5) scLns.nd rfl (Or.inl rfl)) (pgs_cons (pg_name (i := 6) scLns.nd rfl (Or.inl rfl)) pgs_nil)))) (fun _ _ _ _ _ => pts_nil) (fun _ _ _ _ _ => PE.wk (t' := tThg) (pe_joined (PJ.cons pe_str (PJ.cons (pe_fmt (pv 2)) (PJ.cons pe_str (PJ.cons (pe_fmt (pv 5)) (PJ.cons pe_str (PJ.cons (pe_fmt (pv 6)) PJ.nil))))))) (by
            rintro σ H Q ⟨r, h2, h5, h6, n1, n2, w0, w1, q⟩
            have a := hl_nm n1
            have b := hl_nm n2
            have c := hl_int w0 w1
            refine ⟨"thing ", rfl, by decide, _, h2, .inl ⟨r.1, rfl, small_len (by omega), r.1, rfl, ?_, " ", rfl, ?_, _, h5, .inl ⟨r.2.1, rfl, small_len (by omega), r.2.1, rfl, ?_, " ", rfl, ?_, _, h6, .inr ⟨r.2.2, rfl, hl_log w0 w1, _, rfl, ?_, q⟩⟩⟩⟩
            · rw [hl_app]
              exact small_len (by show 6 + _ ≤ 1000; omega)
            · rw [hl_app, hl_app]
              exact small_len (by show 6 + _ + 1 ≤ 1000; omega)
            · rw [hl_app, hl_app, hl_app]
              exact small_len (by show 6 + _ + 1 + _ ≤ 1000; omega)
            · rw [hl_app, hl_app, hl_app, hl_app]
              exact small_len (by show 6 + _ + 1 + _ + 1 ≤ 1000; omega)
            · rw [hl_app, hl_app, hl_app, hl_app, hl_app]
              exact small_len (by show 6 + _ + 1 + _ + 1 + (intT r.2.2).length ≤ 1000; omega))))
      (pss_one (ps_ret (pe_lst (pa_cons (pe_joined (PJ.cons pe_str (PJ.cons (pe_fmt (pe_fld (pv 0) rfl)) PJ.nil))) (pa_cons (pe_joined (PJ.cons pe_str (PJ.cons (pe_fmt (pe_fld (pv 0) rfl)) PJ.nil))) (StX.pa_star (pv 1) (StX.pa_star (pv 4) pa_nil)))))))), ?_⟩
    have hh0 := hh
    obtain ⟨dx, v, t, ho, ⟨tf, xs, rfl, hf, xl, hx⟩, hg, gf, gg, pu⟩ := hh
    have f8 := gf.l8
    have g8 := gg.l8
    refine ⟨_, rfl, o, CH, dx, _, _, rfl, ho, T.cl, T.n1, rfl, tf, rfl, ⟨_, hf⟩, fun L nL => lc_tup (K := K) (a := tf) (xs := xs) (fun j H' => H' L = some (.lst (((F.take j).map personT).map V.str)) ∧ Same H H') ⟨upd_same, same_new nL⟩ (fun j H' _ h => (tk_same h.2).sq hf) ?_ ?_⟩
    · rintro j x H1 hx1 ⟨hL, s1⟩
      obtain ⟨a, r, rfl, hr1, ha⟩ := hx j x hx1
      have jl := lt_get hr1
      have rm := List.mem_of_getElem? hr1
      refine ⟨a, _, rfl, (tk_same s1).sq ha, rfl, _, _, rfl, _, _, rfl, rfl, rfl, tyes (iteT ⟨_, rfl, _, rfl, r, rfl, gf.nm r rm, f_par gf rm, _, hL, ?_, ?_, ((Bt.of_same (S := []) s1).upd0 nL).same⟩)⟩
      · rw [List.length_map, List.length_map, List.length_take]
        exact small1000 (by omega)
      · rw [upd_same, take_more hr1, List.map_append, List.map_append]
        rfl
    rintro H1 ⟨hL, s1⟩
    rw [xl, List.take_length] at hL
    obtain ⟨tg, ys, rfl, hgs, yl, hy⟩ := hg
    have ho1 := s1 _ _ ho
    refine ⟨_, rfl, o, CH, dx, _, _, rfl, ho1, T.cl, T.n2, rfl, tg, rfl, ⟨_, (tk_same s1).sq hgs⟩, fun M nM => lc_tup (K := K) (a := tg) (xs := ys) (fun j H' => H' M = some (.lst (((G.take j).map thingT).map V.str)) ∧ Same H1 H') ⟨upd_same, same_new nM⟩ (fun j H' _ h => (tk_same (s1.trans h.2)).sq hgs) ?_ ?_⟩
    · rintro j x H2 hx2 ⟨hM, s2⟩
      obtain ⟨a, r, rfl, hr2, ha⟩ := hy j x hx2
      have jl := lt_get hr2
      have rm := List.mem_of_getElem? hr2
      refine ⟨a, _, rfl, (tk_same (s1.trans s2)).sq ha, rfl, _, _, rfl, _, _, rfl, _, _, rfl, rfl, rfl, tyes (iteT ⟨r, rfl, rfl, rfl, (gg.nm r rm).1, (gg.nm r rm).2, (gg.sm r rm).1, (gg.sm r rm).2, _, hM, ?_, ?_, ((Bt.of_same (S := []) s2).upd0 nM).same⟩)⟩
      · rw [List.length_map, List.length_map, List.length_take]
        exact small1000 (by omega)
      · rw [upd_same, take_more hr2, List.map_append, List.map_append]
        rfl
    rintro H2 ⟨hM, s2⟩
    rw [yl, List.take_length] at hM
    have ho2 := s2 _ _ ho1
    have hL2 := s2 _ _ hL
    have cp := hl_int pu.p0 pu.p1
    have cd := hl_int pu.d0 pu.d1
    refine ⟨"purse ", rfl, by decide, _, rfl, o, CH, dx, _, _, rfl, ho2, T.cl, T.n3, rfl, .inr ⟨p, rfl, hl_log pu.p0 pu.p1, _, rfl, ?_, "debts ", rfl, by decide, _, rfl, o, CH, dx, _, _, rfl, ho2, T.cl, T.n4, rfl, .inr ⟨d, rfl, hl_log pu.d0 pu.d1, _, rfl, ?_, _, rfl, L, _, rfl, .inr (sqL hL2), _, rfl, M, _, rfl, .inr (sqL hM), ?_, fun N nN => ?_⟩⟩⟩
    · rw [hl_app]
      exact small_len (by show 6 + (intT p).length ≤ 1000; omega)
    · rw [hl_app]
      exact small_len (by show 6 + (intT d).length ≤ 1000; omega)
    · simp only [List.length_cons, List.length_append, List.length_map, List.length_nil]
      exact small_len (by omega)
    · refine q _ N ((s1.trans s2).trans (same_new nN)) ?_
      rw [upd_same]
      unfold linesT
      simp only [List.map_cons, List.map_append, List.append_nil]
      rfl
end
end WdQ

set_option Elab.async false
set_option linter.all false
set_option maxRecDepth 100000
set_option maxHeartbeats 4000000
set_option exponentiation.threshold 5000
namespace WdQ
open PySem PySem.Spec PyProof.Rows L2 WdM Wd
/-! ### what a house tells -/
abbrev sPar : Stmt := inClass sHouse 3
abbrev sGdM : Stmt := inClass sHouse 8
abbrev sKnd : Stmt := inClass sHouse 5
abbrev sWor : Stmt := inClass sHouse 6
abbrev sGds : Stmt := inClass sHouse 4
abbrev sHEq : Stmt := inClass sHouse 11
theorem scPar : FnScope ["self", "name"] ["self", "name"] (defScope sPar) := ⟨rfl, rfl, rfl, by decide +kernel, rfl, by decide +kernel, by decide +kernel⟩
theorem scGdM : FnScope ["self", "thing", "row"] ["self", "thing"] (defScope sGdM) := ⟨rfl, rfl, rfl, by decide +kernel, rfl, by decide +kernel, by decide +kernel⟩
theorem scKnd : FnScope ["self", "thing"] ["self", "thing"] (defScope sKnd) := ⟨rfl, rfl, rfl, by decide +kernel, rfl, by decide +kernel, by decide +kernel⟩
theorem scWor : FnScope ["self", "thing"] ["self", "thing"] (defScope sWor) := ⟨rfl, rfl, rfl, by decide +kernel, rfl, by decide +kernel, by decide +kernel⟩
theorem scGds : FnScope ["self", "kind", "key", "row", "names"] ["self", "kind", "key"] (defScope sGds) := ⟨rfl, rfl, rfl, by decide +kernel, rfl, by decide +kernel, by decide +kernel⟩
theorem scHEq : FnScope ["self", "other"] ["self", "other"] (defScope sHEq) := ⟨rfl, rfl, rfl, by decide +kernel, rfl, by decide +kernel, by decide +kernel⟩
theorem sum_le40 : ∀ {ys : List Str}, (∀ y ∈ ys, y.length ≤ 40) → (ys.map (·.length)).sum ≤ 40 * ys.length
  | [], _ => by simp
  | y :: ys, h => by
    have a := h y List.mem_cons_self
    have b := sum_le40 (ys := ys) fun x hx => h x (List.mem_cons_of_mem _ hx)
    simp only [List.map_cons, List.sum_cons, List.length_cons]
    omega
theorem lines_len {F : List (Str × Option Str)} {G : List Gd} {p d : Int} (gf : GoodF F) (gg : GoodG G) (pu : Pu p d) : (linesT F G p d).length ≤ 18 ∧ ∀ y ∈ linesT F G p d, y.length ≤ 40 := by
  have f8 := gf.l8
  have g8 := gg.l8
  constructor
  · unfold linesT
    simp only [List.length_cons, List.length_append, List.length_map]
    omega
  · intro y hy
    unfold linesT at hy
    rcases List.mem_cons.mp hy with rfl | hy
    · have := (hl_purse pu.p0 pu.p1).1
      omega
    rcases List.mem_cons.mp hy with rfl | hy
    · have := (hl_purse pu.d0 pu.d1).2
      omega
    rcases List.mem_append.mp hy with hy | hy
    · obtain ⟨r, hr, rfl⟩ := List.mem_map.mp hy
      have := hl_person (gf.nm r hr) (f_par gf hr)
      omega
    · obtain ⟨r, hr, rfl⟩ := List.mem_map.mp hy
      have := hl_thing (gg.nm r hr).1 (gg.nm r hr).2 (gg.sm r hr).1 (gg.sm r hr).2
      omega
section
variable {P : Program} {w : World} {K : PySem.W.Frag} {mg : Str → Option Value} {base : Heap} {CH : Addr}
theorem HsAt.at {H : Hp} {o : Addr} {F : List (Str × Option Str)} {G : List Gd} {p d : Int} (h : HsAt K CH H o F G p d) : ∃ dx v t, H o = some (.ins CH dx [("folk", v), ("things", t), ("purse", .int p), ("debts", .int d)]) := by
  obtain ⟨dx, v, t, h, _⟩ := h
  exact ⟨dx, v, t, h⟩
theorem HsAt.good {H : Hp} {o : Addr} {F : List (Str × Option Str)} {G : List Gd} {p d : Int} (h : HsAt K CH H o F G p d) : GoodF F ∧ GoodG G ∧ Pu p d := by
  obtain ⟨dx, v, t, _, _, _, r⟩ := h
  exact r
def spHStr (K : PySem.W.Frag) (CH : Addr) : Sp := fun vs H Q _ => ∃ (o : Addr) (F : List (Str × Option Str)) (G : List Gd) (p d : Int), vs = [.ref o] ∧ HsAt K CH H o F G p d ∧ ∀ H', Same H H' → Q (.str (houseT F G p d)) H'
theorem ok_hstr {f fL : Addr} {fd fdL : FuncData} {k : Nat} (T : HsF K CH) (F : Fun K "__str__" "House.__str__" sHStr f fd) (ML : Meth K CH "lines" fL) (bL : Binds K fdL ["self"] []) (GL : FnOk P w K mg base CX0 (k + 2) fL fdL ["self"] (spLns K CH)) : FnOk P w K mg base CX0 (k + 3) f fd ["self"] (spHStr K CH) := by
  refine F.ok scHStr (fun vs H Q E h => ?_) (fun cdv A outer s H vs Q E hr h => ?_)
  · obtain ⟨o, F, G, p, d, rfl, _⟩ := h
    rfl
  · obtain ⟨o, F, G, p, d, rfl, hh, q⟩ := h
    refine ⟨_, pss_one (ps_ret (pe_join pe_str (pe_meth0 (pv 0) T.cl ML GL hr bL .nil pass0))), ?_⟩
    obtain ⟨dx, v, t, ho⟩ := hh.at
    obtain ⟨gf, gg, pu⟩ := hh.good
    obtain ⟨l1, l2⟩ := lines_len gf gg pu
    refine ⟨⟨_, rfl⟩, _, rfl, o, dx, _, rfl, ho, rfl, o, F, G, p, d, rfl, hh, fun H1 L s1 hL => ⟨"\n", L, linesT F G p d, rfl, rfl, .inl (sqL hL), ?_, q H1 s1⟩⟩
    have := sum_le40 l2
    show _ + (linesT F G p d).length * 1 ≤ _
    omega
def spHLen (K : PySem.W.Frag) (CH : Addr) : Sp := fun vs H Q _ => ∃ (o : Addr) (F : List (Str × Option Str)), vs = [.ref o] ∧ HomeAt K CH H o F ∧ Q (.int (F.length : Nat)) H
theorem ok_hlen {f : Addr} {fd : FuncData} {k : Nat} (B : Bi mg) (T : HsF K CH) (F : Fun K "__len__" "House.__len__" sHLen f fd) : FnOk P w K mg base CX0 (k + 1) f fd ["self"] (spHLen K CH) := by
  refine F.ok scHLen (fun vs H Q E h => ?_) (fun cdv A outer s H vs Q E hr h => ?_)
  · obtain ⟨o, F, rfl, _⟩ := h
    rfl
  · obtain ⟨o, F, rfl, ⟨dx, v, tt, ho, ⟨t, xs, rfl, ht, xl, hx⟩, gf, _⟩, q⟩ := h
    refine ⟨_, pss_one (ps_ret (pe_callB call_len_seq (by rfl) B.len PySem.boot_len (pa_cons (pe_fld (pv 0) rfl) pa_nil))), ?_⟩
    rw [← xl] at q
    exact ⟨_, rfl, o, CH, dx, _, _, rfl, ho, T.cl, T.n1, rfl, t, _, rfl, .inr ht, q⟩
def houseR (F : List (Str × Option Str)) (G : List Gd) : Str := ((((Str.empty ++ "House(") ++ intT (F.length : Nat)) ++ ", ") ++ intT (G.length : Nat)) ++ ")"
def spHRep (K : PySem.W.Frag) (CH : Addr) : Sp := fun vs H Q _ => ∃ (o : Addr) (F : List (Str × Option Str)) (G : List Gd) (p d : Int), vs = [.ref o] ∧ HsAt K CH H o F G p d ∧ Q (.str (houseR F G)) H
theorem ok_hrep {f : Addr} {fd : FuncData} {k : Nat} (B : Bi mg) (T : HsF K CH) (F : Fun K "__repr__" "House.__repr__" sHRep f fd) : FnOk P w K mg base CX0 (k + 1) f fd ["self"] (spHRep K CH) := by
  refine F.ok scHRep (fun vs H Q E h => ?_) (fun cdv A outer s H vs Q E hr h => ?_)
  · obtain ⟨o, F, G, p, d, rfl, _⟩ := h
    rfl
  · obtain ⟨o, F, G, p, d, rfl, ⟨dx, v, tt, ho, ⟨t, xs, rfl, ht, xl, hx⟩, ⟨tg, ys, rfl, hg, yl, hy⟩, gf, gg, pu⟩, q⟩ := h
    refine ⟨_, pss_one (ps_ret (pe_joined (PJ.cons pe_str (PJ.cons (pe_fmt (pe_callB call_len_seq (by rfl) B.len PySem.boot_len (pa_cons (pe_fld (pv 0) rfl) pa_nil))) (PJ.cons pe_str (PJ.cons (pe_fmt (pe_callB call_len_seq (by rfl) B.len PySem.boot_len (pa_cons (pe_fld (pv 0) rfl) pa_nil))) (PJ.cons pe_str PJ.nil))))))), ?_⟩
    have f8 := gf.l8
    have g8 := gg.l8
    unfold houseR at q
    rw [← xl, ← yl] at q
    have c1 := hl_int (i := (xs.length : Nat)) (by omega) (by omega)
    have c2 := hl_int (i := (ys.length : Nat)) (by omega) (by omega)
    refine ⟨"House(", rfl, by decide, _, rfl, o, CH, dx, _, _, rfl, ho, T.cl, T.n1, rfl, t, _, rfl, .inr ht, .inr ⟨_, rfl, hl_log (by omega) (by omega), _, rfl, ?_, ", ", rfl, ?_, _, rfl, o, CH, dx, _, _, rfl, ho, T.cl, T.n2, rfl, tg, _, rfl, .inr hg, .inr ⟨_, rfl, hl_log (by omega) (by omega), _, rfl, ?_, ")", rfl, ?_, q⟩⟩⟩
    · rw [hl_app]
      exact small_len (by show 6 + (intT (xs.length : Nat)).length ≤ 1000; omega)
    · rw [hl_app, hl_app]
      exact small_len (by show 6 + (intT (xs.length : Nat)).length + 2 ≤ 1000; omega)
    · rw [hl_app, hl_app, hl_app]
      exact small_len (by show 6 + (intT (xs.length : Nat)).length + 2 + (intT (ys.length : Nat)).length ≤ 1000; omega)
    · rw [hl_app, hl_app, hl_app, hl_app]
      exact small_len (by show 6 + (intT (xs.length : Nat)).length + 2 + (intT (ys.length : Nat)).length + 1 ≤ 1000; omega)
/-! ### rows of people, of goods -/
def spPersR (K : PySem.W.Frag) (CH : Addr) : Sp := fun vs H Q _ => ∃ (o : Addr) (z : Str) (rows : List (Str × Option Str)), vs = [.ref o, .str z] ∧ HomeAt K CH H o rows ∧ z ∈ rows.map Prod.fst ∧ ∀ H' a r, Same H H' → r ∈ rows → r.1 = z → SqT K H' a [.str r.1, parV r.2] → Q (.ref a) H'
theorem ok_persR {f fR : Addr} {fd fdR : FuncData} {k : Nat} (T : HsF K CH) (F : Fun K "person" "House.person" sPers f fd) (DR : Df K mg "row_named" sRow fR fdR ["rows", "name"]) (GR : FnOk P w K mg base CX0 (k + 2) fR fdR ["rows", "name"] (spRow K)) : FnOk P w K mg base CX0 (k + 3) f fd ["self", "name"] (spPersR K CH) := by
  refine F.ok scPers (fun vs H Q E h => ?_) (fun cdv A outer s H vs Q E hr h => ?_)
  · obtain ⟨o, z, rows, rfl, _⟩ := h
    rfl
  · obtain ⟨o, z, rows, rfl, ⟨dx, v, t, ho, hv, gf, ht⟩, zm, q⟩ := h
    refine ⟨_, pss_cons (ps_set (i := 2) scPers.nd rfl (.inl rfl) (pe_call GR hr (by rfl) DR.mg DR.fn.kp DR.bd .nil pass0 (pa_cons (pe_fld (pv 0) rfl) (pa_cons (pv 1) pa_nil))))
      (pss_cons (ps_if (pt_cmpR op_isN (pv 2) pe_non (nomark _)) pss_noS pss_nil) (pss_one (ps_ret (pv 2)))), ?_⟩
    refine ⟨_, rfl, o, CH, dx, _, _, rfl, ho, T.cl, T.n1, rfl, _, rfl, v, z, rows, rfl, hv, zm, fun H1 a r s1 rm rz ra => ?_⟩
    exact ⟨_, rfl, rfl, false, rfl, iteF ⟨_, rfl, q H1 a r s1 rm rz ra⟩⟩
def spPar (K : PySem.W.Frag) (CH : Addr) : Sp := fun vs H Q _ => ∃ (o : Addr) (z : Str) (rows : List (Str × Option Str)), vs = [.ref o, .str z] ∧ HomeAt K CH H o rows ∧ z ∈ rows.map Prod.fst ∧ ∀ H' r, Same H H' → r ∈ rows → r.1 = z → Q (parV r.2) H'
theorem ok_par {f fP : Addr} {fd fdP : FuncData} {k : Nat} (T : HsF K CH) (F : Fun K "parent" "House.parent" sPar f fd) (MP : Meth K CH "person" fP) (bP : Binds K fdP ["self", "name"] []) (GP : FnOk P w K mg base CX0 (k + 3) fP fdP ["self", "name"] (spPersR K CH)) : FnOk P w K mg base CX0 (k + 4) f fd ["self", "name"] (spPar K CH) := by
  refine F.ok scPar (fun vs H Q E h => ?_) (fun cdv A outer s H vs Q E hr h => ?_)
  · obtain ⟨o, z, rows, rfl, _⟩ := h
    rfl
  · obtain ⟨o, z, rows, rfl, hh, zm, q⟩ := h
    refine ⟨_, pss_one (ps_ret (pe_ix (r := rIxT K) ix_tup (pe_meth (pv 0) T.cl MP GP hr bP .nil pass0 (pa_cons (pv 1) pa_nil)) pe_int (fun _ _ => rfl))), ?_⟩
    have hh0 := hh
    obtain ⟨dx, v, tt, ho, _⟩ := hh
    exact ⟨_, rfl, o, dx, _, rfl, ho, rfl, _, rfl, o, z, rows, rfl, hh0, zm, fun H1 a r s1 rm rz ra => ⟨a, _, 1, _, rfl, rfl, ra, atI_nat (j := 1) rfl, q H1 r s1 rm rz⟩⟩
def spRowG (K : PySem.W.Frag) : Sp := fun vs H Q _ => ∃ (v : V) (z : Str) (rows : List Gd), vs = [v, .str z] ∧ GoodsAt K H v rows ∧ z ∈ rows.map Prod.fst ∧ ∀ H' a r, Same H H' → r ∈ rows → r.1 = z → SqT K H' a (rowG r) → Q (.ref a) H'
theorem ok_rowG {f fW : Addr} {fd fdW : FuncData} {k : Nat} (D : Df K mg "row_named" sRow f fd ["rows", "name"]) (DW : Df K mg "is_word" sWord fW fdW ["thing", "words"]) (GW : FnOk P w K mg base CX0 (k + 1) fW fdW ["thing", "words"] (spWord K)) : FnOk P w K mg base CX0 (k + 2) f fd ["rows", "name"] (spRowG K) := by
  refine D.fn.ok scRow (fun vs H Q E h => ?_) (fun cdv A outer s H vs Q E hr h => ?_)
  · obtain ⟨v, z, rows, rfl, _⟩ := h
    rfl
  · obtain ⟨v, z, rows, rfl, ⟨t, xs, rfl, ht, xl, hx⟩, zm, q⟩ := h
    refine ⟨_, pss_cons (ps_for PassesOwn.never rfl (pi_tup (pv 0)) (pg_name (i := 2) scRow.nd rfl (.inl rfl))
        (pss_one (ps_if (pt_val (pe_call GW hr (by rfl) DW.mg DW.fn.kp DW.bd .nil pass0 (pa_cons (pv 1) (pa_cons (pe_tup (pa_cons (pe_ix (r := rIxT K) ix_tup (pv 2) pe_int (fun _ _ => rfl)) pa_nil)) pa_nil)))) (pss_one (ps_ret (pv 2))) pss_nil)))
      (pss_one (ps_ret pe_non)), ?_⟩
    refine ⟨_, rfl, t, rfl, ⟨_, ht⟩, for_tup (K := K) (a := t) (xs := xs) (fun i σ H' => (∃ y2, σ = [some (.ref t), some (.str z), y2]) ∧ z ∈ (rows.drop i).map Prod.fst ∧ Same H H') ⟨⟨none, rfl⟩, zm, Same.refl H⟩ (fun i σ H' _ h => (tk_same h.2.2).sq ht) ?_ ?_⟩
    · rintro i x σ H2 hx2 ⟨⟨y2, rfl⟩, zi, s2⟩
      obtain ⟨a, r, rfl, hr2, ha⟩ := hx i x hx2
      have m := List.mem_of_getElem? hr2
      refine ⟨_, rfl, _, rfl, a, _, 0, .str r.1, rfl, rfl, (tk_same s2).sq ha, atI_nat (j := 0) rfl, by show 1 ≤ sizeLine; decide, fun tp ntp => ?_⟩
      have s3 : Same H (upd H2 tp (.tup [.str r.1])) := s2.trans (same_new ntp)
      have h3 : (upd H2 tp (.tup [.str r.1])) tp = some (.tup [.str r.1]) := upd_same
      revert s3 h3
      generalize upd H2 tp (.tup [.str r.1]) = H3
      intro s3 h3
      refine ⟨.str z, .str z, tp, [.str r.1], rfl, (Th.dp (.str z)).is, .inr (sqT h3), rfl, ?_⟩
      have wb : wordB [V.str r.1] (.str z) = decide (r.1 = z) := by
        show ((r.1 == z) || false) = _
        rw [Bool.or_false]
        by_cases e : r.1 = z <;> simp [e]
      rw [wb]
      refine ⟨_, rfl, ?_⟩
      by_cases e : r.1 = z
      · rw [decide_eq_true e]
        exact iteT ⟨_, rfl, q H3 a r s3 m e ((tk_same s3).sq ha)⟩
      · rw [decide_eq_false e]
        refine iteF ⟨⟨_, rfl⟩, ?_, s3⟩
        obtain ⟨hi, e2⟩ := List.getElem?_eq_some_iff.mp hr2
        rw [List.drop_eq_getElem_cons hi, List.map_cons] at zi
        rcases List.mem_cons.mp zi with h | h
        · exact absurd (by rw [← e2]; exact h.symm) e
        · exact h
    · rintro σ H2 ⟨⟨y2, rfl⟩, zi, s2⟩
      rw [xl, List.drop_length] at zi
      cases zi
def spGdM (K : PySem.W.Frag) (CH : Addr) : Sp := fun vs H Q _ => ∃ (o : Addr) (z : Str) (F : List (Str × Option Str)) (G : List Gd) (p d : Int), vs = [.ref o, .str z] ∧ HsAt K CH H o F G p d ∧ z ∈ G.map Prod.fst ∧ ∀ H' a r, Same H H' → r ∈ G → r.1 = z → SqT K H' a (rowG r) → Q (.ref a) H'
theorem ok_gdm {f fR : Addr} {fd fdR : FuncData} {k : Nat} (T : HsF K CH) (F : Fun K "good" "House.good" sGdM f fd) (DR : Df K mg "row_named" sRow fR fdR ["rows", "name"]) (GR : FnOk P w K mg base CX0 (k + 2) fR fdR ["rows", "name"] (spRowG K)) : FnOk P w K mg base CX0 (k + 3) f fd ["self", "thing"] (spGdM K CH) := by
  refine F.ok scGdM (fun vs H Q E h => ?_) (fun cdv A outer s H vs Q E hr h => ?_)
  · obtain ⟨o, z, F, G, p, d, rfl, _⟩ := h
    rfl
  · obtain ⟨o, z, F, G, p, d, rfl, ⟨dx, v, t, ho, hv, hg, _⟩, zm, q⟩ := h
    refine ⟨_, pss_cons (ps_set (i := 2) scGdM.nd rfl (.inl rfl) (pe_call GR hr (by rfl) DR.mg DR.fn.kp DR.bd .nil pass0 (pa_cons (pe_fld (pv 0) rfl) (pa_cons (pv 1) pa_nil))))
      (pss_cons (ps_if (pt_cmpR op_isN (pv 2) pe_non (nomark _)) pss_noS pss_nil) (pss_one (ps_ret (pv 2)))), ?_⟩
    refine ⟨_, rfl, o, CH, dx, _, _, rfl, ho, T.cl, T.n2, rfl, _, rfl, t, z, G, rfl, hg, zm, fun H1 a r s1 rm rz ra => ?_⟩
    exact ⟨_, rfl, rfl, false, rfl, iteF ⟨_, rfl, q H1 a r s1 rm rz ra⟩⟩
def spKnd (K : PySem.W.Frag) (CH : Addr) (g : Gd → V) : Sp := fun vs H Q _ => ∃ (o : Addr) (z : Str) (F : List (Str × Option Str)) (G : List Gd) (p d : Int), vs = [.ref o, .str z] ∧ HsAt K CH H o F G p d ∧ z ∈ G.map Prod.fst ∧ ∀ H' r, Same H H' → r ∈ G → r.1 = z → Q (g r) H'
theorem ok_knd {f fP : Addr} {fd fdP : FuncData} {k : Nat} (T : HsF K CH) (F : Fun K "kind" "House.kind" sKnd f fd) (MP : Meth K CH "good" fP) (bP : Binds K fdP ["self", "thing"] []) (GP : FnOk P w K mg base CX0 (k + 3) fP fdP ["self", "thing"] (spGdM K CH)) : FnOk P w K mg base CX0 (k + 4) f fd ["self", "thing"] (spKnd K CH fun r => .str r.2.1) := by
  refine F.ok scKnd (fun vs H Q E h => ?_) (fun cdv A outer s H vs Q E hr h => ?_)
  · obtain ⟨o, z, F, G, p, d, rfl, _⟩ := h
    rfl
  · obtain ⟨o, z, F, G, p, d, rfl, hh, zm, q⟩ := h
    refine ⟨_, pss_one (ps_ret (pe_ix (r := rIxT K) ix_tup (pe_meth (pv 0) T.cl MP GP hr bP .nil pass0 (pa_cons (pv 1) pa_nil)) pe_int (fun _ _ => rfl))), ?_⟩
    obtain ⟨dx, v, tt, ho⟩ := hh.at
    exact ⟨_, rfl, o, dx, _, rfl, ho, rfl, _, rfl, o, z, F, G, p, d, rfl, hh, zm, fun H1 a r s1 rm rz ra => ⟨a, _, 1, _, rfl, rfl, ra, atI_nat (j := 1) rfl, q H1 r s1 rm rz⟩⟩
theorem ok_wor {f fP : Addr} {fd fdP : FuncData} {k : Nat} (T : HsF K CH) (F : Fun K "worth" "House.worth" sWor f fd) (MP : Meth K CH "good" fP) (bP : Binds K fdP ["self", "thing"] []) (GP : FnOk P w K mg base CX0 (k + 3) fP fdP ["self", "thing"] (spGdM K CH)) : FnOk P w K mg base CX0 (k + 4) f fd ["self", "thing"] (spKnd K CH fun r => .int r.2.2) := by
  refine F.ok scWor (fun vs H Q E h => ?_) (fun cdv A outer s H vs Q E hr h => ?_)
  · obtain ⟨o, z, F, G, p, d, rfl, _⟩ := h
    rfl
  · obtain ⟨o, z, F, G, p, d, rfl, hh, zm, q⟩ := h
    refine ⟨_, pss_one (ps_ret (pe_ix (r := rIxT K) ix_tup (pe_meth (pv 0) T.cl MP GP hr bP .nil pass0 (pa_cons (pv 1) pa_nil)) pe_int (fun _ _ => rfl))), ?_⟩
    obtain ⟨dx, v, tt, ho⟩ := hh.at
    exact ⟨_, rfl, o, dx, _, rfl, ho, rfl, _, rfl, o, z, F, G, p, d, rfl, hh, zm, fun H1 a r s1 rm rz ra => ⟨a, _, 2, _, rfl, rfl, ra, atI_nat (j := 2) rfl, q H1 r s1 rm rz⟩⟩
/-! ### all goods -/
def spGds (K : PySem.W.Frag) (CH : Addr) : Sp := fun vs H Q _ => ∃ (o : Addr) (F : List (Str × Option Str)) (G : List Gd) (p d : Int), vs = [.ref o, .non, .non] ∧ HsAt K CH H o F G p d ∧ ∀ H' t, Same H H' → SqT K H' t ((G.map Prod.fst).map V.str) → Q (.ref t) H'
theorem ok_gds {f fW : Addr} {fd fdW : FuncData} {k : Nat} (B : Bi mg) (T : HsF K CH) (F : FunD K "goods" "House.goods" (defArgs sGds) (defBody sGds) (defScope sGds) [.non, .non] [] f fd) (DW : Df K mg "is_word" sWord fW fdW ["thing", "words"]) : FnOk P w K mg base CX0 (k + 2) f fd ["self", "kind", "key"] (spGds K CH) := by
  have GW : FnOk P w K mg base CX0 (k + 1) fW fdW ["thing", "words"] (spWord K) := ok_word B DW
  refine F.ok scGds (fun vs H Q E h => ?_) (fun cdv A outer s H vs Q E hr h => ?_)
  · obtain ⟨o, F, G, p, d, rfl, _⟩ := h
    rfl
  · obtain ⟨o, F, G, p, d, rfl, ⟨dx, v, tt, ho, hv, ⟨t, xs, rfl, ht, xl, hx⟩, gf, gg, pu⟩, q⟩ := h
    refine ⟨_, pss_cons (ps_setLc (i := 4) (own := [("row", 3)]) (g := gName 3) rfl scGds.nd rfl rfl (sw_true rfl rfl rfl (by decide +kernel)) (pi_tup (pe_fld (pv 0) rfl)) (blkOk_by (own := [("row", 3)]) (N := ["self", "kind", "key", "row", "names"]) (sc := defScope sGds) (by decide +kernel))
          (fun _ _ _ _ _ => pg_name (i := 3) scGds.nd rfl (Or.inl rfl)) (fun _ _ _ _ _ => pts_one (PW.pt (pw_or (pt_cmpR op_isN (pv 1) pe_non (nomark _)) (pw_or1 (pt_val (pe_call GW hr (by rfl) DW.mg DW.fn.kp DW.bd .nil pass0 (pa_cons (pv 1) (pa_cons (pe_tup (pa_cons (pe_ix (r := rIxT K) ix_tup (pv 3) pe_int (fun _ _ => rfl)) pa_nil)) pa_nil)))))))) (fun _ _ _ _ _ => pe_ix (r := rIxT K) ix_tup (pv 3) pe_int (fun _ _ => rfl)))
      (pss_cons (ps_if (pt_cmpR op_notN (pv 2) pe_non (nomark _)) pss_noS pss_nil)
      (pss_one (ps_ret (pe_callTy call_tuple_of (by rfl) B.tuple boot_tuple (pa_cons (pv 4) pa_nil))))), ?_⟩
    have g8 := gg.l8
    refine ⟨_, rfl, o, CH, dx, _, _, rfl, ho, T.cl, T.n2, rfl, t, rfl, ⟨_, ht⟩, fun L nL => lc_tup (K := K) (a := t) (xs := xs) (fun j H' => H' L = some (.lst (((G.take j).map Prod.fst).map V.str)) ∧ Same H H') ⟨upd_same, same_new nL⟩ (fun j H' _ h => (tk_same h.2).sq ht) ?_ ?_⟩
    · rintro j x H1 hx1 ⟨hL, s1⟩
      obtain ⟨a, r, rfl, hr1, ha⟩ := hx j x hx1
      have jl := lt_get hr1
      refine ⟨rfl, _, rfl, rfl, _, rfl, iteT (iteT ⟨_, rfl, a, _, 0, .str r.1, rfl, rfl, (tk_same s1).sq ha, atI_nat (j := 0) rfl, _, hL, ?_, ?_, ((Bt.of_same (S := []) s1).upd0 nL).same⟩)⟩
      · rw [List.length_map, List.length_map, List.length_take]
        exact small1000 (by omega)
      · rw [upd_same, take_more hr1, List.map_append, List.map_append]
        rfl
    · rintro H1 ⟨hL, s1⟩
      rw [xl, List.take_length] at hL
      exact ⟨_, rfl, rfl, _, rfl, iteF ⟨_, rfl, L, _, rfl, .inl ⟨sqL hL, fun tp ntp => q _ tp (s1.trans (same_new ntp)) (sqT upd_same)⟩⟩⟩
end
/-! ### houses compared -/
def parD : Option Str → PyData
  | none => .none
  | some y => .str y
def folkD (r : Str × Option Str) : PyData := .tuple [.str r.1, parD r.2]
def goodD (r : Gd) : PyData := .tuple [.str r.1, .str r.2.1, .int r.2.2]
theorem bq_str (a d : Str) : (a == d) = decide (a = d) := by
  by_cases h : a = d
  · rw [h]; simp
  · rw [decide_eq_false h]
    exact beq_eq_false_iff_ne.mpr h
theorem bq_int (a d : Int) : (a == d) = decide (a = d) := by
  by_cases h : a = d
  · rw [h]; simp
  · rw [decide_eq_false h]
    exact beq_eq_false_iff_ne.mpr h
theorem eqv_folk (r s : Str × Option Str) : PyData.eqv (folkD r) (folkD s) = decide (r = s) := by
  obtain ⟨a, b⟩ := r
  obtain ⟨c, d⟩ := s
  cases b <;> cases d <;> simp [folkD, parD, PyData.eqv, PyData.eqvAll, bq_str]
theorem eqv_good (r s : Gd) : PyData.eqv (goodD r) (goodD s) = decide (r = s) := by
  obtain ⟨a, b, i⟩ := r
  obtain ⟨c, d, j⟩ := s
  simp [goodD, PyData.eqv, PyData.eqvAll, bq_str, bq_int, Bool.and_assoc]
theorem eqv_map {α : Type} [DecidableEq α] {g : α → PyData} (h : ∀ r s, PyData.eqv (g r) (g s) = decide (r = s)) : ∀ ts us : List α, PyData.eqvAll (ts.map g) (us.map g) = decide (ts = us)
  | [], [] => by simp [PyData.eqvAll]
  | [], u :: us => by simp [PyData.eqvAll]
  | t :: ts, [] => by simp [PyData.eqvAll]
  | t :: ts, u :: us => by
    rw [List.map_cons, List.map_cons]
    unfold PyData.eqvAll
    rw [h, eqv_map h ts us]
    simp
theorem dep_all {n : Nat} : ∀ {ds : List PyData}, (∀ d ∈ ds, PyData.depth d ≤ n) → PyData.depthAll ds ≤ n
  | [], _ => by unfold PyData.depthAll; exact Nat.zero_le _
  | d :: ds, h => by
    unfold PyData.depthAll
    have h1 := h d (by simp)
    have h2 := dep_all fun d hd => h d (List.mem_cons_of_mem _ hd)
    omega
theorem map_sh {α : Type} {g : α → PyData} {ts : List α} (h : ∀ t ∈ ts, PyData.canLay0 (g t) = true ∧ PyData.depth (g t) ≤ 3) : SeqAt.shaped (.tuple (ts.map g)) = true := by
  have h1 : PyData.canLay0 (.tuple (ts.map g)) = true := by
    simp only [PyData.canLay0]
    refine canLayAll_of fun d hd => ?_
    obtain ⟨t, ht, rfl⟩ := List.mem_map.mp hd
    exact (h t ht).1
  have h2 : PyData.depth (.tuple (ts.map g)) ≤ 64 := by
    have := dep_all (n := 3) (ds := ts.map g) fun d hd => by
      obtain ⟨t, ht, rfl⟩ := List.mem_map.mp hd
      exact (h t ht).2
    simp only [PyData.depth]
    omega
  unfold SeqAt.shaped
  rw [h1, decide_eq_true h2]
  rfl
theorem hl_okL {z : Str} (h : Nm z) : okL z := by
  have := h.name
  unfold nmB at this
  rw [Bool.and_eq_true] at this
  exact fun c hc => List.all_eq_true.mp this.2 c hc
theorem folk_sh {F : List (Str × Option Str)} (g : GoodF F) : SeqAt.shaped (.tuple (F.map folkD)) = true := map_sh fun r hr => by
  have a := strOk_of (hl_okL (g.nm r hr)).ok
  obtain ⟨z, o⟩ := r
  cases o with
  | none => exact ⟨by simp only [folkD, parD, PyData.canLay0, PyData.canLayAll0]; rw [a]; rfl, by simp only [folkD, parD, PyData.depth, PyData.depthAll]; omega⟩
  | some y =>
    have b := strOk_of (hl_okL (f_par g hr y rfl)).ok
    exact ⟨by simp only [folkD, parD, PyData.canLay0, PyData.canLayAll0]; rw [a, b]; rfl, by simp only [folkD, parD, PyData.depth, PyData.depthAll]; omega⟩
theorem good_sh {G : List Gd} (g : GoodG G) : SeqAt.shaped (.tuple (G.map goodD)) = true := map_sh fun r hr => by
  have a := strOk_of (hl_okL (g.nm r hr).1).ok
  have b := strOk_of (hl_okL (g.nm r hr).2).ok
  exact ⟨by simp only [goodD, PyData.canLay0, PyData.canLayAll0]; rw [a, b]; rfl, by simp only [goodD, PyData.depth, PyData.depthAll]; omega⟩
section
variable {P : Program} {w : World} {K : PySem.W.Frag} {mg : Str → Option Value} {base : Heap} {CH : Addr}
theorem dp_rows {H : Hp} {α : Type} {g : α → PyData} : ∀ {xs : List V} {rs : List α}, xs.length = rs.length → (∀ (i : Nat) (x : V), xs[i]? = some x → ∃ r, rs[i]? = some r ∧ Dp K H x (g r)) → DpAll K H xs (rs.map g)
  | [], [], _, _ => .nil
  | [], _ :: _, l, _ => by simp at l
  | _ :: _, [], l, _ => by simp at l
  | x :: xs, r :: rs, l, h => by
    obtain ⟨r', e, d⟩ := h 0 x rfl
    cases e
    exact .cons d (dp_rows (by simpa using l) fun i y hy => h (i + 1) y hy)
theorem par_dp {H : Hp} (o : Option Str) : Dp K H (parV o) (parD o) := by
  cases o with
  | none => exact .non
  | some y => exact .str y
theorem FolkAt.dp {H : Hp} {v : V} {F : List (Str × Option Str)} (h : FolkAt K H v F) : Dp K H v (.tuple (F.map folkD)) := by
  obtain ⟨t, xs, rfl, ht, xl, hx⟩ := h
  refine .tup ht (dp_rows xl fun i x hi => ?_)
  obtain ⟨a, r, rfl, hr, ha⟩ := hx i x hi
  exact ⟨r, hr, .tup ha (.cons (.str _) (.cons (par_dp _) .nil))⟩
theorem GoodsAt.dp {H : Hp} {v : V} {G : List Gd} (h : GoodsAt K H v G) : Dp K H v (.tuple (G.map goodD)) := by
  obtain ⟨t, xs, rfl, ht, xl, hx⟩ := h
  refine .tup ht (dp_rows xl fun i x hi => ?_)
  obtain ⟨a, r, rfl, hr, ha⟩ := hx i x hi
  exact ⟨r, hr, .tup ha (.cons (.str _) (.cons (.str _) (.cons (.int _) .nil)))⟩
structure HsG (K : PySem.W.Frag) (CH : Addr) : Prop where
  c : PySem.W.findIn K (.ref CH) "__class__" = some (some (.builtin "object.__class__"))
  n : PySem.W.specialIn K (.builtin "object.__class__") "__get__" = some (some (.builtin "getset_descriptor.__get__"))
  t : PySem.W.takesIn K (.builtin "object.__class__") = some true
  m : PySem.W.mroIn K CH (.type "object") = some true
  k : PySem.W.kitOne K (.ref CH) (.ref CH) = some true
def sameB (F F' : List (Str × Option Str)) (G G' : List Gd) (p p' d d' : Int) : Bool := decide (p = p' ∧ d = d') && (decide (F = F') && decide (G = G'))
def spHEq (K : PySem.W.Frag) (CH : Addr) : Sp := fun vs H Q _ => ∃ (o o' : Addr) (F F' : List (Str × Option Str)) (G G' : List Gd) (p p' d d' : Int), vs = [.ref o, .ref o'] ∧ HsAt K CH H o F G p d ∧ HsAt K CH H o' F' G' p' d' ∧ Q (.bl (sameB F F' G G' p p' d d')) H
/-- other: a house, or another thing -/
def spHEqV (K : PySem.W.Frag) (CH : Addr) : Sp := fun vs H Q E => spHEq K CH vs H Q E ∨ ∃ (o : Addr) (y : V) (t : Value), vs = [.ref o, y] ∧ TyX K H y t ∧ PySem.W.kitOne K t (.ref CH) = some false ∧ Q (.bl false) H
theorem ok_heq {f : Addr} {fd : FuncData} {k : Nat} (B : Bi mg) (T : HsF K CH) (TG : HsG K CH) (gH : mg "House" = some (.ref CH)) (F : Fun K "__eq__" "House.__eq__" sHEq f fd) : FnOk P w K mg base CX0 (k + 1) f fd ["self", "other"] (spHEqV K CH) := by
  refine F.ok scHEq (fun vs H Q E h => ?_) (fun cdv A outer s H vs Q E hr h => ?_)
  · rcases h with ⟨o, o', F, F', G, G', p, p', d, d', rfl, _⟩ | ⟨o, y, t, rfl, _⟩
    · rfl
    · rfl
  · have hu := hr.units
    refine ⟨_, pss_cons (ps_if (pt_not (pt_val (pe_callB call_isi (by rfl) B.isi boot_isinstance (pa_cons (pv 1) (pa_cons (pe_glob (v := .ref CH) (by rfl) gH rfl) pa_nil))))) (pss_one (ps_ret pe_bl)) pss_nil)
      (pss_cons (ps_if (PW.pt (pw_or (pt_cmpR op_ne (pe_fld (pv 0) rfl) (pe_fld (pv 1) rfl) (nomark _)) (pw_or1 (pt_cmpR op_ne (pe_fld (pv 0) rfl) (pe_fld (pv 1) rfl) (nomark _))))) (pss_one (ps_ret pe_bl)) pss_nil)
      (pss_one (ps_ret (pe_and (pe_cmpR (r := rEqD K) (op_eqD hu) (pe_fld (pv 0) rfl) (pe_fld (pv 1) rfl) (nomark _)) (pe_one (pe_cmpR (r := rEqD K) (op_eqD hu) (pe_fld (pv 0) rfl) (pe_fld (pv 1) rfl) (nomark _))))))), ?_⟩
    rcases h with ⟨o, o', F, F', G, G', p, p', d, d', rfl, ⟨dx, v, t, ho, hf, hg, gf, gg, pu⟩, ⟨dx', v', t', ho', hf', hg', gf', gg', pu'⟩, q⟩ | ⟨o, y, t, rfl, ty, kf, q⟩
    rotate_left
    · exact ⟨_, rfl, y, .ref CH, t, .ref CH, false, rfl, .own _, ty, kf, false, rfl, iteT q⟩
    refine ⟨_, rfl, .ref o', .ref CH, .ref CH, .ref CH, true, rfl, .own _, .base (.ins ho' T.cl TG.c TG.n TG.t TG.m), TG.k, true, rfl, iteF ?_⟩
    refine ⟨_, rfl, o, CH, dx, _, _, rfl, ho, T.cl, T.n3, rfl, _, rfl, o', CH, dx', _, _, rfl, ho', T.cl, T.n3, rfl, rfl, _, rfl, ?_⟩
    unfold sameB at q
    by_cases ep : p = p'
    · rw [show (!decide (V.int p = V.int p')) = false by rw [ep]; simp]
      refine iteF ⟨_, rfl, o, CH, dx, _, _, rfl, ho, T.cl, T.n4, rfl, _, rfl, o', CH, dx', _, _, rfl, ho', T.cl, T.n4, rfl, rfl, _, rfl, ?_⟩
      by_cases ed : d = d'
      · rw [show (!decide (V.int d = V.int d')) = false by rw [ed]; simp]
        rw [show decide (p = p' ∧ d = d') = true from decide_eq_true ⟨ep, ed⟩, Bool.true_and] at q
        refine iteF ⟨_, rfl, o, CH, dx, _, _, rfl, ho, T.cl, T.n1, rfl, _, rfl, o', CH, dx', _, _, rfl, ho', T.cl, T.n1, rfl, _, _, hf.dp, hf'.dp, folk_sh gf, folk_sh gf', ?_⟩
        rw [show PyData.eqv (.tuple (F.map folkD)) (.tuple (F'.map folkD)) = decide (F = F') by unfold PyData.eqv; exact eqv_map eqv_folk F F']
        refine ⟨_, rfl, ?_⟩
        by_cases ef : F = F'
        · rw [decide_eq_true ef] at q ⊢
          rw [Bool.true_and] at q
          refine iteT ⟨_, rfl, o, CH, dx, _, _, rfl, ho, T.cl, T.n2, rfl, _, rfl, o', CH, dx', _, _, rfl, ho', T.cl, T.n2, rfl, _, _, hg.dp, hg'.dp, good_sh gg, good_sh gg', ?_⟩
          rw [show PyData.eqv (.tuple (G.map goodD)) (.tuple (G'.map goodD)) = decide (G = G') by unfold PyData.eqv; exact eqv_map eqv_good G G']
          exact q
        · rw [decide_eq_false ef] at q ⊢
          exact iteF q
      · rw [show (!decide (V.int d = V.int d')) = true by rw [decide_eq_false (fun e => ed (by injection e))]; rfl]
        rw [show decide (p = p' ∧ d = d') = false from decide_eq_false fun h => ed h.2, Bool.false_and] at q
        exact iteT q
    · rw [show (!decide (V.int p = V.int p')) = true by rw [decide_eq_false (fun e => ep (by injection e))]; rfl]
      rw [show decide (p = p' ∧ d = d') = false from decide_eq_false fun h => ep h.1, Bool.false_and] at q
      exact iteT (iteT q)
end
end WdQ

set_option Elab.async false
set_option linter.all false
set_option maxRecDepth 100000
set_option maxHeartbeats 4000000
set_option exponentiation.threshold 5000
namespace WdQ
open PySem PySem.Spec PyProof.Rows L2 WdM Wd
abbrev sRNum : Stmt := topS 15
def nRNum : List Str := ["word", "sign", "number"]
theorem scRNum : FnScope nRNum ["word"] (defScope sRNum) := ⟨rfl, rfl, rfl, by decide +kernel, rfl, by decide +kernel, by decide +kernel⟩
/-! ### figures -/
def figS : Str := "0123456789"
def figB (c : Nat) : Bool := decide (c ∈ figS.cps.toList)
theorem fig_dig : ∀ i : Fin 10, figB (48 + i.val) = true ∧ Builtin.Str.occurrences figS ⟨#[48 + i.val]⟩ 0 figS.length 1 = [i.val] := by decide +kernel
theorem fig_of {c : Nat} (h0 : 48 ≤ c) (h1 : c ≤ 57) : figB c = true ∧ Builtin.Str.occurrences figS ⟨#[c]⟩ 0 figS.length 1 = [c - 48] := by
  have := fig_dig ⟨c - 48, by omega⟩
  have e : 48 + (c - 48) = c := by omega
  simp only [e] at this
  exact this
theorem num_dig {n c : Nat} (h : c ∈ TL.numL n) : 48 ≤ c ∧ c ≤ 57 := by
  have := TL.numL_digits n c h
  exact this
theorem num_head (n : Nat) : ∃ c l, TL.numL n = c :: l ∧ (c = 48 → n = 0) := by
  induction n using Nat.strongRecOn with
  | ind n ih =>
    by_cases h : n < 10
    · exact ⟨48 + n, [], TL.numL_lt h, fun e => by omega⟩
    · obtain ⟨c, l, e, hc⟩ := ih (n / 10) (by omega)
      exact ⟨c, l ++ [48 + n % 10], by rw [TL.numL_step (by omega), e]; rfl, fun z => by have := hc z; omega⟩
def valL (l : List Nat) : Int := l.foldl (fun (t : Int) (c : Nat) => t * 10 + ((c : Int) - 48)) 0
theorem val_more {l : List Nat} {i c : Nat} (h : l[i]? = some c) : valL (l.take (i + 1)) = valL (l.take i) * 10 + ((c : Int) - 48) := by
  unfold valL
  rw [take_more h, List.foldl_append]
  rfl
theorem val_num (n : Nat) : valL (TL.numL n) = (n : Int) := TL.fold_num n
section
variable {P : Program} {w : World} {K : PySem.W.Frag} {mg : Str → Option Value} {base : Heap} {CY : Addr}
def tNumT : TS := fun D σ H => ∃ (x : Str) (n : Nat) (y1 : Option V), σ = [some (.str x), y1, none] ∧ TL.tl x = TL.numL n ∧ (∀ c ∈ x.cps.toList, 48 ≤ c ∧ c ≤ 57) ∧ ∀ H', Same H H' → D.rt (.int (n : Nat)) H'
def spRNum : Sp := fun vs H Q _ => ∃ (x : Str) (n : Nat), vs = [.str x] ∧ TL.tl x = TL.numL n ∧ (TL.numL n).length ≤ 100 ∧ ∀ H', Same H H' → Q (.int (n : Nat)) H'
theorem ok_rnum {f : Addr} {fd : FuncData} {k : Nat} {tF : Tok} (B : Bi mg) (gF : mg "FIGURES" = some (.str figS tF)) (D : Df K mg "read_number" sRNum f fd ["word"]) : FnOk P w K mg base CX0 (k + 1) f fd ["word"] spRNum := by
  refine D.fn.ok scRNum (fun vs H Q E h => ?_) (fun cdv A outer s H vs Q E hr h => ?_)
  · obtain ⟨x, n, rfl, _⟩ := h
    rfl
  · obtain ⟨x, n, rfl, ex, ln, q⟩ := h
    refine ⟨_, pss_cons (ps_if (PW.pt (pw_or (pt_cmpR op_eq (pv 0) pe_str (nomark _)) (pw_or1 (pt_not (pt_val (pe_callB (cr_all rfl) (by rfl) B.all (by decide +kernel) (pa_cons
          (pe_lc (own := [("sign", 1)]) (g := gName 1) (tt := tYes) rfl scRNum.nd (pi_str (pv 0)) (blkOk_by (own := [("sign", 1)]) (N := nRNum) (sc := defScope sRNum) (by decide +kernel))
            (fun _ _ _ _ _ => pg_name (i := 1) scRNum.nd rfl (Or.inl rfl)) (fun _ _ _ _ _ => pts_nil)
            (fun _ _ _ _ _ => pe_cmpR op_in_sign (pv 1) (pe_glob (v := .str figS) (by rfl) gF ⟨_, rfl⟩) (by rfl))) pa_nil))))))) (pss_one (ps_ret pe_non)) pss_nil)
      (pss_cons (ps_if (PW.pt (pw_and (pt_cmpR op_eq (pe_ix (r := rIxS) ix_str (pv 0) pe_int (fun _ _ => rfl)) pe_str (nomark _)) (pw_and1 (pt_cmpR op_ne (pv 0) pe_str (nomark _))))) (pss_one (ps_ret pe_non)) pss_nil)
      (PSs.wk (t' := tNumT) (pss_cons (ps_set (i := 2) scRNum.nd rfl (.inl rfl) pe_int)
      (pss_cons (ps_for PassesOwn.never rfl (pi_str (pv 0)) (pg_name (i := 1) scRNum.nd rfl (.inl rfl))
        (pss_one (ps_set (i := 2) scRNum.nd rfl (.inl rfl) (pe_op op_add (pe_op op_mul (pv 2) pe_int) (pe_bm PySem.F.plainAttrs_str PySem.F.slot_str_index PySem.F.type_str_index mt_sindex (pe_glob (v := .str figS) (by rfl) gF ⟨_, rfl⟩) (pa_cons (pv 1) pa_nil))))))
      (pss_one (ps_ret (pv 2))))) (by
        rintro D σ H ⟨x, n, y1, rfl, ex, xd, q⟩
        refine ⟨_, rfl, x, rfl, for_it walk_str (fun i σ H' => (∃ y1, σ = [some (.str x), y1, some (.int (valL (x.cps.toList.take i)))]) ∧ Same H H') ⟨⟨_, rfl⟩, Same.refl H⟩ (fun _ _ _ _ _ => trivial) ?_ ?_⟩
        · rintro i v σ H4 H5 i1 ⟨⟨y1, rfl⟩, s4⟩ ⟨rfl, c, hc, rfl⟩
          have hc' : x.cps.toList[i]? = some c := by simpa using hc
          have dc := xd c (List.mem_of_getElem? hc')
          refine ⟨_, rfl, _, 10, rfl, rfl, .inr ⟨by decide, by decide⟩, rfl, _, rfl, figS, ⟨#[c]⟩, c - 48, [], rfl, rfl, (fig_of dc.1 dc.2).2, _, _, rfl, rfl, ⟨some (.str ⟨#[c]⟩), ?_⟩, s4⟩
          rw [val_more hc']
          show [some (V.str x), some (V.str ⟨#[c]⟩), some (V.int (valL (x.cps.toList.take i) * 10 + ((c - 48 : Nat) : Int)))] = _
          rw [show ((c - 48 : Nat) : Int) = (c : Int) - 48 by omega]
        · rintro σ H4 ⟨⟨y1, rfl⟩, s4⟩
          have e : x.cps.toList.take x.cps.size = x.cps.toList := List.take_of_length_le (by simp)
          refine ⟨_, rfl, ?_⟩
          rw [e, show x.cps.toList = TL.numL n from ex, val_num]
          exact q H4 s4))), ?_⟩
    have xd : ∀ c ∈ x.cps.toList, 48 ≤ c ∧ c ≤ 57 := fun c hc => num_dig (n := n) (by rw [← ex]; exact hc)
    have xl : x.cps.toList.length ≤ 100 := by
      rw [show x.cps.toList = TL.numL n from ex]
      exact ln
    have xn : x.length ≤ 100 := by
      rw [TL.len_tl]
      exact xl
    obtain ⟨c0, l0, e0, z0⟩ := num_head n
    have x0 : x.cps.toList = c0 :: l0 := Eq.trans ex e0
    have nx : ∀ y : Str, TL.tl y ≠ TL.numL n → decide (V.str x = V.str y) = false := fun y hy => decide_eq_false (fun e => hy (by cases e; exact ex))
    refine ⟨_, rfl, rfl, _, rfl, ?_⟩
    rw [nx "" (by rw [e0]; intro e; cases e)]
    refine iteF ⟨_, rfl, x, rfl, fun L nL => lc_it walk_str (fun i H' => H' L = some (.lst (((x.cps.toList.take i).map figB).map V.bl)) ∧ Same H H') ⟨upd_same, same_new nL⟩ (fun _ _ _ _ => trivial) ?_ ?_⟩
    · rintro i v H1 H' hx ⟨hL, sm⟩ ⟨rfl, c, hc, rfl⟩
      refine ⟨rfl, tyes (iteT ⟨_, rfl, c, figS, rfl, rfl, ?_⟩)⟩
      have hc' : x.cps.toList[i]? = some c := by simpa using hc
      refine ⟨_, hL, ?_, ?_, ?_⟩
      · rw [List.length_map, List.length_map, List.length_take]
        exact small1000 (by have := lt_get hc'; omega)
      · rw [upd_same, take_more hc', List.map_append, List.map_append]
        rfl
      · exact ((Bt.of_same (S := []) sm).upd0 nL).same
    · rintro H1 ⟨hL, s1⟩
      have e : x.cps.toList.take x.cps.size = x.cps.toList := List.take_of_length_le (by simp)
      rw [e] at hL
      have al : (x.cps.toList.map figB).all id = true := by
        rw [List.all_map]
        exact List.all_eq_true.mpr fun c hc => (fig_of (xd c hc).1 (xd c hc).2).1
      refine ⟨L, _, rfl, sqL hL, true, congrArg V.bl al, iteF ?_⟩
      refine ⟨_, rfl, x, 0, c0, rfl, rfl, small_len (by omega), by rw [x0]; exact atI_nat (j := 0) rfl, rfl, _, rfl, ?_⟩
      have rest : ∀ D : Ends, D.rt = Q → tNumT D [some (.str x), none, none] H1 := fun D e => ⟨x, n, none, rfl, ex, xd, fun H' s => by rw [e]; exact q H' (s1.trans s)⟩
      by_cases c4 : c0 = 48
      · have n0 := z0 c4
        have xz : x = "0" := TL.ext_tl (by rw [ex, n0]; decide)
        rw [show decide (V.str (⟨#[c0]⟩ : Str) = V.str "0") = true by rw [c4]; decide]
        refine iteT ⟨_, rfl, rfl, _, rfl, ?_⟩
        rw [show (!decide (V.str x = V.str "0")) = false by rw [xz]; decide]
        exact iteF (rest _ rfl)
      · rw [show decide (V.str (⟨#[c0]⟩ : Str) = V.str "0") = false from decide_eq_false (fun e => c4 (by
          have : (⟨#[c0]⟩ : Str) = "0" := by injection e
          have := congrArg TL.tl this
          have : [c0] = [48] := this
          injection this))]
        exact iteF (iteF (rest _ rfl))
/-! ### a day -/
theorem tl_day (d : Int) : TL.tl (Str.ofString (toString d)) = if d < 0 then 45 :: TL.numL d.natAbs else TL.numL d.natAbs := by
  cases d with
  | ofNat n =>
    rw [if_neg (show ¬ Int.ofNat n < 0 from Int.not_lt.mpr (Int.natCast_nonneg n))]
    exact TL.tl_num n
  | negSucc m =>
    rw [if_pos (Int.negSucc_lt_zero m)]
    have e : toString (Int.negSucc m) = "-" ++ toString ((m + 1 : Nat) : Int) := rfl
    show (Str.ofString (toString (Int.negSucc m))).cps.toList = 45 :: TL.numL (m + 1)
    rw [e, signs_ofString, String.toList_append, List.map_append, ← signs_ofString (toString ((m + 1 : Nat) : Int))]
    have := TL.tl_num (m + 1)
    have t : (Str.ofString (toString ((m + 1 : Nat) : Int))).cps.toList = TL.numL (m + 1) := this
    rw [t]
    rfl
theorem num_len {n : Nat} (h : n < 10000) : (TL.numL n).length ≤ 100 := Nat.le_trans (TL.numL_len (k := 4) (by decide) h) (by decide)
end
end WdQ

set_option Elab.async false
set_option linter.all false
set_option maxRecDepth 100000
set_option maxHeartbeats 4000000
set_option exponentiation.threshold 5000
namespace WdQ
open PySem PySem.Spec PyProof.Rows L2 WdM Wd
/-! ### the words of a house's lines -/
def personW (r : Str × Option Str) : List Str := match r.2 with
  | none => ["person", r.1]
  | some y => ["person", r.1, "of", y]
def thingW (r : Gd) : List Str := ["thing", r.1, r.2.1, intT r.2.2]
theorem tl_int {n : Int} (h : 0 ≤ n) : TL.tl (intT n) = TL.numL n.toNat := by
  unfold intT
  rw [tl_day, if_neg (by omega)]
  congr 1
  omega
theorem hx_app (x y : Str) : TL.tl (x ++ y) = TL.tl x ++ TL.tl y := TL.tl_append x y
theorem tl_empty : TL.tl Str.empty = [] := rfl
theorem tl_person : TL.tl ("person " : Str) = TL.tl ("person" : Str) ++ [32] := by decide +kernel
theorem tl_thing : TL.tl ("thing " : Str) = TL.tl ("thing" : Str) ++ [32] := by decide +kernel
theorem tl_purse : TL.tl ("purse " : Str) = TL.tl ("purse" : Str) ++ [32] := by decide +kernel
theorem tl_debts : TL.tl ("debts " : Str) = TL.tl ("debts" : Str) ++ [32] := by decide +kernel
theorem tl_of : TL.tl (" of " : Str) = [32] ++ TL.tl ("of" : Str) ++ [32] := by decide +kernel
theorem tl_sp : TL.tl (" " : Str) = [32] := by decide +kernel
theorem person_join (r : Str × Option Str) : personT r = Txt.join " " (personW r) := by
  refine TL.ext_tl ?_
  rw [TL.join_eq, TL.tl_join]
  obtain ⟨z, o⟩ := r
  cases o with
  | none =>
    show TL.tl ((Str.empty ++ "person ") ++ z) = _
    simp only [hx_app, tl_empty, tl_person, personW, List.map_cons, List.map_nil, TL.joinL, tl_sp, List.nil_append, List.append_assoc]
  | some y =>
    show TL.tl ((((Str.empty ++ "person ") ++ z) ++ " of ") ++ y) = _
    simp only [hx_app, tl_empty, tl_person, tl_of, personW, List.map_cons, List.map_nil, TL.joinL, tl_sp, List.nil_append, List.append_assoc]
theorem thing_join (r : Gd) : thingT r = Txt.join " " (thingW r) := by
  refine TL.ext_tl ?_
  rw [TL.join_eq, TL.tl_join]
  unfold thingT thingW
  simp only [hx_app, tl_empty, tl_thing, List.map_cons, List.map_nil, TL.joinL, tl_sp, List.nil_append, List.append_assoc]
theorem purse_join (p : Int) : purseT p = Txt.join " " ["purse", intT p] := by
  refine TL.ext_tl ?_
  rw [TL.join_eq, TL.tl_join]
  unfold purseT
  simp only [hx_app, tl_empty, tl_purse, List.map_cons, List.map_nil, TL.joinL, tl_sp, List.nil_append, List.append_assoc]
theorem debts_join (p : Int) : debtsT p = Txt.join " " ["debts", intT p] := by
  refine TL.ext_tl ?_
  rw [TL.join_eq, TL.tl_join]
  unfold debtsT
  simp only [hx_app, tl_empty, tl_debts, List.map_cons, List.map_nil, TL.joinL, tl_sp, List.nil_append, List.append_assoc]
/-! ### no blank, no line end within a word -/
theorem hx_let {c : Nat} (h : letB c = false) {z : Str} (o : okL z) : c ∉ TL.tl z := fun hc => by
  have := o c hc
  rw [h] at this
  cases this
theorem hx_int {c : Nat} {n : Int} (h : 0 ≤ n) (hc : c < 48) : c ∉ TL.tl (intT n) := fun m => by
  rw [tl_int h] at m
  have := num_dig m
  omega
structure Fre (x : Str) : Prop where
  b : 32 ∉ TL.tl x
  l : 10 ∉ TL.tl x
theorem fre_nm {z : Str} (h : Nm z) : Fre z := ⟨hx_let (by decide) (hl_okL h), hx_let (by decide) (hl_okL h)⟩
theorem fre_int {n : Int} (h : 0 ≤ n) : Fre (intT n) := ⟨hx_int h (by decide), hx_int h (by decide)⟩
theorem fre_person : Fre "person" := ⟨by decide +kernel, by decide +kernel⟩
theorem fre_thing : Fre "thing" := ⟨by decide +kernel, by decide +kernel⟩
theorem fre_purse : Fre "purse" := ⟨by decide +kernel, by decide +kernel⟩
theorem fre_debts : Fre "debts" := ⟨by decide +kernel, by decide +kernel⟩
theorem fre_of : Fre "of" := ⟨by decide +kernel, by decide +kernel⟩
theorem split_ws {ws : List Str} (ne : ws ≠ []) (h : ∀ x ∈ ws, Fre x) : Txt.split (Txt.join " " ws) " " = ws :=
  TL.split_join (s := 32) (S := []) (by decide) (by decide +kernel) ne fun p hp => (h p hp).b
theorem mem_join {S : List Nat} {c : Nat} (hS : c ∉ S) : ∀ {ps : List (List Nat)}, (∀ p ∈ ps, c ∉ p) → c ∉ TL.joinL S ps
  | [], _ => fun h => nomatch h
  | [p], h => h p (by simp)
  | p :: q :: r, h => fun m => by
    have m : c ∈ p ++ (S ++ TL.joinL S (q :: r)) := m
    rcases List.mem_append.mp m with m | m
    · exact h p (by simp) m
    · rcases List.mem_append.mp m with m | m
      · exact hS m
      · exact mem_join hS (ps := q :: r) (fun p hp => h p (List.mem_cons_of_mem _ hp)) m
theorem line_free {ws : List Str} (h : ∀ x ∈ ws, Fre x) : 10 ∉ TL.tl (Txt.join " " ws) := by
  rw [TL.join_eq, TL.tl_join]
  refine mem_join (by decide +kernel) fun p hp => ?_
  obtain ⟨x, hx, rfl⟩ := List.mem_map.mp hp
  exact (h x hx).l
theorem person_fre {r : Str × Option Str} (h : Nm r.1) (hp : ∀ y, r.2 = some y → Nm y) : ∀ x ∈ personW r, Fre x := by
  obtain ⟨z, o⟩ := r
  intro x hx
  cases o with
  | none =>
    rcases List.mem_cons.mp hx with rfl | hx
    · exact fre_person
    rcases List.mem_cons.mp hx with rfl | hx
    · exact fre_nm h
    cases hx
  | some y =>
    rcases List.mem_cons.mp hx with rfl | hx
    · exact fre_person
    rcases List.mem_cons.mp hx with rfl | hx
    · exact fre_nm h
    rcases List.mem_cons.mp hx with rfl | hx
    · exact fre_of
    rcases List.mem_cons.mp hx with rfl | hx
    · exact fre_nm (hp x rfl)
    cases hx
theorem thing_fre {r : Gd} (h1 : Nm r.1) (h2 : Nm r.2.1) (h0 : 0 ≤ r.2.2) : ∀ x ∈ thingW r, Fre x := by
  intro x hx
  rcases List.mem_cons.mp hx with rfl | hx
  · exact fre_thing
  rcases List.mem_cons.mp hx with rfl | hx
  · exact fre_nm h1
  rcases List.mem_cons.mp hx with rfl | hx
  · exact fre_nm h2
  rcases List.mem_cons.mp hx with rfl | hx
  · exact fre_int h0
  cases hx
theorem two_fre {a b : Str} (ha : Fre a) (hb : Fre b) : ∀ x ∈ [a, b], Fre x := by
  intro x hx
  rcases List.mem_cons.mp hx with rfl | hx
  · exact ha
  rcases List.mem_cons.mp hx with rfl | hx
  · exact hb
  cases hx
theorem person_split {r : Str × Option Str} (h : Nm r.1) (hp : ∀ y, r.2 = some y → Nm y) : Txt.split (personT r) " " = personW r := by
  rw [person_join]
  exact split_ws (by unfold personW; split <;> simp) (person_fre h hp)
theorem thing_split {r : Gd} (h1 : Nm r.1) (h2 : Nm r.2.1) (h0 : 0 ≤ r.2.2) : Txt.split (thingT r) " " = thingW r := by
  rw [thing_join]
  exact split_ws (by simp [thingW]) (thing_fre h1 h2 h0)
theorem purse_split {p : Int} (h0 : 0 ≤ p) : Txt.split (purseT p) " " = (["purse", intT p] : List Str) ∧ Txt.split (debtsT p) " " = (["debts", intT p] : List Str) := by
  rw [purse_join, debts_join]
  exact ⟨split_ws (by simp) (two_fre fre_purse (fre_int h0)), split_ws (by simp) (two_fre fre_debts (fre_int h0))⟩
theorem house_split {F : List (Str × Option Str)} {G : List Gd} {p d : Int} (gf : GoodF F) (gg : GoodG G) (pu : Pu p d) : Txt.split (houseT F G p d) "\n" = linesT F G p d := by
  unfold houseT
  refine TL.split_join (s := 10) (S := []) (by decide) (by decide +kernel) (by simp [linesT]) fun y hy => ?_
  unfold linesT at hy
  rcases List.mem_cons.mp hy with rfl | hy
  · rw [purse_join]
    exact line_free (two_fre fre_purse (fre_int pu.p0))
  rcases List.mem_cons.mp hy with rfl | hy
  · rw [debts_join]
    exact line_free (two_fre fre_debts (fre_int pu.d0))
  rcases List.mem_append.mp hy with hy | hy
  · obtain ⟨r, hr, rfl⟩ := List.mem_map.mp hy
    rw [person_join]
    exact line_free (person_fre (gf.nm r hr) (f_par gf hr))
  · obtain ⟨r, hr, rfl⟩ := List.mem_map.mp hy
    rw [thing_join]
    exact line_free (thing_fre (gg.nm r hr).1 (gg.nm r hr).2 (gg.sm r hr).1)
end WdQ

set_option Elab.async false
set_option linter.all false
set_option maxRecDepth 100000
set_option maxHeartbeats 4000000
namespace Wd
open PySem PySem.Spec PyProof.Rows L2
/-! ### enumerate(xs, start=m) of a list or tuple -/
section
variable {M : Model} {A : Around} {E : Value → Shared → Prop} {s : Shared} {env : Env}
theorem callWith_typeK {pos : Pos} {T : String} {e : Expr} {rest : List Expr} {kws : List Keyword} {Q : Value → Shared → Prop}
    (h : wpAny M A (spliced (backTo pos (starEach (e :: rest) env))) (fun vs s₁ => wpAny M A (evalAll ((backToKw pos (keywordEach kws env)).map (·.2)))
      (fun kvs s₂ => wpAny M A (call (.type T) vs (((backToKw pos (keywordEach kws env)).filterMap (·.1)).zip kvs)) Q E s₂) E s₁) E s)
    (he : backTo pos (starEach (e :: rest) env) = (false, eval e env) :: backTo pos (starEach rest env) := by rfl)
    (hplain : (backTo pos (starEach (e :: rest) env)).any (·.1) = false := by rfl)
    (hall : (backToKw pos (keywordEach kws env)).all (·.1.isSome) = true := by rfl)
    (hkw : (backToKw pos (keywordEach kws env)).any (·.1.isNone) = false := by rfl) :
    wpAny M A (callWith pos (.type T) [] (backTo pos (starEach (e :: rest) env)) (backToKw pos (keywordEach kws env))) Q E s := by
  unfold callWith
  have h' : wpAny M A (evalArgs (.type T) true (backTo pos (starEach (e :: rest) env)) (backToKw pos (keywordEach kws env))) (fun a s₁ => wpAny M A (call (.type T) ([] ++ a.pos) a.kw) Q E s₁) E s := by
    rw [he] at h ⊢
    exact evalArgs_kwB hall h
  refine wpAny_bind (wpAny_holding (wpAny_mono h' (fun a s₁ h₁ => wpAny_bind (wpAny_standAt ?_)) fun _ _ x => x))
  simp only [hplain, hkw, Bool.or_false]
  refine wpAny_bind (wpAny_pure ?_)
  exact wpAny_bind (wpAny_mono h₁ (fun r s₂ hr => wpAny_bind (wpAny_holding (wpAny_point (wpAny_pure hr)))) fun _ _ x => x)
end
def ItEs (K : PySem.W.Frag) (k : Feed) (m : Int) (a : Addr) : It where
  go i H := ∃ xs x, k.sq K H a xs ∧ xs[i]? = some x
  yld i H v H' := ∃ T x, v = .ref T ∧ H T = none ∧ H' = upd H T (.tup [.int (m + (i : Nat)), x]) ∧ ∀ xs, k.sq K H a xs → xs[i]? = some x
  stop i H := ∃ xs, k.sq K H a xs ∧ xs.length = i
theorem walkEs {K : PySem.W.Frag} {k : Feed} {m : Int} {a : Addr} {xs : List V} : Walk (ItEs K k m a) xs.length (fun H => k.sq K H a xs) (YPair (fun i => some (.int (m + (i : Nat)))) fun i => xs[i]?) where
  goes := fun i H hi g => ⟨xs, xs[i], g, List.getElem?_eq_getElem hi⟩
  stops := fun H g => ⟨xs, g, rfl⟩
  yields := fun i H v H' _ g ⟨T, x, e1, e2, e3, e4⟩ => ⟨T, .int (m + (i : Nat)), x, e1, e2, e3, rfl, e4 xs g⟩
theorem turnEs {P : Program} {w : World} {K : PySem.W.Frag} {elts : List Expr} {kk : Nat} {tpos : Pos} {k : Feed} {m : Int} {a e it : Addr} (na : a ≠ it) (ea : e ≠ a) (ei : e ≠ it) :
    Turn P w K (.Tuple elts kk tpos) (ItEs K k m a) [e, it] e fun i h => (∃ old, IsEnum h e it (m + ((i : Nat) : Int)) old) ∧ k.at_ h it a i where
  mem := List.mem_cons_self
  obj := by
    rintro i h ⟨⟨old, ge⟩, gi⟩ c hc
    rcases List.mem_cons.mp hc with rfl | hc
    · exact ⟨_, ge, fun _ z => nomatch z⟩
    · rw [List.mem_singleton.mp hc]
      exact k.lives gi
  keep := by
    rintro i h h' ⟨⟨old, ge⟩, gi⟩ same
    exact ⟨⟨old, same _ (by simp) _ ge⟩, k.moved gi (same _ (by simp))⟩
  item := by
    rintro X rfl rfl rfl calm i pins s σ H E I free ⟨⟨old, ge⟩, gi⟩ ⟨xs, x, hxs, hx⟩
    obtain ⟨us, rel, st, _⟩ := k.known I hxs
    obtain ⟨u, hu, ru⟩ := rel.get hx
    have hA : X.A.in1.handled = none := I.ok.hd calm
    have el := Heap.lt_size ge
    have n1 : i < us.toArray.size := by
      rw [List.size_toArray]
      exact (List.getElem?_eq_some_iff.mp hu).1
    refine wpAny_pyNext_enum_itemC (k.draws hA na _) ge ⟨gi, st⟩ n1 ei (by simp [ei, ea]) ?_
    rintro u' h1 t1 eu out ⟨d1, _⟩ gT _ same
    obtain rfl : u = u' := Option.some.inj (hu.symm.trans (by simpa using eu))
    refine ⟨_, rfl, wpAny_letOwnedTupleGo_enum (s := { s with heap := h1, toks := t1 + 1 }) out fun h2 ge2 sb => ?_⟩
    have all : ∀ c o, c ∉ [e, it] → s.heap.get? c = some o → h2.get? c = some o := fun c o hc g => by
      simp only [List.mem_cons, List.not_mem_nil, or_false, not_or] at hc
      exact (sb.2 c hc.1).trans (same c o hc.1 hc.2 g)
    have pair : h2.get? s.heap.objs.size = some { cls := .type "tuple", data := .seq #[.int (m + (i : Nat)) t1, u] } := (sb.2 _ (Nat.ne_of_gt el)).trans gT
    have made : ObjOk X.prog X.w (upd H s.heap.objs.size (.tup [.int (m + (i : Nat)), x])) h2 s.heap.objs.size (.tup [.int (m + (i : Nat)), x]) := ⟨by show 2 ≤ sizeLine; decide, [.int (m + (i : Nat)) t1, u], .cons ⟨_, rfl⟩ (.cons ru .nil), _, pair, rfl, _, rfl⟩
    refine ⟨.ref s.heap.objs.size, _, I.turnedNew (t' := t1 + 1) all free (Nat.le_refl _) made, rfl, ?_, ?_, ?_⟩
    · exact ⟨_, x, rfl, I.hok.fresh (Nat.le_refl _), rfl, fun l g => k.one I g hxs ▸ hx⟩
    · refine ⟨⟨u, ?_⟩, k.moved d1 fun o g => (sb.2 _ ei.symm).trans g⟩
      rw [show m + ((i + 1 : Nat) : Int) = m + (i : Int) + 1 by omega]
      exact ge2
    · intro c hc
      have old : c < s.heap.objs.size := by
        rcases List.mem_cons.mp hc with rfl | hc
        · exact el
        · rw [List.mem_singleton.mp hc]
          obtain ⟨o1, e1, _⟩ := k.lives gi
          exact Heap.lt_size e1
      rw [upd_ne (Nat.ne_of_lt old)]
      exact (free c hc).1
  done := by
    rintro X rfl rfl rfl calm i pins s σ H E I free ⟨⟨old, ge⟩, gi⟩ ⟨xs, hxs, n⟩
    obtain ⟨us, rel, st, _⟩ := k.known I hxs
    have hA : X.A.in1.handled = none := I.ok.hd calm
    have z : us.toArray.size = i := by rw [List.size_toArray, ← rel.length, n]
    refine wpAny_pyNext_enum_endD (k.draws hA na us.toArray) ge ⟨z ▸ gi, st⟩ fun h1 same => ⟨rfl, I.turnedL (t' := s.toks) (fun c o hc g => ?_) free⟩
    simp only [List.mem_cons, List.not_mem_nil, or_false, not_or] at hc
    exact same c o hc.2 g
  self := fun _ _ _ _ _ g q => g.1.elim fun _ ge => wpAny_pyIter_enum ge q
def iEs (K : PySem.W.Frag) (k : Feed) (ta tk : TA) : TI := fun σ H R => ta σ H fun vs H1 => tk σ H1 fun zs H2 => ∃ a xs m, vs = [.ref a] ∧ zs = [.int m] ∧ 0 ≤ m ∧ m < 2 ^ 40 ∧ k.sq K H2 a xs ∧ R (ItEs K k m a) H2
theorem pi_Es {X : Cx} {e : Expr} {ta tk : TA} {p pos tpos kpos : Pos} {elts : List Expr} {kk : Nat} {ek : Expr} (k : Feed) (hg : Gl X "enumerate") (hm : X.mg "enumerate" = none) (ha : PA X [e] ta) (hk : PK X [⟨some "start", ek, kpos⟩] tk)
    (star : backTo pos (starEach [e] X.env) = (false, eval e X.env) :: backTo pos (starEach [] X.env) := by rfl) (plain : (backTo pos (starEach [e] X.env)).any (·.1) = false := by rfl) :
    PI X (.Tuple elts kk tpos) (.Call (.Name "enumerate" p) [e] [⟨some "start", ek, kpos⟩] pos) (iEs X.K k ta tk) where
  run := by
    intro pins s σ H R I h
    refine wpAny_Call_Name_kw (ld_blt I hg hm boot_enumerate (callWith_typeK (thn (ha.run pos pins s σ H _ I h) ?_) star plain))
    rintro us s1 ⟨vs, H1, I1, rel, h1⟩
    refine thn (hk.run pos pins s1 σ H1 _ I1 h1) ?_
    rintro ws s2 ⟨zs, H2, I2, rel2, a, xs, m, rfl, rfl, m0, m1, hxs, r⟩
    rw [Vals.ref1 rel]
    obtain ⟨u2, eu2, r2⟩ := vals1 rel2
    subst eu2
    obtain ⟨t2, rfl⟩ := r2
    obtain ⟨its, _, st, la⟩ := k.known I2 hxs
    show wpAny _ _ (call (.type "enumerate") [.ref a] [(Str.ofString "start", .int m t2)]) _ _ _
    refine enum_begins_start (k.begins a its.toArray) st (by omega) (by omega) fun h1 ge gi _ same => wpAny_pyIter_enum ge ?_
    have I3 : Inv X pins σ H2 { s2 with heap := h1 } := I2.kept (t' := s2.toks) same
    have na : a ≠ s2.heap.objs.size := Nat.ne_of_lt la
    have ea : s2.heap.objs.size + 1 ≠ a := fun z => absurd la (by rw [← z]; exact Nat.not_lt.mpr (Nat.le_succ _))
    refine ⟨s2.heap.objs.size + 1, [s2.heap.objs.size + 1, s2.heap.objs.size], _, _, H2, rfl, I3, turnEs (m := m) na ea (Nat.succ_ne_self _), ⟨⟨.none, by simpa using ge⟩, k.first gi⟩, fun b hb => ?_, r⟩
    have le : s2.heap.objs.size ≤ b := by
      rcases List.mem_cons.mp hb with rfl | hb
      · exact Nat.le_succ _
      · exact Nat.le_of_eq (List.mem_singleton.mp hb).symm
    exact I2.fpOk le (I2.hok.fresh le)
end Wd

set_option Elab.async false
set_option linter.all false
set_option maxRecDepth 100000
set_option maxHeartbeats 4000000
set_option exponentiation.threshold 5000
namespace WdQ
open PySem PySem.Spec PyProof.Rows L2 WdM Wd
/-! ### a house read -/
abbrev sRAm : Stmt := topS 34
abbrev sRPe : Stmt := topS 35
abbrev sRTh : Stmt := topS 36
abbrev sRPp : Stmt := topS 37
abbrev sRGo : Stmt := topS 38
abbrev sRHo : Stmt := topS 39
def nRAm : List Str := ["rows", "line", "word", "words", "amount"]
theorem scRAm : FnScope nRAm ["rows", "line", "word"] (defScope sRAm) := ⟨rfl, rfl, rfl, by decide +kernel, rfl, by decide +kernel, by decide +kernel⟩
theorem scRPe : FnScope ["words"] ["words"] (defScope sRPe) := ⟨rfl, rfl, rfl, by decide +kernel, rfl, by decide +kernel, by decide +kernel⟩
theorem scRTh : FnScope ["words"] ["words"] (defScope sRTh) := ⟨rfl, rfl, rfl, by decide +kernel, rfl, by decide +kernel, by decide +kernel⟩
def nRPp : List Str := ["rows", "people", "line", "row", "words", "person", "each"]
theorem scRPp : FnScope nRPp ["rows"] (defScope sRPp) := ⟨rfl, rfl, rfl, by decide +kernel, rfl, by decide +kernel, by decide +kernel⟩
def nRGo : List Str := ["rows", "first", "goods", "line", "row", "thing", "each"]
theorem scRGo : FnScope nRGo ["rows", "first"] (defScope sRGo) := ⟨rfl, rfl, rfl, by decide +kernel, rfl, by decide +kernel, by decide +kernel⟩
theorem scRHo : FnScope ["text", "rows", "purse", "debts", "people", "goods"] ["text"] (defScope sRHo) := ⟨rfl, rfl, rfl, by decide +kernel, rfl, by decide +kernel, by decide +kernel⟩
theorem num_len9 {n : Int} (h0 : 0 ≤ n) (h1 : n ≤ 1000000000) : (TL.numL n.toNat).length ≤ 100 := Nat.le_trans (TL.numL_len (k := 10) (by decide) (show n.toNat < 10 ^ 10 by omega)) (by decide)
section
variable {P : Program} {w : World} {K : PySem.W.Frag} {mg : Str → Option Value} {base : Heap} {CH : Addr}
def spRAm (K : PySem.W.Frag) : Sp := fun vs H Q _ => ∃ (aR : Addr) (ls : List Str) (i : Nat) (x wd : Str) (n : Int), vs = [.ref aR, .int (i : Nat), .str wd] ∧ H aR = some (.lst (ls.map V.str)) ∧ ls[i]? = some x ∧ Txt.split x " " = [wd, intT n] ∧ x.length ≤ 100 ∧ 0 ≤ n ∧ n ≤ 1000000000 ∧ ∀ H', Same H H' → Q (.int n) H'
theorem ok_ram {f fN fS : Addr} {fd fdN fdS : FuncData} {k : Nat} (B : Bi mg) (D : Df K mg "read_amount" sRAm f fd ["rows", "line", "word"]) (DN : Df K mg "read_number" sRNum fN fdN ["word"]) (GN : FnOk P w K mg base CX0 (k + 2) fN fdN ["word"] spRNum) (DS : Df K mg "is_sum" sSum fS fdS ["thing"]) (GS : FnOk P w K mg base CX0 (k + 2) fS fdS ["thing"] spSumG) : FnOk P w K mg base CX0 (k + 3) f fd ["rows", "line", "word"] (spRAm K) := by
  refine D.fn.ok scRAm (fun vs H Q E h => ?_) (fun cdv A outer s H vs Q E hr h => ?_)
  · obtain ⟨aR, ls, i, x, wd, n, rfl, _⟩ := h
    rfl
  · obtain ⟨aR, ls, i, x, wd, n, rfl, hR, hi, sp, xl, n0, n1, q⟩ := h
    refine ⟨_, pss_cons (ps_set (i := 3) scRAm.nd rfl (.inl rfl) (pe_ifExp (pt_cmpR op_lt (pv 1) (pe_callB call_len_seq (by rfl) B.len PySem.boot_len (pa_cons (pv 0) pa_nil)) (nomark _)) (pe_split (pe_ix (r := rIxL K) ix_list (pv 0) (pv 1) (fun _ _ => rfl)) pe_str) (pe_lst pa_nil)))
      (pss_cons (ps_if (PW.pt (pw_or (pt_cmpR op_ne (pe_callB call_len_seq (by rfl) B.len PySem.boot_len (pa_cons (pv 3) pa_nil)) pe_int (nomark _)) (pw_or1 (pt_cmpR op_ne (pe_ix (r := rIxL K) ix_list (pv 3) pe_int (fun _ _ => rfl)) (pv 2) (nomark _))))) pss_noS pss_nil)
      (pss_cons (ps_set (i := 4) scRAm.nd rfl (.inl rfl) (pe_call GN hr (by rfl) DN.mg DN.fn.kp DN.bd .nil pass0 (pa_cons (pe_ix (r := rIxL K) ix_list (pv 3) pe_int (fun _ _ => rfl)) pa_nil)))
      (pss_cons (ps_if (pt_not (pt_val (pe_call GS hr (by rfl) DS.mg DS.fn.kp DS.bd .nil pass0 (pa_cons (pv 4) pa_nil)))) pss_noS pss_nil)
      (pss_one (ps_ret (pv 4)))))), ?_⟩
    have il := lt_get hi
    refine ⟨_, rfl, _, rfl, aR, _, rfl, .inl (sqL hR), _, _, rfl, rfl, _, rfl, ?_⟩
    rw [List.length_map, decide_eq_true (show ((i : Nat) : Int) < ((ls.length : Nat) : Int) by omega)]
    refine iteT ⟨_, rfl, _, rfl, aR, _, _, _, rfl, rfl, sqL hR, atI_nat (v := V.str x) (by rw [List.getElem?_map, hi]; rfl), ⟨_, rfl⟩, x, " ", rfl, rfl, rfl, small_len (by omega), ?_⟩
    rw [sp]
    intro p np
    have s1 : Same H (upd H p (.lst (([wd, intT n] : List Str).map V.str))) := same_new np
    have h1 : (upd H p (.lst (([wd, intT n] : List Str).map V.str))) p = some (.lst [.str wd, .str (intT n)]) := upd_same
    revert s1 h1
    generalize upd H p (.lst (([wd, intT n] : List Str).map V.str)) = H1
    intro s1 h1
    refine ⟨_, rfl, p, _, rfl, .inl (sqL h1), rfl, _, rfl, iteF ⟨_, rfl, p, _, 0, _, rfl, rfl, sqL h1, atI_nat (j := 0) rfl, _, rfl, rfl, _, rfl, ?_⟩⟩
    rw [show (!decide (V.str wd = V.str wd)) = false by simp]
    refine iteF ⟨_, rfl, p, _, 1, _, rfl, rfl, sqL h1, atI_nat (j := 1) rfl, intT n, n.toNat, rfl, tl_int n0, num_len9 n0 n1, fun H2 s2 => ?_⟩
    rw [show ((n.toNat : Nat) : Int) = n by omega]
    exact ⟨_, rfl, n, rfl, n0, n1, true, rfl, iteF ⟨_, rfl, q H2 (s1.trans s2)⟩⟩
def spRPe (K : PySem.W.Frag) : Sp := fun vs H Q _ => ∃ (aW : Addr) (r : Str × Option Str), vs = [.ref aW] ∧ H aW = some (.lst ((personW r).map V.str)) ∧ ∀ H' t, Same H H' → SqT K H' t [.str r.1, parV r.2] → Q (.ref t) H'
theorem ok_rpe {f : Addr} {fd : FuncData} {k : Nat} (B : Bi mg) (D : Df K mg "read_person" sRPe f fd ["words"]) : FnOk P w K mg base CX0 (k + 1) f fd ["words"] (spRPe K) := by
  refine D.fn.ok scRPe (fun vs H Q E h => ?_) (fun cdv A outer s H vs Q E hr h => ?_)
  · obtain ⟨aW, r, rfl, _⟩ := h
    rfl
  · obtain ⟨aW, ⟨z, o⟩, rfl, hW, q⟩ := h
    refine ⟨_, pss_cons (ps_if (pt_cmpR op_ne (pe_ix (r := rIxL K) ix_list (pv 0) pe_int (fun _ _ => rfl)) pe_str (nomark _)) pss_noS pss_nil)
      (pss_cons (ps_if (pt_cmpR op_eq (pe_callB call_len_seq (by rfl) B.len PySem.boot_len (pa_cons (pv 0) pa_nil)) pe_int (nomark _)) (pss_one (ps_ret (pe_tup (pa_cons (pe_ix (r := rIxL K) ix_list (pv 0) pe_int (fun _ _ => rfl)) (pa_cons pe_non pa_nil))))) pss_nil)
      (pss_one (ps_ret (pe_ifExp (PW.pt (pw_and (pt_cmpR op_eq (pe_callB call_len_seq (by rfl) B.len PySem.boot_len (pa_cons (pv 0) pa_nil)) pe_int (nomark _)) (pw_and1 (pt_cmpR op_eq (pe_ix (r := rIxL K) ix_list (pv 0) pe_int (fun _ _ => rfl)) pe_str (nomark _))))) (pe_tup (pa_cons (pe_ix (r := rIxL K) ix_list (pv 0) pe_int (fun _ _ => rfl)) (pa_cons (pe_ix (r := rIxL K) ix_list (pv 0) pe_int (fun _ _ => rfl)) pa_nil))) pe_no)))), ?_⟩
    cases o with
    | none =>
      have hW : H aW = some (.lst [.str "person", .str z]) := hW
      exact ⟨_, rfl, aW, _, 0, _, rfl, rfl, sqL hW, atI_nat (j := 0) rfl, rfl, _, rfl, iteF ⟨_, rfl, aW, _, rfl, .inl (sqL hW), rfl, _, rfl, iteT ⟨_, rfl, aW, _, 1, _, rfl, rfl, sqL hW, atI_nat (j := 1) rfl, by show 2 ≤ sizeLine; decide, fun t nt => q _ t (same_new nt) (sqT upd_same)⟩⟩⟩
    | some y =>
      have hW : H aW = some (.lst [.str "person", .str z, .str "of", .str y]) := hW
      exact ⟨_, rfl, aW, _, 0, _, rfl, rfl, sqL hW, atI_nat (j := 0) rfl, rfl, _, rfl, iteF ⟨_, rfl, aW, _, rfl, .inl (sqL hW), rfl, _, rfl, iteF ⟨_, rfl, aW, _, rfl, .inl (sqL hW), rfl, _, rfl, iteT ⟨_, rfl, aW, _, 2, _, rfl, rfl, sqL hW, atI_nat (j := 2) rfl, rfl, _, rfl, iteT ⟨_, rfl, aW, _, 1, _, rfl, rfl, sqL hW, atI_nat (j := 1) rfl, _, rfl, aW, _, 3, _, rfl, rfl, sqL hW, atI_nat (j := 3) rfl, by show 2 ≤ sizeLine; decide, fun t nt => q _ t (same_new nt) (sqT upd_same)⟩⟩⟩⟩⟩
def spRTh (K : PySem.W.Frag) : Sp := fun vs H Q _ => ∃ (aW : Addr) (r : Gd), vs = [.ref aW] ∧ H aW = some (.lst ((thingW r).map V.str)) ∧ 0 ≤ r.2.2 ∧ r.2.2 ≤ 1000000000 ∧ ∀ H' t, Same H H' → SqT K H' t (rowG r) → Q (.ref t) H'
theorem ok_rth {f fN : Addr} {fd fdN : FuncData} {k : Nat} (B : Bi mg) (D : Df K mg "read_thing" sRTh f fd ["words"]) (DN : Df K mg "read_number" sRNum fN fdN ["word"]) (GN : FnOk P w K mg base CX0 (k + 1) fN fdN ["word"] spRNum) : FnOk P w K mg base CX0 (k + 2) f fd ["words"] (spRTh K) := by
  refine D.fn.ok scRTh (fun vs H Q E h => ?_) (fun cdv A outer s H vs Q E hr h => ?_)
  · obtain ⟨aW, r, rfl, _⟩ := h
    rfl
  · obtain ⟨aW, ⟨a, b, n⟩, rfl, hW, n0, n1, q⟩ := h
    refine ⟨_, pss_cons (ps_if (PW.pt (pw_or (pt_cmpR op_ne (pe_callB call_len_seq (by rfl) B.len PySem.boot_len (pa_cons (pv 0) pa_nil)) pe_int (nomark _)) (pw_or1 (pt_cmpR op_ne (pe_ix (r := rIxL K) ix_list (pv 0) pe_int (fun _ _ => rfl)) pe_str (nomark _))))) pss_noS pss_nil)
      (pss_one (ps_ret (pe_tup (pa_cons (pe_ix (r := rIxL K) ix_list (pv 0) pe_int (fun _ _ => rfl)) (pa_cons (pe_ix (r := rIxL K) ix_list (pv 0) pe_int (fun _ _ => rfl)) (pa_cons (pe_call GN hr (by rfl) DN.mg DN.fn.kp DN.bd .nil pass0 (pa_cons (pe_ix (r := rIxL K) ix_list (pv 0) pe_int (fun _ _ => rfl)) pa_nil)) pa_nil)))))), ?_⟩
    have hW : H aW = some (.lst [.str "thing", .str a, .str b, .str (intT n)]) := hW
    have n0 : 0 ≤ n := n0
    have n1 : n ≤ 1000000000 := n1
    refine ⟨_, rfl, aW, _, rfl, .inl (sqL hW), rfl, _, rfl, iteF ⟨_, rfl, aW, _, 0, _, rfl, rfl, sqL hW, atI_nat (j := 0) rfl, rfl, _, rfl, iteF ⟨_, rfl, aW, _, 1, _, rfl, rfl, sqL hW, atI_nat (j := 1) rfl, _, rfl, aW, _, 2, _, rfl, rfl, sqL hW, atI_nat (j := 2) rfl, _, rfl, aW, _, 3, _, rfl, rfl, sqL hW, atI_nat (j := 3) rfl, intT n, n.toNat, rfl, tl_int n0, num_len9 n0 n1, fun H2 s2 => ?_⟩⟩⟩
    rw [show ((n.toNat : Nat) : Int) = n by omega]
    exact ⟨by show 3 ≤ sizeLine; decide, fun t nt => q _ t (s2.trans (same_new nt)) (sqT upd_same)⟩
end
end WdQ

set_option Elab.async false
set_option linter.all false
set_option maxRecDepth 100000
set_option maxHeartbeats 4000000
namespace WdQ
open PySem PySem.Spec PyProof.Rows L2 WdM Wd
/-! ### two rows side by side -/
inductive A2 {α β : Type} (R : α → β → Prop) : List α → List β → Prop
  | nil : A2 R [] []
  | cons {a : α} {b : β} {as : List α} {bs : List β} : R a b → A2 R as bs → A2 R (a :: as) (b :: bs)
theorem A2.imp {α β : Type} {R R' : α → β → Prop} (f : ∀ a b, R a b → R' a b) : ∀ {as : List α} {bs : List β}, A2 R as bs → A2 R' as bs
  | _, _, .nil => .nil
  | _, _, .cons h t => .cons (f _ _ h) (t.imp f)
theorem A2.append {α β : Type} {R : α → β → Prop} : ∀ {as cs : List α} {bs ds : List β}, A2 R as bs → A2 R cs ds → A2 R (as ++ cs) (bs ++ ds)
  | _, _, _, _, .nil, h => h
  | _, _, _, _, .cons h t, h2 => .cons h (t.append h2)
theorem A2.len {α β : Type} {R : α → β → Prop} : ∀ {as : List α} {bs : List β}, A2 R as bs → as.length = bs.length
  | _, _, .nil => rfl
  | _, _, .cons _ t => by rw [List.length_cons, List.length_cons, t.len]
theorem A2.get {α β : Type} {R : α → β → Prop} : ∀ {as : List α} {bs : List β} {i : Nat} {a : α}, A2 R as bs → as[i]? = some a → ∃ b, bs[i]? = some b ∧ R a b
  | _, _, 0, _, .cons h _, e => by cases e; exact ⟨_, rfl, h⟩
  | _, _, i + 1, _, .cons _ t, e => t.get (i := i) e
theorem A2.snoc {α β : Type} {R : α → β → Prop} {as : List α} {bs : List β} {a : α} {b : β} (h : A2 R as bs) (r : R a b) : A2 R (as ++ [a]) (bs ++ [b]) := h.append (.cons r .nil)
theorem A2.cat {α β : Type} {R : α → β → Prop} : ∀ {as : List (List α)} {bs : List (List β)}, A2 (A2 R) as bs → A2 R as.flatten bs.flatten
  | _, _, .nil => .nil
  | _, _, .cons h t => by rw [List.flatten_cons, List.flatten_cons]; exact h.append t.cat
theorem A2.take {α β : Type} {R : α → β → Prop} : ∀ {as : List α} {bs : List β} (n : Nat), A2 R as bs → A2 R (as.take n) (bs.take n)
  | _, _, 0, _ => by rw [List.take_zero, List.take_zero]; exact .nil
  | _, _, _ + 1, .nil => .nil
  | _, _, n + 1, .cons h t => .cons h (t.take n)
theorem A2.of_map {α β : Type} {f : β → α} : ∀ {bs : List β}, A2 (fun a b => a = f b) (bs.map f) bs
  | [] => .nil
  | _ :: _ => .cons rfl A2.of_map
end WdQ

set_option Elab.async false
set_option linter.all false
set_option maxRecDepth 100000
set_option maxHeartbeats 4000000
namespace WdQ
open PySem PySem.Spec PyProof.Rows L2 WdM Wd
/-! ### tuples laid together, cut -/
section
variable {K : PySem.W.Frag}
theorem tcat {H : Hp} {a b : Addr} {xs ys : List V} {Q : VK} (ha : SqT K H a xs) (hb : SqT K H b ys) (hl : xs.length + ys.length ≤ 1000) (q : ∀ p H', Same H H' → SqT K H' p (xs ++ ys) → Q (.ref p) H') : rCatA K (.ref a) (.ref b) H Q :=
  ⟨a, b, xs, ys, rfl, rfl, ha, hb, small_line hl, fun e => q b H (Same.refl H) (by rw [e]; exact hb), fun _ e => q a H (Same.refl H) (by rw [e, List.append_nil]; exact ha), fun _ _ p n => q p _ (same_new n) (sqT upd_same)⟩
theorem tcut {H : Hp} {a : Addr} {xs : List V} {lo hi : Option Int} {Q : VK} (ha : SqT K H a xs) (q : ∀ p H', Same H H' → SqT K H' p (cutV xs lo hi) → Q (.ref p) H') : rSlA K (.ref a) lo hi H Q :=
  ⟨a, xs, rfl, ha, fun ⟨e1, e2⟩ => q a H (Same.refl H) (by unfold cutV; rw [e1, e2, List.drop_zero, Nat.sub_zero, List.take_length]; exact ha), fun _ p n => q p _ (same_new n) (sqT upd_same)⟩
/-- t[:k] -/
theorem tcut_lo {H : Hp} {a : Addr} {xs : List V} {k : Nat} {Q : VK} (ha : SqT K H a xs) (h : k ≤ xs.length) (q : ∀ p H', Same H H' → SqT K H' p (xs.take k) → Q (.ref p) H') : rSlA K (.ref a) none (some (k : Int)) H Q :=
  tcut ha fun p H' s c => q p H' s (by rw [cut_front h] at c; exact c)
/-- t[k:] -/
theorem tcut_hi {σ : L2.St} {H : Hp} {a : Addr} {xs : List V} {k : Nat} {Q : VK} (ha : SqT K H a xs) (h : k ≤ xs.length) (q : ∀ p H', Same H H' → SqT K H' p (xs.drop k) → Q (.ref p) H') : tNoPart σ H fun u H3 => rSlA K (.ref a) (some (k : Int)) u H3 Q :=
  tcut (lo := some (k : Int)) (hi := none) ha fun p H' s c => q p H' s (by rw [cut_back h] at c; exact c)
/-- t[k:k + 1] -/
theorem tcut_at {H : Hp} {a : Addr} {xs : List V} {k : Nat} {x : V} {Q : VK} (ha : SqT K H a xs) (h : xs[k]? = some x) (q : ∀ p H', Same H H' → SqT K H' p [x] → Q (.ref p) H') : rSlA K (.ref a) (some (k : Int)) (some ((k : Int) + 1)) H Q :=
  tcut ha fun p H' s c => q p H' s (by
    have e : cutV xs (some (k : Int)) (some ((k : Int) + 1)) = [x] := by
      obtain ⟨hk, rfl⟩ := List.getElem?_eq_some_iff.mp h
      unfold cutV
      rw [HT.sIx_nat, show ((k : Int) + 1) = ((k + 1 : Nat) : Int) by omega, HT.sIx_nat, Nat.min_eq_left (Nat.le_of_lt hk), Nat.min_eq_left hk, show k + 1 - k = 1 by omega, List.drop_eq_getElem_cons hk]
      rfl
    rw [e] at c
    exact c)
end
theorem A2.drop {α β : Type} {R : α → β → Prop} : ∀ {as : List α} {bs : List β} (n : Nat), A2 R as bs → A2 R (as.drop n) (bs.drop n)
  | _, _, 0, h => h
  | _, _, _ + 1, .nil => .nil
  | _, _, n + 1, .cons _ t => t.drop n
theorem A2.get2 {α β : Type} {R : α → β → Prop} : ∀ {as : List α} {bs : List β} {i : Nat} {b : β}, A2 R as bs → bs[i]? = some b → ∃ a, as[i]? = some a ∧ R a b
  | _, _, 0, _, .cons h _, e => by cases e; exact ⟨_, rfl, h⟩
  | _, _, i + 1, _, .cons _ t, e => t.get2 (i := i) e
theorem A2.rev {α β : Type} {R : α → β → Prop} : ∀ {as : List α} {bs : List β}, A2 R as bs → A2 R as.reverse bs.reverse
  | _, _, .nil => .nil
  | _, _, .cons h t => by rw [List.reverse_cons, List.reverse_cons]; exact t.rev.append (.cons h .nil)
end WdQ

set_option Elab.async false
set_option linter.all false
set_option maxRecDepth 100000
set_option maxHeartbeats 4000000
set_option exponentiation.threshold 5000
namespace WdQ
open PySem PySem.Spec PyProof.Rows L2 WdM Wd
section
variable {P : Program} {w : World} {K : PySem.W.Frag} {mg : Str → Option Value} {base : Heap} {CH : Addr}
def RowF (K : PySem.W.Frag) (H : Hp) (x : V) (r : Str × Option Str) : Prop := ∃ a, x = .ref a ∧ SqT K H a [.str r.1, parV r.2]
def RowG (K : PySem.W.Frag) (H : Hp) (x : V) (r : Gd) : Prop := ∃ a, x = .ref a ∧ SqT K H a (rowG r)
theorem rowF_tk {H H' : Hp} {xs : List V} {F : List (Str × Option Str)} (h : A2 (RowF K H) xs F) (e : Tk H H') : A2 (RowF K H') xs F := h.imp fun _ _ ⟨a, e1, e2⟩ => ⟨a, e1, e.sq e2⟩
theorem rowG_tk {H H' : Hp} {xs : List V} {G : List Gd} (h : A2 (RowG K H) xs G) (e : Tk H H') : A2 (RowG K H') xs G := h.imp fun _ _ ⟨a, e1, e2⟩ => ⟨a, e1, e.sq e2⟩
theorem folk_of {H : Hp} {t : Addr} {xs : List V} {F : List (Str × Option Str)} (ht : SqT K H t xs) (h : A2 (RowF K H) xs F) : FolkAt K H (.ref t) F :=
  ⟨t, xs, rfl, ht, h.len, fun i x hi => by obtain ⟨r, hr, a, e1, e2⟩ := h.get hi; exact ⟨a, r, e1, hr, e2⟩⟩
theorem goods_of {H : Hp} {t : Addr} {xs : List V} {G : List Gd} (ht : SqT K H t xs) (h : A2 (RowG K H) xs G) : GoodsAt K H (.ref t) G :=
  ⟨t, xs, rfl, ht, h.len, fun i x hi => by obtain ⟨r, hr, a, e1, e2⟩ := h.get hi; exact ⟨a, r, e1, hr, e2⟩⟩
/-- what a house's text has behind its first two lines -/
def restT (F : List (Str × Option Str)) (G : List Gd) : List Str := F.map personT ++ G.map thingT
theorem rest_at {F : List (Str × Option Str)} {G : List Gd} {i : Nat} {x : Str} (h : (restT F G)[i]? = some x) : (∃ r, F[i]? = some r ∧ x = personT r) ∨ (F.length ≤ i ∧ ∃ r, G[i - F.length]? = some r ∧ x = thingT r) := by
  unfold restT at h
  by_cases c : i < F.length
  · rw [List.getElem?_append_left (by rw [List.length_map]; exact c), List.getElem?_map] at h
    cases hc : F[i]? with
    | none => rw [hc] at h; cases h
    | some r => rw [hc] at h; cases h; exact .inl ⟨r, rfl, rfl⟩
  · rw [List.getElem?_append_right (by rw [List.length_map]; omega), List.length_map, List.getElem?_map] at h
    cases hc : G[i - F.length]? with
    | none => rw [hc] at h; cases h
    | some r => rw [hc] at h; cases h; exact .inr ⟨by omega, r, rfl, rfl⟩
/-- the names of rows that stand ahead -/
def tEaP (K : PySem.W.Frag) : TE := fun σ H Q => ∃ (l : Addr) (xs : List V) (ns : List Str) (y0 y2 y3 y4 y5 y6 : Option V), σ = [y0, some (.ref l), y2, y3, y4, y5, y6] ∧ H l = some (.lst xs) ∧ xs.length ≤ 8 ∧ A2 (fun x z => ∃ a ys, x = V.ref a ∧ SqT K H a (.str z :: ys)) xs ns ∧ ∀ H' L, Same H H' → H' L = some (.lst (ns.map V.str)) → Q (.ref L) H'
def tEaG (K : PySem.W.Frag) : TE := fun σ H Q => ∃ (l : Addr) (xs : List V) (ns : List Str) (y0 y1 y3 y4 y5 y6 : Option V), σ = [y0, y1, some (.ref l), y3, y4, y5, y6] ∧ H l = some (.lst xs) ∧ xs.length ≤ 8 ∧ A2 (fun x z => ∃ a ys, x = V.ref a ∧ SqT K H a (.str z :: ys)) xs ns ∧ ∀ H' L, Same H H' → H' L = some (.lst (ns.map V.str)) → Q (.ref L) H'
theorem rowF_nm {H : Hp} : ∀ {xs : List V} {F : List (Str × Option Str)}, A2 (RowF K H) xs F → A2 (fun x z => ∃ a ys, x = V.ref a ∧ SqT K H a (.str z :: ys)) xs (F.map Prod.fst)
  | _, _, .nil => .nil
  | _, _, .cons ⟨a, e1, e2⟩ t => .cons ⟨a, _, e1, e2⟩ (rowF_nm t)
theorem rowG_nm {H : Hp} : ∀ {xs : List V} {G : List Gd}, A2 (RowG K H) xs G → A2 (fun x z => ∃ a ys, x = V.ref a ∧ SqT K H a (.str z :: ys)) xs (G.map Prod.fst)
  | _, _, .nil => .nil
  | _, _, .cons ⟨a, e1, e2⟩ t => .cons ⟨a, _, e1, e2⟩ (rowG_nm t)
theorem hq_at {ks : List Str} {j : Nat} {x : V} (h : (ks.map V.str)[j]? = some x) : ∃ y, ks[j]? = some y ∧ x = .str y := by
  rw [List.getElem?_map] at h
  cases hc : ks[j]? with
  | none => rw [hc] at h; cases h
  | some z => rw [hc] at h; cases h; exact ⟨z, rfl, rfl⟩
theorem personW_head (r : Str × Option Str) : ∃ tl : List Str, personW r = (("person" : Str) :: tl) := by
  unfold personW
  split
  · exact ⟨_, rfl⟩
  · exact ⟨_, rfl⟩
theorem rest_cut {x0 x1 : Str} {ls : List Str} : cutV ((x0 :: x1 :: ls).map V.str) (some 2) none = ls.map V.str := by
  have := cut_back (xs := (x0 :: x1 :: ls).map V.str) (k := 2) (by simp)
  rw [show ((2 : Nat) : Int) = 2 from rfl] at this
  rw [this]
  rfl
def spRPp (K : PySem.W.Frag) : Sp := fun vs H Q _ => ∃ (aR : Addr) (x0 x1 : Str) (F : List (Str × Option Str)) (G : List Gd), vs = [.ref aR] ∧ H aR = some (.lst ((x0 :: x1 :: restT F G).map V.str)) ∧ GoodF F ∧ GoodG G ∧ ∀ H' L xs, Same H H' → H' L = some (.lst xs) → A2 (RowF K H') xs F → Q (.ref L) H'
theorem ok_rpp {f fE fP : Addr} {fd fdE fdP : FuncData} {tF tM : Tok} {k : Nat} (B : Bi mg) (gF : mg "PEOPLE_FROM" = some (.int 2 tF)) (gM : mg "MOST_PEOPLE" = some (.int 8 tM)) (D : Df K mg "read_people" sRPp f fd ["rows"]) (DE : Df K mg "read_person" sRPe fE fdE ["words"]) (DP : Df K mg "is_person" sPerson fP fdP ["thing", "ahead"]) (GP : FnOk P w K mg base CX0 (k + 2) fP fdP ["thing", "ahead"] (spPerson K)) : FnOk P w K mg base CX0 (k + 3) f fd ["rows"] (spRPp K) := by
  have GE : FnOk P w K mg base CX0 (k + 2) fE fdE ["words"] (spRPe K) := ok_rpe B DE
  refine D.fn.ok scRPp (fun vs H Q E h => ?_) (fun cdv A outer s H vs Q E hr h => ?_)
  · obtain ⟨aR, x0, x1, F, G, rfl, _⟩ := h
    rfl
  · obtain ⟨aR, x0, x1, F, G, rfl, hR, gf, gg, q⟩ := h
    refine ⟨_, pss_cons (ps_set (i := 1) scRPp.nd rfl (.inl rfl) (pe_lst pa_nil))
      (pss_cons (ps_for PassesOwn.never rfl (pi_Es .li (by rfl) B.enum (pa_cons (pe_slice (r := rSlL K) sl_list (pv 0) (po_some (pe_glob (v := .int 2) (by rfl) gF ⟨_, rfl⟩)) po_none) pa_nil) (pk_cons (pe_glob (v := .int 2) (by rfl) gF ⟨_, rfl⟩) pk_nil)) (pg_tup rfl (pgs_cons (pg_name (i := 2) scRPp.nd rfl (.inl rfl)) (pgs_cons (pg_name (i := 3) scRPp.nd rfl (.inl rfl)) pgs_nil)))
        (pss_cons (ps_set (i := 4) scRPp.nd rfl (.inl rfl) (pe_split (pv 3) pe_str))
        (pss_cons (ps_if (PW.pt (pw_and (pt_cmpR op_eq (pe_ix (r := rIxL K) ix_list (pv 4) pe_int (fun _ _ => rfl)) pe_str (nomark _)) (pw_and1 (pt_cmpR op_gt (pe_callB call_len_seq (by rfl) B.len PySem.boot_len (pa_cons (pv 1) pa_nil)) pe_int (nomark _))))) (pss_one ps_break) pss_nil)
        (pss_cons (ps_set (i := 5) scRPp.nd rfl (.inl rfl) (pe_call GE hr (by rfl) DE.mg DE.fn.kp DE.bd .nil pass0 (pa_cons (pv 4) pa_nil)))
        (pss_cons (ps_if (PW.pt (pw_or (pt_cmpR op_eq (pe_callB call_len_seq (by rfl) B.len PySem.boot_len (pa_cons (pv 1) pa_nil)) (pe_glob (v := .int 8) (by rfl) gM ⟨_, rfl⟩) (nomark _)) (pw_or1 (pt_not (pt_val (pe_call GP hr (by rfl) DP.mg DP.fn.kp DP.bd .nil pass0 (pa_cons (pv 5) (pa_cons (PE.wk (t' := tEaP K) (pe_lc (own := [("each", 6)]) (g := gName 6) (tt := tYes) rfl scRPp.nd (pi_list (pv 1)) (blkOk_by (own := [("each", 6)]) (N := nRPp) (sc := defScope sRPp) (by decide +kernel))
          (fun _ _ _ _ _ => pg_name (i := 6) scRPp.nd rfl (Or.inl rfl)) (fun _ _ _ _ _ => pts_nil) (fun _ _ _ _ _ => pe_ix (r := rIxT K) ix_tup (pv 6) pe_int (fun _ _ => rfl))) (by
            rintro σ H Q ⟨l, xs, ns, y0, y2, y3, y4, y5, y6, rfl, hl, x8, hx, q⟩
            refine ⟨_, rfl, l, rfl, ⟨_, sqL hl⟩, fun L nL => lc_list (K := K) (a := l) (xs := xs) (fun j H' => H' L = some (.lst ((ns.take j).map V.str)) ∧ Same H H') ⟨upd_same, same_new nL⟩ (fun j H' _ h => sqL (h.2 _ _ hl)) ?_ ?_⟩
            · rintro j x H1 hx1 ⟨hL, s1⟩
              obtain ⟨z, hz, a, ys, rfl, ha⟩ := hx.get hx1
              have jl := lt_get hz
              have xl := hx.len
              refine ⟨rfl, tyes (iteT ⟨_, rfl, a, _, 0, .str z, rfl, rfl, (tk_same s1).sq ha, atI_nat (j := 0) rfl, _, hL, ?_, ?_, ((Bt.of_same (S := []) s1).upd0 nL).same⟩)⟩
              · rw [List.length_map, List.length_take]
                exact small1000 (by omega)
              · rw [upd_same, take_more hz, List.map_append]
                rfl
            · rintro H1 ⟨hL, s1⟩
              rw [hx.len, List.take_length] at hL
              exact q H1 L s1 hL)) pa_nil)))))))) pss_noS pss_nil)
        (pss_one (ps_expr (pe_bm PySem.F.plainAttrs_list PySem.F.slot_list_append PySem.F.type_list_append mt_append (pv 1) (pa_cons (pv 5) pa_nil)))))))))
      (pss_cons (ps_if (pt_cmpR op_eq (pe_callB call_len_seq (by rfl) B.len PySem.boot_len (pa_cons (pv 1) pa_nil)) pe_int (nomark _)) pss_noS pss_nil)
      (pss_one (ps_ret (pv 1))))), ?_⟩
    have f1 := gf.l1
    have f8 := gf.l8
    refine ⟨by show 0 ≤ sizeLine; decide, fun l nl => ?_⟩
    have sm0 : Same H (upd H l (.lst [])) := same_new nl
    have hl0 : (upd H l (.lst [])) l = some (.lst []) := upd_same
    revert sm0 hl0
    generalize upd H l (.lst []) = H1
    intro sm0 hl0
    refine ⟨_, rfl, _, rfl, aR, _, rfl, sqL (sm0 _ _ hR), fun S nS => ?_⟩
    rw [rest_cut]
    have s2 : Same H1 (upd H1 S (.lst ((restT F G).map V.str))) := same_new nS
    have hS : (upd H1 S (.lst ((restT F G).map V.str))) S = some (.lst ((restT F G).map V.str)) := upd_same
    revert s2 hS
    generalize upd H1 S (.lst ((restT F G).map V.str)) = H2
    intro s2 hS
    refine ⟨S, _, 2, rfl, rfl, by decide, by decide, sqL hS, for_it (walkEs (K := K) (k := .li) (m := 2) (a := S) (xs := (restT F G).map V.str)) (fun i σ H' => (∃ y2 y3 y4 y5 y6 : Option V, σ = [some (.ref aR), some (.ref l), y2, y3, y4, y5, y6]) ∧ i ≤ F.length ∧ (∃ ps, H' l = some (.lst ps) ∧ A2 (RowF K H') ps (F.take i)) ∧ H' S = some (.lst ((restT F G).map V.str)) ∧ Same H H') ⟨⟨_, _, _, _, _, rfl⟩, Nat.zero_le _, ⟨[], s2 _ _ hl0, .nil⟩, hS, sm0.trans s2⟩ (fun i σ H' _ h => sqL h.2.2.2.1) ?_ ?_⟩
    · rintro i _ σ H4 _ i1 ⟨⟨y2, y3, y4, y5, y6, rfl⟩, il, ⟨ps, hl4, hp4⟩, hS4, s4⟩ ⟨T1, _, y, rfl, nT, rfl, ei, hy⟩
      cases ei
      obtain ⟨x, hx, rfl⟩ := hq_at hy
      have s5 : Same H4 (upd H4 T1 (.tup [.int (2 + (i : Nat)), .str x])) := same_new nT
      have g5 : (upd H4 T1 (.tup [.int (2 + (i : Nat)), .str x])) T1 = some (.tup [.int (2 + (i : Nat)), .str x]) := upd_same
      revert s5 g5
      generalize upd H4 T1 (.tup [.int (2 + (i : Nat)), .str x]) = H5
      intro s5 g5
      have pl := hp4.len
      rw [List.length_take, Nat.min_eq_left il] at pl
      refine ⟨T1, _, rfl, sqT g5, rfl, _, _, rfl, _, _, rfl, rfl, ?_⟩
      rcases rest_at hx with ⟨r, hr, rfl⟩ | ⟨fi, r, hr, rfl⟩
      · have rm := List.mem_of_getElem? hr
        have ri := lt_get hr
        have nm := gf.nm r rm
        have np := f_par gf rm
        have xl := hl_person nm np
        refine ⟨_, rfl, ⟨_, rfl⟩, personT r, " ", rfl, rfl, rfl, small_len (by omega), ?_⟩
        rw [person_split nm np]
        intro p np6
        have s6 : Same H5 (upd H5 p (.lst ((personW r).map V.str))) := same_new np6
        have h6 : (upd H5 p (.lst ((personW r).map V.str))) p = some (.lst ((personW r).map V.str)) := upd_same
        revert s6 h6
        generalize upd H5 p (.lst ((personW r).map V.str)) = H6
        intro s6 h6
        obtain ⟨tl, etl⟩ := personW_head r
        have h6' : H6 p = some (.lst (.str "person" :: tl.map V.str)) := by rw [h6, etl]; rfl
        refine ⟨_, rfl, p, _, 0, _, rfl, rfl, sqL h6', atI_nat (j := 0) rfl, rfl, _, rfl, iteF (iteF ?_)⟩
        refine ⟨_, rfl, p, r, rfl, h6, fun H7 t7 s7 ht7 => ?_⟩
        have s57 := s5.trans (s6.trans s7)
        have hl7 := s57 _ _ hl4
        refine ⟨_, rfl, l, _, rfl, .inl (sqL hl7), rfl, _, rfl, ?_⟩
        rw [show decide (V.int ((ps.length : Nat) : Int) = V.int 8) = false from decide_eq_false (fun e => by injection e with e; omega)]
        refine iteF ⟨_, rfl, l, ps, _, _, _, _, _, _, _, rfl, hl7, by omega, rowF_nm (rowF_tk hp4 (tk_same s57)), fun H8 L8 s8 hL8 => ?_⟩
        refine ⟨t7, L8, r.1, r.2, _, rfl, (tk_same s8).sq ht7, hL8, nm.name, by have := hl_nm nm; omega, fst_new gf.nd hr, fun z e => gf.pr i r z hr e, fun H9 s9 => ⟨_, rfl, iteF ?_⟩⟩
        have s59 := s57.trans (s8.trans s9)
        have hl9 := s59 _ _ hl4
        have tkA : Tk H9 (upd H9 l (.lst (ps ++ [.ref t7]))) := tk_lst hl9
        refine ⟨_, rfl, .inl ⟨rfl, _, sqL hl9⟩, _, rfl, l, _, _, rfl, rfl, hl9, Nat.lt_of_lt_of_le (show ps.length < 9 by omega) (by decide), ⟨_, _, _, _, _, rfl⟩, by omega, ⟨ps ++ [.ref t7], upd_same, ?_⟩, ?_, ?_⟩
        · rw [take_more hr]
          exact (rowF_tk (rowF_tk hp4 (tk_same s59)) tkA).snoc ⟨t7, rfl, tkA.sq ((tk_same (s8.trans s9)).sq ht7)⟩
        · rw [upd_ne (fun e : S = l => by rw [e, hl0] at nS; cases nS)]
          exact s59 _ _ hS4
        · exact ((Bt.of_same (S := []) (s4.trans s59)).upd0 nl).same
      · obtain rfl : i = F.length := by omega
        rw [List.take_length] at hp4
        have rm := List.mem_of_getElem? hr
        have gn := gg.nm r rm
        have gs := gg.sm r rm
        have xl := hl_thing gn.1 gn.2 gs.1 gs.2
        refine ⟨_, rfl, ⟨_, rfl⟩, thingT r, " ", rfl, rfl, rfl, small_len (by omega), ?_⟩
        rw [thing_split gn.1 gn.2 gs.1]
        intro p np6
        have s6 : Same H5 (upd H5 p (.lst ((thingW r).map V.str))) := same_new np6
        have h6 : (upd H5 p (.lst ((thingW r).map V.str))) p = some (.lst [.str "thing", .str r.1, .str r.2.1, .str (intT r.2.2)]) := upd_same
        revert s6 h6
        generalize upd H5 p (.lst ((thingW r).map V.str)) = H6
        intro s6 h6
        have s56 := s5.trans s6
        have hl6 := s56 _ _ hl4
        refine ⟨_, rfl, p, _, 0, _, rfl, rfl, sqL h6, atI_nat (j := 0) rfl, rfl, _, rfl, iteT ⟨_, rfl, l, _, rfl, .inl (sqL hl6), _, 0, rfl, rfl, _, rfl, ?_⟩⟩
        rw [decide_eq_true (show (0 : Int) < ((ps.length : Nat) : Int) by omega)]
        refine iteT ⟨_, rfl, l, _, rfl, .inl (sqL hl6), rfl, _, rfl, ?_⟩
        rw [show decide (V.int ((ps.length : Nat) : Int) = V.int 0) = false from decide_eq_false (fun e => by injection e with e; omega)]
        exact iteF ⟨_, rfl, q H6 l ps (s4.trans s56) hl6 (rowF_tk hp4 (tk_same s56))⟩
    · rintro σ H4 ⟨⟨y2, y3, y4, y5, y6, rfl⟩, il, ⟨ps, hl4, hp4⟩, hS4, s4⟩
      have e : ((restT F G).map V.str).length = F.length + G.length := by simp [restT]
      rw [e] at il hp4
      rw [List.take_of_length_le (by omega)] at hp4
      have pl := hp4.len
      refine ⟨_, rfl, l, _, rfl, .inl (sqL hl4), rfl, _, rfl, ?_⟩
      rw [show decide (V.int ((ps.length : Nat) : Int) = V.int 0) = false from decide_eq_false (fun e => by injection e with e; omega)]
      exact iteF ⟨_, rfl, q H4 l ps s4 hl4 hp4⟩
end
end WdQ

set_option Elab.async false
set_option linter.all false
set_option maxRecDepth 100000
set_option maxHeartbeats 4000000
set_option exponentiation.threshold 5000
namespace WdQ
open PySem PySem.Spec PyProof.Rows L2 WdM Wd
theorem hw_join (S : List Nat) : ∀ ps : List (List Nat), (TL.joinL S ps).length ≤ (ps.map List.length).sum + ps.length * S.length
  | [] => by simp [TL.joinL]
  | [p] => by simp [TL.joinL]
  | p :: p2 :: ps => by
    have := hw_join S (p2 :: ps)
    show (p ++ (S ++ TL.joinL S (p2 :: ps))).length ≤ _
    rw [List.length_append, List.length_append]
    simp only [List.map_cons, List.sum_cons, List.length_cons] at this ⊢
    rw [Nat.add_mul]
    omega
theorem house_len {F : List (Str × Option Str)} {G : List Gd} {p d : Int} (gf : GoodF F) (gg : GoodG G) (pu : Pu p d) : (houseT F G p d).length ≤ 900 := by
  obtain ⟨l1, l2⟩ := lines_len gf gg pu
  unfold houseT
  rw [TL.join_eq, TL.len_tl, TL.tl_join]
  have a := hw_join (TL.tl "\n") ((linesT F G p d).map TL.tl)
  have b := sum_le40 l2
  have e : ((linesT F G p d).map TL.tl).map List.length = (linesT F G p d).map (·.length) := by
    rw [List.map_map]
    exact List.map_congr_left fun y _ => (TL.len_tl y).symm
  have c : (TL.tl ("\n" : Str)).length = 1 := by decide
  rw [e, c] at a
  simp only [List.length_map] at a b
  omega
theorem g_new {G : List Gd} {i : Nat} {r : Gd} (nd : (G.map Prod.fst).Nodup) (h : G[i]? = some r) : r.1 ∉ (G.take i).map Prod.fst := by
  intro hm
  obtain ⟨hi, rfl⟩ := List.getElem?_eq_some_iff.mp h
  rw [← List.take_append_drop i G, List.drop_eq_getElem_cons hi, List.map_append, List.map_cons, List.nodup_append] at nd
  exact nd.2.2 _ hm _ List.mem_cons_self rfl
section
variable {P : Program} {w : World} {K : PySem.W.Frag} {mg : Str → Option Value} {base : Heap} {CH : Addr}
def spRGo (K : PySem.W.Frag) : Sp := fun vs H Q _ => ∃ (aR : Addr) (ls : List Str) (n : Nat) (G : List Gd), vs = [.ref aR, .int (n : Nat)] ∧ H aR = some (.lst (ls.map V.str)) ∧ ls.drop n = G.map thingT ∧ n ≤ ls.length ∧ n ≤ 100 ∧ GoodG G ∧ ∀ H' L xs, Same H H' → H' L = some (.lst xs) → A2 (RowG K H') xs G → Q (.ref L) H'
theorem ok_rgo {f fE fP : Addr} {fd fdE fdP : FuncData} {tM : Tok} {k : Nat} (B : Bi mg) (gM : mg "MOST_GOODS" = some (.int 8 tM)) (D : Df K mg "read_goods" sRGo f fd ["rows", "first"]) (DE : Df K mg "read_thing" sRTh fE fdE ["words"]) (GE : FnOk P w K mg base CX0 (k + 3) fE fdE ["words"] (spRTh K)) (DP : Df K mg "is_good" sGood fP fdP ["thing", "ahead"]) (GP : FnOk P w K mg base CX0 (k + 3) fP fdP ["thing", "ahead"] (spGood K)) : FnOk P w K mg base CX0 (k + 4) f fd ["rows", "first"] (spRGo K) := by
  refine D.fn.ok scRGo (fun vs H Q E h => ?_) (fun cdv A outer s H vs Q E hr h => ?_)
  · obtain ⟨aR, ls, n, G, rfl, _⟩ := h
    rfl
  · obtain ⟨aR, ls, n, G, rfl, hR, el, nl0, n100, gg, q⟩ := h
    refine ⟨_, pss_cons (ps_set (i := 2) scRGo.nd rfl (.inl rfl) (pe_lst pa_nil))
      (pss_cons (ps_for PassesOwn.never rfl (pi_Es .li (by rfl) B.enum (pa_cons (pe_slice (r := rSlL K) sl_list (pv 0) (po_some (pv 1)) po_none) pa_nil) (pk_cons (pv 1) pk_nil)) (pg_tup rfl (pgs_cons (pg_name (i := 3) scRGo.nd rfl (.inl rfl)) (pgs_cons (pg_name (i := 4) scRGo.nd rfl (.inl rfl)) pgs_nil)))
        (pss_cons (ps_set (i := 5) scRGo.nd rfl (.inl rfl) (pe_call GE hr (by rfl) DE.mg DE.fn.kp DE.bd .nil pass0 (pa_cons (pe_split (pv 4) pe_str) pa_nil)))
        (pss_cons (ps_if (PW.pt (pw_or (pt_cmpR op_eq (pe_callB call_len_seq (by rfl) B.len PySem.boot_len (pa_cons (pv 2) pa_nil)) (pe_glob (v := .int 8) (by rfl) gM ⟨_, rfl⟩) (nomark _)) (pw_or1 (pt_not (pt_val (pe_call GP hr (by rfl) DP.mg DP.fn.kp DP.bd .nil pass0 (pa_cons (pv 5) (pa_cons (PE.wk (t' := tEaG K) (pe_lc (own := [("each", 6)]) (g := gName 6) (tt := tYes) rfl scRGo.nd (pi_list (pv 2)) (blkOk_by (own := [("each", 6)]) (N := nRGo) (sc := defScope sRGo) (by decide +kernel))
          (fun _ _ _ _ _ => pg_name (i := 6) scRGo.nd rfl (Or.inl rfl)) (fun _ _ _ _ _ => pts_nil) (fun _ _ _ _ _ => pe_ix (r := rIxT K) ix_tup (pv 6) pe_int (fun _ _ => rfl))) (by
            rintro σ H Q ⟨l, xs, ns, y0, y1, y3, y4, y5, y6, rfl, hl, x8, hx, q⟩
            refine ⟨_, rfl, l, rfl, ⟨_, sqL hl⟩, fun L nL => lc_list (K := K) (a := l) (xs := xs) (fun j H' => H' L = some (.lst ((ns.take j).map V.str)) ∧ Same H H') ⟨upd_same, same_new nL⟩ (fun j H' _ h => sqL (h.2 _ _ hl)) ?_ ?_⟩
            · rintro j x H1 hx1 ⟨hL, s1⟩
              obtain ⟨z, hz, a, ys, rfl, ha⟩ := hx.get hx1
              have jl := lt_get hz
              have xl := hx.len
              refine ⟨rfl, tyes (iteT ⟨_, rfl, a, _, 0, .str z, rfl, rfl, (tk_same s1).sq ha, atI_nat (j := 0) rfl, _, hL, ?_, ?_, ((Bt.of_same (S := []) s1).upd0 nL).same⟩)⟩
              · rw [List.length_map, List.length_take]
                exact small1000 (by omega)
              · rw [upd_same, take_more hz, List.map_append]
                rfl
            · rintro H1 ⟨hL, s1⟩
              rw [hx.len, List.take_length] at hL
              exact q H1 L s1 hL)) pa_nil)))))))) pss_noS pss_nil)
        (pss_one (ps_expr (pe_bm PySem.F.plainAttrs_list PySem.F.slot_list_append PySem.F.type_list_append mt_append (pv 2) (pa_cons (pv 5) pa_nil)))))))
      (pss_one (ps_ret (pv 2)))), ?_⟩
    have g8 := gg.l8
    refine ⟨by show 0 ≤ sizeLine; decide, fun l nl => ?_⟩
    have sm0 : Same H (upd H l (.lst [])) := same_new nl
    have hl0 : (upd H l (.lst [])) l = some (.lst []) := upd_same
    revert sm0 hl0
    generalize upd H l (.lst []) = H1
    intro sm0 hl0
    refine ⟨_, rfl, _, rfl, _, rfl, aR, _, rfl, sqL (sm0 _ _ hR), fun S nS => ?_⟩
    rw [cut_back (by rw [List.length_map]; exact nl0), ← List.map_drop, el]
    have s2 : Same H1 (upd H1 S (.lst ((G.map thingT).map V.str))) := same_new nS
    have hS : (upd H1 S (.lst ((G.map thingT).map V.str))) S = some (.lst ((G.map thingT).map V.str)) := upd_same
    revert s2 hS
    generalize upd H1 S (.lst ((G.map thingT).map V.str)) = H2
    intro s2 hS
    refine ⟨_, rfl, S, _, _, rfl, rfl, by omega, by omega, sqL hS, for_it (walkEs (K := K) (k := .li) (m := (n : Nat)) (a := S) (xs := (G.map thingT).map V.str)) (fun i σ H' => (∃ y3 y4 y5 y6 : Option V, σ = [some (.ref aR), some (.int (n : Nat)), some (.ref l), y3, y4, y5, y6]) ∧ (∃ ps, H' l = some (.lst ps) ∧ A2 (RowG K H') ps (G.take i)) ∧ H' S = some (.lst ((G.map thingT).map V.str)) ∧ Same H H') ⟨⟨_, _, _, _, rfl⟩, ⟨[], s2 _ _ hl0, .nil⟩, hS, sm0.trans s2⟩ (fun i σ H' _ h => sqL h.2.2.1) ?_ ?_⟩
    · rintro i _ σ H4 _ i1 ⟨⟨y3, y4, y5, y6, rfl⟩, ⟨ps, hl4, hp4⟩, hS4, s4⟩ ⟨T1, _, y, rfl, nT, rfl, ei, hy⟩
      cases ei
      obtain ⟨x, hx, rfl⟩ := hq_at hy
      obtain ⟨r, hr, rfl⟩ : ∃ r, G[i]? = some r ∧ x = thingT r := by
        rw [List.getElem?_map] at hx
        cases hc : G[i]? with
        | none => rw [hc] at hx; cases hx
        | some r => rw [hc] at hx; cases hx; exact ⟨r, rfl, rfl⟩
      have s5 : Same H4 (upd H4 T1 (.tup [.int ((n : Nat) + (i : Nat)), .str (thingT r)])) := same_new nT
      have g5 : (upd H4 T1 (.tup [.int ((n : Nat) + (i : Nat)), .str (thingT r)])) T1 = some (.tup [.int ((n : Nat) + (i : Nat)), .str (thingT r)]) := upd_same
      revert s5 g5
      generalize upd H4 T1 (.tup [.int ((n : Nat) + (i : Nat)), .str (thingT r)]) = H5
      intro s5 g5
      have ri := lt_get hr
      have pl := hp4.len
      rw [List.length_take] at pl
      have rm := List.mem_of_getElem? hr
      have gn := gg.nm r rm
      have gs := gg.sm r rm
      have xl := hl_thing gn.1 gn.2 gs.1 gs.2
      refine ⟨T1, _, rfl, sqT g5, rfl, _, _, rfl, _, _, rfl, rfl, ?_⟩
      refine ⟨_, rfl, ⟨_, rfl⟩, thingT r, " ", rfl, rfl, rfl, small_len (by omega), ?_⟩
      rw [thing_split gn.1 gn.2 gs.1]
      intro p np6
      have s6 : Same H5 (upd H5 p (.lst ((thingW r).map V.str))) := same_new np6
      have h6 : (upd H5 p (.lst ((thingW r).map V.str))) p = some (.lst ((thingW r).map V.str)) := upd_same
      revert s6 h6
      generalize upd H5 p (.lst ((thingW r).map V.str)) = H6
      intro s6 h6
      refine ⟨p, r, rfl, h6, gs.1, gs.2, fun H7 t7 s7 ht7 => ?_⟩
      have s57 := s5.trans (s6.trans s7)
      have hl7 := s57 _ _ hl4
      refine ⟨_, rfl, l, _, rfl, .inl (sqL hl7), rfl, _, rfl, ?_⟩
      rw [show decide (V.int ((ps.length : Nat) : Int) = V.int 8) = false from decide_eq_false (fun e => by injection e with e; omega)]
      refine iteF ⟨_, rfl, l, ps, _, _, _, _, _, _, _, rfl, hl7, by omega, rowG_nm (rowG_tk hp4 (tk_same s57)), fun H8 L8 s8 hL8 => ?_⟩
      refine ⟨t7, L8, r, _, rfl, (tk_same s8).sq ht7, hL8, gn.1, gn.2, g_new gg.nd hr, gs.1, gs.2, fun H9 s9 => ⟨_, rfl, iteF ?_⟩⟩
      have s59 := s57.trans (s8.trans s9)
      have hl9 := s59 _ _ hl4
      have tkA : Tk H9 (upd H9 l (.lst (ps ++ [.ref t7]))) := tk_lst hl9
      refine ⟨_, rfl, .inl ⟨rfl, _, sqL hl9⟩, _, rfl, l, _, _, rfl, rfl, hl9, Nat.lt_of_lt_of_le (show ps.length < 9 by omega) (by decide), ⟨_, _, _, _, rfl⟩, ⟨ps ++ [.ref t7], upd_same, ?_⟩, ?_, ?_⟩
      · rw [take_more hr]
        exact (rowG_tk (rowG_tk hp4 (tk_same s59)) tkA).snoc ⟨t7, rfl, tkA.sq ((tk_same (s8.trans s9)).sq ht7)⟩
      · rw [upd_ne (fun e : S = l => by rw [e, hl0] at nS; cases nS)]
        exact s59 _ _ hS4
      · exact ((Bt.of_same (S := []) (s4.trans s59)).upd0 nl).same
    · rintro σ H4 ⟨⟨y3, y4, y5, y6, rfl⟩, ⟨ps, hl4, hp4⟩, hS4, s4⟩
      rw [List.length_map, List.length_map, List.take_length] at hp4
      exact ⟨_, rfl, q H4 l ps s4 hl4 hp4⟩
/-! ### the whole text -/
def spRHo (K : PySem.W.Frag) (CH : Addr) : Sp := fun vs H Q _ => ∃ (F : List (Str × Option Str)) (G : List Gd) (p d : Int), vs = [.str (houseT F G p d)] ∧ GoodF F ∧ GoodG G ∧ Pu p d ∧ ∀ H' o, Same H H' → HsAt K CH H' o F G p d → Q (.ref o) H'
theorem passHw {X : Cx} {σ : L2.St} : PassesAt (L2.CX X.prog X.w) X σ E0 := fun _ _ _ _ _ _ h => by
  obtain ⟨_, _, _, _, _, _, _, _, _, _, _, _, h⟩ := h
  exact h.elim
theorem ok_rho {f fA fP fG fH : Addr} {fd fdA fdP fdG fdH : FuncData} {tF : Tok} {k : Nat} (B : Bi mg) (gF : mg "PEOPLE_FROM" = some (.int 2 tF)) (D : Df K mg "read_house" sRHo f fd ["text"]) (DA : Df K mg "read_amount" sRAm fA fdA ["rows", "line", "word"]) (GA : FnOk P w K mg base CX0 (k + 6) fA fdA ["rows", "line", "word"] (spRAm K))
    (DP : Df K mg "read_people" sRPp fP fdP ["rows"]) (GP : FnOk P w K mg base CX0 (k + 6) fP fdP ["rows"] (spRPp K)) (DG : Df K mg "read_goods" sRGo fG fdG ["rows", "first"]) (GG : FnOk P w K mg base CX0 (k + 6) fG fdG ["rows", "first"] (spRGo K))
    (MH : Mk K CH fH) (gH : mg "House" = some (.ref CH)) (GH : FnOk P w K mg base (L2.CX P w) (k + 5) fH fdH ["self", "people", "goods", "purse", "debts"] (spHIf K CH)) (bH : Binds K fdH ["self", "people", "goods", "purse", "debts"] []) : FnOk P w K mg base CX0 (k + 7) f fd ["text"] (spRHo K CH) := by
  refine D.fn.ok scRHo (fun vs H Q E h => ?_) (fun cdv A outer s H vs Q E hr h => ?_)
  · obtain ⟨F, G, p, d, rfl, _⟩ := h
    rfl
  · obtain ⟨F, G, p, d, rfl, gf, gg, pu, q⟩ := h
    refine ⟨_, pss_cons (ps_if (pt_not (pt_val (pe_callB call_isi (by rfl) B.isi boot_isinstance (pa_cons (pv 0) (pa_cons (pe_bltn (v := .ty "str") (by rfl) B.str boot_str rfl) pa_nil))))) pss_noS pss_nil)
      (pss_cons (ps_set (i := 1) scRHo.nd rfl (.inl rfl) (pe_split (pv 0) pe_str))
      (pss_cons (ps_set (i := 2) scRHo.nd rfl (.inl rfl) (pe_call GA hr (by rfl) DA.mg DA.fn.kp DA.bd .nil pass0 (pa_cons (pv 1) (pa_cons pe_int (pa_cons pe_str pa_nil)))))
      (pss_cons (ps_set (i := 3) scRHo.nd rfl (.inl rfl) (pe_call GA hr (by rfl) DA.mg DA.fn.kp DA.bd .nil pass0 (pa_cons (pv 1) (pa_cons pe_int (pa_cons pe_str pa_nil)))))
      (pss_cons (ps_set (i := 4) scRHo.nd rfl (.inl rfl) (pe_call GP hr (by rfl) DP.mg DP.fn.kp DP.bd .nil pass0 (pa_cons (pv 1) pa_nil)))
      (pss_cons (ps_set (i := 5) scRHo.nd rfl (.inl rfl) (pe_call GG hr (by rfl) DG.mg DG.fn.kp DG.bd .nil pass0 (pa_cons (pv 1) (pa_cons (pe_op op_add (pe_glob (v := .int 2) (by rfl) gF ⟨_, rfl⟩) (pe_callB call_len_seq (by rfl) B.len PySem.boot_len (pa_cons (pv 4) pa_nil))) pa_nil))))
      (pss_one (ps_ret (pe_makeS MH GH hr (by rfl) gH bH .nil (fun _ => passHw) (pa_cons (pe_callTy call_tuple_of (by rfl) B.tuple boot_tuple (pa_cons (pv 4) pa_nil)) (pa_cons (pe_callTy call_tuple_of (by rfl) B.tuple boot_tuple (pa_cons (pv 5) pa_nil)) (pa_cons (pv 2) (pa_cons (pv 3) pa_nil)))))))))))), ?_⟩
    have hl := house_len gf gg pu
    have f8 := gf.l8
    have cp := hl_purse pu.p0 pu.p1
    have cd := hl_purse pu.d0 pu.d1
    refine ⟨_, rfl, _, .ty "str", .type "str", .type "str", true, rfl, .ty _, .base (.str _), kit_ty (by decide +kernel), true, rfl, iteF ⟨_, rfl, ⟨_, rfl⟩, houseT F G p d, "\n", rfl, rfl, rfl, small_len (by omega), ?_⟩⟩
    rw [house_split gf gg pu]
    intro aR nR
    have s1 : Same H (upd H aR (.lst ((linesT F G p d).map V.str))) := same_new nR
    have h1 : (upd H aR (.lst ((linesT F G p d).map V.str))) aR = some (.lst ((linesT F G p d).map V.str)) := upd_same
    revert s1 h1
    generalize upd H aR (.lst ((linesT F G p d).map V.str)) = H1
    intro s1 h1
    refine ⟨_, rfl, aR, linesT F G p d, 0, purseT p, "purse", p, rfl, h1, rfl, (purse_split pu.p0).1, by omega, pu.p0, pu.p1, fun H2 s2 => ?_⟩
    refine ⟨_, rfl, aR, linesT F G p d, 1, debtsT d, "debts", d, rfl, s2 _ _ h1, rfl, (purse_split pu.d0).2, by omega, pu.d0, pu.d1, fun H3 s3 => ?_⟩
    have h3 := (s2.trans s3) _ _ h1
    refine ⟨_, rfl, aR, purseT p, debtsT d, F, G, rfl, h3, gf, gg, fun H4 L xs s4 hL hx => ?_⟩
    have xl := hx.len
    refine ⟨_, rfl, _, rfl, L, _, rfl, .inl (sqL hL), _, _, rfl, rfl, ?_⟩
    have h4 := s4 _ _ h3
    have en : (2 : Int) + ((xs.length : Nat) : Int) = ((2 + F.length : Nat) : Int) := by omega
    have ed : (linesT F G p d).drop (2 + F.length) = G.map thingT := by
      unfold linesT
      rw [Nat.add_comm]
      show (F.map personT ++ G.map thingT).drop F.length = _
      rw [List.drop_append_of_le_length (by rw [List.length_map]; exact Nat.le_refl _), List.drop_of_length_le (by rw [List.length_map]; exact Nat.le_refl _), List.nil_append]
    refine ⟨aR, linesT F G p d, 2 + F.length, G, (by show [V.ref aR, V.int ((2 : Int) + ((xs.length : Nat) : Int))] = [V.ref aR, V.int ((2 + F.length : Nat) : Int)]; rw [en]), h4, ed, by simp only [linesT, List.length_cons, List.length_append, List.length_map]; omega, by omega, gg, fun H5 M ys s5 hM hy => ?_⟩
    have hL5 := s5 _ _ hL
    refine ⟨_, rfl, L, xs, rfl, .inl ⟨sqL hL5, fun t6 n6 => ?_⟩⟩
    have s6 : Same H5 (upd H5 t6 (.tup xs)) := same_new n6
    have f6 : FolkAt K (upd H5 t6 (.tup xs)) (.ref t6) F := folk_of (sqT upd_same) (rowF_tk hx (tk_same (s5.trans s6)))
    revert s6 f6
    generalize upd H5 t6 (.tup xs) = H6
    intro s6 f6
    refine ⟨_, rfl, M, ys, rfl, .inl ⟨sqL (s6 _ _ hM), fun t7 n7 => ?_⟩⟩
    have s7 : Same H6 (upd H6 t7 (.tup ys)) := same_new n7
    have g7 : GoodsAt K (upd H6 t7 (.tup ys)) (.ref t7) G := goods_of (sqT upd_same) (rowG_tk hy (tk_same (s6.trans s7)))
    revert s7 g7
    generalize upd H6 t7 (.tup ys) = H7
    intro s7 g7
    refine ⟨_, rfl, _, rfl, fun o dx no nd ne => ?_⟩
    have sN : Same H7 (upd (upd H7 dx (.own o)) o (.ins CH dx [])) := fun c x hc => by rw [upd_ne (ne_of_none hc no), upd_ne (ne_of_none hc nd)]; exact hc
    refine ⟨o, dx, .ref t6, .ref t7, p, d, F, G, rfl, upd_same, f6.tk (tk_same (s7.trans sN)), gf, .inr (g7.tk (tk_same sN)), gg, pu, fun H8 b8 hh => ⟨rfl, q H8 o ?_ hh⟩⟩
    have s78 : Same H7 H8 := fun c x hc => b8 c x (by simp [ne_of_none hc no]) (sN c x hc)
    exact ((((((s1.trans s2).trans s3).trans s4).trans s5).trans s6).trans s7).trans s78
end
end WdQ

set_option Elab.async false
set_option linter.all false
set_option maxRecDepth 100000
set_option maxHeartbeats 4000000
namespace Wd
open PySem PySem.Spec PyProof.Rows L2 WdM
/-! ### an own object's special methods: str, repr, len, ==, != -/
section
variable {X : Cx} {n : Nat} {f C : Addr} {fd : FuncData} {ps : List Str} {sp : Sp}
/-- a def is called somewhere below the running body -/
theorem run_own (F : FnOk X.prog X.w X.K X.mg X.base CX0 n f fd ps sp) (hb : Binds X.K fd ps []) {A : Around} (sb : Sub X n A) {pins : List (Addr × Obj)} {σ : L2.St} {H : Hp} {s : Shared} (I : Inv X pins σ H s) {vs : List V} {us : List Value} (r : Vals vs us) {Q : VK} (h : sp vs H Q E0) :
    wpAny (model X.prog X.w) A (call (.ref f) us) (fun u s' => ∃ v H', Inv X pins σ H' s' ∧ RelV v u ∧ Q v H') X.xe s := by
  have e0 : Env0 X.prog X.w X.K X.mg X.base A X.stack s H := by
    have e := I.env0
    exact ⟨by rw [sb.fr]; exact e.frames, e.mod, e.bs, e.bsz, e.funs, e.frf, e.hok, e.bare⟩
  have hl := F.len _ _ _ _ h
  have hu : us.length = vs.length := r.length.symm
  refine wpAny_call (codeAny_mono (F.run A X.stack s H ⟨us, []⟩ us vs _ E0 sb.room e0 (by
    have := hb s us I.kIn (by simpa [hu] using hl)
    simpa using this) r h) fun r s' hq => ?_)
  cases r with
  | error e => exact (hq : False).elim
  | ok fl =>
    cases fl with
    | ret w =>
      obtain ⟨z, H', I', rz, ez⟩ := I.after hq
      exact ⟨z, H', I', rz, ez⟩
    | next => exact False.elim hq
    | brk => exact False.elim hq
    | cont => exact False.elim hq
def rOwnS (C : Addr) (sp : Sp) : List V → Hp → VK → Prop := fun xs H Q => ∃ a dx fs, xs = [.ref a] ∧ H a = some (.ins C dx fs) ∧ sp [.ref a] H (fun v H' => ∃ y, v = .str y ∧ Q v H') E0
def rOwnI (C : Addr) (sp : Sp) : List V → Hp → VK → Prop := fun xs H Q => ∃ a dx fs, xs = [.ref a] ∧ H a = some (.ins C dx fs) ∧ sp [.ref a] H (fun v H' => ∃ i : Int, v = .int i ∧ 0 ≤ i ∧ i < 2 ^ 62 ∧ Q v H') E0
theorem call_strO (F : FnOk X.prog X.w X.K X.mg X.base CX0 n f fd ps sp) (hs : PySem.W.findIn X.K (.ref C) "__str__" = some (some (.ref f))) (hf : PySem.W.isFn X.K (.ref f) = true) (hb : Binds X.K fd ps []) (room : Room (n + 2) X.A) : CallR X (.type "str") (rOwnS C sp) := by
  rintro pins s σ H _ us Q I r ⟨a, dx, fs, rfl, ha, h⟩
  obtain ⟨u, rfl, ru⟩ := vals1 r
  cases ru
  obtain ⟨mA, J, _⟩ := ins_get I.hok ha
  obtain ⟨od, J, _⟩ := J.look
  have sb : Sub X n X.A.in1.in1 := (Sub.in1 (Sub.in1 ⟨room, rfl⟩))
  refine PySem.W.kso_call sb.room.units0 I.kIn J hs hf (wpAny_mono (run_own (vs := [.ref a]) (us := [.ref a]) F hb sb I (.cons rfl .nil) h) (fun v s' z => ?_) fun _ _ z => z)
  obtain ⟨v, H', I', rv, y, rfl, q⟩ := z
  obtain ⟨t, rfl⟩ := rv
  exact ⟨.str y, H', I', ⟨t, rfl⟩, q⟩
theorem call_reprO (F : FnOk X.prog X.w X.K X.mg X.base CX0 n f fd ps sp) (hs : PySem.W.findIn X.K (.ref C) "__repr__" = some (some (.ref f))) (hf : PySem.W.isFn X.K (.ref f) = true) (hb : Binds X.K fd ps []) (room : Room (n + 1) X.A) : CallR X (.builtin "repr") (rOwnS C sp) := by
  rintro pins s σ H _ us Q I r ⟨a, dx, fs, rfl, ha, h⟩
  obtain ⟨u, rfl, ru⟩ := vals1 r
  cases ru
  obtain ⟨mA, J, _⟩ := ins_get I.hok ha
  obtain ⟨od, J, _⟩ := J.look
  obtain ⟨m, hF⟩ := I.fr
  have sb : Sub X n X.A.in1 := (Sub.in1 ⟨room, rfl⟩)
  refine PySem.W.repr_K sb.room.units0 hF I.ok.mod.kin J hs hf (wpAny_mono (run_own (vs := [.ref a]) (us := [.ref a]) F hb sb I (.cons rfl .nil) h) (fun v s' z => ?_) fun _ _ z => z)
  obtain ⟨v, H', I', rv, y, rfl, q⟩ := z
  obtain ⟨t, rfl⟩ := rv
  exact ⟨.str y, H', I', ⟨t, rfl⟩, q⟩
theorem call_lenO (F : FnOk X.prog X.w X.K X.mg X.base CX0 n f fd ps sp) (hs : PySem.W.findIn X.K (.ref C) "__len__" = some (some (.ref f))) (hf : PySem.W.isFn X.K (.ref f) = true) (hb : Binds X.K fd ps []) (room : Room (n + 1) X.A) : CallR X (.builtin "len") (rOwnI C sp) := by
  rintro pins s σ H _ us Q I r ⟨a, dx, fs, rfl, ha, h⟩
  obtain ⟨u, rfl, ru⟩ := vals1 r
  cases ru
  obtain ⟨mA, J, _⟩ := ins_get I.hok ha
  obtain ⟨od, J, _⟩ := J.look
  obtain ⟨m, hF⟩ := I.fr
  have sb : Sub X n X.A.in1 := (Sub.in1 ⟨room, rfl⟩)
  refine PySem.W.len_K hF I.ok.mod.kin J hs hf (wpAny_mono (run_own (vs := [.ref a]) (us := [.ref a]) F hb sb I (.cons rfl .nil) h) (fun v s' z => ?_) fun _ _ z => z)
  obtain ⟨v, H', I', rv, i, rfl, i0, i1, q⟩ := z
  obtain ⟨t, rfl⟩ := rv
  exact ⟨⟨i0, Int.lt_of_lt_of_le i1 (by decide)⟩, .int i, H', I'.tok _, ⟨_, rfl⟩, q⟩
/-- x == y of two own objects of one class -/
def rOwnE (C : Addr) (sp : Sp) (g : Bool → Bool) : R2 := fun x y H Q => ∃ a b dx dy fs gs, x = .ref a ∧ y = .ref b ∧ H a = some (.ins C dx fs) ∧ H b = some (.ins C dy gs) ∧ sp [.ref a, .ref b] H (fun v H' => ∃ k, v = .bl k ∧ Q (.bl (g k)) H') E0
theorem op_eqO (F : FnOk X.prog X.w X.K X.mg X.base CX0 n f fd ps sp) (hs : PySem.W.findIn X.K (.ref C) "__eq__" = some (some (.ref f))) (hf : PySem.W.isFn X.K (.ref f) = true) (hb : Binds X.K fd ps []) (room : Room n X.A) : OpR X (compareOp .Eq) (rOwnE C sp id) := by
  rintro pins s σ H _ _ u v Q I rx ry ⟨a, b, dx, dy, fs, gs, rfl, rfl, ha, hb', h⟩
  cases rx
  cases ry
  obtain ⟨mA, J, _⟩ := ins_get I.hok ha
  obtain ⟨mB, J', _⟩ := ins_get I.hok hb'
  obtain ⟨od, J, _⟩ := J.look
  obtain ⟨od', J', _⟩ := J'.look
  obtain ⟨m, hF⟩ := I.fr
  have sb : Sub X n X.A := ⟨room, rfl⟩
  refine PySem.W.cmp_K (op := .Eq) (tb := .ref C) sb.room.units0 hF I.ok.mod.kin J J'.type (by simp [PySem.W.notFirst]) hs hf (wpAny_mono (run_own (vs := [.ref a, .ref b]) (us := [.ref a, .ref b]) F hb sb I (.cons rfl (.cons rfl .nil)) h) (fun v s' z => ?_) fun _ _ z => z)
  obtain ⟨v, H', I', rv, k, rfl, q⟩ := z
  cases rv
  exact ⟨.bl k, H', I', rfl, q⟩
end
end Wd

set_option Elab.async false
set_option linter.all false
set_option maxRecDepth 100000
set_option maxHeartbeats 4000000
namespace Wd
open PySem PySem.Spec PyProof.Rows L2 WdM
section
variable {prog : Program} {w : World} {A : Around} {E : Value → Shared → Prop} {s : Shared} {K : PySem.W.Frag} {x C f : Addr} {ox : Obj} {od : Option Obj} {b tb : Value}
open PySem.W in
theorem ifBound_B {M : Model} {name : Str} {id : String} {args : List Value} {Q : Option Value → Shared → Prop} (X : K.In s.heap) (I : InstAt s.heap x ox C od) (hs : findIn K (.ref C) name = some (some (.builtin id))) (hb : ∀ self, bindSpecial (.builtin id) self = pure (.builtin id, [self]))
    (h : wpAny M A (call (.builtin id) (.ref x :: args)) (fun v => Q (some v)) E s) : wpAny M A (callSpecialIfBound? (.ref x) name args) Q E s := by
  simp only [callSpecialIfBound?, bindSpecialIfBound?]
  refine wpAny_holding (wpAny_bind (wpAny_bind (wpAny_bind (I.type.here ((looks_findIn X hs).here ?_)))))
  simp only [hb]
  refine wpAny_bind (wpAny_askSetting (wpAny_ite ?_))
  have fin : wpAny M A (call (.builtin id) ([.ref x] ++ args) >>= fun v => pure (some v)) Q E s := wpAny_bind (wpAny_mono h (fun v s' h' => wpAny_pure h') fun _ _ h' => h')
  split
  · exact wpAny_bind (wpAny_pure (wpAny_pure fin))
  · exact wpAny_tryCatch (wpAny_bind (wpAny_pure (wpAny_pure fin)))
open PySem.W in
theorem objNe_K (hu : A.units < cLine) (X : K.In s.heap) (I : InstAt s.heap x ox C od) (he : findIn K (.ref C) "__eq__" = some (some (.ref f))) (hf : isFn K (.ref f) = true) {Q : PySem.Fin → Shared → Prop}
    (hcall : wpAny (model prog w) A (call (.ref f) [.ref x, b]) (fun v s' => ∃ k, v = .bool k ∧ Q (.done (.ret (.bool (!k)))) s') E s) :
    wpAny (model prog w) A (Builtin.«object.__ne__» ⟨[.ref x, b], []⟩) Q E s := by
  unfold Builtin.«object.__ne__»
  repeat (first
    | with_reducible refine wpAny_cRoomFor hu ?_
    | (refine wpAny_bind (m := callSpecialIfBound? (.ref x) (Str.ofString "__eq__") [b])
        (ifBound_K X I he hf (wpAny_mono hcall (fun r s' hr => by
          obtain ⟨k, rfl, hq⟩ := hr
          repeat (first | exact hq | exact wpAny_pure hq | exact wpAny_truthy_bool hq | (refine wpAny_bind (m := truthy (.bool _)) (wpAny_truthy_bool ?_)) | wp_step)) fun _ _ e => e)))
    | wp_step)
open PySem.W in
theorem ne_K {Q : Value → Shared → Prop} (hu : A.units + 1 < cLine) (X : K.In s.heap) (I : InstAt s.heap x ox C od) (hb : Looks (model prog w) s.heap (typeOf b) tb) (hn : notFirst K C tb = true) (hm : mroIn K C (.type "object") = some true)
    (hne : findIn K (.ref C) "__ne__" = some (some (.builtin "object.__ne__"))) (he : findIn K (.ref C) "__eq__" = some (some (.ref f))) (hf : isFn K (.ref f) = true)
    (h : wpAny (model prog w) A.in1 (call (.ref f) [.ref x, b]) (fun v s' => ∃ k, v = .bool k ∧ Q (.bool (!k)) s') E s) : wpAny (model prog w) A (richCompare .NotEq (.ref x) b) Q E s := by
  have one : wpAny (model prog w) A (tryCompare (.ref x) (cmpInfo .NotEq).2.1 b) (fun r s' => ∃ v, r = some v ∧ Q v s') E s := by
    simp only [tryCompare]
    refine wpAny_bind (ifBound_B X I hne PySem.F.slot_object_ne.bind (wpAny_call (codeAny_call_builtin PySem.F.slot_object_ne.plain PySem.F.cmpEntry_ne
      (check_slot (i := "object.__ne__") (owner := "object") (n := "__ne__") (by decide +kernel) (by decide +kernel) (I.type.andThen (looks_mroIn X hm)) (PySem.F.cmpArgs_ne _ _)
        (objNe_K (A := A.in1) hu X I he hf (wpAny_mono h (fun v s' hv => ?_) fun _ _ e => e))))))
    obtain ⟨k, rfl, hq⟩ := hv
    first | exact ⟨k, rfl, wpAny_pure ⟨_, rfl, hq⟩⟩ | exact ⟨k, rfl, wpAny_pure (wpAny_pure ⟨_, rfl, hq⟩)⟩ | exact ⟨k, rfl, ⟨_, rfl, hq⟩⟩
  unfold richCompare
  simp only [oneThing_ref]
  refine wpAny_holding (wpAny_bind (wpAny_cRoomFor (Nat.lt_of_succ_lt hu) ?_))
  refine wpAny_bind (I.type.here (wpAny_bind (hb.here ?_)))
  split
  · rename_i q
    have e : subIn K tb (.ref C) = some false := by
      rcases Bool.or_eq_true_iff.mp hn with e | e
      · rw [beq_iff_eq.mp e] at q; simp at q
      · exact beq_iff_eq.mp e
    refine wpAny_bind ((looks_subIn X e).here ?_)
    simp only [Bool.false_eq_true, if_false]
    refine wpAny_bind (wpAny_mono one (fun r s' z => ?_) fun _ _ e => e)
    obtain ⟨v, rfl, hq⟩ := z
    exact wpAny_pure hq
  · refine wpAny_bind (wpAny_pure ?_)
    simp only [Bool.false_eq_true, if_false]
    refine wpAny_bind (wpAny_mono one (fun r s' z => ?_) fun _ _ e => e)
    obtain ⟨v, rfl, hq⟩ := z
    exact wpAny_pure hq
end
section
variable {X : Cx} {n : Nat} {f C : Addr} {fd : FuncData} {ps : List Str} {sp : Sp}
theorem op_neO (F : FnOk X.prog X.w X.K X.mg X.base CX0 n f fd ps sp) (hne : PySem.W.findIn X.K (.ref C) "__ne__" = some (some (.builtin "object.__ne__"))) (hm : PySem.W.mroIn X.K C (.type "object") = some true) (hs : PySem.W.findIn X.K (.ref C) "__eq__" = some (some (.ref f))) (hf : PySem.W.isFn X.K (.ref f) = true) (hb : Binds X.K fd ps []) (room : Room (n + 1) X.A) : OpR X (compareOp .NotEq) (rOwnE C sp (fun k => !k)) := by
  rintro pins s σ H _ _ u v Q I rx ry ⟨a, b, dx, dy, fs, gs, rfl, rfl, ha, hb', h⟩
  cases rx
  cases ry
  obtain ⟨mA, J, _⟩ := ins_get I.hok ha
  obtain ⟨mB, J', _⟩ := ins_get I.hok hb'
  obtain ⟨od, J, _⟩ := J.look
  obtain ⟨od', J', _⟩ := J'.look
  have sb : Sub X n X.A.in1 := (Sub.in1 ⟨room, rfl⟩)
  refine ne_K (tb := .ref C) sb.room.units0 I.kIn J J'.type (by simp [PySem.W.notFirst]) hm hne hs hf (wpAny_mono (run_own (vs := [.ref a, .ref b]) (us := [.ref a, .ref b]) F hb sb I (.cons rfl (.cons rfl .nil)) h) (fun v s' z => ?_) fun _ _ z => z)
  obtain ⟨v, H', I', rv, k, rfl, q⟩ := z
  cases rv
  exact ⟨k, rfl, .bl (!k), H', I', rfl, q⟩
/-- {o} in an f-string, o an own object -/
def tFmtO (C : Addr) (sp : Sp) (te : TE) : TE := fun σ H Q => te σ H fun x H1 => ∃ a dx fs, x = .ref a ∧ H1 a = some (.ins C dx fs) ∧ sp [.ref a] H1 (fun v H' => ∃ y, v = .str y ∧ Q v H') E0
theorem pe_fmtO {e : Expr} {te : TE} {pos : Pos} (F : FnOk X.prog X.w X.K X.mg X.base CX0 n f fd ps sp) (hfm : PySem.W.findIn X.K (.ref C) "__format__" = some (some (.builtin "object.__format__"))) (hm : PySem.W.mroIn X.K C (.type "object") = some true) (hs : PySem.W.findIn X.K (.ref C) "__str__" = some (some (.ref f))) (hf : PySem.W.isFn X.K (.ref f) = true) (hb : Binds X.K fd ps []) (room : Room (n + 1) X.A) (he : PE X e te) : PE X (.FormattedValue e (-1) none pos) (tFmtO C sp te) := by
  refine ⟨fun pins s σ H Q I h => ?_⟩
  refine wpAny_FormattedValue_plain (thn (he.run pins s σ H _ I h) fun v s1 hv => ?_)
  obtain ⟨x, H1, I1, r1, a, dx, fs, rfl, ha, q⟩ := hv
  cases r1
  obtain ⟨mA, J, _⟩ := ins_get I1.hok ha
  obtain ⟨od, J, _⟩ := J.look
  have sb : Sub X n X.A.in1 := (Sub.in1 ⟨room, rfl⟩)
  refine PySem.W.kfo_fieldS sb.room.units0 I1.kIn J hfm hm hs hf (wpAny_mono (run_own (vs := [.ref a]) (us := [.ref a]) F hb sb (I1.tok _) (.cons rfl .nil) q) (fun v s' z => ?_) fun _ _ z => z)
  obtain ⟨v, H', I', rv, y, rfl, q⟩ := z
  obtain ⟨t, rfl⟩ := rv
  exact ⟨.str y, H', I', ⟨t, rfl⟩, q⟩
end
end Wd

set_option Elab.async false
set_option linter.all false
set_option maxRecDepth 100000
set_option maxHeartbeats 4000000
namespace PySem.SeqAt
open AutoSeq1 (wpAny_loadPart')
open MeetsSeq MeetsSeq2 MeetsSeq3 SeqRoads2
section
variable {prog : Program} {w : World} {J : Shared → Prop} {e : Value → Bool}
/-- a look at each item that keeps J -/
def LooksJ (prog : Program) (w : World) (J : Shared → Prop) (e : Value → Bool) (A : Around) (items : Array Value) (x : Value) (E : Value → Shared → Prop) : Prop :=
  ∀ y, y ∈ items → ∀ (s : Shared), J s → wpAny (model prog w) A (eqBool y x) (fun b s' => b = e y ∧ J s') E s
/-- x in a list, where each look may change what J speaks of -/
theorem contains_loopJ (l : Addr) (items : Array Value) (x : Value) (k : Nat) :
    ∀ i : Nat, items.size - i = k → MeetsIn prog w (Builtin.«list.__contains__.loop» ⟨[.ref l, x, rawInt i], []⟩)
      (fun A R s => J s ∧ (∀ s, J s → s.heap.IsList l items) ∧ LooksJ prog w J e A.in1 items x (fun z s' => R (.error z) s') ∧ ∀ s', J s' → R (.ok (.ret (.bool ((items.toList.drop i).any e)))) s') := by
  induction k with
  | zero =>
    intro i hk A R s h
    obtain ⟨js, jl, he, h⟩ := h
    obtain ⟨⟨cls, dd, data, sl⟩, hl, hc, n, hd0⟩ := jl _ js
    simp only at hc hd0
    subst hc hd0
    have h := h _ js
    obtain ⟨hp, g, d, tk, os⟩ := s
    wp_walk using wpAny_loadPart' hl
    have hi : items[((i : Nat) : Int).toNat]? = none := by simp; omega
    have hd : items.toList.drop i = [] := by simp; omega
    rw [hd] at h
    rw [hi]
    wp_walk
    exact h
  | succ k ih =>
    intro i hk A R s h
    obtain ⟨js, jl, he, h⟩ := h
    obtain ⟨⟨cls, dd, data, sl⟩, hl, hc, n, hd0⟩ := jl _ js
    simp only at hc hd0
    subst hc hd0
    obtain ⟨hp, g, d, tk, os⟩ := s
    wp_walk using wpAny_loadPart' hl
    have hlt : i < items.size := by omega
    have hi : items[((i : Nat) : Int).toNat]? = some items[i] := by simp [hlt]
    have hd : items.toList.drop i = items[i] :: items.toList.drop (i + 1) := by simp [List.drop_eq_getElem_cons, hlt]
    rw [hd, List.any_cons] at h
    rw [hi]
    refine wpAny_bind (wpAny_mono (he _ (Array.getElem_mem hlt) _ js) (fun b s' hb => ?_) fun _ _ z => z)
    obtain ⟨rfl, js'⟩ := hb
    cases hb : e items[i] with
    | true =>
      rw [hb] at h
      have h := h _ js'
      wp_walk
      exact h
    | false =>
      rw [hb] at h
      have hc : ((i : Int) + 1) = ((i + 1 : Nat) : Int) := by push_cast; rfl
      wp_walk
      rw [hc]
      exact ⟨plainId_quiet plain_contains_loop _, codeAny_builtin entry_contains_loop (by
        rw [Around.under_plainId plain_contains_loop _]
        exact ih (i + 1) (by omega) A R _ ⟨js', jl, he, by simpa using h⟩)⟩
theorem list_containsJ (l : Addr) (items : Array Value) (x : Value) :
    MeetsIn prog w (Builtin.«list.__contains__» ⟨[.ref l, x], []⟩)
      (fun A R s => J s ∧ (∀ s, J s → s.heap.IsList l items) ∧ LooksJ prog w J e A.in1 items x (fun z s' => R (.error z) s') ∧ ∀ s', J s' → R (.ok (.ret (.bool (items.any e)))) s') := by
  intro A R s h
  obtain ⟨js, jl, he, h⟩ := h
  obtain ⟨⟨cls, dd, data, sl⟩, hl, hc, n, hd0⟩ := jl _ js
  simp only at hc hd0
  subst hc hd0
  obtain ⟨hp, g, d, tk, os⟩ := s
  wp_walk using wpAny_loadPart' hl
  exact ⟨plainId_quiet plain_contains_loop _, codeAny_builtin entry_contains_loop (by
    rw [Around.under_plainId plain_contains_loop _]
    exact contains_loopJ l items x _ 0 rfl A R _ ⟨js, jl, he, by simpa using h⟩)⟩
variable {A : Around} {E : Value → Shared → Prop} {s : Shared}
theorem in_listJ {l : Addr} {items : Array Value} {x : Value} {Q : Value → Shared → Prop} (js : J s) (jl : ∀ s, J s → s.heap.IsList l items) (he : LooksJ prog w J e A.in1 items x E)
    (h : ∀ s', J s' → Q (.bool (items.any e)) s') : wpAny (model prog w) A (compareOp .In x (.ref l)) Q E s := by
  obtain ⟨o, ho, hc, _⟩ := jl _ js
  show wpAny _ A (do return .bool (← contains (.ref l) x)) Q E s
  refine wpAny_bind (wpAny_contains_slot ⟨o, ho, hc⟩ F.slot_list_contains (wpAny_mono (call_meetsIn F.slot_list_contains ⟨o, ho, hc⟩ F.entry_list_contains (F.args_list_contains_2 _ _) (list_containsJ l items x) (Q := fun v s' => ∃ b, v = .bool b ∧ Q (.bool b) s') ⟨js, jl, he, fun s' h' => ⟨_, rfl, h s' h'⟩⟩) (fun v s' hv => ?_) fun _ _ e => e))
  obtain ⟨b, rfl, hq⟩ := hv
  exact wpAny_truthy_bool (wpAny_pure hq)
theorem notIn_listJ {l : Addr} {items : Array Value} {x : Value} {Q : Value → Shared → Prop} (js : J s) (jl : ∀ s, J s → s.heap.IsList l items) (he : LooksJ prog w J e A.in1 items x E)
    (h : ∀ s', J s' → Q (.bool (!items.any e)) s') : wpAny (model prog w) A (compareOp .NotIn x (.ref l)) Q E s := by
  obtain ⟨o, ho, hc, _⟩ := jl _ js
  show wpAny _ A (do return .bool (!(← contains (.ref l) x))) Q E s
  refine wpAny_bind (wpAny_contains_slot ⟨o, ho, hc⟩ F.slot_list_contains (wpAny_mono (call_meetsIn F.slot_list_contains ⟨o, ho, hc⟩ F.entry_list_contains (F.args_list_contains_2 _ _) (list_containsJ l items x) (Q := fun v s' => ∃ b, v = .bool b ∧ Q (.bool (!b)) s') ⟨js, jl, he, fun s' h' => ⟨_, rfl, h s' h'⟩⟩) (fun v s' hv => ?_) fun _ _ e => e))
  obtain ⟨b, rfl, hq⟩ := hv
  exact wpAny_truthy_bool (wpAny_pure hq)
end
end PySem.SeqAt
namespace Wd
open PySem PySem.Spec PyProof.Rows L2 WdM
section
variable {X : Cx} {n : Nat} {f C : Addr} {fd : FuncData} {ps : List Str} {sp : Sp}
/-- x == y, x an own object, y any thing whose type doesn't come ahead of x's class -/
def rOwnV (K : PySem.W.Frag) (C : Addr) (sp : Sp) (g : Bool → Bool) : R2 := fun x y H Q => ∃ a dx fs t, x = .ref a ∧ H a = some (.ins C dx fs) ∧ TyX K H y t ∧ PySem.W.notFirst K C t = true ∧ sp [.ref a, y] H (fun v H' => ∃ k, v = .bl k ∧ Q (.bl (g k)) H') E0
theorem op_eqV (F : FnOk X.prog X.w X.K X.mg X.base CX0 n f fd ps sp) (hs : PySem.W.findIn X.K (.ref C) "__eq__" = some (some (.ref f))) (hf : PySem.W.isFn X.K (.ref f) = true) (hb : Binds X.K fd ps []) (room : Room n X.A) : OpR X (compareOp .Eq) (rOwnV X.K C sp id) := by
  rintro pins s σ H _ y u v Q I rx ry ⟨a, dx, fs, t, rfl, ha, ty, nf, h⟩
  cases rx
  obtain ⟨mA, J, _⟩ := ins_get I.hok ha
  obtain ⟨od, J, _⟩ := J.look
  obtain ⟨m, hF⟩ := I.fr
  obtain ⟨P, Z, p, _⟩ := kit_of I ry ty
  have sb : Sub X n X.A := ⟨room, rfl⟩
  refine PySem.W.cmp_K (op := .Eq) (tb := t) sb.room.units0 hF I.ok.mod.kin J (Z.ty _ _ I.kIn p) nf hs hf (wpAny_mono (run_own (vs := [.ref a, y]) (us := [.ref a, v]) F hb sb I (.cons rfl (.cons ry .nil)) h) (fun v s' z => ?_) fun _ _ z => z)
  obtain ⟨v, H', I', rv, k, rfl, q⟩ := z
  cases rv
  exact ⟨.bl k, H', I', rfl, q⟩
theorem op_neV (F : FnOk X.prog X.w X.K X.mg X.base CX0 n f fd ps sp) (hne : PySem.W.findIn X.K (.ref C) "__ne__" = some (some (.builtin "object.__ne__"))) (hm : PySem.W.mroIn X.K C (.type "object") = some true) (hs : PySem.W.findIn X.K (.ref C) "__eq__" = some (some (.ref f))) (hf : PySem.W.isFn X.K (.ref f) = true) (hb : Binds X.K fd ps []) (room : Room (n + 1) X.A) : OpR X (compareOp .NotEq) (rOwnV X.K C sp (fun k => !k)) := by
  rintro pins s σ H _ y u v Q I rx ry ⟨a, dx, fs, t, rfl, ha, ty, nf, h⟩
  cases rx
  obtain ⟨mA, J, _⟩ := ins_get I.hok ha
  obtain ⟨od, J, _⟩ := J.look
  obtain ⟨P, Z, p, _⟩ := kit_of I ry ty
  have sb : Sub X n X.A.in1 := (Sub.in1 ⟨room, rfl⟩)
  refine ne_K (tb := t) sb.room.units0 I.kIn J (Z.ty _ _ I.kIn p) nf hm hne hs hf (wpAny_mono (run_own (vs := [.ref a, y]) (us := [.ref a, v]) F hb sb I (.cons rfl (.cons ry .nil)) h) (fun v s' z => ?_) fun _ _ z => z)
  obtain ⟨v, H', I', rv, k, rfl, q⟩ := z
  cases rv
  exact ⟨k, rfl, .bl (!k), H', I', rfl, q⟩
/-- x in a list of own objects, x one of them: J what holds of the heap all along, e what each look tells -/
def rInO (K : PySem.W.Frag) (C : Addr) (sp : Sp) (g : Bool → Bool) : R2 := fun x y H Q => ∃ (a p : Addr) (as : List Addr) (J : Hp → Prop) (e : Addr → Bool), x = .ref a ∧ y = .ref p ∧ J H ∧
  (∀ H', J H' → H' p = some (.lst (as.map V.ref)) ∧ (∃ dx fs, H' a = some (.ins C dx fs)) ∧ ∀ b ∈ as, (∃ dx fs, H' b = some (.ins C dx fs)) ∧ (b = a → e b = true) ∧ sp [.ref b, .ref a] H' (fun v H'' => v = .bl (e b) ∧ J H'') E0) ∧ ∀ H', J H' → Q (.bl (g (as.any e))) H'
def eOf (e : Addr → Bool) : Value → Bool
  | .ref a => e a
  | _ => false
theorem vals_refs : ∀ {as : List Addr} {us : List Value}, Vals (as.map V.ref) us → us = as.map Value.ref
  | [], _, .nil => rfl
  | a :: as, _, .cons r t => by rw [vals_refs t, show _ = Value.ref a from r]; rfl
theorem any_refs (e : Addr → Bool) : ∀ as : List Addr, (as.map Value.ref).any (eOf e) = as.any e
  | [] => rfl
  | a :: as => by rw [List.map_cons, List.any_cons, List.any_cons, any_refs e as]; rfl
theorem eqBool_own (F : FnOk X.prog X.w X.K X.mg X.base CX0 n f fd ps sp) (hs : PySem.W.findIn X.K (.ref C) "__eq__" = some (some (.ref f))) (hf : PySem.W.isFn X.K (.ref f) = true) (hb : Binds X.K fd ps []) (room : Room (n + 1) X.A) {pins : List (Addr × Obj)} {σ : L2.St} {J : Hp → Prop} {e : Addr → Bool} {a b : Addr} {s : Shared} (h : ∃ H', Inv X pins σ H' s ∧ J H')
    (hb1 : ∀ H', J H' → (∃ dx fs, H' b = some (.ins C dx fs)) ∧ (∃ dx fs, H' a = some (.ins C dx fs)) ∧ (b = a → e b = true) ∧ sp [.ref b, .ref a] H' (fun v H'' => v = .bl (e b) ∧ J H'') E0) : wpAny (model X.prog X.w) X.A.in1 (eqBool (.ref b) (.ref a)) (fun k s' => k = e b ∧ ∃ H', Inv X pins σ H' s' ∧ J H') X.xe s := by
  obtain ⟨H', I, j⟩ := h
  obtain ⟨⟨dx, fs, hB⟩, ⟨dy, gs, hA⟩, eq, h⟩ := hb1 H' j
  unfold eqBool
  refine wpAny_holding ?_
  refine wpAny_ite_split (fun hab => ?_) (fun _ => ?_)
  · have := eq_of_beq hab
    injection this with this
    exact wpAny_bind (wpAny_rule (wpAny_pure ⟨(eq this).symm, H', I, j⟩))
  · obtain ⟨mB, O, _⟩ := ins_get I.hok hB
    obtain ⟨mA, O', _⟩ := ins_get I.hok hA
    obtain ⟨od, O, _⟩ := O.look
    obtain ⟨od', O', _⟩ := O'.look
    obtain ⟨m, hF⟩ := I.fr
    have sb : Sub X n X.A.in1 := Sub.in1 ⟨room, rfl⟩
    have run := run_own (vs := [.ref b, .ref a]) (us := [.ref b, .ref a]) F hb sb I (.cons rfl (.cons rfl .nil)) h
    refine wpAny_bind (PySem.W.cmp_K (op := .Eq) (tb := .ref C) sb.room.units0 hF I.ok.mod.kin O O'.type (by simp [PySem.W.notFirst]) hs hf (wpAny_mono run (fun v s' z => ?_) fun _ _ z => z))
    obtain ⟨v, H2, I2, rv, rfl, j2⟩ := z
    cases rv
    exact wpAny_truthy_bool ⟨rfl, H2, I2, j2⟩
theorem op_inO (F : FnOk X.prog X.w X.K X.mg X.base CX0 n f fd ps sp) (hs : PySem.W.findIn X.K (.ref C) "__eq__" = some (some (.ref f))) (hf : PySem.W.isFn X.K (.ref f) = true) (hb : Binds X.K fd ps []) (room : Room (n + 1) X.A) : OpR X (compareOp .In) (rInO X.K C sp id) := by
  rintro pins s σ H _ _ u v Q I rx ry ⟨a, p, as, J, e, rfl, rfl, j0, jj, q⟩
  cases rx
  cases ry
  refine SeqAt.in_listJ (items := (as.map Value.ref).toArray) (e := eOf e) (J := fun s' => ∃ H', Inv X pins σ H' s' ∧ J H') ⟨H, I, j0⟩ (fun s' h' => ?_) (fun y hy s' h' => ?_) (fun s' h' => ?_)
  · obtain ⟨H', I', j'⟩ := h'
    obtain ⟨its, rv, hl, _⟩ := I'.list (sqL (jj H' j').1)
    rw [vals_refs rv] at hl
    exact hl.isList
  · obtain ⟨b, hb2, rfl⟩ := List.mem_map.mp (List.mem_toArray.mp hy)
    exact eqBool_own F hs hf hb room h' fun H' j' => ⟨((jj H' j').2.2 b hb2).1, (jj H' j').2.1, ((jj H' j').2.2 b hb2).2⟩
  · obtain ⟨H', I', j'⟩ := h'
    refine ⟨.bl _, H', I', rfl, ?_⟩
    have := q H' j'
    rw [← any_refs] at this
    simpa using this
theorem op_notInO (F : FnOk X.prog X.w X.K X.mg X.base CX0 n f fd ps sp) (hs : PySem.W.findIn X.K (.ref C) "__eq__" = some (some (.ref f))) (hf : PySem.W.isFn X.K (.ref f) = true) (hb : Binds X.K fd ps []) (room : Room (n + 1) X.A) : OpR X (compareOp .NotIn) (rInO X.K C sp fun k => !k) := by
  rintro pins s σ H _ _ u v Q I rx ry ⟨a, p, as, J, e, rfl, rfl, j0, jj, q⟩
  cases rx
  cases ry
  refine SeqAt.notIn_listJ (items := (as.map Value.ref).toArray) (e := eOf e) (J := fun s' => ∃ H', Inv X pins σ H' s' ∧ J H') ⟨H, I, j0⟩ (fun s' h' => ?_) (fun y hy s' h' => ?_) (fun s' h' => ?_)
  · obtain ⟨H', I', j'⟩ := h'
    obtain ⟨its, rv, hl, _⟩ := I'.list (sqL (jj H' j').1)
    rw [vals_refs rv] at hl
    exact hl.isList
  · obtain ⟨b, hb2, rfl⟩ := List.mem_map.mp (List.mem_toArray.mp hy)
    exact eqBool_own F hs hf hb room h' fun H' j' => ⟨((jj H' j').2.2 b hb2).1, (jj H' j').2.1, ((jj H' j').2.2 b hb2).2⟩
  · obtain ⟨H', I', j'⟩ := h'
    refine ⟨.bl _, H', I', rfl, ?_⟩
    have := q H' j'
    rw [← any_refs] at this
    simpa using this
end
end Wd

set_option Elab.async false
set_option linter.all false
set_option maxRecDepth 100000
set_option maxHeartbeats 4000000
set_option exponentiation.threshold 5000
namespace WdQ
open PySem PySem.Spec PyProof.Rows L2 WdM Wd
/-! ### a house as a law has it: a tuple of people, goods, purse, debts -/
theorem emp_app (x : Str) : Str.empty ++ x = x := TL.ext_tl (by rw [TL.tl_append]; rfl)
section
variable {P : Program} {w : World} {K : PySem.W.Frag} {mg : Str → Option Value} {base : Heap} {CH : Addr}
def HT (K : PySem.W.Frag) (H : Hp) (v : V) (F : List (Str × Option Str)) (G : List Gd) (p d : Int) : Prop := ∃ hp tf tg : Addr, v = .ref hp ∧ SqT K H hp [.ref tf, .ref tg, .int p, .int d] ∧ FolkAt K H (.ref tf) F ∧ GoodsAt K H (.ref tg) G ∧ GoodF F ∧ GoodG G ∧ Pu p d
theorem HT.tk {H H' : Hp} {v : V} {F : List (Str × Option Str)} {G : List Gd} {p d : Int} (h : HT K H v F G p d) (e : Tk H H') : HT K H' v F G p d := by
  obtain ⟨hp, tf, tg, rfl, hh, hf, hg, r⟩ := h
  exact ⟨hp, tf, tg, rfl, e.sq hh, hf.tk e, hg.tk e, r⟩
end
end WdQ

set_option Elab.async false
set_option linter.all false
set_option maxRecDepth 100000
set_option maxHeartbeats 4000000
namespace Wd
open PySem PySem.Spec PyProof.Rows L2 WdM
/-! ### data compared, as structures; methods of an own class -/
structure RqN (K : PySem.W.Frag) (x y : V) (H : Hp) (Q : VK) : Prop where
  it : rNeD K x y H Q
structure RqE (K : PySem.W.Frag) (x y : V) (H : Hp) (Q : VK) : Prop where
  it : rEqD K x y H Q
theorem op_rqN {X : Cx} (hu : X.A.units + 64 < cLine) : OpR X (compareOp .NotEq) (RqN X.K) := fun pins s σ H x y v u Q I rx ry h => op_neD hu pins s σ H x y v u Q I rx ry h.it
theorem op_rqE {X : Cx} (hu : X.A.units + 64 < cLine) : OpR X (compareOp .Eq) (RqE X.K) := fun pins s σ H x y v u Q I rx ry h => op_eqD hu pins s σ H x y v u Q I rx ry h.it
section
variable (P : Program) (w : World) (K : PySem.W.Frag) (mg : Str → Option Value) (base : Heap)
/-- a method -/
def HM (C : Addr) (n : Nat) (m : Str) (ps : List Str) (ds : List V) (sp : Sp) : Prop := ∃ (f : Addr) (fd : FuncData) (us : List Value), Meth K C m f ∧ Binds K fd ps us ∧ Vals ds us ∧ FnOk P w K mg base CX0 n f fd ps sp
/-- a special method -/
def HSm (C : Addr) (n : Nat) (m : Str) (ps : List Str) (sp : Sp) : Prop := ∃ (f : Addr) (fd : FuncData), PySem.W.findIn K (.ref C) m = some (some (.ref f)) ∧ PySem.W.isFn K (.ref f) = true ∧ Binds K fd ps [] ∧ FnOk P w K mg base CX0 n f fd ps sp
end
end Wd

set_option Elab.async false
set_option linter.all false
set_option maxRecDepth 100000
set_option maxHeartbeats 4000000
set_option exponentiation.threshold 5000
namespace WdQ
open PySem PySem.Spec PyProof.Rows L2 WdM Wd
/-! ### a house's methods -/
section
variable {P : Program} {w : World} {K : PySem.W.Frag} {mg : Str → Option Value} {base : Heap} {CH : Addr}
theorem strs_shaped {zs : List Str} (o : ∀ z ∈ zs, okL z) : SeqAt.shaped (.tuple (zs.map PyData.str)) = true := map_sh fun z hz => ⟨strOk_of (o z hz).ok, by simp only [PyData.depth]; omega⟩
theorem strs_data {H : Hp} : ∀ zs : List Str, DpAll K H (zs.map V.str) (zs.map PyData.str)
  | [] => .nil
  | z :: zs => .cons (.str z) (strs_data zs)
theorem strs_eqv (zs ws : List Str) : PyData.eqv (.tuple (zs.map PyData.str)) (.tuple (ws.map PyData.str)) = decide (zs = ws) := by
  unfold PyData.eqv
  exact eqv_map (fun r s => by simp [PyData.eqv, bq_str]) zs ws
theorem strs_rqN {H : Hp} {a b : Addr} {zs ws : List Str} {Q : VK} (ha : SqT K H a (zs.map V.str)) (hb : SqT K H b (ws.map V.str)) (oz : ∀ z ∈ zs, okL z) (ow : ∀ z ∈ ws, okL z) (q : Q (.bl (!decide (zs = ws))) H) : RqN K (.ref a) (.ref b) H Q :=
  ⟨⟨.tuple (zs.map PyData.str), .tuple (ws.map PyData.str), .tup ha (strs_data zs), .tup hb (strs_data ws), strs_shaped oz, strs_shaped ow, by rw [strs_eqv]; exact q⟩⟩
theorem strs_same {H : Hp} {a b : Addr} {zs : List Str} {Q : VK} (ha : SqT K H a (zs.map V.str)) (hb : SqT K H b (zs.map V.str)) (oz : ∀ z ∈ zs, okL z) (q : Q (.bl false) H) : RqN K (.ref a) (.ref b) H Q :=
  strs_rqN ha hb oz oz (by rw [decide_eq_true rfl]; exact q)
theorem nodup_fst {α : Type} {rows : List (Str × α)} (nd : (rows.map Prod.fst).Nodup) {r r' : Str × α} (h : r ∈ rows) (h' : r' ∈ rows) (e : r.1 = r'.1) : r = r' := by
  obtain ⟨i, hi⟩ := List.mem_iff_getElem?.mp h
  obtain ⟨j, hj⟩ := List.mem_iff_getElem?.mp h'
  have il := lt_get hi
  have hij : i = j := by
    refine (List.getElem?_inj (by rw [List.length_map]; exact il) nd).mp ?_
    rw [List.getElem?_map, List.getElem?_map, hi, hj]
    exact congrArg some e
  subst hij
  exact Option.some.inj (hi.symm.trans hj)
theorem row_one {F : List (Str × Option Str)} (g : GoodF F) {r r' : Str × Option Str} (h : r ∈ F) (h' : r' ∈ F) (e : r'.1 = r.1) : r' = r := nodup_fst g.nd h' h e
theorem two_rqE {H : Hp} {a b : Addr} {i j : Int} {Q : VK} (ha : H a = some (.lst [.int i, .int j])) (hb : H b = some (.lst [.int i, .int j])) (q : Q (.bl true) H) : RqE K (.ref a) (.ref b) H Q :=
  ⟨⟨.list [.int i, .int j], .list [.int i, .int j], .lst (sqL ha) (.cons (.int i) (.cons (.int j) .nil)), .lst (sqL hb) (.cons (.int i) (.cons (.int j) .nil)), rfl, rfl, by rw [show PyData.eqv (.list [.int i, .int j]) (.list [.int i, .int j]) = true by simp [PyData.eqv, PyData.eqvAll]]; exact q⟩⟩
theorem fst_okL {F : List (Str × Option Str)} (g : GoodF F) : ∀ z ∈ F.map Prod.fst, okL z := fun z hz => by
  obtain ⟨r, hr, rfl⟩ := List.mem_map.mp hz
  exact hl_okL (g.nm r hr)
theorem fstG_okL {G : List Gd} (g : GoodG G) : ∀ z ∈ G.map Prod.fst, okL z := fun z hz => by
  obtain ⟨r, hr, rfl⟩ := List.mem_map.mp hz
  exact hl_okL (g.nm r hr).1
theorem kids_okL {F : List (Str × Option Str)} (g : GoodF F) (z : Str) : ∀ y ∈ kidsOf F z, okL y := fun y hy => by
  obtain ⟨r, hr, rfl⟩ := List.mem_map.mp hy
  exact hl_okL (g.nm r (List.mem_filter.mp hr).1)
/-- a house's methods -/
structure HK (P : Program) (w : World) (K : PySem.W.Frag) (mg : Str → Option Value) (base : Heap) (CH : Addr) (n : Nat) : Prop where
  T : HsF K CH
  TG : HsG K CH
  gH : mg "House" = some (.ref CH)
  peo : HM P w K mg base CH n "people" ["self"] [] (spPeo K CH)
  par : HM P w K mg base CH n "parent" ["self", "name"] [] (spPar K CH)
  chi : HM P w K mg base CH n "children" ["self", "name"] [] (spKids K CH)
  gds : HM P w K mg base CH n "goods" ["self", "kind", "key"] [.non, .non] (spGds K CH)
  knd : HM P w K mg base CH n "kind" ["self", "thing"] [] (spKnd K CH fun r => .str r.2.1)
  wor : HM P w K mg base CH n "worth" ["self", "thing"] [] (spKnd K CH fun r => .int r.2.2)
  len : HSm P w K mg base CH n "__len__" ["self"] (spHLen K CH)
  rep : HSm P w K mg base CH n "__repr__" ["self"] (spHRep K CH)
  str : HSm P w K mg base CH n "__str__" ["self"] (spHStr K CH)
  eq : HSm P w K mg base CH n "__eq__" ["self", "other"] (spHEqV K CH)
  ne : PySem.W.findIn K (.ref CH) "__ne__" = some (some (.builtin "object.__ne__"))
  om : PySem.W.mroIn K CH (.type "object") = some true
  fm : PySem.W.findIn K (.ref CH) "__format__" = some (some (.builtin "object.__format__"))
  nS : PySem.W.notFirst K CH (.type "str") = true
  nT : PySem.W.notFirst K CH (.type "tuple") = true
  kS : PySem.W.kitOne K (.type "str") (.ref CH) = some false
  kT : PySem.W.kitOne K (.type "tuple") (.ref CH) = some false
end
end WdQ

set_option Elab.async false
set_option linter.all false
set_option maxRecDepth 100000
set_option maxHeartbeats 4000000
set_option exponentiation.threshold 5000
namespace WdQ
open PySem PySem.Spec PyProof.Rows L2 WdM Wd
/-! ### a house's text that may be refused -/
abbrev sETx : Stmt := inClass (topS 6) 0
theorem scETx : FnScope ["self", "line"] ["self", "line"] (defScope sETx) := ⟨rfl, rfl, rfl, by decide +kernel, rfl, by decide +kernel, by decide +kernel⟩
/-- people whose names may be told again -/
structure PreF (rows : List (Str × Option Str)) : Prop where
  l8 : rows.length ≤ 8
  nm : ∀ r ∈ rows, Nm r.1
  pr : ∀ (i : Nat) (r : Str × Option Str) (y : Str), rows[i]? = some r → r.2 = some y → y ∈ (rows.take i).map Prod.fst
structure PreG (rows : List Gd) : Prop where
  l8 : rows.length ≤ 8
  nm : ∀ r ∈ rows, Nm r.1 ∧ Nm r.2.1
  sm : ∀ r ∈ rows, 0 ≤ r.2.2 ∧ r.2.2 ≤ 1000000000
theorem GoodF.pre {F : List (Str × Option Str)} (g : GoodF F) : PreF F := ⟨g.l8, g.nm, g.pr⟩
theorem GoodG.pre {G : List Gd} (g : GoodG G) : PreG G := ⟨g.l8, g.nm, g.sm⟩
theorem PreF.good {F : List (Str × Option Str)} (g : PreF F) (ne : F ≠ []) (nd : (F.map Prod.fst).Nodup) : GoodF F := ⟨List.length_pos_iff.mpr ne, g.l8, nd, g.nm, g.pr⟩
theorem PreG.good {G : List Gd} (g : PreG G) (nd : (G.map Prod.fst).Nodup) : GoodG G := ⟨g.l8, nd, g.nm, g.sm⟩
theorem f_parP {F : List (Str × Option Str)} (g : PreF F) {r : Str × Option Str} (hr : r ∈ F) : ∀ y, r.2 = some y → Nm y := fun y e => by
  obtain ⟨i, hi⟩ := List.mem_iff_getElem?.mp hr
  obtain ⟨q, hq, rfl⟩ := List.mem_map.mp (g.pr i r y hi e)
  exact g.nm q (List.mem_of_mem_take hq)
/-- the first one that is told again -/
def FD (zs : List Str) (n : Nat) : Prop := ∃ z, zs[n]? = some z ∧ z ∈ zs.take n ∧ (zs.take n).Nodup
theorem nodup_more {zs : List Str} {i : Nat} {z : Str} (h : zs[i]? = some z) (nd : (zs.take i).Nodup) (n : z ∉ zs.take i) : (zs.take (i + 1)).Nodup := by
  rw [take_more h, List.nodup_append]
  refine ⟨nd, by simp, fun a ha b hb e => ?_⟩
  rw [List.mem_singleton.mp hb] at e
  exact n (e ▸ ha)
/-- lines of a text -/
structure TxL (ls : List Str) : Prop where
  ne : ls ≠ []
  l : ls.length ≤ 18
  y : ∀ y ∈ ls, 10 ∉ TL.tl y ∧ y.length ≤ 40
theorem TxL.split {ls : List Str} (h : TxL ls) : Txt.split (Txt.join "\n" ls) "\n" = ls := TL.split_join (s := 10) (S := []) (by decide) (by decide +kernel) h.ne fun y hy => (h.y y hy).1
theorem TxL.len {ls : List Str} (h : TxL ls) : (Txt.join "\n" ls).length ≤ 900 := by
  rw [TL.join_eq, TL.len_tl, TL.tl_join]
  have a := hw_join (TL.tl "\n") (ls.map TL.tl)
  have b := sum_le40 fun y hy => (h.y y hy).2
  have e : (ls.map TL.tl).map List.length = ls.map (·.length) := by
    rw [List.map_map]
    exact List.map_congr_left fun y _ => (TL.len_tl y).symm
  have c : (TL.tl ("\n" : Str)).length = 1 := by decide
  have l := h.l
  rw [e, c] at a
  simp only [List.length_map] at a b
  omega
theorem purse_line {p : Int} (h0 : 0 ≤ p) (h1 : p ≤ 1000000000) : (10 ∉ TL.tl (purseT p) ∧ (purseT p).length ≤ 40) ∧ (10 ∉ TL.tl (debtsT p) ∧ (debtsT p).length ≤ 40) := by
  have a := hl_purse h0 h1
  refine ⟨⟨?_, by omega⟩, ⟨?_, by omega⟩⟩
  · rw [purse_join]
    exact line_free (two_fre fre_purse (fre_int h0))
  · rw [debts_join]
    exact line_free (two_fre fre_debts (fre_int h0))
theorem lines_TxL {F : List (Str × Option Str)} {G : List Gd} {p d : Int} (gf : PreF F) (gg : PreG G) (pu : Pu p d) : TxL (linesT F G p d) := by
  have f8 := gf.l8
  have g8 := gg.l8
  refine ⟨by simp [linesT], ?_, ?_⟩
  · unfold linesT
    simp only [List.length_cons, List.length_append, List.length_map]
    omega
  · intro y hy
    unfold linesT at hy
    rcases List.mem_cons.mp hy with rfl | hy
    · exact (purse_line pu.p0 pu.p1).1
    rcases List.mem_cons.mp hy with rfl | hy
    · exact (purse_line pu.d0 pu.d1).2
    rcases List.mem_append.mp hy with hy | hy
    · obtain ⟨r, hr, rfl⟩ := List.mem_map.mp hy
      have := hl_person (gf.nm r hr) (f_parP gf hr)
      exact ⟨by rw [person_join]; exact line_free (person_fre (gf.nm r hr) (f_parP gf hr)), by omega⟩
    · obtain ⟨r, hr, rfl⟩ := List.mem_map.mp hy
      have := hl_thing (gg.nm r hr).1 (gg.nm r hr).2 (gg.sm r hr).1 (gg.sm r hr).2
      exact ⟨by rw [thing_join]; exact line_free (thing_fre (gg.nm r hr).1 (gg.nm r hr).2 (gg.sm r hr).1), by omega⟩
section
variable {P : Program} {w : World} {K : PySem.W.Frag} {mg : Str → Option Value} {base : Heap} {CH CT fE CW : Addr}
theorem ok_eTx {fd : FuncData} {k : Nat} (T : ErC K mg "NoText" "line" CT fE CW) (F : Fun K "__init__" "NoText.__init__" sETx fE fd) : FnOk P w K mg base CX0 (k + 1) fE fd ["self", "line"] (spInitE CT "line") := by
  refine F.ok scETx (fun vs H Q E h => ?_) (fun cdv A outer s H vs Q E hr h => ?_)
  · obtain ⟨a, y, rfl, _⟩ := h
    rfl
  · obtain ⟨a, y, rfl, ha, q⟩ := h
    exact ⟨_, pss_one (ps_ost (pv 0) (pv 1)), y, rfl, .ref a, rfl, a, CT, rfl, T.o, T.no, .inl ⟨ha, fun dx h1 h2 => q dx h1 h2⟩⟩
/-- refused with NoText, the line n -/
def XT (CT : Addr) (H : Hp) (E : XK) (n : Int) : Prop := ∀ H' dd, Same H H' → H' dd = none → E (.ref CT) (some dd) (upd H' dd (.xd [("line", .int n)]))
theorem XT.same {H H' : Hp} {E : XK} {n : Int} (h : XT CT H E n) (e : Same H H') : XT CT H' E n := fun H2 dd s hd => h H2 dd (e.trans s) hd
def spPersonX (K : PySem.W.Frag) : Sp := fun vs H Q _ => ∃ (t l : Addr) (z : Str) (o : Option Str) (ns : List Str), vs = [.ref t, .ref l] ∧ SqT K H t [.str z, parV o] ∧ H l = some (.lst (ns.map V.str)) ∧ nmB z = true ∧ z.length ≤ 1000 ∧ (∀ y, o = some y → y ∈ ns) ∧ ∀ H', Same H H' → Q (.bl (!inV (.str z) (ns.map V.str))) H'
theorem ok_personX {f fN fW : Addr} {fd fdN fdW : FuncData} {k : Nat} (B : Bi mg) (GN : FnOk P w K mg base CX0 (k + 1) fN fdN ["thing"] (spName K)) (GW : FnOk P w K mg base CX0 (k + 1) fW fdW ["thing", "words"] (spWord K)) (D : Df K mg "is_person" sPerson f fd ["thing", "ahead"]) (DN : Df K mg "is_name" sName fN fdN ["thing"]) (DW : Df K mg "is_word" sWord fW fdW ["thing", "words"]) :
    FnOk P w K mg base CX0 (k + 2) f fd ["thing", "ahead"] (spPersonX K) := by
  refine D.fn.ok scPerson (fun vs H Q E h => ?_) (fun cdv A outer s H vs Q E hr h => ?_)
  · obtain ⟨t, l, z, o, ns, rfl, _⟩ := h
    rfl
  · obtain ⟨t, l, z, o, ns, rfl, hs, hl, nm, zl, po, q⟩ := h
    refine ⟨_, pss_cons (ps_if (PW.pt (pw_or (pt_not (pt_val (pe_callB call_isi (by rfl) B.isi boot_isinstance (pa_cons (pv 0) (pa_cons (pe_bltn (v := .ty "tuple") (by rfl) B.tuple boot_tuple rfl) pa_nil)))))
          (pw_or1 (pt_cmpR op_ne (pe_callB call_len_seq (by rfl) B.len PySem.boot_len (pa_cons (pv 0) pa_nil)) pe_int (nomark _))))) (pss_one (ps_ret pe_bl)) pss_nil)
      (pss_cons (ps_asg (pv 0) (pg_tup rfl (pgs_cons (pg_name (i := 2) scPerson.nd rfl (.inl rfl)) (pgs_cons (pg_name (i := 3) scPerson.nd rfl (.inl rfl)) pgs_nil))))
      (pss_cons (ps_if (PW.pt (pw_or (pt_not (pt_val (pe_call GN hr (by rfl) DN.mg DN.fn.kp DN.bd .nil pass0 (pa_cons (pv 2) pa_nil)))) (pw_or1 (pt_cmpR op_in_seq (pv 2) (pv 1) (by rfl))))) (pss_one (ps_ret pe_bl)) pss_nil)
      (pss_one (ps_ret (pe_or (pe_cmpR op_isN (pv 3) pe_non (nomark _)) (pe_one (pe_call GW hr (by rfl) DW.mg DW.fn.kp DW.bd .nil pass0 (pa_cons (pv 3) (pa_cons (pv 1) pa_nil))))))))), ?_⟩
    refine ⟨_, rfl, _, .ty "tuple", _, .type "tuple", true, rfl, .ty _, tyT hs, kit_ty (by decide +kernel), true, rfl, iteF ⟨_, rfl, t, _, rfl, .inr hs, rfl, _, rfl, iteF ?_⟩⟩
    refine ⟨_, rfl, t, _, rfl, hs, rfl, _, _, rfl, _, _, rfl, rfl, ?_⟩
    refine ⟨_, rfl, .str z, .str z, rfl, (Th.dp (.str z)).is, (fun y e => by cases e; exact zl), fun H1 sm => ?_⟩
    rw [show nameB (.str z) = true from nm]
    refine ⟨true, rfl, iteF ⟨_, rfl, _, rfl, l, _, rfl, .inl (sqL (sm _ _ hl)), rfl, flatS ns, _, rfl, ?_⟩⟩
    show if inV (.str z) (ns.map V.str) = true then _ else _
    have q := q H1 sm
    cases c : inV (.str z) (ns.map V.str) with
    | true =>
      rw [c] at q
      exact iteT q
    | false =>
      rw [c] at q
      cases o with
      | none => exact iteF ⟨_, rfl, rfl, true, rfl, iteT q⟩
      | some y =>
        refine iteF ⟨_, rfl, rfl, false, rfl, iteF ⟨_, rfl, _, rfl, .str y, .str y, l, _, rfl, (Th.dp (.str y)).is, .inl (sqL (sm _ _ hl)), flatS ns, ?_⟩⟩
        rw [show wordB (ns.map V.str) (.str y) = true from inV_str.mpr (po y rfl)]
        exact q
def spGoodX (K : PySem.W.Frag) : Sp := fun vs H Q _ => ∃ (t l : Addr) (r : Str × Str × Int) (ns : List Str), vs = [.ref t, .ref l] ∧ SqT K H t (rowG r) ∧ H l = some (.lst (ns.map V.str)) ∧ Nm r.1 ∧ Nm r.2.1 ∧ 0 ≤ r.2.2 ∧ r.2.2 ≤ 1000000000 ∧ ∀ H', Same H H' → Q (.bl (!inV (.str r.1) (ns.map V.str))) H'
theorem ok_goodX {f fN fS : Addr} {fd fdN fdS : FuncData} {k : Nat} (B : Bi mg) (GN : FnOk P w K mg base CX0 (k + 2) fN fdN ["thing"] (spName K)) (GS : FnOk P w K mg base CX0 (k + 2) fS fdS ["thing"] spSumG) (D : Df K mg "is_good" sGood f fd ["thing", "ahead"]) (DN : Df K mg "is_name" sName fN fdN ["thing"]) (DS : Df K mg "is_sum" sSum fS fdS ["thing"]) :
    FnOk P w K mg base CX0 (k + 3) f fd ["thing", "ahead"] (spGoodX K) := by
  refine D.fn.ok scGood (fun vs H Q E h => ?_) (fun cdv A outer s H vs Q E hr h => ?_)
  · obtain ⟨t, l, r, ns, rfl, _⟩ := h
    rfl
  · obtain ⟨t, l, r, ns, rfl, hs, hl, nm, nk, s0, s1, q⟩ := h
    refine ⟨_, pss_cons (ps_if (PW.pt (pw_or (pt_not (pt_val (pe_callB call_isi (by rfl) B.isi boot_isinstance (pa_cons (pv 0) (pa_cons (pe_bltn (v := .ty "tuple") (by rfl) B.tuple boot_tuple rfl) pa_nil)))))
          (pw_or1 (pt_cmpR op_ne (pe_callB call_len_seq (by rfl) B.len PySem.boot_len (pa_cons (pv 0) pa_nil)) pe_int (nomark _))))) (pss_one (ps_ret pe_bl)) pss_nil)
      (pss_cons (ps_asg (pv 0) (pg_tup rfl (pgs_cons (pg_name (i := 2) scGood.nd rfl (.inl rfl)) (pgs_cons (pg_name (i := 3) scGood.nd rfl (.inl rfl)) (pgs_cons (pg_name (i := 4) scGood.nd rfl (.inl rfl)) pgs_nil)))))
      (pss_one (ps_ret (pe_and (pe_call GN hr (by rfl) DN.mg DN.fn.kp DN.bd .nil pass0 (pa_cons (pv 2) pa_nil)) (pe_and (pe_cmpR (r := rIn K true) op_notIn_seq (pv 2) (pv 1) (by rfl)) (pe_and (pe_call GN hr (by rfl) DN.mg DN.fn.kp DN.bd .nil pass0 (pa_cons (pv 3) pa_nil)) (pe_one (pe_call GS hr (by rfl) DS.mg DS.fn.kp DS.bd .nil pass0 (pa_cons (pv 4) pa_nil))))))))), ?_⟩
    refine ⟨_, rfl, _, .ty "tuple", _, .type "tuple", true, rfl, .ty _, tyT hs, kit_ty (by decide +kernel), true, rfl, iteF ⟨_, rfl, t, _, rfl, .inr hs, rfl, _, rfl, iteF ?_⟩⟩
    refine ⟨_, rfl, t, _, rfl, hs, rfl, _, _, rfl, _, _, rfl, _, _, rfl, rfl, ?_⟩
    refine ⟨_, rfl, .str r.1, .str r.1, rfl, (Th.dp (.str r.1)).is, (fun y e => by cases e; have := nm.1.2.2; omega), fun H1 sm => ?_⟩
    rw [show nameB (.str r.1) = true from nm.name]
    refine ⟨true, rfl, iteT ⟨_, rfl, _, rfl, l, _, rfl, .inl (sqL (sm _ _ hl)), rfl, flatS ns, !inV (.str r.1) (ns.map V.str), rfl, ?_⟩⟩
    cases c : inV (.str r.1) (ns.map V.str) with
    | true =>
      have q := q H1 sm
      rw [c] at q
      exact iteF q
    | false =>
      refine iteT ⟨_, rfl, .str r.2.1, .str r.2.1, rfl, (Th.dp (.str r.2.1)).is, (fun y e => by cases e; have := nk.1.2.2; omega), fun H2 sm2 => ?_⟩
      rw [show nameB (.str r.2.1) = true from nk.name]
      have q := q H2 (sm.trans sm2)
      rw [c] at q
      exact ⟨true, rfl, iteT ⟨_, rfl, r.2.2, rfl, s0, s1, q⟩⟩
def spRAmX (K : PySem.W.Frag) (CT : Addr) : Sp := fun vs H Q E => ∃ (aR : Addr) (ls : List Str) (i : Nat) (wd : Str), vs = [.ref aR, .int (i : Nat), .str wd] ∧ H aR = some (.lst (ls.map V.str)) ∧
  ((∃ (x : Str) (n : Int), ls[i]? = some x ∧ Txt.split x " " = [wd, intT n] ∧ x.length ≤ 100 ∧ 0 ≤ n ∧ n ≤ 1000000000 ∧ ∀ H', Same H H' → Q (.int n) H') ∨ (ls.length ≤ i ∧ XT CT H E (i : Nat)) ∨ (ls[i]? = some "" ∧ XT CT H E (i : Nat)))
theorem ok_ramX {f fN fS : Addr} {fd fdN fdS fdI : FuncData} {k : Nat} (B : Bi mg) (T : ErC K mg "NoText" "line" CT fE CW) (FI : Fun K "__init__" "NoText.__init__" sETx fE fdI) (bI : Binds K fdI ["self", "line"] []) (D : Df K mg "read_amount" sRAm f fd ["rows", "line", "word"]) (DN : Df K mg "read_number" sRNum fN fdN ["word"]) (GN : FnOk P w K mg base CX0 (k + 2) fN fdN ["word"] spRNum) (DS : Df K mg "is_sum" sSum fS fdS ["thing"]) (GS : FnOk P w K mg base CX0 (k + 2) fS fdS ["thing"] spSumG) : FnOk P w K mg base (L2.CX P w) (k + 3) f fd ["rows", "line", "word"] (spRAmX K CT) := by
  have GI : FnOk P w K mg base CX0 (k + 1) fE fdI ["self", "line"] (spInitE CT "line") := ok_eTx (k := k) T FI
  refine D.fn.okX scRAm (fun vs H Q E h => ?_) (fun cdv A outer s H vs Q E hr h => ?_)
  · obtain ⟨aR, ls, i, wd, rfl, _⟩ := h
    rfl
  · obtain ⟨aR, ls, i, wd, rfl, hR, h⟩ := h
    refine ⟨_, pss_cons (ps_set (i := 3) scRAm.nd rfl (.inl rfl) (pe_ifExp (pt_cmpR op_lt (pv 1) (pe_callB call_len_seq (by rfl) B.len PySem.boot_len (pa_cons (pv 0) pa_nil)) (nomark _)) (pe_split (pe_ix (r := rIxL K) ix_list (pv 0) (pv 1) (fun _ _ => rfl)) pe_str) (pe_lst pa_nil)))
      (pss_cons (ps_if (PW.pt (pw_or (pt_cmpR op_ne (pe_callB call_len_seq (by rfl) B.len PySem.boot_len (pa_cons (pv 3) pa_nil)) pe_int (nomark _)) (pw_or1 (pt_cmpR op_ne (pe_ix (r := rIxL K) ix_list (pv 3) pe_int (fun _ _ => rfl)) (pv 2) (nomark _))))) (pss_one (ps_raise rfl (takes_of rfl rfl rfl rfl) (pmk_oex T.o T.i T.t GI hr bI .nil pass0 (by rfl) T.g (pa_cons (pv 1) pa_nil)))) pss_nil)
      (pss_cons (ps_set (i := 4) scRAm.nd rfl (.inl rfl) (pe_call GN hr (by rfl) DN.mg DN.fn.kp DN.bd .nil pass0 (pa_cons (pe_ix (r := rIxL K) ix_list (pv 3) pe_int (fun _ _ => rfl)) pa_nil)))
      (pss_cons (ps_if (pt_not (pt_val (pe_call GS hr (by rfl) DS.mg DS.fn.kp DS.bd .nil pass0 (pa_cons (pv 4) pa_nil)))) pss_noS pss_nil)
      (pss_one (ps_ret (pv 4)))))), ?_⟩
    refine ⟨_, rfl, _, rfl, aR, _, rfl, .inl (sqL hR), _, _, rfl, rfl, _, rfl, ?_⟩
    rw [List.length_map]
    rcases h with ⟨x, n, hi, sp, xl, n0, n1, q⟩ | ⟨hi, x⟩ | ⟨hi, x⟩
    rotate_left
    · rw [decide_eq_false (show ¬ ((i : Nat) : Int) < ((ls.length : Nat) : Int) by omega)]
      refine iteF ⟨by show 0 ≤ sizeLine; decide, fun p np => ?_⟩
      have s1 : Same H (upd H p (.lst [])) := same_new np
      exact ⟨_, rfl, p, _, rfl, .inl (sqL upd_same), rfl, _, rfl, iteT (iteT (raise_var rfl fun dd hd => x _ dd s1 hd))⟩
    · have il := lt_get hi
      rw [decide_eq_true (show ((i : Nat) : Int) < ((ls.length : Nat) : Int) by omega)]
      refine iteT ⟨_, rfl, _, rfl, aR, _, _, _, rfl, rfl, sqL hR, atI_nat (v := V.str "") (by rw [List.getElem?_map, hi]; rfl), ⟨_, rfl⟩, "", " ", rfl, rfl, rfl, by decide, ?_⟩
      rw [show Txt.split "" " " = ([""] : List Str) from by decide +kernel]
      intro p np
      have s1 : Same H (upd H p (.lst (([""] : List Str).map V.str))) := same_new np
      have h1 : (upd H p (.lst (([""] : List Str).map V.str))) p = some (.lst [.str ""]) := upd_same
      exact ⟨_, rfl, p, _, rfl, .inl (sqL h1), rfl, _, rfl, iteT (iteT (raise_var rfl fun dd hd => x _ dd s1 hd))⟩
    have il := lt_get hi
    rw [decide_eq_true (show ((i : Nat) : Int) < ((ls.length : Nat) : Int) by omega)]
    refine iteT ⟨_, rfl, _, rfl, aR, _, _, _, rfl, rfl, sqL hR, atI_nat (v := V.str x) (by rw [List.getElem?_map, hi]; rfl), ⟨_, rfl⟩, x, " ", rfl, rfl, rfl, small_len (by omega), ?_⟩
    rw [sp]
    intro p np
    have s1 : Same H (upd H p (.lst (([wd, intT n] : List Str).map V.str))) := same_new np
    have h1 : (upd H p (.lst (([wd, intT n] : List Str).map V.str))) p = some (.lst [.str wd, .str (intT n)]) := upd_same
    revert s1 h1
    generalize upd H p (.lst (([wd, intT n] : List Str).map V.str)) = H1
    intro s1 h1
    refine ⟨_, rfl, p, _, rfl, .inl (sqL h1), rfl, _, rfl, iteF ⟨_, rfl, p, _, 0, _, rfl, rfl, sqL h1, atI_nat (j := 0) rfl, _, rfl, rfl, _, rfl, ?_⟩⟩
    rw [show (!decide (V.str wd = V.str wd)) = false by simp]
    refine iteF ⟨_, rfl, p, _, 1, _, rfl, rfl, sqL h1, atI_nat (j := 1) rfl, intT n, n.toNat, rfl, tl_int n0, num_len9 n0 n1, fun H2 s2 => ?_⟩
    rw [show ((n.toNat : Nat) : Int) = n by omega]
    exact ⟨_, rfl, n, rfl, n0, n1, true, rfl, iteF ⟨_, rfl, q H2 (s1.trans s2)⟩⟩
def spRPpX (K : PySem.W.Frag) (CT : Addr) : Sp := fun vs H Q E => ∃ (aR : Addr) (x0 x1 : Str) (F : List (Str × Option Str)) (G : List Gd), vs = [.ref aR] ∧ H aR = some (.lst ((x0 :: x1 :: restT F G).map V.str)) ∧ PreF F ∧ PreG G ∧ (F = [] → G = []) ∧ (F = [] → XT CT H E 2) ∧
  ((F.map Prod.fst).Nodup → F ≠ [] → ∀ H' L xs, Same H H' → H' L = some (.lst xs) → A2 (RowF K H') xs F → Q (.ref L) H') ∧ ∀ n : Nat, FD (F.map Prod.fst) n → XT CT H E (2 + (n : Nat))
theorem ok_rppX {f fR fP : Addr} {fd fdE fdP fdI : FuncData} {tF tM : Tok} {k : Nat} (B : Bi mg) (T : ErC K mg "NoText" "line" CT fE CW) (FI : Fun K "__init__" "NoText.__init__" sETx fE fdI) (bI : Binds K fdI ["self", "line"] []) (gF : mg "PEOPLE_FROM" = some (.int 2 tF)) (gM : mg "MOST_PEOPLE" = some (.int 8 tM)) (D : Df K mg "read_people" sRPp f fd ["rows"]) (DE : Df K mg "read_person" sRPe fR fdE ["words"]) (DP : Df K mg "is_person" sPerson fP fdP ["thing", "ahead"]) (GP : FnOk P w K mg base CX0 (k + 2) fP fdP ["thing", "ahead"] (spPersonX K)) : FnOk P w K mg base (L2.CX P w) (k + 3) f fd ["rows"] (spRPpX K CT) := by
  have GI : FnOk P w K mg base CX0 (k + 1) fE fdI ["self", "line"] (spInitE CT "line") := ok_eTx (k := k) T FI
  have GE : FnOk P w K mg base CX0 (k + 2) fR fdE ["words"] (spRPe K) := ok_rpe B DE
  refine D.fn.okX scRPp (fun vs H Q E h => ?_) (fun cdv A outer s H vs Q E hr h => ?_)
  · obtain ⟨aR, x0, x1, F, G, rfl, _⟩ := h
    rfl
  · obtain ⟨aR, x0, x1, F, G, rfl, hR, gf, gg, fg, x0F, q, xD⟩ := h
    refine ⟨_, pss_cons (ps_set (i := 1) scRPp.nd rfl (.inl rfl) (pe_lst pa_nil))
      (pss_cons (ps_for (passes_of rfl) rfl (pi_Es .li (by rfl) B.enum (pa_cons (pe_slice (r := rSlL K) sl_list (pv 0) (po_some (pe_glob (v := .int 2) (by rfl) gF ⟨_, rfl⟩)) po_none) pa_nil) (pk_cons (pe_glob (v := .int 2) (by rfl) gF ⟨_, rfl⟩) pk_nil)) (pg_tup rfl (pgs_cons (pg_name (i := 2) scRPp.nd rfl (.inl rfl)) (pgs_cons (pg_name (i := 3) scRPp.nd rfl (.inl rfl)) pgs_nil)))
        (pss_cons (ps_set (i := 4) scRPp.nd rfl (.inl rfl) (pe_split (pv 3) pe_str))
        (pss_cons (ps_if (PW.pt (pw_and (pt_cmpR op_eq (pe_ix (r := rIxL K) ix_list (pv 4) pe_int (fun _ _ => rfl)) pe_str (nomark _)) (pw_and1 (pt_cmpR op_gt (pe_callB call_len_seq (by rfl) B.len PySem.boot_len (pa_cons (pv 1) pa_nil)) pe_int (nomark _))))) (pss_one ps_break) pss_nil)
        (pss_cons (ps_set (i := 5) scRPp.nd rfl (.inl rfl) (pe_call GE hr (by rfl) DE.mg DE.fn.kp DE.bd .nil pass0 (pa_cons (pv 4) pa_nil)))
        (pss_cons (ps_if (PW.pt (pw_or (pt_cmpR op_eq (pe_callB call_len_seq (by rfl) B.len PySem.boot_len (pa_cons (pv 1) pa_nil)) (pe_glob (v := .int 8) (by rfl) gM ⟨_, rfl⟩) (nomark _)) (pw_or1 (pt_not (pt_val (pe_call GP hr (by rfl) DP.mg DP.fn.kp DP.bd .nil pass0 (pa_cons (pv 5) (pa_cons (PE.wk (t' := tEaP K) (pe_lc (own := [("each", 6)]) (g := gName 6) (tt := tYes) rfl scRPp.nd (pi_list (pv 1)) (blkOk_by (own := [("each", 6)]) (N := nRPp) (sc := defScope sRPp) (by decide +kernel))
          (fun _ _ _ _ _ => pg_name (i := 6) scRPp.nd rfl (Or.inl rfl)) (fun _ _ _ _ _ => pts_nil) (fun _ _ _ _ _ => pe_ix (r := rIxT K) ix_tup (pv 6) pe_int (fun _ _ => rfl))) (by
            rintro σ H Q ⟨l, xs, ns, y0, y2, y3, y4, y5, y6, rfl, hl, x8, hx, q⟩
            refine ⟨_, rfl, l, rfl, ⟨_, sqL hl⟩, fun L nL => lc_list (K := K) (a := l) (xs := xs) (fun j H' => H' L = some (.lst ((ns.take j).map V.str)) ∧ Same H H') ⟨upd_same, same_new nL⟩ (fun j H' _ h => sqL (h.2 _ _ hl)) ?_ ?_⟩
            · rintro j x H1 hx1 ⟨hL, s1⟩
              obtain ⟨z, hz, a, ys, rfl, ha⟩ := hx.get hx1
              have jl := lt_get hz
              have xl := hx.len
              refine ⟨rfl, tyes (iteT ⟨_, rfl, a, _, 0, .str z, rfl, rfl, (tk_same s1).sq ha, atI_nat (j := 0) rfl, _, hL, ?_, ?_, ((Bt.of_same (S := []) s1).upd0 nL).same⟩)⟩
              · rw [List.length_map, List.length_take]
                exact small1000 (by omega)
              · rw [upd_same, take_more hz, List.map_append]
                rfl
            · rintro H1 ⟨hL, s1⟩
              rw [hx.len, List.take_length] at hL
              exact q H1 L s1 hL)) pa_nil)))))))) (pss_one (ps_raise rfl (takes_of rfl rfl rfl rfl) (pmk_oex T.o T.i T.t GI hr bI .nil pass0 (by rfl) T.g (pa_cons (pv 2) pa_nil)))) pss_nil)
        (pss_one (ps_expr (pe_bm PySem.F.plainAttrs_list PySem.F.slot_list_append PySem.F.type_list_append mt_append (pv 1) (pa_cons (pv 5) pa_nil)))))))))
      (pss_cons (ps_if (pt_cmpR op_eq (pe_callB call_len_seq (by rfl) B.len PySem.boot_len (pa_cons (pv 1) pa_nil)) pe_int (nomark _)) (pss_one (ps_raise rfl (takes_of rfl rfl rfl rfl) (pmk_oex T.o T.i T.t GI hr bI .nil pass0 (by rfl) T.g (pa_cons (pe_callB call_len_seq (by rfl) B.len PySem.boot_len (pa_cons (pv 0) pa_nil)) pa_nil)))) pss_nil)
      (pss_one (ps_ret (pv 1))))), ?_⟩
    have f8 := gf.l8
    refine ⟨by show 0 ≤ sizeLine; decide, fun l nl => ?_⟩
    have sm0 : Same H (upd H l (.lst [])) := same_new nl
    have hl0 : (upd H l (.lst [])) l = some (.lst []) := upd_same
    revert sm0 hl0
    generalize upd H l (.lst []) = H1
    intro sm0 hl0
    refine ⟨_, rfl, _, rfl, aR, _, rfl, sqL (sm0 _ _ hR), fun S nS => ?_⟩
    rw [rest_cut]
    have s2 : Same H1 (upd H1 S (.lst ((restT F G).map V.str))) := same_new nS
    have hS : (upd H1 S (.lst ((restT F G).map V.str))) S = some (.lst ((restT F G).map V.str)) := upd_same
    revert s2 hS
    generalize upd H1 S (.lst ((restT F G).map V.str)) = H2
    intro s2 hS
    refine ⟨S, _, 2, rfl, rfl, by decide, by decide, sqL hS, for_it (walkEs (K := K) (k := .li) (m := 2) (a := S) (xs := (restT F G).map V.str)) (fun i σ H' => (∃ y2 y3 y4 y5 y6 : Option V, σ = [some (.ref aR), some (.ref l), y2, y3, y4, y5, y6]) ∧ i ≤ F.length ∧ ((F.map Prod.fst).take i).Nodup ∧ (∃ ps, H' l = some (.lst ps) ∧ A2 (RowF K H') ps (F.take i)) ∧ H' S = some (.lst ((restT F G).map V.str)) ∧ Same H H') ⟨⟨_, _, _, _, _, rfl⟩, Nat.zero_le _, List.nodup_nil, ⟨[], s2 _ _ hl0, .nil⟩, hS, sm0.trans s2⟩ (fun i σ H' _ h => sqL h.2.2.2.2.1) ?_ ?_⟩
    · rintro i _ σ H4 _ i1 ⟨⟨y2, y3, y4, y5, y6, rfl⟩, il, ndi, ⟨ps, hl4, hp4⟩, hS4, s4⟩ ⟨T1, _, y, rfl, nT, rfl, ei, hy⟩
      cases ei
      obtain ⟨x, hx, rfl⟩ := hq_at hy
      have s5 : Same H4 (upd H4 T1 (.tup [.int (2 + (i : Nat)), .str x])) := same_new nT
      have g5 : (upd H4 T1 (.tup [.int (2 + (i : Nat)), .str x])) T1 = some (.tup [.int (2 + (i : Nat)), .str x]) := upd_same
      revert s5 g5
      generalize upd H4 T1 (.tup [.int (2 + (i : Nat)), .str x]) = H5
      intro s5 g5
      have pl := hp4.len
      rw [List.length_take, Nat.min_eq_left il] at pl
      refine ⟨T1, _, rfl, sqT g5, rfl, _, _, rfl, _, _, rfl, rfl, ?_⟩
      rcases rest_at hx with ⟨r, hr, rfl⟩ | ⟨fi, r, hr, rfl⟩
      · have rm := List.mem_of_getElem? hr
        have ri := lt_get hr
        have nm := gf.nm r rm
        have np := f_parP gf rm
        have xl := hl_person nm np
        refine ⟨_, rfl, ⟨_, rfl⟩, personT r, " ", rfl, rfl, rfl, small_len (by omega), ?_⟩
        rw [person_split nm np]
        intro p np6
        have s6 : Same H5 (upd H5 p (.lst ((personW r).map V.str))) := same_new np6
        have h6 : (upd H5 p (.lst ((personW r).map V.str))) p = some (.lst ((personW r).map V.str)) := upd_same
        revert s6 h6
        generalize upd H5 p (.lst ((personW r).map V.str)) = H6
        intro s6 h6
        obtain ⟨tl, etl⟩ := personW_head r
        have h6' : H6 p = some (.lst (.str "person" :: tl.map V.str)) := by rw [h6, etl]; rfl
        refine ⟨_, rfl, p, _, 0, _, rfl, rfl, sqL h6', atI_nat (j := 0) rfl, rfl, _, rfl, iteF (iteF ?_)⟩
        refine ⟨_, rfl, p, r, rfl, h6, fun H7 t7 s7 ht7 => ?_⟩
        have s57 := s5.trans (s6.trans s7)
        have hl7 := s57 _ _ hl4
        refine ⟨_, rfl, l, _, rfl, .inl (sqL hl7), rfl, _, rfl, ?_⟩
        rw [show decide (V.int ((ps.length : Nat) : Int) = V.int 8) = false from decide_eq_false (fun e => by injection e with e; omega)]
        refine iteF ⟨_, rfl, l, ps, _, _, _, _, _, _, _, rfl, hl7, by omega, rowF_nm (rowF_tk hp4 (tk_same s57)), fun H8 L8 s8 hL8 => ?_⟩
        have hz : (F.map Prod.fst)[i]? = some r.1 := by rw [List.getElem?_map, hr]; rfl
        refine ⟨t7, L8, r.1, r.2, _, rfl, (tk_same s8).sq ht7, hL8, nm.name, by have := hl_nm nm; omega, fun z e => gf.pr i r z hr e, fun H9 s9 => ?_⟩
        have eD : inV (.str r.1) (((F.take i).map Prod.fst).map V.str) = true ↔ r.1 ∈ (F.map Prod.fst).take i := by
          rw [← List.map_take]
          exact inV_str
        cases c : inV (.str r.1) (((F.take i).map Prod.fst).map V.str) with
        | true => exact ⟨_, rfl, iteT (raise_var rfl fun dd hd => xD i ⟨r.1, hz, eD.mp c, ndi⟩ H9 dd (s4.trans (s57.trans (s8.trans s9))) hd)⟩
        | false =>
        refine ⟨_, rfl, iteF ?_⟩
        have ndj := nodup_more hz ndi fun m => by rw [eD.mpr m] at c; cases c
        have s59 := s57.trans (s8.trans s9)
        have hl9 := s59 _ _ hl4
        have tkA : Tk H9 (upd H9 l (.lst (ps ++ [.ref t7]))) := tk_lst hl9
        refine ⟨_, rfl, .inl ⟨rfl, _, sqL hl9⟩, _, rfl, l, _, _, rfl, rfl, hl9, Nat.lt_of_lt_of_le (show ps.length < 9 by omega) (by decide), ⟨_, _, _, _, _, rfl⟩, by omega, ndj, ⟨ps ++ [.ref t7], upd_same, ?_⟩, ?_, ?_⟩
        · rw [take_more hr]
          exact (rowF_tk (rowF_tk hp4 (tk_same s59)) tkA).snoc ⟨t7, rfl, tkA.sq ((tk_same (s8.trans s9)).sq ht7)⟩
        · rw [upd_ne (fun e : S = l => by rw [e, hl0] at nS; cases nS)]
          exact s59 _ _ hS4
        · exact ((Bt.of_same (S := []) (s4.trans s59)).upd0 nl).same
      · obtain rfl : i = F.length := by omega
        rw [List.take_length] at hp4
        have f1 : 1 ≤ F.length := List.length_pos_iff.mpr fun e => by rw [fg e] at hr; cases hr
        have ndF : (F.map Prod.fst).Nodup := by rw [List.take_of_length_le (by rw [List.length_map]; exact Nat.le_refl _)] at ndi; exact ndi
        have rm := List.mem_of_getElem? hr
        have gn := gg.nm r rm
        have gs := gg.sm r rm
        have xl := hl_thing gn.1 gn.2 gs.1 gs.2
        refine ⟨_, rfl, ⟨_, rfl⟩, thingT r, " ", rfl, rfl, rfl, small_len (by omega), ?_⟩
        rw [thing_split gn.1 gn.2 gs.1]
        intro p np6
        have s6 : Same H5 (upd H5 p (.lst ((thingW r).map V.str))) := same_new np6
        have h6 : (upd H5 p (.lst ((thingW r).map V.str))) p = some (.lst [.str "thing", .str r.1, .str r.2.1, .str (intT r.2.2)]) := upd_same
        revert s6 h6
        generalize upd H5 p (.lst ((thingW r).map V.str)) = H6
        intro s6 h6
        have s56 := s5.trans s6
        have hl6 := s56 _ _ hl4
        refine ⟨_, rfl, p, _, 0, _, rfl, rfl, sqL h6, atI_nat (j := 0) rfl, rfl, _, rfl, iteT ⟨_, rfl, l, _, rfl, .inl (sqL hl6), _, 0, rfl, rfl, _, rfl, ?_⟩⟩
        rw [decide_eq_true (show (0 : Int) < ((ps.length : Nat) : Int) by omega)]
        refine iteT ⟨_, rfl, l, _, rfl, .inl (sqL hl6), rfl, _, rfl, ?_⟩
        rw [show decide (V.int ((ps.length : Nat) : Int) = V.int 0) = false from decide_eq_false (fun e => by injection e with e; omega)]
        exact iteF ⟨_, rfl, q ndF (List.length_pos_iff.mp f1) H6 l ps (s4.trans s56) hl6 (rowF_tk hp4 (tk_same s56))⟩
    · rintro σ H4 ⟨⟨y2, y3, y4, y5, y6, rfl⟩, il, ndi, ⟨ps, hl4, hp4⟩, hS4, s4⟩
      have e : ((restT F G).map V.str).length = F.length + G.length := by simp [restT]
      rw [e] at il hp4
      rw [List.take_of_length_le (by omega)] at hp4
      have pl := hp4.len
      have ndF : (F.map Prod.fst).Nodup := by
        rw [e, List.take_of_length_le (by rw [List.length_map]; omega)] at ndi
        exact ndi
      refine ⟨_, rfl, l, _, rfl, .inl (sqL hl4), rfl, _, rfl, ?_⟩
      by_cases fe : F = []
      · have ge := fg fe
        subst fe
        subst ge
        have p0 : ps.length = 0 := by simpa using pl
        rw [p0]
        refine iteT ⟨_, rfl, aR, _, rfl, .inl (sqL (s4 _ _ hR)), by show 1 ≤ 1000; decide, fun e' ne => ⟨e', _, rfl, upd_same, fun dx h1 h2 => ⟨rfl, dx, [("line", .int 2)], upd_same, by rw [upd_ne h2, upd_same]; rfl, by rw [upd_ne h2] at h1; exact h1, ?_⟩⟩⟩
        rw [heap_made ne h2]
        exact x0F rfl H4 dx s4 (by rw [upd_ne h2] at h1; exact h1)
      · have f1 := List.length_pos_iff.mpr fe
        rw [show decide (V.int ((ps.length : Nat) : Int) = V.int 0) = false from decide_eq_false (fun e => by injection e with e; omega)]
        exact iteF ⟨_, rfl, q ndF fe H4 l ps s4 hl4 hp4⟩
def spRGoX (K : PySem.W.Frag) (CT : Addr) : Sp := fun vs H Q E => ∃ (aR : Addr) (ls : List Str) (n : Nat) (G : List Gd), vs = [.ref aR, .int (n : Nat)] ∧ H aR = some (.lst (ls.map V.str)) ∧ ls.drop n = G.map thingT ∧ n ≤ ls.length ∧ n ≤ 100 ∧ PreG G ∧ ((G.map Prod.fst).Nodup → ∀ H' L xs, Same H H' → H' L = some (.lst xs) → A2 (RowG K H') xs G → Q (.ref L) H') ∧ ∀ i : Nat, FD (G.map Prod.fst) i → XT CT H E ((n : Nat) + (i : Nat))
theorem ok_rgoX {f fR fP : Addr} {fd fdE fdP fdI : FuncData} {tM : Tok} {k : Nat} (B : Bi mg) (T : ErC K mg "NoText" "line" CT fE CW) (FI : Fun K "__init__" "NoText.__init__" sETx fE fdI) (bI : Binds K fdI ["self", "line"] []) (gM : mg "MOST_GOODS" = some (.int 8 tM)) (D : Df K mg "read_goods" sRGo f fd ["rows", "first"]) (DE : Df K mg "read_thing" sRTh fR fdE ["words"]) (GE : FnOk P w K mg base CX0 (k + 3) fR fdE ["words"] (spRTh K)) (DP : Df K mg "is_good" sGood fP fdP ["thing", "ahead"]) (GP : FnOk P w K mg base CX0 (k + 3) fP fdP ["thing", "ahead"] (spGoodX K)) : FnOk P w K mg base (L2.CX P w) (k + 4) f fd ["rows", "first"] (spRGoX K CT) := by
  have GI : FnOk P w K mg base CX0 (k + 2) fE fdI ["self", "line"] (spInitE CT "line") := ok_eTx (k := k + 1) T FI
  refine D.fn.okX scRGo (fun vs H Q E h => ?_) (fun cdv A outer s H vs Q E hr h => ?_)
  · obtain ⟨aR, ls, n, G, rfl, _⟩ := h
    rfl
  · obtain ⟨aR, ls, n, G, rfl, hR, el, nl0, n100, gg, q, xD⟩ := h
    refine ⟨_, pss_cons (ps_set (i := 2) scRGo.nd rfl (.inl rfl) (pe_lst pa_nil))
      (pss_cons (ps_for (passes_of rfl) rfl (pi_Es .li (by rfl) B.enum (pa_cons (pe_slice (r := rSlL K) sl_list (pv 0) (po_some (pv 1)) po_none) pa_nil) (pk_cons (pv 1) pk_nil)) (pg_tup rfl (pgs_cons (pg_name (i := 3) scRGo.nd rfl (.inl rfl)) (pgs_cons (pg_name (i := 4) scRGo.nd rfl (.inl rfl)) pgs_nil)))
        (pss_cons (ps_set (i := 5) scRGo.nd rfl (.inl rfl) (pe_call GE hr (by rfl) DE.mg DE.fn.kp DE.bd .nil pass0 (pa_cons (pe_split (pv 4) pe_str) pa_nil)))
        (pss_cons (ps_if (PW.pt (pw_or (pt_cmpR op_eq (pe_callB call_len_seq (by rfl) B.len PySem.boot_len (pa_cons (pv 2) pa_nil)) (pe_glob (v := .int 8) (by rfl) gM ⟨_, rfl⟩) (nomark _)) (pw_or1 (pt_not (pt_val (pe_call GP hr (by rfl) DP.mg DP.fn.kp DP.bd .nil pass0 (pa_cons (pv 5) (pa_cons (PE.wk (t' := tEaG K) (pe_lc (own := [("each", 6)]) (g := gName 6) (tt := tYes) rfl scRGo.nd (pi_list (pv 2)) (blkOk_by (own := [("each", 6)]) (N := nRGo) (sc := defScope sRGo) (by decide +kernel))
          (fun _ _ _ _ _ => pg_name (i := 6) scRGo.nd rfl (Or.inl rfl)) (fun _ _ _ _ _ => pts_nil) (fun _ _ _ _ _ => pe_ix (r := rIxT K) ix_tup (pv 6) pe_int (fun _ _ => rfl))) (by
            rintro σ H Q ⟨l, xs, ns, y0, y1, y3, y4, y5, y6, rfl, hl, x8, hx, q⟩
            refine ⟨_, rfl, l, rfl, ⟨_, sqL hl⟩, fun L nL => lc_list (K := K) (a := l) (xs := xs) (fun j H' => H' L = some (.lst ((ns.take j).map V.str)) ∧ Same H H') ⟨upd_same, same_new nL⟩ (fun j H' _ h => sqL (h.2 _ _ hl)) ?_ ?_⟩
            · rintro j x H1 hx1 ⟨hL, s1⟩
              obtain ⟨z, hz, a, ys, rfl, ha⟩ := hx.get hx1
              have jl := lt_get hz
              have xl := hx.len
              refine ⟨rfl, tyes (iteT ⟨_, rfl, a, _, 0, .str z, rfl, rfl, (tk_same s1).sq ha, atI_nat (j := 0) rfl, _, hL, ?_, ?_, ((Bt.of_same (S := []) s1).upd0 nL).same⟩)⟩
              · rw [List.length_map, List.length_take]
                exact small1000 (by omega)
              · rw [upd_same, take_more hz, List.map_append]
                rfl
            · rintro H1 ⟨hL, s1⟩
              rw [hx.len, List.take_length] at hL
              exact q H1 L s1 hL)) pa_nil)))))))) (pss_one (ps_raise rfl (takes_of rfl rfl rfl rfl) (pmk_oex T.o T.i T.t GI hr bI .nil pass0 (by rfl) T.g (pa_cons (pv 3) pa_nil)))) pss_nil)
        (pss_one (ps_expr (pe_bm PySem.F.plainAttrs_list PySem.F.slot_list_append PySem.F.type_list_append mt_append (pv 2) (pa_cons (pv 5) pa_nil)))))))
      (pss_one (ps_ret (pv 2)))), ?_⟩
    have g8 := gg.l8
    refine ⟨by show 0 ≤ sizeLine; decide, fun l nl => ?_⟩
    have sm0 : Same H (upd H l (.lst [])) := same_new nl
    have hl0 : (upd H l (.lst [])) l = some (.lst []) := upd_same
    revert sm0 hl0
    generalize upd H l (.lst []) = H1
    intro sm0 hl0
    refine ⟨_, rfl, _, rfl, _, rfl, aR, _, rfl, sqL (sm0 _ _ hR), fun S nS => ?_⟩
    rw [cut_back (by rw [List.length_map]; exact nl0), ← List.map_drop, el]
    have s2 : Same H1 (upd H1 S (.lst ((G.map thingT).map V.str))) := same_new nS
    have hS : (upd H1 S (.lst ((G.map thingT).map V.str))) S = some (.lst ((G.map thingT).map V.str)) := upd_same
    revert s2 hS
    generalize upd H1 S (.lst ((G.map thingT).map V.str)) = H2
    intro s2 hS
    refine ⟨_, rfl, S, _, _, rfl, rfl, by omega, by omega, sqL hS, for_it (walkEs (K := K) (k := .li) (m := (n : Nat)) (a := S) (xs := (G.map thingT).map V.str)) (fun i σ H' => (∃ y3 y4 y5 y6 : Option V, σ = [some (.ref aR), some (.int (n : Nat)), some (.ref l), y3, y4, y5, y6]) ∧ ((G.map Prod.fst).take i).Nodup ∧ (∃ ps, H' l = some (.lst ps) ∧ A2 (RowG K H') ps (G.take i)) ∧ H' S = some (.lst ((G.map thingT).map V.str)) ∧ Same H H') ⟨⟨_, _, _, _, rfl⟩, List.nodup_nil, ⟨[], s2 _ _ hl0, .nil⟩, hS, sm0.trans s2⟩ (fun i σ H' _ h => sqL h.2.2.2.1) ?_ ?_⟩
    · rintro i _ σ H4 _ i1 ⟨⟨y3, y4, y5, y6, rfl⟩, ndi, ⟨ps, hl4, hp4⟩, hS4, s4⟩ ⟨T1, _, y, rfl, nT, rfl, ei, hy⟩
      cases ei
      obtain ⟨x, hx, rfl⟩ := hq_at hy
      obtain ⟨r, hr, rfl⟩ : ∃ r, G[i]? = some r ∧ x = thingT r := by
        rw [List.getElem?_map] at hx
        cases hc : G[i]? with
        | none => rw [hc] at hx; cases hx
        | some r => rw [hc] at hx; cases hx; exact ⟨r, rfl, rfl⟩
      have s5 : Same H4 (upd H4 T1 (.tup [.int ((n : Nat) + (i : Nat)), .str (thingT r)])) := same_new nT
      have g5 : (upd H4 T1 (.tup [.int ((n : Nat) + (i : Nat)), .str (thingT r)])) T1 = some (.tup [.int ((n : Nat) + (i : Nat)), .str (thingT r)]) := upd_same
      revert s5 g5
      generalize upd H4 T1 (.tup [.int ((n : Nat) + (i : Nat)), .str (thingT r)]) = H5
      intro s5 g5
      have ri := lt_get hr
      have pl := hp4.len
      rw [List.length_take] at pl
      have rm := List.mem_of_getElem? hr
      have gn := gg.nm r rm
      have gs := gg.sm r rm
      have xl := hl_thing gn.1 gn.2 gs.1 gs.2
      refine ⟨T1, _, rfl, sqT g5, rfl, _, _, rfl, _, _, rfl, rfl, ?_⟩
      refine ⟨_, rfl, ⟨_, rfl⟩, thingT r, " ", rfl, rfl, rfl, small_len (by omega), ?_⟩
      rw [thing_split gn.1 gn.2 gs.1]
      intro p np6
      have s6 : Same H5 (upd H5 p (.lst ((thingW r).map V.str))) := same_new np6
      have h6 : (upd H5 p (.lst ((thingW r).map V.str))) p = some (.lst ((thingW r).map V.str)) := upd_same
      revert s6 h6
      generalize upd H5 p (.lst ((thingW r).map V.str)) = H6
      intro s6 h6
      refine ⟨p, r, rfl, h6, gs.1, gs.2, fun H7 t7 s7 ht7 => ?_⟩
      have s57 := s5.trans (s6.trans s7)
      have hl7 := s57 _ _ hl4
      refine ⟨_, rfl, l, _, rfl, .inl (sqL hl7), rfl, _, rfl, ?_⟩
      rw [show decide (V.int ((ps.length : Nat) : Int) = V.int 8) = false from decide_eq_false (fun e => by injection e with e; omega)]
      refine iteF ⟨_, rfl, l, ps, _, _, _, _, _, _, _, rfl, hl7, by omega, rowG_nm (rowG_tk hp4 (tk_same s57)), fun H8 L8 s8 hL8 => ?_⟩
      have hz : (G.map Prod.fst)[i]? = some r.1 := by rw [List.getElem?_map, hr]; rfl
      refine ⟨t7, L8, r, _, rfl, (tk_same s8).sq ht7, hL8, gn.1, gn.2, gs.1, gs.2, fun H9 s9 => ?_⟩
      have eD : inV (.str r.1) (((G.take i).map Prod.fst).map V.str) = true ↔ r.1 ∈ (G.map Prod.fst).take i := by
        rw [← List.map_take]
        exact inV_str
      cases c : inV (.str r.1) (((G.take i).map Prod.fst).map V.str) with
      | true => exact ⟨_, rfl, iteT (raise_var rfl fun dd hd => xD i ⟨r.1, hz, eD.mp c, ndi⟩ H9 dd (s4.trans (s57.trans (s8.trans s9))) hd)⟩
      | false =>
      refine ⟨_, rfl, iteF ?_⟩
      have ndj := nodup_more hz ndi fun m => by rw [eD.mpr m] at c; cases c
      have s59 := s57.trans (s8.trans s9)
      have hl9 := s59 _ _ hl4
      have tkA : Tk H9 (upd H9 l (.lst (ps ++ [.ref t7]))) := tk_lst hl9
      refine ⟨_, rfl, .inl ⟨rfl, _, sqL hl9⟩, _, rfl, l, _, _, rfl, rfl, hl9, Nat.lt_of_lt_of_le (show ps.length < 9 by omega) (by decide), ⟨_, _, _, _, rfl⟩, ndj, ⟨ps ++ [.ref t7], upd_same, ?_⟩, ?_, ?_⟩
      · rw [take_more hr]
        exact (rowG_tk (rowG_tk hp4 (tk_same s59)) tkA).snoc ⟨t7, rfl, tkA.sq ((tk_same (s8.trans s9)).sq ht7)⟩
      · rw [upd_ne (fun e : S = l => by rw [e, hl0] at nS; cases nS)]
        exact s59 _ _ hS4
      · exact ((Bt.of_same (S := []) (s4.trans s59)).upd0 nl).same
    · rintro σ H4 ⟨⟨y3, y4, y5, y6, rfl⟩, ndi, ⟨ps, hl4, hp4⟩, hS4, s4⟩
      rw [List.length_map, List.length_map, List.take_length] at hp4
      rw [List.take_of_length_le (by simp)] at ndi
      exact ⟨_, rfl, q ndi H4 l ps s4 hl4 hp4⟩
def spRHoX (K : PySem.W.Frag) (CH CT : Addr) : Sp := fun vs H Q E => ∃ ls : List Str, vs = [.str (Txt.join "\n" ls)] ∧ TxL ls ∧
  ((ls = ([""] : List Str) ∧ XT CT H E 0) ∨ (∃ p : Int, ls = [purseT p] ∧ 0 ≤ p ∧ p ≤ 1000000000 ∧ XT CT H E 1) ∨
    ∃ (F : List (Str × Option Str)) (G : List Gd) (p d : Int), ls = linesT F G p d ∧ PreF F ∧ PreG G ∧ Pu p d ∧ (F = [] → G = []) ∧ (F = [] → XT CT H E 2) ∧ ((F.map Prod.fst).Nodup → F ≠ [] → (G.map Prod.fst).Nodup → ∀ H' o, Same H H' → HsAt K CH H' o F G p d → Q (.ref o) H') ∧
      (∀ n : Nat, FD (F.map Prod.fst) n → XT CT H E (2 + (n : Nat))) ∧ ((F.map Prod.fst).Nodup → F ≠ [] → ∀ n : Nat, FD (G.map Prod.fst) n → XT CT H E (((2 + F.length : Nat) : Int) + (n : Nat))))
theorem ok_rhoX {f fA fP fG fH : Addr} {fd fdA fdP fdG fdH : FuncData} {tF : Tok} {k : Nat} (B : Bi mg) (gF : mg "PEOPLE_FROM" = some (.int 2 tF)) (D : Df K mg "read_house" sRHo f fd ["text"]) (DA : Df K mg "read_amount" sRAm fA fdA ["rows", "line", "word"]) (GA : FnOk P w K mg base (L2.CX P w) (k + 6) fA fdA ["rows", "line", "word"] (spRAmX K CT))
    (DP : Df K mg "read_people" sRPp fP fdP ["rows"]) (GP : FnOk P w K mg base (L2.CX P w) (k + 6) fP fdP ["rows"] (spRPpX K CT)) (DG : Df K mg "read_goods" sRGo fG fdG ["rows", "first"]) (GG : FnOk P w K mg base (L2.CX P w) (k + 6) fG fdG ["rows", "first"] (spRGoX K CT))
    (MH : Mk K CH fH) (gH : mg "House" = some (.ref CH)) (GH : FnOk P w K mg base (L2.CX P w) (k + 5) fH fdH ["self", "people", "goods", "purse", "debts"] (spHIf K CH)) (bH : Binds K fdH ["self", "people", "goods", "purse", "debts"] []) : FnOk P w K mg base (L2.CX P w) (k + 7) f fd ["text"] (spRHoX K CH CT) := by
  refine D.fn.okX scRHo (fun vs H Q E h => ?_) (fun cdv A outer s H vs Q E hr h => ?_)
  · obtain ⟨ls, rfl, _⟩ := h
    rfl
  · obtain ⟨ls, rfl, tx, h⟩ := h
    refine ⟨_, pss_cons (ps_if (pt_not (pt_val (pe_callB call_isi (by rfl) B.isi boot_isinstance (pa_cons (pv 0) (pa_cons (pe_bltn (v := .ty "str") (by rfl) B.str boot_str rfl) pa_nil))))) (pss_one ps_no) pss_nil)
      (pss_cons (ps_set (i := 1) scRHo.nd rfl (.inl rfl) (pe_split (pv 0) pe_str))
      (pss_cons (ps_set (i := 2) scRHo.nd rfl (.inl rfl) (pe_callS GA hr (by rfl) DA.mg DA.fn.kp DA.bd (fun σ => passAt (takes_of rfl rfl rfl rfl) σ) (pa_cons (pv 1) (pa_cons pe_int (pa_cons pe_str pa_nil)))))
      (pss_cons (ps_set (i := 3) scRHo.nd rfl (.inl rfl) (pe_callS GA hr (by rfl) DA.mg DA.fn.kp DA.bd (fun σ => passAt (takes_of rfl rfl rfl rfl) σ) (pa_cons (pv 1) (pa_cons pe_int (pa_cons pe_str pa_nil)))))
      (pss_cons (ps_set (i := 4) scRHo.nd rfl (.inl rfl) (pe_callS GP hr (by rfl) DP.mg DP.fn.kp DP.bd (fun σ => passAt (takes_of rfl rfl rfl rfl) σ) (pa_cons (pv 1) pa_nil)))
      (pss_cons (ps_set (i := 5) scRHo.nd rfl (.inl rfl) (pe_callS GG hr (by rfl) DG.mg DG.fn.kp DG.bd (fun σ => passAt (takes_of rfl rfl rfl rfl) σ) (pa_cons (pv 1) (pa_cons (pe_op op_add (pe_glob (v := .int 2) (by rfl) gF ⟨_, rfl⟩) (pe_callB call_len_seq (by rfl) B.len PySem.boot_len (pa_cons (pv 4) pa_nil))) pa_nil))))
      (pss_one (ps_ret (pe_makeS MH GH hr (by rfl) gH bH .nil (fun σ => passAt (takes_of rfl rfl rfl rfl) σ) (pa_cons (pe_callTy call_tuple_of (by rfl) B.tuple boot_tuple (pa_cons (pv 4) pa_nil)) (pa_cons (pe_callTy call_tuple_of (by rfl) B.tuple boot_tuple (pa_cons (pv 5) pa_nil)) (pa_cons (pv 2) (pa_cons (pv 3) pa_nil)))))))))))), ?_⟩
    have hl := tx.len
    refine ⟨_, rfl, _, .ty "str", .type "str", .type "str", true, rfl, .ty _, .base (.str _), kit_ty (by decide +kernel), true, rfl, iteF ⟨_, rfl, ⟨_, rfl⟩, Txt.join "\n" ls, "\n", rfl, rfl, rfl, small_len (by omega), ?_⟩⟩
    rw [tx.split]
    intro aR nR
    have s1 : Same H (upd H aR (.lst (ls.map V.str))) := same_new nR
    have h1 : (upd H aR (.lst (ls.map V.str))) aR = some (.lst (ls.map V.str)) := upd_same
    revert s1 h1
    generalize upd H aR (.lst (ls.map V.str)) = H1
    intro s1 h1
    rcases h with ⟨rfl, x⟩ | ⟨p, rfl, p0, p1, x⟩ | ⟨F, G, p, d, rfl, gf, gg, pu, fg, xF, q, xD, xG⟩
    · exact ⟨_, rfl, aR, _, 0, "purse", rfl, h1, .inr (.inr ⟨rfl, x.same s1⟩)⟩
    · have cp := hl_purse p0 p1
      exact ⟨_, rfl, aR, _, 0, "purse", rfl, h1, .inl ⟨purseT p, p, rfl, (purse_split p0).1, by omega, p0, p1, fun H2 s2 => ⟨_, rfl, aR, _, 1, "debts", rfl, s2 _ _ h1, .inr (.inl ⟨by show 1 ≤ 1; decide, (x.same s1).same s2⟩)⟩⟩⟩
    have f8 := gf.l8
    have cp := hl_purse pu.p0 pu.p1
    have cd := hl_purse pu.d0 pu.d1
    refine ⟨_, rfl, aR, linesT F G p d, 0, "purse", rfl, h1, .inl ⟨purseT p, p, rfl, (purse_split pu.p0).1, by omega, pu.p0, pu.p1, fun H2 s2 => ?_⟩⟩
    refine ⟨_, rfl, aR, linesT F G p d, 1, "debts", rfl, s2 _ _ h1, .inl ⟨debtsT d, d, rfl, (purse_split pu.d0).2, by omega, pu.d0, pu.d1, fun H3 s3 => ?_⟩⟩
    have h3 := (s2.trans s3) _ _ h1
    have s13 := s1.trans (s2.trans s3)
    refine ⟨_, rfl, aR, purseT p, debtsT d, F, G, rfl, h3, gf, gg, fg, (fun e => (xF e).same s13), (fun nd ne H4 L xs s4 hL hx => ?_), fun n hn => (xD n hn).same s13⟩
    have xl := hx.len
    refine ⟨_, rfl, _, rfl, L, _, rfl, .inl (sqL hL), _, _, rfl, rfl, ?_⟩
    have h4 := s4 _ _ h3
    have en : (2 : Int) + ((xs.length : Nat) : Int) = ((2 + F.length : Nat) : Int) := by omega
    have ed : (linesT F G p d).drop (2 + F.length) = G.map thingT := by
      unfold linesT
      rw [Nat.add_comm]
      show (F.map personT ++ G.map thingT).drop F.length = _
      rw [List.drop_append_of_le_length (by rw [List.length_map]; exact Nat.le_refl _), List.drop_of_length_le (by rw [List.length_map]; exact Nat.le_refl _), List.nil_append]
    refine ⟨aR, linesT F G p d, 2 + F.length, G, (by show [V.ref aR, V.int ((2 : Int) + ((xs.length : Nat) : Int))] = [V.ref aR, V.int ((2 + F.length : Nat) : Int)]; rw [en]), h4, ed, by simp only [linesT, List.length_cons, List.length_append, List.length_map]; omega, by omega, gg, (fun ng H5 M ys s5 hM hy => ?_), fun n hn => (xG nd ne n hn).same (s13.trans s4)⟩
    have hL5 := s5 _ _ hL
    refine ⟨_, rfl, L, xs, rfl, .inl ⟨sqL hL5, fun t6 n6 => ?_⟩⟩
    have s6 : Same H5 (upd H5 t6 (.tup xs)) := same_new n6
    have f6 : FolkAt K (upd H5 t6 (.tup xs)) (.ref t6) F := folk_of (sqT upd_same) (rowF_tk hx (tk_same (s5.trans s6)))
    revert s6 f6
    generalize upd H5 t6 (.tup xs) = H6
    intro s6 f6
    refine ⟨_, rfl, M, ys, rfl, .inl ⟨sqL (s6 _ _ hM), fun t7 n7 => ?_⟩⟩
    have s7 : Same H6 (upd H6 t7 (.tup ys)) := same_new n7
    have g7 : GoodsAt K (upd H6 t7 (.tup ys)) (.ref t7) G := goods_of (sqT upd_same) (rowG_tk hy (tk_same (s6.trans s7)))
    revert s7 g7
    generalize upd H6 t7 (.tup ys) = H7
    intro s7 g7
    refine ⟨_, rfl, _, rfl, fun o dx no nd' ne' => ?_⟩
    have sN : Same H7 (upd (upd H7 dx (.own o)) o (.ins CH dx [])) := fun c x hc => by rw [upd_ne (ne_of_none hc no), upd_ne (ne_of_none hc nd')]; exact hc
    refine ⟨o, dx, .ref t6, .ref t7, p, d, F, G, rfl, upd_same, f6.tk (tk_same (s7.trans sN)), gf.good ne nd, .inr (g7.tk (tk_same sN)), gg.good ng, pu, fun H8 b8 hh => ⟨rfl, q nd ne ng H8 o ?_ hh⟩⟩
    have s78 : Same H7 H8 := fun c x hc => b8 c x (by simp [ne_of_none hc no]) (sN c x hc)
    exact ((((((s1.trans s2).trans s3).trans s4).trans s5).trans s6).trans s7).trans s78
end
end WdQ

set_option Elab.async false
set_option linter.all false
set_option maxRecDepth 100000
set_option maxHeartbeats 4000000
set_option exponentiation.threshold 5000
namespace WdQ
open PySem PySem.Spec PyProof.Rows L2 WdM Wd
abbrev sPool : Stmt := topS 42
abbrev sTake : Stmt := topS 43
theorem scPool : FnScope ["_law_script", "_law_k", "_law_cell", "_law_mix", "_law_found", "_law_turn"] ["_law_script", "_law_k"] (defScope sPool) := ⟨rfl, rfl, rfl, by decide +kernel, rfl, by decide +kernel, by decide +kernel⟩
theorem scTake : FnScope ["_law_pool_here", "_law_many", "_law_digit"] ["_law_pool_here", "_law_many"] (defScope sTake) := ⟨rfl, rfl, rfl, by decide +kernel, rfl, by decide +kernel, by decide +kernel⟩
def PoolAt (H : Hp) (l : Addr) : Prop := ∃ n : Int, H l = some (.lst [.int n]) ∧ 0 ≤ n ∧ n.natAbs < 2 ^ 1300
theorem PoolAt.lst {H : Hp} {l : Addr} (h : PoolAt H l) : ∀ a ∈ [l], ∃ zs, H a = some (.lst zs) := fun a ha => by
  obtain ⟨n, e, _⟩ := h
  rw [List.mem_singleton.mp ha]
  exact ⟨_, e⟩
theorem PoolAt.same {H H' : Hp} {l : Addr} (h : PoolAt H l) (e : Same H H') : PoolAt H' l := by
  obtain ⟨n, a, b⟩ := h
  exact ⟨n, e _ _ a, b⟩
theorem PoolAt.ne {H : Hp} {l p : Addr} (h : PoolAt H l) (e : H p = none) : l ≠ p := by
  obtain ⟨n, a, b⟩ := h
  exact ne_of_none a e
theorem PoolAt.upd {H : Hp} {l p : Addr} {o : HO} (h : PoolAt H l) (e : l ≠ p) : PoolAt (upd H p o) l := by
  obtain ⟨n, a, b⟩ := h
  exact ⟨n, by rw [upd_ne e]; exact a, b⟩
theorem kept {S : List Addr} {H H' : Hp} {b : Addr} {o : HO} (e : Bt S H H') (h : H b = some o) (n : b ∉ S) : H' b = some o := e b o n h
theorem lst_ne {H : Hp} {l p : Addr} {ws : List V} (h : PoolAt H l) (e : H p = some (.lst ws)) (n : ws.length ≠ 1) : p ≠ l := fun z => by
  obtain ⟨m, q, _⟩ := h
  rw [← z, e] at q
  exact n (congrArg (fun o : Option HO => match o with | some (.lst xs) => xs.length | _ => 0) q)
theorem PoolAt.bt {H H' : Hp} {p l : Addr} (h : PoolAt H p) (b : Bt [l] H H') (n : p ≠ l) : PoolAt H' p := by
  obtain ⟨m, q, r⟩ := h
  exact ⟨m, b _ _ (by simp [n]) q, r⟩
section
variable {P : Program} {w : World} {K : PySem.W.Frag} {mg : Str → Option Value} {base : Heap}
def spTake : Sp := fun vs H Q _ => ∃ (l : Addr) (m : Int), vs = [.ref l, .int m] ∧ PoolAt H l ∧ 0 < m ∧ ∀ H' d, Bt [l] H H' → PoolAt H' l → 0 ≤ d → d < m → Q (.int d) H'
theorem ok_take {f : Addr} {fd : FuncData} {k : Nat} (B : Bi mg) (D : Df K mg "_law_take" sTake f fd ["_law_pool_here", "_law_many"]) : FnOk P w K mg base CX0 (k + 1) f fd ["_law_pool_here", "_law_many"] spTake := by
  refine D.fn.ok scTake (fun vs H Q E h => ?_) (fun cdv A outer s H vs Q E hr h => ?_)
  · obtain ⟨l, m, rfl, _⟩ := h
    rfl
  · obtain ⟨l, m, rfl, ⟨n, hl, n0, nB⟩, m0, q⟩ := h
    refine ⟨_, pss_cons (ps_asg (pe_callB call_divmodW (by rfl) B.divmod (by decide +kernel) (pa_cons (pe_ix (r := rIxL K) ix_list (pv 0) pe_int (fun _ _ => rfl)) (pa_cons (pv 1) pa_nil)))
        (pg_tup rfl (pgs_cons (pg_sub (pv 0) pe_int set_list) (pgs_cons (pg_name (i := 2) scTake.nd rfl (.inl rfl)) pgs_nil))))
      (pss_one (ps_ret (pv 2))), ?_⟩
    refine ⟨_, rfl, l, _, 0, .int n, rfl, rfl, sqL hl, atI_nat (j := 0) rfl, _, rfl, n, m, rfl, divp_ok m0 ?_, fun p hp => ?_⟩
    · have := PyProof.Rows.intBits_le nB
      omega
    · have nlp : l ≠ p := ne_of_none hl hp
      have hl2 : (upd H p (.tup [.int (n / m), .int (n % m)])) l = some (.lst [.int n]) := by rw [upd_ne nlp]; exact hl
      refine ⟨p, _, rfl, sqT upd_same, rfl, _, _, rfl, _, rfl, l, _, 0, 0, rfl, rfl, hl2, ixN_nat (n := 1) (i := 0) (by decide), _, _, rfl, rfl, ?_⟩
      refine ⟨_, rfl, q _ _ (((Bt.refl H).new hp).upd1 (by simp)) ⟨n / m, upd_same, Int.ediv_nonneg n0 (Int.le_of_lt m0), ?_⟩ (Int.emod_nonneg n (by omega)) (Int.emod_lt_of_pos n m0)⟩
      exact wide_le (Int.ediv_nonneg n0 (Int.le_of_lt m0)) (Int.ediv_le_self _ n0) nB
def spPool (K : PySem.W.Frag) : Sp := fun vs H Q _ => ∃ (a : Addr) (ns : List Int) (i : Int), vs = [.ref a, .int i] ∧ SqL K H a (ns.map V.int) ∧ 0 ≤ i ∧ i < 64 ∧ ∀ H' l, Same H H' → H l = none → PoolAt H' l → Q (.ref l) H'
theorem found_step {f x : Int} {m : Nat} (h0 : 0 ≤ f) (h1 : f.natAbs < 2 ^ m) (h2 : 0 ≤ x) (h3 : x < 99999999977) : 0 ≤ f * 100000000000 + x ∧ (f * 100000000000 + x).natAbs < 2 ^ (m + 37) := by
  rw [Nat.pow_add]
  generalize 2 ^ m = B at *
  rw [show (2 : Nat) ^ 37 = 137438953472 by decide]
  omega
theorem cut_ints (ns : List Int) (lo hi : Option Int) : ∃ ms : List Int, cutV (ns.map V.int) lo hi = ms.map V.int := by
  unfold cutV
  exact ⟨(ns.drop _).take _, by rw [List.map_take, List.map_drop]⟩
theorem ok_pool {f : Addr} {fd : FuncData} {k : Nat} (B : Bi mg) (D : Df K mg "_law_pool" sPool f fd ["_law_script", "_law_k"]) : FnOk P w K mg base CX0 (k + 1) f fd ["_law_script", "_law_k"] (spPool K) := by
  refine D.fn.ok scPool (fun vs H Q E h => ?_) (fun cdv A outer s H vs Q E hr h => ?_)
  · obtain ⟨l, m, i, rfl, _⟩ := h
    rfl
  · obtain ⟨a, ns, i, rfl, hs, i0, i1, q⟩ := h
    refine ⟨_, pss_cons (ps_set (i := 2) scPool.nd rfl (.inl rfl) (pe_callB (cr_sum rfl) (by rfl) B.sum (by decide +kernel) (pa_cons (pe_slice sl_list (pv 0) (po_some (pv 1)) (po_some (pe_op op_add (pv 1) pe_int))) pa_nil)))
      (pss_cons (ps_if (PW.pt (pw_or (pt_cmpR op_lt (pv 2) pe_int (nomark _)) (pw_or1 (pt_cmpR op_ge (pv 2) (pe_op op_pow pe_int pe_int) (nomark _)))))
        (pss_one (ps_ret (pe_lst (pa_cons (pe_op op_mod (pe_callB call_abs (by rfl) B.abs (by decide +kernel) (pa_cons (pv 2) pa_nil))
          (pe_op op_mulW (pe_op op_mulW (pe_op op_mulW (pe_op op_mulW (pe_op op_mulW (pe_op op_pow pe_int pe_int) (pe_op op_pow pe_int pe_int)) (pe_op op_pow pe_int pe_int)) (pe_op op_pow pe_int pe_int)) (pe_op op_pow pe_int pe_int)) (pe_op op_pow pe_int pe_int))) pa_nil)))) pss_nil)
      (pss_cons (ps_set (i := 3) scPool.nd rfl (.inl rfl) (pe_op op_add (pe_op op_add (pe_op op_mul (pv 2) pe_int) (pe_op op_mul (pe_op op_mul pe_int (pv 1)) (pv 1))) pe_int))
      (pss_cons (ps_set (i := 4) scPool.nd rfl (.inl rfl) pe_int)
      (pss_cons (ps_for PassesOwn.never rfl (pi_range1 (by rfl) B.range (pa_cons pe_int pa_nil)) (pg_name (i := 5) scPool.nd rfl (.inl rfl))
        (pss_cons (ps_set (i := 3) scPool.nd rfl (.inl rfl) (pe_op op_mod (pe_op op_add (pe_op op_add (pe_op op_mul (pe_op op_mod (pv 3) pe_int) pe_int) (pe_op op_mul pe_int (pv 5))) pe_int) pe_int))
        (pss_one (ps_set (i := 4) scPool.nd rfl (.inl rfl) (pe_op op_add (pe_op op_mulW (pv 4) (pe_op op_pow pe_int pe_int)) (pe_op op_mod (pe_op op_mul (pv 3) (pe_op op_add (pe_op op_mod (pv 3) pe_int) pe_int)) pe_int))))))
      (pss_one (ps_ret (pe_lst (pa_cons (pv 4) pa_nil)))))))), ?_⟩
    refine ⟨_, rfl, _, rfl, i, rfl, _, rfl, i, 1, rfl, rfl, i + 1, rfl, a, _, rfl, hs, fun p hp => ?_⟩
    obtain ⟨ms, em⟩ := cut_ints ns (some i) (some (i + 1))
    have sm : Same H (upd H p (.lst (cutV (ns.map V.int) (some i) (some (i + 1))))) := same_new hp
    refine ⟨p, ms, rfl, sqL (by rw [upd_same, em]), ?_⟩
    generalize ms.sum = c
    revert sm
    generalize upd H p (.lst (cutV (ns.map V.int) (some i) (some (i + 1)))) = H1
    intro sm
    refine ⟨_, rfl, c, 0, rfl, rfl, _, rfl, ?_⟩
    have huge : ∀ (Q2 : V → Hp → Prop), (∀ l n, H1 l = none → 0 ≤ n → n.natAbs < 2 ^ 1300 → Q2 (.ref l) (upd H1 l (.lst [.int n]))) →
        tLst (tCons (tOp (rI (fun _ j => 0 < j) fun i j => .int (i % j)) (tCB (fun xs H Q => ∃ i, xs = [.int i] ∧ Q (.int (if i < 0 then -i else i)) H) (tCons (tVar 2) tNil))
          (tOp (rI CMulW fun i j => .int (i * j)) (tOp (rI CMulW fun i j => .int (i * j)) (tOp (rI CMulW fun i j => .int (i * j)) (tOp (rI CMulW fun i j => .int (i * j)) (tOp (rI CMulW fun i j => .int (i * j)) (tOp (rI CPow fun i j => .int (i ^ j.toNat)) (tC (.int 10)) (tC (.int 64))) (tOp (rI CPow fun i j => .int (i ^ j.toNat)) (tC (.int 10)) (tC (.int 64)))) (tOp (rI CPow fun i j => .int (i ^ j.toNat)) (tC (.int 10)) (tC (.int 64)))) (tOp (rI CPow fun i j => .int (i ^ j.toNat)) (tC (.int 10)) (tC (.int 64)))) (tOp (rI CPow fun i j => .int (i ^ j.toNat)) (tC (.int 10)) (tC (.int 64)))) (tOp (rI CPow fun i j => .int (i ^ j.toNat)) (tC (.int 10)) (tC (.int 64))))) tNil)
          [some (.ref a), some (.int i), some (.int c), none, none, none] H1 Q2 := fun Q2 h => by
      have cp : CPow 10 64 := ⟨by decide, by decide, by decide⟩
      have t0 : ((10 : Int) ^ (64 : Int).toNat).natAbs < 2 ^ 213 := by decide
      have b0 : (0 : Int) < (10 : Int) ^ (64 : Int).toNat := by decide
      generalize he : (10 : Int) ^ (64 : Int).toNat = t at t0 b0
      have t1 := wide_lt t0 t0
      have t2 := wide_lt t1 t0
      have t3 := wide_lt t2 t0
      have t4 := wide_lt t3 t0
      have t5 := wide_lt t4 t0
      have b5 : 0 < t * t * t * t * t * t := Int.mul_pos (Int.mul_pos (Int.mul_pos (Int.mul_pos (Int.mul_pos b0 b0) b0) b0) b0) b0
      have hv := congrArg V.int he
      refine ⟨_, rfl, c, rfl, 10, 64, rfl, rfl, cp, 10, 64, rfl, rfl, cp, t, t, hv, hv, wide_mul t0 t0 (by decide) (by decide) (by decide), 10, 64, rfl, rfl, cp,
        t * t, t, rfl, hv, wide_mul t1 t0 (by decide) (by decide) (by decide), 10, 64, rfl, rfl, cp, t * t * t, t, rfl, hv, wide_mul t2 t0 (by decide) (by decide) (by decide), 10, 64, rfl, rfl, cp,
        t * t * t * t, t, rfl, hv, wide_mul t3 t0 (by decide) (by decide) (by decide), 10, 64, rfl, rfl, cp, t * t * t * t * t, t, rfl, hv, wide_mul t4 t0 (by decide) (by decide) (by decide),
        _, _, rfl, rfl, b5, by show 1 ≤ sizeLine; decide, fun l hl => h l _ hl (Int.emod_nonneg _ (by omega)) ?_⟩
      have := Int.emod_lt_of_pos (if c < 0 then -c else c) b5
      exact Nat.lt_of_lt_of_le (wide_le (Int.emod_nonneg _ (by omega)) (Int.le_of_lt this) t5) (pow_le (by decide))
    have fin : ∀ l n, H1 l = none → 0 ≤ n → n.natAbs < 2 ^ 1300 → Q (.ref l) (upd H1 l (.lst [.int n])) := fun l n hl h0 hB => q _ l (sm.trans (same_new hl)) (sm.free hl) ⟨n, upd_same, h0, hB⟩
    by_cases hneg : c < 0
    · rw [decide_eq_true hneg]
      exact iteT (iteT (huge Q fin))
    · rw [decide_eq_false hneg]
      refine iteF ⟨_, rfl, 10, 18, rfl, rfl, ⟨by decide, by decide, by decide⟩, c, _, rfl, rfl, _, rfl, ?_⟩
      by_cases hbig : (10 : Int) ^ (18 : Int).toNat ≤ c
      · rw [decide_eq_true hbig]
        exact iteT (huge Q fin)
      · rw [decide_eq_false hbig]
        have hc : c < 1000000000000000000 := by
          have : (10 : Int) ^ (18 : Int).toNat = 1000000000000000000 := by decide
          omega
        refine iteF ?_
        refine ⟨_, rfl, c, 48271, rfl, rfl, .inr ⟨by decide, by decide⟩, _, rfl, 977, i, rfl, rfl, .inl ⟨by decide, by decide⟩, _, rfl, _, i, rfl, rfl, .inr ⟨by omega, by omega⟩, _, _, rfl, rfl, _, 13, rfl, rfl, ?_⟩
        have m0 : 0 ≤ c * 48271 + 977 * i * i + 13 := by
          have := Int.mul_nonneg (show 0 ≤ 977 * i by omega) i0
          omega
        refine ⟨27, rfl, by decide, by decide, for_range (lo := 0) (n := 27) (fun j σ H' => ∃ (mm ff : Int) (y : Option V), σ = [some (.ref a), some (.int i), some (.int c), some (.int mm), some (.int ff), y] ∧ 0 ≤ mm ∧ 0 ≤ ff ∧ ff.natAbs < 2 ^ (37 * j) ∧ H' = H1)
          ⟨_, 0, none, rfl, m0, Int.le_refl 0, by decide, rfl⟩ ?_ ?_⟩
        · rintro j σ H' hj ⟨mm, ff, y, rfl, g1, g2, g3, rfl⟩
          have r0 := Int.emod_nonneg mm (show (999999999989 : Int) ≠ 0 by decide)
          have r1 := Int.emod_lt_of_pos mm (show (0 : Int) < 999999999989 by decide)
          refine ⟨_, rfl, mm, 999999999989, rfl, rfl, by show (0 : Int) < 999999999989; decide, _, 69621, rfl, rfl, .inr ⟨by decide, by decide⟩, _, rfl, 40503, _, rfl, rfl, .inl ⟨by decide, by decide⟩, _, _, rfl, rfl, _, 271, rfl, rfl, _, 999999999989, rfl, rfl, by show (0 : Int) < 999999999989; decide, ?_⟩
          have s0 := Int.emod_nonneg (mm % 999999999989 * 69621 + 40503 * (0 + (j : Int)) + 271) (show (999999999989 : Int) ≠ 0 by decide)
          have s1 := Int.emod_lt_of_pos (mm % 999999999989 * 69621 + 40503 * (0 + (j : Int)) + 271) (show (0 : Int) < 999999999989 by decide)
          have fB : ff.natAbs < 2 ^ 1000 := Nat.lt_of_lt_of_le g3 (pow_le (by omega))
          refine ⟨_, rfl, 10, 11, rfl, rfl, ⟨by decide, by decide, by decide⟩, ff, _, rfl, rfl, wide_mul fB (show ((10 : Int) ^ (11 : Int).toNat).natAbs < 2 ^ 64 by decide) (by decide) (by decide) (by decide), _, rfl, _, rfl, _, 65537, rfl, rfl, by show (0 : Int) < 65537; decide, _, 3, rfl, rfl, _, _, rfl, rfl, .inl ⟨Int.lt_of_lt_of_le (by decide) s0, Int.lt_trans s1 (by decide)⟩, _, 99999999977, rfl, rfl, by show (0 : Int) < 99999999977; decide, _, _, rfl, rfl, ?_⟩
          refine ⟨_, _, _, rfl, s0, ?_, ?_, rfl⟩
          · exact (found_step g2 g3 (Int.emod_nonneg _ (by decide)) (Int.emod_lt_of_pos _ (by decide))).1
          · exact (found_step g2 g3 (Int.emod_nonneg _ (by decide)) (Int.emod_lt_of_pos _ (by decide))).2
        · rintro σ H' ⟨mm, ff, y, rfl, g1, g2, g3, rfl⟩
          exact ⟨_, rfl, by show 1 ≤ sizeLine; decide, fun l hl => fin l ff hl g2 (Nat.lt_of_lt_of_le g3 (pow_le (by decide)))⟩
end
end WdQ

set_option Elab.async false
set_option linter.all false
set_option maxRecDepth 100000
set_option maxHeartbeats 4000000
set_option exponentiation.threshold 5000
namespace WdQ
open PySem PySem.Spec PyProof.Rows L2 WdM Wd
abbrev sWords : Stmt := topS 44
def nWords : List Str := ["_law_pool_here", "_law_many", "_law_own", "_law_letters", "_law_found", "_law_turn", "_law_word", "_law_place", "_law_letter", "_law_some", "_law_odd", "_law_one"]
theorem scWords : FnScope nWords ["_law_pool_here", "_law_many"] (defScope sWords) := ⟨rfl, rfl, rfl, by decide +kernel, rfl, by decide +kernel, by decide +kernel⟩
def ownS : List Str := ["give", "pay", "rest", "wait", "ranks", "sums", "names", "kinds", "person", "thing", "none", "deal"]
def ownW : List V := ownS.map V.str
theorem own_wd : ∀ z ∈ ownS, wdB 6 z := by
  have : ∀ z ∈ ownS, z.cps.toList.all letB = true ∧ 1 ≤ z.length ∧ z.length ≤ 6 := by decide +kernel
  exact fun z hz => ⟨fun c hc => List.all_eq_true.mp (this z hz).1 c hc, (this z hz).2⟩
def tWsN (ws : List V) : TE := fun σ H Q => ∀ p H', Same H H' → H p = none → H' p = some (.lst ws) → Q (.ref p) H'
/-- one word is drawn -/
def tIfW : TS := fun D σ H => ∃ (l : Addr) (y1 y2 y4 y5 y9 y10 : Option V) (z : Str), σ = [some (.ref l), y1, y2, some (.str lettersS), y4, y5, some (.str z), none, none, y9, y10, none] ∧ PoolAt H l ∧ wdB 6 z ∧ ∀ H' z', Bt [l] H H' → PoolAt H' l → wdB 6 z' → D.nx [some (.ref l), y1, y2, some (.str lettersS), y4, y5, some (.str z'), none, none, y9, y10, none] H'
theorem at_letters {d : Int} (d0 : 0 ≤ d) (d1 : d < 26) : ∃ c, atI lettersS.cps.toList d = some c ∧ letB c = true := by
  obtain ⟨n, rfl⟩ := Int.eq_ofNat_of_zero_le d0
  have hn : n < lettersS.cps.toList.length := by
    show n < 26
    omega
  exact ⟨_, atI_nat (List.getElem?_eq_getElem hn), decide_eq_true (List.getElem_mem hn)⟩
theorem ones_sum : ∀ cs : List Nat, ((cs.map fun c => (⟨#[c]⟩ : Str)).map (·.length)).sum = cs.length
  | [] => rfl
  | c :: cs => by
    rw [List.map_cons, List.map_cons, List.sum_cons, ones_sum cs, List.length_cons]
    show 1 + _ = _
    omega
theorem flat_strs (zs : List Str) : (zs.map V.str).all flatV = true := by
  rw [List.all_map, List.all_eq_true]
  exact fun _ _ => rfl
theorem joinL_one : ∀ cs : List Nat, TL.joinL [] (cs.map fun c => [c]) = cs
  | [] => rfl
  | [_] => rfl
  | c :: d :: cs => by
    have := joinL_one (d :: cs)
    show [c] ++ ([] ++ TL.joinL [] ((d :: cs).map fun c => [c])) = _
    rw [this]
    rfl
theorem join_letters : ∀ {cs : List Nat}, (∀ c ∈ cs, letB c = true) → okL (Txt.join "" (cs.map fun c => (⟨#[c]⟩ : Str))) ∧ (Txt.join "" (cs.map fun c => (⟨#[c]⟩ : Str))).length = cs.length := by
  intro cs h
  have e : Txt.join "" (cs.map fun c => (⟨#[c]⟩ : Str)) = ⟨cs.toArray⟩ := by
    rw [TL.join_eq]
    refine TL.ext_tl ?_
    rw [TL.tl_join, List.map_map]
    have := joinL_one cs
    exact this.trans (by show cs = cs.toArray.toList; simp)
  rw [e]
  exact ⟨fun c hc => h c (by simpa using hc), by show cs.toArray.size = _; simp⟩
section
variable {P : Program} {w : World} {K : PySem.W.Frag} {mg : Str → Option Value} {base : Heap}
def spWords : Sp := fun vs H Q _ => ∃ (l : Addr) (m : Nat), vs = [.ref l, .int (m : Nat)] ∧ PoolAt H l ∧ m ≤ 20 ∧ ∀ (H' : Hp) (p : Addr) (zs : List Str), Bt [l] H H' → PoolAt H' l → H p = none → H' p = some (.lst (zs.map V.str)) → zs.length = m → zs.Nodup → (∀ z ∈ zs, Nm z) → Q (.ref p) H'
theorem ok_words {f fT : Addr} {fd fdT : FuncData} {k : Nat} (B : Bi mg) (D : Df K mg "_law_words" sWords f fd ["_law_pool_here", "_law_many"]) (DT : Df K mg "_law_take" sTake fT fdT ["_law_pool_here", "_law_many"]) (GT : FnOk P w K mg base CX0 (k + 1) fT fdT ["_law_pool_here", "_law_many"] spTake) : FnOk P w K mg base CX0 (k + 2) f fd ["_law_pool_here", "_law_many"] spWords := by
  refine D.fn.ok scWords (fun vs H Q E h => ?_) (fun cdv A outer s H vs Q E hr h => ?_)
  · obtain ⟨l, m, rfl, _⟩ := h
    rfl
  · obtain ⟨l, m, rfl, pool, m20, q⟩ := h
    refine ⟨_, pss_cons (ps_set (i := 2) scWords.nd rfl (.inl rfl) (PE.wk (t' := tWsN ownW) (pe_lst (pa_cons pe_str (pa_cons pe_str (pa_cons pe_str (pa_cons pe_str (pa_cons pe_str (pa_cons pe_str (pa_cons pe_str (pa_cons pe_str (pa_cons pe_str (pa_cons pe_str (pa_cons pe_str (pa_cons pe_str pa_nil))))))))))))) (by intro σ H Q q; exact ⟨by show ownW.length ≤ sizeLine; decide, fun p n => q p _ (same_new n) n upd_same⟩)))
      (pss_cons (ps_asg (pe_tup (pa_cons pe_str (pa_cons (pe_lst pa_nil) pa_nil))) (pg_tup rfl (pgs_cons (pg_name (i := 3) scWords.nd rfl (.inr rfl)) (pgs_cons (pg_name (i := 4) scWords.nd rfl (.inr rfl)) pgs_nil))))
      (pss_cons (ps_for PassesOwn.never rfl (pi_range1 (by rfl) B.range (pa_cons (pv 1) pa_nil)) (pg_name (i := 5) scWords.nd rfl (.inl rfl))
        (pss_cons (ps_set (i := 6) scWords.nd rfl (.inr rfl) (pe_ix (r := rIxL K) ix_list (pv 2) (pe_call GT hr (by rfl) DT.mg DT.fn.kp DT.bd .nil pass0 (pa_cons (pv 0) (pa_cons pe_int pa_nil))) (fun _ _ => rfl)))
        (pss_cons (PS.wk (t' := tIfW) (ps_if (pt_cmpR op_gt (pe_call GT hr (by rfl) DT.mg DT.fn.kp DT.bd .nil pass0 (pa_cons (pv 0) (pa_cons pe_int pa_nil))) pe_int (nomark _))
          (pss_one (ps_set (i := 6) scWords.nd rfl (.inr rfl) (pe_join pe_str (pe_lc (own := [("_law_place", 7)]) (g := gName 7) (tt := tYes) rfl scWords.nd (pi_range1 (by rfl) B.range (pa_cons (pe_op op_add pe_int (pe_call GT hr (by rfl) DT.mg DT.fn.kp DT.bd .nil pass0 (pa_cons (pv 0) (pa_cons pe_int pa_nil)))) pa_nil)) (blkOk_by (own := [("_law_place", 7)]) (N := nWords) (sc := defScope sWords) (by decide +kernel))
            (fun _ _ _ _ _ => pg_name (i := 7) scWords.nd rfl (Or.inl rfl)) (fun _ _ _ _ _ => pts_nil)
            (fun _ _ _ _ _ => pe_ix (r := rIxS) ix_str (pv 3) (pe_call GT hr (by rfl) DT.mg DT.fn.kp DT.bd .nil pass0 (pa_cons (pv 0) (pa_cons pe_int pa_nil))) (fun _ _ => rfl)))))) pss_nil) (by
          rintro D σ H ⟨l, y1, y2, y4, y5, y9, y10, z, rfl, pool, wz, q⟩
          refine ⟨_, rfl, l, 4, rfl, pool, by decide, fun H6 d6 b6 pool6 d60 d61 => ⟨d6, 0, rfl, rfl, _, rfl, ?_⟩⟩
          by_cases dp : (0 : Int) < d6
          rotate_left
          · rw [decide_eq_false dp]
            exact iteF (q H6 z b6 pool6 wz)
          rw [decide_eq_true dp]
          refine iteT ⟨⟨_, rfl⟩, _, rfl, l, 5, rfl, pool6, by decide, fun H7 d7 b7 pool7 d70 d71 => ⟨1, d7, rfl, rfl, 1 + d7, rfl, by omega, by omega, fun L nL => ?_⟩⟩
          have nlL : l ≠ L := pool7.ne nL
          refine lc_range (lo := 0) (n := (1 + d7).toNat) (fun j H' => ∃ cs : List Nat, H' L = some (.lst ((cs.map fun c => (⟨#[c]⟩ : Str)).map V.str)) ∧ cs.length = j ∧ (∀ c ∈ cs, letB c = true) ∧ PoolAt H' l ∧ Bt [l] H7 H') ⟨[], upd_same, rfl, (fun x hx => nomatch hx), pool7.upd nlL, (Bt.refl H7).new nL⟩ ?_ ?_
          · rintro j H8 hj ⟨cs, hL, cl, lt, pool8, b8⟩
            refine ⟨rfl, tyes (iteT ⟨_, rfl, _, rfl, l, 26, rfl, pool8, by decide, fun H9 d9 b9 pool9 d90 d91 => ?_⟩)⟩
            obtain ⟨c, hc, lc⟩ := at_letters d90 d91
            refine ⟨lettersS, d9, c, rfl, rfl, by show 26 ≤ sizeLine; decide, hc, _, kept b9 hL (by simp [nlL.symm]), ?_, cs ++ [c], ?_, ?_, ?_, pool9.upd nlL, (b8.trans b9).upd0 nL⟩
            · rw [List.length_map, List.length_map, cl]
              exact Nat.lt_of_lt_of_le (show j < 8 by omega) (by decide)
            · rw [upd_same, List.map_append, List.map_append]
              rfl
            · rw [List.length_append, cl]
              rfl
            · intro x hx
              rcases List.mem_append.mp hx with h | h
              · exact lt x h
              · rw [List.mem_singleton.mp h]
                exact lc
          · rintro H8 ⟨cs, hL, cl, lt, pool8, b8⟩
            obtain ⟨k1, k2⟩ := join_letters lt
            refine ⟨_, L, cs.map fun c => (⟨#[c]⟩ : Str), rfl, rfl, .inl (sqL hL), ?_, ?_⟩
            · rw [ones_sum, List.length_map]
              show cs.length + cs.length * 0 ≤ 16777216
              omega
            · exact q H8 _ ((b6.trans b7).trans b8) pool8 ⟨k1, by omega, by omega⟩))
        (pss_cons (ps_set (i := 9) scWords.nd rfl (.inl rfl) (pe_op op_cat (pe_lst (pa_cons (pv 6) pa_nil)) (pe_lc (own := [("_law_letter", 8)]) (g := gName 8) (tt := tYes) rfl scWords.nd (pi_str (pv 3)) (blkOk_by (own := [("_law_letter", 8)]) (N := nWords) (sc := defScope sWords) (by decide +kernel))
            (fun _ _ _ _ _ => pg_name (i := 8) scWords.nd rfl (Or.inl rfl)) (fun _ _ _ _ _ => pts_nil)
            (fun _ _ _ _ _ => pe_op op_add_str (pe_op op_add_str (pe_slice (r := rSlS) sl_str (pv 6) po_none (po_some pe_int)) (pv 8)) pe_str))))
        (pss_cons (ps_set (i := 10) scWords.nd rfl (.inr rfl) (PE.wk (t' := tWsN noNames) (pe_lst (pa_cons pe_str (pa_cons pe_str (pa_cons pe_str (pa_cons pe_str (pa_cons pe_str (pa_cons pe_str (pa_cons pe_str (pa_cons pe_str (pa_cons pe_str (pa_cons pe_str (pa_cons pe_str (pa_cons pe_str (pa_cons pe_str pa_nil)))))))))))))) (by intro σ H Q q; exact ⟨by show noNames.length ≤ sizeLine; decide, fun p n => q p _ (same_new n) n upd_same⟩)))
        (pss_one (ps_expr (pe_bm PySem.F.plainAttrs_list PySem.F.slot_list_append PySem.F.type_list_append mt_append (pv 4) (pa_cons (pe_ix (r := rIxL K) ix_list (pe_lc (own := [("_law_one", 11)]) (g := gName 11) rfl scWords.nd (pi_list (pv 9)) (blkOk_by (own := [("_law_one", 11)]) (N := nWords) (sc := defScope sWords) (by decide +kernel))
            (fun _ _ _ _ _ => pg_name (i := 11) scWords.nd rfl (Or.inl rfl)) (fun _ _ _ _ _ => pts_one (PW.pt (pw_and (pt_cmpR (r := rIn K true) op_notIn_seq (pv 11) (pv 4) (by rfl)) (pw_and1 (pt_cmpR (r := rIn K true) op_notIn_seq (pv 11) (pv 10) (by rfl))))))
            (fun _ _ _ _ _ => pv 11)) pe_int (fun _ _ => rfl)) pa_nil)))))))))
      (pss_one (ps_ret (pv 4))))), ?_⟩
    intro aO H1 s1 nO hO
    refine ⟨by show 0 ≤ sizeLine; decide, fun aF nF => ?_⟩
    have pool2 := (pool.same s1).upd (o := .lst []) ((pool.same s1).ne nF)
    have hO2 : (upd H1 aF (.lst [])) aO = some (.lst ownW) := by rw [upd_ne (ne_of_none hO nF)]; exact hO
    have s2 : Same H (upd H1 aF (.lst [])) := s1.trans (same_new nF)
    have hF2 : (upd H1 aF (.lst [])) aF = some (.lst []) := upd_same
    revert pool2 hO2 s2 hF2
    generalize upd H1 aF (.lst []) = H2
    intro pool2 hO2 s2 hF2
    refine ⟨by show 2 ≤ sizeLine; decide, fun tp ntp => ⟨tp, _, rfl, sqT upd_same, rfl, _, _, rfl, _, _, rfl, rfl, ?_⟩⟩
    have s23 : Same H2 (upd H2 tp (.tup [.str "abcdefghijklmnopqrstuvwxyz", .ref aF])) := same_new ntp
    revert s23
    generalize upd H2 tp (.tup [.str "abcdefghijklmnopqrstuvwxyz", .ref aF]) = H3
    intro s23
    have pool3 := pool2.same s23
    have b3 : Bt [l] H H3 := Bt.of_same (s2.trans s23)
    have hO3 := s23 _ _ hO2
    have hF3 := s23 _ _ hF2
    have nlO : aO ≠ l := lst_ne pool3 hO3 (by decide)
    have nlF : aF ≠ l := lst_ne pool3 hF3 (by decide)
    have nFO : aO ≠ aF := fun e => by
      rw [e, hF3] at hO3
      cases hO3
    have fF : H aF = none := s1.free nF
    refine ⟨_, rfl, (m : Int), rfl, by omega, by omega, for_range (lo := 0) (n := ((m : Nat) : Int).toNat) (fun i σ H' => (∃ y5 y6 y9 y10 : Option V, σ = [some (.ref l), some (.int (m : Nat)), some (.ref aO), some (.str lettersS), some (.ref aF), y5, y6, none, none, y9, y10, none]) ∧ H' aO = some (.lst ownW) ∧ (∃ zs : List Str, H' aF = some (.lst (zs.map V.str)) ∧ zs.length = i ∧ zs.Nodup ∧ ∀ z ∈ zs, Nm z) ∧ Bt [l] H H' ∧ PoolAt H' l) ⟨⟨none, none, none, none, rfl⟩, hO3, ⟨[], hF3, rfl, List.nodup_nil, fun z hz => nomatch hz⟩, b3, pool3⟩ ?_ ?_⟩
    · rintro i σ H4 hi ⟨⟨y5, y6, y9, y10, rfl⟩, hO4, ⟨zs, hF4, zl, nd, nm⟩, b4, pool4⟩
      refine ⟨_, rfl, _, rfl, l, 12, rfl, pool4, by decide, fun H5 d5 b5 pool5 d50 d51 => ?_⟩
      obtain ⟨v5, e5, z5, rfl, w5⟩ := at_of (P := fun v => ∃ z, v = .str z ∧ wdB 6 z) (xs := ownW) (d := d5) (fun x hx => by
        obtain ⟨z, hz, rfl⟩ := List.mem_map.mp hx
        exact ⟨z, rfl, own_wd z hz⟩) d50 (by show d5 < 12; omega)
      have hO5 := kept b5 hO4 (by simp [nlO])
      refine ⟨aO, _, d5, _, rfl, rfl, sqL hO5, e5, ?_⟩
      refine ⟨l, _, _, _, _, _, _, z5, rfl, pool5, w5, fun H6 z6 b6 pool6 w6 => ?_⟩
      have b46 := b5.trans b6
      have hO6 := kept b46 hO4 (by simp [nlO])
      have hF6 := kept b46 hF4 (by simp [nlF])
      have b06 := b4.trans b46
      have z66 := w6.2.2
      refine ⟨_, rfl, by show 1 ≤ sizeLine; decide, fun p7 n7 => ⟨_, rfl, lettersS, rfl, fun L nL => ?_⟩⟩
      have h7 : (upd H6 p7 (.lst [.str z6])) p7 = some (.lst [.str z6]) := upd_same
      have s7 : Same H6 (upd H6 p7 (.lst [.str z6])) := same_new n7
      revert h7 s7 nL
      generalize upd H6 p7 (.lst [.str z6]) = H7
      intro nL h7 s7
      refine lc_it walk_str (fun i H' => H' L = some (.lst (((lettersS.cps.toList.take i).map (cand z6)).map V.str)) ∧ Same H7 H') ⟨upd_same, same_new nL⟩ (fun _ _ _ _ => trivial) ?_ ?_
      · rintro i x H8 H' hx ⟨hL, sm⟩ ⟨rfl, c, hc, rfl⟩
        have hc' : lettersS.cps.toList[i]? = some c := by simpa using hc
        refine ⟨rfl, tyes (iteT ⟨_, rfl, 4, rfl, z6, rfl, ?_, _, rfl, cutS z6 none (some 4), ⟨#[c]⟩, rfl, rfl, ?_, cutS z6 none (some 4) ++ ⟨#[c]⟩, "x", rfl, rfl, ?_, _, hL, ?_, ?_, ?_⟩)⟩
        · exact Nat.le_trans z66 (by decide)
        · have := cutS_length z6 none (some 4)
          show _ + 1 ≤ sizeLine
          exact Nat.le_trans (show _ ≤ 8 by omega) (by decide)
        · have := cutS_length z6 none (some 4)
          rw [app_len]
          show _ + 1 + 1 ≤ sizeLine
          exact Nat.le_trans (show _ ≤ 8 by omega) (by decide)
        · rw [List.length_map, List.length_map, List.length_take]
          exact Nat.lt_of_lt_of_le (show _ < 26 by have := lt_get hc'; have : lettersS.cps.toList.length = 26 := by decide +kernel
                                                   omega) (by decide)
        · rw [upd_same, take_more hc', List.map_append, List.map_append]
          rfl
        · exact ((Bt.of_same (S := []) sm).upd0 nL).same
      · rintro H8 ⟨hL, s8⟩
        have e : lettersS.cps.toList.take lettersS.cps.size = lettersS.cps.toList := List.take_of_length_le (by simp)
        rw [e] at hL
        refine ⟨p7, L, _, _, rfl, rfl, s8 _ _ h7, hL, ?_, fun p9 n9 => ?_⟩
        · rw [List.length_map, List.length_map]
          show 1 + 26 ≤ sizeLine
          decide
        have h9 : (upd H8 p9 (.lst ([.str z6] ++ ((lettersS.cps.toList.map (cand z6)).map V.str)))) p9 = some (.lst ((cands z6).map V.str)) := upd_same
        have s9 : Same H6 (upd H8 p9 (.lst ([.str z6] ++ ((lettersS.cps.toList.map (cand z6)).map V.str)))) := (s7.trans s8).trans (same_new n9)
        revert h9 s9
        generalize upd H8 p9 (.lst ([.str z6] ++ ((lettersS.cps.toList.map (cand z6)).map V.str))) = H9
        intro h9 s9
        intro aD HD sD nD hD9
        have h9 := sD _ _ h9
        have s9 := s9.trans sD
        have hF9 := s9 _ _ hF6
        clear n9
        revert h9 s9 hF9 hD9
        generalize HD = H9
        intro hD9 h9 s9 hF9
        refine ⟨_, rfl, .inl ⟨rfl, _, sqL hF9⟩, _, rfl, p9, rfl, ⟨_, sqL h9⟩, fun L2 nL2 => lc_list (K := K) (a := p9) (xs := (cands z6).map V.str) (fun i H' => H' L2 = some (.lst ((((cands z6).take i).filter (freeB zs)).map V.str)) ∧ Same H9 H') ⟨upd_same, same_new nL2⟩ (fun i H' _ h => sqL (h.2 _ _ h9)) ?_ ?_⟩
        · rintro i x H' hx ⟨hL2, sm⟩
          obtain ⟨y, hy, rfl⟩ : ∃ y, (cands z6)[i]? = some y ∧ x = .str y := by
            rw [List.getElem?_map] at hx
            cases hc : (cands z6)[i]? with
            | none => rw [hc] at hx; cases hx
            | some y => rw [hc] at hx; cases hx; exact ⟨y, rfl, rfl⟩
          have no : freeB zs y = false → ((cands z6).take (i + 1)).filter (freeB zs) = ((cands z6).take i).filter (freeB zs) := fun e => by
            rw [take_more hy, List.filter_append, List.filter_cons, e]
            simp
          have yes : freeB zs y = true → ((cands z6).take (i + 1)).filter (freeB zs) = ((cands z6).take i).filter (freeB zs) ++ [y] := fun e => by
            rw [take_more hy, List.filter_append, List.filter_cons, e]
            simp
          refine ⟨rfl, ⟨_, rfl, _, rfl, aF, _, rfl, .inl (sqL (sm _ _ hF9)), rfl, flat_strs zs, _, rfl, ?_⟩⟩
          cases c1 : inV (.str y) (zs.map V.str) with
          | true =>
            refine iteF (iteF ⟨?_, sm⟩)
            rw [no (by unfold freeB; rw [c1]; rfl)]
            exact hL2
          | false =>
            refine iteT ⟨_, rfl, _, rfl, aD, _, rfl, .inl (sqL (sm _ _ hD9)), rfl, rfl, _, rfl, ?_⟩
            cases c2 : inV (.str y) noNames with
            | true =>
              refine iteF ⟨?_, sm⟩
              rw [no (by unfold freeB; rw [c1, c2]; rfl)]
              exact hL2
            | false =>
              refine iteT ⟨_, rfl, _, hL2, ?_, ?_, ((Bt.of_same (S := []) sm).upd0 nL2).same⟩
              · rw [List.length_map]
                refine Nat.lt_of_le_of_lt (List.length_filter_le _ _) ?_
                rw [List.length_take]
                refine Nat.lt_of_le_of_lt (Nat.min_le_right _ _) ?_
                show 27 < sizeLine
                decide
              · rw [upd_same, yes (by unfold freeB; rw [c1, c2]; rfl), List.map_append]
                rfl
        · rintro H' ⟨hL2, sm⟩
          rw [List.length_map, List.take_length] at hL2
          obtain ⟨y, ys, ey⟩ := some_free (z := z6) (found := zs) (by omega)
          obtain ⟨ny, nf⟩ := free_nm (found := zs) w6 (show y ∈ _ by rw [ey]; exact List.mem_cons_self)
          rw [ey] at hL2
          have hF' := sm _ _ hF9
          have s0 := s9.trans sm
          have bH : Bt [l] H H' := b06.trans (Bt.of_same s0)
          have nL2F : aF ≠ l := nlF
          refine ⟨L2, _, 0, .str y, rfl, rfl, sqL hL2, atI_nat (j := 0) rfl, aF, _, .str y, rfl, rfl, hF', ?_, ?_⟩
          · rw [List.length_map, zl]
            exact Nat.lt_of_lt_of_le (show i < 20 by omega) (by decide)
          refine ⟨⟨_, _, _, _, rfl⟩, ?_, ⟨zs ++ [y], ?_, ?_, ?_, ?_⟩, bH.upd0 fF, (pool6.same s0).upd nlF.symm⟩
          · rw [upd_ne nFO]
            exact s0 _ _ hO6
          · rw [upd_same, List.map_append]
            rfl
          · rw [List.length_append, zl]
            rfl
          · rw [List.nodup_append]
            refine ⟨nd, by simp, fun a ha b hb e => ?_⟩
            rw [List.mem_singleton.mp hb] at e
            exact nf (e ▸ ha)
          · intro z hz
            rcases List.mem_append.mp hz with h | h
            · exact nm z h
            · rw [List.mem_singleton.mp h]
              exact ny
    · rintro σ H4 ⟨⟨y5, y6, y9, y10, rfl⟩, hO4, ⟨zs, hF4, zl, nd, nm⟩, b4, pool4⟩
      exact ⟨_, rfl, q H4 aF zs b4 pool4 fF hF4 (by omega) nd nm⟩
end
end WdQ

set_option Elab.async false
set_option linter.all false
set_option maxRecDepth 100000
set_option maxHeartbeats 4000000
set_option exponentiation.threshold 5000
namespace WdQ
open PySem PySem.Spec PyProof.Rows L2 WdM Wd
/-! ### what a house is made of, drawn -/
abbrev sHome : Stmt := topS 45
def nHome : List Str := ["_law_pool_here", "_law_most", "_law_many", "_law_folk", "_law_wares", "_law_sorts", "_law_crowd", "_law_k", "_law_at", "_law_size", "_law_ware", "_law_store"]
theorem scHome : FnScope nHome ["_law_pool_here", "_law_most"] (defScope sHome) := ⟨rfl, rfl, rfl, by decide +kernel, rfl, by decide +kernel, by decide +kernel⟩
section
variable {P : Program} {w : World} {K : PySem.W.Frag} {mg : Str → Option Value} {base : Heap}
theorem rows_snoc {α : Type} {f : α → List V} {H : Hp} {xs : List V} {rows : List α} {b : Addr} {r0 : α} (l : xs.length = rows.length) (h : ∀ (i : Nat) (x : V), xs[i]? = some x → ∃ (a : Addr) (r : α), x = .ref a ∧ rows[i]? = some r ∧ SqT K H a (f r)) (hb : SqT K H b (f r0)) :
    ∀ (i : Nat) (x : V), (xs ++ [V.ref b])[i]? = some x → ∃ (a : Addr) (r : α), x = .ref a ∧ (rows ++ [r0])[i]? = some r ∧ SqT K H a (f r) := by
  intro i x hx
  by_cases hi : i < xs.length
  · rw [List.getElem?_append_left hi] at hx
    obtain ⟨a, r, e1, e2, e3⟩ := h i x hx
    exact ⟨a, r, e1, by rw [List.getElem?_append_left (by omega)]; exact e2, e3⟩
  · have hl := lt_get hx
    rw [List.length_append] at hl
    simp only [List.length_cons, List.length_nil] at hl
    obtain rfl : i = xs.length := by omega
    rw [List.getElem?_append_right (Nat.le_refl _), Nat.sub_self] at hx
    cases hx
    exact ⟨b, r0, rfl, by rw [List.getElem?_append_right (by omega), l, Nat.sub_self]; rfl, hb⟩
theorem rows_tk {α : Type} {f : α → List V} {H H' : Hp} {xs : List V} {rows : List α} (e : Tk H H') (h : ∀ (i : Nat) (x : V), xs[i]? = some x → ∃ (a : Addr) (r : α), x = .ref a ∧ rows[i]? = some r ∧ SqT K H a (f r)) :
    ∀ (i : Nat) (x : V), xs[i]? = some x → ∃ (a : Addr) (r : α), x = .ref a ∧ rows[i]? = some r ∧ SqT K H' a (f r) := fun i x hx => by
  obtain ⟨a, r, e1, e2, e3⟩ := h i x hx
  exact ⟨a, r, e1, e2, e.sq e3⟩
def rowF (r : Str × Option Str) : List V := [.str r.1, parV r.2]
/-- None, or one of those ahead -/
def tPar (K : PySem.W.Frag) : TE := fun σ H Q => ∃ (aW : Addr) (zs : List Str) (i : Nat) (d : Int), σ[3]? = some (some (.ref aW)) ∧ σ[7]? = some (some (.int (0 + (i : Nat)))) ∧ σ[8]? = some (some (.int d)) ∧ H aW = some (.lst (zs.map V.str)) ∧ 0 ≤ d ∧ i ≤ zs.length ∧ ∀ o : Option Str, (∀ y, o = some y → y ∈ zs.take i) → Q (parV o) H
def spHome (K : PySem.W.Frag) (M : Int) : Sp := fun vs H Q _ => ∃ l : Addr, vs = [.ref l, .int M] ∧ PoolAt H l ∧ ∀ (H' : Hp) (p tp tg : Addr) (pu de : Int) (rows : List (Str × Option Str)) (goods : List (Str × Str × Int)), Bt [l] H H' → PoolAt H' l → SqT K H' p [.ref tp, .ref tg, .int pu, .int de] → FolkAt K H' (.ref tp) rows → GoodF rows → (rows.length : Int) ≤ M → GoodsAt K H' (.ref tg) goods → GoodG goods → ((goods.length : Nat) : Int) ≤ M → 0 ≤ pu → pu ≤ 1000000000 → 0 ≤ de → de ≤ 1000000000 → Q (.ref p) H'
theorem sizes {d : Int} (d0 : 0 ≤ d) (d1 : d < 3) : ∃ n : Int, atI [V.int 10, V.int 100, V.int (10 ^ (9 : Int).toNat)] d = some (.int n) ∧ 10 ≤ n ∧ n ≤ 1000000000 := by
  have hd : d = 0 ∨ d = 1 ∨ d = 2 := by omega
  rcases hd with rfl | rfl | rfl
  · exact ⟨10, rfl, by decide, by decide⟩
  · exact ⟨100, rfl, by decide, by decide⟩
  · exact ⟨1000000000, rfl, by decide, by decide⟩
theorem ok_home {f fT fW : Addr} {fd fdT fdW : FuncData} {k : Nat} {M : Int} (M1 : 1 ≤ M) (M8 : M ≤ 8) (B : Bi mg) (D : Df K mg "_law_home" sHome f fd ["_law_pool_here", "_law_most"]) (DT : Df K mg "_law_take" sTake fT fdT ["_law_pool_here", "_law_many"]) (DW : Df K mg "_law_words" sWords fW fdW ["_law_pool_here", "_law_many"])
    (GT : FnOk P w K mg base CX0 (k + 1) fT fdT ["_law_pool_here", "_law_many"] spTake) (GW : FnOk P w K mg base CX0 (k + 2) fW fdW ["_law_pool_here", "_law_many"] spWords) : FnOk P w K mg base CX0 (k + 3) f fd ["_law_pool_here", "_law_most"] (spHome K M) := by
  refine D.fn.ok scHome (fun vs H Q E h => ?_) (fun cdv A outer s H vs Q E hr h => ?_)
  · obtain ⟨l, rfl, _⟩ := h
    rfl
  · obtain ⟨l, rfl, pool, q⟩ := h
    have r1 : Room (k + 1) _ := hr.mono (by omega)
    refine ⟨_, pss_cons (ps_set (i := 2) scHome.nd rfl (.inl rfl) (pe_op op_add pe_int (pe_call GT r1 (by rfl) DT.mg DT.fn.kp DT.bd .nil pass0 (pa_cons (pv 0) (pa_cons (pv 1) pa_nil)))))
      (pss_cons (ps_asg (pe_tup (pa_cons (pe_call GW hr (by rfl) DW.mg DW.fn.kp DW.bd .nil pass0 (pa_cons (pv 0) (pa_cons (pv 2) pa_nil))) (pa_cons (pe_call GW hr (by rfl) DW.mg DW.fn.kp DW.bd .nil pass0 (pa_cons (pv 0) (pa_cons (pe_call GT r1 (by rfl) DT.mg DT.fn.kp DT.bd .nil pass0 (pa_cons (pv 0) (pa_cons (pe_op op_add (pv 1) pe_int) pa_nil))) pa_nil))) (pa_cons (pe_call GW hr (by rfl) DW.mg DW.fn.kp DW.bd .nil pass0 (pa_cons (pv 0) (pa_cons pe_int pa_nil))) pa_nil))))
          (pg_tup rfl (pgs_cons (pg_name (i := 3) scHome.nd rfl (.inl rfl)) (pgs_cons (pg_name (i := 4) scHome.nd rfl (.inl rfl)) (pgs_cons (pg_name (i := 5) scHome.nd rfl (.inr rfl)) pgs_nil)))))
      (pss_cons (ps_set (i := 6) scHome.nd rfl (.inl rfl) (pe_lst pa_nil))
      (pss_cons (ps_for PassesOwn.never rfl (pi_range1 (by rfl) B.range (pa_cons (pv 2) pa_nil)) (pg_name (i := 7) scHome.nd rfl (.inl rfl))
        (pss_cons (ps_set (i := 8) scHome.nd rfl (.inl rfl) (pe_call GT r1 (by rfl) DT.mg DT.fn.kp DT.bd .nil pass0 (pa_cons (pv 0) (pa_cons (pe_op op_add (pv 7) pe_int) pa_nil))))
        (pss_one (ps_expr (pe_bm PySem.F.plainAttrs_list PySem.F.slot_list_append PySem.F.type_list_append mt_append (pv 6) (pa_cons (pe_tup (pa_cons (pe_ix (r := rIxL K) ix_list (pv 3) (pv 7) (fun _ _ => rfl)) (pa_cons (PE.wk (t' := tPar K) (pe_ifExp (pt_cmpR op_ge (pv 8) (pv 7) (nomark _)) pe_non (pe_ix (r := rIxL K) ix_list (pv 3) (pv 8) (fun _ _ => rfl))) (by
            rintro σ H Q ⟨aW, zs, i, d, h3, h7, h8, hW, d0, il, q⟩
            refine ⟨_, h8, _, h7, d, _, rfl, rfl, _, rfl, ?_⟩
            by_cases dc : (0 : Int) + (i : Nat) ≤ d
            · rw [decide_eq_true dc]
              exact iteT (q none (fun y e => nomatch e))
            · rw [decide_eq_false dc]
              obtain ⟨n, rfl⟩ := Int.eq_ofNat_of_zero_le d0
              have nl : n < zs.length := by omega
              have hy : zs[n]? = some zs[n] := List.getElem?_eq_getElem nl
              have hyV : (zs.map V.str)[n]? = some (.str zs[n]) := by rw [List.getElem?_map, hy]; rfl
              refine iteF ⟨_, h3, _, h8, aW, _, _, .str zs[n], rfl, rfl, sqL hW, atI_nat hyV, q (some zs[n]) fun y e => ?_⟩
              cases e
              exact List.mem_of_getElem? (i := n) (by rw [List.getElem?_take_of_lt (by omega)]; exact hy))) pa_nil))) pa_nil))))))
      (pss_cons (ps_set (i := 9) scHome.nd rfl (.inr rfl) (pe_ix (r := rIxL K) ix_list (pe_lst (pa_cons pe_int (pa_cons pe_int (pa_cons (pe_op op_pow pe_int pe_int) pa_nil)))) (pe_call GT r1 (by rfl) DT.mg DT.fn.kp DT.bd .nil pass0 (pa_cons (pv 0) (pa_cons pe_int pa_nil))) (fun _ _ => rfl)))
      (pss_cons (ps_setLc (i := 11) (own := [("_law_ware", 10)]) (g := gName 10) (tt := tYes) rfl scHome.nd rfl rfl (sw_true rfl rfl rfl (by decide +kernel)) (pi_list (pv 4)) (blkOk_by (own := [("_law_ware", 10)]) (N := nHome) (sc := defScope sHome) (by decide +kernel))
          (fun _ _ _ _ _ => pg_name (i := 10) scHome.nd rfl (Or.inl rfl)) (fun _ _ _ _ _ => pts_nil) (fun _ _ _ _ _ => pe_tup (pa_cons (pv 10) (pa_cons (pe_ix (r := rIxL K) ix_list (pv 5) (pe_call GT r1 (by rfl) DT.mg DT.fn.kp DT.bd .nil pass0 (pa_cons (pv 0) (pa_cons pe_int pa_nil))) (fun _ _ => rfl)) (pa_cons (pe_call GT r1 (by rfl) DT.mg DT.fn.kp DT.bd .nil pass0 (pa_cons (pv 0) (pa_cons (pe_op op_add (pv 9) pe_int) pa_nil))) pa_nil)))))
      (pss_one (ps_ret (pe_tup (pa_cons (pe_callTy call_tuple_of (by rfl) B.tuple boot_tuple (pa_cons (pv 6) pa_nil)) (pa_cons (pe_callTy call_tuple_of (by rfl) B.tuple boot_tuple (pa_cons (pv 11) pa_nil)) (pa_cons (pe_op op_mod (pe_call GT r1 (by rfl) DT.mg DT.fn.kp DT.bd .nil pass0 (pa_cons (pv 0) (pa_cons (pe_op op_mul pe_int (pv 9)) pa_nil))) (pe_op op_add (pe_op op_pow pe_int pe_int) pe_int)) (pa_cons (pe_call GT r1 (by rfl) DT.mg DT.fn.kp DT.bd .nil pass0 (pa_cons (pv 0) (pa_cons (pe_op op_add (pv 9) pe_int) pa_nil))) pa_nil)))))))))))), ?_⟩
    refine ⟨_, rfl, _, rfl, l, M, rfl, pool, by omega, fun H0 d0 b0 pool0 d00 d01 => ⟨1, d0, rfl, rfl, ?_⟩⟩
    obtain ⟨n0, rfl⟩ := Int.eq_ofNat_of_zero_le d00
    have key : ((fun i j : Int => V.int (i + j)) 1 (n0 : Nat)) = V.int ((n0 + 1 : Nat) : Int) := by
      show V.int (1 + (n0 : Nat)) = _
      rw [show (1 : Int) + (n0 : Nat) = ((n0 + 1 : Nat) : Int) by omega]
    rw [key]
    obtain ⟨m, hm⟩ : ∃ m, m = n0 + 1 := ⟨_, rfl⟩
    rw [← hm]
    have m6 : (m : Int) ≤ M := by omega
    have m1 : 1 ≤ m := by omega
    clear key hm d00 d01 n0
    refine ⟨_, rfl, _, rfl, l, m, rfl, pool0, by omega, fun H1 aW zs b1 pool1 nW hW zl nd nm => ?_⟩
    refine ⟨_, rfl, _, rfl, _, rfl, M, 1, rfl, rfl, l, _, rfl, pool1, by omega, fun H2 d2 b2 pool2 d20 d21 => ?_⟩
    obtain ⟨n2, rfl⟩ := Int.eq_ofNat_of_zero_le d20
    have n26 : (n2 : Int) ≤ M := by omega
    refine ⟨l, n2, rfl, pool2, by omega, fun H3 aG gs b3 pool3 nG hG gl gnd gnm => ?_⟩
    refine ⟨_, rfl, l, 2, rfl, pool3, by decide, fun H4 aK ks b4 pool4 nK hK kl knd knm => ?_⟩
    refine ⟨by show 3 ≤ sizeLine; decide, fun tt ntt => ⟨tt, _, rfl, sqT upd_same, rfl, _, _, rfl, _, _, rfl, _, _, rfl, rfl, ?_⟩⟩
    have nlW : aW ≠ l := fun e => pool0.ne nW e.symm
    have nlG : aG ≠ l := fun e => pool2.ne nG e.symm
    have nlK : aK ≠ l := fun e => pool3.ne nK e.symm
    have hW5 : (upd H4 tt (.tup [.ref aW, .ref aG, .ref aK])) aW = some (.lst (zs.map V.str)) := same_new ntt _ _ (kept ((b2.trans b3).trans b4) hW (by simp [nlW]))
    have hG5 : (upd H4 tt (.tup [.ref aW, .ref aG, .ref aK])) aG = some (.lst (gs.map V.str)) := same_new ntt _ _ (kept b4 hG (by simp [nlG]))
    have hK5 : (upd H4 tt (.tup [.ref aW, .ref aG, .ref aK])) aK = some (.lst (ks.map V.str)) := same_new ntt _ _ hK
    have b5 : Bt [l] H (upd H4 tt (.tup [.ref aW, .ref aG, .ref aK])) := ((((b0.trans b1).trans b2).trans b3).trans b4).new ntt
    have pool5 : PoolAt (upd H4 tt (.tup [.ref aW, .ref aG, .ref aK])) l := pool4.same (same_new ntt)
    revert hW5 hG5 hK5 b5 pool5
    generalize upd H4 tt (.tup [.ref aW, .ref aG, .ref aK]) = H5
    intro hW5 hG5 hK5 b5 pool5
    clear b0 b1 b2 b3 b4 pool0 pool1 pool2 pool3 pool4 nW nG nK hW hG hK ntt d20 d21
    refine ⟨by show 0 ≤ sizeLine; decide, fun aF nF => ?_⟩
    have nlF : l ≠ aF := pool5.ne nF
    have nWF : aW ≠ aF := ne_of_none hW5 nF
    have nGF : aG ≠ aF := ne_of_none hG5 nF
    have nKF : aK ≠ aF := ne_of_none hK5 nF
    have fF : H aF = none := by
      cases e : H aF with
      | none => rfl
      | some o =>
        have := b5 aF o (by simp [nlF.symm]) e
        rw [nF] at this
        cases this
    refine ⟨_, rfl, (m : Int), rfl, by omega, by omega, for_range (lo := 0) (n := ((m : Nat) : Int).toNat) (fun i σ H' => (∃ y7 y8 : Option V, σ = [some (.ref l), some (.int M), some (.int (m : Nat)), some (.ref aW), some (.ref aG), some (.ref aK), some (.ref aF), y7, y8, none, none, none]) ∧ H' aW = some (.lst (zs.map V.str)) ∧ H' aG = some (.lst (gs.map V.str)) ∧ H' aK = some (.lst (ks.map V.str)) ∧ (∃ (xs : List V) (rows : List (Str × Option Str)), H' aF = some (.lst xs) ∧ xs.length = i ∧ rows.length = i ∧ rows.map Prod.fst = zs.take i ∧ (∀ (j : Nat) (x : V), xs[j]? = some x → ∃ (a : Addr) (r : Str × Option Str), x = .ref a ∧ rows[j]? = some r ∧ SqT K H' a (rowF r)) ∧ (∀ (j : Nat) (r : Str × Option Str) (y : Str), rows[j]? = some r → r.2 = some y → y ∈ zs.take j)) ∧ Bt [l] H H' ∧ PoolAt H' l)
      ⟨⟨none, none, rfl⟩, ?_, ?_, ?_, ⟨[], [], upd_same, rfl, rfl, rfl, (fun j x hx => nomatch hx), (fun j r y hr => nomatch hr)⟩, b5.new nF, pool5.upd nlF⟩ ?_ ?_⟩
    · rw [upd_ne nWF]
      exact hW5
    · rw [upd_ne nGF]
      exact hG5
    · rw [upd_ne nKF]
      exact hK5
    · rintro i σ H6 hi ⟨⟨y7, y8, rfl⟩, hW6, hG6, hK6, ⟨xs, rows, hF6, xl, rl, rz, hx, pr⟩, b6, pool6⟩
      refine ⟨_, rfl, _, rfl, _, 2, rfl, rfl, l, _, rfl, pool6, by omega, fun H7 d b7 pool7 d0 d1 => ?_⟩
      have hW7 := kept b7 hW6 (by simp [nlW])
      have hG7 := kept b7 hG6 (by simp [nlG])
      have hK7 := kept b7 hK6 (by simp [nlK])
      have hF7 := kept b7 hF6 (by simp [nlF.symm])
      have tk7 : Tk H6 H7 := b7.tk pool6.lst
      obtain ⟨z, hz⟩ : ∃ z, zs[i]? = some z := ⟨zs[i], List.getElem?_eq_getElem (by omega)⟩
      have hzV : (zs.map V.str)[i]? = some (.str z) := by rw [List.getElem?_map, hz]; rfl
      have hat : atI (zs.map V.str) (0 + (i : Nat)) = some (.str z) := by
        rw [Int.zero_add]
        exact atI_nat hzV
      refine ⟨_, rfl, .inl ⟨rfl, _, sqL hF7⟩, _, rfl, _, rfl, aW, _, _, .str z, rfl, rfl, sqL hW7, hat, ?_⟩
      refine ⟨aW, zs, i, d, rfl, rfl, rfl, hW7, d0, by omega, fun o ho => ⟨by show 2 ≤ sizeLine; decide, fun tp ntp => ?_⟩⟩
      have nlt : l ≠ tp := pool7.ne ntp
      have s8 : Same H7 (upd H7 tp (.tup [.str z, parV o])) := same_new ntp
      have tk8 : Tk H6 (upd H7 tp (.tup [.str z, parV o])) := tk7.trans (tk_new ntp)
      have sN : SqT K (upd H7 tp (.tup [.str z, parV o])) tp (rowF (z, o)) := sqT upd_same
      have b8 : Bt [l] H (upd H7 tp (.tup [.str z, parV o])) := (b6.trans b7).new ntp
      have pool8 := pool7.upd (o := .tup [.str z, parV o]) nlt
      revert s8 tk8 sN b8 pool8
      generalize upd H7 tp (.tup [.str z, parV o]) = H8
      intro s8 tk8 sN b8 pool8
      have hF8 := s8 _ _ hF7
      have tk9 : Tk H8 (upd H8 aF (.lst (xs ++ [.ref tp]))) := tk_lst hF8
      refine ⟨aF, xs, .ref tp, rfl, rfl, hF8, by rw [xl]; exact Nat.lt_of_lt_of_le (show i < 8 by omega) (by decide), ⟨_, _, rfl⟩, ?_, ?_, ?_, ⟨xs ++ [.ref tp], rows ++ [(z, o)], upd_same, ?_, ?_, ?_, ?_, ?_⟩, b8.upd0 fF, pool8.upd nlF⟩
      · rw [upd_ne nWF]
        exact s8 _ _ hW7
      · rw [upd_ne nGF]
        exact s8 _ _ hG7
      · rw [upd_ne nKF]
        exact s8 _ _ hK7
      · rw [List.length_append, xl]
        rfl
      · rw [List.length_append, rl]
        rfl
      · rw [List.map_append, rz, take_more hz]
        rfl
      · exact rows_tk tk9 (rows_snoc (f := rowF) (by omega) (rows_tk tk8 hx) sN)
      · intro j r y hr e
        by_cases hj : j < rows.length
        · rw [List.getElem?_append_left hj] at hr
          exact pr j r y hr e
        · have hj2 : j = rows.length := by
            have := lt_get hr
            rw [List.length_append] at this
            simp only [List.length_cons, List.length_nil] at this
            omega
          subst hj2
          rw [List.getElem?_append_right (Nat.le_refl _), Nat.sub_self] at hr
          cases hr
          rw [rl]
          exact ho y e
    rintro σ H6 ⟨⟨y7, y8, rfl⟩, hW6, hG6, hK6, ⟨xs, rows, hF6, xl, rl, rz, hx, pr⟩, b6, pool6⟩
    have rm : rows.length = m := by omega
    have rz2 : rows.map Prod.fst = zs := by rw [rz]; exact List.take_of_length_le (by omega)
    have gf : GoodF rows := ⟨by omega, by omega, rz2 ▸ nd, fun r hr => nm r.1 (rz2 ▸ List.mem_map_of_mem hr), fun j r y hr e => by
      have := pr j r y hr e
      rw [List.map_take, rz2]
      exact this⟩
    have xl2 : xs.length = rows.length := by omega
    clear pr rz rz2 nd nm zl hW6 hW5 hG5 hK5 b5 pool5 nF nWF nlW rl xl nGF nKF fF
    refine ⟨10, 9, rfl, rfl, ⟨by decide, by decide, by decide⟩, by show 3 ≤ sizeLine; decide, fun pS nS => ?_⟩
    have hS7 : (upd H6 pS (.lst [.int 10, .int 100, .int (10 ^ (9 : Int).toNat)])) pS = some (.lst [.int 10, .int 100, .int (10 ^ (9 : Int).toNat)]) := upd_same
    have s7 : Same H6 (upd H6 pS (.lst [.int 10, .int 100, .int (10 ^ (9 : Int).toNat)])) := same_new nS
    have nSl : pS ≠ l := fun e => pool6.ne nS e.symm
    revert hS7 s7
    generalize upd H6 pS (.lst [.int 10, .int 100, .int (10 ^ (9 : Int).toNat)]) = H7
    intro hS7 s7
    refine ⟨_, rfl, l, 3, rfl, pool6.same s7, by decide, fun H8 d8 b8 pool8 d80 d81 => ?_⟩
    obtain ⟨sz, esz, z10, z9⟩ := sizes d80 d81
    refine ⟨pS, _, d8, _, rfl, rfl, sqL (kept b8 hS7 (by simp [nSl])), esz, ?_⟩
    have b68 : Bt [l] H6 H8 := (Bt.of_same s7).trans b8
    have hG8 := kept b68 hG6 (by simp [nlG])
    have hK8 := kept b68 hK6 (by simp [nlK])
    have hF8 := kept b68 hF6 (by simp [nlF.symm])
    have hx8 := rows_tk (b68.tk pool6.lst) hx
    have b08 := b6.trans b68
    clear hS7 s7 nS nSl b8 b68 hG6 hK6 hF6 hx b6 pool6 d80 d81 esz
    refine ⟨_, rfl, aG, rfl, ⟨_, sqL hG8⟩, fun L nL => ?_⟩
    have nlL : L ≠ l := fun e => pool8.ne nL e.symm
    refine lc_list (K := K) (a := aG) (xs := gs.map V.str) (fun j H' => (∃ (ys : List V) (goods : List (Str × Str × Int)), H' L = some (.lst ys) ∧ ys.length = goods.length ∧ goods.map Prod.fst = gs.take j ∧ (∀ (i : Nat) (x : V), ys[i]? = some x → ∃ (a : Addr) (r : Str × Str × Int), x = .ref a ∧ goods[i]? = some r ∧ SqT K H' a (rowG r)) ∧ ∀ r ∈ goods, Nm r.2.1 ∧ 0 ≤ r.2.2 ∧ r.2.2 ≤ 1000000000) ∧ Bt [l] H8 H' ∧ PoolAt H' l) ⟨⟨[], [], upd_same, rfl, rfl, (fun j x hx => nomatch hx), fun r hr => nomatch hr⟩, (Bt.refl H8).new nL, pool8.upd nlL.symm⟩ (fun j H' _ h => sqL (kept h.2.1 hG8 (by simp [nlG]))) ?_ ?_
    · rintro j x H9 hx9 ⟨⟨ys, goods, hL, yl, gz, hy, gd⟩, b9, pool9⟩
      obtain ⟨z, hz, rfl⟩ : ∃ z, gs[j]? = some z ∧ x = .str z := by
        rw [List.getElem?_map] at hx9
        cases hc : gs[j]? with
        | none => rw [hc] at hx9; cases hx9
        | some y => rw [hc] at hx9; cases hx9; exact ⟨y, rfl, rfl⟩
      have jl := lt_get hz
      refine ⟨rfl, tyes (iteT ⟨_, rfl, _, rfl, _, rfl, l, 2, rfl, pool9, by decide, fun H10 d b10 pool10 d0 d1 => ?_⟩)⟩
      have hK10 := kept (b9.trans b10) hK8 (by simp [nlK])
      obtain ⟨_, ex, kz, rfl, nkz⟩ := at_of (P := fun v => ∃ z : Str, v = .str z ∧ Nm z) (xs := ks.map V.str) (d := d) (fun x hx => by
        obtain ⟨z, hz, rfl⟩ := List.mem_map.mp hx
        exact ⟨z, rfl, knm z hz⟩) d0 (by rw [List.length_map, kl]; exact d1)
      refine ⟨aK, _, d, _, rfl, rfl, sqL hK10, ex, _, rfl, _, rfl, sz, 1, rfl, rfl, l, _, rfl, pool10, by omega, fun H11 c b11 pool11 c0 c1 => ⟨by show 3 ≤ sizeLine; decide, fun tp ntp => ?_⟩⟩
      have b911 := b10.trans b11
      have hL11 := kept b911 hL (by simp [nlL])
      have hL12 : (upd H11 tp (.tup [.str z, .str kz, .int c])) L = some (.lst ys) := same_new ntp _ _ hL11
      have tk12 : Tk H9 (upd H11 tp (.tup [.str z, .str kz, .int c])) := (b911.tk pool9.lst).trans (tk_new ntp)
      refine ⟨ys, hL12, ?_, ⟨ys ++ [.ref tp], goods ++ [(z, kz, c)], upd_same, ?_, ?_, ?_, ?_⟩, (((b9.trans b911).new ntp).upd0 nL), (pool11.same (same_new ntp)).upd nlL.symm⟩
      · have := congrArg List.length gz
        rw [List.length_map, List.length_take] at this
        rw [yl]
        exact small1000 (by omega)
      · rw [List.length_append, List.length_append, yl]
        rfl
      · rw [List.map_append, gz, take_more hz]
        rfl
      · exact rows_tk (tk_lst hL12) (rows_snoc (f := rowG) yl (rows_tk tk12 hy) (sqT upd_same))
      · intro r hr
        rcases List.mem_append.mp hr with h | h
        · exact gd r h
        · rw [List.mem_singleton.mp h]
          exact ⟨nkz, c0, by show c ≤ _; omega⟩
    rintro H9 ⟨⟨ys, goods, hL, yl, gz, hy, gd⟩, b9, pool9⟩
    rw [List.length_map, List.take_length] at gz
    have gg : GoodG goods := ⟨by have := congrArg List.length gz; rw [List.length_map] at this; omega, gz ▸ gnd, fun r hr => ⟨gnm r.1 (gz ▸ List.mem_map_of_mem hr), (gd r hr).1⟩, fun r hr => (gd r hr).2⟩
    have gl4 : ((goods.length : Nat) : Int) ≤ M := by
      have := congrArg List.length gz
      rw [List.length_map] at this
      omega
    have hF9 := kept b9 hF8 (by simp [nlF.symm])
    have hx9 := rows_tk (b9.tk pool8.lst) hx8
    have b09 := b08.trans b9
    refine ⟨_, rfl, aF, xs, rfl, .inl ⟨sqL hF9, fun tp ntp => ?_⟩⟩
    refine ⟨_, rfl, L, ys, rfl, .inl ⟨sqL (same_new ntp _ _ hL), fun tg ntg => ?_⟩⟩
    have fk : FolkAt K (upd (upd H9 tp (.tup xs)) tg (.tup ys)) (.ref tp) rows := ⟨tp, xs, rfl, (tk_new ntg).sq (sqT upd_same), xl2, rows_tk (tk_new ntg) (rows_tk (tk_new ntp) hx9)⟩
    have gds : GoodsAt K (upd (upd H9 tp (.tup xs)) tg (.tup ys)) (.ref tg) goods := ⟨tg, ys, rfl, sqT upd_same, yl, rows_tk (tk_new ntg) (rows_tk (tk_new ntp) hy)⟩
    have b10 : Bt [l] H (upd (upd H9 tp (.tup xs)) tg (.tup ys)) := (b09.new ntp).new ntg
    have pool10 : PoolAt (upd (upd H9 tp (.tup xs)) tg (.tup ys)) l := (pool9.same (same_new ntp)).same (same_new ntg)
    revert fk gds b10 pool10
    generalize upd (upd H9 tp (.tup xs)) tg (.tup ys) = H10
    intro fk gds b10 pool10
    refine ⟨_, rfl, _, rfl, 2, sz, rfl, rfl, .inl ⟨by decide, by decide⟩, l, _, rfl, pool10, by omega, fun H11 c b11 pool11 c0 c1 => ?_⟩
    refine ⟨10, 9, rfl, rfl, ⟨by decide, by decide, by decide⟩, _, 1, rfl, rfl, c, _, rfl, rfl, (by show (0 : Int) < 10 ^ (9 : Int).toNat + 1; decide), _, rfl, _, rfl, sz, 1, rfl, rfl, l, _, rfl, pool11, by omega, fun H12 e b12 pool12 e0 e1 => ⟨by show 4 ≤ sizeLine; decide, fun p np => ?_⟩⟩
    have tk := (b11.trans b12).tk pool10.lst
    have big : (10 : Int) ^ (9 : Int).toNat + 1 = 1000000001 := by decide
    refine q _ p tp tg _ e rows goods (((b10.trans b11).trans b12).new np) (pool12.same (same_new np)) (sqT upd_same) ((fk.tk tk).tk (tk_new np)) gf (by omega) ((gds.tk tk).tk (tk_new np)) gg gl4 ?_ ?_ e0 (by omega)
    · rw [big]
      exact Int.emod_nonneg _ (by decide)
    · rw [big]
      have := Int.emod_lt_of_pos c (show (0 : Int) < 1000000001 by decide)
      omega
end
end WdQ

set_option Elab.async false
set_option linter.all false
set_option maxRecDepth 100000
set_option maxHeartbeats 4000000
set_option exponentiation.threshold 5000
namespace WdQ
open PySem PySem.Spec PyProof.Rows L2 WdM Wd
/-! ### lines of a house -/
abbrev sFl : Stmt := topS 46
abbrev sWl : Stmt := topS 47
abbrev sLi : Stmt := topS 48
abbrev sLr : Stmt := topS 49
def nFl : List Str := ["_law_crowd", "_law_found", "_law_one", "_law_mate"]
def nWl : List Str := ["_law_store", "_law_ware", "_law_sort", "_law_worth"]
def nLi : List Str := ["_law_home_here", "_law_crowd", "_law_store", "_law_money", "_law_owed"]
def nLr : List Str := ["_law_lines_here", "e"]
theorem scFl : FnScope nFl ["_law_crowd"] (defScope sFl) := ⟨rfl, rfl, rfl, by decide +kernel, rfl, by decide +kernel, by decide +kernel⟩
theorem scWl : FnScope nWl ["_law_store"] (defScope sWl) := ⟨rfl, rfl, rfl, by decide +kernel, rfl, by decide +kernel, by decide +kernel⟩
theorem scLi : FnScope nLi ["_law_home_here"] (defScope sLi) := ⟨rfl, rfl, rfl, by decide +kernel, rfl, by decide +kernel, by decide +kernel⟩
theorem scLr : FnScope nLr ["_law_lines_here"] (defScope sLr) := ⟨rfl, rfl, rfl, by decide +kernel, rfl, by decide +kernel, by decide +kernel⟩
theorem app_emp (x : Str) : x ++ "" = x := TL.ext_tl (by rw [TL.tl_append]; exact List.append_nil _)
theorem app_ass (x y z : Str) : (x ++ y) ++ z = x ++ (y ++ z) := TL.ext_tl (by simp only [TL.tl_append, List.append_assoc])
section
variable {P : Program} {w : World} {K : PySem.W.Frag} {mg : Str → Option Value} {base : Heap} {CH CT fE CW : Addr}
def spFl (K : PySem.W.Frag) : Sp := fun vs H Q _ => ∃ (tf : Addr) (F : List (Str × Option Str)), vs = [.ref tf] ∧ FolkAt K H (.ref tf) F ∧ PreF F ∧ ∀ (H' : Hp) (L : Addr), Same H H' → H L = none → H' L = some (.lst ((F.map personT).map V.str)) → Q (.ref L) H'
def tFl9 : TE := fun σ H Q => ∃ (r : Str × Option Str), σ[2]? = some (some (.str r.1)) ∧ σ[3]? = some (some (parV r.2)) ∧ Nm r.1 ∧ (∀ y, r.2 = some y → Nm y) ∧ Q (.str (personT r)) H
theorem ok_fl {f : Addr} {fd : FuncData} {k : Nat} (D : Df K mg "_law_folk_lines" sFl f fd ["_law_crowd"]) : FnOk P w K mg base CX0 (k + 1) f fd ["_law_crowd"] (spFl K) := by
  refine D.fn.ok scFl (fun vs H Q E h => ?_) (fun cdv A outer s H vs Q E hr h => ?_)
  · obtain ⟨tf, F, rfl, _⟩ := h
    rfl
  · obtain ⟨tf, F, rfl, ⟨_, xs, e, hf, xl, hx⟩, gf, q⟩ := h
    cases e
    refine ⟨_, pss_cons (ps_set (i := 1) scFl.nd rfl (.inl rfl) (pe_lst pa_nil))
      (pss_cons (ps_for PassesOwn.never rfl (pi_tup (pv 0)) (pg_tup rfl (pgs_cons (pg_name (i := 2) scFl.nd rfl (.inl rfl)) (pgs_cons (pg_name (i := 3) scFl.nd rfl (.inl rfl)) pgs_nil)))
        (pss_one (ps_expr (pe_bm PySem.F.plainAttrs_list PySem.F.slot_list_append PySem.F.type_list_append mt_append (pv 1) (pa_cons (PE.wk (t' := tFl9) (pe_op op_add_str (pe_op op_add_str pe_str (pv 2)) (pe_ifExp (pt_cmpR op_isN (pv 3) pe_non (nomark _)) pe_str (pe_op op_add_str pe_str (pv 3)))) (by
          rintro σ H Q ⟨⟨z, o⟩, h2, h3, nz, no, q⟩
          have a : 1 ≤ z.length ∧ z.length ≤ 8 := hl_nm nz
          cases o with
          | none =>
            have q : Q (.str ((Str.empty ++ "person ") ++ z)) H := q
            rw [emp_app] at q
            refine ⟨_, h2, "person ", z, rfl, rfl, small_len (by show 7 + z.length ≤ 1000; omega), _, h3, rfl, _, rfl, iteT ⟨_, "", rfl, rfl, small_len ?_, ?_⟩⟩
            · rw [hl_app]
              show 7 + z.length + 0 ≤ 1000
              omega
            · rw [app_emp]
              exact q
          | some y =>
            have b := hl_nm (no y rfl)
            have q : Q (.str ((((Str.empty ++ "person ") ++ z) ++ " of ") ++ y)) H := q
            rw [emp_app, app_ass] at q
            refine ⟨_, h2, "person ", z, rfl, rfl, small_len (by show 7 + z.length ≤ 1000; omega), _, h3, rfl, _, rfl, iteF ⟨_, h3, " of ", y, rfl, rfl, small_len (by show 4 + y.length ≤ 1000; omega), _, _, rfl, rfl, small_len ?_, q⟩⟩
            rw [hl_app, hl_app]
            show 7 + z.length + (4 + y.length) ≤ 1000
            omega)) pa_nil)))))
      (pss_one (ps_ret (pv 1)))), ?_⟩
    have f8 := gf.l8
    refine ⟨by show 0 ≤ sizeLine; decide, fun L nL => ?_⟩
    refine ⟨_, rfl, tf, rfl, ⟨_, (tk_new nL).sq hf⟩, for_tup (K := K) (a := tf) (xs := xs) (fun i σ H' => (∃ y2 y3 : Option V, σ = [some (.ref tf), some (.ref L), y2, y3]) ∧ H' L = some (.lst (((F.take i).map personT).map V.str)) ∧ Same H H') ⟨⟨none, none, rfl⟩, upd_same, same_new nL⟩ (fun i σ H' _ h => (tk_same h.2.2).sq hf) ?_ ?_⟩
    · rintro i x σ H2 hx1 ⟨⟨y2, y3, rfl⟩, hL, s2⟩
      obtain ⟨a, r, rfl, hr1, ha⟩ := hx i x hx1
      have jl := lt_get hr1
      have rm := List.mem_of_getElem? hr1
      refine ⟨a, _, rfl, (tk_same s2).sq ha, rfl, _, _, rfl, _, _, rfl, rfl, _, rfl, .inl ⟨rfl, _, sqL hL⟩, r, rfl, rfl, gf.nm r rm, f_parP gf rm, L, _, _, rfl, rfl, hL, ?_, ⟨_, _, rfl⟩, ?_, ((Bt.of_same (S := []) s2).upd0 nL).same⟩
      · rw [List.length_map, List.length_map, List.length_take]
        exact small1000 (by omega)
      · rw [upd_same, take_more hr1, List.map_append, List.map_append]
        rfl
    · rintro σ H2 ⟨⟨y2, y3, rfl⟩, hL, s2⟩
      rw [xl, List.take_length] at hL
      exact ⟨_, rfl, q H2 L s2 nL hL⟩
def spWl (K : PySem.W.Frag) : Sp := fun vs H Q _ => ∃ (tg : Addr) (G : List Gd), vs = [.ref tg] ∧ GoodsAt K H (.ref tg) G ∧ PreG G ∧ ∀ (H' : Hp) (L : Addr), Same H H' → H L = none → H' L = some (.lst ((G.map thingT).map V.str)) → Q (.ref L) H'
def tWl9 : TE := fun σ H Q => ∃ r : Gd, σ[1]? = some (some (.str r.1)) ∧ σ[2]? = some (some (.str r.2.1)) ∧ σ[3]? = some (some (.int r.2.2)) ∧ Nm r.1 ∧ Nm r.2.1 ∧ 0 ≤ r.2.2 ∧ r.2.2 ≤ 1000000000 ∧ Q (.str (thingT r)) H
theorem ok_wl {f : Addr} {fd : FuncData} {k : Nat} (B : Bi mg) (D : Df K mg "_law_ware_lines" sWl f fd ["_law_store"]) : FnOk P w K mg base CX0 (k + 1) f fd ["_law_store"] (spWl K) := by
  refine D.fn.ok scWl (fun vs H Q E h => ?_) (fun cdv A outer s H vs Q E hr h => ?_)
  · obtain ⟨tf, F, rfl, _⟩ := h
    rfl
  · obtain ⟨tg, G, rfl, ⟨_, ys, e, hg, yl, hy⟩, gg, q⟩ := h
    cases e
    refine ⟨_, pss_one (ps_ret (pe_lc (own := [("_law_ware", 1), ("_law_sort", 2), ("_law_worth", 3)]) (g := gTup K 3 (gCons (gName 1) (gCons (gName 2) (gCons (gName 3) gNil)))) (tt := tYes) rfl scWl.nd (pi_tup (pv 0)) (blkOk_by (own := [("_law_ware", 1), ("_law_sort", 2), ("_law_worth", 3)]) (N := nWl) (sc := defScope sWl) (by decide +kernel))
          (fun _ _ _ _ _ => pg_tup rfl (pgs_cons (pg_name (i := 1) scWl.nd rfl (Or.inl rfl)) (pgs_cons (pg_name (i := 2) scWl.nd rfl (Or.inl rfl)) (pgs_cons (pg_name (i := 3) scWl.nd rfl (Or.inl rfl)) pgs_nil)))) (fun _ _ _ _ _ => pts_nil)
          (fun _ _ _ _ _ => PE.wk (t' := tWl9) (pe_op op_add_str (pe_op op_add_str (pe_op op_add_str (pe_op op_add_str (pe_op op_add_str pe_str (pv 1)) pe_str) (pv 2)) pe_str) (pe_callTy call_str_int (by rfl) B.str boot_str (pa_cons (pv 3) pa_nil))) (by
            rintro σ H Q ⟨r, h8, h9, h10, n1, n2, w0, w1, q⟩
            have a := hl_nm n1
            have b := hl_nm n2
            have c := hl_int w0 w1
            unfold thingT at q
            rw [emp_app] at q
            refine ⟨_, h8, "thing ", r.1, rfl, rfl, small_len (by show 6 + r.1.length ≤ 1000; omega), _, " ", rfl, rfl, small_len ?_, _, h9, _, r.2.1, rfl, rfl, small_len ?_, _, " ", rfl, rfl, small_len ?_, _, h10, r.2.2, rfl, hl_log w0 w1, _, intT r.2.2, rfl, rfl, small_len ?_, q⟩
            · rw [hl_app]
              show 6 + r.1.length + 1 ≤ 1000
              omega
            · rw [hl_app, hl_app]
              show 6 + r.1.length + 1 + r.2.1.length ≤ 1000
              omega
            · rw [hl_app, hl_app, hl_app]
              show 6 + r.1.length + 1 + r.2.1.length + 1 ≤ 1000
              omega
            · rw [hl_app, hl_app, hl_app, hl_app]
              show 6 + r.1.length + 1 + r.2.1.length + 1 + _ ≤ 1000
              omega)))), ?_⟩
    have g8 := gg.l8
    refine ⟨_, rfl, tg, rfl, ⟨_, hg⟩, fun M nM => lc_tup (K := K) (a := tg) (xs := ys) (fun j H' => H' M = some (.lst (((G.take j).map thingT).map V.str)) ∧ Same H H') ⟨upd_same, same_new nM⟩ (fun j H' _ h => (tk_same h.2).sq hg) ?_ ?_⟩
    · rintro j x H3 hx3 ⟨hM, s3⟩
      obtain ⟨a, r, rfl, hr2, ha⟩ := hy j x hx3
      have jl := lt_get hr2
      have rm := List.mem_of_getElem? hr2
      refine ⟨a, _, rfl, (tk_same s3).sq ha, rfl, _, _, rfl, _, _, rfl, _, _, rfl, rfl, rfl, tyes (iteT ⟨r, rfl, rfl, rfl, (gg.nm r rm).1, (gg.nm r rm).2, (gg.sm r rm).1, (gg.sm r rm).2, _, hM, ?_, ?_, ((Bt.of_same (S := []) s3).upd0 nM).same⟩)⟩
      · rw [List.length_map, List.length_map, List.length_take]
        exact small1000 (by omega)
      · rw [upd_same, take_more hr2, List.map_append, List.map_append]
        rfl
    · rintro H3 ⟨hM, s3⟩
      rw [yl, List.take_length] at hM
      exact q H3 M s3 nM hM
/-- a house's parts, names told again perhaps -/
def PT (K : PySem.W.Frag) (H : Hp) (v : V) (F : List (Str × Option Str)) (G : List Gd) (p d : Int) : Prop := ∃ hp tf tg : Addr, v = .ref hp ∧ SqT K H hp [.ref tf, .ref tg, .int p, .int d] ∧ FolkAt K H (.ref tf) F ∧ GoodsAt K H (.ref tg) G ∧ PreF F ∧ PreG G ∧ Pu p d
theorem HT.pt {H : Hp} {v : V} {F : List (Str × Option Str)} {G : List Gd} {p d : Int} (h : HT K H v F G p d) : PT K H v F G p d := by
  obtain ⟨hp, tf, tg, rfl, hh, hf, hg, gf, gg, pu⟩ := h
  exact ⟨hp, tf, tg, rfl, hh, hf, hg, gf.pre, gg.pre, pu⟩
/-- ['purse ' + .., 'debts ' + ..] + .. + .. -/
def spLi (K : PySem.W.Frag) : Sp := fun vs H Q _ => ∃ (v : V) (F : List (Str × Option Str)) (G : List Gd) (p d : Int), vs = [v] ∧ PT K H v F G p d ∧ ∀ (H' : Hp) (L : Addr), Same H H' → H L = none → H' L = some (.lst ((linesT F G p d).map V.str)) → Q (.ref L) H'
theorem ok_li {f fF fG : Addr} {fd fdF fdG : FuncData} {k : Nat} (B : Bi mg) (D : Df K mg "_law_lines" sLi f fd ["_law_home_here"]) (DF : Df K mg "_law_folk_lines" sFl fF fdF ["_law_crowd"]) (DG : Df K mg "_law_ware_lines" sWl fG fdG ["_law_store"]) : FnOk P w K mg base CX0 (k + 2) f fd ["_law_home_here"] (spLi K) := by
  have GF : FnOk P w K mg base CX0 (k + 1) fF fdF ["_law_crowd"] (spFl K) := ok_fl DF
  have GG : FnOk P w K mg base CX0 (k + 1) fG fdG ["_law_store"] (spWl K) := ok_wl B DG
  refine D.fn.ok scLi (fun vs H Q E h => ?_) (fun cdv A outer s H vs Q E hr h => ?_)
  · obtain ⟨v, F, G, p, d, rfl, _⟩ := h
    rfl
  · obtain ⟨v, F, G, p, d, rfl, ⟨hp, tf, tg, rfl, hh, hf, hg, gf, gg, pu⟩, q⟩ := h
    refine ⟨_, pss_cons (ps_asg (pv 0) (pg_tup rfl (pgs_cons (pg_name (i := 1) scLi.nd rfl (.inl rfl)) (pgs_cons (pg_name (i := 2) scLi.nd rfl (.inl rfl)) (pgs_cons (pg_name (i := 3) scLi.nd rfl (.inl rfl)) (pgs_cons (pg_name (i := 4) scLi.nd rfl (.inl rfl)) pgs_nil))))))
      (pss_one (ps_ret (pe_op op_cat (pe_op op_cat (pe_lst (pa_cons (pe_op op_add_str pe_str (pe_callTy call_str_int (by rfl) B.str boot_str (pa_cons (pv 3) pa_nil))) (pa_cons (pe_op op_add_str pe_str (pe_callTy call_str_int (by rfl) B.str boot_str (pa_cons (pv 4) pa_nil))) pa_nil))) (pe_call GF hr (by rfl) DF.mg DF.fn.kp DF.bd .nil pass0 (pa_cons (pv 1) pa_nil))) (pe_call GG hr (by rfl) DG.mg DG.fn.kp DG.bd .nil pass0 (pa_cons (pv 2) pa_nil))))), ?_⟩
    have f8 := gf.l8
    have g8 := gg.l8
    have cp := hl_int pu.p0 pu.p1
    have cd := hl_int pu.d0 pu.d1
    refine ⟨_, rfl, hp, _, rfl, hh, rfl, _, _, rfl, _, _, rfl, _, _, rfl, _, _, rfl, rfl, ?_⟩
    refine ⟨_, rfl, p, rfl, hl_log pu.p0 pu.p1, "purse ", intT p, rfl, rfl, small_len (by show 6 + _ ≤ 1000; omega), _, rfl, d, rfl, hl_log pu.d0 pu.d1, "debts ", intT d, rfl, rfl, small_len (by show 6 + _ ≤ 1000; omega), by show 2 ≤ sizeLine; decide, fun L nL => ?_⟩
    have s1 : Same H (upd H L (.lst [.str (("purse " : Str) ++ intT p), .str (("debts " : Str) ++ intT d)])) := same_new nL
    have h1 : (upd H L (.lst [.str (("purse " : Str) ++ intT p), .str (("debts " : Str) ++ intT d)])) L = some (.lst ([purseT p, debtsT d].map V.str)) := by
      unfold purseT debtsT
      rw [emp_app, emp_app]
      exact upd_same
    revert s1 h1
    generalize upd H L (.lst [.str (("purse " : Str) ++ intT p), .str (("debts " : Str) ++ intT d)]) = H1
    intro s1 h1
    refine ⟨_, rfl, tf, F, rfl, hf.tk (tk_same s1), gf, fun H2 M s2 nM hM => ?_⟩
    refine ⟨L, M, _, _, rfl, rfl, s2 _ _ h1, hM, small_len (by simp only [List.length_map, List.length_cons, List.length_nil]; omega), fun N nN => ?_⟩
    have s3 : Same H2 (upd H2 N (.lst ([purseT p, debtsT d].map V.str ++ (F.map personT).map V.str))) := same_new nN
    have hN : (upd H2 N (.lst ([purseT p, debtsT d].map V.str ++ (F.map personT).map V.str))) N = some (.lst ([purseT p, debtsT d].map V.str ++ (F.map personT).map V.str)) := upd_same
    revert s3 hN
    generalize upd H2 N (.lst ([purseT p, debtsT d].map V.str ++ (F.map personT).map V.str)) = H3
    intro s3 hN
    have s03 := s1.trans (s2.trans s3)
    refine ⟨_, rfl, tg, G, rfl, hg.tk (tk_same s03), gg, fun H4 O s4 nO hO => ?_⟩
    refine ⟨N, O, _, _, rfl, rfl, s4 _ _ hN, hO, small_len (by simp only [List.length_map, List.length_cons, List.length_append, List.length_nil]; omega), fun R nR => ?_⟩
    have nR0 : H R = none := by
      cases e : H R with
      | none => rfl
      | some x => rw [(s03.trans s4) _ _ e] at nR; cases nR
    refine q _ R (s03.trans (s4.trans (same_new nR))) nR0 ?_
    rw [upd_same]
    unfold linesT
    simp only [List.map_cons, List.map_append, List.cons_append, List.map_nil, List.nil_append]
/-! ### the line that is refused -/
def tsLr (CT : Addr) : Addr → Value → Option Addr → TS := fun a cls d D σ H => cls = .ref CT ∧ σ[1]? = some (some (.ref a)) ∧ ∃ (dd : Addr) (n : Int), d = some dd ∧ H dd = some (.xd [("line", .int n)]) ∧ D.rt (.int n) H
/-- lines that are refused at n -/
def RfL (ls : List Str) (n : Int) : Prop := (ls = ([""] : List Str) ∧ n = 0) ∨ (∃ p : Int, ls = [purseT p] ∧ 0 ≤ p ∧ p ≤ 1000000000 ∧ n = 1) ∨
  ∃ (F : List (Str × Option Str)) (G : List Gd) (p d : Int), ls = linesT F G p d ∧ PreF F ∧ PreG G ∧ Pu p d ∧ (F = [] → G = []) ∧ ((F = [] ∧ n = 2) ∨ (∃ m : Nat, FD (F.map Prod.fst) m ∧ n = 2 + (m : Nat)) ∨ ((F.map Prod.fst).Nodup ∧ F ≠ [] ∧ ∃ m : Nat, FD (G.map Prod.fst) m ∧ n = ((2 + F.length : Nat) : Int) + (m : Nat)))
theorem fd_one {zs : List Str} {m n : Nat} (h : FD zs m) (h' : FD zs n) : m = n := by
  obtain ⟨z, h1, h2, h3⟩ := h
  obtain ⟨z', h1', h2', h3'⟩ := h'
  have no : ∀ {a b : Nat} {y : Str}, zs[a]? = some y → y ∈ zs.take a → (zs.take b).Nodup → ¬ a < b := fun {a b y} e1 e2 e3 c => by
    have e4 : (zs.take b)[a]? = some y := by rw [List.getElem?_take_of_lt c]; exact e1
    obtain ⟨j, hj⟩ := List.mem_iff_getElem?.mp e2
    have jl := lt_get hj
    rw [List.length_take] at jl
    have e5 : (zs.take b)[j]? = some y := by
      rw [List.getElem?_take_of_lt (by omega)]
      rw [List.getElem?_take_of_lt (by omega)] at hj
      exact hj
    have := (List.getElem?_inj (lt_get e5) e3).mp (e5.trans e4.symm)
    omega
  have a := no h1 h2 h3'
  have b := no h1' h2' h3
  omega
theorem fd_dup {zs : List Str} {m : Nat} (h : FD zs m) : ¬ zs.Nodup := by
  obtain ⟨z, h1, h2, h3⟩ := h
  intro nd
  obtain ⟨j, hj⟩ := List.mem_iff_getElem?.mp h2
  have jl := lt_get hj
  rw [List.length_take] at jl
  rw [List.getElem?_take_of_lt (by omega)] at hj
  have := (List.getElem?_inj (lt_get hj) nd).mp (hj.trans h1.symm)
  omega
def tJn : TE := fun σ H Q => ∃ (L : Addr) (ls : List Str), σ[0]? = some (some (.ref L)) ∧ H L = some (.lst (ls.map V.str)) ∧ (ls.map (·.length)).sum + ls.length * 1 ≤ 16777216 ∧ Q (.str (Txt.join "\n" ls)) H
def spLr (K : PySem.W.Frag) : Sp := fun vs H Q _ => ∃ (L : Addr) (ls : List Str) (n : Int), vs = [.ref L] ∧ H L = some (.lst (ls.map V.str)) ∧ TxL ls ∧ RfL ls n ∧ ∀ H', Same H H' → Q (.int n) H'
theorem ok_lr {f fR : Addr} {fd fdR : FuncData} {k : Nat} (B : Bi mg) (T : ErC K mg "NoText" "line" CT fE CW) (mT : PySem.W.exmOne K (.ref CT) (.ref CT) = some true) (D : Df K mg "_law_line_refused" sLr f fd ["_law_lines_here"]) (DR : Df K mg "read_house" sRHo fR fdR ["text"]) (GR : FnOk P w K mg base (L2.CX P w) (k + 7) fR fdR ["text"] (spRHoX K CH CT)) : FnOk P w K mg base CX0 (k + 8) f fd ["_law_lines_here"] (spLr K) := by
  refine D.fn.ok scLr (fun vs H Q E h => ?_) (fun cdv A outer s H vs Q E hr h => ?_)
  · obtain ⟨L, ls, n, rfl, _⟩ := h
    rfl
  · obtain ⟨L, ls, n, rfl, hL, tx, rf, q⟩ := h
    refine ⟨_, pss_cons (ps_try_as (i := 1) (c := .ref CT) rfl rfl scLr.nd rfl rfl ⟨rfl, by decide, .inl T.g⟩ takes0
          (fun W pn xe tk _ => pss_one (ps_expr (pe_callS GR hr (by rfl) DR.mg DR.fn.kp DR.bd (fun σ => passAt tk σ) (pa_cons (PE.wk (t' := tJn) (pe_join pe_str (pv 0)) (by
            rintro σ H Q ⟨L, ls, h0, hL, sz, q⟩
            exact ⟨⟨_, rfl⟩, _, h0, "\n", L, ls, rfl, rfl, .inl (sqL hL), sz, q⟩)) pa_nil))))
          (ts := tsLr CT) (fun a oe cls d pn hz hf => ⟨fun pins s σ H D I hw => by
            obtain ⟨rfl, h1, dd, n, rfl, h2, h⟩ := hw
            exact (pss_one (ps_ret (pe_ifExp (pt_val (pe_callB call_isi (by rfl) B.isi boot_isinstance (pa_cons (pe_xf T.f T.no hz hf (pv 1)) (pa_cons (pe_bltn (v := .ty "bool") (by rfl) B.bool boot_bool rfl) pa_nil)))) pe_non (pe_xf T.f T.no hz hf (pv 1))))).run pins s σ H D I ⟨_, h1, rfl, rfl, dd, _, .int n, rfl, h2, rfl, .int n, .ty "bool", .type "int", .type "bool", false, rfl, .ty _, .base (.int _), kit_ty (by decide +kernel), false, rfl, iteF ⟨_, h1, rfl, rfl, dd, _, .int n, rfl, h2, rfl, h⟩⟩⟩))
      (pss_one (ps_ret pe_non)), ?_⟩
    have tl := tx.l
    refine ⟨L, ls, rfl, hL, ?_, ls, rfl, tx, ?_⟩
    · have := sum_le40 fun y hy => (tx.y y hy).2
      omega
    have nF : ∀ {F : List (Str × Option Str)} {m : Nat}, FD (F.map Prod.fst) m → F ≠ [] := fun {F m} h e => by
      obtain ⟨z, h1, _⟩ := h
      rw [e] at h1
      cases h1
    rcases rf with ⟨rfl, rfl⟩ | ⟨p, rfl, p0, p1, rfl⟩ | ⟨F, G, p, d, rfl, gf, gg, pu, fg, c⟩
    · exact .inl ⟨rfl, fun H' dd s hd => ⟨true, mT, fun _ a ha => ⟨rfl, rfl, dd, _, rfl, upd_same, q _ (s.trans (same_new hd))⟩, fun z => nomatch z⟩⟩
    · exact .inr (.inl ⟨p, rfl, p0, p1, fun H' dd s hd => ⟨true, mT, fun _ a ha => ⟨rfl, rfl, dd, _, rfl, upd_same, q _ (s.trans (same_new hd))⟩, fun z => nomatch z⟩⟩)
    · rcases c with ⟨e, rfl⟩ | ⟨m0, h0, rfl⟩ | ⟨nd, ne, m0, h0, rfl⟩
      · exact .inr (.inr ⟨F, G, p, d, rfl, gf, gg, pu, fg, (fun _ => fun H' dd s hd => ⟨true, mT, fun _ a ha => ⟨rfl, rfl, dd, _, rfl, upd_same, q _ (s.trans (same_new hd))⟩, fun z => nomatch z⟩), (fun _ ne => absurd e ne), (fun m hm => absurd e (nF hm)), fun _ ne => absurd e ne⟩)
      · exact .inr (.inr ⟨F, G, p, d, rfl, gf, gg, pu, fg, (fun e => absurd e (nF h0)), (fun nd => absurd nd (fd_dup h0)), (fun m hm => by
          rw [fd_one hm h0]
          exact fun H' dd s hd => ⟨true, mT, fun _ a ha => ⟨rfl, rfl, dd, _, rfl, upd_same, q _ (s.trans (same_new hd))⟩, fun z => nomatch z⟩), fun nd => absurd nd (fd_dup h0)⟩)
      · exact .inr (.inr ⟨F, G, p, d, rfl, gf, gg, pu, fg, (fun e => absurd e ne), (fun _ _ ng => absurd ng (fd_dup h0)), (fun m hm => absurd nd (fd_dup hm)), fun _ _ m hm => by
          rw [fd_one hm h0]
          exact fun H' dd s hd => ⟨true, mT, fun _ a ha => ⟨rfl, rfl, dd, _, rfl, upd_same, q _ (s.trans (same_new hd))⟩, fun z => nomatch z⟩⟩)
end
end WdQ

set_option Elab.async false
set_option linter.all false
set_option maxRecDepth 100000
set_option maxHeartbeats 4000000
set_option exponentiation.threshold 5000
namespace WdQ
open PySem PySem.Spec PyProof.Rows L2 WdM Wd
/-! ### houses alike, show_house -/
abbrev sSHo : Stmt := topS 40
theorem scSHo : FnScope ["house"] ["house"] (defScope sSHo) := ⟨rfl, rfl, rfl, by decide +kernel, rfl, by decide +kernel, by decide +kernel⟩
theorem sameB_refl (F : List (Str × Option Str)) (G : List Gd) (p d : Int) : sameB F F G G p p d d = true := by
  unfold sameB
  rw [decide_eq_true (⟨rfl, rfl⟩ : p = p ∧ d = d), decide_eq_true (rfl : F = F), decide_eq_true (rfl : G = G)]
  rfl
theorem ref_at {as : List Addr} {i : Nat} {x : V} (h : (as.map V.ref)[i]? = some x) : ∃ b, as[i]? = some b ∧ x = .ref b := by
  rw [List.getElem?_map] at h
  cases hc : as[i]? with
  | none => rw [hc] at h; cases h
  | some z => rw [hc] at h; cases h; exact ⟨z, rfl, rfl⟩
section
variable {P : Program} {w : World} {K : PySem.W.Frag} {mg : Str → Option Value} {base : Heap} {CH : Addr}
theorem heq_same {H : Hp} {Q : VK} {E : XK} {a b : Addr} {F : List (Str × Option Str)} {G : List Gd} {p d : Int} (ha : HsAt K CH H a F G p d) (hb : HsAt K CH H b F G p d) (q : Q (.bl true) H) : spHEqV K CH [.ref a, .ref b] H Q E :=
  .inl ⟨a, b, F, F, G, G, p, p, d, d, rfl, ha, hb, by rw [sameB_refl]; exact q⟩
theorem heq_other {H : Hp} {Q : VK} {E : XK} {a : Addr} {y : V} {t : Value} (ty : TyX K H y t) (kf : PySem.W.kitOne K t (.ref CH) = some false) (q : Q (.bl false) H) : spHEqV K CH [.ref a, y] H Q E :=
  .inr ⟨a, y, t, rfl, ty, kf, q⟩
def spSHo (K : PySem.W.Frag) (CH : Addr) : Sp := fun vs H Q _ => ∃ (o : Addr) (F : List (Str × Option Str)) (G : List Gd) (p d : Int), vs = [.ref o] ∧ HsAt K CH H o F G p d ∧ ∀ H', Same H H' → Q (.str (houseT F G p d)) H'
theorem ok_sho7 {f : Addr} {fd : FuncData} {k : Nat} (B : Bi mg) (D : Df K mg "show_house" sSHo f fd ["house"]) (Z : HK P w K mg base CH (k + 4)) : FnOk P w K mg base CX0 (k + 7) f fd ["house"] (spSHo K CH) := by
  obtain ⟨fS, fdS, eS, hS, bS, GS⟩ := Z.str
  refine D.fn.ok scSHo (fun vs H Q E h => ?_) (fun cdv A outer s H vs Q E hr h => ?_)
  · obtain ⟨o, F, G, p, d, rfl, _⟩ := h
    rfl
  · obtain ⟨o, F, G, p, d, rfl, hs, q⟩ := h
    refine ⟨_, pss_one (ps_ret (pe_callTy (call_strO GS eS hS bS hr) (by rfl) B.str boot_str (pa_cons (pv 0) pa_nil))), ?_⟩
    obtain ⟨dx, v, t, ho⟩ := hs.at
    exact ⟨_, rfl, o, dx, _, rfl, ho, o, F, G, p, d, rfl, hs, fun H1 s1 => ⟨_, rfl, q H1 s1⟩⟩
end
end WdQ

set_option Elab.async false
set_option linter.all false
set_option maxRecDepth 100000
set_option maxHeartbeats 4000000
set_option exponentiation.threshold 5000
namespace WdQ
open PySem PySem.Spec PyProof.Rows L2 WdM Wd
/-! ### a house made -/
theorem passMk {X : Cx} : Passes (L2.CX X.prog X.w) X E0 := fun _ _ _ _ _ _ _ h => by
  obtain ⟨_, _, _, _, _, _, _, _, _, _, _, _, h⟩ := h
  exact h.elim
section
variable {P : Program} {w : World} {K : PySem.W.Frag} {mg : Str → Option Value} {base : Heap} {CH : Addr}
structure SpHI (K : PySem.W.Frag) (CH : Addr) (vs : List V) (H : Hp) (Q : VK) (E : XK) : Prop where
  it : spHIf K CH vs H Q E
theorem mk_go {H : Hp} {Q : VK} {E : XK} {vf vg : V} {p d : Int} {F : List (Str × Option Str)} {G : List Gd} (hF : FolkAt K H vf F) (gf : GoodF F) (hG : (vg = .non ∧ G = []) ∨ GoodsAt K H vg G) (gg : GoodG G) (pu : Pu p d) {o dx : Addr} (no : H o = none) (nd : H dx = none)
    (q : ∀ H', Same H H' → HsAt K CH H' o F G p d → Q .non H') : SpHI K CH [.ref o, vf, vg, .int p, .int d] (upd (upd H dx (.own o)) o (.ins CH dx [])) Q E := by
  have sN : Same H (upd (upd H dx (.own o)) o (.ins CH dx [])) := fun c x hc => by rw [upd_ne (ne_of_none hc no), upd_ne (ne_of_none hc nd)]; exact hc
  refine ⟨⟨o, dx, vf, vg, p, d, F, G, rfl, upd_same, hF.tk (tk_same sN), gf, ?_, gg, pu, fun H8 b8 hh => q H8 (fun c x hc => b8 c x (by simp [ne_of_none hc no]) (sN c x hc)) hh⟩⟩
  rcases hG with h | h
  · exact .inl h
  · exact .inr (h.tk (tk_same sN))
theorem goods_nil {H : Hp} {v : V} {t : Addr} {G : List Gd} {Q : VK} (hG : GoodsAt K H v G) (gg : GoodG G) (ht : SqT K H t []) (q : Q (.bl (decide (G = []))) H) : RqE K v (.ref t) H Q :=
  ⟨⟨_, .tuple (([] : List Gd).map goodD), hG.dp, .tup ht .nil, good_sh gg, rfl, by rw [show PyData.eqv (.tuple (G.map goodD)) (.tuple (([] : List Gd).map goodD)) = decide (G = []) by unfold PyData.eqv; exact eqv_map eqv_good G []]; exact q⟩⟩
theorem HsAt.upl {H : Hp} {o L : Addr} {F : List (Str × Option Str)} {G : List Gd} {p d : Int} {xs ys : List V} (h : HsAt K CH H o F G p d) (hL : H L = some (.lst xs)) : HsAt K CH (upd H L (.lst ys)) o F G p d := by
  obtain ⟨dx, v, t, ho, f, g, r⟩ := h
  exact ⟨dx, v, t, by rw [upd_ne (fun e => by rw [e, hL] at ho; cases ho)]; exact ho, f.tk (tk_lst hL), g.tk (tk_lst hL), r⟩
end
end WdQ

set_option Elab.async false
set_option linter.all false
set_option maxRecDepth 100000
set_option maxHeartbeats 4000000
set_option exponentiation.threshold 5000
namespace WdQ
open PySem PySem.Spec PyProof.Rows L2 WdM Wd
/-! ### lines that are a house's -/
abbrev sIs : Stmt := topS 50
def nIs : List Str := ["_law_lines_here", "_law_home_here", "_law_crowd", "_law_store", "_law_money", "_law_owed", "_law_found", "_law_one", "_law_mate", "_law_ware", "_law_sort", "_law_worth", "_law_row"]
theorem scIs : FnScope nIs ["_law_lines_here", "_law_home_here"] (defScope sIs) := ⟨rfl, rfl, rfl, by decide +kernel, rfl, by decide +kernel, by decide +kernel⟩
def kwD (r : Gd) : PyData := .tuple [.str r.2.1, .int r.2.2]
def kwV (K : PySem.W.Frag) (H : Hp) (x : V) (r : Gd) : Prop := ∃ a, x = .ref a ∧ SqT K H a [.str r.2.1, .int r.2.2]
theorem list_sh {α : Type} {g : α → PyData} {ts : List α} (h : ∀ t ∈ ts, PyData.canLay0 (g t) = true ∧ PyData.depth (g t) ≤ 3) : SeqAt.shaped (.list (ts.map g)) = true := by
  have h1 : PyData.canLay0 (.list (ts.map g)) = true := by
    simp only [PyData.canLay0]
    refine canLayAll_of fun d hd => ?_
    obtain ⟨t, ht, rfl⟩ := List.mem_map.mp hd
    exact (h t ht).1
  have h2 : PyData.depth (.list (ts.map g)) ≤ 64 := by
    have := dep_all (n := 3) (ds := ts.map g) fun d hd => by
      obtain ⟨t, ht, rfl⟩ := List.mem_map.mp hd
      exact (h t ht).2
    simp only [PyData.depth]
    omega
  unfold SeqAt.shaped
  rw [h1, decide_eq_true h2]
  rfl
theorem eqv_self {α : Type} {g : α → PyData} (h : ∀ r, PyData.eqv (g r) (g r) = true) : ∀ ts : List α, PyData.eqvAll (ts.map g) (ts.map g) = true
  | [] => by simp [PyData.eqvAll]
  | t :: ts => by
    rw [List.map_cons]
    unfold PyData.eqvAll
    rw [h, eqv_self h ts]
    rfl
section
variable {P : Program} {w : World} {K : PySem.W.Frag} {mg : Str → Option Value} {base : Heap} {CH CT fE CW : Addr}
theorem pars_data {H : Hp} : ∀ os : List (Option Str), DpAll K H (os.map parV) (os.map parD)
  | [] => .nil
  | o :: os => .cons (par_dp o) (pars_data os)
theorem pars_same {H : Hp} {a b : Addr} {os : List (Option Str)} {Q : VK} (ha : H a = some (.lst (os.map parV))) (hb : H b = some (.lst (os.map parV))) (ok : ∀ o ∈ os, ∀ y, o = some y → okL y) (q : Q (.bl false) H) : RqN K (.ref a) (.ref b) H Q :=
  have sh : SeqAt.shaped (.list (os.map parD)) = true := list_sh fun o ho => by
    cases o with
    | none => exact ⟨rfl, by simp only [parD, PyData.depth]; omega⟩
    | some y => exact ⟨by simp only [parD, PyData.canLay0]; exact strOk_of (ok _ ho y rfl).ok, by simp only [parD, PyData.depth]; omega⟩
  ⟨⟨.list (os.map parD), .list (os.map parD), .lst (sqL ha) (pars_data os), .lst (sqL hb) (pars_data os), sh, sh, by
    rw [show PyData.eqv (.list (os.map parD)) (.list (os.map parD)) = true by unfold PyData.eqv; exact eqv_self (fun o => by cases o <;> simp [parD, PyData.eqv]) os]
    exact q⟩⟩
theorem kws_data {H : Hp} : ∀ {xs : List V} {G : List Gd}, A2 (kwV K H) xs G → DpAll K H xs (G.map kwD)
  | _, _, .nil => .nil
  | _, _, .cons ⟨a, e, h⟩ t => .cons (e ▸ .tup h (.cons (.str _) (.cons (.int _) .nil))) (kws_data t)
theorem kws_same {H : Hp} {a b : Addr} {xs ys : List V} {G : List Gd} {Q : VK} (ha : H a = some (.lst xs)) (hb : H b = some (.lst ys)) (hx : A2 (kwV K H) xs G) (hy : A2 (kwV K H) ys G) (g : GoodG G) (q : Q (.bl false) H) : RqN K (.ref a) (.ref b) H Q :=
  have sh : SeqAt.shaped (.list (G.map kwD)) = true := list_sh fun r hr => by
    have b := strOk_of (hl_okL (g.nm r hr).2).ok
    exact ⟨by simp only [kwD, PyData.canLay0, PyData.canLayAll0]; rw [b]; rfl, by simp only [kwD, PyData.depth, PyData.depthAll]; omega⟩
  ⟨⟨.list (G.map kwD), .list (G.map kwD), .lst (sqL ha) (kws_data hx), .lst (sqL hb) (kws_data hy), sh, sh, by
    rw [show PyData.eqv (.list (G.map kwD)) (.list (G.map kwD)) = true by unfold PyData.eqv; exact eqv_self (fun o => by simp [kwD, PyData.eqv, PyData.eqvAll]) G]
    exact q⟩⟩
theorem kw_tk {H H' : Hp} {xs : List V} {G : List Gd} (h : A2 (kwV K H) xs G) (e : Tk H H') : A2 (kwV K H') xs G := h.imp fun _ _ ⟨a, e1, e2⟩ => ⟨a, e1, e.sq e2⟩
theorem nodup_fd {zs : List Str} (nd : zs.Nodup) {n : Nat} : ¬ FD zs n := fun h => fd_dup h nd
def spIs (K : PySem.W.Frag) : Sp := fun vs H Q _ => ∃ (L : Addr) (v : V) (F : List (Str × Option Str)) (G : List Gd) (p d : Int), vs = [.ref L, v] ∧ H L = some (.lst ((linesT F G p d).map V.str)) ∧ HT K H v F G p d ∧ ∀ H', Same H H' → Q (.bl true) H'
theorem ok_is {f fR fS fH : Addr} {fd fdR fdS fdH : FuncData} {k : Nat} (B : Bi mg) (D : Df K mg "_law_is_house" sIs f fd ["_law_lines_here", "_law_home_here"]) (Z : HK P w K mg base CH (k + 4)) (DR : Df K mg "read_house" sRHo fR fdR ["text"]) (GR : FnOk P w K mg base (L2.CX P w) (k + 7) fR fdR ["text"] (spRHoX K CH CT)) (DS : Df K mg "show_house" sSHo fS fdS ["house"])
    (MH : Mk K CH fH) (GH : FnOk P w K mg base (L2.CX P w) (k + 5) fH fdH ["self", "people", "goods", "purse", "debts"] (SpHI K CH)) (bH : Binds K fdH ["self", "people", "goods", "purse", "debts"] []) : FnOk P w K mg base CX0 (k + 8) f fd ["_law_lines_here", "_law_home_here"] (spIs K) := by
  have T := Z.T
  have GS : FnOk P w K mg base CX0 (k + 7) fS fdS ["house"] (spSHo K CH) := ok_sho7 B DS Z
  obtain ⟨fP, fdP, uP, MP, bP, vP, GP⟩ := Z.peo
  obtain ⟨fA, fdA, uA, MA, bA, vA, GA⟩ := Z.par
  obtain ⟨fG, fdG, uG, MG, bG, vG, GG⟩ := Z.gds
  obtain ⟨fN, fdN, uN, MN, bN, vN, GN⟩ := Z.knd
  obtain ⟨fW, fdW, uW, MW, bW, vW, GW⟩ := Z.wor
  obtain ⟨fQ, fdQ, eQ, hQ, bQ, GQ⟩ := Z.eq
  refine D.fn.ok scIs (fun vs H Q E h => ?_) (fun cdv A outer s H vs Q E hr h => ?_)
  · obtain ⟨L, v, F, G, p, d, rfl, _⟩ := h
    rfl
  · obtain ⟨L, v, F, G, p, d, rfl, hL, ht, q⟩ := h
    have hu : _ + 64 < cLine := hr.units
    have r4 : Room (k + 4) _ := hr.mono (by omega)
    have r5 : Room (k + 4 + 1) _ := hr.mono (by omega)
    have r6 : Room (k + 5 + 1) _ := hr.mono (by omega)
    refine ⟨_, pss_cons (ps_asg (pv 1) (pg_tup rfl (pgs_cons (pg_name (i := 2) scIs.nd rfl (.inl rfl)) (pgs_cons (pg_name (i := 3) scIs.nd rfl (.inl rfl)) (pgs_cons (pg_name (i := 4) scIs.nd rfl (.inl rfl)) (pgs_cons (pg_name (i := 5) scIs.nd rfl (.inl rfl)) pgs_nil))))))
      (pss_cons (ps_set (i := 6) scIs.nd rfl (.inr rfl) (pe_callS GR hr (by rfl) DR.mg DR.fn.kp DR.bd (fun _ => passHw) (pa_cons (pe_join pe_str (pv 0)) pa_nil)))
      (pss_cons (ps_if (PW.pt (pw_or (pt_cmpR (op_neO GQ Z.ne Z.om eQ hQ bQ r5) (pv 6) (pe_makeS MH GH r6 (by rfl) Z.gH bH .nil (fun _ => passHw) (pa_cons (pv 2) (pa_cons (pv 3) (pa_cons (pv 4) (pa_cons (pv 5) pa_nil))))) (nomark _))
          (pw_or1 (pt_cmpR (r := RqN K) (op_rqN hu) (pe_meth0 (pv 6) T.cl MP GP r4 bP vP pass0) (pe_callTy call_tuple_of (by rfl) B.tuple boot_tuple (pa_cons (pe_lc (own := [("_law_one", 7), ("_law_mate", 8)]) (g := gTup K 2 (gCons (gName 7) (gCons (gName 8) gNil))) (tt := tYes) rfl scIs.nd (pi_tup (pv 2)) (blkOk_by (own := [("_law_one", 7), ("_law_mate", 8)]) (N := nIs) (sc := defScope sIs) (by decide +kernel))
            (fun _ _ _ _ _ => pg_tup rfl (pgs_cons (pg_name (i := 7) scIs.nd rfl (Or.inl rfl)) (pgs_cons (pg_name (i := 8) scIs.nd rfl (Or.inl rfl)) pgs_nil))) (fun _ _ _ _ _ => pts_nil) (fun _ _ _ _ _ => pv 7)) pa_nil)) (nomark _))))) pss_noS pss_nil)
      (pss_cons (ps_if (pt_cmpR (r := RqN K) (op_rqN hu) (pe_meth0 (pv 6) T.cl MG GG r4 bG vG pass0) (pe_callTy call_tuple_of (by rfl) B.tuple boot_tuple (pa_cons (pe_lc (own := [("_law_ware", 9), ("_law_sort", 10), ("_law_worth", 11)]) (g := gTup K 3 (gCons (gName 9) (gCons (gName 10) (gCons (gName 11) gNil)))) (tt := tYes) rfl scIs.nd (pi_tup (pv 3)) (blkOk_by (own := [("_law_ware", 9), ("_law_sort", 10), ("_law_worth", 11)]) (N := nIs) (sc := defScope sIs) (by decide +kernel))
            (fun _ _ _ _ _ => pg_tup rfl (pgs_cons (pg_name (i := 9) scIs.nd rfl (Or.inl rfl)) (pgs_cons (pg_name (i := 10) scIs.nd rfl (Or.inl rfl)) (pgs_cons (pg_name (i := 11) scIs.nd rfl (Or.inl rfl)) pgs_nil)))) (fun _ _ _ _ _ => pts_nil) (fun _ _ _ _ _ => pv 9)) pa_nil)) (nomark _)) pss_noS pss_nil)
      (pss_cons (ps_if (pt_cmpR (r := RqN K) (op_rqN hu) (pe_lc (own := [("_law_one", 7), ("_law_mate", 8)]) (g := gTup K 2 (gCons (gName 7) (gCons (gName 8) gNil))) (tt := tYes) rfl scIs.nd (pi_tup (pv 2)) (blkOk_by (own := [("_law_one", 7), ("_law_mate", 8)]) (N := nIs) (sc := defScope sIs) (by decide +kernel))
            (fun _ _ _ _ _ => pg_tup rfl (pgs_cons (pg_name (i := 7) scIs.nd rfl (Or.inl rfl)) (pgs_cons (pg_name (i := 8) scIs.nd rfl (Or.inl rfl)) pgs_nil))) (fun _ _ _ _ _ => pts_nil) (fun _ _ _ _ _ => pe_meth (pv 6) T.cl MA GA r4 bA vA pass0 (pa_cons (pv 7) pa_nil)))
          (pe_lc (own := [("_law_one", 7), ("_law_mate", 8)]) (g := gTup K 2 (gCons (gName 7) (gCons (gName 8) gNil))) (tt := tYes) rfl scIs.nd (pi_tup (pv 2)) (blkOk_by (own := [("_law_one", 7), ("_law_mate", 8)]) (N := nIs) (sc := defScope sIs) (by decide +kernel))
            (fun _ _ _ _ _ => pg_tup rfl (pgs_cons (pg_name (i := 7) scIs.nd rfl (Or.inl rfl)) (pgs_cons (pg_name (i := 8) scIs.nd rfl (Or.inl rfl)) pgs_nil))) (fun _ _ _ _ _ => pts_nil) (fun _ _ _ _ _ => pv 8)) (nomark _)) pss_noS pss_nil)
      (pss_cons (ps_if (pt_cmpR (r := RqN K) (op_rqN hu) (pe_lc (own := [("_law_ware", 9), ("_law_sort", 10), ("_law_worth", 11)]) (g := gTup K 3 (gCons (gName 9) (gCons (gName 10) (gCons (gName 11) gNil)))) (tt := tYes) rfl scIs.nd (pi_tup (pv 3)) (blkOk_by (own := [("_law_ware", 9), ("_law_sort", 10), ("_law_worth", 11)]) (N := nIs) (sc := defScope sIs) (by decide +kernel))
            (fun _ _ _ _ _ => pg_tup rfl (pgs_cons (pg_name (i := 9) scIs.nd rfl (Or.inl rfl)) (pgs_cons (pg_name (i := 10) scIs.nd rfl (Or.inl rfl)) (pgs_cons (pg_name (i := 11) scIs.nd rfl (Or.inl rfl)) pgs_nil)))) (fun _ _ _ _ _ => pts_nil) (fun _ _ _ _ _ => pe_tup (pa_cons (pe_meth (pv 6) T.cl MN GN r4 bN vN pass0 (pa_cons (pv 9) pa_nil)) (pa_cons (pe_meth (pv 6) T.cl MW GW r4 bW vW pass0 (pa_cons (pv 9) pa_nil)) pa_nil))))
          (pe_lc (own := [("_law_row", 12)]) (g := gName 12) (tt := tYes) rfl scIs.nd (pi_tup (pv 3)) (blkOk_by (own := [("_law_row", 12)]) (N := nIs) (sc := defScope sIs) (by decide +kernel))
            (fun _ _ _ _ _ => pg_name (i := 12) scIs.nd rfl (Or.inl rfl)) (fun _ _ _ _ _ => pts_nil) (fun _ _ _ _ _ => pe_slice (r := rSlA K) sl_tupA (pv 12) (po_some pe_int) po_none)) (nomark _)) pss_noS pss_nil)
      (pss_one (ps_ret (pe_and (pe_cmpR (r := RqE K) (op_rqE hu) (pe_lst (pa_cons (pe_fld (pv 6) rfl) (pa_cons (pe_fld (pv 6) rfl) pa_nil))) (pe_lst (pa_cons (pv 4) (pa_cons (pv 5) pa_nil))) (nomark _)) (pe_one (pe_cmpR op_eq (pe_call GS hr (by rfl) DS.mg DS.fn.kp DS.bd .nil pass0 (pa_cons (pv 6) pa_nil)) (pe_join pe_str (pv 0)) (nomark _))))))))))), ?_⟩
    obtain ⟨hp, tf, tg, rfl, hh, hF, hG, gf, gg, pu⟩ := id ht
    obtain ⟨_, xs, e, hf, xl, hx⟩ := id hF
    cases e
    obtain ⟨_, ys, e, hg, yl, hy⟩ := id hG
    cases e
    have f8 := gf.l8
    have g8 := gg.l8
    have tx := lines_TxL gf.pre gg.pre pu
    have jn : ((linesT F G p d).map (·.length)).sum + (linesT F G p d).length * 1 ≤ 16777216 := by
      have := sum_le40 fun y hy => (tx.y y hy).2
      have := tx.l
      omega
    refine ⟨_, rfl, hp, _, rfl, hh, rfl, _, _, rfl, _, _, rfl, _, _, rfl, _, _, rfl, rfl, ?_⟩
    refine ⟨⟨_, rfl⟩, _, rfl, "\n", L, linesT F G p d, rfl, rfl, .inl (sqL hL), jn, linesT F G p d, rfl, tx, .inr (.inr ⟨F, G, p, d, rfl, gf.pre, gg.pre, pu, ?_, ?_, ?_, ?_, ?_⟩)⟩
    · exact fun e => absurd gf.l1 (by rw [e]; decide)
    · exact fun e => absurd gf.l1 (by rw [e]; decide)
    rotate_left
    · exact fun n hn => absurd hn (nodup_fd gf.nd)
    · exact fun _ _ n hn => absurd hn (nodup_fd gg.nd)
    intro _ _ _ H1 o s1 ho
    obtain ⟨dxo, v1, v2, eo⟩ := ho.at
    have hF1 := hF.tk (tk_same s1)
    have hG1 := hG.tk (tk_same s1)
    refine ⟨_, rfl, _, rfl, _, rfl, _, rfl, _, rfl, fun o2 dx2 no2 nd2 ne2 => mk_go hF1 gf (.inr hG1) gg pu no2 nd2 fun H2 s2 h2 => ⟨rfl, ?_⟩⟩
    obtain ⟨dxn, w1, w2, en⟩ := h2.at
    refine ⟨o, o2, dxo, dxn, _, _, rfl, rfl, s2 _ _ eo, en, heq_same (ho.same s2) h2 ⟨true, rfl, false, rfl, iteF ?_⟩⟩
    have ho2 := ho.same s2
    have eo2 := s2 _ _ eo
    have s02 := s1.trans s2
    clear no2 nd2 ne2 en h2
    refine ⟨_, rfl, o, dxo, _, rfl, eo2, rfl, o, F, rfl, ho2.home, fun H3 t3 s3 ht3 => ?_⟩
    have s03 := s02.trans s3
    refine ⟨_, rfl, tf, rfl, ⟨_, (tk_same s03).sq hf⟩, fun M nM => lc_tup (K := K) (a := tf) (xs := xs) (fun j H' => H' M = some (.lst (((F.take j).map Prod.fst).map V.str)) ∧ Same H3 H') ⟨upd_same, same_new nM⟩ (fun j H' _ h => (tk_same (s03.trans h.2)).sq hf) ?_ ?_⟩
    · rintro j x H4 hx4 ⟨hM, s4⟩
      obtain ⟨a, r, rfl, hr4, ha⟩ := hx j x hx4
      have jl := lt_get hr4
      refine ⟨a, _, rfl, (tk_same (s03.trans s4)).sq ha, rfl, _, _, rfl, _, _, rfl, rfl, rfl, tyes (iteT ⟨_, rfl, _, hM, ?_, ?_, ((Bt.of_same (S := []) s4).upd0 nM).same⟩)⟩
      · rw [List.length_map, List.length_map, List.length_take]
        exact small1000 (by omega)
      · rw [upd_same, take_more hr4, List.map_append, List.map_append]
        rfl
    rintro H4 ⟨hM, s4⟩
    rw [xl, List.take_length] at hM
    refine ⟨M, _, rfl, .inl ⟨sqL hM, fun t4 n4 => ?_⟩⟩
    have s5 := s4.trans (same_new (o := .tup ((F.map Prod.fst).map V.str)) n4)
    have g5 : SqT K (upd H4 t4 (.tup ((F.map Prod.fst).map V.str))) t4 ((F.map Prod.fst).map V.str) := sqT upd_same
    revert s5 g5
    generalize upd H4 t4 (.tup ((F.map Prod.fst).map V.str)) = H5
    intro s5 g5
    have s05 := s03.trans s5
    have ho5 := ho2.same (s3.trans s5)
    have eo5 := (s3.trans s5) _ _ eo2
    refine strs_same ((tk_same s5).sq ht3) g5 (fst_okL gf) ⟨_, rfl, iteF ?_⟩
    clear hM nM n4 s4 ht3 g5
    -- goods
    refine ⟨_, rfl, o, dxo, _, rfl, eo5, rfl, o, F, G, p, d, rfl, ho5, fun H6 t6 s6 ht6 => ?_⟩
    have s06 := s05.trans s6
    refine ⟨_, rfl, tg, rfl, ⟨_, (tk_same s06).sq hg⟩, fun M nM => lc_tup (K := K) (a := tg) (xs := ys) (fun j H' => H' M = some (.lst (((G.take j).map Prod.fst).map V.str)) ∧ Same H6 H') ⟨upd_same, same_new nM⟩ (fun j H' _ h => (tk_same (s06.trans h.2)).sq hg) ?_ ?_⟩
    · rintro j x H7 hx7 ⟨hM, s7⟩
      obtain ⟨a, r, rfl, hr7, ha⟩ := hy j x hx7
      have jl := lt_get hr7
      refine ⟨a, _, rfl, (tk_same (s06.trans s7)).sq ha, rfl, _, _, rfl, _, _, rfl, _, _, rfl, rfl, rfl, tyes (iteT ⟨_, rfl, _, hM, ?_, ?_, ((Bt.of_same (S := []) s7).upd0 nM).same⟩)⟩
      · rw [List.length_map, List.length_map, List.length_take]
        exact small1000 (by omega)
      · rw [upd_same, take_more hr7, List.map_append, List.map_append]
        rfl
    rintro H7 ⟨hM, s7⟩
    rw [yl, List.take_length] at hM
    refine ⟨M, _, rfl, .inl ⟨sqL hM, fun t7 n7 => ?_⟩⟩
    have s8 := s7.trans (same_new (o := .tup ((G.map Prod.fst).map V.str)) n7)
    have g8' : SqT K (upd H7 t7 (.tup ((G.map Prod.fst).map V.str))) t7 ((G.map Prod.fst).map V.str) := sqT upd_same
    revert s8 g8'
    generalize upd H7 t7 (.tup ((G.map Prod.fst).map V.str)) = H8
    intro s8 g8'
    have s08 := s06.trans s8
    have ho8 := ho5.same (s6.trans s8)
    have eo8 := (s6.trans s8) _ _ eo5
    refine strs_same ((tk_same s8).sq ht6) g8' (fstG_okL gg) ⟨_, rfl, iteF ?_⟩
    clear hM nM n7 s7 ht6 g8'
    -- parents
    refine ⟨_, rfl, tf, rfl, ⟨_, (tk_same s08).sq hf⟩, fun M nM => lc_tup (K := K) (a := tf) (xs := xs) (fun j H' => H' M = some (.lst (((F.take j).map Prod.snd).map parV)) ∧ Same H8 H') ⟨upd_same, same_new nM⟩ (fun j H' _ h => (tk_same (s08.trans h.2)).sq hf) ?_ ?_⟩
    · rintro j x H9 hx9 ⟨hM, s9⟩
      obtain ⟨a, r, rfl, hr9, ha⟩ := hx j x hx9
      have jl := lt_get hr9
      have rm := List.mem_of_getElem? hr9
      refine ⟨a, _, rfl, (tk_same (s08.trans s9)).sq ha, rfl, _, _, rfl, _, _, rfl, rfl, rfl, tyes (iteT ⟨_, rfl, o, dxo, _, rfl, s9 _ _ eo8, rfl, _, rfl, o, r.1, F, rfl, (ho8.same s9).home, List.mem_map_of_mem rm, fun H' r' s' rm' re' => ?_⟩)⟩
      rw [row_one gf rm rm' re']
      refine ⟨_, s' _ _ hM, ?_, ?_, ((Bt.of_same (S := []) (s9.trans s')).upd0 nM).same⟩
      · rw [List.length_map, List.length_map, List.length_take]
        exact small1000 (by omega)
      · rw [upd_same, take_more hr9, List.map_append, List.map_append]
        rfl
    rintro H9 ⟨hM, s9⟩
    rw [xl, List.take_length] at hM
    have s09 := s08.trans s9
    refine ⟨_, rfl, tf, rfl, ⟨_, (tk_same s09).sq hf⟩, fun N nN => lc_tup (K := K) (a := tf) (xs := xs) (fun j H' => H' N = some (.lst (((F.take j).map Prod.snd).map parV)) ∧ Same H9 H') ⟨upd_same, same_new nN⟩ (fun j H' _ h => (tk_same (s09.trans h.2)).sq hf) ?_ ?_⟩
    · rintro j x HA hxA ⟨hN, sA⟩
      obtain ⟨a, r, rfl, hrA, ha⟩ := hx j x hxA
      have jl := lt_get hrA
      refine ⟨a, _, rfl, (tk_same (s09.trans sA)).sq ha, rfl, _, _, rfl, _, _, rfl, rfl, rfl, tyes (iteT ⟨_, rfl, _, hN, ?_, ?_, ((Bt.of_same (S := []) sA).upd0 nN).same⟩)⟩
      · rw [List.length_map, List.length_map, List.length_take]
        exact small1000 (by omega)
      · rw [upd_same, take_more hrA, List.map_append, List.map_append]
        rfl
    rintro HA ⟨hN, sA⟩
    rw [xl, List.take_length] at hN
    have s0A := s09.trans sA
    have hoA := ho8.same (s9.trans sA)
    have eoA := (s9.trans sA) _ _ eo8
    refine pars_same (sA _ _ hM) hN (fun m hm y e => ?_) ⟨_, rfl, iteF ?_⟩
    · obtain ⟨r, hr, rfl⟩ := List.mem_map.mp hm
      exact hl_okL (f_par gf hr y e)
    clear hM nM hN nN
    -- kinds and worths
    refine ⟨_, rfl, tg, rfl, ⟨_, (tk_same s0A).sq hg⟩, fun M nM => lc_tup (K := K) (a := tg) (xs := ys) (fun j H' => (∃ us, H' M = some (.lst us) ∧ A2 (kwV K H') us (G.take j)) ∧ Same HA H') ⟨⟨[], upd_same, .nil⟩, same_new nM⟩ (fun j H' _ h => (tk_same (s0A.trans h.2)).sq hg) ?_ ?_⟩
    · rintro j x HB hxB ⟨⟨us, hM, hu'⟩, sB⟩
      obtain ⟨a, r, rfl, hrB, ha⟩ := hy j x hxB
      have jl := lt_get hrB
      have rm := List.mem_of_getElem? hrB
      have rf : r.1 ∈ G.map Prod.fst := List.mem_map_of_mem rm
      have ul := hu'.len
      rw [List.length_take] at ul
      refine ⟨a, _, rfl, (tk_same (s0A.trans sB)).sq ha, rfl, _, _, rfl, _, _, rfl, _, _, rfl, rfl, rfl, tyes (iteT ⟨_, rfl, o, dxo, _, rfl, sB _ _ eoA, rfl, _, rfl, o, r.1, F, G, p, d, rfl, hoA.same sB, rf, fun HC r' sC rm' re' => ?_⟩)⟩
      obtain rfl : r' = r := nodup_fst gg.nd rm' rm re'
      have sBC := sB.trans sC
      refine ⟨_, rfl, o, dxo, _, rfl, sBC _ _ eoA, rfl, _, rfl, o, r'.1, F, G, p, d, rfl, hoA.same sBC, rf, fun HD r2 sD rm2 re2 => ?_⟩
      obtain rfl : r2 = r' := nodup_fst gg.nd rm2 rm re2
      refine ⟨by show 2 ≤ sizeLine; decide, fun t nt => ?_⟩
      have sE := (sC.trans sD).trans (same_new (o := .tup [.str r2.2.1, .int r2.2.2]) nt)
      have hME := sE _ _ hM
      have tkM : Tk (upd HD t (.tup [.str r2.2.1, .int r2.2.2])) (upd (upd HD t (.tup [.str r2.2.1, .int r2.2.2])) M (.lst (us ++ [.ref t]))) := tk_lst hME
      refine ⟨us, hME, small1000 (by omega), ⟨us ++ [.ref t], upd_same, ?_⟩, ((Bt.of_same (S := []) (sB.trans sE)).upd0 nM).same⟩
      rw [take_more hrB]
      exact (kw_tk hu' ((tk_same sE).trans tkM)).snoc ⟨t, rfl, tkM.sq (sqT upd_same)⟩
    rintro HB ⟨⟨us, hM, hu'⟩, sB⟩
    rw [yl, List.take_length] at hu'
    have s0B := s0A.trans sB
    refine ⟨_, rfl, tg, rfl, ⟨_, (tk_same s0B).sq hg⟩, fun N nN => lc_tup (K := K) (a := tg) (xs := ys) (fun j H' => (∃ us, H' N = some (.lst us) ∧ A2 (kwV K H') us (G.take j)) ∧ Same HB H') ⟨⟨[], upd_same, .nil⟩, same_new nN⟩ (fun j H' _ h => (tk_same (s0B.trans h.2)).sq hg) ?_ ?_⟩
    · rintro j x HC hxC ⟨⟨ws, hN, hw'⟩, sC⟩
      obtain ⟨a, r, rfl, hrC, ha⟩ := hy j x hxC
      have jl := lt_get hrC
      have wl := hw'.len
      rw [List.length_take] at wl
      refine ⟨rfl, tyes (iteT ⟨_, rfl, _, rfl, tcut_hi (k := 1) ((tk_same (s0B.trans sC)).sq ha) (by show 1 ≤ 3; decide) fun t HD sD cD => ?_⟩)⟩
      have hND := sD _ _ hN
      have tkN : Tk HD (upd HD N (.lst (ws ++ [.ref t]))) := tk_lst hND
      refine ⟨ws, hND, small1000 (by omega), ⟨ws ++ [.ref t], upd_same, ?_⟩, ((Bt.of_same (S := []) (sC.trans sD)).upd0 nN).same⟩
      rw [take_more hrC]
      exact (kw_tk hw' ((tk_same sD).trans tkN)).snoc ⟨t, rfl, tkN.sq cD⟩
    rintro HC ⟨⟨ws, hN, hw'⟩, sC⟩
    rw [yl, List.take_length] at hw'
    have s0C := s0B.trans sC
    have hoC := hoA.same (sB.trans sC)
    have eoC := (sB.trans sC) _ _ eoA
    refine kws_same (sC _ _ hM) hN (kw_tk hu' (tk_same sC)) hw' gg ⟨_, rfl, iteF ?_⟩
    clear hM nM hN nN
    refine ⟨_, rfl, o, CH, dxo, _, _, rfl, eoC, T.cl, T.n3, rfl, _, rfl, o, CH, dxo, _, _, rfl, eoC, T.cl, T.n4, rfl, by show 2 ≤ sizeLine; decide, fun M nM => ⟨_, rfl, _, rfl, by show 2 ≤ sizeLine; decide, fun N nN => ?_⟩⟩
    have sD : Same HC (upd (upd HC M (.lst [.int p, .int d])) N (.lst [.int p, .int d])) := (same_new nM).trans (same_new nN)
    refine two_rqE (same_new nN _ _ upd_same) upd_same ⟨true, rfl, iteT ⟨_, rfl, o, F, G, p, d, rfl, hoC.same sD, fun HE sE => ⟨⟨_, rfl⟩, _, rfl, "\n", L, linesT F G p d, rfl, rfl, .inl (sqL ((s0C.trans (sD.trans sE)) _ _ hL)), jn, rfl, ?_⟩⟩⟩
    show Q (.bl (decide (V.str (houseT F G p d) = V.str (Txt.join "\n" (linesT F G p d))))) HE
    rw [show decide (V.str (houseT F G p d) = V.str (Txt.join "\n" (linesT F G p d))) = true from decide_eq_true rfl]
    exact q _ (s0C.trans (sD.trans sE))
end
end WdQ

set_option Elab.async false
set_option linter.all false
set_option maxRecDepth 100000
set_option maxHeartbeats 4000000
set_option exponentiation.threshold 5000
namespace WdQ
open PySem PySem.Spec PyProof.Rows L2 WdM Wd
/-! ### lines told one by one; the first one told twice -/
abbrev sGr : Stmt := topS 51
abbrev sFt : Stmt := topS 52
def nGr : List Str := ["_law_home_here", "_law_crowd", "_law_store", "_law_money", "_law_owed", "_law_lines_here", "_law_many", "_law_some"]
def nFt : List Str := ["_law_words_here", "_law_at"]
theorem scGr : FnScope nGr ["_law_home_here"] (defScope sGr) := ⟨rfl, rfl, rfl, by decide +kernel, rfl, by decide +kernel, by decide +kernel⟩
theorem scFt : FnScope nFt ["_law_words_here"] (defScope sFt) := ⟨rfl, rfl, rfl, by decide +kernel, rfl, by decide +kernel, by decide +kernel⟩
theorem cut_any {xs : List V} {k : Nat} : cutV xs none (some ((k : Nat) : Int)) = xs.take k := by
  by_cases h : k ≤ xs.length
  · exact cut_front h
  · unfold cutV
    rw [HT.sIx_none, HT.sIx_nat, Nat.min_eq_right (by omega)]
    simp only [Nat.sub_zero, List.drop_zero, List.take_length]
    rw [List.take_of_length_le (by omega)]
theorem TxL.take {ls : List Str} (h : TxL ls) {m : Nat} (m1 : 1 ≤ m) : TxL (ls.take m) := by
  have ne := h.ne
  have l := h.l
  refine ⟨fun e => ?_, by rw [List.length_take]; omega, fun y hy => h.y y (List.mem_of_mem_take hy)⟩
  have := congrArg List.length e
  rw [List.length_take, List.length_nil] at this
  have := List.length_pos_iff.mpr ne
  omega
theorem GoodF.take {F : List (Str × Option Str)} (g : GoodF F) {n : Nat} (n1 : 1 ≤ n) : GoodF (F.take n) := by
  have l1 := g.l1
  have l8 := g.l8
  refine ⟨by rw [List.length_take]; omega, by rw [List.length_take]; omega, ?_, fun r hr => g.nm r (List.mem_of_mem_take hr), fun i r y hr e => ?_⟩
  · rw [List.map_take]
    exact g.nd.sublist (List.take_sublist _ _)
  · have il := lt_get hr
    rw [List.length_take] at il
    rw [List.getElem?_take_of_lt (by omega)] at hr
    rw [List.take_take, Nat.min_eq_left (by omega)]
    exact g.pr i r y hr e
theorem GoodG.take {G : List Gd} (g : GoodG G) (n : Nat) : GoodG (G.take n) := by
  have l8 := g.l8
  refine ⟨by rw [List.length_take]; omega, ?_, fun r hr => g.nm r (List.mem_of_mem_take hr), fun r hr => g.sm r (List.mem_of_mem_take hr)⟩
  rw [List.map_take]
  exact g.nd.sublist (List.take_sublist _ _)
theorem lines_take {F : List (Str × Option Str)} {G : List Gd} {p d : Int} (m : Nat) : (linesT F G p d).take (m + 2) = linesT (F.take m) (G.take (m - F.length)) p d := by
  unfold linesT
  rw [List.take_succ_cons, List.take_succ_cons, List.take_append, List.length_map, List.map_take, List.map_take]
section
variable {P : Program} {w : World} {K : PySem.W.Frag} {mg : Str → Option Value} {base : Heap} {CH CT fE CW : Addr}
theorem folk_at2 {H : Hp} {t : Addr} {F : List (Str × Option Str)} (h : FolkAt K H (.ref t) F) : ∃ xs, SqT K H t xs ∧ A2 (RowF K H) xs F := by
  obtain ⟨_, xs, e, ht, l, hx⟩ := h
  cases e
  refine ⟨xs, ht, ?_⟩
  clear ht
  revert F
  induction xs with
  | nil =>
    intro F l hx
    cases F with
    | nil => exact .nil
    | cons => simp at l
  | cons x xs ih =>
    intro F l hx
    cases F with
    | nil => simp at l
    | cons r F =>
      obtain ⟨a, r', e1, e2, e3⟩ := hx 0 x rfl
      cases e2
      exact .cons ⟨a, e1, e3⟩ (ih (by simpa using l) fun i y hy => hx (i + 1) y hy)
theorem goods_at2 {H : Hp} {t : Addr} {G : List Gd} (h : GoodsAt K H (.ref t) G) : ∃ xs, SqT K H t xs ∧ A2 (RowG K H) xs G := by
  obtain ⟨_, xs, e, ht, l, hx⟩ := h
  cases e
  refine ⟨xs, ht, ?_⟩
  clear ht
  revert G
  induction xs with
  | nil =>
    intro F l hx
    cases F with
    | nil => exact .nil
    | cons => simp at l
  | cons x xs ih =>
    intro F l hx
    cases F with
    | nil => simp at l
    | cons r F =>
      obtain ⟨a, r', e1, e2, e3⟩ := hx 0 x rfl
      cases e2
      exact .cons ⟨a, e1, e3⟩ (ih (by simpa using l) fun i y hy => hx (i + 1) y hy)
theorem tcut_any {H : Hp} {a : Addr} {xs : List V} {z : Int} {k : Nat} {Q : VK} (ha : SqT K H a xs) (e : z = ((k : Nat) : Int)) (q : ∀ p H', Same H H' → SqT K H' p (xs.take k) → Q (.ref p) H') : rSlA K (.ref a) none (some z) H Q := by
  subst e
  exact tcut ha fun p H' s c => q p H' s (by rw [cut_any] at c; exact c)
theorem lcut_any {H : Hp} {a : Addr} {zs : List Str} {z : Int} {k : Nat} {Q : VK} (ha : H a = some (.lst (zs.map V.str))) (e : z = ((k : Nat) : Int)) (q : ∀ p H', Same H H' → H p = none → H' p = some (.lst ((zs.take k).map V.str)) → Q (.ref p) H') : rSlL K (.ref a) none (some z) H Q := by
  subst e
  exact ⟨a, _, rfl, sqL ha, fun p np => q p _ (same_new np) np (by rw [upd_same, cut_any, List.map_take])⟩
def spGr (K : PySem.W.Frag) : Sp := fun vs H Q _ => ∃ (v : V) (F : List (Str × Option Str)) (G : List Gd) (p d : Int), vs = [v] ∧ HT K H v F G p d ∧ ∀ H', Same H H' → Q (.bl true) H'
theorem ok_gr {f fL fR fI : Addr} {fd fdL fdR fdI : FuncData} {k : Nat} (B : Bi mg) (D : Df K mg "_law_grown_right" sGr f fd ["_law_home_here"]) (DL : Df K mg "_law_lines" sLi fL fdL ["_law_home_here"]) (GL : FnOk P w K mg base CX0 (k + 8) fL fdL ["_law_home_here"] (spLi K))
    (DR : Df K mg "_law_line_refused" sLr fR fdR ["_law_lines_here"]) (GR : FnOk P w K mg base CX0 (k + 8) fR fdR ["_law_lines_here"] (spLr K)) (DI : Df K mg "_law_is_house" sIs fI fdI ["_law_lines_here", "_law_home_here"]) (GI : FnOk P w K mg base CX0 (k + 8) fI fdI ["_law_lines_here", "_law_home_here"] (spIs K)) : FnOk P w K mg base CX0 (k + 9) f fd ["_law_home_here"] (spGr K) := by
  refine D.fn.ok scGr (fun vs H Q E h => ?_) (fun cdv A outer s H vs Q E hr h => ?_)
  · obtain ⟨v, F, G, p, d, rfl, _⟩ := h
    rfl
  · obtain ⟨v, F, G, p, d, rfl, ht, q⟩ := h
    refine ⟨_, pss_cons (ps_asg (pv 0) (pg_tup rfl (pgs_cons (pg_name (i := 1) scGr.nd rfl (.inl rfl)) (pgs_cons (pg_name (i := 2) scGr.nd rfl (.inl rfl)) (pgs_cons (pg_name (i := 3) scGr.nd rfl (.inl rfl)) (pgs_cons (pg_name (i := 4) scGr.nd rfl (.inl rfl)) pgs_nil))))))
      (pss_cons (ps_set (i := 5) scGr.nd rfl (.inl rfl) (pe_call GL hr (by rfl) DL.mg DL.fn.kp DL.bd .nil pass0 (pa_cons (pv 0) pa_nil)))
      (pss_cons (ps_for PassesOwn.never rfl (pi_range2 (by rfl) B.range (pa_cons pe_int (pa_cons (pe_op op_add (pe_callB call_len_seq (by rfl) B.len PySem.boot_len (pa_cons (pv 5) pa_nil)) pe_int) pa_nil))) (pg_name (i := 6) scGr.nd rfl (.inl rfl))
        (pss_one (ps_if (pt_cmpR op_lt (pv 6) pe_int (nomark _))
          (pss_one (ps_if (pt_cmpR op_ne (pe_call GR hr (by rfl) DR.mg DR.fn.kp DR.bd .nil pass0 (pa_cons (pe_slice (r := rSlL K) sl_list (pv 5) po_none (po_some (pv 6))) pa_nil)) (pv 6) (nomark _)) pss_noS pss_nil))
          (pss_cons (ps_set (i := 7) scGr.nd rfl (.inl rfl) (pe_slice (r := rSlA K) sl_tupA (pv 2) po_none (po_some (pe_callB (call_max2 rfl) (by rfl) B.max (by decide +kernel) (pa_cons pe_int (pa_cons (pe_op op_sub (pe_op op_sub (pv 6) pe_int) (pe_callB call_len_seq (by rfl) B.len PySem.boot_len (pa_cons (pv 1) pa_nil))) pa_nil))))))
          (pss_one (ps_if (pt_not (pt_val (pe_call GI hr (by rfl) DI.mg DI.fn.kp DI.bd .nil pass0 (pa_cons (pe_slice (r := rSlL K) sl_list (pv 5) po_none (po_some (pv 6))) (pa_cons (pe_tup (pa_cons (pe_slice (r := rSlA K) sl_tupA (pv 1) po_none (po_some (pe_op op_sub (pv 6) pe_int))) (pa_cons (pv 7) (pa_cons (pv 3) (pa_cons (pv 4) pa_nil))))) pa_nil))))) pss_noS pss_nil))))))
      (pss_one (ps_ret pe_bl)))), ?_⟩
    obtain ⟨hp, tf, tg, rfl, hh, hF, hG, gf, gg, pu⟩ := id ht
    have f1 := gf.l1
    have f8 := gf.l8
    have g8 := gg.l8
    have tx := lines_TxL gf.pre gg.pre pu
    have ll : (linesT F G p d).length = 2 + F.length + G.length := by
      unfold linesT
      simp only [List.length_cons, List.length_append, List.length_map]
      omega
    refine ⟨_, rfl, hp, _, rfl, hh, rfl, _, _, rfl, _, _, rfl, _, _, rfl, _, _, rfl, rfl, ?_⟩
    refine ⟨_, rfl, _, F, G, p, d, rfl, ht.pt, fun H1 L s1 nL hL => ?_⟩
    obtain ⟨xs, hf, hx⟩ := folk_at2 hF
    obtain ⟨ys, hg, hy⟩ := goods_at2 hG
    have xl := hx.len
    refine ⟨_, rfl, L, _, rfl, .inl (sqL hL), _, 1, rfl, rfl, 1, _, rfl, ⟨by decide, by decide, by omega, ?_⟩, for_range (lo := 1) (n := _) (fun i σ H' => (∃ y6 y7 : Option V, σ = [some (.ref hp), some (.ref tf), some (.ref tg), some (.int p), some (.int d), some (.ref L), y6, y7]) ∧ Same H1 H') ⟨⟨none, none, rfl⟩, Same.refl _⟩ ?_ ?_⟩
    · rw [List.length_map, ll]
      omega
    rotate_left
    · rintro σ H2 ⟨⟨y6, y7, rfl⟩, s2⟩
      exact q H2 (s1.trans s2)
    rintro i σ H2 hi ⟨⟨y6, y7, rfl⟩, s2⟩
    rw [List.length_map, ll] at hi
    obtain ⟨m, hm⟩ : ∃ m : Nat, m = i + 1 := ⟨_, rfl⟩
    have key : (1 : Int) + (i : Nat) = ((m : Nat) : Int) := by omega
    rw [key]
    have m1 : 1 ≤ m := by omega
    have mL : m ≤ 2 + F.length + G.length := by omega
    have hL2 := s2 _ _ hL
    have s02 := s1.trans s2
    refine ⟨_, rfl, _, 3, rfl, rfl, _, rfl, ?_⟩
    by_cases c : ((m : Nat) : Int) < 3
    · rw [decide_eq_true c]
      refine iteT ⟨_, rfl, _, rfl, _, rfl, lcut_any hL2 rfl fun S H3 s3 nS hS => ?_⟩
      refine ⟨S, _, ((m : Nat) : Int), rfl, hS, tx.take m1, ?_, fun H4 s4 => ⟨_, rfl, rfl, _, rfl, ?_⟩⟩
      · rcases (show m = 1 ∨ m = 2 by omega) with e | e
        · rw [e]
          exact .inr (.inl ⟨p, rfl, pu.p0, pu.p1, rfl⟩)
        · rw [e]
          exact .inr (.inr ⟨[], [], p, d, rfl, ⟨by decide, (fun r hr => nomatch hr), (fun i r y hr => nomatch hr)⟩, ⟨by decide, (fun r hr => nomatch hr), (fun r hr => nomatch hr)⟩, pu, (fun _ => rfl), .inl ⟨rfl, rfl⟩⟩)
      · rw [show (!decide (V.int ((m : Nat) : Int) = V.int ((m : Nat) : Int))) = false by simp]
        exact iteF ⟨⟨_, _, rfl⟩, s2.trans (s3.trans s4)⟩
    · rw [decide_eq_false c]
      obtain ⟨n, hn⟩ : ∃ n : Nat, m = n + 2 := ⟨m - 2, by omega⟩
      refine iteF ⟨_, rfl, _, rfl, _, 2, rfl, rfl, _, rfl, tf, _, rfl, .inr ((tk_same s02).sq hf), _, _, rfl, rfl, 0, _, rfl, _, rfl, tcut_any (k := n - F.length) ((tk_same s02).sq hg) ?_ fun t3 H3 s3 c3 => ?_⟩
      · split <;> omega
      refine ⟨_, rfl, _, rfl, _, rfl, lcut_any (k := m) (s3 _ _ hL2) rfl fun S H4 s4 nS hS => ?_⟩
      have s04 := s02.trans (s3.trans s4)
      refine ⟨_, rfl, _, rfl, _, 2, rfl, rfl, _, rfl, tcut_any (k := n) ((tk_same s04).sq hf) (by omega) fun t5 H5 s5 c5 => ⟨_, rfl, _, rfl, _, rfl, by show 4 ≤ sizeLine; decide, fun t6 n6 => ?_⟩⟩
      have s6 : Same H5 (upd H5 t6 (.tup [.ref t5, .ref t3, .int p, .int d])) := same_new n6
      have s06 := s04.trans (s5.trans s6)
      rw [hn, lines_take] at hS
      refine ⟨S, _, F.take n, G.take (n - F.length), p, d, rfl, (s5.trans s6) _ _ hS, ⟨t6, t5, t3, rfl, sqT upd_same, folk_of ((tk_same s6).sq c5) (rowF_tk (hx.take n) (tk_same s06)), goods_of ((tk_same (s4.trans (s5.trans s6))).sq c3) (rowG_tk (hy.take _) (tk_same s06)), gf.take (by omega), gg.take _, pu⟩, fun H7 s7 => ⟨true, rfl, iteF ⟨⟨_, _, rfl⟩, s2.trans ((s3.trans s4).trans ((s5.trans s6).trans s7))⟩⟩⟩
def spFt (K : PySem.W.Frag) : Sp := fun vs H Q _ => ∃ (L : Addr) (zs : List Str), vs = [.ref L] ∧ H L = some (.lst (zs.map V.str)) ∧ zs.length ≤ 100 ∧ (∀ n : Nat, FD zs n → ∀ H', Same H H' → Q (.int (n : Nat)) H') ∧ (zs.Nodup → ∀ H', Same H H' → Q .non H')
theorem ok_ft {f : Addr} {fd : FuncData} {k : Nat} (B : Bi mg) (D : Df K mg "_law_first_twice" sFt f fd ["_law_words_here"]) : FnOk P w K mg base CX0 (k + 1) f fd ["_law_words_here"] (spFt K) := by
  refine D.fn.ok scFt (fun vs H Q E h => ?_) (fun cdv A outer s H vs Q E hr h => ?_)
  · obtain ⟨L, zs, rfl, _⟩ := h
    rfl
  · obtain ⟨L, zs, rfl, hL, zl, qD, qN⟩ := h
    refine ⟨_, pss_cons (ps_for PassesOwn.never rfl (pi_range1 (by rfl) B.range (pa_cons (pe_callB call_len_seq (by rfl) B.len PySem.boot_len (pa_cons (pv 0) pa_nil)) pa_nil)) (pg_name (i := 1) scFt.nd rfl (.inl rfl))
        (pss_one (ps_if (pt_cmpR op_in_seq (pe_ix (r := rIxL K) ix_list (pv 0) (pv 1) (fun _ _ => rfl)) (pe_slice (r := rSlL K) sl_list (pv 0) po_none (po_some (pv 1))) (by rfl)) (pss_one (ps_ret (pv 1))) pss_nil)))
      (pss_one (ps_ret pe_non)), ?_⟩
    refine ⟨_, rfl, L, _, rfl, .inl (sqL hL), _, rfl, by omega, by rw [List.length_map]; omega, for_range (lo := 0) (n := _) (fun i σ H' => (∃ y1 : Option V, σ = [some (.ref L), y1]) ∧ (zs.take i).Nodup ∧ Same H H') ⟨⟨none, rfl⟩, List.nodup_nil, Same.refl _⟩ ?_ ?_⟩
    · rintro i σ H1 hi ⟨⟨y1, rfl⟩, nd, s1⟩
      rw [List.length_map] at hi
      have il : i < zs.length := by omega
      have hz : zs[i]? = some zs[i] := List.getElem?_eq_getElem il
      have key : (0 : Int) + (i : Nat) = ((i : Nat) : Int) := by omega
      rw [key]
      refine ⟨_, rfl, _, rfl, L, _, _, _, rfl, rfl, sqL (s1 _ _ hL), atI_nat (v := V.str zs[i]) (by rw [List.getElem?_map, hz]; rfl), _, rfl, _, rfl, _, rfl, lcut_any (s1 _ _ hL) rfl fun S H2 s2 nS hS => ?_⟩
      refine ⟨S, _, rfl, .inl (sqL hS), rfl, flatS _, _, rfl, ?_⟩
      show if inV (.str zs[i]) ((zs.take i).map V.str) = true then _ else _
      cases c : inV (.str zs[i]) ((zs.take i).map V.str) with
      | true => exact iteT ⟨_, rfl, qD i ⟨_, hz, inV_str.mp c, nd⟩ H2 (s1.trans s2)⟩
      | false => exact iteF ⟨⟨_, rfl⟩, nodup_more hz nd (fun m => by rw [inV_str.mpr m] at c; cases c), s1.trans s2⟩
    · rintro σ H1 ⟨⟨y1, rfl⟩, nd, s1⟩
      rw [List.length_map, List.take_of_length_le (by omega)] at nd
      exact qN nd H1 s1
end
end WdQ

set_option Elab.async false
set_option linter.all false
set_option maxRecDepth 100000
set_option maxHeartbeats 4000000
set_option exponentiation.threshold 5000
namespace WdQ
open PySem PySem.Spec PyProof.Rows L2 WdM Wd
/-! ### two houses' rows, one behind the other -/
abbrev sBo : Stmt := topS 53
def nBo : List Str := ["_law_home_here", "_law_other", "_law_crowd", "_law_store", "_law_lines_here", "_law_one", "_law_mate", "_law_bad", "_law_row", "_law_worse"]
theorem scBo : FnScope nBo ["_law_home_here", "_law_other"] (defScope sBo) := ⟨rfl, rfl, rfl, by decide +kernel, rfl, by decide +kernel, by decide +kernel⟩
theorem fd_ex {zs : List Str} (h : ¬ zs.Nodup) : ∃ n, FD zs n := by
  have go : ∀ m, m ≤ zs.length → (zs.take m).Nodup ∨ ∃ n, FD zs n := by
    intro m
    induction m with
    | zero => exact fun _ => .inl List.nodup_nil
    | succ m ih =>
      intro hm
      rcases ih (by omega) with nd | e
      · have hz : zs[m]? = some zs[m] := List.getElem?_eq_getElem (by omega)
        by_cases c : zs[m] ∈ zs.take m
        · exact .inr ⟨m, _, hz, c, nd⟩
        · exact .inl (nodup_more hz nd c)
      · exact .inr e
  rcases go zs.length (Nat.le_refl _) with nd | e
  · rw [List.take_length] at nd
    exact absurd nd h
  · exact e
theorem pre_app {F1 F2 : List (Str × Option Str)} (g1 : GoodF F1) (g2 : GoodF F2) (l1 : F1.length ≤ 4) (l2 : F2.length ≤ 4) : PreF (F1 ++ F2) := by
  refine ⟨by rw [List.length_append]; omega, fun r hr => ?_, fun i r y hr e => ?_⟩
  · rcases List.mem_append.mp hr with h | h
    · exact g1.nm r h
    · exact g2.nm r h
  · by_cases c : i < F1.length
    · rw [List.getElem?_append_left c] at hr
      rw [List.take_append_of_le_length (by omega)]
      exact g1.pr i r y hr e
    · rw [List.getElem?_append_right (by omega)] at hr
      have := g2.pr (i - F1.length) r y hr e
      rw [List.take_append, List.map_append]
      exact List.mem_append_right _ this
theorem preG_app {G1 G2 : List Gd} (g1 : GoodG G1) (g2 : GoodG G2) (l1 : G1.length ≤ 4) (l2 : G2.length ≤ 4) : PreG (G1 ++ G2) := by
  refine ⟨by rw [List.length_append]; omega, fun r hr => ?_, fun r hr => ?_⟩
  · rcases List.mem_append.mp hr with h | h
    · exact g1.nm r h
    · exact g2.nm r h
  · rcases List.mem_append.mp hr with h | h
    · exact g1.sm r h
    · exact g2.sm r h
section
variable {P : Program} {w : World} {K : PySem.W.Frag} {mg : Str → Option Value} {base : Heap} {CH CT fE CW : Addr}
def spBo (K : PySem.W.Frag) : Sp := fun vs H Q _ => ∃ (v v' : V) (F F' : List (Str × Option Str)) (G G' : List Gd) (p p' d d' : Int), vs = [v, v'] ∧ HT K H v F G p d ∧ HT K H v' F' G' p' d' ∧ F.length ≤ 4 ∧ F'.length ≤ 4 ∧ G.length ≤ 4 ∧ G'.length ≤ 4 ∧ ∀ H', Same H H' → Q (.bl true) H'
/-- names of the people that are told -/
def tFsB (K : PySem.W.Frag) : TE := fun σ H Q => ∃ (tf : Addr) (F : List (Str × Option Str)) (y0 y1 y3 y4 y5 y6 y7 y8 y9 : Option V), σ = [y0, y1, some (.ref tf), y3, y4, y5, y6, y7, y8, y9] ∧ FolkAt K H (.ref tf) F ∧ F.length ≤ 8 ∧ ∀ H' L, Same H H' → H' L = some (.lst ((F.map Prod.fst).map V.str)) → Q (.ref L) H'
def tGsB (K : PySem.W.Frag) : TE := fun σ H Q => ∃ (tg : Addr) (G : List Gd) (y0 y1 y2 y4 y5 y6 y7 y8 y9 : Option V), σ = [y0, y1, y2, some (.ref tg), y4, y5, y6, y7, y8, y9] ∧ GoodsAt K H (.ref tg) G ∧ G.length ≤ 8 ∧ ∀ H' L, Same H H' → H' L = some (.lst ((G.map Prod.fst).map V.str)) → Q (.ref L) H'
theorem ok_bo {f fF fG fT fR fI : Addr} {fd fdF fdG fdT fdR fdI : FuncData} {k : Nat} (B : Bi mg) (D : Df K mg "_law_both_right" sBo f fd ["_law_home_here", "_law_other"]) (DF : Df K mg "_law_folk_lines" sFl fF fdF ["_law_crowd"]) (DG : Df K mg "_law_ware_lines" sWl fG fdG ["_law_store"]) (DT : Df K mg "_law_first_twice" sFt fT fdT ["_law_words_here"])
    (DR : Df K mg "_law_line_refused" sLr fR fdR ["_law_lines_here"]) (GR : FnOk P w K mg base CX0 (k + 8) fR fdR ["_law_lines_here"] (spLr K)) (DI : Df K mg "_law_is_house" sIs fI fdI ["_law_lines_here", "_law_home_here"]) (GI : FnOk P w K mg base CX0 (k + 8) fI fdI ["_law_lines_here", "_law_home_here"] (spIs K)) : FnOk P w K mg base CX0 (k + 9) f fd ["_law_home_here", "_law_other"] (spBo K) := by
  have GF : FnOk P w K mg base CX0 (k + 8) fF fdF ["_law_crowd"] (spFl K) := ok_fl DF
  have GG : FnOk P w K mg base CX0 (k + 8) fG fdG ["_law_store"] (spWl K) := ok_wl B DG
  have GT : FnOk P w K mg base CX0 (k + 8) fT fdT ["_law_words_here"] (spFt K) := ok_ft B DT
  refine D.fn.ok scBo (fun vs H Q E h => ?_) (fun cdv A outer s H vs Q E hr h => ?_)
  · obtain ⟨v, v', F, F', G, G', p, p', d, d', rfl, _⟩ := h
    rfl
  · obtain ⟨v, v', F, F', G, G', p, p', d, d', rfl, ⟨hp, tf, tg, rfl, hh, hF, hG, gf, gg, pu⟩, ⟨hp', tf', tg', rfl, hh', hF', hG', gf', gg', pu'⟩, f4, f4', g4, g4', q⟩ := h
    refine ⟨_, pss_cons (ps_par (i := 2) (j := 3) rfl scBo.nd rfl rfl (by decide) rfl rfl (pa_cons (pe_op (r := rCatA K) op_catA (pe_ix (r := rIxT K) ix_tup (pv 0) pe_int (fun _ _ => rfl)) (pe_ix (r := rIxT K) ix_tup (pv 1) pe_int (fun _ _ => rfl))) (pa_cons (pe_op (r := rCatA K) op_catA (pe_ix (r := rIxT K) ix_tup (pv 0) pe_int (fun _ _ => rfl)) (pe_ix (r := rIxT K) ix_tup (pv 1) pe_int (fun _ _ => rfl))) pa_nil)) (by rfl))
      (pss_cons (ps_set (i := 4) scBo.nd rfl (.inl rfl) (pe_lst (pa_cons (pe_op op_add_str pe_str (pe_callTy call_str_int (by rfl) B.str boot_str (pa_cons (pe_ix (r := rIxT K) ix_tup (pv 0) pe_int (fun _ _ => rfl)) pa_nil))) (pa_cons (pe_op op_add_str pe_str (pe_callTy call_str_int (by rfl) B.str boot_str (pa_cons (pe_ix (r := rIxT K) ix_tup (pv 1) pe_int (fun _ _ => rfl)) pa_nil))) pa_nil))))
      (pss_cons (ps_set (i := 4) scBo.nd rfl (.inl rfl) (pe_op op_cat (pe_op op_cat (pv 4) (pe_call GF hr (by rfl) DF.mg DF.fn.kp DF.bd .nil pass0 (pa_cons (pv 2) pa_nil))) (pe_call GG hr (by rfl) DG.mg DG.fn.kp DG.bd .nil pass0 (pa_cons (pv 3) pa_nil))))
      (pss_cons (ps_set (i := 7) scBo.nd rfl (.inl rfl) (pe_call GT hr (by rfl) DT.mg DT.fn.kp DT.bd .nil pass0 (pa_cons (PE.wk (t' := tFsB K) (pe_lc (own := [("_law_one", 5), ("_law_mate", 6)]) (g := gTup K 2 (gCons (gName 5) (gCons (gName 6) gNil))) (tt := tYes) rfl scBo.nd (pi_tup (pv 2)) (blkOk_by (own := [("_law_one", 5), ("_law_mate", 6)]) (N := nBo) (sc := defScope sBo) (by decide +kernel))
            (fun _ _ _ _ _ => pg_tup rfl (pgs_cons (pg_name (i := 5) scBo.nd rfl (Or.inl rfl)) (pgs_cons (pg_name (i := 6) scBo.nd rfl (Or.inl rfl)) pgs_nil))) (fun _ _ _ _ _ => pts_nil) (fun _ _ _ _ _ => pv 5)) (by
              rintro σ H Q ⟨tp, F, y0, y1, y3, y4, y5, y6, y7, y8, y9, rfl, ⟨_, xs, e, ht, xl, hx⟩, f8, q⟩
              cases e
              refine ⟨_, rfl, tp, rfl, ⟨_, ht⟩, fun L nL => lc_tup (K := K) (a := tp) (xs := xs) (fun j H' => H' L = some (.lst (((F.take j).map Prod.fst).map V.str)) ∧ Same H H') ⟨upd_same, same_new nL⟩ (fun j H' _ h => (tk_same h.2).sq ht) ?_ ?_⟩
              · rintro j x H1 hx1 ⟨hL, s1⟩
                obtain ⟨a, r, rfl, hr1, ha⟩ := hx j x hx1
                have jl := lt_get hr1
                refine ⟨a, _, rfl, (tk_same s1).sq ha, rfl, _, _, rfl, _, _, rfl, rfl, rfl, tyes (iteT ⟨_, rfl, _, hL, ?_, ?_, ((Bt.of_same (S := []) s1).upd0 nL).same⟩)⟩
                · rw [List.length_map, List.length_map, List.length_take]
                  exact small1000 (by omega)
                · rw [upd_same, take_more hr1, List.map_append, List.map_append]
                  rfl
              · rintro H1 ⟨hL, s1⟩
                rw [xl, List.take_length] at hL
                exact q H1 L s1 hL)) pa_nil)))
      (pss_cons (ps_set (i := 9) scBo.nd rfl (.inl rfl) (pe_call GT hr (by rfl) DT.mg DT.fn.kp DT.bd .nil pass0 (pa_cons (PE.wk (t' := tGsB K) (pe_lc (own := [("_law_row", 8)]) (g := gName 8) (tt := tYes) rfl scBo.nd (pi_tup (pv 3)) (blkOk_by (own := [("_law_row", 8)]) (N := nBo) (sc := defScope sBo) (by decide +kernel))
            (fun _ _ _ _ _ => pg_name (i := 8) scBo.nd rfl (Or.inl rfl)) (fun _ _ _ _ _ => pts_nil) (fun _ _ _ _ _ => pe_ix (r := rIxT K) ix_tup (pv 8) pe_int (fun _ _ => rfl))) (by
              rintro σ H Q ⟨tp, F, y0, y1, y3, y4, y5, y6, y7, y8, y9, rfl, ⟨_, xs, e, ht, xl, hx⟩, f8, q⟩
              cases e
              refine ⟨_, rfl, tp, rfl, ⟨_, ht⟩, fun L nL => lc_tup (K := K) (a := tp) (xs := xs) (fun j H' => H' L = some (.lst (((F.take j).map Prod.fst).map V.str)) ∧ Same H H') ⟨upd_same, same_new nL⟩ (fun j H' _ h => (tk_same h.2).sq ht) ?_ ?_⟩
              · rintro j x H1 hx1 ⟨hL, s1⟩
                obtain ⟨a, r, rfl, hr1, ha⟩ := hx j x hx1
                have jl := lt_get hr1
                refine ⟨rfl, tyes (iteT ⟨_, rfl, a, _, 0, .str r.1, rfl, rfl, (tk_same s1).sq ha, atI_nat (j := 0) rfl, _, hL, ?_, ?_, ((Bt.of_same (S := []) s1).upd0 nL).same⟩)⟩
                · rw [List.length_map, List.length_map, List.length_take]
                  exact small1000 (by omega)
                · rw [upd_same, take_more hr1, List.map_append, List.map_append]
                  rfl
              · rintro H1 ⟨hL, s1⟩
                rw [xl, List.take_length] at hL
                exact q H1 L s1 hL)) pa_nil)))
      (pss_cons (ps_if (pt_cmpR op_notN (pv 7) pe_non (nomark _)) (pss_one (ps_ret (pe_cmpR op_eq (pe_call GR hr (by rfl) DR.mg DR.fn.kp DR.bd .nil pass0 (pa_cons (pv 4) pa_nil)) (pe_op op_add pe_int (pv 7)) (nomark _)))) pss_nil)
      (pss_cons (ps_if (pt_cmpR op_notN (pv 9) pe_non (nomark _)) (pss_one (ps_ret (pe_cmpR op_eq (pe_call GR hr (by rfl) DR.mg DR.fn.kp DR.bd .nil pass0 (pa_cons (pv 4) pa_nil)) (pe_op op_add (pe_op op_add pe_int (pe_callB call_len_seq (by rfl) B.len PySem.boot_len (pa_cons (pv 2) pa_nil))) (pv 9)) (nomark _)))) pss_nil)
      (pss_one (ps_ret (pe_call GI hr (by rfl) DI.mg DI.fn.kp DI.bd .nil pass0 (pa_cons (pv 4) (pa_cons (pe_tup (pa_cons (pv 2) (pa_cons (pv 3) (pa_cons (pe_ix (r := rIxT K) ix_tup (pv 0) pe_int (fun _ _ => rfl)) (pa_cons (pe_ix (r := rIxT K) ix_tup (pv 1) pe_int (fun _ _ => rfl)) pa_nil))))) pa_nil))))))))))), ?_⟩
    obtain ⟨xs, hf, hx⟩ := folk_at2 hF
    obtain ⟨ys, hg, hy⟩ := goods_at2 hG
    obtain ⟨xs', hf', hx'⟩ := folk_at2 hF'
    obtain ⟨ys', hg', hy'⟩ := goods_at2 hG'
    have xl := hx.len
    have yl := hy.len
    have xl' := hx'.len
    have yl' := hy'.len
    have cp := hl_int pu.p0 pu.p1
    have cd := hl_int pu'.d0 pu'.d1
    have f1 := gf.l1
    have PF := pre_app gf gf' f4 f4'
    have PG := preG_app gg gg' g4 g4'
    have pu2 : Pu p d' := ⟨pu.p0, pu.p1, pu'.d0, pu'.d1⟩
    have ne : F ++ F' ≠ [] := fun e => by
      have := congrArg List.length e
      rw [List.length_append, List.length_nil] at this
      omega
    refine ⟨_, rfl, hp, _, 0, _, rfl, rfl, hh, atI_nat (j := 0) rfl, _, rfl, hp', _, 0, _, rfl, rfl, hh', atI_nat (j := 0) rfl, tcat hf hf' (by omega) fun tc H1 s1 c1 => ?_⟩
    refine ⟨_, rfl, hp, _, 1, _, rfl, rfl, (tk_same s1).sq hh, atI_nat (j := 1) rfl, _, rfl, hp', _, 1, _, rfl, rfl, (tk_same s1).sq hh', atI_nat (j := 1) rfl, tcat ((tk_same s1).sq hg) ((tk_same s1).sq hg') (by omega) fun ts H2 s2 c2 => ⟨_, _, rfl, ?_⟩⟩
    have s02 := s1.trans s2
    have hFF : FolkAt K H2 (.ref tc) (F ++ F') := folk_of ((tk_same s2).sq c1) (rowF_tk (hx.append hx') (tk_same s02))
    have hGG : GoodsAt K H2 (.ref ts) (G ++ G') := goods_of c2 (rowG_tk (hy.append hy') (tk_same s02))
    refine ⟨_, rfl, hp, _, 2, _, rfl, rfl, (tk_same s02).sq hh, atI_nat (j := 2) rfl, p, rfl, hl_log pu.p0 pu.p1, "purse ", intT p, rfl, rfl, small_len (by show 6 + _ ≤ 1000; omega), _, rfl, hp', _, 3, _, rfl, rfl, (tk_same s02).sq hh', atI_nat (j := 3) rfl, d', rfl, hl_log pu'.d0 pu'.d1, "debts ", intT d', rfl, rfl, small_len (by show 6 + _ ≤ 1000; omega), by show 2 ≤ sizeLine; decide, fun L nL => ?_⟩
    have s3 : Same H2 (upd H2 L (.lst [.str (("purse " : Str) ++ intT p), .str (("debts " : Str) ++ intT d')])) := same_new nL
    have h3 : (upd H2 L (.lst [.str (("purse " : Str) ++ intT p), .str (("debts " : Str) ++ intT d')])) L = some (.lst ([purseT p, debtsT d'].map V.str)) := by
      unfold purseT debtsT
      rw [emp_app, emp_app]
      exact upd_same
    revert s3 h3
    generalize upd H2 L (.lst [.str (("purse " : Str) ++ intT p), .str (("debts " : Str) ++ intT d')]) = H3
    intro s3 h3
    refine ⟨_, rfl, _, rfl, tc, _, rfl, hFF.tk (tk_same s3), PF, fun H4 M s4 nM hM => ?_⟩
    have lF := PF.l8
    have lG := PG.l8
    refine ⟨L, M, _, _, rfl, rfl, s4 _ _ h3, hM, small_len (by simp only [List.length_map, List.length_cons, List.length_nil]; omega), fun N nN => ?_⟩
    have s5 : Same H4 (upd H4 N (.lst ([purseT p, debtsT d'].map V.str ++ ((F ++ F').map personT).map V.str))) := same_new nN
    have hN : (upd H4 N (.lst ([purseT p, debtsT d'].map V.str ++ ((F ++ F').map personT).map V.str))) N = some (.lst ([purseT p, debtsT d'].map V.str ++ ((F ++ F').map personT).map V.str)) := upd_same
    revert s5 hN
    generalize upd H4 N (.lst ([purseT p, debtsT d'].map V.str ++ ((F ++ F').map personT).map V.str)) = H5
    intro s5 hN
    have s25 := s3.trans (s4.trans s5)
    refine ⟨_, rfl, ts, _, rfl, hGG.tk (tk_same s25), PG, fun H6 O s6 nO hO => ?_⟩
    refine ⟨N, O, _, _, rfl, rfl, s6 _ _ hN, hO, small_len (by simp only [List.length_map, List.length_cons, List.length_append, List.length_nil] at lF lG ⊢; omega), fun R nR => ?_⟩
    have s7 : Same H6 (upd H6 R (.lst ([purseT p, debtsT d'].map V.str ++ ((F ++ F').map personT).map V.str ++ ((G ++ G').map thingT).map V.str))) := same_new nR
    have hR : (upd H6 R (.lst ([purseT p, debtsT d'].map V.str ++ ((F ++ F').map personT).map V.str ++ ((G ++ G').map thingT).map V.str))) R = some (.lst ((linesT (F ++ F') (G ++ G') p d').map V.str)) := by
      rw [upd_same]
      unfold linesT
      simp only [List.map_cons, List.map_append, List.cons_append, List.map_nil, List.nil_append]
    revert s7 hR
    generalize upd H6 R (.lst ([purseT p, debtsT d'].map V.str ++ ((F ++ F').map personT).map V.str ++ ((G ++ G').map thingT).map V.str)) = H7
    intro s7 hR
    have s27 := s25.trans (s6.trans s7)
    have tx := lines_TxL PF PG pu2
    have fg : F ++ F' = [] → G ++ G' = [] := fun e => absurd e ne
    refine ⟨tc, _, _, _, _, _, _, _, _, _, _, rfl, hFF.tk (tk_same s27), lF, fun H8 L8 s8 hL8 => ?_⟩
    have s28 := s27.trans s8
    have hR8 := s8 _ _ hR
    refine ⟨L8, _, rfl, hL8, by rw [List.length_map]; omega, (fun n hn H9 s9 => ?_), fun nd H9 s9 => ?_⟩
    · refine ⟨ts, _, _, _, _, _, _, _, _, _, _, rfl, hGG.tk (tk_same (s28.trans s9)), lG, fun HA LA sA hLA => ⟨LA, _, rfl, hLA, by rw [List.length_map]; omega, (fun m hm HB sB => ?_), fun nd2 HB sB => ?_⟩⟩
      all_goals
        have s8B := s9.trans (sA.trans sB)
        refine ⟨_, rfl, rfl, _, rfl, iteT ⟨_, rfl, R, _, (2 + (n : Nat) : Int), rfl, s8B _ _ hR8, tx, .inr (.inr ⟨F ++ F', G ++ G', p, d', rfl, PF, PG, pu2, fg, .inr (.inl ⟨n, hn, rfl⟩)⟩), fun HC sC => ⟨_, rfl, 2, _, rfl, rfl, rfl, ?_⟩⟩⟩
        show Q (.bl (decide (V.int (2 + (n : Nat)) = V.int (2 + (n : Nat))))) HC
        rw [decide_eq_true rfl]
        exact q HC (s02.trans (s28.trans (s8B.trans sC)))
    · refine ⟨ts, _, _, _, _, _, _, _, _, _, _, rfl, hGG.tk (tk_same (s28.trans s9)), lG, fun HA LA sA hLA => ⟨LA, _, rfl, hLA, by rw [List.length_map]; omega, (fun m hm HB sB => ?_), fun nd2 HB sB => ?_⟩⟩
      · have s8B := s9.trans (sA.trans sB)
        have sAB := s28.trans s8B
        obtain ⟨_, us, eu, hu, ul, _⟩ := hFF.tk (tk_same sAB)
        cases eu
        refine ⟨_, rfl, rfl, _, rfl, iteF ⟨_, rfl, rfl, _, rfl, iteT ⟨_, rfl, R, _, (((2 + (F ++ F').length : Nat) : Int) + (m : Nat)), rfl, s8B _ _ hR8, tx, .inr (.inr ⟨F ++ F', G ++ G', p, d', rfl, PF, PG, pu2, fg, .inr (.inr ⟨nd, ne, m, hm, rfl⟩)⟩), fun HC sC => ⟨_, rfl, tc, us, rfl, .inr ((tk_same sC).sq hu), 2, _, rfl, rfl, _, rfl, _, _, rfl, rfl, rfl, ?_⟩⟩⟩⟩
        show Q (.bl (decide (V.int (((2 + (F ++ F').length : Nat) : Int) + (m : Nat)) = V.int (2 + ((us.length : Nat) : Int) + (m : Nat))))) HC
        rw [show (((2 + (F ++ F').length : Nat) : Int) + (m : Nat)) = 2 + ((us.length : Nat) : Int) + (m : Nat) by rw [ul]; omega, decide_eq_true rfl]
        exact q HC (s02.trans (sAB.trans sC))
      · have s8B := s9.trans (sA.trans sB)
        have sAB := s28.trans s8B
        have s0B := s02.trans sAB
        refine ⟨_, rfl, rfl, _, rfl, iteF ⟨_, rfl, rfl, _, rfl, iteF ⟨_, rfl, _, rfl, _, rfl, _, rfl, hp, _, 2, _, rfl, rfl, (tk_same s0B).sq hh, atI_nat (j := 2) rfl, _, rfl, hp', _, 3, _, rfl, rfl, (tk_same s0B).sq hh', atI_nat (j := 3) rfl, by show 4 ≤ sizeLine; decide, fun t nt => ?_⟩⟩⟩
        have sN : Same HB (upd HB t (.tup [.ref tc, .ref ts, .int p, .int d'])) := same_new nt
        exact ⟨R, _, F ++ F', G ++ G', p, d', rfl, (s8B.trans sN) _ _ hR8, ⟨t, tc, ts, rfl, sqT upd_same, hFF.tk (tk_same (sAB.trans sN)), hGG.tk (tk_same (sAB.trans sN)), PF.good ne nd, PG.good nd2, pu2⟩, fun HC sC => q HC (s0B.trans (sN.trans sC))⟩
end
end WdQ

set_option Elab.async false
set_option linter.all false
set_option maxRecDepth 100000
set_option maxHeartbeats 4000000
/-! ### sorted, of rows of a name and a number, by their names (unlike ones, or alike rows) -/
namespace Wd.Sp
open PySem PySem.Spec PySem.W PyProof.Rows SrtO
section
variable {prog : Program} {w : World} {A : Around} {E : Value → Shared → Prop} {s : Shared}
theorem collect_tup {l : Addr} {vs : List Value} {Q : List Value → Shared → Prop} (hl : s.heap.IsTuple l vs.toArray)
    (h : Q vs { s with heap := (s.heap.push (seqObj "list" #[] 0)).update s.heap.objs.size (Obj.mapSeq (· ++ vs.toArray)) }) (hsz : vs.length ≤ sizeLine) :
    wpAny (model prog w) A (collect (.ref l)) Q E s := by
  obtain ⟨o, ho, hc, n, hd⟩ := id hl
  unfold collect
  refine wpAny_bind (wpAny_runValue (codeAny_builtin entry_proto_collect' ?_))
  show wpAny _ _ (do again (.builtin "list.__iadd__" ⟨[← newList [], .ref l], []⟩)) _ _ s
  refine wpAny_bind (wpAny_newList (wpAny_pure ⟨Code.quiet_builtin _ (by decide +kernel), codeAny_builtin entry_list_iadd' ?_⟩))
  show wpAny _ _ (Builtin.List.listExtendWith (.ref s.heap.objs.size) (.ref l) (.ref s.heap.objs.size)) _ _ { s with heap := s.heap.push (seqObj "list" #[] 0) }
  unfold Builtin.List.listExtendWith
  have ho' : (s.heap.push (seqObj "list" #[] 0)).get? l = some o := Heap.get?_push_of_some _ ho
  refine wpAny_bind (wpAny_typeOf (T := "tuple") ⟨o, ho', hc⟩ ?_)
  have ht : (Value.type "tuple" == Value.type "tuple") = true := by rfl
  rw [if_pos (by rw [ht]; simp)]
  refine wpAny_bind (listItems_at ho' hd ?_)
  refine wpAny_bind (listItems_at (xs := #[]) (n := 0) (Heap.get?_push_size _ rfl) rfl ?_)
  rw [if_neg (by simp)]
  refine wpAny_bind (listUpdate_at (xs := #[]) (n := 0) (Heap.get?_push_size _ rfl) rfl ?_ (Nat.zero_le _) (by show (#[] ++ vs.toArray).size ≤ sizeLine + 1; simp only [Array.size_append, List.size_toArray, List.length_nil]; omega))
  refine wpAny_pure ?_
  show wpAny (model prog w) A (do
      let o ← load s.heap.objs.size
      match o.data with
      | .seq xs _ => pure xs.toList
      | _ => unsupported "internal:collect") Q E { s with heap := (s.heap.push (seqObj "list" #[] 0)).update s.heap.objs.size (Obj.mapSeq (· ++ vs.toArray)) }
  refine wpAny_bind (wpAny_load (get?_update_seq (Heap.get?_push_size _ rfl) _) ?_)
  show wpAny _ _ (pure ((#[] : Array Value) ++ vs.toArray).toList) Q E _
  rw [show ((#[] : Array Value) ++ vs.toArray).toList = vs by simp]
  exact wpAny_pure h
theorem sorted_col {l : Addr} {vs : List Value} {ltv : Value → Value → Bool} {Q : Value → Shared → Prop} (O : Swo ltv) (hz : vs.length ≤ sizeLine)
    (hcol : ∀ {A : Around} {E : Value → Shared → Prop} {Q : List Value → Shared → Prop}, Q vs { s with heap := (s.heap.push (seqObj "list" #[] 0)).update s.heap.objs.size (Obj.mapSeq (· ++ vs.toArray)) } → wpAny (model prog w) A (collect (.ref l)) Q E s)
    (hS : 2 ≤ vs.length → ∀ (h₁ : Heap) (a : Addr), h₁.get? a = some (seqObj "list" vs.toArray 0) → (∀ b o, s.heap.get? b = some o → b ≠ a ∧ h₁.get? b = some o) → SortableO prog w A.in1.in1 { s with heap := h₁ } a vs ltv)
    (h : ∀ out : List Value, Srtd ltv out → Stb ltv out vs → Q (.ref (s.heap.objs.size + 1)) { s with heap := sortedAll s.heap vs out.toArray }) :
    wpAny (model prog w) A (call (.builtin "sorted") [.ref l]) Q E s := by
  refine Calls.call_function_entry kind_sorted plain_sorted entry_sorted (args_sorted1 _) ?_
  unfold Builtin.«sorted»
  refine wpAny_bind (m := checkCount "sorted" 1 1 _) (wpAny_pure ?_)
  refine wpAny_bind (hcol ?_)
  refine wpAny_bind (wpAny_newList ?_ hz)
  have hsz : ((s.heap.push (seqObj "list" #[] 0)).update s.heap.objs.size (Obj.mapSeq (· ++ vs.toArray))).objs.size = s.heap.objs.size + 1 := by
    rw [Heap.size_update, size_push']
  have hoL : (((s.heap.push (seqObj "list" #[] 0)).update s.heap.objs.size (Obj.mapSeq (· ++ vs.toArray))).push (seqObj "list" vs.toArray 0)).get? (s.heap.objs.size + 1) = some (seqObj "list" vs.toArray 0) := by
    rw [← hsz]; exact Heap.get?_push_size _ rfl
  have keep : ∀ b o, s.heap.get? b = some o → b ≠ s.heap.objs.size + 1 ∧ (((s.heap.push (seqObj "list" #[] 0)).update s.heap.objs.size (Obj.mapSeq (· ++ vs.toArray))).push (seqObj "list" vs.toArray 0)).get? b = some o := fun b o q => by
    have hlt : b < s.heap.objs.size := Heap.lt_size q
    refine ⟨Nat.ne_of_lt (Nat.lt_succ_of_lt hlt), Heap.get?_push_of_some _ ?_⟩
    rw [Heap.get?_update_ne _ _ _ _ (Nat.ne_of_lt hlt)]
    exact Heap.get?_push_of_some _ q
  show wpAny _ _ _ _ _ { s with heap := ((s.heap.push (seqObj "list" #[] 0)).update s.heap.objs.size (Obj.mapSeq (· ++ vs.toArray))).push (seqObj "list" vs.toArray 0) }
  rw [hsz]
  refine wpAny_bind (wpAny_holding (wpAny_call_entry slot_list_sort ⟨_, hoL, rfl⟩ entry_list_sort (list_sort_ord O hoL hz (fun h2 => hS h2 _ _ hoL keep) fun out hs hb => ⟨_, rfl, ?_⟩) (args_list_sort _)))
  exact wpAny_pure ⟨_, rfl, h out hs hb⟩
/-- v is a row of a name and a number -/
def IsNP (h : Heap) (v : Value) (x : Str) (y : Int) : Prop := ∃ a o t u n, v = .ref a ∧ h.get? a = some o ∧ o.cls = .type "tuple" ∧ o.data = .seq #[.str x t, .int y u] n
theorem IsNP.keeps {h h' : Heap} {v : Value} {x : Str} {y : Int} (p : IsNP h v x y) (k : ∀ b o, h.get? b = some o → o.cls = .type "tuple" → h'.get? b = some o) : IsNP h' v x y := by
  obtain ⟨a, o, t, u, n, e, ho, hc, hd⟩ := p
  exact ⟨a, o, t, u, n, e, k _ _ ho hc, hc, hd⟩
def ltN {α : Type} (k : α → Str × Int) (v u : α) : Bool := decide ((k v).1.cps.toList < (k u).1.cps.toList)
theorem swo_n {α : Type} (k : α → Str × Int) : Swo (ltN k) := by
  refine ⟨fun x y h => ?_, fun x y z h1 h2 => ?_⟩
  · exact decide_eq_false (List.lt_asymm (of_decide_eq_true h))
  · have a : ¬ (k y).1.cps.toList < (k x).1.cps.toList := of_decide_eq_false h1
    have b : ¬ (k z).1.cps.toList < (k y).1.cps.toList := of_decide_eq_false h2
    exact decide_eq_false (fun c => (List.le_trans (List.not_lt.mp a) (List.not_lt.mp b) : (k x).1.cps.toList ≤ (k z).1.cps.toList) c)
theorem n_cmp {vs : List Value} {k : Value → Str × Int} (hp : ∀ v ∈ vs, IsNP s.heap v (k v).1 (k v).2) (he : ∀ v ∈ vs, ∀ u ∈ vs, (k v).1 = (k u).1 → (k v).2 = (k u).2) : Cmp prog w A s (tuples' true) (fun p => p.1 ∈ vs) (lt2 (ltN k)) := by
  intro p q hm hm'
  have h1 := hp _ hm
  have h2 := hp _ hm'
  have h3 := he _ hm _ hm'
  show wpAny (model prog w) A (keyLt' (tuples' true) p.1 q.1) (fun r s' => s' = s ∧ r = ltN k p.1 q.1) (fun _ _ => False) s
  unfold ltN
  generalize (k p.1).1 = x at h1 h3 ⊢
  generalize (k p.1).2 = y at h1 h3
  generalize (k q.1).1 = x' at h2 h3 ⊢
  generalize (k q.1).2 = y' at h2 h3
  obtain ⟨a, o, t, u, n, e, ho, hc, hd⟩ := h1
  obtain ⟨a', o', t', u', n', e', ho', hc', hd'⟩ := h2
  rw [e, e']
  refine PySem.W.kat_lt ho hd ho' hd' ?_
  show PySem.W.KatLex prog w A true (decide (2 < 2)) _ [(.str x t, .str x' t'), (.int y u, .int y' u')] 0 s
  refine PySem.W.kat_cons (SeqAt.EqAt.str_str x t x' t' prog w _ _ ?_)
  refine PySem.W.kat_go (fun e1 => ?_) (fun e1 => ?_)
  · have ex : x = x' := by simpa using e1
    have ey := h3 ex
    subst ex
    subst ey
    refine PySem.W.kat_yes (PySem.W.kat_cons (SeqAt.EqAt.int_int y u y u' prog w _ _ ?_))
    refine PySem.W.kat_go (fun e2 => ?_) (fun e2 => ?_)
    · exact PySem.W.kat_yes (PySem.W.kat_nil ⟨rfl, (decide_eq_false (List.lt_irrefl _)).symm⟩)
    · simp at e2
  · exact PySem.W.kat_no (oneLt_str ⟨rfl, rfl⟩)
theorem firsts_n {h : Heap} : ∀ {vs : List Value}, (∀ v ∈ vs, ∃ x y, IsNP h v x y) → ∃ fs : List Value, PySem.W.KatTups h vs fs ∧ fs.length = vs.length ∧ ∀ f ∈ fs, ∃ x t, f = Value.str x t
  | [], _ => ⟨[], PySem.W.KatTups.nil, rfl, fun _ hm => by simp at hm⟩
  | v :: vs, hp => by
    obtain ⟨fs, h1, h2, h3⟩ := firsts_n (vs := vs) fun v' hm => hp v' (List.mem_cons_of_mem _ hm)
    obtain ⟨x, y, a, o, t, u, n, e, ho, hc, hd⟩ := hp v (List.mem_cons_self ..)
    subst e
    refine ⟨.str x t :: fs, PySem.W.KatTups.cons ho hc hd rfl h1, by rw [List.length_cons, List.length_cons, h2], fun f hm => ?_⟩
    rcases List.mem_cons.mp hm with rfl | hm
    · exact ⟨x, t, rfl⟩
    · exact h3 f hm
theorem n_sortable {a : Addr} {vs : List Value} {k : Value → Str × Int} (h0 : 0 < vs.length) (hp : ∀ v ∈ vs, IsNP s.heap v (k v).1 (k v).2) (he : ∀ v ∈ vs, ∀ u ∈ vs, (k v).1 = (k u).1 → (k v).2 = (k u).2) (ha : ∀ o, s.heap.get? a = some o → o.cls ≠ .type "tuple") : SortableO prog w A s a vs (ltN k) := by
  intro h' keep
  have hp' : ∀ v ∈ vs, IsNP h' v (k v).1 (k v).2 := fun v hm => (hp v hm).keeps fun b o e c => keep b o (fun z => by subst z; exact ha o e c) e
  obtain ⟨fs, h1, h2, h3⟩ := firsts_n fun v hm => ⟨_, _, hp' v hm⟩
  refine ⟨tuples' true, fun Q E hq => ?_, n_cmp hp' he⟩
  refine PySem.W.kat_kind (T := .type "str") h1 (by omega) (fun f hm => ?_) (by rfl) ?_
  · obtain ⟨x, t, rfl⟩ := h3 f hm
    exact PySem.W.Looks.now
  · have e : (Value.type "str" != Value.type "tuple") = true := by first | decide +kernel | rfl | decide
    rw [e]
    exact hq
theorem sorted_n {l : Addr} {vs : List Value} {k : Value → Str × Int} {Q : Value → Shared → Prop} (hl : s.heap.IsList l vs.toArray ∨ s.heap.IsTuple l vs.toArray) (hz : vs.length ≤ sizeLine) (hp : ∀ v ∈ vs, IsNP s.heap v (k v).1 (k v).2) (he : ∀ v ∈ vs, ∀ u ∈ vs, (k v).1 = (k u).1 → (k v).2 = (k u).2)
    (h : ∀ (h' : Heap) (d : Addr) (out : List Value), Srtd (ltN k) out → Stb (ltN k) out vs → (∀ b o, s.heap.get? b = some o → h'.get? b = some o) → s.heap.objs.size ≤ d → (∃ n, h'.get? d = some (seqObj "list" out.toArray n)) → Q (.ref d) { s with heap := h' }) :
    wpAny (model prog w) A (call (.builtin "sorted") [.ref l]) Q E s := by
  refine sorted_col (swo_n k) hz (fun hq => ?_) (fun h2 h₁ a ha kk => ?_) fun out hs hb => ?_
  · rcases hl with hl | hl
    · exact collect_list hl hq hz
    · exact collect_tup hl hq hz
  · refine n_sortable (s := { s with heap := h₁ }) (by omega) (fun v hm => (hp v hm).keeps fun b o e _ => (kk b o e).2) he fun o e => ?_
    have e' : some o = some (seqObj "list" vs.toArray 0) := e.symm.trans ha
    cases e'
    intro c
    exact absurd (Value.type.inj c) (by decide)
  · exact h _ _ out hs hb (fun b o e => sortedAll_old e) (Nat.le_succ _) (sortedAll_at s.heap vs out.toArray)
end
end Wd.Sp
namespace Wd
open PySem PySem.Spec PyProof.Rows L2
def rSortedN (K : PySem.W.Frag) : List V → Hp → VK → Prop := fun vs H Q => ∃ (a : Addr) (xs : List V) (k : V → Str × Int), vs = [V.ref a] ∧ (SqL K H a xs ∨ SqT K H a xs) ∧ (∀ x ∈ xs, ∃ t, x = V.ref t ∧ SqT K H t [.str (k x).1, .int (k x).2]) ∧ (∀ x ∈ xs, ∀ y ∈ xs, (k x).1 = (k y).1 → (k x).2 = (k y).2) ∧
  ∀ ys p, ys.Perm xs → ys.Pairwise (fun x y => ¬ (k y).1.cps.toList < (k x).1.cps.toList) → H p = none → Q (.ref p) (upd H p (.lst ys))
section
variable {X : Cx}
theorem cr_sortedN : CallR X (.builtin "sorted") (rSortedN X.K) := by
  intro pins s σ H vs us Q I r h
  obtain ⟨a, xs, k, rfl, hs, hx, he, q⟩ := h
  obtain ⟨its, rv, hl, hz⟩ : ∃ its : List Value, Vals xs its ∧ (s.heap.IsList a its.toArray ∨ s.heap.IsTuple a its.toArray) ∧ xs.length ≤ sizeLine := by
    rcases hs with hs | hs
    · obtain ⟨its, rv, hl, hz⟩ := I.list hs
      exact ⟨its, rv, .inl hl.isList, hz⟩
    · obtain ⟨its, rv, hl, hz⟩ := I.tuple hs
      exact ⟨its, rv, .inr hl, hz⟩
  obtain ⟨u, rfl, ru⟩ := vals1 r
  obtain rfl : u = Value.ref a := ru
  obtain ⟨e1, e2⟩ := refs_back rv fun x m => by
    obtain ⟨t, e, _⟩ := hx x m
    exact ⟨t, e⟩
  have inx : ∀ v ∈ its, backV v ∈ xs := fun v hv => by rw [e1]; exact List.mem_map.mpr ⟨_, hv, rfl⟩
  refine Sp.sorted_n (k := fun u => k (backV u)) hl (by rw [← rv.length]; exact hz) (fun v hv => ?_) (fun v hv u hu e => he _ (inx v hv) _ (inx u hu) e) fun h' d out h1 h2 kp hd hn => ?_
  · obtain ⟨t, rfl⟩ := e2 v hv
    obtain ⟨t', e, ht⟩ := hx _ (inx _ hv)
    cases e
    obtain ⟨its2, r2, ⟨o, ho, hc, n, hd⟩, _⟩ := I.tuple ht
    obtain ⟨u1, u2, rfl, ri, rj⟩ := vals2 r2
    obtain ⟨t1, rfl⟩ := ri
    obtain ⟨t2, rfl⟩ := rj
    exact ⟨t, o, t1, t2, n, rfl, ho, hc, hd⟩
  · have h3 : ∀ u ∈ out, ∃ a, u = Value.ref a := fun u hu => e2 u (h2.perm.mem_iff.mp hu)
    obtain ⟨n, hn⟩ := hn
    have hb : SrtO.Stb (Sp.ltN k) (out.map backV) xs := by
      rw [e1]
      exact SrtO.Stb.map (Sp.swo_n k) backV h2
    have hs2 : SrtO.Srtd (Sp.ltN k) (out.map backV) := SrtO.srtd_map h1
    refine ⟨.ref d, upd H d (.lst (out.map backV)), I.laid (t' := s.toks) kp hd ⟨?_, out, n, vals_back h3, hn⟩, rfl, q _ d hb.perm (List.Pairwise.imp (fun h => of_decide_eq_false h) hs2) (I.hok.fresh hd)⟩
    rw [hb.len]
    exact hz
/-- the same, by the rows -/
def rSortedM (K : PySem.W.Frag) : List V → Hp → VK → Prop := fun vs H Q => ∃ (a : Addr) (xs : List V) (rows : List (Str × Int)), vs = [V.ref a] ∧ (SqL K H a xs ∨ SqT K H a xs) ∧ xs.length = rows.length ∧ (∀ (i : Nat) (x : V), xs[i]? = some x → ∃ (t : Addr) (r : Str × Int), x = V.ref t ∧ rows[i]? = some r ∧ SqT K H t [.str r.1, .int r.2]) ∧ (rows.map Prod.fst).Nodup ∧
  ∀ (ys : List V) (rows' : List (Str × Int)) (p : Addr), ys.length = rows'.length → rows'.Perm rows → (rows'.Pairwise fun x y => ¬ y.1.cps.toList < x.1.cps.toList) → (∀ (i : Nat) (x : V), ys[i]? = some x → ∃ (t : Addr) (r : Str × Int), x = V.ref t ∧ rows'[i]? = some r ∧ SqT K H t [.str r.1, .int r.2]) → H p = none → Q (.ref p) (upd H p (.lst ys))
open Classical in
theorem cr_sortedM : CallR X (.builtin "sorted") (rSortedM X.K) := by
  intro pins s σ H vs us Q I r h
  obtain ⟨a, xs, rows, rfl, hs, hl, hx, nd, q⟩ := h
  obtain ⟨k, hk⟩ : ∃ k : V → Str × Int, ∀ x ∈ xs, ∃ t, x = V.ref t ∧ SqT X.K H t [.str (k x).1, .int (k x).2] := by
    refine ⟨fun x => if h : ∃ r : Str × Int, ∃ t, x = V.ref t ∧ SqT X.K H t [.str r.1, .int r.2] then h.choose else ("", 0), fun x m => ?_⟩
    obtain ⟨i, hi⟩ := List.mem_iff_getElem?.mp m
    obtain ⟨t, r, e, _, sq⟩ := hx i x hi
    have h : ∃ r : Str × Int, ∃ t, x = V.ref t ∧ SqT X.K H t [.str r.1, .int r.2] := ⟨r, t, e, sq⟩
    simp only [dif_pos h]
    exact h.choose_spec
  have at_ : ∀ (i : Nat) (x : V), xs[i]? = some x → rows[i]? = some (k x) := fun i x hi => by
    obtain ⟨t, r, e, hr, sq⟩ := hx i x hi
    obtain ⟨t', e', sq'⟩ := hk x (List.mem_of_getElem? hi)
    rw [e] at e'
    cases e'
    have ee := I.tuple_inj sq sq'
    rw [hr]
    have e1 : r.1 = (k x).1 := by
      have := List.cons.inj ee
      exact V.str.inj this.1
    have e2 : r.2 = (k x).2 := by
      have := List.cons.inj (List.cons.inj ee).2
      exact V.int.inj this.1
    rw [show r = k x from Prod.ext e1 e2]
  have em : rows = xs.map k := by
    refine List.ext_getElem? fun i => ?_
    rw [List.getElem?_map]
    cases hc : xs[i]? with
    | none =>
      have := List.getElem?_eq_none_iff.mp hc
      exact List.getElem?_eq_none_iff.mpr (by omega)
    | some x => exact at_ i x hc
  refine cr_sortedN pins s σ H _ us Q I r ⟨a, xs, k, rfl, hs, hk, fun x hx' y hy e => ?_, fun ys p pm srt np => ?_⟩
  · obtain ⟨i, hi⟩ := List.mem_iff_getElem?.mp hx'
    obtain ⟨j, hj⟩ := List.mem_iff_getElem?.mp hy
    have h1 := at_ i x hi
    have h2 := at_ j y hj
    have g1 : (rows.map Prod.fst)[i]? = some (k x).1 := by rw [List.getElem?_map, h1]; rfl
    have g2 : (rows.map Prod.fst)[j]? = some (k x).1 := by rw [List.getElem?_map, h2, e]; rfl
    have ij := (List.getElem?_inj (List.getElem?_eq_some_iff.mp g1).1 nd).mp (g1.trans g2.symm)
    rw [ij, h2] at h1
    rw [Option.some.inj h1]
  · refine q ys (ys.map k) p (by rw [List.length_map]) (by rw [em]; exact pm.map k) (List.pairwise_map.mpr srt) (fun i x hi => ?_) np
    obtain ⟨t, e, sq⟩ := hk x (pm.mem_iff.mp (List.mem_of_getElem? hi))
    exact ⟨t, k x, e, by rw [List.getElem?_map, hi]; rfl, sq⟩
end
end Wd

set_option Elab.async false
set_option linter.all false
set_option maxRecDepth 100000
set_option maxHeartbeats 4000000
/-! ### sorted, of a tuple of texts -/
namespace Wd.Sp
open PySem PySem.Spec PySem.W PyProof.Rows SrtO
section
variable {prog : Program} {w : World} {A : Around} {E : Value → Shared → Prop} {s : Shared}
theorem sortedK_tup {κ : KeyKind} (hO : κ.OneLt) {l : Addr} {vs : List Value} {Q : Value → Shared → Prop} (hl : s.heap.IsTuple l vs.toArray) (h0 : KeysOf κ (pairsOf vs)) (hkk : ∀ v₁ v₂ rest, vs = v₁ :: v₂ :: rest → keyKind' (v₁ :: v₂ :: rest).toArray = pure oneType') (h64 : vs.length < 64)
    (h : ∀ st' : SortSt, (arrOf st').Perm (pairsOf vs) → SortedToK κ (arrOf st') (pairsOf vs).size → Q (.ref (s.heap.objs.size + 1)) { s with heap := sortedAll s.heap vs ((arrOf st').map (·.2)) }) :
    wpAny (model prog w) A (call (.builtin "sorted") [.ref l]) Q E s := by
  have hz : vs.length ≤ sizeLine := Nat.le_of_lt (Nat.lt_of_lt_of_le h64 (by decide))
  refine Calls.call_function_entry kind_sorted plain_sorted entry_sorted (args_sorted1 _) ?_
  unfold Builtin.«sorted»
  refine wpAny_bind (m := checkCount "sorted" 1 1 _) (wpAny_pure ?_)
  refine wpAny_bind (collect_tup hl ?_ hz)
  refine wpAny_bind (wpAny_newList ?_ hz)
  have hsz : ((s.heap.push (seqObj "list" #[] 0)).update s.heap.objs.size (Obj.mapSeq (· ++ vs.toArray))).objs.size = s.heap.objs.size + 1 := by
    rw [Heap.size_update, size_push']
  have hoL : (((s.heap.push (seqObj "list" #[] 0)).update s.heap.objs.size (Obj.mapSeq (· ++ vs.toArray))).push (seqObj "list" vs.toArray 0)).get? (s.heap.objs.size + 1) = some (seqObj "list" vs.toArray 0) := by
    rw [← hsz]; exact Heap.get?_push_size _ rfl
  show wpAny _ _ _ _ _ { s with heap := ((s.heap.push (seqObj "list" #[] 0)).update s.heap.objs.size (Obj.mapSeq (· ++ vs.toArray))).push (seqObj "list" vs.toArray 0) }
  rw [hsz]
  refine wpAny_bind (wpAny_holding (wpAny_call_entry slot_list_sort ⟨_, hoL, rfl⟩ entry_list_sort (list_sort_treeK hO hoL h0 hkk h64 fun st' a1 a2 => ⟨_, rfl, ?_⟩) (args_list_sort _)))
  exact wpAny_pure ⟨_, rfl, h st' a1 a2⟩
end
end Wd.Sp
namespace Wd
open PySem PySem.Spec PyProof.Rows L2
def rSortedST (K : PySem.W.Frag) : List V → Hp → VK → Prop := fun vs H Q => ∃ (a : Addr) (xs : List Str), vs = [V.ref a] ∧ SqT K H a (xs.map V.str) ∧ xs.length < 64 ∧ ∀ (ys : List Str) (p : Addr), ys.Perm xs → sortedS ys = true → H p = none → Q (.ref p) (upd H p (.lst (ys.map V.str)))
section
variable {X : Cx}
theorem cr_sortedST : CallR X (.builtin "sorted") (rSortedST X.K) := by
  intro pins s σ H xs us Q I r h
  obtain ⟨a, xs, rfl, hs, h64, q⟩ := h
  obtain ⟨its, rv, hl, _⟩ := I.tuple hs
  rw [Vals.ref1 r]
  have hlen0 := rv.length
  rw [List.length_map] at hlen0
  refine Sp.sortedK_tup strKind_oneLt hl rv.strs.keysOf (fun v₁ v₂ rest e => keyKind_strs (by rw [← e]; exact rv.strs)) (by rw [← hlen0]; exact h64) fun st' hp hs => ?_
  obtain ⟨ys, h1, h2, h3⟩ := sorted_out_str rv.strs hp hs
  obtain ⟨ep, he'⟩ := PyProof.Rows.sortedAll_at s.heap its ((arrOf st').map (·.2))
  have hlen : (ys.map V.str).length ≤ sizeLine := by rw [List.length_map, h2.length_eq]; exact small64 h64
  exact ⟨.ref _, upd H (s.heap.objs.size + 1) (.lst (ys.map V.str)), I.laid (t' := s.toks) (fun _ _ => PyProof.Rows.sortedAll_old) (Nat.le_succ _) ⟨hlen, _, ep, vals_of_strs h1, he'⟩, rfl, q ys _ h2 h3 (I.hok.fresh (Nat.le_succ _))⟩
end
end Wd

set_option Elab.async false
set_option linter.all false
set_option maxRecDepth 100000
set_option maxHeartbeats 4000000
set_option exponentiation.threshold 5000
namespace WdQ
open PySem PySem.Spec PyProof.Rows L2 WdM Wd
/-! ### goods in another order -/
abbrev sTu : Stmt := topS 54
def nTu : List Str := ["_law_pool_here", "_law_home_here", "_law_crowd", "_law_store", "_law_money", "_law_owed", "_law_left", "_law_row", "_law_turned", "_law_one", "_law_other", "_law_some", "_law_ware", "_law_both"]
theorem scTu : FnScope nTu ["_law_pool_here", "_law_home_here"] (defScope sTu) := ⟨rfl, rfl, rfl, by decide +kernel, rfl, by decide +kernel, by decide +kernel⟩
theorem A2.erase {α β : Type} {R : α → β → Prop} : ∀ {as : List α} {bs : List β} (n : Nat), A2 R as bs → A2 R (as.eraseIdx n) (bs.eraseIdx n)
  | _, _, _, .nil => .nil
  | _, _, 0, .cons _ t => t
  | _, _, n + 1, .cons r t => .cons r (A2.erase n t)
theorem GoodG.perm {G G' : List Gd} (g : GoodG G) (p : G'.Perm G) : GoodG G' := ⟨by rw [p.length_eq]; exact g.l8, (p.map Prod.fst).nodup_iff.mpr g.nd, fun r hr => g.nm r (p.mem_iff.mp hr), fun r hr => g.sm r (p.mem_iff.mp hr)⟩
theorem perm_sum {a b : List Int} (h : a.Perm b) : a.sum = b.sum := by
  induction h with
  | nil => rfl
  | cons x _ ih => rw [List.sum_cons, List.sum_cons, ih]
  | swap x y l => simp only [List.sum_cons]; omega
  | trans _ _ h1 h2 => rw [h1, h2]
theorem erase_perm {α : Type} : ∀ {L : List α} {k : Nat} {x : α}, L[k]? = some x → (x :: L.eraseIdx k).Perm L
  | [], _, _, h => by cases h
  | y :: L, 0, _, h => by cases h; exact List.Perm.refl _
  | y :: L, k + 1, x, h => by
    have := erase_perm (L := L) (k := k) (x := x) h
    exact (List.Perm.swap y x _).trans (this.cons y)
theorem eraseIdx_take {α : Type} {L : List α} {k : Nat} {x : α} (h : L[k]? = some x) (R : List α) : (R ++ [x] ++ L.eraseIdx k).Perm (R ++ L) := by
  rw [List.append_assoc]
  exact List.Perm.append_left R (erase_perm h)
theorem srt_eq {xs ys : List Str} (h : ys.Perm xs) (nd : xs.Nodup) (s1 : sortedS xs = true) (s2 : sortedS ys = true) : ys = xs := by
  have p1 := sorted_pw s1 nd
  have p2 := sorted_pw s2 (h.nodup_iff.mpr nd)
  exact h.eq_of_pairwise (fun a b _ _ h1 h2 => absurd h2 (List.lt_asymm h1)) p2 p1
section
variable {P : Program} {w : World} {K : PySem.W.Frag} {mg : Str → Option Value} {base : Heap} {CH CT fE CW : Addr}
theorem strsL_same {H : Hp} {a b : Addr} {zs : List Str} {Q : VK} (ha : H a = some (.lst (zs.map V.str))) (hb : H b = some (.lst (zs.map V.str))) (oz : ∀ z ∈ zs, okL z) (q : Q (.bl false) H) : RqN K (.ref a) (.ref b) H Q :=
  have sh : SeqAt.shaped (.list (zs.map PyData.str)) = true := list_sh fun z hz => ⟨strOk_of (oz z hz).ok, by simp only [PyData.depth]; omega⟩
  ⟨⟨.list (zs.map PyData.str), .list (zs.map PyData.str), .lst (sqL ha) (strs_data zs), .lst (sqL hb) (strs_data zs), sh, sh, by
    rw [show PyData.eqv (.list (zs.map PyData.str)) (.list (zs.map PyData.str)) = true by unfold PyData.eqv; exact eqv_self (fun o => by simp [PyData.eqv]) zs]
    exact q⟩⟩
theorem rowsG_data {H : Hp} : ∀ {xs : List V} {G : List Gd}, A2 (RowG K H) xs G → DpAll K H xs (G.map goodD)
  | _, _, .nil => .nil
  | _, _, .cons ⟨a, e, h⟩ t => .cons (e ▸ .tup h (.cons (.str _) (.cons (.str _) (.cons (.int _) .nil)))) (rowsG_data t)
theorem left_nil {H : Hp} {a t : Addr} {xs : List V} {G : List Gd} {Q : VK} (ha : H a = some (.lst xs)) (hx : A2 (RowG K H) xs G) (nm : ∀ r ∈ G, Nm r.1 ∧ Nm r.2.1) (ht : H t = some (.lst [])) (q : Q (.bl (!decide (G = []))) H) : RqN K (.ref a) (.ref t) H Q :=
  have sh : SeqAt.shaped (.list (G.map goodD)) = true := list_sh fun r hr => by
    have a := strOk_of (hl_okL (nm r hr).1).ok
    have b := strOk_of (hl_okL (nm r hr).2).ok
    exact ⟨by simp only [goodD, PyData.canLay0, PyData.canLayAll0]; rw [a, b]; rfl, by simp only [goodD, PyData.depth, PyData.depthAll]; omega⟩
  ⟨⟨.list (G.map goodD), .list (([] : List Gd).map goodD), .lst (sqL ha) (rowsG_data hx), .lst (sqL ht) .nil, sh, rfl, by
    rw [show PyData.eqv (.list (G.map goodD)) (.list (([] : List Gd).map goodD)) = decide (G = []) by unfold PyData.eqv; exact eqv_map eqv_good G []]
    exact q⟩⟩
theorem goods_rqE {H : Hp} {v v' : V} {G G' : List Gd} {Q : VK} (h : GoodsAt K H v G) (h' : GoodsAt K H v' G') (g : GoodG G) (g' : GoodG G') (q : Q (.bl (decide (G = G'))) H) : RqE K v v' H Q :=
  ⟨⟨_, _, h.dp, h'.dp, good_sh g, good_sh g', by rw [show PyData.eqv (.tuple (G.map goodD)) (.tuple (G'.map goodD)) = decide (G = G') by unfold PyData.eqv; exact eqv_map eqv_good G G']; exact q⟩⟩
theorem rho_go {H : Hp} {Q : VK} {E : XK} {F : List (Str × Option Str)} {G : List Gd} {p d : Int} (gf : GoodF F) (gg : GoodG G) (pu : Pu p d) (q : ∀ H' o, Same H H' → HsAt K CH H' o F G p d → Q (.ref o) H') : spRHoX K CH CT [.str (Txt.join "\n" (linesT F G p d))] H Q E :=
  ⟨_, rfl, lines_TxL gf.pre gg.pre pu, .inr (.inr ⟨F, G, p, d, rfl, gf.pre, gg.pre, pu, (fun e => absurd gf.l1 (by rw [e]; decide)), (fun e => absurd gf.l1 (by rw [e]; decide)), (fun _ _ _ => q), (fun n hn => absurd hn (nodup_fd gf.nd)), fun _ _ n hn => absurd hn (nodup_fd gg.nd)⟩)⟩
theorem lines_sum {F : List (Str × Option Str)} {G : List Gd} {p d : Int} (gf : GoodF F) (gg : GoodG G) (pu : Pu p d) : ((linesT F G p d).map (·.length)).sum + (linesT F G p d).length * 1 ≤ 16777216 := by
  have tx := lines_TxL gf.pre gg.pre pu
  have := sum_le40 fun y hy => (tx.y y hy).2
  have := tx.l
  omega
theorem boot_sum9 : bootBuiltins "sum" = some (.builtin "sum") := by decide +kernel
def spTu (K : PySem.W.Frag) : Sp := fun vs H Q _ => ∃ (l : Addr) (v : V) (F : List (Str × Option Str)) (G : List Gd) (p d : Int), vs = [.ref l, v] ∧ PoolAt H l ∧ HT K H v F G p d ∧ ∀ H', Bt [l] H H' → PoolAt H' l → Q (.bl true) H'
theorem ok_tu {f fK fL fR fI : Addr} {fd fdK fdL fdR fdI : FuncData} {k : Nat} (B : Bi mg) (zS : mg "sorted" = none) (Z : HK P w K mg base CH (k + 4)) (D : Df K mg "_law_turned_right" sTu f fd ["_law_pool_here", "_law_home_here"]) (DK : Df K mg "_law_take" sTake fK fdK ["_law_pool_here", "_law_many"]) (GK : FnOk P w K mg base CX0 (k + 8) fK fdK ["_law_pool_here", "_law_many"] spTake)
    (DL : Df K mg "_law_lines" sLi fL fdL ["_law_home_here"]) (GL : FnOk P w K mg base CX0 (k + 8) fL fdL ["_law_home_here"] (spLi K)) (DR : Df K mg "read_house" sRHo fR fdR ["text"]) (GR : FnOk P w K mg base (L2.CX P w) (k + 8) fR fdR ["text"] (spRHoX K CH CT)) (DI : Df K mg "_law_is_house" sIs fI fdI ["_law_lines_here", "_law_home_here"]) (GI : FnOk P w K mg base CX0 (k + 8) fI fdI ["_law_lines_here", "_law_home_here"] (spIs K)) : FnOk P w K mg base CX0 (k + 9) f fd ["_law_pool_here", "_law_home_here"] (spTu K) := by
  have T := Z.T
  obtain ⟨fG, fdG, uG, MG, bG, vG, GG⟩ := Z.gds
  obtain ⟨fW, fdW, uW, MW, bW, vW, GW⟩ := Z.wor
  obtain ⟨fQ, fdQ, eQ, hQ, bQ, GQ⟩ := Z.eq
  refine D.fn.ok scTu (fun vs H Q E h => ?_) (fun cdv A outer s H vs Q E hr h => ?_)
  · obtain ⟨l, v, F, G, p, d, rfl, _⟩ := h
    rfl
  · obtain ⟨l, v, F, G, p, d, rfl, pool, ht, q⟩ := h
    have hu : _ + 64 < cLine := hr.units
    have r4 : Room (k + 4) _ := hr.mono (by omega)
    refine ⟨_, pss_cons (ps_asg (pv 1) (pg_tup rfl (pgs_cons (pg_name (i := 2) scTu.nd rfl (.inl rfl)) (pgs_cons (pg_name (i := 3) scTu.nd rfl (.inl rfl)) (pgs_cons (pg_name (i := 4) scTu.nd rfl (.inl rfl)) (pgs_cons (pg_name (i := 5) scTu.nd rfl (.inl rfl)) pgs_nil))))))
      (pss_cons (ps_par (i := 6) (j := 7) rfl scTu.nd rfl rfl (by decide) rfl rfl (pa_cons (pe_callTy call_list_of (by rfl) B.list boot_list (pa_cons (pv 3) pa_nil)) (pa_cons (pe_lst pa_nil) pa_nil)) (by rfl))
      (pss_cons (ps_while PassesOwn.never (pt_cmpR (r := RqN K) (op_rqN hu) (pv 6) (pe_lst pa_nil) (nomark _))
        (pss_one (ps_expr (pe_bm PySem.F.plainAttrs_list PySem.F.slot_list_append PySem.F.type_list_append mt_append (pv 7) (pa_cons (pe_bm PySem.F.plainAttrs_list PySem.F.slot_list_pop PySem.F.type_list_pop mt_popAt (pv 6) (pa_cons (pe_call GK hr (by rfl) DK.mg DK.fn.kp DK.bd .nil pass0 (pa_cons (pv 0) (pa_cons (pe_callB call_len_seq (by rfl) B.len PySem.boot_len (pa_cons (pv 6) pa_nil)) pa_nil))) pa_nil)) pa_nil)))))
      (pss_cons (ps_set (i := 8) scTu.nd rfl (.inl rfl) (pe_tup (pa_cons (pv 2) (pa_cons (pe_callTy call_tuple_of (by rfl) B.tuple boot_tuple (pa_cons (pv 7) pa_nil)) (pa_cons (pv 4) (pa_cons (pv 5) pa_nil))))))
      (pss_cons (ps_if (pt_not (pt_val (pe_call GI hr (by rfl) DI.mg DI.fn.kp DI.bd .nil pass0 (pa_cons (pe_call GL hr (by rfl) DL.mg DL.fn.kp DL.bd .nil pass0 (pa_cons (pv 8) pa_nil)) (pa_cons (pv 8) pa_nil))))) pss_noS pss_nil)
      (pss_cons (ps_set (i := 9) scTu.nd rfl (.inl rfl) (pe_callS GR hr (by rfl) DR.mg DR.fn.kp DR.bd (fun _ => passHw) (pa_cons (pe_join pe_str (pe_call GL hr (by rfl) DL.mg DL.fn.kp DL.bd .nil pass0 (pa_cons (pv 1) pa_nil))) pa_nil)))
      (pss_cons (ps_set (i := 10) scTu.nd rfl (.inl rfl) (pe_callS GR hr (by rfl) DR.mg DR.fn.kp DR.bd (fun _ => passHw) (pa_cons (pe_join pe_str (pe_call GL hr (by rfl) DL.mg DL.fn.kp DL.bd .nil pass0 (pa_cons (pv 8) pa_nil))) pa_nil)))
      (pss_cons (ps_if (pt_cmpR op_ne (pe_cmpR (op_eqO GQ eQ hQ bQ r4) (pv 9) (pv 10) (nomark _)) (pe_cmpR (r := RqE K) (op_rqE hu) (pe_callTy call_tuple_of (by rfl) B.tuple boot_tuple (pa_cons (pv 7) pa_nil)) (pv 3) (nomark _)) (nomark _)) pss_noS pss_nil)
      (pss_cons (ps_if (pt_cmpR (r := RqN K) (op_rqN hu) (pe_callB cr_sortedST (by rfl) zS (by decide +kernel) (pa_cons (pe_meth0 (pv 9) T.cl MG GG r4 bG vG pass0) pa_nil)) (pe_callB cr_sortedST (by rfl) zS (by decide +kernel) (pa_cons (pe_meth0 (pv 10) T.cl MG GG r4 bG vG pass0) pa_nil)) (nomark _)) pss_noS pss_nil)
      (pss_cons (ps_setLc (i := 13) (own := [("_law_some", 11)]) (g := gName 11) (tt := tYes) rfl scTu.nd rfl rfl (sw_true rfl rfl rfl (by decide +kernel)) (pi_list (pe_lst (pa_cons (pv 9) (pa_cons (pv 10) pa_nil)))) (blkOk_by (own := [("_law_some", 11)]) (N := nTu) (sc := defScope sTu) (by decide +kernel))
          (fun _ _ _ _ _ => pg_name (i := 11) scTu.nd rfl (Or.inr rfl)) (fun _ _ _ _ _ => pts_nil)
          (fun _ _ _ _ _ => pe_callB (r := rSum K) (cr_sum rfl) (by rfl) B.sum boot_sum9 (pa_cons (pe_lc (own := [("_law_ware", 12)]) (g := gName 12) (tt := tYes) (wi := iTup K (tMeth CH "goods" (spGds K CH) [.non, .non] E0 (tVar 11) tNil)) rfl scTu.nd (pi_tup (by exact pe_meth0 (pv 11) T.cl MG GG r4 bG vG pass0)) (blkOk_by (own := [("_law_ware", 12)]) (N := nTu) (sc := { kind := .function, names := [(".0", .local), ("_law_some", .cell), ("sum", .globalImplicit)], isGenerator := false, isCoroutine := false }) (by decide +kernel))
            (fun _ _ _ _ _ => pg_name (i := 12) scTu.nd rfl (Or.inl rfl)) (fun _ _ _ _ _ => pts_nil) (fun _ _ _ _ _ => pe_meth (pv 11) T.cl MW GW r4 bW vW pass0 (pa_cons (pv 12) pa_nil))) pa_nil)))
      (pss_one (ps_ret (pe_cmpR op_eq (pe_ix (r := rIxL K) ix_list (pv 13) pe_int (fun _ _ => rfl)) (pe_ix (r := rIxL K) ix_list (pv 13) pe_int (fun _ _ => rfl)) (nomark _))))))))))))), ?_⟩
    obtain ⟨hp, tf, tg, rfl, hh, hF, hG, gf, gg, pu⟩ := id ht
    obtain ⟨ys0, hg, hy0⟩ := goods_at2 hG
    have g8 := gg.l8
    refine ⟨_, rfl, hp, _, rfl, hh, rfl, _, _, rfl, _, _, rfl, _, _, rfl, _, _, rfl, rfl, ?_⟩
    refine ⟨_, rfl, tg, ys0, rfl, .inr hg, fun a na => ?_⟩
    have la : l ≠ a := pool.ne na
    have s1 : Same H (upd H a (.lst ys0)) := same_new na
    have ha1 : (upd H a (.lst ys0)) a = some (.lst ys0) := upd_same
    revert s1 ha1
    generalize upd H a (.lst ys0) = H1
    intro s1 ha1
    refine ⟨by show 0 ≤ sizeLine; decide, fun b nb => ⟨_, _, rfl, ?_⟩⟩
    have lb : l ≠ b := (pool.same s1).ne nb
    have ab : a ≠ b := fun e => by rw [e, nb] at ha1; cases ha1
    have nb0 : H b = none := by
      cases e : H b with
      | none => rfl
      | some x => rw [s1 _ _ e] at nb; cases nb
    have s2 : Same H1 (upd H1 b (.lst [])) := same_new nb
    have hb2 : (upd H1 b (.lst [])) b = some (.lst []) := upd_same
    revert s2 hb2
    generalize upd H1 b (.lst []) = H2
    intro s2 hb2
    have s02 := s1.trans s2
    refine while_by (fun σ H' => ∃ (xs ys : List V) (Gl Gr : List Gd), σ = [some (.ref l), some (.ref hp), some (.ref tf), some (.ref tg), some (.int p), some (.int d), some (.ref a), some (.ref b), none, none, none, none, none, none] ∧ H' a = some (.lst xs) ∧ H' b = some (.lst ys) ∧ A2 (RowG K H') xs Gl ∧ A2 (RowG K H') ys Gr ∧ (Gr ++ Gl).Perm G ∧ Bt [l] H H' ∧ PoolAt H' l)
      (fun _ H' => match H' a with | some (.lst xs) => xs.length | _ => 0) ⟨ys0, [], G, [], rfl, s2 _ _ ha1, hb2, rowG_tk hy0 (tk_same s02), .nil, List.Perm.refl _, Bt.of_same s02, pool.same s02⟩ ?_ ?_
    · rintro σ H3 ⟨xs, ys, Gl, Gr, rfl, ha3, hb3, hx, hy, pm, b3, pool3⟩
      have nmL : ∀ r ∈ Gl, Nm r.1 ∧ Nm r.2.1 := fun r hr => gg.nm r (pm.mem_iff.mp (List.mem_append_right _ hr))
      have ll := pm.length_eq
      rw [List.length_append] at ll
      have xl := hx.len
      have yl := hy.len
      refine ⟨_, rfl, by show 0 ≤ sizeLine; decide, fun t nt => ?_⟩
      have s4 : Same H3 (upd H3 t (.lst [])) := same_new nt
      refine left_nil (s4 _ _ ha3) (rowG_tk hx (tk_same s4)) nmL upd_same ⟨_, rfl, ?_⟩
      revert s4
      generalize upd H3 t (.lst []) = H4
      intro s4
      have ha4 := s4 _ _ ha3
      have hb4 := s4 _ _ hb3
      have pool4 := pool3.same s4
      by_cases ge : Gl = []
      rotate_left
      · -- one more
        rw [decide_eq_false ge]
        refine iteT ⟨_, rfl, .inl ⟨rfl, _, sqL hb4⟩, _, rfl, .inl ⟨rfl, _, sqL ha4⟩, _, rfl, _, rfl, a, _, rfl, .inl (sqL ha4), l, _, rfl, pool4, ?_, fun H5 d1 b5 pool5 d10 d11 => ?_⟩
        · have := List.length_pos_iff.mpr ge
          omega
        obtain ⟨kk, rfl⟩ := Int.eq_ofNat_of_zero_le d10
        have kl : kk < Gl.length := by omega
        obtain ⟨g, hgk⟩ : ∃ g, Gl[kk]? = some g := ⟨Gl[kk], List.getElem?_eq_getElem kl⟩
        obtain ⟨x, hxk, hr⟩ := hx.get2 hgk
        have ha5 := kept b5 ha4 (by simp [la.symm])
        have hb5 := kept b5 hb4 (by simp [lb.symm])
        have tk5 : Tk H3 H5 := (tk_same s4).trans (b5.tk pool4.lst)
        have tk6 : Tk H5 (upd H5 a (.lst (xs.eraseIdx kk))) := tk_lst ha5
        have hb6 : (upd H5 a (.lst (xs.eraseIdx kk))) b = some (.lst ys) := by rw [upd_ne ab.symm]; exact hb5
        have tk7 : Tk (upd H5 a (.lst (xs.eraseIdx kk))) (upd (upd H5 a (.lst (xs.eraseIdx kk))) b (.lst (ys ++ [x]))) := tk_lst hb6
        have tk37 := tk5.trans (tk6.trans tk7)
        have ha7 : (upd (upd H5 a (.lst (xs.eraseIdx kk))) b (.lst (ys ++ [x]))) a = some (.lst (xs.eraseIdx kk)) := by rw [upd_ne ab, upd_same]
        refine ⟨a, xs, _, kk, x, rfl, rfl, ha5, by omega, by omega, ?_, hxk, b, ys, x, rfl, rfl, hb6, small1000 (by omega), ⟨xs.eraseIdx kk, ys ++ [x], Gl.eraseIdx kk, Gr ++ [g], rfl, ha7, upd_same, rowG_tk (hx.erase kk) tk37, (rowG_tk hy tk37).snoc ?_, (eraseIdx_take hgk Gr).trans pm, ?_, ((pool5.upd la).upd lb)⟩, ?_⟩
        · have := seqIndex_of (show (0 : Int) ≤ ((kk : Nat) : Int) by omega) (show ((kk : Nat) : Int) < ((xs.length : Nat) : Int) by omega)
          simpa using this
        · obtain ⟨c, e1, e2⟩ := hr
          exact ⟨c, e1, tk37.sq e2⟩
        · exact (((b3.trans (Bt.of_same s4)).trans b5).upd0 na).upd0 nb0
        · show (match (upd (upd H5 a (.lst (xs.eraseIdx kk))) b (.lst (ys ++ [x]))) a with | some (.lst xs) => xs.length | _ => 0) < (match H3 a with | some (.lst xs) => xs.length | _ => 0)
          rw [ha7, ha3]
          show (xs.eraseIdx kk).length < xs.length
          rw [List.length_eraseIdx_of_lt (by omega)]
          omega
      -- all told
      rw [decide_eq_true ge]
      subst ge
      rw [List.append_nil] at pm
      have gr := gg.perm pm
      have tk04 : Tk H H4 := (b3.tk pool.lst).trans (tk_same s4)
      have hF4 := hF.tk tk04
      have hG4 := hG.tk tk04
      have ht4 := ht.tk tk04
      have hy4 := rowG_tk hy (tk_same s4)
      have b4 := b3.trans (Bt.of_same s4)
      refine iteF ⟨_, rfl, _, rfl, b, ys, rfl, .inl ⟨sqL hb4, fun tr ntr => ⟨_, rfl, _, rfl, by show 4 ≤ sizeLine; decide, fun tt ntt => ?_⟩⟩⟩
      have s5 : Same H4 (upd (upd H4 tr (.tup ys)) tt (.tup [.ref tf, .ref tr, .int p, .int d])) := (same_new ntr).trans (same_new ntt)
      have htt : HT K (upd (upd H4 tr (.tup ys)) tt (.tup [.ref tf, .ref tr, .int p, .int d])) (.ref tt) F Gr p d := ⟨tt, tf, tr, rfl, sqT upd_same, hF4.tk (tk_same s5), goods_of ((tk_new ntt).sq (sqT upd_same)) (rowG_tk hy4 (tk_same s5)), gf, gr, pu⟩
      revert s5 htt
      generalize upd (upd H4 tr (.tup ys)) tt (.tup [.ref tf, .ref tr, .int p, .int d]) = H5
      intro s5 htt
      refine ⟨_, rfl, _, F, Gr, p, d, rfl, htt.pt, fun H6 M s6 nM hM => ⟨_, rfl, M, _, F, Gr, p, d, rfl, hM, htt.tk (tk_same s6), fun H7 s7 => ⟨true, rfl, iteF ?_⟩⟩⟩
      have s57 := s6.trans s7
      have s47 := s5.trans s57
      refine ⟨⟨_, rfl⟩, _, rfl, _, F, G, p, d, rfl, (ht4.tk (tk_same s47)).pt, fun H8 N s8 nN hN => ⟨"\n", N, linesT F G p d, rfl, rfl, .inl (sqL hN), lines_sum gf gg pu, linesT F G p d, rfl, lines_TxL gf.pre gg.pre pu, .inr (.inr ⟨F, G, p, d, rfl, gf.pre, gg.pre, pu, (fun e => absurd gf.l1 (by rw [e]; decide)), (fun e => absurd gf.l1 (by rw [e]; decide)), (fun _ _ _ H9 o s9 ho => ?_), (fun n hn => absurd hn (nodup_fd gf.nd)), fun _ _ n hn => absurd hn (nodup_fd gg.nd)⟩)⟩⟩
      have s49 := s47.trans (s8.trans s9)
      refine ⟨⟨_, rfl⟩, _, rfl, _, F, Gr, p, d, rfl, (htt.tk (tk_same (s57.trans (s8.trans s9)))).pt, fun HA O sA nO hO => ⟨"\n", O, linesT F Gr p d, rfl, rfl, .inl (sqL hO), lines_sum gf gr pu, linesT F Gr p d, rfl, lines_TxL gf.pre gr.pre pu, .inr (.inr ⟨F, Gr, p, d, rfl, gf.pre, gr.pre, pu, (fun e => absurd gf.l1 (by rw [e]; decide)), (fun e => absurd gf.l1 (by rw [e]; decide)), (fun _ _ _ HB o' sB ho' => ?_), (fun n hn => absurd hn (nodup_fd gf.nd)), fun _ _ n hn => absurd hn (nodup_fd gr.nd)⟩)⟩⟩
      have s4B := s49.trans (sA.trans sB)
      have hoB := ho.same (sA.trans sB)
      obtain ⟨dx, v1, v2, eo⟩ := hoB.at
      obtain ⟨dx', v1', v2', eo'⟩ := ho'.at
      -- alike just where the goods are
      refine ⟨_, rfl, _, rfl, o, o', dx, dx', _, _, rfl, rfl, eo, eo', .inl ⟨o, o', F, F, G, Gr, p, p, d, d, rfl, hoB, ho', ?_⟩⟩
      refine ⟨_, rfl, _, rfl, b, ys, rfl, .inl ⟨sqL (s4B _ _ hb4), fun t5 n5 => ⟨_, rfl, ?_⟩⟩⟩
      have sC : Same HB (upd HB t5 (.tup ys)) := same_new n5
      have s4C := s4B.trans sC
      refine goods_rqE (goods_of (sqT upd_same) (rowG_tk hy4 (tk_same s4C))) (hG4.tk (tk_same s4C)) gr gg ⟨rfl, _, rfl, ?_⟩
      have hoC := hoB.same sC
      have hoC' := ho'.same sC
      revert sC s4C hoC hoC'
      generalize upd HB t5 (.tup ys) = HC
      intro sC s4C hoC hoC'
      rw [show (!decide (V.bl (id (sameB F F G Gr p p d d)) = V.bl (decide (Gr = G)))) = false by
        have : sameB F F G Gr p p d d = decide (Gr = G) := by
          unfold sameB
          by_cases c : Gr = G
          · rw [c]; simp
          · rw [decide_eq_false c, decide_eq_false (fun e : G = Gr => c e.symm)]; simp
        rw [show id (sameB F F G Gr p p d d) = sameB F F G Gr p p d d from rfl, this]
        simp]
      refine iteF ?_
      -- sorted names
      have eoC := sC _ _ eo
      have eoC' := sC _ _ eo'
      refine ⟨_, rfl, o, dx, _, rfl, eoC, rfl, o, F, G, p, d, rfl, hoC, fun HD t6 sD h6 => ⟨t6, G.map Prod.fst, rfl, h6, by rw [List.length_map]; omega, fun zs P1 pm1 srt1 nP1 => ?_⟩⟩
      have sE : Same HD (upd HD P1 (.lst (zs.map V.str))) := same_new nP1
      have hP1 : (upd HD P1 (.lst (zs.map V.str))) P1 = some (.lst (zs.map V.str)) := upd_same
      revert sE hP1
      generalize upd HD P1 (.lst (zs.map V.str)) = HE
      intro sE hP1
      have sCE := sD.trans sE
      refine ⟨_, rfl, o', dx', _, rfl, sCE _ _ eoC', rfl, o', F, Gr, p, d, rfl, hoC'.same sCE, fun HF' t7 sF h7 => ⟨t7, Gr.map Prod.fst, rfl, h7, by rw [List.length_map, pm.length_eq]; omega, fun ws P2 pm2 srt2 nP2 => ?_⟩⟩
      have ez : ws = zs := srt_eq ((pm2.trans (pm.map Prod.fst)).trans pm1.symm) (pm1.nodup_iff.mpr gg.nd) srt1 srt2
      have sG : Same HF' (upd HF' P2 (.lst (ws.map V.str))) := same_new nP2
      refine strsL_same (zs := zs) ((sF.trans sG) _ _ hP1) (by rw [upd_same, ez]) (fun z hz => fstG_okL gg z (pm1.mem_iff.mp hz)) ⟨_, rfl, iteF ?_⟩
      have sCG := sCE.trans (sF.trans sG)
      revert sCG
      generalize upd HF' P2 (.lst (ws.map V.str)) = HG
      intro sCG
      -- sums of worths
      have hoG := hoC.same sCG
      have hoG' := hoC'.same sCG
      have eoG := sCG _ _ eoC
      have eoG' := sCG _ _ eoC'
      refine ⟨_, rfl, _, rfl, by show 2 ≤ sizeLine; decide, fun L nL => ?_⟩
      have sH : Same HG (upd HG L (.lst [.ref o, .ref o'])) := same_new nL
      have hL : (upd HG L (.lst [.ref o, .ref o'])) L = some (.lst [.ref o, .ref o']) := upd_same
      revert sH hL
      generalize upd HG L (.lst [.ref o, .ref o']) = HH
      intro sH hL
      have fin : ∀ (HI : Hp), Same HH HI → Bt [l] H HI ∧ PoolAt HI l := fun HI s => ⟨b4.trans (Bt.of_same (s4C.trans (sCG.trans (sH.trans s)))), pool4.same (s4C.trans (sCG.trans (sH.trans s)))⟩
      have T9 : (Gr.map fun r => r.2.2).sum = (G.map fun r => r.2.2).sum := perm_sum (pm.map _)
      refine ⟨L, rfl, ⟨_, sqL hL⟩, fun S nS => lc_list (K := K) (a := L) (xs := [.ref o, .ref o']) (fun j H' => H' S = some (.lst ((List.replicate j ((G.map fun r => r.2.2).sum)).map V.int)) ∧ Same HH H') ⟨upd_same, same_new nS⟩ (fun j H' _ h => sqL (h.2 _ _ hL)) ?_ ?_⟩
      · rintro j x HI hx1 ⟨hS, sI⟩
        obtain ⟨c, dxc, fc, Gc, rfl, hc, ec, gc, sc⟩ : ∃ (c dxc : Addr) (fc : List (Str × V)) (Gc : List Gd), x = .ref c ∧ HsAt K CH HI c F Gc p d ∧ HI c = some (.ins CH dxc fc) ∧ GoodG Gc ∧ (Gc.map fun r => r.2.2).sum = (G.map fun r => r.2.2).sum := by
          match j, hx1 with
          | 0, h => cases h; exact ⟨o, dx, _, G, rfl, (hoG.same sH).same sI, sI _ _ (sH _ _ eoG), gg, rfl⟩
          | 1, h => cases h; exact ⟨o', dx', _, Gr, rfl, (hoG'.same sH).same sI, sI _ _ (sH _ _ eoG'), gr, T9⟩
          | j + 2, h => cases h
        have jl : j < 2 := lt_get hx1
        have c8 := gc.l8
        obtain ⟨dxd, w1, w2, ed⟩ := hc.at
        refine ⟨rfl, tyes (iteT ⟨_, rfl, c, dxd, _, rfl, ed, rfl, c, F, Gc, p, d, rfl, hc, fun HJ t sJ ht' => ⟨t, rfl, ⟨_, ht'⟩, fun L3 nL3 => lc_tup (K := K) (a := t) (xs := (Gc.map Prod.fst).map V.str) (fun i H' => H' L3 = some (.lst (((Gc.take i).map fun r => r.2.2).map V.int)) ∧ Same HJ H') ⟨upd_same, same_new nL3⟩ (fun i H' _ h => (tk_same h.2).sq ht') ?_ ?_⟩⟩)⟩
        · rintro i x HK2 hx2 ⟨hL3, sK⟩
          obtain ⟨r, hr, rfl⟩ : ∃ r, Gc[i]? = some r ∧ x = .str r.1 := by
            rw [List.getElem?_map, List.getElem?_map] at hx2
            cases hc' : Gc[i]? with
            | none => rw [hc'] at hx2; cases hx2
            | some r => rw [hc'] at hx2; cases hx2; exact ⟨r, rfl, rfl⟩
          have rm := List.mem_of_getElem? hr
          have il := lt_get hr
          refine ⟨rfl, tyes (iteT ⟨_, rfl, c, dxd, _, rfl, sK _ _ (sJ _ _ ed), rfl, _, rfl, c, r.1, F, Gc, p, d, rfl, (hc.same sJ).same sK, List.mem_map_of_mem rm, fun HL r' sL rm' re' => ?_⟩)⟩
          obtain rfl : r' = r := nodup_fst gc.nd rm' rm re'
          refine ⟨_, sL _ _ hL3, ?_, ?_, ((Bt.of_same (S := []) (sK.trans sL)).upd0 nL3).same⟩
          · rw [List.length_map, List.length_map, List.length_take]
            exact small1000 (by omega)
          · rw [upd_same, take_more hr, List.map_append, List.map_append]
            rfl
        · rintro HK2 ⟨hL3, sK⟩
          rw [List.length_map, List.length_map, List.take_length] at hL3
          have sIK := sJ.trans sK
          refine ⟨L3, _, rfl, sqL hL3, _, sIK _ _ hS, ?_, ?_, ((Bt.of_same (S := []) (sI.trans sIK)).upd0 nS).same⟩
          · rw [List.length_map, List.length_replicate]
            exact small1000 (by omega)
          · rw [upd_same, sc, List.replicate_succ', List.map_append]
            rfl
      · rintro HI ⟨hS, sI⟩
        obtain ⟨bI, pI⟩ := fin HI sI
        refine ⟨_, rfl, S, _, 0, _, rfl, rfl, sqL hS, atI_nat (j := 0) rfl, _, rfl, S, _, 1, _, rfl, rfl, sqL hS, atI_nat (j := 1) rfl, rfl, ?_⟩
        rw [decide_eq_true rfl]
        exact q HI bI pI
    · rintro σ H1 Q1 Q2 hq ⟨v, e, z, f⟩
      exact ⟨v, e, z, fun p np => by
        obtain ⟨⟨dd, ee, a1, a2, a3, a4, b, eb, zz⟩⟩ := f p np
        exact ⟨⟨dd, ee, a1, a2, a3, a4, b, eb, hq _ _ zz⟩⟩⟩
end
end WdQ

set_option Elab.async false
set_option linter.all false
set_option maxRecDepth 100000
set_option maxHeartbeats 4000000
set_option exponentiation.threshold 5000
namespace WdQ
open PySem PySem.Spec PyProof.Rows L2 WdM Wd
abbrev sLaw : Stmt := topS 55
def nL : List Str := ["_law_script", "_law_k", "_law_pool_here", "_law_more", "_law_home_here", "_law_other"]
theorem scLaw : FnScope nL ["_law_script"] (defScope sLaw) := ⟨rfl, rfl, rfl, by decide +kernel, rfl, by decide +kernel, by decide +kernel⟩
theorem rg2 {j : Int} (h1 : 1 ≤ j) (h2 : j ≤ 10) : RgC 0 j 2 (Builtin.Range.rangeSize 0 j 2).toNat ∧ (Builtin.Range.rangeSize 0 j 2).toNat ≤ 5 := by
  have all : ∀ m : Fin 11, Builtin.Range.small 0 ((m.val : Nat) : Int) 2 = true ∧ 0 ≤ Builtin.Range.rangeSize 0 ((m.val : Nat) : Int) 2 ∧ (Builtin.Range.rangeSize 0 ((m.val : Nat) : Int) 2).toNat ≤ 5 := by decide +kernel
  obtain ⟨m, rfl⟩ := Int.eq_ofNat_of_zero_le (show 0 ≤ j by omega)
  have := all ⟨m, by omega⟩
  exact ⟨⟨by decide, by decide, this.1, (Int.toNat_of_nonneg this.2.1).symm⟩, this.2.2⟩
theorem tx_none : TxL [""] := ⟨by simp, by decide, fun y hy => by
  rw [List.mem_singleton.mp hy]
  exact ⟨by decide +kernel, by decide⟩⟩
theorem Bt.two9 {l0 l : Addr} {H H' : Hp} (b : Bt [l] H H') : Bt [l0, l] H H' := fun c x hc e => b c x (fun m => hc (List.mem_cons_of_mem _ m)) e
theorem Bt.one9 {l0 l : Addr} {H H' : Hp} (b : Bt [l0] H H') : Bt [l0, l] H H' := fun c x hc e => b c x (fun m => hc (by rw [List.mem_singleton.mp m]; exact List.mem_cons_self)) e
section
variable {P : Program} {w : World} {K : PySem.W.Frag} {mg : Str → Option Value} {base : Heap}
theorem pool_bt {l l' : Addr} {H H' : Hp} (p : PoolAt H l) (n : l ≠ l') (b : Bt [l'] H H') : PoolAt H' l := by
  obtain ⟨z, e, r⟩ := p
  exact ⟨z, b _ _ (by simp [n]) e, r⟩
def spLaw (K : PySem.W.Frag) : Sp := fun vs H Q _ => ∃ (a : Addr) (ns : List Int), vs = [.ref a] ∧ SqL K H a (ns.map V.int) ∧ ns.length ≤ 63 ∧ ∀ H', Q (.bl true) H'
theorem ok_law {f fO fHo fG fB fT fR : Addr} {fd fdO fdHo fdG fdB fdT fdR : FuncData} (B : Bi mg) (D : Df K mg "law" sLaw f fd ["_law_script"])
    (DO : Df K mg "_law_pool" sPool fO fdO ["_law_script", "_law_k"]) (GO : FnOk P w K mg base CX0 10 fO fdO ["_law_script", "_law_k"] (spPool K)) (DHo : Df K mg "_law_home" sHome fHo fdHo ["_law_pool_here", "_law_most"]) (GHo : FnOk P w K mg base CX0 10 fHo fdHo ["_law_pool_here", "_law_most"] (spHome K 4))
    (DG : Df K mg "_law_grown_right" sGr fG fdG ["_law_home_here"]) (GG : FnOk P w K mg base CX0 10 fG fdG ["_law_home_here"] (spGr K)) (DB : Df K mg "_law_both_right" sBo fB fdB ["_law_home_here", "_law_other"]) (GB : FnOk P w K mg base CX0 10 fB fdB ["_law_home_here", "_law_other"] (spBo K))
    (DT : Df K mg "_law_turned_right" sTu fT fdT ["_law_pool_here", "_law_home_here"]) (GT : FnOk P w K mg base CX0 10 fT fdT ["_law_pool_here", "_law_home_here"] (spTu K)) (DR : Df K mg "_law_line_refused" sLr fR fdR ["_law_lines_here"]) (GR : FnOk P w K mg base CX0 10 fR fdR ["_law_lines_here"] (spLr K)) : FnOk P w K mg base CX0 11 f fd ["_law_script"] (spLaw K) := by
  refine D.fn.ok scLaw (fun vs H Q E h => ?_) (fun cdv A outer s H vs Q E hr h => ?_)
  · obtain ⟨a, ns, rfl, _⟩ := h
    rfl
  · obtain ⟨a, ns, rfl, hs, hlen, q⟩ := h
    refine ⟨_, pss_cons (ps_for PassesOwn.never rfl (pi_range3 (by rfl) B.range (pa_cons pe_int (pa_cons (pe_callB (call_max2 rfl) (by rfl) B.max (by decide +kernel) (pa_cons pe_int (pa_cons (pe_callB (call_min2 rfl) (by rfl) B.min (by decide +kernel) (pa_cons (pe_callB call_len_seq (by rfl) B.len PySem.boot_len (pa_cons (pv 0) pa_nil)) (pa_cons pe_int pa_nil))) pa_nil))) (pa_cons pe_int pa_nil)))) (pg_name (i := 1) scLaw.nd rfl (.inl rfl))
        (pss_cons (ps_par (i := 2) (j := 3) rfl scLaw.nd rfl rfl (by decide) rfl rfl (pa_cons (pe_call GO hr (by rfl) DO.mg DO.fn.kp DO.bd .nil pass0 (pa_cons (pv 0) (pa_cons (pv 1) pa_nil))) (pa_cons (pe_call GO hr (by rfl) DO.mg DO.fn.kp DO.bd .nil pass0 (pa_cons (pv 0) (pa_cons (pe_op op_add (pv 1) pe_int) pa_nil))) pa_nil)) (by rfl))
        (pss_cons (ps_par (i := 4) (j := 5) rfl scLaw.nd rfl rfl (by decide) rfl rfl (pa_cons (pe_call GHo hr (by rfl) DHo.mg DHo.fn.kp DHo.bd .nil pass0 (pa_cons (pv 2) (pa_cons pe_int pa_nil))) (pa_cons (pe_call GHo hr (by rfl) DHo.mg DHo.fn.kp DHo.bd .nil pass0 (pa_cons (pv 3) (pa_cons pe_int pa_nil))) pa_nil)) (by rfl))
        (pss_cons (ps_if (PW.pt (pw_or (pt_not (pt_val (pe_call GG hr (by rfl) DG.mg DG.fn.kp DG.bd .nil pass0 (pa_cons (pv 4) pa_nil)))) (pw_or1 (pt_not (pt_val (pe_call GB hr (by rfl) DB.mg DB.fn.kp DB.bd .nil pass0 (pa_cons (pv 4) (pa_cons (pv 5) pa_nil)))))))) pss_noS pss_nil)
        (pss_cons (ps_if (pt_not (pt_val (pe_call GT hr (by rfl) DT.mg DT.fn.kp DT.bd .nil pass0 (pa_cons (pv 3) (pa_cons (pv 4) pa_nil))))) pss_noS pss_nil)
        (pss_one (ps_if (PW.pt (pw_or (pt_not (pt_val (pe_call GB hr (by rfl) DB.mg DB.fn.kp DB.bd .nil pass0 (pa_cons (pv 5) (pa_cons (pv 4) pa_nil))))) (pw_or1 (pt_cmpR op_ne (pe_call GR hr (by rfl) DR.mg DR.fn.kp DR.bd .nil pass0 (pa_cons (pe_lst (pa_cons pe_str pa_nil)) pa_nil)) pe_int (nomark _))))) pss_noS pss_nil)))))))
      (pss_one (ps_ret pe_bl)), ?_⟩
    refine ⟨_, rfl, a, _, rfl, .inl hs, _, _, rfl, 4, _, rfl, 0, _, 2, _, rfl, (rg2 ?_ ?_).1, for_rangeC (lo := 0) (c := 2) (n := _) (fun i σ H' => (∃ y1 y2 y3 y4 y5 : Option V, σ = [some (.ref a), y1, y2, y3, y4, y5]) ∧ Same H H') ⟨⟨none, none, none, none, none, rfl⟩, Same.refl H⟩ ?_ ?_⟩
    · split <;> (try split) <;> omega
    · rw [List.length_map]
      split <;> (try split) <;> omega
    rotate_left
    · rintro σ H1 ⟨⟨y1, y2, y3, y4, y5, rfl⟩, s1⟩
      exact q H1
    · rintro i σ H1 hi ⟨⟨y1, y2, y3, y4, y5, rfl⟩, s1⟩
      have i5 : i < 5 := by
        refine Nat.lt_of_lt_of_le hi (rg2 ?_ ?_).2
        · split <;> (try split) <;> omega
        · rw [List.length_map]
          split <;> (try split) <;> omega
      refine ⟨_, rfl, _, rfl, a, ns, _, rfl, s1.seq hs, by omega, by omega, fun H2 l s2 nl pool => ?_⟩
      refine ⟨_, rfl, _, rfl, _, 1, rfl, rfl, a, ns, _, rfl, (s1.trans s2).seq hs, by omega, by omega, fun H3 m s3 nm poolm => ⟨_, _, rfl, ?_⟩⟩
      have lm : l ≠ m := pool.ne nm
      have pool3 := pool.same s3
      refine ⟨_, rfl, l, rfl, pool3, fun H4 hp tp tg pu de F G b4 pool4 hh hF gf f4 hG gg g4 p0 p1 d0 d1 => ?_⟩
      have ht : HT K H4 (.ref hp) F G pu de := ⟨hp, tp, tg, rfl, hh, hF, hG, gf, gg, p0, p1, d0, d1⟩
      have poolm4 := pool_bt poolm lm.symm b4
      refine ⟨_, rfl, m, rfl, poolm4, fun H5 hp' tp' tg' pu' de' F' G' b5 poolm5 hh' hF' gf' f4' hG' gg' g4' p0' p1' d0' d1' => ⟨_, _, rfl, ?_⟩⟩
      have ht5 := ht.tk (b5.tk poolm4.lst)
      have ht' : HT K H5 (.ref hp') F' G' pu' de' := ⟨hp', tp', tg', rfl, hh', hF', hG', gf', gg', p0', p1', d0', d1'⟩
      refine ⟨_, rfl, _, F, G, pu, de, rfl, ht5, fun H6 s6 => ⟨true, rfl, iteF ?_⟩⟩
      refine ⟨_, rfl, _, rfl, _, _, F, F', G, G', pu, pu', de, de', rfl, ht5.tk (tk_same s6), ht'.tk (tk_same s6), by omega, by omega, by omega, by omega, fun H7 s7 => ⟨true, rfl, iteF ?_⟩⟩
      have s57 := s6.trans s7
      have poolm7 := poolm5.same s57
      refine ⟨_, rfl, _, rfl, m, _, F, G, pu, de, rfl, poolm7, ht5.tk (tk_same s57), fun H8 b8 poolm8 => ⟨true, rfl, iteF ?_⟩⟩
      have tk58 : Tk H5 H8 := (tk_same s57).trans (b8.tk poolm7.lst)
      refine ⟨_, rfl, _, rfl, _, _, F', F, G', G, pu', pu, de', de, rfl, ht'.tk tk58, ht5.tk tk58, by omega, by omega, by omega, by omega, fun H9 s9 => ⟨true, rfl, iteF ?_⟩⟩
      refine ⟨by show 1 ≤ sizeLine; decide, fun M nM => ⟨M, [""], 0, rfl, upd_same, tx_none, .inl ⟨rfl, rfl⟩, fun HA sA => ⟨rfl, _, rfl, ?_⟩⟩⟩
      rw [show (!decide (V.int 0 = V.int 0)) = false by simp]
      refine iteF ⟨⟨_, _, _, _, _, rfl⟩, s1.trans fun c x e => ?_⟩
      have e2 := s2 c x e
      have e3 := s3 c x e2
      have cl : c ≠ l := ne_of_none e nl
      have cm : c ≠ m := ne_of_none e2 nm
      exact sA c x (same_new nM c x (s9 c x (b8 c x (by simp [cm]) (s57 c x (b5 c x (by simp [cm]) (b4 c x (by simp [cl]) e3))))))
end
end WdQ

set_option Elab.async false
set_option linter.all false
set_option maxRecDepth 100000
set_option maxHeartbeats 4000000
namespace WdQ
open PySem PySem.Spec PyProof.Rows L2 WdM Wd
theorem factsN {P : Program} {w : World} {K : PySem.W.Frag} {h : Heap} {mg : Str → Option Value} {f : Addr} (X : K.In h) (G : h.Ns mainGlobals mg) (hfa : mg "law" = some (.ref f)) (c : SaysW asksN defsN K) :
    ∃ fd : FuncData, (∀ (s : Shared) (v : Value), BindsTo s fd ⟨[v], []⟩ [("_law_script", v)]) ∧ ∀ base : Heap, K.In base → base.Ns mainGlobals mg → FnOk P w K mg base CX0 11 f fd ["_law_script"] (spLaw K) := by
  have a1 : PySem.W.nsIn K mainGlobals "is_name" = some (some (.ref (He.ga K "is_name"))) := of_decide_eq_true (c.ask 0 rfl)
  obtain ⟨fd1, FF1⟩ := c.def_ 0 rfl
  have F1 : L2.Fun K "is_name" "is_name" sName (He.ga K "is_name") fd1 := fun_of FF1
  have D1 : Df K mg "is_name" sName (He.ga K "is_name") fd1 ["thing"] := ⟨F1, PySem.W.mg_of X G a1, F1.binds (ps := ["thing"]) fun _ _ _ _ _ _ us hl => match us, hl with | [_], _ => rfl⟩
  have a2 : PySem.W.nsIn K mainGlobals "is_word" = some (some (.ref (He.ga K "is_word"))) := of_decide_eq_true (c.ask 1 rfl)
  obtain ⟨fd2, FF2⟩ := c.def_ 1 rfl
  have F2 : L2.Fun K "is_word" "is_word" sWord (He.ga K "is_word") fd2 := fun_of FF2
  have D2 : Df K mg "is_word" sWord (He.ga K "is_word") fd2 ["thing", "words"] := ⟨F2, PySem.W.mg_of X G a2, F2.binds (ps := ["thing", "words"]) fun _ _ _ _ _ _ us hl => match us, hl with | [_, _], _ => rfl⟩
  have a3 : PySem.W.nsIn K mainGlobals "is_whole" = some (some (.ref (He.ga K "is_whole"))) := of_decide_eq_true (c.ask 2 rfl)
  obtain ⟨fd3, FF3⟩ := c.def_ 2 rfl
  have F3 : L2.Fun K "is_whole" "is_whole" sWhole (He.ga K "is_whole") fd3 := fun_of FF3
  have D3 : Df K mg "is_whole" sWhole (He.ga K "is_whole") fd3 ["thing"] := ⟨F3, PySem.W.mg_of X G a3, F3.binds (ps := ["thing"]) fun _ _ _ _ _ _ us hl => match us, hl with | [_], _ => rfl⟩
  have a4 : PySem.W.nsIn K mainGlobals "is_sum" = some (some (.ref (He.ga K "is_sum"))) := of_decide_eq_true (c.ask 3 rfl)
  obtain ⟨fd4, FF4⟩ := c.def_ 3 rfl
  have F4 : L2.Fun K "is_sum" "is_sum" sSum (He.ga K "is_sum") fd4 := fun_of FF4
  have D4 : Df K mg "is_sum" sSum (He.ga K "is_sum") fd4 ["thing"] := ⟨F4, PySem.W.mg_of X G a4, F4.binds (ps := ["thing"]) fun _ _ _ _ _ _ us hl => match us, hl with | [_], _ => rfl⟩
  have a5 : PySem.W.nsIn K mainGlobals "is_person" = some (some (.ref (He.ga K "is_person"))) := of_decide_eq_true (c.ask 4 rfl)
  obtain ⟨fd5, FF5⟩ := c.def_ 4 rfl
  have F5 : L2.Fun K "is_person" "is_person" sPerson (He.ga K "is_person") fd5 := fun_of FF5
  have D5 : Df K mg "is_person" sPerson (He.ga K "is_person") fd5 ["thing", "ahead"] := ⟨F5, PySem.W.mg_of X G a5, F5.binds (ps := ["thing", "ahead"]) fun _ _ _ _ _ _ us hl => match us, hl with | [_, _], _ => rfl⟩
  have a6 : PySem.W.nsIn K mainGlobals "check_people" = some (some (.ref (He.ga K "check_people"))) := of_decide_eq_true (c.ask 5 rfl)
  obtain ⟨fd6, FF6⟩ := c.def_ 5 rfl
  have F6 : L2.Fun K "check_people" "check_people" sChkP (He.ga K "check_people") fd6 := fun_of FF6
  have D6 : Df K mg "check_people" sChkP (He.ga K "check_people") fd6 ["people"] := ⟨F6, PySem.W.mg_of X G a6, F6.binds (ps := ["people"]) fun _ _ _ _ _ _ us hl => match us, hl with | [_], _ => rfl⟩
  have a7 : PySem.W.nsIn K mainGlobals "is_good" = some (some (.ref (He.ga K "is_good"))) := of_decide_eq_true (c.ask 6 rfl)
  obtain ⟨fd7, FF7⟩ := c.def_ 6 rfl
  have F7 : L2.Fun K "is_good" "is_good" sGood (He.ga K "is_good") fd7 := fun_of FF7
  have D7 : Df K mg "is_good" sGood (He.ga K "is_good") fd7 ["thing", "ahead"] := ⟨F7, PySem.W.mg_of X G a7, F7.binds (ps := ["thing", "ahead"]) fun _ _ _ _ _ _ us hl => match us, hl with | [_, _], _ => rfl⟩
  have a8 : PySem.W.nsIn K mainGlobals "check_goods" = some (some (.ref (He.ga K "check_goods"))) := of_decide_eq_true (c.ask 7 rfl)
  obtain ⟨fd8, FF8⟩ := c.def_ 7 rfl
  have F8 : L2.Fun K "check_goods" "check_goods" sChkG (He.ga K "check_goods") fd8 := fun_of FF8
  have D8 : Df K mg "check_goods" sChkG (He.ga K "check_goods") fd8 ["goods"] := ⟨F8, PySem.W.mg_of X G a8, F8.binds (ps := ["goods"]) fun _ _ _ _ _ _ us hl => match us, hl with | [_], _ => rfl⟩
  have a9 : PySem.W.nsIn K mainGlobals "row_named" = some (some (.ref (He.ga K "row_named"))) := of_decide_eq_true (c.ask 8 rfl)
  obtain ⟨fd9, FF9⟩ := c.def_ 8 rfl
  have F9 : L2.Fun K "row_named" "row_named" sRow (He.ga K "row_named") fd9 := fun_of FF9
  have D9 : Df K mg "row_named" sRow (He.ga K "row_named") fd9 ["rows", "name"] := ⟨F9, PySem.W.mg_of X G a9, F9.binds (ps := ["rows", "name"]) fun _ _ _ _ _ _ us hl => match us, hl with | [_, _], _ => rfl⟩
  have a10 : PySem.W.nsIn K mainGlobals "person_line" = some (some (.ref (He.ga K "person_line"))) := of_decide_eq_true (c.ask 9 rfl)
  obtain ⟨fd10, FF10⟩ := c.def_ 9 rfl
  have F10 : L2.Fun K "person_line" "person_line" sPLn (He.ga K "person_line") fd10 := fun_of FF10
  have D10 : Df K mg "person_line" sPLn (He.ga K "person_line") fd10 ["name", "parent"] := ⟨F10, PySem.W.mg_of X G a10, F10.binds (ps := ["name", "parent"]) fun _ _ _ _ _ _ us hl => match us, hl with | [_, _], _ => rfl⟩
  have a11 : PySem.W.nsIn K mainGlobals "read_number" = some (some (.ref (He.ga K "read_number"))) := of_decide_eq_true (c.ask 10 rfl)
  obtain ⟨fd11, FF11⟩ := c.def_ 10 rfl
  have F11 : L2.Fun K "read_number" "read_number" sRNum (He.ga K "read_number") fd11 := fun_of FF11
  have D11 : Df K mg "read_number" sRNum (He.ga K "read_number") fd11 ["word"] := ⟨F11, PySem.W.mg_of X G a11, F11.binds (ps := ["word"]) fun _ _ _ _ _ _ us hl => match us, hl with | [_], _ => rfl⟩
  have a12 : PySem.W.nsIn K mainGlobals "read_amount" = some (some (.ref (He.ga K "read_amount"))) := of_decide_eq_true (c.ask 11 rfl)
  obtain ⟨fd12, FF12⟩ := c.def_ 11 rfl
  have F12 : L2.Fun K "read_amount" "read_amount" sRAm (He.ga K "read_amount") fd12 := fun_of FF12
  have D12 : Df K mg "read_amount" sRAm (He.ga K "read_amount") fd12 ["rows", "line", "word"] := ⟨F12, PySem.W.mg_of X G a12, F12.binds (ps := ["rows", "line", "word"]) fun _ _ _ _ _ _ us hl => match us, hl with | [_, _, _], _ => rfl⟩
  have a13 : PySem.W.nsIn K mainGlobals "read_person" = some (some (.ref (He.ga K "read_person"))) := of_decide_eq_true (c.ask 12 rfl)
  obtain ⟨fd13, FF13⟩ := c.def_ 12 rfl
  have F13 : L2.Fun K "read_person" "read_person" sRPe (He.ga K "read_person") fd13 := fun_of FF13
  have D13 : Df K mg "read_person" sRPe (He.ga K "read_person") fd13 ["words"] := ⟨F13, PySem.W.mg_of X G a13, F13.binds (ps := ["words"]) fun _ _ _ _ _ _ us hl => match us, hl with | [_], _ => rfl⟩
  have a14 : PySem.W.nsIn K mainGlobals "read_thing" = some (some (.ref (He.ga K "read_thing"))) := of_decide_eq_true (c.ask 13 rfl)
  obtain ⟨fd14, FF14⟩ := c.def_ 13 rfl
  have F14 : L2.Fun K "read_thing" "read_thing" sRTh (He.ga K "read_thing") fd14 := fun_of FF14
  have D14 : Df K mg "read_thing" sRTh (He.ga K "read_thing") fd14 ["words"] := ⟨F14, PySem.W.mg_of X G a14, F14.binds (ps := ["words"]) fun _ _ _ _ _ _ us hl => match us, hl with | [_], _ => rfl⟩
  have a15 : PySem.W.nsIn K mainGlobals "read_people" = some (some (.ref (He.ga K "read_people"))) := of_decide_eq_true (c.ask 14 rfl)
  obtain ⟨fd15, FF15⟩ := c.def_ 14 rfl
  have F15 : L2.Fun K "read_people" "read_people" sRPp (He.ga K "read_people") fd15 := fun_of FF15
  have D15 : Df K mg "read_people" sRPp (He.ga K "read_people") fd15 ["rows"] := ⟨F15, PySem.W.mg_of X G a15, F15.binds (ps := ["rows"]) fun _ _ _ _ _ _ us hl => match us, hl with | [_], _ => rfl⟩
  have a16 : PySem.W.nsIn K mainGlobals "read_goods" = some (some (.ref (He.ga K "read_goods"))) := of_decide_eq_true (c.ask 15 rfl)
  obtain ⟨fd16, FF16⟩ := c.def_ 15 rfl
  have F16 : L2.Fun K "read_goods" "read_goods" sRGo (He.ga K "read_goods") fd16 := fun_of FF16
  have D16 : Df K mg "read_goods" sRGo (He.ga K "read_goods") fd16 ["rows", "first"] := ⟨F16, PySem.W.mg_of X G a16, F16.binds (ps := ["rows", "first"]) fun _ _ _ _ _ _ us hl => match us, hl with | [_, _], _ => rfl⟩
  have a17 : PySem.W.nsIn K mainGlobals "read_house" = some (some (.ref (He.ga K "read_house"))) := of_decide_eq_true (c.ask 16 rfl)
  obtain ⟨fd17, FF17⟩ := c.def_ 16 rfl
  have F17 : L2.Fun K "read_house" "read_house" sRHo (He.ga K "read_house") fd17 := fun_of FF17
  have D17 : Df K mg "read_house" sRHo (He.ga K "read_house") fd17 ["text"] := ⟨F17, PySem.W.mg_of X G a17, F17.binds (ps := ["text"]) fun _ _ _ _ _ _ us hl => match us, hl with | [_], _ => rfl⟩
  have a18 : PySem.W.nsIn K mainGlobals "show_house" = some (some (.ref (He.ga K "show_house"))) := of_decide_eq_true (c.ask 17 rfl)
  obtain ⟨fd18, FF18⟩ := c.def_ 17 rfl
  have F18 : L2.Fun K "show_house" "show_house" sSHo (He.ga K "show_house") fd18 := fun_of FF18
  have D18 : Df K mg "show_house" sSHo (He.ga K "show_house") fd18 ["house"] := ⟨F18, PySem.W.mg_of X G a18, F18.binds (ps := ["house"]) fun _ _ _ _ _ _ us hl => match us, hl with | [_], _ => rfl⟩
  have a19 : PySem.W.nsIn K mainGlobals "_law_pool" = some (some (.ref (He.ga K "_law_pool"))) := of_decide_eq_true (c.ask 18 rfl)
  obtain ⟨fd19, FF19⟩ := c.def_ 18 rfl
  have F19 : L2.Fun K "_law_pool" "_law_pool" sPool (He.ga K "_law_pool") fd19 := fun_of FF19
  have D19 : Df K mg "_law_pool" sPool (He.ga K "_law_pool") fd19 ["_law_script", "_law_k"] := ⟨F19, PySem.W.mg_of X G a19, F19.binds (ps := ["_law_script", "_law_k"]) fun _ _ _ _ _ _ us hl => match us, hl with | [_, _], _ => rfl⟩
  have a20 : PySem.W.nsIn K mainGlobals "_law_take" = some (some (.ref (He.ga K "_law_take"))) := of_decide_eq_true (c.ask 19 rfl)
  obtain ⟨fd20, FF20⟩ := c.def_ 19 rfl
  have F20 : L2.Fun K "_law_take" "_law_take" sTake (He.ga K "_law_take") fd20 := fun_of FF20
  have D20 : Df K mg "_law_take" sTake (He.ga K "_law_take") fd20 ["_law_pool_here", "_law_many"] := ⟨F20, PySem.W.mg_of X G a20, F20.binds (ps := ["_law_pool_here", "_law_many"]) fun _ _ _ _ _ _ us hl => match us, hl with | [_, _], _ => rfl⟩
  have a21 : PySem.W.nsIn K mainGlobals "_law_words" = some (some (.ref (He.ga K "_law_words"))) := of_decide_eq_true (c.ask 20 rfl)
  obtain ⟨fd21, FF21⟩ := c.def_ 20 rfl
  have F21 : L2.Fun K "_law_words" "_law_words" sWords (He.ga K "_law_words") fd21 := fun_of FF21
  have D21 : Df K mg "_law_words" sWords (He.ga K "_law_words") fd21 ["_law_pool_here", "_law_many"] := ⟨F21, PySem.W.mg_of X G a21, F21.binds (ps := ["_law_pool_here", "_law_many"]) fun _ _ _ _ _ _ us hl => match us, hl with | [_, _], _ => rfl⟩
  have a22 : PySem.W.nsIn K mainGlobals "_law_home" = some (some (.ref (He.ga K "_law_home"))) := of_decide_eq_true (c.ask 21 rfl)
  obtain ⟨fd22, FF22⟩ := c.def_ 21 rfl
  have F22 : L2.Fun K "_law_home" "_law_home" sHome (He.ga K "_law_home") fd22 := fun_of FF22
  have D22 : Df K mg "_law_home" sHome (He.ga K "_law_home") fd22 ["_law_pool_here", "_law_most"] := ⟨F22, PySem.W.mg_of X G a22, F22.binds (ps := ["_law_pool_here", "_law_most"]) fun _ _ _ _ _ _ us hl => match us, hl with | [_, _], _ => rfl⟩
  have a23 : PySem.W.nsIn K mainGlobals "_law_folk_lines" = some (some (.ref (He.ga K "_law_folk_lines"))) := of_decide_eq_true (c.ask 22 rfl)
  obtain ⟨fd23, FF23⟩ := c.def_ 22 rfl
  have F23 : L2.Fun K "_law_folk_lines" "_law_folk_lines" sFl (He.ga K "_law_folk_lines") fd23 := fun_of FF23
  have D23 : Df K mg "_law_folk_lines" sFl (He.ga K "_law_folk_lines") fd23 ["_law_crowd"] := ⟨F23, PySem.W.mg_of X G a23, F23.binds (ps := ["_law_crowd"]) fun _ _ _ _ _ _ us hl => match us, hl with | [_], _ => rfl⟩
  have a24 : PySem.W.nsIn K mainGlobals "_law_ware_lines" = some (some (.ref (He.ga K "_law_ware_lines"))) := of_decide_eq_true (c.ask 23 rfl)
  obtain ⟨fd24, FF24⟩ := c.def_ 23 rfl
  have F24 : L2.Fun K "_law_ware_lines" "_law_ware_lines" sWl (He.ga K "_law_ware_lines") fd24 := fun_of FF24
  have D24 : Df K mg "_law_ware_lines" sWl (He.ga K "_law_ware_lines") fd24 ["_law_store"] := ⟨F24, PySem.W.mg_of X G a24, F24.binds (ps := ["_law_store"]) fun _ _ _ _ _ _ us hl => match us, hl with | [_], _ => rfl⟩
  have a25 : PySem.W.nsIn K mainGlobals "_law_lines" = some (some (.ref (He.ga K "_law_lines"))) := of_decide_eq_true (c.ask 24 rfl)
  obtain ⟨fd25, FF25⟩ := c.def_ 24 rfl
  have F25 : L2.Fun K "_law_lines" "_law_lines" sLi (He.ga K "_law_lines") fd25 := fun_of FF25
  have D25 : Df K mg "_law_lines" sLi (He.ga K "_law_lines") fd25 ["_law_home_here"] := ⟨F25, PySem.W.mg_of X G a25, F25.binds (ps := ["_law_home_here"]) fun _ _ _ _ _ _ us hl => match us, hl with | [_], _ => rfl⟩
  have a26 : PySem.W.nsIn K mainGlobals "_law_line_refused" = some (some (.ref (He.ga K "_law_line_refused"))) := of_decide_eq_true (c.ask 25 rfl)
  obtain ⟨fd26, FF26⟩ := c.def_ 25 rfl
  have F26 : L2.Fun K "_law_line_refused" "_law_line_refused" sLr (He.ga K "_law_line_refused") fd26 := fun_of FF26
  have D26 : Df K mg "_law_line_refused" sLr (He.ga K "_law_line_refused") fd26 ["_law_lines_here"] := ⟨F26, PySem.W.mg_of X G a26, F26.binds (ps := ["_law_lines_here"]) fun _ _ _ _ _ _ us hl => match us, hl with | [_], _ => rfl⟩
  have a27 : PySem.W.nsIn K mainGlobals "_law_is_house" = some (some (.ref (He.ga K "_law_is_house"))) := of_decide_eq_true (c.ask 26 rfl)
  obtain ⟨fd27, FF27⟩ := c.def_ 26 rfl
  have F27 : L2.Fun K "_law_is_house" "_law_is_house" sIs (He.ga K "_law_is_house") fd27 := fun_of FF27
  have D27 : Df K mg "_law_is_house" sIs (He.ga K "_law_is_house") fd27 ["_law_lines_here", "_law_home_here"] := ⟨F27, PySem.W.mg_of X G a27, F27.binds (ps := ["_law_lines_here", "_law_home_here"]) fun _ _ _ _ _ _ us hl => match us, hl with | [_, _], _ => rfl⟩
  have a28 : PySem.W.nsIn K mainGlobals "_law_grown_right" = some (some (.ref (He.ga K "_law_grown_right"))) := of_decide_eq_true (c.ask 27 rfl)
  obtain ⟨fd28, FF28⟩ := c.def_ 27 rfl
  have F28 : L2.Fun K "_law_grown_right" "_law_grown_right" sGr (He.ga K "_law_grown_right") fd28 := fun_of FF28
  have D28 : Df K mg "_law_grown_right" sGr (He.ga K "_law_grown_right") fd28 ["_law_home_here"] := ⟨F28, PySem.W.mg_of X G a28, F28.binds (ps := ["_law_home_here"]) fun _ _ _ _ _ _ us hl => match us, hl with | [_], _ => rfl⟩
  have a29 : PySem.W.nsIn K mainGlobals "_law_first_twice" = some (some (.ref (He.ga K "_law_first_twice"))) := of_decide_eq_true (c.ask 28 rfl)
  obtain ⟨fd29, FF29⟩ := c.def_ 28 rfl
  have F29 : L2.Fun K "_law_first_twice" "_law_first_twice" sFt (He.ga K "_law_first_twice") fd29 := fun_of FF29
  have D29 : Df K mg "_law_first_twice" sFt (He.ga K "_law_first_twice") fd29 ["_law_words_here"] := ⟨F29, PySem.W.mg_of X G a29, F29.binds (ps := ["_law_words_here"]) fun _ _ _ _ _ _ us hl => match us, hl with | [_], _ => rfl⟩
  have a30 : PySem.W.nsIn K mainGlobals "_law_both_right" = some (some (.ref (He.ga K "_law_both_right"))) := of_decide_eq_true (c.ask 29 rfl)
  obtain ⟨fd30, FF30⟩ := c.def_ 29 rfl
  have F30 : L2.Fun K "_law_both_right" "_law_both_right" sBo (He.ga K "_law_both_right") fd30 := fun_of FF30
  have D30 : Df K mg "_law_both_right" sBo (He.ga K "_law_both_right") fd30 ["_law_home_here", "_law_other"] := ⟨F30, PySem.W.mg_of X G a30, F30.binds (ps := ["_law_home_here", "_law_other"]) fun _ _ _ _ _ _ us hl => match us, hl with | [_, _], _ => rfl⟩
  have a31 : PySem.W.nsIn K mainGlobals "_law_turned_right" = some (some (.ref (He.ga K "_law_turned_right"))) := of_decide_eq_true (c.ask 30 rfl)
  obtain ⟨fd31, FF31⟩ := c.def_ 30 rfl
  have F31 : L2.Fun K "_law_turned_right" "_law_turned_right" sTu (He.ga K "_law_turned_right") fd31 := fun_of FF31
  have D31 : Df K mg "_law_turned_right" sTu (He.ga K "_law_turned_right") fd31 ["_law_pool_here", "_law_home_here"] := ⟨F31, PySem.W.mg_of X G a31, F31.binds (ps := ["_law_pool_here", "_law_home_here"]) fun _ _ _ _ _ _ us hl => match us, hl with | [_, _], _ => rfl⟩
  have a32 : PySem.W.nsIn K mainGlobals "law" = some (some (.ref (He.ga K "law"))) := of_decide_eq_true (c.ask 31 rfl)
  obtain ⟨fd32, FF32⟩ := c.def_ 31 rfl
  have F32 : L2.Fun K "law" "law" sLaw (He.ga K "law") fd32 := fun_of FF32
  have D32 : Df K mg "law" sLaw (He.ga K "law") fd32 ["_law_script"] := ⟨F32, PySem.W.mg_of X G a32, F32.binds (ps := ["_law_script"]) fun _ _ _ _ _ _ us hl => match us, hl with | [_], _ => rfl⟩
  have z_isinstance : PySem.W.nsIn K mainGlobals "isinstance" = some none := of_decide_eq_true (c.ask 32 rfl)
  have z_int : PySem.W.nsIn K mainGlobals "int" = some none := of_decide_eq_true (c.ask 33 rfl)
  have z_bool : PySem.W.nsIn K mainGlobals "bool" = some none := of_decide_eq_true (c.ask 34 rfl)
  have z_str : PySem.W.nsIn K mainGlobals "str" = some none := of_decide_eq_true (c.ask 35 rfl)
  have z_tuple : PySem.W.nsIn K mainGlobals "tuple" = some none := of_decide_eq_true (c.ask 36 rfl)
  have z_list : PySem.W.nsIn K mainGlobals "list" = some none := of_decide_eq_true (c.ask 37 rfl)
  have z_len : PySem.W.nsIn K mainGlobals "len" = some none := of_decide_eq_true (c.ask 38 rfl)
  have z_abs : PySem.W.nsIn K mainGlobals "abs" = some none := of_decide_eq_true (c.ask 39 rfl)
  have z_all : PySem.W.nsIn K mainGlobals "all" = some none := of_decide_eq_true (c.ask 40 rfl)
  have z_any : PySem.W.nsIn K mainGlobals "any" = some none := of_decide_eq_true (c.ask 41 rfl)
  have z_sum : PySem.W.nsIn K mainGlobals "sum" = some none := of_decide_eq_true (c.ask 42 rfl)
  have z_enumerate : PySem.W.nsIn K mainGlobals "enumerate" = some none := of_decide_eq_true (c.ask 43 rfl)
  have z_divmod : PySem.W.nsIn K mainGlobals "divmod" = some none := of_decide_eq_true (c.ask 44 rfl)
  have z_range : PySem.W.nsIn K mainGlobals "range" = some none := of_decide_eq_true (c.ask 45 rfl)
  have z_max : PySem.W.nsIn K mainGlobals "max" = some none := of_decide_eq_true (c.ask 46 rfl)
  have z_min : PySem.W.nsIn K mainGlobals "min" = some none := of_decide_eq_true (c.ask 47 rfl)
  have z_zip : PySem.W.nsIn K mainGlobals "zip" = some none := of_decide_eq_true (c.ask 48 rfl)
  have z_repr : PySem.W.nsIn K mainGlobals "repr" = some none := of_decide_eq_true (c.ask 49 rfl)
  have z_sorted : PySem.W.nsIn K mainGlobals "sorted" = some none := of_decide_eq_true (c.ask 50 rfl)
  have B : Bi mg := ⟨PySem.W.mg_none_of X G z_isinstance, PySem.W.mg_none_of X G z_int, PySem.W.mg_none_of X G z_bool, PySem.W.mg_none_of X G z_str, PySem.W.mg_none_of X G z_tuple, PySem.W.mg_none_of X G z_list, PySem.W.mg_none_of X G z_len, PySem.W.mg_none_of X G z_abs, PySem.W.mg_none_of X G z_all, PySem.W.mg_none_of X G z_any, PySem.W.mg_none_of X G z_sum, PySem.W.mg_none_of X G z_enumerate, PySem.W.mg_none_of X G z_divmod, PySem.W.mg_none_of X G z_range, PySem.W.mg_none_of X G z_max, PySem.W.mg_none_of X G z_min, PySem.W.mg_none_of X G z_zip, PySem.W.mg_none_of X G z_repr⟩
  have zS : mg "sorted" = none := PySem.W.mg_none_of X G z_sorted
  have gW : PySem.W.nsIn K mainGlobals "WORDS" = some (some (.ref (He.ga K "WORDS"))) := of_decide_eq_true (c.ask 51 rfl)
  have TN : NmF K mg (He.ga K "WORDS") := ⟨He.str_ok X G (c.ask 52 (f := fun K => (He.Fa.str "LETTERS" "abcdefghijklmnopqrstuvwxyz").ok K) rfl), He.int_ok X G (c.ask 53 (f := fun K => (He.Fa.int "LONGEST" 8).ok K) rfl), PySem.W.mg_of X G gW, fun H => He.tupB_ok (c.ask 54 (f := fun K => He.tupB K "WORDS" [.str "all", .str "and", .str "children", .str "childless", .str "crown", .str "else", .str "if", .str "lives", .str "not", .str "of", .str "or", .str "stock", .str "to"]) rfl) H⟩
  obtain ⟨t_MOST_SUM, g_MOST_SUM⟩ := He.int_ok X G (c.ask 55 (f := fun K => (He.Fa.int "MOST_SUM" 1000000000).ok K) rfl)
  obtain ⟨t_MOST_PEOPLE, g_MOST_PEOPLE⟩ := He.int_ok X G (c.ask 56 (f := fun K => (He.Fa.int "MOST_PEOPLE" 8).ok K) rfl)
  obtain ⟨t_MOST_GOODS, g_MOST_GOODS⟩ := He.int_ok X G (c.ask 57 (f := fun K => (He.Fa.int "MOST_GOODS" 8).ok K) rfl)
  obtain ⟨t_PEOPLE_FROM, g_PEOPLE_FROM⟩ := He.int_ok X G (c.ask 58 (f := fun K => (He.Fa.int "PEOPLE_FROM" 2).ok K) rfl)
  obtain ⟨t_FIGURES, g_FIGURES⟩ := He.str_ok X G (c.ask 59 (f := fun K => (He.Fa.str "FIGURES" "0123456789").ok K) rfl)
  have gH : PySem.W.nsIn K mainGlobals "House" = some (some (.ref (He.ga K "House"))) := of_decide_eq_true (c.ask 60 rfl)
  obtain ⟨fdIH, FD0H⟩ := c.def_ 32 rfl
  have FDH : FunD K "__init__" "House.__init__" (defArgs sHI) (defBody sHI) (defScope sHI) [.non, .int 0, .int 0] [] (He.ma K (He.ga K "House") "__init__") fdIH := FD0H
  have MH : Mk K (He.ga K "House") (He.ma K (He.ga K "House") "__init__") := He.mkr_ok (c.ask 61 (f := fun K => (He.Fa.mkr "House").ok K) rfl)
  obtain ⟨dsH, vH, bH⟩ := FDH.binds1 (ps := ["self", "people", "goods", "purse", "debts"]) 2 0 (by simp) rfl fun _ _ _ _ _ _ _ us its hu hi => match us, hu, its, hi with | [_, _], _, [_, _, _], _ => ⟨_, rfl, rfl⟩
  obtain ⟨dsH5, vH5, bH5⟩ := FDH.binds1 (ps := ["self", "people", "goods", "purse", "debts"]) 5 3 (by simp) rfl fun _ _ _ _ _ _ _ us its hu hi => match us, hu, its, hi with | [_, _, _, _, _], _, [_, _, _], _ => ⟨_, rfl, rfl⟩
  have TH : HsF K (He.ga K "House") := ⟨He.cls_ok (c.ask 62 (f := fun K => (He.Fa.cls "House").ok K) rfl), He.noat_ok (c.ask 63 (f := fun K => (He.Fa.noat "House" "folk").ok K) rfl), He.noat_ok (c.ask 64 (f := fun K => (He.Fa.noat "House" "things").ok K) rfl), He.noat_ok (c.ask 65 (f := fun K => (He.Fa.noat "House" "purse").ok K) rfl), He.noat_ok (c.ask 66 (f := fun K => (He.Fa.noat "House" "debts").ok K) rfl)⟩
  have e6 : PySem.W.specialIn K (.builtin "object.__class__") "__get__" = some (some (.builtin "getset_descriptor.__get__")) := of_decide_eq_true (c.ask 67 rfl)
  have e7 : PySem.W.takesIn K (.builtin "object.__class__") = some true := of_decide_eq_true (c.ask 68 rfl)
  have g5 : PySem.W.nsIn K mainGlobals "NoText" = some (some (.ref (He.ga K "NoText"))) := of_decide_eq_true (c.ask 69 rfl)
  have g21 : PySem.W.nsIn K mainGlobals "WordError" = some (some (.ref (He.ga K "WordError"))) := of_decide_eq_true (c.ask 70 rfl)
  have e5_1 : PySem.W.findIn K (.ref (He.ga K "NoText")) "__getattribute__" = some (some (.builtin "BaseException.__getattribute__")) := of_decide_eq_true (c.ask 71 rfl)
  have e5_2 : PySem.W.findIn K (.ref (He.ga K "NoText")) "__getattr__" = some none := of_decide_eq_true (c.ask 72 rfl)
  have e5_4 : PySem.W.hasDictIn K (He.ga K "NoText") = true := of_decide_eq_true (c.ask 73 rfl)
  have e5_5 : PySem.W.findIn K (.ref (He.ga K "NoText")) "__class__" = some (some (.builtin "object.__class__")) := of_decide_eq_true (c.ask 74 rfl)
  have e5_8 : PySem.W.mroIn K (He.ga K "NoText") (.type "object") = some true := of_decide_eq_true (c.ask 75 rfl)
  have e5_b : PySem.W.subIn K (.ref (He.ga K "NoText")) (.type "BaseException") = some true := of_decide_eq_true (c.ask 76 rfl)
  have e5_t : PySem.W.typeIn K (.ref (He.ga K "NoText")) = some (.type "type") := of_decide_eq_true (c.ask 77 rfl)
  have e5_k : PySem.W.keepIn K (.ref (He.ga K "NoText")) = true := of_decide_eq_true (c.ask 78 rfl)
  have e5_i : PySem.W.findIn K (.ref (He.ga K "NoText")) "__init__" = some (some (.ref (He.ma K (He.ga K "NoText") "__init__"))) := of_decide_eq_true (c.ask 79 rfl)
  have e5_ty : PySem.W.typeIn K (.ref (He.ma K (He.ga K "NoText") "__init__")) = some (.type "function") := of_decide_eq_true (c.ask 80 rfl)
  have e5_sa : PySem.W.findIn K (.ref (He.ga K "NoText")) "__setattr__" = some (some (.builtin "object.__setattr__")) := of_decide_eq_true (c.ask 81 rfl)
  have e5_no : PySem.W.findIn K (.ref (He.ga K "NoText")) "line" = some none := of_decide_eq_true (c.ask 82 rfl)
  have e5_m : PySem.W.exmOne K (.ref (He.ga K "NoText")) (.ref (He.ga K "WordError")) = some true := of_decide_eq_true (c.ask 83 rfl)
  obtain ⟨fdE5, FE5⟩ := c.def_ 33 rfl
  have FI5 : L2.Fun K "__init__" "NoText.__init__" sETx (He.ma K (He.ga K "NoText") "__init__") fdE5 := fun_of FE5
  have bI5 : Binds K fdE5 ["self", "line"] [] := FI5.binds (ps := ["self", "line"]) fun _ _ _ _ _ _ us hl => match us, hl with | [_, _], _ => rfl
  have T5 : ErC K mg "NoText" "line" (He.ga K "NoText") (He.ma K (He.ga K "NoText") "__init__") (He.ga K "WordError") := ⟨⟨oexB_ok (c.ask 84 (f := fun K => oexB K (He.ga K "NoText")) rfl), e5_sa, e5_b, e5_t, e5_k⟩, e5_no, e5_i, e5_ty, PySem.W.mg_of X G g5, e5_m, ⟨e5_1, e5_2, e5_b, e5_4, e5_5, e6, e7, e5_8⟩, ⟨e5_1, e5_2, e5_b, e5_4⟩⟩
  have mT : PySem.W.exmOne K (.ref (He.ga K "NoText")) (.ref (He.ga K "NoText")) = some true := of_decide_eq_true (c.ask 85 rfl)
  have h1 : PySem.W.findIn K (.ref (He.ga K "House")) "__class__" = some (some (.builtin "object.__class__")) := of_decide_eq_true (c.ask 86 rfl)
  have h2 : PySem.W.mroIn K (He.ga K "House") (.type "object") = some true := of_decide_eq_true (c.ask 87 rfl)
  have h3 : PySem.W.kitOne K (.ref (He.ga K "House")) (.ref (He.ga K "House")) = some true := of_decide_eq_true (c.ask 88 rfl)
  have h4 : PySem.W.findIn K (.ref (He.ga K "House")) "__ne__" = some (some (.builtin "object.__ne__")) := of_decide_eq_true (c.ask 89 rfl)
  have h5 : PySem.W.findIn K (.ref (He.ga K "House")) "__format__" = some (some (.builtin "object.__format__")) := of_decide_eq_true (c.ask 90 rfl)
  have h6 : PySem.W.notFirst K (He.ga K "House") (.type "str") = true := of_decide_eq_true (c.ask 91 rfl)
  have h7 : PySem.W.notFirst K (He.ga K "House") (.type "tuple") = true := of_decide_eq_true (c.ask 92 rfl)
  have h8 : PySem.W.kitOne K (.type "str") (.ref (He.ga K "House")) = some false := of_decide_eq_true (c.ask 93 rfl)
  have h9 : PySem.W.kitOne K (.type "tuple") (.ref (He.ga K "House")) = some false := of_decide_eq_true (c.ask 94 rfl)
  obtain ⟨fdMp, FM0p⟩ := c.def_ 34 rfl
  have MTp : Meth K (He.ga K "House") "people" (He.ma K (He.ga K "House") "people") := He.meth_ok (c.ask 95 (f := fun K => (He.Fa.meth "House" "people").ok K) rfl)
  have FMp : L2.Fun K "people" "House.people" sPeo (He.ma K (He.ga K "House") "people") fdMp := fun_of FM0p
  have bMp : Binds K fdMp ["self"] [] := FMp.binds (ps := ["self"]) fun _ _ _ _ _ _ us hl => match us, hl with | [_], _ => rfl
  obtain ⟨fdMq, FM0q⟩ := c.def_ 35 rfl
  have MTq : Meth K (He.ga K "House") "person" (He.ma K (He.ga K "House") "person") := He.meth_ok (c.ask 96 (f := fun K => (He.Fa.meth "House" "person").ok K) rfl)
  have FMq : L2.Fun K "person" "House.person" sPers (He.ma K (He.ga K "House") "person") fdMq := fun_of FM0q
  have bMq : Binds K fdMq ["self", "name"] [] := FMq.binds (ps := ["self", "name"]) fun _ _ _ _ _ _ us hl => match us, hl with | [_, _], _ => rfl
  obtain ⟨fdMc, FM0c⟩ := c.def_ 36 rfl
  have MTc : Meth K (He.ga K "House") "children" (He.ma K (He.ga K "House") "children") := He.meth_ok (c.ask 97 (f := fun K => (He.Fa.meth "House" "children").ok K) rfl)
  have FMc : L2.Fun K "children" "House.children" sChi (He.ma K (He.ga K "House") "children") fdMc := fun_of FM0c
  have bMc : Binds K fdMc ["self", "name"] [] := FMc.binds (ps := ["self", "name"]) fun _ _ _ _ _ _ us hl => match us, hl with | [_, _], _ => rfl
  obtain ⟨fdMr, FM0r⟩ := c.def_ 37 rfl
  have MTr : Meth K (He.ga K "House") "parent" (He.ma K (He.ga K "House") "parent") := He.meth_ok (c.ask 98 (f := fun K => (He.Fa.meth "House" "parent").ok K) rfl)
  have FMr : L2.Fun K "parent" "House.parent" sPar (He.ma K (He.ga K "House") "parent") fdMr := fun_of FM0r
  have bMr : Binds K fdMr ["self", "name"] [] := FMr.binds (ps := ["self", "name"]) fun _ _ _ _ _ _ us hl => match us, hl with | [_, _], _ => rfl
  obtain ⟨fdMd, FM0d⟩ := c.def_ 38 rfl
  have MTd : Meth K (He.ga K "House") "good" (He.ma K (He.ga K "House") "good") := He.meth_ok (c.ask 99 (f := fun K => (He.Fa.meth "House" "good").ok K) rfl)
  have FMd : L2.Fun K "good" "House.good" sGdM (He.ma K (He.ga K "House") "good") fdMd := fun_of FM0d
  have bMd : Binds K fdMd ["self", "thing"] [] := FMd.binds (ps := ["self", "thing"]) fun _ _ _ _ _ _ us hl => match us, hl with | [_, _], _ => rfl
  obtain ⟨fdMk, FM0k⟩ := c.def_ 39 rfl
  have MTk : Meth K (He.ga K "House") "kind" (He.ma K (He.ga K "House") "kind") := He.meth_ok (c.ask 100 (f := fun K => (He.Fa.meth "House" "kind").ok K) rfl)
  have FMk : L2.Fun K "kind" "House.kind" sKnd (He.ma K (He.ga K "House") "kind") fdMk := fun_of FM0k
  have bMk : Binds K fdMk ["self", "thing"] [] := FMk.binds (ps := ["self", "thing"]) fun _ _ _ _ _ _ us hl => match us, hl with | [_, _], _ => rfl
  obtain ⟨fdMw, FM0w⟩ := c.def_ 40 rfl
  have MTw : Meth K (He.ga K "House") "worth" (He.ma K (He.ga K "House") "worth") := He.meth_ok (c.ask 101 (f := fun K => (He.Fa.meth "House" "worth").ok K) rfl)
  have FMw : L2.Fun K "worth" "House.worth" sWor (He.ma K (He.ga K "House") "worth") fdMw := fun_of FM0w
  have bMw : Binds K fdMw ["self", "thing"] [] := FMw.binds (ps := ["self", "thing"]) fun _ _ _ _ _ _ us hl => match us, hl with | [_, _], _ => rfl
  obtain ⟨fdMl, FM0l⟩ := c.def_ 41 rfl
  have MTl : Meth K (He.ga K "House") "lines" (He.ma K (He.ga K "House") "lines") := He.meth_ok (c.ask 102 (f := fun K => (He.Fa.meth "House" "lines").ok K) rfl)
  have FMl : L2.Fun K "lines" "House.lines" sLns (He.ma K (He.ga K "House") "lines") fdMl := fun_of FM0l
  have bMl : Binds K fdMl ["self"] [] := FMl.binds (ps := ["self"]) fun _ _ _ _ _ _ us hl => match us, hl with | [_], _ => rfl
  obtain ⟨fdMg, FM0g⟩ := c.def_ 42 rfl
  have MTg : Meth K (He.ga K "House") "goods" (He.ma K (He.ga K "House") "goods") := He.meth_ok (c.ask 103 (f := fun K => (He.Fa.meth "House" "goods").ok K) rfl)
  have FDg : FunD K "goods" "House.goods" (defArgs sGds) (defBody sGds) (defScope sGds) [.non, .non] [] (He.ma K (He.ga K "House") "goods") fdMg := FM0g
  obtain ⟨dsg, vg, bg⟩ := FDg.binds1 (ps := ["self", "kind", "key"]) 1 0 (by simp) rfl fun _ _ _ _ _ _ _ us its hu hi => match us, hu, its, hi with | [_], _, [_, _], _ => ⟨_, rfl, rfl⟩
  have xL : PySem.W.findIn K (.ref (He.ga K "House")) "__len__" = some (some (.ref (He.ma K (He.ga K "House") "__len__"))) := of_decide_eq_true (c.ask 104 rfl)
  have yL : PySem.W.isFn K (.ref (He.ma K (He.ga K "House") "__len__")) = true := of_decide_eq_true (c.ask 105 rfl)
  obtain ⟨fdML, FM0L⟩ := c.def_ 43 rfl
  have FML : L2.Fun K "__len__" "House.__len__" sHLen (He.ma K (He.ga K "House") "__len__") fdML := fun_of FM0L
  have bML : Binds K fdML ["self"] [] := FML.binds (ps := ["self"]) fun _ _ _ _ _ _ us hl => match us, hl with | [_], _ => rfl
  have xR : PySem.W.findIn K (.ref (He.ga K "House")) "__repr__" = some (some (.ref (He.ma K (He.ga K "House") "__repr__"))) := of_decide_eq_true (c.ask 106 rfl)
  have yR : PySem.W.isFn K (.ref (He.ma K (He.ga K "House") "__repr__")) = true := of_decide_eq_true (c.ask 107 rfl)
  obtain ⟨fdMR, FM0R⟩ := c.def_ 44 rfl
  have FMR : L2.Fun K "__repr__" "House.__repr__" sHRep (He.ma K (He.ga K "House") "__repr__") fdMR := fun_of FM0R
  have bMR : Binds K fdMR ["self"] [] := FMR.binds (ps := ["self"]) fun _ _ _ _ _ _ us hl => match us, hl with | [_], _ => rfl
  have xS : PySem.W.findIn K (.ref (He.ga K "House")) "__str__" = some (some (.ref (He.ma K (He.ga K "House") "__str__"))) := of_decide_eq_true (c.ask 108 rfl)
  have yS : PySem.W.isFn K (.ref (He.ma K (He.ga K "House") "__str__")) = true := of_decide_eq_true (c.ask 109 rfl)
  obtain ⟨fdMS, FM0S⟩ := c.def_ 45 rfl
  have FMS : L2.Fun K "__str__" "House.__str__" sHStr (He.ma K (He.ga K "House") "__str__") fdMS := fun_of FM0S
  have bMS : Binds K fdMS ["self"] [] := FMS.binds (ps := ["self"]) fun _ _ _ _ _ _ us hl => match us, hl with | [_], _ => rfl
  have xQ : PySem.W.findIn K (.ref (He.ga K "House")) "__eq__" = some (some (.ref (He.ma K (He.ga K "House") "__eq__"))) := of_decide_eq_true (c.ask 110 rfl)
  have yQ : PySem.W.isFn K (.ref (He.ma K (He.ga K "House") "__eq__")) = true := of_decide_eq_true (c.ask 111 rfl)
  obtain ⟨fdMQ, FM0Q⟩ := c.def_ 46 rfl
  have FMQ : L2.Fun K "__eq__" "House.__eq__" sHEq (He.ma K (He.ga K "House") "__eq__") fdMQ := fun_of FM0Q
  have bMQ : Binds K fdMQ ["self", "other"] [] := FMQ.binds (ps := ["self", "other"]) fun _ _ _ _ _ _ us hl => match us, hl with | [_, _], _ => rfl
  have bH50 : Binds K fdIH ["self", "people", "goods", "purse", "debts"] [] := by
    have v : Vals [] dsH5 := vH5
    cases v
    exact bH5
  have e := hfa.symm.trans (PySem.W.mg_of X G a32)
  cases e
  refine ⟨fd32, fun s v => FunD.bindsA (ps := ["_law_script"]) FF32 (fun _ _ _ _ _ _ us hl => match us, hl with | [_], _ => rfl) s [v] rfl, fun base _ _ => ?_⟩
  have GN : ∀ k, FnOk P w K mg base CX0 (k + 1) _ _ ["thing"] (spName K) := fun k => ok_name (k := k) B TN D1
  have GW : ∀ k, FnOk P w K mg base CX0 (k + 1) _ _ ["thing", "words"] (spWord K) := fun k => ok_word (k := k) B D2
  have gH := PySem.W.mg_of X G gH
  have TG : HsG K (He.ga K "House") := ⟨h1, e6, e7, h2, h3⟩
  have GPo : FnOk P w K mg base CX0 1 _ _ ["self"] (spPeo K (He.ga K "House")) := ok_peo (k := 0) B TH FMp
  have GRw : FnOk P w K mg base CX0 2 _ _ ["rows", "name"] (spRow K) := ok_row (k := 0) D9 D2 (GW 0)
  have GRg : FnOk P w K mg base CX0 2 _ _ ["rows", "name"] (spRowG K) := ok_rowG (k := 0) D9 D2 (GW 0)
  have GPr : FnOk P w K mg base CX0 3 _ _ ["self", "name"] (spPers K (He.ga K "House")) := ok_pers (k := 0) TH FMq D9 GRw
  have GPR : FnOk P w K mg base CX0 3 _ _ ["self", "name"] (spPersR K (He.ga K "House")) := ok_persR (k := 0) TH FMq D9 GRw
  have GPa : FnOk P w K mg base CX0 4 _ _ ["self", "name"] (spPar K (He.ga K "House")) := ok_par (k := 0) TH FMr MTq bMq GPR
  have GKi : FnOk P w K mg base CX0 4 _ _ ["self", "name"] (spKids K (He.ga K "House")) := ok_kids (k := 0) B TH FMc MTq bMq GPr
  have GGm : FnOk P w K mg base CX0 3 _ _ ["self", "thing"] (spGdM K (He.ga K "House")) := ok_gdm (k := 0) TH FMd D9 GRg
  have GKn : FnOk P w K mg base CX0 4 _ _ ["self", "thing"] (spKnd K (He.ga K "House") fun r => .str r.2.1) := ok_knd (k := 0) TH FMk MTd bMd GGm
  have GWo : FnOk P w K mg base CX0 4 _ _ ["self", "thing"] (spKnd K (He.ga K "House") fun r => .int r.2.2) := ok_wor (k := 0) TH FMw MTd bMd GGm
  have GGs : FnOk P w K mg base CX0 2 _ _ ["self", "kind", "key"] (spGds K (He.ga K "House")) := ok_gds (k := 0) B TH FDg D2
  have GLn : FnOk P w K mg base CX0 2 _ _ ["self"] (spLns K (He.ga K "House")) := ok_lns (k := 0) TH FMl D10
  have GSt : FnOk P w K mg base CX0 3 _ _ ["self"] (spHStr K (He.ga K "House")) := ok_hstr (k := 0) TH FMS MTl bMl GLn
  have GLe : FnOk P w K mg base CX0 1 _ _ ["self"] (spHLen K (He.ga K "House")) := ok_hlen (k := 0) B TH FML
  have GRe : FnOk P w K mg base CX0 1 _ _ ["self"] (spHRep K (He.ga K "House")) := ok_hrep (k := 0) B TH FMR
  have GEq : FnOk P w K mg base CX0 1 _ _ ["self", "other"] (spHEqV K (He.ga K "House")) := ok_heq (k := 0) B TH TG gH FMQ
  have Z : HK P w K mg base (He.ga K "House") 4 := ⟨TH, TG, gH, ⟨_, _, _, MTp, bMp, .nil, GPo.mono (by decide)⟩, ⟨_, _, _, MTr, bMr, .nil, GPa⟩, ⟨_, _, _, MTc, bMc, .nil, GKi⟩, ⟨_, _, _, MTg, bg, vg, GGs.mono (by decide)⟩, ⟨_, _, _, MTk, bMk, .nil, GKn⟩, ⟨_, _, _, MTw, bMw, .nil, GWo⟩,
    ⟨_, _, xL, yL, bML, GLe.mono (by decide)⟩, ⟨_, _, xR, yR, bMR, GRe.mono (by decide)⟩, ⟨_, _, xS, yS, bMS, GSt.mono (by decide)⟩, ⟨_, _, xQ, yQ, bMQ, GEq.mono (by decide)⟩, h4, h2, h5, h6, h7, h8, h9⟩
  have GT : ∀ k, FnOk P w K mg base CX0 (k + 1) _ _ ["_law_pool_here", "_law_many"] spTake := fun k => ok_take (k := k) B D20
  have GO : FnOk P w K mg base CX0 10 _ _ ["_law_script", "_law_k"] (spPool K) := ok_pool (k := 9) B D19
  have GWd : FnOk P w K mg base CX0 9 _ _ ["_law_pool_here", "_law_many"] spWords := ok_words (k := 7) B D21 D20 (GT 7)
  have GHo : FnOk P w K mg base CX0 10 _ _ ["_law_pool_here", "_law_most"] (spHome K 4) := ok_home (k := 7) (by decide) (by decide) B D22 D20 D21 (GT 7) GWd
  have GPe : FnOk P w K mg base CX0 2 _ _ ["thing", "ahead"] (spPerson K) := ok_person (k := 0) B (GN 0) (GW 0) D5 D1 D2
  have GPx : FnOk P w K mg base CX0 2 _ _ ["thing", "ahead"] (spPersonX K) := ok_personX (k := 0) B (GN 0) (GW 0) D5 D1 D2
  have GCP : FnOk P w K mg base (L2.CX P w) 4 _ _ ["people"] (spChkP K) := (ok_chkP (k := 0) B (g_MOST_PEOPLE) GPe D6 D5).mono (by decide)
  have GSg : FnOk P w K mg base CX0 2 _ _ ["thing"] spSumG := ok_sumG (k := 0) B (g_MOST_SUM) D4 D3
  have GGd : FnOk P w K mg base CX0 3 _ _ ["thing", "ahead"] (spGood K) := ok_good (k := 0) B (GN 1) GSg D7 D1 D4
  have GGx : FnOk P w K mg base CX0 3 _ _ ["thing", "ahead"] (spGoodX K) := ok_goodX (k := 0) B (GN 1) GSg D7 D1 D4
  have GCg : FnOk P w K mg base (L2.CX P w) 4 _ _ ["goods"] (spChkG K) := ok_chkG (k := 0) B (g_MOST_GOODS) GGd D8 D7
  have GHf : FnOk P w K mg base (L2.CX P w) 5 _ _ ["self", "people", "goods", "purse", "debts"] (spHIf K (He.ga K "House")) := ok_HIf (k := 0) B TH FDH GCP D6 GCg D8 GSg D4
  have GHS : FnOk P w K mg base (L2.CX P w) 5 _ _ ["self", "people", "goods", "purse", "debts"] (SpHI K (He.ga K "House")) := GHf.imp fun _ _ _ _ h => h.it
  have GNu : ∀ k, FnOk P w K mg base CX0 (k + 1) _ _ ["word"] spRNum := fun k => ok_rnum (k := k) B (g_FIGURES) D11
  have GAm : FnOk P w K mg base (L2.CX P w) 6 _ _ ["rows", "line", "word"] (spRAmX K (He.ga K "NoText")) := (ok_ramX (k := 0) B T5 FI5 bI5 D12 D11 (GNu 1) D4 GSg).mono (by decide)
  have GPp : FnOk P w K mg base (L2.CX P w) 6 _ _ ["rows"] (spRPpX K (He.ga K "NoText")) := (ok_rppX (k := 0) B T5 FI5 bI5 (g_PEOPLE_FROM) (g_MOST_PEOPLE) D15 D13 D5 GPx).mono (by decide)
  have GTh : FnOk P w K mg base CX0 3 _ _ ["words"] (spRTh K) := (ok_rth (k := 0) B D14 D11 (GNu 0)).mono (by decide)
  have GGo : FnOk P w K mg base (L2.CX P w) 6 _ _ ["rows", "first"] (spRGoX K (He.ga K "NoText")) := (ok_rgoX (k := 0) B T5 FI5 bI5 (g_MOST_GOODS) D16 D14 GTh D7 GGx).mono (by decide)
  have GRh : FnOk P w K mg base (L2.CX P w) 7 _ _ ["text"] (spRHoX K (He.ga K "House") (He.ga K "NoText")) := ok_rhoX (k := 0) B (g_PEOPLE_FROM) D17 D12 GAm D15 GPp D16 GGo MH gH GHf bH50
  have GLr : FnOk P w K mg base CX0 8 _ _ ["_law_lines_here"] (spLr K) := ok_lr (k := 0) B T5 mT D26 D17 GRh
  have GLi : FnOk P w K mg base CX0 8 _ _ ["_law_home_here"] (spLi K) := ok_li (k := 6) B D25 D23 D24
  have GIs : FnOk P w K mg base CX0 8 _ _ ["_law_lines_here", "_law_home_here"] (spIs K) := ok_is (k := 0) B D27 Z D17 GRh D18 MH GHS bH50
  have GGr : FnOk P w K mg base CX0 9 _ _ ["_law_home_here"] (spGr K) := ok_gr (k := 0) B D28 D25 GLi D26 GLr D27 GIs
  have GBo : FnOk P w K mg base CX0 9 _ _ ["_law_home_here", "_law_other"] (spBo K) := ok_bo (k := 0) B D30 D23 D24 D29 D26 GLr D27 GIs
  have GTu : FnOk P w K mg base CX0 9 _ _ ["_law_pool_here", "_law_home_here"] (spTu K) := ok_tu (k := 0) B zS Z D31 D20 (GT 7) D25 GLi D17 (GRh.mono (by decide)) D27 GIs
  exact ok_law B D32 D19 GO D22 GHo D28 (GGr.mono (by decide)) D30 (GBo.mono (by decide)) D31 (GTu.mono (by decide)) D26 (GLr.mono (by decide))
end WdQ

set_option Elab.async false
set_option linter.all false
set_option maxRecDepth 100000
set_option maxHeartbeats 0
namespace WdQ
open PySem PySem.Spec PyProof.Rows L2 Wd
end WdQ
open PySem PySem.W PySem.Calls PyProof.Rows
set_option maxRecDepth 100000 in
set_option maxHeartbeats 0 in
theorem PySem.Challenge.cw_willdealt_k09_whole_houses_grown_by_line_holds : PySem.Challenge.rw_willdealt_k09_whole_houses_grown_by_line.Holds := by
  w_on; o_law
  refine HandSHeadRun.head_any (r := OpenLaw.row PySem.Challenge.rw_willdealt_k09_whole_houses_grown_by_line) (q := view (OpenLaw.row PySem.Challenge.rw_willdealt_k09_whole_houses_grown_by_line).prog [55]) (H := WdQ.hkN) (ob := WdQ.obN) (M := 12000) (loose := WdQ.looseN) (d := HandSHeadRun.topDef (OpenLaw.row PySem.Challenge.rw_willdealt_k09_whole_houses_grown_by_line).prog 55) (kwd := []) WdQ.obN_eq
    (by kernel_rfl) (fun s => by kernel_rfl) WdQ.runN (by kernel_rfl) (by kernel_rfl) (by kernel_rfl) (by rfl) (by first | assumption | decide +kernel) (by decide +kernel) ⟨rfl, rfl, rfl, rfl, rfl, by decide +kernel⟩ ?hw ?hc
  case hw => w_witness2
  case hc =>
    refine L2.walk_ofE (l := PySem.Challenge.rw_willdealt_k09_whole_houses_grown_by_line) (n := 63) (k := 11) (x := "_law_script") (CX := L2.CX0) rfl (by decide) (by kernel_rfl) ⟨rfl, by decide, by decide⟩ ?F (fun _ _ _ _ z => z)
    intro w mg fa h Y G hmg0
    obtain ⟨K, KX, c⟩ := Y
    have hmg : mg ("law" : PySem.Str) = some (.ref fa) := by
      have e : (HandSHeadRun.topDef (OpenLaw.row PySem.Challenge.rw_willdealt_k09_whole_houses_grown_by_line).prog 55).name = ("law" : PySem.Str) := by kernel_rfl
      rw [← e]
      exact hmg0
    obtain ⟨fd, hb, hF⟩ := WdQ.factsN (P := (PySem.Challenge.rw_willdealt_k09_whole_houses_grown_by_line).prog) (w := w) KX G hmg c
    exact ⟨K, fd, WdQ.spLaw K, KX, hb, fun H a ns hl _ hS => ⟨a, ns, rfl, hS, hl, fun _ => rfl⟩, hF⟩


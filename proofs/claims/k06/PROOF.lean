import PyProof.Rows.All
import Wide.All
import OpenK.AllK
import Wide.FinOn
import HandS.Base
import HandS.Call
import HandS.List
import HandS.Comp
import HandS.Dict
import HandS.DictComp
import HandS.More
import KE.KDictKeyed
import KE.KDictWalk
import KE.KDictSum
import KE.SortData
import KE.SortKeyHeap
import KE.KSortKey
import HandS.SortKw
import HandS.IsInst
import HandS.Words
import HandS.ExcOwn
import HandS.TupSets
import HandS.Strs
import HandS.ForMost
import HandS.Style
import HandS.Zip
import HandS.TupAny
import HandS.Codes
import HandS.Defaults
import PySem.Challenge.RW_farenough_k06_runs_half_done
import PyProof.MeetsSeq2
import HandS.StrMore
import PyProof.Rows.StrJoinRep
import KE.SortLaws
import HandS.Star
import HandS.Flow
import HandS.Text
import HandS.Deep
import HandS.RevRange
import HandS.Conv
import HandS.OwnEq
import HandS.New
import HandS.Property
import OpenK.KMeth
import OpenK.KOps
import HandS.ForExc
import HandS.ExcInit
import HandS.ExcField
import HandS.ExcIs
import HandS.ExcValue
import PyProof.ExcBaseAll.IndexError
import PyProof.ExcBaseAll.LookupError
import KE.KExcInit
import KE.KExcIs
import HandS.MakeKw
import PyProof.Rows.SortStr
import PyProof.Rows.StrMeet
import PyProof.Rows.TmSorted
import HandS.Finally
import HandS.TryOnly
import KE.KStateDown
import HandS.Head0
import HandS.Head1
import HandS.Head2
import HandS.HeadEnd
import HandS.HeadHook2

set_option Elab.async false
set_option linter.all false
set_option maxRecDepth 100000
set_option maxHeartbeats 4000000
namespace KS
open PySem PySem.Spec PyProof.Rows L2
def top (i : Nat) : Stmt := PySem.Challenge.pw_farenough_k06_runs_half_done.main.body.getD i (.Pass ⟨0, 0, 0, 0⟩)
abbrev FnP (K : PySem.W.Frag) (x : Str) (st : Stmt) (f : Addr) (fd : FuncData) : Prop := FunD K x x (defArgs st) (defBody st) (defScope st) [] [] f fd

abbrev sInteger : Stmt := top 8
abbrev sIsText : Stmt := top 9
abbrev sIsName : Stmt := top 10
abbrev sIsKey : Stmt := top 11
abbrev sAreKeys : Stmt := top 12
abbrev sAreAnswers : Stmt := top 13
abbrev lFeed : Stmt := top 35
abbrev lDraw : Stmt := top 36
abbrev lPick : Stmt := top 38
abbrev lCalls : Stmt := top 40
abbrev lText : Stmt := top 42
abbrev lAnswer : Stmt := top 43
abbrev lSame : Stmt := top 52
abbrev sCheck : Stmt := top 23
abbrev sInner : Stmt := top 24
abbrev sIsNode : Stmt := top 25
abbrev sParts : Stmt := top 26
abbrev sPair : Stmt := top 27
abbrev sCases : Stmt := top 28
abbrev sCase : Stmt := top 29
abbrev sStepOf : Stmt := top 21
abbrev sPiece : Stmt := top 22
abbrev lPartText : Stmt := top 50
abbrev lStepAt : Stmt := top 51
end KS

set_option Elab.async false
set_option linter.all false
set_option maxRecDepth 100000
set_option maxHeartbeats 4000000
namespace KX
open PySem PySem.Spec PyProof.Rows
abbrev veB : List Value := [.type "ValueError", .type "Exception", .type "BaseException", .type "object"]
abbrev keB : List Value := [.type "KeyError", .type "LookupError", .type "Exception", .type "BaseException", .type "object"]
abbrev ieB : List Value := [.type "IndexError", .type "LookupError", .type "Exception", .type "BaseException", .type "object"]
theorem storeKey : StoreFacts "KeyError" keB "object.__setattr__" "object" where
  mro := by kernel_rfl
  slot := .of (owner := "object") (n := "__setattr__")
    (by rw [typeLookup_type, builtinLookup_eq_fast]; kernel_rfl)
    (by decide +kernel)
    (by decide +kernel) (by decide +kernel)
    (by first
      | exact .inl (by decide +kernel)
      | exact .inr (by decide +kernel))
    (by rw [isSubtype_type]; kernel_rfl)
  entry := F.entry_object_sa
  kind := by decide +kernel
  split := by decide +kernel
  hasOwner := by decide +kernel
  args := fun a b c => by unfold argsOk; kernel_rfl
  passes := fun self => by kernel_rfl
/-- a chain of classes over a built-in error, made by newId -/
structure Kd (bmB : List Value) (newId : String) : Prop where
  made : ∃ B initId bmF, ExcBaseFacts B newId initId bmF ∧ bmB.contains (.type B) = true ∧ bmB.contains (.type "AttributeError") = false ∧ bmB.contains (.type "NameError") = false
  st : ∃ S, StoreFacts S bmB "object.__setattr__" "object"
theorem kdVe : Kd veB "ValueError.__new__" := ⟨⟨_, _, _, F.excBase_ValueError, by decide +kernel, by decide +kernel, by decide +kernel⟩, ⟨_, F.store_ValueError⟩⟩
theorem kdKe : Kd keB "LookupError.__new__" := ⟨⟨_, _, _, F.excBase_LookupError, by decide +kernel, by decide +kernel, by decide +kernel⟩, ⟨_, storeKey⟩⟩
theorem kdIe : Kd ieB "IndexError.__new__" := ⟨⟨_, _, _, F.excBase_IndexError, by decide +kernel, by decide +kernel, by decide +kernel⟩, ⟨_, F.store_IndexError⟩⟩
section
variable {prog : Program} {w : World} {A : Around} {E : Value → Shared → Prop} {R : Result → Shared → Prop} {h : Heap} {g : Array GenState} {d : Drawn} {t : Nat} {os : OsState}
variable {nm q : Str} {C N : Addr} {bs bm bmF : List Value} {hdct : Bool} {sn : List Str} {sub : List Value} {ab : Bool} {col : Option Bool} {dd : Option Addr} {k0 k1 k2 k3 k5 : Option Value} {B newId initId : String}
abbrev Stands (h : Heap) (nm q : Str) (C N : Addr) (bs bm : List Value) (hdct : Bool) (sn : List Str) (sub : List Value) (ab : Bool) (col : Option Bool) (dd : Option Addr) (k0 k1 k2 k3 k5 : Option Value) (newId : String) : Prop :=
  h.get? C = some (excClassObj nm q C N bs bm hdct sn sub ab col dd k0 k1 k2 k3 k5 newId)
theorem chkNew {M : Model} (F : ExcBaseFacts B newId initId bmF) (hB : bm.contains (.type B) = true) {rest : List Value} {kw : List (Str × Value)} {Q : Unit → Shared → Prop}
    (hC : Stands h nm q C N bs bm hdct sn sub ab col dd k0 k1 k2 k3 k5 newId) (hq : Q () ⟨h, g, d, t, os⟩) :
    wpAny M A (checkBuiltinCall newId ⟨.ref C :: rest, kw⟩) Q E ⟨h, g, d, t, os⟩ := by
  have hin : (Value.ref C :: bm).contains (.type B) = true := by
    rw [List.contains_cons, hB, Bool.or_true]
  have star := F.noStar
  simp only [checkBuiltinCall, F.newKind, F.newSplit, F.newRow]
  repeat (first
    | refine wpAny_loadPart_at hC ?_
    | (refine wpAny_isSubtype_exc hC ?_; rw [hin])
    | refine wpAny_staticBase_exc hC ?_
    | refine wpAny_madeBy_exc hC ?_
    | simp only [bne_self_eq_false, Bool.false_eq_true, if_false]
    | wp_step)
  exact hq
theorem newG (F : ExcBaseFacts B newId initId bmF) (hB : bm.contains (.type B) = true) (hA : bm.contains (.type "AttributeError") = false) (hN : bm.contains (.type "NameError") = false)
    {rest : List Value} {kw : List (Str × Value)} (hC : Stands h nm q C N bs bm hdct sn sub ab col dd k0 k1 k2 k3 k5 newId)
    (hq : R (.ok (.ret (.ref (h.objs.size + 1)))) ⟨(h.push (W.kdv_tup rest)).push (HandSPX.excO C h.objs.size), g, d, t, os⟩) (hrest : rest.length ≤ sizeLine) :
    codeAny (model prog w) A (.builtin newId ⟨.ref C :: rest, kw⟩) R ⟨h, g, d, t, os⟩ := by
  have ends := F.ends
  have i1 : (Value.ref C :: bm).contains (.type B) = true := by
    rw [List.contains_cons, hB, Bool.or_true]
  have i2 : (Value.ref C :: bm).contains (.type "AttributeError") = false := by
    rw [List.contains_cons, hA]; rfl
  have i3 : (Value.ref C :: bm).contains (.type "NameError") = false := by
    rw [List.contains_cons, hN]; rfl
  refine codeAny_builtinAt F.entry ?_
  unfold Builtin.«BaseException.__new__»
  refine PySem.wpAt_bind ?_
  show PySem.wpAt _ _ _ (PySem.stack >>= _) _ _ _
  refine PySem.wpAt_bind (PySem.wpAt_stack fun p below => PySem.wpAt_of_wpAny ?_)
  wp_walk
  refine PySem.wpAt_of_wpAny ?_
  rw [F.owner]
  repeat (first
    | with_reducible refine wpAny_madeHere_exc F.canon hC ?_
    | with_reducible refine wpAny_loadPart_at hC ?_
    | (with_reducible refine wpAny_isSubtype_exc hC ?_
       first | rw [i1] | rw [i2] | rw [i3])
    | wp_step)
  show R _ _
  rw [Heap.size_push]
  exact hq
theorem tcallG (F : ExcBaseFacts B newId initId bmF) (hB : bm.contains (.type B) = true) (hA : bm.contains (.type "AttributeError") = false) (hN : bm.contains (.type "NameError") = false)
    {rest : List Value} {kw : List (Str × Value)} {fI : Addr} {Q : Fin → Shared → Prop} (hC : Stands h nm q C N bs bm hdct sn sub ab col dd k0 k1 k2 k3 k5 newId)
    (hi : W.Looks (model prog w) h (typeLookup (.ref C) "__init__") (some (.ref fI))) (hb : ∀ self, W.Looks (model prog w) h (bindSpecial (.ref fI) self) (.ref fI, [self])) (hrest : rest.length ≤ sizeLine)
    (hq : codeAny (model prog w) A (.call (.ref fI) ⟨.ref (h.objs.size + 1) :: rest, kw⟩)
      (fun r s' => match r with
        | .ok (.ret v) => v = .none ∧ Q (.done (.ret (.ref (h.objs.size + 1)))) s'
        | .ok _ => False
        | .error e => E e s')
      ⟨(h.push (W.kdv_tup rest)).push (HandSPX.excO C h.objs.size), g, d, t, os⟩) :
    wpAny (model prog w) A (Builtin.«type.__call__» ⟨.ref C :: rest, kw⟩) Q E ⟨h, g, d, t, os⟩ := by
  repeat (first
    | with_reducible refine wpAny_loadPart_at hC ?_
    | with_reducible refine wpAny_madeBy_exc hC ?_
    | wp_step)
  refine codeAny_call_builtin_code (Code.quiet_builtin _ F.quiet) (chkNew F hB hC ?_)
  refine newG F hB hA hN hC ?_ hrest
  show wpAny _ _ _ _ _ _
  have k : ∀ b o, h.get? b = some o → ((h.push (W.kdv_tup rest)).push (HandSPX.excO C h.objs.size)).get? b = some o := fun b o e =>
    Heap.get?_push_of_some _ (Heap.get?_push_of_some _ e)
  have hC1 := k _ _ hC
  have there : ((h.push (W.kdv_tup rest)).push (HandSPX.excO C h.objs.size)).get? (h.objs.size + 1) = some (HandSPX.excO C h.objs.size) := by
    heap_get
  have self : (Value.ref C :: bm).contains (.ref C) = true := by simp
  have j1 := hi.keeps k
  have j2 := (hb (.ref (h.objs.size + 1))).keeps k
  unfold isInstance
  repeat (first
    | with_reducible refine wpAny_loadPart_at there ?_
    | (with_reducible refine wpAny_isSubtype_exc hC1 ?_
       rw [self])
    | wp_step)
  show wpAny _ _ (typeLookup (.ref C) _) _ _ _
  refine j1.at ?_
  refine wpAny_holding (wpAny_bind (j2.at ?_))
  refine wpAny_bind (wpAny_call (codeAny_mono hq fun r s' z => ?_))
  rcases r with e | (v | _ | _ | _) <;> first | exact z | exact z.elim | skip
  obtain ⟨rfl, z⟩ := z
  first
    | exact wpAny_pure (wpAny_pure z)
    | (wp_walk; exact z)
theorem callG (F : ExcBaseFacts B newId initId bmF) (hB : bm.contains (.type B) = true) (hA : bm.contains (.type "AttributeError") = false) (hN : bm.contains (.type "NameError") = false)
    {rest : List Value} {kw : List (Str × Value)} {fI : Addr} (hC : Stands h nm q C N bs bm hdct sn sub ab col dd k0 k1 k2 k3 k5 newId)
    (hi : W.Looks (model prog w) h (typeLookup (.ref C) "__init__") (some (.ref fI))) (hb : ∀ self, W.Looks (model prog w) h (bindSpecial (.ref fI) self) (.ref fI, [self])) (hrest : rest.length ≤ sizeLine)
    (hq : codeAny (model prog w) (A.under (.builtin "type.__call__" ⟨.ref C :: rest, kw⟩)) (.call (.ref fI) ⟨.ref (h.objs.size + 1) :: rest, kw⟩) (W.InitBack (h.objs.size + 1) R)
      ⟨(h.push (W.kdv_tup rest)).push (HandSPX.excO C h.objs.size), g, d, t, os⟩) :
    codeAny (model prog w) A (.call (.ref C) ⟨rest, kw⟩) R ⟨h, g, d, t, os⟩ := by
  have f1 := tc_lookup
  have f2 := tc_bind (.ref C)
  have isT : (⟨h, g, d, t, os⟩ : Shared).TypeIs (.ref C) "type" := ⟨_, hC, rfl⟩
  refine codeAny_of_tree ?_
  show wpAny _ _ (callAny (.ref C) _) _ _ _
  repeat (any_goals (first
    | assumption
    | with_reducible refine wpAny_loadPart_at hC ?_
    | wp_step))
  refine ⟨rfl, ?_⟩
  refine codeAny_call_builtin_at (Code.quiet_builtin _ (by decide +kernel)) entry_typeCall (wpAny_check_type_call_sub hC (tcallG F hB hA hN hC hi hb hrest ?_))
  refine codeAny_mono hq fun r s' z => ?_
  rcases r with e | (v | _ | _ | _) <;> exact z
end
end KX

set_option Elab.async false
set_option linter.all false
set_option maxRecDepth 100000
set_option maxHeartbeats 4000000
namespace KX
open PySem PySem.Spec PyProof.Rows L2
open Builtin.ObjectAttr (storeInOwnDict ownDictForStores)
open PySem.W (Frag findIn subIn typeIn keepIn hasDictIn mroIn specialIn takesIn excInitIn excOver clsIn takerIn)
/-! ### a class of errors, as the written part has it -/
structure XC (K : Frag) (C : Addr) : Prop where
  kd : ∃ bmB newId, Kd bmB newId ∧ excInitIn K C bmB newId = true ∧ excOver K C bmB = true
  sa : findIn K (.ref C) "__setattr__" = some (some (.builtin "object.__setattr__"))
  ga : findIn K (.ref C) "__getattribute__" = some (some (.builtin "BaseException.__getattribute__"))
  gg : findIn K (.ref C) "__getattr__" = some none
  ex : subIn K (.ref C) (.type "BaseException") = some true
  ty : typeIn K (.ref C) = some (.type "type")
  kp : keepIn K (.ref C) = true
  hd : hasDictIn K C = true
  cl : findIn K (.ref C) "__class__" = some (some (.builtin "object.__class__"))
  gt : specialIn K (.builtin "object.__class__") "__get__" = some (some (.builtin "getset_descriptor.__get__"))
  st : takesIn K (.builtin "object.__class__") = some true
  ob : mroIn K C (.type "object") = some true
def xcB (K : Frag) (C : Addr) (bmB : List Value) (newId : String) : Bool :=
  excInitIn K C bmB newId && (excOver K C bmB && (decide (findIn K (.ref C) "__setattr__" = some (some (.builtin "object.__setattr__")))
    && (decide (findIn K (.ref C) "__getattribute__" = some (some (.builtin "BaseException.__getattribute__"))) && (decide (findIn K (.ref C) "__getattr__" = some none)
    && (decide (subIn K (.ref C) (.type "BaseException") = some true) && (decide (typeIn K (.ref C) = some (.type "type")) && (keepIn K (.ref C) && (hasDictIn K C
    && (decide (findIn K (.ref C) "__class__" = some (some (.builtin "object.__class__"))) && (decide (specialIn K (.builtin "object.__class__") "__get__" = some (some (.builtin "getset_descriptor.__get__")))
    && (decide (takesIn K (.builtin "object.__class__") = some true) && decide (mroIn K C (.type "object") = some true))))))))))))
theorem xcB_ok {K : Frag} {C : Addr} {bmB : List Value} {newId : String} (k : Kd bmB newId) (h : xcB K C bmB newId = true) : XC K C := by
  unfold xcB at h
  simp only [Bool.and_eq_true, decide_eq_true_eq] at h
  obtain ⟨h1, h2, h3, h4, h5, h6, h7, h8, h9, h10, h11, h12, h13⟩ := h
  exact ⟨⟨_, _, k, h1, h2⟩, h3, h4, h5, h6, h7, h8, h9, h10, h11, h12, h13⟩
/-! ### self.name = v -/
section
variable {prog : Program} {w : World} {A : Around} {R : Result → Shared → Prop} {hp : Heap} {g : Array GenState} {d : Drawn} {t : Nat} {os : OsState}
theorem osaNew {K : Frag} {name : Str} {tk : Tok} {v : Value} {x C : Addr} {fv : Array Value} {S : String} {bmB : List Value} (SF : StoreFacts S bmB "object.__setattr__" "object")
    (X : K.In hp) (hx : hp.get? x = some { cls := .ref C, data := .fields fv }) (ov : excOver K C bmB = true) (hh : hasDictIn K C = true) (ha : findIn K (.ref C) name = some none)
    (hq : ∀ h' tk' dx, (∀ b o, b ≠ x → hp.get? b = some o → h'.get? b = some o) → hp.objs.size ≤ dx → dx ≠ x →
      h'.get? x = some { cls := .ref C, dict := some dx, data := .fields fv } → h'.Ns1 dx (fun y => if y = name then some v else none) → R (.ok (.ret .none)) ⟨h', g, d, tk', os⟩) :
    codeAny (model prog w) A (.call (.builtin "object.__setattr__") ⟨[.ref x, .str name tk, v], []⟩) R ⟨hp, g, d, t, os⟩ := by
  have hxs : x ≠ hp.objs.size := Nat.ne_of_lt (Heap.lt_size hx)
  have tkr : takerIn K C name = some none := by
    unfold PySem.W.takerIn
    rw [ha]
    rfl
  refine PySem.W.osa_openX (s := ⟨hp, g, d, t, os⟩) (od := none) SF X ⟨hx, rfl, rfl, trivial⟩ ov tkr fun b => ?_
  obtain ⟨cd, hcd, hdd⟩ := PySem.W.any_some hh
  have hcls : PySem.W.Looks (model prog w) hp (classData C) cd := PySem.W.looks_clsIn X hcd
  show wpAny _ _ (storeInOwnDict (.ref x) (.ref C) (.str name tk) name v b) _ _ _
  obtain ⟨nm, bs, mro, ns, qn, hd, sn, sb, ab, col, del⟩ := cd
  dsimp only at hdd
  subst hdd
  unfold storeInOwnDict ownDictForStores
  repeat (first
    | with_reducible refine HandSPX.store_in_new ?_ ?_
    | with_reducible refine wpAny_loadPart_at hx ?_
    | with_reducible refine hcls.at ?_
    | wp_step)
  · exact ⟨_, #[], _, (Heap.get?_update_ne _ _ _ _ hxs.symm).trans (Heap.get?_push_at rfl rfl), rfl, fun e he => absurd he (by simp), fun _ => rfl⟩
  · intro h' tk' hn' hs
    have hx1 : (hp.push { cls := .type "dict", data := .dict #[] }).get? x = some { cls := .ref C, data := .fields fv } := Heap.get?_push_of_some _ hx
    refine hq h' tk' hp.objs.size (fun b o hb ho => ?_) (Nat.le_refl _) hxs.symm ?_ hn'
    · refine (hs.2 b (Nat.ne_of_lt (Heap.lt_size ho))).trans ?_
      exact (Heap.get?_update_ne _ _ _ _ hb).trans (Heap.get?_push_of_some _ ho)
    · exact (hs.2 x hxs).trans (Heap.get?_update_self _ hx1 rfl)
theorem osaOld {K : Frag} {name : Str} {tk : Tok} {v : Value} {x C dx : Addr} {fv : Array Value} {m0 : Str → Option Value} {nl : List Str} {S : String} {bmB : List Value} (SF : StoreFacts S bmB "object.__setattr__" "object")
    (X : K.In hp) (hx : hp.get? x = some { cls := .ref C, dict := some dx, data := .fields fv }) (hns : hp.Ns1 dx m0) (hw : Within m0 nl) (hz : nl.length ≤ 1000)
    (ov : excOver K C bmB = true) (hh : hasDictIn K C = true) (ha : findIn K (.ref C) name = some none)
    (hq : ∀ h' tk', (∀ b o, b ≠ dx → hp.get? b = some o → h'.get? b = some o) → h'.Ns1 dx (fun y => if y = name then some v else m0 y) → R (.ok (.ret .none)) ⟨h', g, d, tk', os⟩) :
    codeAny (model prog w) A (.call (.builtin "object.__setattr__") ⟨[.ref x, .str name tk, v], []⟩) R ⟨hp, g, d, t, os⟩ := by
  obtain ⟨oD, esD, epD, hoD, hdD, _⟩ := hns.count hw
  have tkr : takerIn K C name = some none := by
    unfold PySem.W.takerIn
    rw [ha]
    rfl
  refine PySem.W.osa_openX (s := ⟨hp, g, d, t, os⟩) (od := some oD) SF X ⟨hx, rfl, rfl, hoD⟩ ov tkr fun b => ?_
  obtain ⟨cd, hcd, hdd⟩ := PySem.W.any_some hh
  have hcls : PySem.W.Looks (model prog w) hp (classData C) cd := PySem.W.looks_clsIn X hcd
  show wpAny _ _ (storeInOwnDict (.ref x) (.ref C) (.str name tk) name v b) _ _ _
  obtain ⟨nm, bs, mro, ns, qn, hd, sn, sb, ab, col, del⟩ := cd
  dsimp only at hdd
  subst hdd
  unfold storeInOwnDict ownDictForStores
  repeat (first
    | with_reducible refine OEX.store_in_old hns hw hz ?_
    | with_reducible refine wpAny_loadPart_at hx ?_
    | with_reducible refine hcls.at ?_
    | wp_step)
  intro h' tk' hn' hs
  exact hq h' tk' (fun b o hb ho => (hs.2 b hb).trans ho) hn'
end
end KX

set_option Elab.async false
set_option linter.all false
set_option maxRecDepth 100000
set_option maxHeartbeats 4000000
namespace KX
open PySem PySem.Spec PyProof.Rows L2
open PySem.W (Frag findIn subIn typeIn keepIn hasDictIn mroIn specialIn takesIn excInitIn excOver clsIn takerIn)
/-! ### stores, reads, isinstance, over the abstract heap -/
section
variable {X : Cx} {pins : List (Addr × Obj)} {σ : L2.St} {H : Hp} {s : Shared} {a C dx : Addr} {f : Str} {y : V} {u : Value} {fs : List (Str × V)} {E : Value → Shared → Prop} {A : Around}
theorem unTwo {hp h' : Heap} {dx : Addr} (e : H a = some (exo a C none)) (hnd : H dx = none) (dn : hp.objs.size ≤ dx) (k : ∀ b o, b ≠ a → hp.get? b = some o → h'.get? b = some o)
    (hx : ∃ o, h'.get? a = some o) : Un X.fs [] H (upd (upd H dx (exd dx fs)) a (exo a C (some dx))) hp h' := by
  have fresh : ∀ {b : Addr} {o : Obj}, hp.get? b = some o → b ≠ dx := fun q => Nat.ne_of_lt (Nat.lt_of_lt_of_le (Heap.lt_size q) dn)
  have off : ∀ {b : Addr}, H b = none → b ≠ a := fun n z => by
    rw [z, e] at n
    cases n
  constructor
  · exact fun b o q n _ _ => k b o (off n) q
  · exact fun b o q n _ _ => ⟨o.slots, k b o (off n) q⟩
  · intro b o q n _
    rw [upd_ne (off n), upd_ne (fresh q)]
    exact n
  · intro b o q _
    by_cases hb : b = a
    · rw [hb]
      exact hx
    · exact ⟨o, k b o hb q⟩
  · intro b xs q
    rw [upd_ne (at_ne e q exo_tup), upd_ne (ne_of_none q hnd)]
    exact q
  · intro b o v q
    rw [upd_ne (at_ne e q exo_frz), upd_ne (ne_of_none q hnd)]
    exact q
  · intro b ps q
    refine ⟨#[], ?_⟩
    rw [upd_ne (at_ne e q exo_tbl), upd_ne (ne_of_none q hnd), q]
    simp
theorem ostNew {Q : Unit → Shared → Prop} (T : XC X.K C) (I : Inv X pins σ H s) (e : H a = some (exo a C none)) (hno : findIn X.K (.ref C) f = some none) (ry : RelV y u)
    (h : ∀ dx s', H dx = none → dx ≠ a → Inv X pins σ (upd (upd H dx (exd dx [(f, y)])) a (exo a C (some dx))) s' → Q () s') :
    wpAny (model X.prog X.w) A (setAttr (.ref a) f u) Q E s := by
  obtain ⟨bmB, newId, ⟨_, S, SF⟩, _, ov⟩ := T.kd
  obtain ⟨t1, ho⟩ := exo_at I.hok e
  obtain ⟨hp, gs, dr, tk, os⟩ := s
  refine PySem.W.set_plain I.kIn (ox := HandSPX.excO C t1) (od := none) ⟨ho, rfl, rfl, trivial⟩ T.sa ?_
  refine osaNew SF I.kIn ho ov T.hd hno (fun h' tk' dx k dn dne hx hn => ?_)
  have hnd : H dx = none := I.hok.fresh dn
  refine h dx _ hnd dne (I.un (t' := tk') (unTwo e hnd dn k ⟨_, hx⟩) fun b o q => ?_)
  by_cases hb : b = a
  · subst hb
    rw [upd_same] at q
    cases q
    exact exo_ok hx
  · rw [upd_ne hb] at q
    by_cases hd : b = dx
    · subst hd
      rw [upd_same] at q
      cases q
      exact exd_ok hn (relO_put (fs := []) ry fun _ => True.intro)
    · rw [upd_ne hd] at q
      refine (I.hok b o q).stay (fun c v hc z => k c v ?_ z) (fun c hc => ?_) fun c xs hc => ?_
      · rcases hc with hc | hc
        · rw [hc]
          exact hb
        · exact at_ne e hc exo_own
      · rw [upd_ne (at_ne e hc exo_own), upd_ne (ne_of_none hc hnd)]
        exact hc
      · rw [upd_ne (at_ne e hc exo_tup), upd_ne (ne_of_none hc hnd)]
        exact hc
theorem ostOld {Q : Unit → Shared → Prop} (T : XC X.K C) (I : Inv X pins σ H s) (e : H a = some (exo a C (some dx))) (ed : H dx = some (exd dx fs)) (hl : fs.length ≤ 900) (hno : findIn X.K (.ref C) f = some none) (ry : RelV y u)
    (h : ∀ s', Inv X pins σ (upd H dx (exd dx ((f, y) :: fs))) s' → Q () s') :
    wpAny (model X.prog X.w) A (setAttr (.ref a) f u) Q E s := by
  obtain ⟨bmB, newId, ⟨_, S, SF⟩, _, ov⟩ := T.kd
  obtain ⟨t1, ho⟩ := exo_at I.hok e
  obtain ⟨mA, hns, rel⟩ := exd_at I.hok ed
  have hw := within_of rel
  obtain ⟨hp, gs, dr, tk, os⟩ := s
  obtain ⟨oD, _, _, hoD, _, _⟩ := hns.count hw
  refine PySem.W.set_plain I.kIn (ox := { HandSPX.excO C t1 with dict := some dx }) (od := some oD) ⟨ho, rfl, rfl, hoD⟩ T.sa ?_
  refine osaOld SF I.kIn ho hns hw (by rw [List.length_map]; omega) ov T.hd hno (fun h' tk' k hn => ?_)
  have there : ∃ o, h'.get? dx = some o := by
    obtain ⟨o, _, _, e', _⟩ := hn
    exact ⟨o, e'⟩
  refine h _ (I.write (t' := tk') (x := dx) (e := dx) (o := exd dx ((f, y) :: fs)) ?_ (.inl rfl) k there (exd_ok hn (relO_put ry rel)))
  rw [ed]
  exact True.intro
/-- at e: an error of the class at C whose dict holds fs | that has no dict -/
def ErD (H : Hp) (e C : Addr) (fs : List (Str × V)) : Prop := ∃ d, H e = some (exo e C (some d)) ∧ H d = some (exd d fs)
def Er0 (H : Hp) (e C : Addr) : Prop := H e = some (exo e C none)
def Er (H : Hp) (e C : Addr) : Prop := Er0 H e C ∨ ∃ fs, ErD H e C fs
theorem ErD.same {H H' : Hp} {e C : Addr} {fs : List (Str × V)} (k : Same H H') : ErD H e C fs → ErD H' e C fs := fun ⟨d, h1, h2⟩ => ⟨d, k _ _ h1, k _ _ h2⟩
theorem Er0.same {H H' : Hp} {e C : Addr} (k : Same H H') : Er0 H e C → Er0 H' e C := fun h => k _ _ h
theorem Er.same {H H' : Hp} {e C : Addr} (k : Same H H') : Er H e C → Er H' e C
  | .inl h => .inl (h.same k)
  | .inr ⟨fs, h⟩ => .inr ⟨fs, h.same k⟩
/-- an error as an instance -/
theorem Er.inst (I : Inv X pins σ H s) {e C : Addr} (h : Er H e C) : ∃ ox od, PySem.W.InstAt s.heap e ox C od := by
  rcases h with h | ⟨fs, d, h1, h2⟩
  · obtain ⟨t1, ho⟩ := exo_at I.hok h
    exact ⟨_, none, ho, rfl, rfl, trivial⟩
  · obtain ⟨t1, ho⟩ := exo_at I.hok h1
    obtain ⟨mA, hns, rel⟩ := exd_at I.hok h2
    obtain ⟨oD, _, _, hoD, _, _⟩ := hns.count (within_of rel)
    exact ⟨_, some oD, ho, rfl, rfl, hoD⟩
/-- isinstance(e, c), c one class -/
def rIsX (K : Frag) : List V → Hp → VK → Prop := fun xs H Q => ∃ (e C : Addr) (c : V) (cv : Value) (b : Bool), xs = [.ref e, c] ∧ Er H e C ∧ XC K C ∧ ClsV c cv ∧ PySem.W.kitOne K (.ref C) cv = some b ∧ Q (.bl b) H
theorem callIsX : CallR X (.builtin "isinstance") (rIsX X.K) := by
  intro pins s σ H xs us Q I r h
  obtain ⟨e, C, c, cv, b, rfl, he, T, hc, ans, q⟩ := h
  obtain ⟨u1, u2, rfl, r1, r2⟩ := vals2 r
  have e2 := hc.eq r2
  subst e2
  cases (show u1 = Value.ref e from r1)
  obtain ⟨ox, od, J⟩ := he.inst I
  have hcl : (clsIn X.K C).isSome = true := by
    obtain ⟨cd, hcd, _⟩ := PySem.W.any_some T.hd
    rw [hcd]
    rfl
  exact PySem.W.kia_one (PySem.W.kitx_exc hcl T.ga T.gg T.ex T.cl T.gt T.st T.ob) I.kIn J ans (fun z => nomatch z) fun tk => ⟨.bl b, H, I.tok tk, rfl, q⟩
/-- e.f, e an error that is held -/
def tXfld (K : Frag) (f : Str) (te : TE) : TE := fun σ H Q => te σ H fun x H1 => ∃ (e C : Addr) (fs : List (Str × V)) (v : V), x = .ref e ∧ ErD H1 e C fs ∧ XC K C ∧ findIn K (.ref C) f = some none ∧ fs.lookup f = some v ∧ Q v H1
theorem peXfld {o : Expr} {te : TE} {pos : Pos} (ho : PE X o te) (hb : attributeBase o f X.env (eval o X.env) = eval o X.env := by rfl) : PE X (.Attribute o f pos) (tXfld X.K f te) := by
  refine ⟨fun pins s σ H Q I h => ?_⟩
  refine attr_of hb (thn (ho.run pins s σ H _ I h) fun w s1 hh => ?_)
  obtain ⟨x, H1, I1, rx, e, C, fs, v, ex, ⟨d, h1, h2⟩, T, hno, l, q⟩ := hh
  subst ex
  cases (show w = Value.ref e from rx)
  obtain ⟨t1, he⟩ := exo_at I1.hok h1
  obtain ⟨mA, hns, rel⟩ := exd_at I1.hok h2
  obtain ⟨od, hod, hl⟩ := lookIn_ns hns
  obtain ⟨u, hu, ru⟩ := RelO.some_of (v := v) (o := mA f) (by rw [← l]; exact rel f)
  have J : PySem.W.InstAt s1.heap e { HandSPX.excO C t1 with dict := some d } C (some od) := ⟨he, rfl, rfl, hod⟩
  exact HandSPX.exc_get I1.kIn J T.ga T.gg T.ex (PySem.W.findObj_own T.hd hno rfl (by rw [hl, hu])) (handed_of ru) ⟨v, H1, I1.tok _, ru, q⟩
/-- self.f = e -/
def tOstX (K : Frag) (f : Str) (to te : TE) : TS := fun D σ H => te σ H fun y H1 => to σ H1 fun x H2 => ∃ a C : Addr, x = .ref a ∧ XC K C ∧ findIn K (.ref C) f = some none ∧
  ((H2 a = some (exo a C none) ∧ ∀ dx, H2 dx = none → dx ≠ a → D.nx σ (upd (upd H2 dx (exd dx [(f, y)])) a (exo a C (some dx)))) ∨
    ∃ (dx : Addr) (fs : List (Str × V)), H2 a = some (exo a C (some dx)) ∧ H2 dx = some (exd dx fs) ∧ fs.length ≤ 900 ∧ D.nx σ (upd H2 dx (exd dx ((f, y) :: fs))))
theorem psOstX {o e : Expr} {to te : TE} {p' pos : Pos} (ho : PE X o to) (he : PE X e te) (hs : swapsWith e (some (.Attribute o f p')) pos.line X.env = pure false := by rfl) : PS X (.Assign [.Attribute o f p'] e pos) (tOstX X.K f to te) := by
  refine ⟨fun pins s σ H D I h => ?_⟩
  refine plainObj_wpAny_Assign_Attribute (thn (he.run pins s σ H _ I h) fun v s1 ⟨y, H1, I1, r1, q1⟩ => ?_) hs
  refine thn (ho.run pins s1 σ H1 _ I1 q1) fun u s2 ⟨x, H2, I2, r2, a, C, ex, T, hno, q⟩ => ?_
  subst ex
  cases (show u = Value.ref a from r2)
  rcases q with ⟨ea, q⟩ | ⟨dx, fs, ea, ed, hl, q⟩
  · exact ostNew T I2 ea hno r1 fun dx s' n ne J => ⟨σ, _, J, q dx n ne⟩
  · exact ostOld T I2 ea ed hl hno r1 fun s' J => ⟨σ, _, J, q⟩
end
end KX

set_option Elab.async false
set_option linter.all false
set_option maxRecDepth 100000
set_option maxHeartbeats 4000000
namespace KX
open PySem PySem.Spec PyProof.Rows L2
open PySem.W (Frag findIn subIn typeIn keepIn hasDictIn mroIn specialIn takesIn excInitIn excOver clsIn takerIn)
/-! ### C(e, ..), an error with an __init__ of its own -/
section
variable {X : Cx} {CX : CXT} {k n : Nat} {fI C : Addr} {fd : FuncData} {ps ks : List Str} {sp : Sp} {g : List Value → List Value → List Value} {gV : List V → List V → List V}
variable {pins : List (Addr × Obj)} {σ : L2.St} {H : Hp} {s : Shared} {us ws : List Value} {vs zs : List V}
/-- the making, down to the __init__: R what is wanted of its end -/
theorem mkRun {R : Value → Shared → Prop} {Er' : Value → Shared → Prop} {E : XK} {Qi : Addr → VK} (T : XC X.K C) (iC : findIn X.K (.ref C) "__init__" = some (some (.ref fI))) (tI : typeIn X.K (.ref fI) = some (.type "function"))
    (F : FnOk X.prog X.w X.K X.mg X.base CX k fI fd ps sp) (hr : Room (k + 1) X.A) (hb : KBn X.K fd ps (n + 1) ks g gV) (I : Inv X pins σ H s) (r : Vals vs us) (rz : Vals zs ws)
    (l1 : vs.length = n) (l2 : zs.length = ks.length) (small : n ≤ 1000)
    (h : ∀ a, H a = none → s.heap.objs.size ≤ a → sp (gV (.ref a :: vs) zs) (upd H a (exo a C none)) (Qi a) E)
    (q : ∀ a t' h0 r' s', H a = none → s.heap.objs.size ≤ a → (∀ b o, s.heap.get? b = some o → h0.get? b = some o) → Inv X pins σ (upd H a (exo a C none)) { s with heap := h0, toks := t' } →
      CR CX X.stack X.prog X.w (upd H a (exo a C none)) { s with heap := h0, toks := t' } (Qi a) E r' s' →
      W.InitBack a (fun r s' => match r with | .ok (.ret v) => R v s' | .ok _ => False | .error e => Er' e s') r' s') :
    wpAny (model X.prog X.w) X.A (call (.ref C) us (ks.zip ws)) R Er' s := by
  obtain ⟨bmB, newId, ⟨⟨B, initId, bmF, F0, hB, hA, hN⟩, _⟩, qI, _⟩ := T.kd
  obtain ⟨nm, N, qn, bs, bm, hdct, sn, sub, ab, col, dd, k0, k1, k2, k3, k5, hC, hT⟩ := PySem.W.excInit_of I.kIn qI
  obtain ⟨hp, gs, dr, tk, os⟩ := s
  have hsz : hp.objs.size ≤ hp.objs.size + 1 := Nat.le_succ _
  have free : H (hp.objs.size + 1) = none := I.hok.fresh hsz
  have hq := h (hp.objs.size + 1) free hsz
  have kk : ∀ b o, hp.get? b = some o → ((hp.push (PySem.W.kdv_tup us)).push (HandSPX.excO C hp.objs.size)).get? b = some o := fun b o e =>
    Heap.get?_push_of_some _ (Heap.get?_push_of_some _ e)
  have there : ((hp.push (PySem.W.kdv_tup us)).push (HandSPX.excO C hp.objs.size)).get? (hp.objs.size + 1) = some (HandSPX.excO C hp.objs.size) := by
    heap_get
  have I2 : Inv X pins σ (upd H (hp.objs.size + 1) (exo (hp.objs.size + 1) C none)) ⟨(hp.push (PySem.W.kdv_tup us)).push (HandSPX.excO C hp.objs.size), gs, dr, tk, os⟩ :=
    I.laid (t' := tk) (a := hp.objs.size + 1) (o := exo (hp.objs.size + 1) C none) kk hsz (exo_ok there)
  have r1 : Vals (V.ref (hp.objs.size + 1) :: vs) (Value.ref (hp.objs.size + 1) :: us) := .cons rfl r
  have r2 := hb.rel r1 rz
  have e1 : (Value.ref (hp.objs.size + 1) :: us).length = n + 1 := r1.length.symm.trans (congrArg Nat.succ l1)
  have e2 : ws.length = ks.length := rz.length.symm.trans l2
  have lus : us.length ≤ sizeLine := by
    rw [← Paired.length r, sizeLine_eq]
    omega
  refine wpAny_call (callG F0 (by rw [hT]; exact hB) (by rw [hT]; exact hA) (by rw [hT]; exact hN) hC (PySem.W.looks_findIn I.kIn iC) (fun self => PySem.W.bind_fn I.kIn self tI) lus ?_)
  refine codeAny_mono (F.run _ X.stack _ _ ⟨Value.ref (hp.objs.size + 1) :: us, ks.zip ws⟩ (g (Value.ref (hp.objs.size + 1) :: us) ws) _ _ E (hr.make C us (ks.zip ws)) (I2.env0.make C us (ks.zip ws)) (hb.to _ _ ws I2.kIn e1 e2) r2 hq) fun r' s' z => ?_
  exact q _ tk _ r' s' free hsz kk I2 z
theorem runMkX {Q : VK} {E : XK} (T : XC X.K C) (iC : findIn X.K (.ref C) "__init__" = some (some (.ref fI))) (tI : typeIn X.K (.ref fI) = some (.type "function"))
    (F : FnOk X.prog X.w X.K X.mg X.base CX k fI fd ps sp) (hr : Room (k + 1) X.A) (hb : KBn X.K fd ps (n + 1) ks g gV) (hx : Passes CX X E) (I : Inv X pins σ H s) (r : Vals vs us) (rz : Vals zs ws)
    (l1 : vs.length = n) (l2 : zs.length = ks.length) (small : n ≤ 1000)
    (h : ∀ a, H a = none → sp (gV (.ref a :: vs) zs) (upd H a (exo a C none)) (fun v H2 => v = .non ∧ Q (.ref a) H2) E) :
    wpAny (model X.prog X.w) X.A (call (.ref C) us (ks.zip ws)) (EP X pins σ Q) X.xe s := by
  refine mkRun (Qi := fun a v H2 => v = .non ∧ Q (.ref a) H2) T iC tI F hr hb I r rz l1 l2 small (E := E) (fun a ha _ => h a ha) ?_
  intro a t' h0 r' s' _ _ _ I2 z
  cases r' with
  | error e => exact hx pins σ _ _ e s' I2 z
  | ok fl =>
    cases fl with
    | ret u =>
      obtain ⟨v, H', I3, rv, ev, q3⟩ := I2.after z
      subst ev
      exact ⟨rv, ⟨V.ref a, H', I3, rfl, q3⟩⟩
    | next => exact False.elim z
    | brk => exact False.elim z
    | cont => exact False.elim z
theorem runMkE {Q : XK} (T : XC X.K C) (iC : findIn X.K (.ref C) "__init__" = some (some (.ref fI))) (tI : typeIn X.K (.ref fI) = some (.type "function"))
    (F : FnOk X.prog X.w X.K X.mg X.base CX k fI fd ps sp) (hr : Room (k + 1) X.A) (hb : KBn X.K fd ps (n + 1) ks g gV) (hx : Passes CX X (fun _ _ _ => False)) (I : Inv X pins σ H s) (r : Vals vs us) (rz : Vals zs ws)
    (l1 : vs.length = n) (l2 : zs.length = ks.length) (small : n ≤ 1000)
    (h : ∀ a, H a = none → sp (gV (.ref a :: vs) zs) (upd H a (exo a C none)) (fun v H2 => v = .non ∧ ∃ (d : Addr) (fs : List (Str × V)), H2 a = some (exo a C (some d)) ∧ H2 d = some (exd d fs) ∧ H d = none ∧ Q (.ref C) (some d) (upd (del H2 a) d (.xd fs))) (fun _ _ _ => False)) :
    wpAny (model X.prog X.w) X.A (call (.ref C) us (ks.zip ws)) (MkP X pins σ Q) X.xe s := by
  refine mkRun (Qi := fun a v H2 => v = .non ∧ ∃ (d : Addr) (fs : List (Str × V)), H2 a = some (exo a C (some d)) ∧ H2 d = some (exd d fs) ∧ H d = none ∧ Q (.ref C) (some d) (upd (del H2 a) d (.xd fs)))
    T iC tI F hr hb I r rz l1 l2 small (fun a ha _ => h a ha) ?_
  intro a t' h0 r' s' _ ge kk I2 z
  cases r' with
  | error e => exact hx pins σ _ _ e s' I2 z
  | ok fl =>
    cases fl with
    | ret u =>
      obtain ⟨v, H2, os2, bare2, un2, hok2, rv, ev, d, fs, ea, ed, hd1, q2⟩ := z
      subst ev
      obtain ⟨hp, g1, d1, t1, o1⟩ := s
      obtain ⟨h2, g2, d2, t2, os'⟩ := s'
      exact ⟨rv, mk_end (raises_own T.ex T.ty) I ge kk un2 hok2 os2 bare2 ea ed hd1 q2⟩
    | next => exact False.elim z
    | brk => exact False.elim z
    | cont => exact False.elim z
end
end KX

set_option Elab.async false
set_option linter.all false
set_option maxRecDepth 100000
set_option maxHeartbeats 4000000
namespace KX
open PySem PySem.Spec PyProof.Rows L2
open PySem.W (Frag findIn subIn typeIn keepIn hasDictIn mroIn specialIn takesIn excInitIn excOver clsIn takerIn)
theorem sameUpd {H : Hp} {p : Addr} {o : HO} (h : H p = none) : Same H (upd H p o) := fun b x e => by
  rw [upd_ne (ne_of_none e h)]
  exact e
/-- __init__(self, f): self.f = f -/
def spIni (K : Frag) (f : Str) : Sp := fun vs H Q _ => ∃ (a C : Addr) (v : V), vs = [.ref a, v] ∧ XC K C ∧ findIn K (.ref C) f = some none ∧ H a = some (exo a C none) ∧
  ∀ dx, H dx = none → dx ≠ a → Q .non (upd (upd H dx (exd dx [(f, v)])) a (exo a C (some dx)))
def spIni2 (K : Frag) (f f2 : Str) : Sp := fun vs H Q _ => ∃ (a C : Addr) (v v2 : V), vs = [.ref a, v, v2] ∧ XC K C ∧ findIn K (.ref C) f = some none ∧ findIn K (.ref C) f2 = some none ∧ H a = some (exo a C none) ∧
  ∀ dx H', Same H (upd H' a (exo a C none)) → H' a = some (exo a C (some dx)) → H' dx = some (exd dx [(f2, v2), (f, v)]) → H dx = none → Q .non H'
section
variable {P : Program} {w : World} {K : Frag} {mg : Str → Option Value} {base : Heap} {fI : Addr} {fd : FuncData} {q f f2 : Str} {params : Arguments} {scope : Scope}
theorem okIni {p1 p2 p3 p4 : Pos} (Fd : FunD K "__init__" q params [.Assign [.Attribute (.Name "self" p1) f p2] (.Name f p3) p4] scope [] [] fI fd) (S : FnScope ["self", f] ["self", f] scope)
    (v0 : scope.names.lookup ("self" : Str) = some .local) (v1 : scope.names.lookup f = some .local) (d1 : (f == ("__debug__" : Str)) = false) (d2 : (f == ("__classdict__" : Str)) = false) :
    FnOk P w K mg base CX0 1 fI fd ["self", f] (spIni K f) := by
  refine Fd.ok S (fun vs H Q E h => ?_) (fun cdv A outer s H vs Q E hr h => ?_)
  · obtain ⟨a, C, v, rfl, _⟩ := h
    rfl
  · refine ⟨_, PSs.nox (pss_one (psOstX (pe_var (i := 0) rfl (.inl v0)) (pe_var (i := 1) rfl (.inl v1) d1 d2))), ?_⟩
    obtain ⟨a, C, v, rfl, T, hno, ha, k⟩ := h
    exact ⟨v, rfl, .ref a, rfl, a, C, rfl, T, hno, .inl ⟨ha, fun dx n ne => k dx n ne⟩⟩
theorem okIni2 {p1 p2 p3 p4 q1 q2 q3 q4 : Pos} (Fd : FunD K "__init__" q params [.Assign [.Attribute (.Name "self" p1) f p2] (.Name f p3) p4, .Assign [.Attribute (.Name "self" q1) f2 q2] (.Name f2 q3) q4] scope [] [] fI fd)
    (S : FnScope ["self", f, f2] ["self", f, f2] scope)
    (v0 : scope.names.lookup ("self" : Str) = some .local) (v1 : scope.names.lookup f = some .local) (v2 : scope.names.lookup f2 = some .local) (d1 : (f == ("__debug__" : Str)) = false) (d2 : (f == ("__classdict__" : Str)) = false)
    (d3 : (f2 == ("__debug__" : Str)) = false) (d4 : (f2 == ("__classdict__" : Str)) = false) : FnOk P w K mg base CX0 1 fI fd ["self", f, f2] (spIni2 K f f2) := by
  refine Fd.ok S (fun vs H Q E h => ?_) (fun cdv A outer s H vs Q E hr h => ?_)
  · obtain ⟨a, C, v, w, rfl, _⟩ := h
    rfl
  · refine ⟨_, PSs.nox (pss_cons (psOstX (pe_var (i := 0) rfl (.inl v0)) (pe_var (i := 1) rfl (.inl v1) d1 d2)) (pss_one (psOstX (pe_var (i := 0) rfl (.inl v0)) (pe_var (i := 2) rfl (.inl v2) d3 d4)))), ?_⟩
    obtain ⟨a, C, v, w, rfl, T, hno, hno2, ha, k⟩ := h
    refine ⟨v, rfl, .ref a, rfl, a, C, rfl, T, hno, .inl ⟨ha, fun dx n ne => ?_⟩⟩
    refine ⟨w, rfl, .ref a, rfl, a, C, rfl, T, hno2, .inr ⟨dx, [(f, v)], upd_same, ?_, (by show 1 ≤ 900; decide), ?_⟩⟩
    · rw [upd_ne ne, upd_same]
    · refine k dx _ (fun b o e => ?_) ?_ upd_same n
      · by_cases hb : b = a
        · rw [hb, upd_same, ← ha, ← hb, e]
        · have hd : b ≠ dx := ne_of_none e n
          rw [upd_ne hb, upd_ne hd, upd_ne hb, upd_ne hd]
          exact e
      · rw [upd_ne (Ne.symm ne), upd_same]
end
/-- the class x of errors with one field f; with two | with none of its own -/
structure Cl1 (P : Program) (w : World) (K : Frag) (mg : Str → Option Value) (base : Heap) (x : Str) (C : Addr) (f : Str) : Prop where
  xc : XC K C
  gm : mg x = some (.ref C)
  no : findIn K (.ref C) f = some none
  ini : ∃ fI fd, findIn K (.ref C) "__init__" = some (some (.ref fI)) ∧ typeIn K (.ref fI) = some (.type "function") ∧ FnOk P w K mg base CX0 1 fI fd ["self", f] (spIni K f) ∧
    KBn K fd ["self", f] 2 [] (fun us _ => us) (fun vs _ => vs) ∧ KBn K fd ["self", f] 1 [f] (fun us ws => us ++ ws) (fun vs zs => vs ++ zs)
structure Cl2 (P : Program) (w : World) (K : Frag) (mg : Str → Option Value) (base : Heap) (x : Str) (C : Addr) (f f2 : Str) : Prop where
  xc : XC K C
  gm : mg x = some (.ref C)
  no : findIn K (.ref C) f = some none
  no2 : findIn K (.ref C) f2 = some none
  ini : ∃ fI fd, findIn K (.ref C) "__init__" = some (some (.ref fI)) ∧ typeIn K (.ref fI) = some (.type "function") ∧ FnOk P w K mg base CX0 1 fI fd ["self", f, f2] (spIni2 K f f2) ∧
    KBn K fd ["self", f, f2] 3 [] (fun us _ => us) (fun vs _ => vs) ∧ KBn K fd ["self", f, f2] 1 [f2, f] (fun us ws => us ++ ws.reverse) (fun vs zs => vs ++ zs.reverse)
structure Cl0 (K : Frag) (mg : Str → Option Value) (x : Str) (C : Addr) : Prop where
  xc : XC K C
  gm : mg x = some (.ref C)
  own : PySem.W.excIn K C veB "ValueError.__new__" = true
section
variable {X : Cx} {C : Addr} {x f f2 : Str} {p pos : Pos} {e e2 : Expr} {te : TE} {ta : TA} {k1 k2 : Pos}
/-- C(e) -/
def tMk1 (C : Addr) (f : Str) (ta : TA) : TE := fun σ H Q => ta σ H fun vs H1 => ∃ v, vs = [v] ∧ ∀ a H2, H1 a = none → Same H1 H2 → ErD H2 a C [(f, v)] → Q (.ref a) H2
theorem mk1_end {H1 : Hp} {Q : VK} {v : V} (T : XC X.K C) (no : findIn X.K (.ref C) f = some none) (q : ∀ a H2, H1 a = none → Same H1 H2 → ErD H2 a C [(f, v)] → Q (.ref a) H2) (a : Addr) (ha : H1 a = none) :
    spIni X.K f [.ref a, v] (upd H1 a (exo a C none)) (fun v H2 => v = .non ∧ Q (.ref a) H2) E0 := by
  refine ⟨a, C, v, rfl, T, no, upd_same, fun dx hdx hne => ⟨rfl, ?_⟩⟩
  have n1 : H1 dx = none := by
    rw [upd_ne hne] at hdx
    exact hdx
  refine q a _ ha (fun b o hb => ?_) ⟨dx, upd_same, ?_⟩
  · have b1 := ne_of_none hb ha
    have b2 := ne_of_none hb n1
    rw [upd_ne b1, upd_ne b2, upd_ne b1]
    exact hb
  · rw [upd_ne hne, upd_same]
theorem peMk1 (T : Cl1 X.prog X.w X.K X.mg X.base x C f) (hr : Room 2 X.A) (hg : Gl X x) (ha : PA X [e] ta) (hdb : (x == ("__debug__" : Str)) = false := by decide)
    (he : starEach [e] X.env = (false, eval e X.env) :: starEach [] X.env := by rfl) (hpl : (backTo pos (starEach [] X.env)).any (·.1) = false := by rfl) :
    PE X (.Call (.Name x p) [e] [] pos) (tMk1 C f ta) := by
  refine ⟨fun pins s σ H Q I h => ?_⟩
  obtain ⟨fI, fd, iC, tI, F, hb, _⟩ := T.ini
  refine wpAny_Call_Name_kw (ld_glob I hg T.gm ?_ hdb)
  refine PySem.W.callWith_K (h₀ := X.base) I.ok.mod.kin T.xc.kp (thn (ha.run pos pins s σ H _ I h) fun us s1 ⟨vs, H1, I1, r, v, ev, q⟩ => ⟨I1.kIn, ?_⟩) he hpl
  subst ev
  exact runMkX (n := 1) (ks := []) (ws := []) (zs := []) T.xc iC tI F hr hb pass0 I1 r .nil rfl rfl (by decide) (fun a ha => mk1_end T.xc T.no q a ha)
/-- C(f = e) -/
theorem peMk1K (T : Cl1 X.prog X.w X.K X.mg X.base x C f) (hr : Room 2 X.A) (hg : Gl X x) (ha : PK X [⟨some f, e, k1⟩] ta) (hdb : (x == ("__debug__" : Str)) = false := by decide)
    (hall : (backToKw pos (keywordEach [⟨some f, e, k1⟩] X.env)).all (·.1.isSome) = true := by rfl) (hks : (backToKw pos (keywordEach [⟨some f, e, k1⟩] X.env)).filterMap (·.1) = [f] := by rfl)
    (hpl : ((backTo pos (starEach [] X.env)).any (·.1) || (backToKw pos (keywordEach [⟨some f, e, k1⟩] X.env)).any (·.1.isNone)) = false := by rfl) :
    PE X (.Call (.Name x p) [] [⟨some f, e, k1⟩] pos) (tMk1 C f ta) := by
  refine ⟨fun pins s σ H Q I h => ?_⟩
  obtain ⟨fI, fd, iC, tI, F, _, hb⟩ := T.ini
  refine wpAny_Call_Name_kw (ld_glob I hg T.gm ?_ hdb)
  refine PySem.W.callWith_KW0 (h₀ := X.base) I.ok.mod.kin T.xc.kp hall (thn (ha.run pos pins s σ H _ I h) fun ws s1 ⟨zs, H1, I1, rz, v, ev, q⟩ => ⟨I1.kIn, ?_⟩) hpl
  subst ev
  rw [hks]
  exact runMkX (n := 0) (ks := [f]) (us := []) (vs := []) T.xc iC tI F hr hb pass0 I1 .nil rz rfl rfl (by decide) (fun a ha => mk1_end T.xc T.no q a ha)
/-- C(e, e2) -/
def tMk2 (C : Addr) (f f2 : Str) (ta : TA) : TE := fun σ H Q => ta σ H fun vs H1 => ∃ v v2, vs = [v, v2] ∧ ∀ a H2, H1 a = none → Same H1 H2 → ErD H2 a C [(f2, v2), (f, v)] → Q (.ref a) H2
theorem mk2_end {H1 : Hp} {Q : VK} {v v2 : V} (T : XC X.K C) (no : findIn X.K (.ref C) f = some none) (no2 : findIn X.K (.ref C) f2 = some none) (q : ∀ a H2, H1 a = none → Same H1 H2 → ErD H2 a C [(f2, v2), (f, v)] → Q (.ref a) H2) (a : Addr) (ha : H1 a = none) :
    spIni2 X.K f f2 [.ref a, v, v2] (upd H1 a (exo a C none)) (fun v H2 => v = .non ∧ Q (.ref a) H2) E0 := by
  refine ⟨a, C, v, v2, rfl, T, no, no2, upd_same, fun dx H' sm h1 h2 hdx => ⟨rfl, ?_⟩⟩
  refine q a _ ha (fun b o hb => ?_) ⟨dx, h1, h2⟩
  have b1 := ne_of_none hb ha
  have z := sm b o (by rw [upd_ne b1]; exact hb)
  rw [upd_ne b1] at z
  exact z
theorem peMk2 (T : Cl2 X.prog X.w X.K X.mg X.base x C f f2) (hr : Room 2 X.A) (hg : Gl X x) (ha : PA X [e, e2] ta) (hdb : (x == ("__debug__" : Str)) = false := by decide)
    (he : starEach [e, e2] X.env = (false, eval e X.env) :: starEach [e2] X.env := by rfl) (hpl : (backTo pos (starEach [e2] X.env)).any (·.1) = false := by rfl) :
    PE X (.Call (.Name x p) [e, e2] [] pos) (tMk2 C f f2 ta) := by
  refine ⟨fun pins s σ H Q I h => ?_⟩
  obtain ⟨fI, fd, iC, tI, F, hb, _⟩ := T.ini
  refine wpAny_Call_Name_kw (ld_glob I hg T.gm ?_ hdb)
  refine PySem.W.callWith_K (h₀ := X.base) I.ok.mod.kin T.xc.kp (thn (ha.run pos pins s σ H _ I h) fun us s1 ⟨vs, H1, I1, r, v, v2, ev, q⟩ => ⟨I1.kIn, ?_⟩) he hpl
  subst ev
  exact runMkX (n := 2) (ks := []) (ws := []) (zs := []) T.xc iC tI F hr hb pass0 I1 r .nil rfl rfl (by decide) (fun a ha => mk2_end T.xc T.no T.no2 q a ha)
/-- C(f2 = e, f = e2) -/
def tMk2K (C : Addr) (f f2 : Str) (ta : TA) : TE := fun σ H Q => ta σ H fun vs H1 => ∃ v v2, vs = [v2, v] ∧ ∀ a H2, H1 a = none → Same H1 H2 → ErD H2 a C [(f2, v2), (f, v)] → Q (.ref a) H2
theorem peMk2K (T : Cl2 X.prog X.w X.K X.mg X.base x C f f2) (hr : Room 2 X.A) (hg : Gl X x) (ha : PK X [⟨some f2, e, k1⟩, ⟨some f, e2, k2⟩] ta) (hdb : (x == ("__debug__" : Str)) = false := by decide)
    (hall : (backToKw pos (keywordEach [⟨some f2, e, k1⟩, ⟨some f, e2, k2⟩] X.env)).all (·.1.isSome) = true := by rfl) (hks : (backToKw pos (keywordEach [⟨some f2, e, k1⟩, ⟨some f, e2, k2⟩] X.env)).filterMap (·.1) = [f2, f] := by rfl)
    (hpl : ((backTo pos (starEach [] X.env)).any (·.1) || (backToKw pos (keywordEach [⟨some f2, e, k1⟩, ⟨some f, e2, k2⟩] X.env)).any (·.1.isNone)) = false := by rfl) :
    PE X (.Call (.Name x p) [] [⟨some f2, e, k1⟩, ⟨some f, e2, k2⟩] pos) (tMk2K C f f2 ta) := by
  refine ⟨fun pins s σ H Q I h => ?_⟩
  obtain ⟨fI, fd, iC, tI, F, _, hb⟩ := T.ini
  refine wpAny_Call_Name_kw (ld_glob I hg T.gm ?_ hdb)
  refine PySem.W.callWith_KW0 (h₀ := X.base) I.ok.mod.kin T.xc.kp hall (thn (ha.run pos pins s σ H _ I h) fun ws s1 ⟨zs, H1, I1, rz, v, v2, ev, q⟩ => ⟨I1.kIn, ?_⟩) hpl
  subst ev
  rw [hks]
  exact runMkX (n := 0) (ks := [f2, f]) (us := []) (vs := []) T.xc iC tI F hr hb pass0 I1 .nil rz rfl rfl (by decide) (fun a ha => mk2_end T.xc T.no T.no2 q a ha)
/-- C(), no __init__ of its own -/
def tMk0 (C : Addr) : TE := fun _ H Q => ∀ a, H a = none → Q (.ref a) (upd H a (exo a C none))
theorem peMk0 (T : Cl0 X.K X.mg x C) (hg : Gl X x) (hdb : (x == ("__debug__" : Str)) = false := by decide) : PE X (.Call (.Name x p) [] [] pos) (tMk0 C) := by
  refine ⟨fun pins s σ H Q I h => ?_⟩
  refine wpAny_Call_Name_kw (ld_glob I hg T.gm ?_ hdb)
  refine PySem.W.callWith_K0 I.kIn T.xc.kp ?_
  show wpAny _ _ (call (.ref C) []) _ _ _
  obtain ⟨bm, N, nm, qn, bs, hdct, sn, sub, ab, col, dd, k0, k1, k2, k3, k5, mN, hC, hN, hni, O⟩ := exc_obj I.kIn T.own
  refine wpAny_call_exc_subT F.excBase_ValueError O hC hN hni (fun h' a hm => ?_) (Nat.zero_le _)
  have hn : H a = none := I.hok.gone hm.new
  obtain ⟨t, ht, _, _⟩ := hm.there
  exact ⟨.ref a, upd H a (exo a C none), I.laidN hm.keeps hm.new hn (exo_ok ht), rfl, h a hn⟩
/-- raise C(e) | raise C() -/
def tMkE (C : Addr) (f : Str) (ta : TA) : L2.St → Hp → XK → Prop := fun σ H Q => ta σ H fun vs H1 => ∃ v, vs = [v] ∧ ∀ d H2, Same H1 H2 → H2 d = some (.xd [(f, v)]) → Q (.ref C) (some d) H2
theorem pmkX (T : Cl1 X.prog X.w X.K X.mg X.base x C f) (hr : Room 2 X.A) (hg : Gl X x) (ha : PA X [e] ta) (hdb : (x == ("__debug__" : Str)) = false := by decide)
    (he : starEach [e] X.env = (false, eval e X.env) :: starEach [] X.env := by rfl) (hpl : (backTo pos (starEach [] X.env)).any (·.1) = false := by rfl) :
    PMk X (.Call (.Name x p) [e] [] pos) (tMkE C f ta) := by
  intro pins s σ H Q I h
  obtain ⟨fI, fd, iC, tI, F, hb, _⟩ := T.ini
  refine wpAny_Call_Name_kw (ld_glob I hg T.gm ?_ hdb)
  refine PySem.W.callWith_K (h₀ := X.base) I.ok.mod.kin T.xc.kp (thn (ha.run pos pins s σ H _ I h) fun us s1 ⟨vs, H1, I1, r, v, ev, q⟩ => ⟨I1.kIn, ?_⟩) he hpl
  subst ev
  refine runMkE (n := 1) (ks := []) (ws := []) (zs := []) T.xc iC tI F hr hb pass0 I1 r .nil rfl rfl (by decide) (fun a ha => ?_)
  refine ⟨a, C, v, rfl, T.xc, T.no, upd_same, fun dx hdx hne => ⟨rfl, dx, [(f, v)], upd_same, ?_, ?_, ?_⟩⟩
  · rw [upd_ne hne, upd_same]
  · rw [upd_ne hne] at hdx
    exact hdx
  · have n1 : H1 dx = none := by
      rw [upd_ne hne] at hdx
      exact hdx
    refine q dx _ (fun b o hb => ?_) upd_same
    have b1 := ne_of_none hb ha
    have b2 := ne_of_none hb n1
    rw [upd_ne b2, del_ne b1, upd_ne b1, upd_ne b2, upd_ne b1]
    exact hb
theorem pmk0 (T : Cl0 X.K X.mg x C) (hg : Gl X x) (hdb : (x == ("__debug__" : Str)) = false := by decide) : PMk X (.Call (.Name x p) [] [] pos) (fun _ H Q => Q (.ref C) none H) := by
  intro pins s σ H Q I h
  refine wpAny_Call_Name_kw (ld_glob I hg T.gm ?_ hdb)
  refine PySem.W.callWith_K0 I.kIn T.xc.kp ?_
  show wpAny _ _ (call (.ref C) []) _ _ _
  obtain ⟨bm, N, nm, qn, bs, hdct, sn, sub, ab, col, dd, k0, k1, k2, k3, k5, mN, hC, hN, hni, O⟩ := exc_obj I.kIn T.own
  refine wpAny_call_exc_subT F.excBase_ValueError O hC hN hni (fun h' e hm => ?_) (Nat.zero_le _)
  exact mk_of I hm (raises_own T.xc.ex T.xc.ty) h (I.hok.gone hm.new)
end
end KX

set_option Elab.async false
set_option linter.all false
set_option maxRecDepth 100000
set_option maxHeartbeats 0
namespace CO.HD
open PySem PySem.Spec PyProof.Rows L2 KS
open KX hiding sameUpd
open He (ga ma)
abbrev R : PySem.W.OpenRow := PySem.W.OpenLaw.row PySem.Challenge.rw_farenough_k06_runs_half_done
def dOf (x : Str) (i : Nat) : He.DefD := ⟨(x, none), x, x, defArgs (top i), defBody (top i), defScope (top i), [], []⟩
def dOf1 (x : Str) (i : Nat) : He.DefD := ⟨(x, none), x, x, defArgs (top i), defBody (top i), defScope (top i), [.bl false], []⟩
def dIn (x m q : Str) (i j : Nat) : He.DefD := ⟨(x, some m), m, q, defArgs (inClass (top i) j), defBody (inClass (top i) j), defScope (inClass (top i) j), [], []⟩
def dInD (x m q : Str) (i j : Nat) : He.DefD := ⟨(x, some m), m, q, defArgs (inClass (top i) j), defBody (inClass (top i) j), defScope (inClass (top i) j), [.adr (He.dflAt (x, some m) 0)], []⟩
def fn1 : List He.DefD := [
  dOf "is_integer" 8,
  dOf "is_text" 9,
  dOf "is_name" 10,
  dOf "is_key" 11,
  dOf "are_keys" 12,
  dOf "are_answers" 13,
  dOf "after_write" 14,
  dOf "after_read" 15,
  dOf "_step_of" 21,
  dOf "_piece" 22,
  dOf "_check_tree" 23,
  dOf "_inner_nodes" 24,
  dOf "_is_node" 25,
  dOf "_are_parts" 26,
  dOf "_is_pair_of_integers" 27,
  dOf "_are_cases" 28,
  dOf "_is_case" 29,
  dOf "_law_feed_of" 35,
  dOf "_law_draw" 36,
  dOf "_law_mixed" 37,
  dOf "_law_pick" 38,
  dOf "_law_outs" 39,
  dOf "_law_calls" 40,
  dOf "_law_some_names" 41,
  dOf "_law_some_text" 42,
  dOf "_law_some_answer" 43,
  dOf "_law_some_parts" 44,
  dOf "_law_some_tree" 45,
  dOf "_law_some_keys" 46,
  dOf "_law_some_outputs" 47,
  dOf "_law_drawn_made" 48,
  dOf1 "_law_world" 49,
  dOf "_law_part_text" 50,
  dOf "_law_step_at" 51,
  dOf "_law_same" 52,
  dOf "_law_halts" 53,
  dOf "_law_goes" 54,
  dOf "_law_stands" 55,
  dOf "_law_shops_right" 56,
  dOf "law" 57]
def fn2 : List He.DefD := [
  dIn "TreeRecipe" "__init__" "TreeRecipe.__init__" 20 0,
  dIn "TreeRecipe" "step_at" "TreeRecipe.step_at" 20 3,
  dIn "Recipe" "step_at" "Recipe.step_at" 18 0,
  dIn "Recipe" "begun" "Recipe.begun" 18 1,
  dIn "Course" "__init__" "Course.__init__" 19 0,
  dIn "Course" "_stand_at" "Course._stand_at" 19 1,
  dInD "Course" "__call__" "Course.__call__" 19 3,
  dIn "Course" "copied" "Course.copied" 19 4,
  dInD "Run" "__init__" "Run.__init__" 31 0,
  dInD "Run" "__call__" "Run.__call__" 31 4,
  dIn "Run" "copied" "Run.copied" 31 5,
  dIn "Run" "_new_run" "Run._new_run" 31 6,
  dIn "Workshop" "__init__" "Workshop.__init__" 33 0,
  dIn "Workshop" "__contains__" "Workshop.__contains__" 33 1,
  dIn "Workshop" "__len__" "Workshop.__len__" 33 2,
  dIn "Workshop" "_recipe_of" "Workshop._recipe_of" 33 3,
  dIn "Workshop" "step_at" "Workshop.step_at" 33 4,
  dInD "Workshop" "begin" "Workshop.begin" 33 5,
  dIn "Workshop" "changed" "Workshop.changed" 33 6]
def fn : List He.DefD := fn1 ++ fn2
def frees : List Str := ["isinstance", "len", "zip", "all", "list", "tuple", "bool", "int", "str", "range", "ord", "set", "max", "min", "enumerate", "reversed", "dict", "sorted", "ValueError"]
def numG : List (Str × Int) := [("LONGEST_TEXT", 400), ("LONGEST_NAME", 8), ("MOST_KEYS", 4)]
def looseC : List Str := ["LONGEST_TEXT", "LONGEST_NAME", "MOST_KEYS"]
def glos0 : List Str := ["STOP", "BuildError", "BadTree", "Halted", "Recipe", "Course", "TreeRecipe", "Run", "Workshop", "is_integer", "is_text", "is_name", "is_key", "are_keys", "are_answers", "after_write", "after_read", "_step_of"]
def glos1 : List Str := ["_piece", "_check_tree", "_inner_nodes", "_is_node", "_are_parts", "_is_pair_of_integers", "_are_cases", "_is_case", "_law_feed_of", "_law_draw", "_law_mixed", "_law_pick", "_law_outs", "_law_calls", "_law_some_names", "_law_some_text", "_law_some_answer", "_law_some_parts"]
def glos2 : List Str := ["_law_some_tree", "_law_some_keys", "_law_some_outputs", "_law_drawn_made", "_law_world", "_law_part_text", "_law_step_at", "_law_same", "_law_halts", "_law_goes", "_law_stands", "_law_shops_right"]
def glos : List Str := glos0 ++ glos1 ++ glos2
def loose : List Str := looseC ++ glos
def faC : List He.Fa := [He.Fa.cls "TreeRecipe", He.Fa.cls "Recipe", He.Fa.cls "Course", He.Fa.cls "Run", He.Fa.cls "Workshop", He.Fa.mkr "TreeRecipe", He.Fa.mkr "Course", He.Fa.mkr "Run", He.Fa.mkr "Workshop"]
def faN : List He.Fa := [He.Fa.noat "TreeRecipe" "_node", He.Fa.noat "Course" "_recipe", He.Fa.noat "Course" "_arguments", He.Fa.noat "Course" "_answers", He.Fa.noat "Course" "_count", He.Fa.noat "Course" "_step", He.Fa.noat "Run" "_recipe", He.Fa.noat "Run" "_place", He.Fa.noat "Run" "_course", He.Fa.noat "Run" "_step", He.Fa.noat "Run" "_trail", He.Fa.noat "Workshop" "_recipes"]
def faM : List He.Fa := [He.Fa.meth "TreeRecipe" "step_at", He.Fa.meth "TreeRecipe" "begun", He.Fa.meth "Recipe" "step_at", He.Fa.meth "Recipe" "begun", He.Fa.meth "Course" "_stand_at", He.Fa.meth "Course" "copied", He.Fa.meth "Course" "__call__", He.Fa.meth "Run" "copied", He.Fa.meth "Run" "_new_run", He.Fa.meth "Run" "__call__", He.Fa.meth "Workshop" "__contains__", He.Fa.meth "Workshop" "__len__", He.Fa.meth "Workshop" "_recipe_of", He.Fa.meth "Workshop" "step_at", He.Fa.meth "Workshop" "begin", He.Fa.meth "Workshop" "changed"]
def fa : List He.Fa := (glos ++ ([("law" : Str)] : List Str)).map He.Fa.glo ++ (frees.map He.Fa.free ++ (numG.map (fun q => He.Fa.int q.1 q.2) ++ (faC ++ (faN ++ faM))))
/-- a property of a class, its getter -/
def pAd (K : PySem.W.Frag) (c m : Str) : Addr := ma K (ga K c) m
def gAd (K : PySem.W.Frag) (c m : Str) : Addr := match PySem.W.recIn K (pAd K c m) "property" with
  | some (.ref g :: _) => g
  | _ => 0
/-- an empty tuple -/
def emB (K : PySem.W.Frag) (a : Addr) : Bool := match K.lookup a with
  | some ⟨.type c, _, .seq its _, _⟩ => decide (c = "tuple") && its.isEmpty
  | _ => false
theorem emB_ok {K : PySem.W.Frag} {a : Addr} (h : emB K a = true) (H : Hp) : SqT K H a [] := by
  unfold emB at h
  cases q : K.lookup a with
  | none =>
    rw [q] at h
    cases h
  | some o =>
    obtain ⟨oc, od, dt, osl⟩ := o
    rw [q] at h
    cases oc with
    | type c =>
      cases dt with
      | seq its n =>
        obtain ⟨h1, h2⟩ := He.ba (show (decide (c = "tuple") && its.isEmpty) = true from h)
        have e : its = #[] := Array.isEmpty_iff.mp h2
        subst e
        exact .inr ⟨_, #[], n, q, congrArg Value.type (of_decide_eq_true h1), rfl, Nat.zero_le _, .nil⟩
      | _ => cases h
    | _ => cases dt <;> cases h
def fnAt (K : PySem.W.Frag) (a : Addr) : He.FnW := match K.lookup a with
  | some o => (match o.data with
    | .func u => some (u.name, u.qualname, u.params, u.body, u.scope, u.globals, u.closure, u.builtins)
    | _ => none)
  | none => none
def okAt (K : PySem.W.Frag) (a : Addr) (q : Str) : Bool := PySem.W.keepIn K (.ref a) && (match K.lookup a with
  | some o => (match o.data with
    | .func u => PySem.W.codeIn K u.code q && (He.dflB K u.defaults [] && He.kwdB K u.kwdefaults [])
    | _ => false)
  | none => false)
theorem funAt {K : PySem.W.Frag} {a : Addr} {x q : Str} {ps : Arguments} {b : List Stmt} {sc : Scope} (e : fnAt K a = some (x, q, ps, .stmts b, sc, mainGlobals, [], builtinsNs)) (c : okAt K a q = true) : ∃ fd, FunD K x q ps b sc [] [] a fd := by
  unfold okAt at c
  unfold fnAt at e
  rw [Bool.and_eq_true] at c
  obtain ⟨kp, c⟩ := c
  generalize hl : K.lookup a = o at c e
  rcases o with _ | ⟨oc, od, dt, sl⟩
  · cases c
  · dsimp only at c e
    cases dt with
    | func u =>
      dsimp only at c e
      rw [Bool.and_eq_true, Bool.and_eq_true] at c
      obtain ⟨c1, c2, c3⟩ := c
      obtain ⟨m1, m2, m3, m4, m5, m6, m7, m8, m9, m10, m11, m12, m13, m14, m15⟩ := u
      dsimp only at c1 c2 c3 e
      injection e with e
      simp only [Prod.mk.injEq] at e
      obtain ⟨rfl, rfl, rfl, rfl, rfl, rfl, rfl, rfl⟩ := e
      refine ⟨_, ⟨oc, od, m8, m9, m10, m11, m12, m13, m14, sl, rfl, hl, c1, ?_, ?_⟩, kp⟩
      · exact He.dflB_ok c2
      · exact He.kwdB_ok c3
    | _ => cases c
/-- the other facts, as one Bool -/
def exB (K : PySem.W.Frag) : Bool :=
  He.tupB K "STOP" [.str "stop"]
  && (decide (ma K (ga K "TreeRecipe") "begun" = ma K (ga K "Recipe") "begun")
  && (PySem.W.makesIn K (ga K "Recipe")
  && (decide (PySem.W.findIn K (.ref (ga K "Recipe")) "__init__" = some (some (.builtin "object.__init__")))
  && (decide (PySem.W.mroIn K (ga K "Recipe") (.type "object") = some true)
  && (PySem.W.keepIn K (.ref (ga K "Recipe"))
  && (xcB K (ga K "Halted") veB "ValueError.__new__"
  && (PySem.W.excIn K (ga K "Halted") veB "ValueError.__new__"
  && (decide (PySem.W.exmOne K (.ref (ga K "Halted")) (.ref (ga K "Halted")) = some true)
  && (decide (PySem.W.kitOne K (.ref (ga K "Halted")) (.type "ValueError") = some true)
  && (PySem.W.fnIn K (ma K (ga K "Course") "__call__")
  && (PySem.W.fnIn K (ma K (ga K "Run") "__call__")
  && (emB K (He.dflAt ("Course", some "__call__") 0 K)
  && (emB K (He.dflAt ("Run", some "__init__") 0 K)
  && (emB K (He.dflAt ("Run", some "__call__") 0 K)
  && (emB K (He.dflAt ("Workshop", some "begin") 0 K)
  && (decide (PySem.W.findIn K (.ref (ga K "Course")) "step" = some (some (.ref (pAd K "Course" "step"))))
  && (decide (PySem.W.specialIn K (.ref (pAd K "Course" "step")) "__get__" = some (some (.builtin "property.__get__")))
  && (decide (PySem.W.takesIn K (.ref (pAd K "Course" "step")) = some true)
  && (decide ((PySem.W.recIn K (pAd K "Course" "step") "property").map (fun l => l.head?) = some (some (.ref (gAd K "Course" "step"))))
  && (okAt K (gAd K "Course" "step") "Course.step"
  && (decide (PySem.W.findIn K (.ref (ga K "Run")) "place" = some (some (.ref (pAd K "Run" "place"))))
  && (decide (PySem.W.specialIn K (.ref (pAd K "Run" "place")) "__get__" = some (some (.builtin "property.__get__")))
  && (decide (PySem.W.takesIn K (.ref (pAd K "Run" "place")) = some true)
  && (decide ((PySem.W.recIn K (pAd K "Run" "place") "property").map (fun l => l.head?) = some (some (.ref (gAd K "Run" "place"))))
  && (okAt K (gAd K "Run" "place") "Run.place"
  && (decide (PySem.W.findIn K (.ref (ga K "Run")) "step" = some (some (.ref (pAd K "Run" "step"))))
  && (decide (PySem.W.specialIn K (.ref (pAd K "Run" "step")) "__get__" = some (some (.builtin "property.__get__")))
  && (decide (PySem.W.takesIn K (.ref (pAd K "Run" "step")) = some true)
  && (decide ((PySem.W.recIn K (pAd K "Run" "step") "property").map (fun l => l.head?) = some (some (.ref (gAd K "Run" "step"))))
  && (okAt K (gAd K "Run" "step") "Run.step"
  && (decide (PySem.W.findIn K (.ref (ga K "Run")) "trail" = some (some (.ref (pAd K "Run" "trail"))))
  && (decide (PySem.W.specialIn K (.ref (pAd K "Run" "trail")) "__get__" = some (some (.builtin "property.__get__")))
  && (decide (PySem.W.takesIn K (.ref (pAd K "Run" "trail")) = some true)
  && (decide ((PySem.W.recIn K (pAd K "Run" "trail") "property").map (fun l => l.head?) = some (some (.ref (gAd K "Run" "trail"))))
  && (okAt K (gAd K "Run" "trail") "Run.trail")))))))))))))))))))))))))))))))))))
def vCoursestep : He.FnW := some ("step", "Course.step", defArgs (inClass (top 19) 2), .stmts (defBody (inClass (top 19) 2)), defScope (inClass (top 19) 2), mainGlobals, [], builtinsNs)
def vRunplace : He.FnW := some ("place", "Run.place", defArgs (inClass (top 31) 1), .stmts (defBody (inClass (top 31) 1)), defScope (inClass (top 31) 1), mainGlobals, [], builtinsNs)
def vRunstep : He.FnW := some ("step", "Run.step", defArgs (inClass (top 31) 2), .stmts (defBody (inClass (top 31) 2)), defScope (inClass (top 31) 2), mainGlobals, [], builtinsNs)
def vRuntrail : He.FnW := some ("trail", "Run.trail", defArgs (inClass (top 31) 3), .stmts (defBody (inClass (top 31) 3)), defScope (inClass (top 31) 3), mainGlobals, [], builtinsNs)
/-- the head's look: defs, names, numbers, these -/
abbrev Al : Type := He.AlD × (Bool × (He.FnW × He.FnW × He.FnW × He.FnW))
def obsK (K : PySem.W.Frag) : Al := (He.obsD fa fn K, exB K, fnAt K (gAd K "Course" "step"), fnAt K (gAd K "Run" "place"), fnAt K (gAd K "Run" "step"), fnAt K (gAd K "Run" "trail"))
def obsM (n : Nat) (g : Addr → Option Obj) : Al := obsK (He.frG g (He.asD g n))
structure Says (K : PySem.W.Frag) : Prop where
  d : He.SaysD fa fn K
  e : exB K = true
  g : (fnAt K (gAd K "Course" "step"), fnAt K (gAd K "Run" "place"), fnAt K (gAd K "Run" "step"), fnAt K (gAd K "Run" "trail")) = (vCoursestep, vRunplace, vRunstep, vRuntrail)
def hk : PySem.W.Hook where
  α := Al
  obs := fun s => obsM 6 s.heap.get?
  val := fun _ => (He.valD fn, true, vCoursestep, vRunplace, vRunstep, vRuntrail)
  says := fun _ h => ∃ K : PySem.W.Frag, K.In h ∧ Says K
  of := fun _ _ e => ⟨_, He.frG_in, ⟨congrArg (fun z : Al => z.1) e, congrArg (fun z : Al => z.2.1) e, congrArg (fun z : Al => z.2.2) e⟩⟩
  keeps := fun _ _ _ ⟨K, hK, c⟩ k => ⟨K, PySem.W.Frag.In.keeps hK k, c⟩
def ob (s : PySem.W.SharedT) : Al := obsM 6 (HandSHeadRun.getT s)
theorem ob_eq (s : PySem.W.SharedT) : ob s = hk.obs s.abs := by
  have e : HandSHeadRun.getT s = s.abs.heap.get? := funext (HandSHeadRun.getT_eq s)
  unfold ob
  rw [e] <;> rfl
theorem run (w : World) : HandSHeadRun.RunEq R (PySem.W.view R.prog [57]) hk ob 20000 loose w := by
  intro os
  kernel_rfl
end CO.HD
set_option Elab.async false
set_option linter.all false
set_option maxRecDepth 100000
set_option maxHeartbeats 4000000
/-! dicts whose keys are data (tuples of None, numbers, texts and such tuples), over the layer: the dict is a thing told by its one object, the keys' tuples stand in the layer's heap -/
namespace ND
open PySem PySem.Spec PyProof.Rows L2
/-- None, numbers, texts, tuples of such, n deep -/
inductive Pl : Nat → PyData → Prop
  | non (n : Nat) : Pl n .none
  | int (n : Nat) (i : Int) : Pl n (.int i)
  | str (n : Nat) (z : Str) : Pl n (.str z)
  | tup {n : Nat} {ds : List PyData} (h : ∀ d ∈ ds, Pl n d) : Pl (n + 1) (.tuple ds)
theorem Pl.up {n : Nat} {d : PyData} (h : Pl n d) : ∀ {m : Nat}, n ≤ m → Pl m d := by
  induction h with
  | non => exact fun _ => .non _
  | int n i => exact fun _ => .int _ i
  | str n z => exact fun _ => .str _ z
  | tup h ih =>
    intro m hm
    obtain ⟨k, rfl⟩ : ∃ k, m = k + 1 := ⟨m - 1, by omega⟩
    exact .tup fun d hd => ih d hd (by omega)
mutual
def keyD : PyData → NestedKey
  | .int i => .num i
  | .str x => .text x
  | .tuple ds => .tup (keyDs ds)
  | .bool b => .num (if b = true then 1 else 0)
  | .none => .none
  | .list _ => .none
  | .dict _ => .none
def keyDs : List PyData → List NestedKey
  | [] => []
  | d :: ds => keyD d :: keyDs ds
end
theorem keyDepth {n : Nat} {d : PyData} (h : Pl n d) : (keyD d).depth ≤ n := by
  induction h with
  | non => simp [keyD, NestedKey.depth]
  | int => simp [keyD, NestedKey.depth]
  | str => simp [keyD, NestedKey.depth]
  | @tup n ds h ih =>
    have all : ∀ l : List PyData, (∀ d ∈ l, (keyD d).depth ≤ n) → NestedKey.depthAll (keyDs l) ≤ n := by
      intro l
      induction l with
      | nil => intro _; simp [keyDs, NestedKey.depthAll]
      | cons x l il =>
        intro hl
        have h1 := hl x List.mem_cons_self
        have h2 := il fun d hd => hl d (List.mem_cons_of_mem _ hd)
        simp only [keyDs, NestedKey.depthAll]
        omega
    have := all ds ih
    simp only [keyD, NestedKey.depth]
    omega
theorem keyInj {n : Nat} {d : PyData} (h : Pl n d) : ∀ {m : Nat} {e : PyData}, Pl m e → keyD d = keyD e → d = e := by
  induction h with
  | non => intro m e he q; cases he <;> simp [keyD] at q; rfl
  | int n i => intro m e he q; cases he <;> simp [keyD] at q; rw [q]
  | str n z => intro m e he q; cases he <;> simp [keyD] at q; rw [q]
  | @tup n ds h ih =>
    intro m e he q
    cases he with
    | @tup m es he =>
      have all : ∀ (l r : List PyData), (∀ d ∈ l, ∀ {m : Nat} {e : PyData}, Pl m e → keyD d = keyD e → d = e) → (∀ e ∈ r, Pl m e) → keyDs l = keyDs r → l = r := by
        intro l
        induction l with
        | nil =>
          intro r _ _ q
          cases r with
          | nil => rfl
          | cons => simp [keyDs] at q
        | cons x l il =>
          intro r hl hr q
          cases r with
          | nil => simp [keyDs] at q
          | cons y r =>
            simp only [keyDs, List.cons.injEq] at q
            rw [hl x List.mem_cons_self (hr y List.mem_cons_self) q.1, il r (fun d hd => hl d (List.mem_cons_of_mem _ hd)) (fun e he => hr e (List.mem_cons_of_mem _ he)) q.2]
      have q2 : keyDs ds = keyDs es := by simpa [keyD] using q
      rw [all ds es ih he q2]
    | non => simp [keyD] at q
    | int => simp [keyD] at q
    | str => simp [keyD] at q
/-- what stands in the layer's heap as data is such a key -/
theorem nestedIs {X : Cx} {pins : List (Addr × Obj)} {σ : L2.St} {H : Hp} {s : Shared} (I : Inv X pins σ H s) {n : Nat} {d : PyData} (h : Pl n d) : ∀ (v : V) (u : Value), Dp X.K H v d → RelV v u → NestedIs s.heap (keyD d) u := by
  induction h with
  | non => intro v u hd r; cases hd; cases r; exact .none
  | int n i => intro v u hd r; cases hd; obtain ⟨t, rfl⟩ := r; exact .int i t
  | str n z => intro v u hd r; cases hd; obtain ⟨t, rfl⟩ := r; exact .text z t
  | @tup n ds h ih =>
    intro v u hd r
    cases hd with
    | tup hs ha =>
      cases r
      obtain ⟨its, rv, ⟨o, ho, hc, n', hdt⟩, _⟩ := I.tuple hs
      have all : ∀ (l : List PyData) (vs : List V) (us : List Value), (∀ d ∈ l, ∀ (v : V) (u : Value), Dp X.K H v d → RelV v u → NestedIs s.heap (keyD d) u) → DpAll X.K H vs l → Vals vs us → NestedAll s.heap (keyDs l) us := by
        intro l
        induction l with
        | nil => intro vs us _ ha r; cases ha; cases r; exact .nil
        | cons x l il =>
          intro vs us hl ha r
          cases ha with
          | cons h1 h2 =>
            cases r with
            | cons r1 r2 => exact .cons (hl x List.mem_cons_self _ _ h1 r1) (il _ _ (fun d hd => hl d (List.mem_cons_of_mem _ hd)) h2 r2)
      exact .tup ho hc hdt (by simpa using all ds _ its ih ha rv)
/-! ### the dict -/
abbrev KvN := NestedKey × Addr × V
abbrev KvD := PyData × Addr × V
def kn (q : KvD) : KvN := (keyD q.1, q.2.1, q.2.2)
abbrev rKv (p : KvN) (q : NestedKey × Addr × Value) : Prop := p.1 = q.1 ∧ p.2.1 = q.2.1 ∧ RelV p.2.2 q.2.2
def NdR (P : Program) (w : World) (d : Addr) (ks : List KvN) (h : Heap) : Prop := ks.length ≤ sizeLine ∧ (d == sysModules) = false ∧ ∃ xs : List (NestedKey × Addr × Value), Paired rKv ks xs ∧
  ∃ o es ep, h.get? d = some o ∧ o.ExactDict ∧ o.data = .dict es ep ∧ es.toList = xs.map (entryOfKey (nestedKind P w)) ∧ (xs.map (·.1)).Nodup
def ndO (P : Program) (w : World) (d : Addr) (ks : List KvN) : HO := .ext (NdR P w d ks)
structure Nd (P : Program) (w : World) (K : PySem.W.Frag) (H : Hp) (d : Addr) (kvs : List KvD) : Prop where
  o : H d = some (ndO P w d (kvs.map kn))
  k : ∀ q ∈ kvs, Pl 8 q.1 ∧ Dp K H (.ref q.2.1) q.1
theorem ndOk {P : Program} {w : World} {H : Hp} {h : Heap} {d : Addr} {ks : List KvN} (r : NdR P w d ks h) : ObjOk P w H h d (ndO P w d ks) := by
  obtain ⟨z, hs, xs, pr, o, es, ep, ho, rest⟩ := r
  refine ⟨⟨z, hs, xs, pr, o, es, ep, ho, rest⟩, ⟨o, ho⟩, fun h1 h2 q keep => ?_⟩
  obtain ⟨z, hs, xs, pr, o, es, ep, ho, rest⟩ := q
  exact ⟨z, hs, xs, pr, o, es, ep, keep o ho, rest⟩
theorem ndNew {P : Program} {w : World} {H : Hp} (h : Heap) (hb : sysModules < h.objs.size) : ObjOk P w H (h.push { cls := .type "dict", data := .dict #[] }) h.objs.size (ndO P w h.objs.size []) := by
  refine ndOk ⟨Nat.zero_le _, ?_, [], .nil, ?_⟩
  · exact beq_eq_false_iff_ne.mpr (Nat.ne_of_gt hb)
  · obtain ⟨o, es, ep, h1, h2, h3, h4, _, h6⟩ := Heap.DictOfH.new (knd := nestedKind P w) h
    exact ⟨o, es, ep, h1, h2, h3, h4, h6⟩
section
variable {X : Cx} {pins : List (Addr × Obj)} {σ : L2.St} {H : Hp} {s : Shared}
theorem keyIs (I : Inv X pins σ H s) {a : Addr} {e : PyData} (he : Dp X.K H (.ref a) e) (pl : Pl 8 e) : (nestedKind X.prog X.w).is s.heap (keyD e) a := ⟨nestedIs I pl _ _ he rfl, keyDepth pl⟩
theorem pairedMem {α β : Type} {F : α → β → Prop} : ∀ {l : List α} {r : List β}, Paired F l r → ∀ y ∈ r, ∃ x ∈ l, F x y
  | _, _, .nil, y, hy => absurd hy (by simp)
  | _, _, .cons h t, y, hy => by
    rcases List.mem_cons.mp hy with z | z
    · subst z; exact ⟨_, List.mem_cons_self, h⟩
    · obtain ⟨x, hx, f⟩ := pairedMem t y z
      exact ⟨x, List.mem_cons_of_mem _ hx, f⟩
theorem pairedLen {α β : Type} {F : α → β → Prop} : ∀ {l : List α} {r : List β}, Paired F l r → l.length = r.length
  | _, _, .nil => rfl
  | _, _, .cons _ t => by simp [pairedLen t]
theorem Nd.heap {d : Addr} {kvs : List KvD} (n : Nd X.prog X.w X.K H d kvs) (I : Inv X pins σ H s) : kvs.length ≤ sizeLine ∧ (d == sysModules) = false ∧ ∃ xs, Paired rKv (kvs.map kn) xs ∧ s.heap.DictOfH (nestedKind X.prog X.w) d xs := by
  have ok : ObjOk X.prog X.w H s.heap d (ndO X.prog X.w d (kvs.map kn)) := I.hok d _ n.o
  obtain ⟨⟨z, hs, xs, pr, o, es, ep, ho, hx, hd, he, nd⟩, _⟩ := ok
  refine ⟨by simpa using z, hs, xs, pr, o, es, ep, ho, hx, hd, he, fun y hy => ?_, nd⟩
  obtain ⟨x, hx, e1, e2, _⟩ := pairedMem pr y hy
  obtain ⟨q, hq, rfl⟩ := List.mem_map.mp hx
  obtain ⟨pl, dp⟩ := n.k q hq
  have := keyIs I dp pl
  rw [← e1, ← e2]
  exact this
end
end ND

set_option Elab.async false
set_option linter.all false
set_option maxRecDepth 100000
set_option maxHeartbeats 4000000
namespace ND
open PySem PySem.Spec PyProof.Rows L2
/-- tuples stand -/
def TS (H H' : Hp) : Prop := ∀ a o, H a = some o → ((∃ xs, o = .tup xs) ∨ ∃ p xs, o = .frz p (.tup xs)) → H' a = some o
theorem TS.refl (H : Hp) : TS H H := fun _ _ e _ => e
theorem TS.trans {H H1 H2 : Hp} (a : TS H H1) (b : TS H1 H2) : TS H H2 := fun x o e t => b x o (a x o e t) t
theorem TS.same {H H' : Hp} (s : ∀ a o, H a = some o → H' a = some o) : TS H H' := fun a o e _ => s a o e
theorem TS.put {P : Program} {w : World} {H : Hp} {d : Addr} {ks : List KvN} {o : HO} (h : H d = some (ndO P w d ks)) : TS H (upd H d o) := fun a u e t => by
  rw [upd_ne fun z => ?_]
  · exact e
  · rw [z, h] at e
    have e2 := Option.some.inj e
    rcases t with ⟨xs, rfl⟩ | ⟨p, xs, rfl⟩ <;> cases e2
theorem TS.tup {K : PySem.W.Frag} {H H' : Hp} (k : TS H H') {a : Addr} {xs : List V} (h : SqT K H a xs) : SqT K H' a xs := by
  rcases h with (h | ⟨o, h⟩) | h
  · exact .inl (.inl (k _ _ h (.inl ⟨_, rfl⟩)))
  · exact .inl (.inr ⟨o, k _ _ h (.inr ⟨_, _, rfl⟩)⟩)
  · exact .inr h
theorem allTS {K : PySem.W.Frag} {H H' : Hp} : ∀ {ds : List PyData} {xs : List V}, (∀ d ∈ ds, ∀ v, Dp K H v d → Dp K H' v d) → DpAll K H xs ds → DpAll K H' xs ds
  | _, _, _, .nil => .nil
  | _, _, k, .cons h r => .cons (k _ List.mem_cons_self _ h) (allTS (fun d hd => k d (List.mem_cons_of_mem _ hd)) r)
theorem dpTS {K : PySem.W.Frag} {H H' : Hp} (k : TS H H') {n : Nat} {d : PyData} (o : Pl n d) : ∀ v, Dp K H v d → Dp K H' v d := by
  induction o with
  | non n => intro v h; cases h; exact .non
  | int n i => intro v h; cases h; exact .int _
  | str n z => intro v h; cases h; exact .str _
  | tup h ih =>
    intro v hv
    cases hv with
    | tup hx hd => exact .tup (k.tup hx) (allTS ih hd)
/-! ### storing -/
def storeN (ks : List KvN) (k : NestedKey) (a : Addr) (v : V) : List KvN := if (ks.any fun q => decide (q.1 = k)) = true then ks.map (fun q => if q.1 = k then (q.1, q.2.1, v) else q) else ks ++ [(k, a, v)]
def storeD (kvs : List KvD) (e : PyData) (a : Addr) (v : V) : List KvD := if (kvs.any fun q => decide (keyD q.1 = keyD e)) = true then kvs.map (fun q => if keyD q.1 = keyD e then (q.1, q.2.1, v) else q) else kvs ++ [(e, a, v)]
theorem store_kn (kvs : List KvD) (e : PyData) (a : Addr) (v : V) : (storeD kvs e a v).map kn = storeN (kvs.map kn) (keyD e) a v := by
  have h : ((kvs.map kn).any fun q => decide (q.1 = keyD e)) = kvs.any fun q => decide (keyD q.1 = keyD e) := by
    rw [List.any_map]
    rfl
  unfold storeD storeN
  rw [h]
  split
  · rw [List.map_map, List.map_map]
    refine List.map_congr_left fun q _ => ?_
    show kn (if keyD q.1 = keyD e then (q.1, q.2.1, v) else q) = if keyD q.1 = keyD e then (keyD q.1, q.2.1, v) else kn q
    split <;> rfl
  · rw [List.map_append]
    rfl
theorem storeLen (kvs : List KvD) (e : PyData) (a : Addr) (v : V) : (storeD kvs e a v).length ≤ kvs.length + 1 := by
  unfold storeD
  split
  · rw [List.length_map]; omega
  · rw [List.length_append]; exact Nat.le_refl _
theorem storeKeys {kvs : List KvD} {e : PyData} {a : Addr} {v : V} {q : KvD} (h : q ∈ storeD kvs e a v) : (∃ p ∈ kvs, p.1 = q.1 ∧ p.2.1 = q.2.1) ∨ (q.1 = e ∧ q.2.1 = a) := by
  unfold storeD at h
  split at h
  · obtain ⟨p, hp, rfl⟩ := List.mem_map.mp h
    refine .inl ⟨p, hp, ?_⟩
    split <;> exact ⟨rfl, rfl⟩
  · rcases List.mem_append.mp h with z | z
    · exact .inl ⟨q, z, rfl, rfl⟩
    · rw [List.mem_singleton.mp z]
      exact .inr ⟨rfl, rfl⟩
theorem atSome {ks : List KvN} {xs : List (NestedKey × Addr × Value)} (p : Paired rKv ks xs) (k : NestedKey) : (atKey xs k).isSome = ks.any fun q => decide (q.1 = k) := by
  induction p with
  | nil => rfl
  | @cons x y l r h t ih =>
    unfold atKey at ih ⊢
    rw [List.any_cons, List.find?_cons, ← h.1]
    cases hd : decide (x.1 = k) with
    | true => rfl
    | false => simpa using ih
theorem pairedStore {ks : List KvN} {xs : List (NestedKey × Addr × Value)} (p : Paired rKv ks xs) (k : NestedKey) (a : Addr) {v : V} {u : Value} (r : RelV v u) : Paired rKv (storeN ks k a v) (storedH xs k a u) := by
  have e := atSome p k
  unfold storeN storedH
  rw [e]
  split
  · have all : ∀ {ks : List KvN} {xs : List (NestedKey × Addr × Value)}, Paired rKv ks xs → Paired rKv (ks.map fun q => if q.1 = k then (q.1, q.2.1, v) else q) (xs.map (putAt k u)) := by
      intro ks xs p
      induction p with
      | nil => exact .nil
      | @cons x y l r' h t ih =>
        refine .cons ?_ ih
        show rKv (if x.1 = k then (x.1, x.2.1, v) else x) (if y.1 = k then (y.1, y.2.1, u) else y)
        rw [← h.1]
        split
        · exact ⟨rfl, h.2.1, r⟩
        · exact h
    exact all p
  · exact p.snoc ⟨rfl, rfl, r⟩
section
variable {X : Cx} {pins : List (Addr × Obj)} {σ : L2.St} {H : Hp} {s : Shared}
theorem ndStored {kvs : List KvD} {d a : Addr} {e : PyData} {v : V} {u : Value} {h' : Heap} {t' : Nat} (I : Inv X pins σ H s) (n : Nd X.prog X.w X.K H d kvs) (rv : RelV v u) (hl : kvs.length < sizeLine) {xs : List (NestedKey × Addr × Value)} (pr : Paired rKv (kvs.map kn) xs) (hs : (d == sysModules) = false)
    (dd : h'.DictOfH (nestedKind X.prog X.w) d (storedH xs (keyD e) a u)) (sb : Heap.SameBut d s.heap h') : Inv X pins σ (upd H d (ndO X.prog X.w d ((storeD kvs e a v).map kn))) { s with heap := h', toks := t' } := by
  obtain ⟨o, es, ep, h1, h2, h3, h4, _, h6⟩ := dd
  refine d_write I (by rw [n.o]; exact True.intro) sb ⟨o, h1⟩ (ndOk ⟨?_, hs, _, ?_, o, es, ep, h1, h2, h3, h4, h6⟩)
  · rw [List.length_map]
    have := storeLen kvs e a v
    omega
  · rw [store_kn]
    exact pairedStore pr _ _ rv
/-- d[k] = v within a comprehension -/
theorem nd_dictSet {E : Value → Shared → Prop} {kvs : List KvD} {d a : Addr} {e : PyData} {v : V} {u : Value} {Q : Unit → Shared → Prop} (hu : X.A.units + 8 < cLine) (I : Inv X pins σ H s) (n : Nd X.prog X.w X.K H d kvs) (he : Dp X.K H (.ref a) e) (pl : Pl 8 e) (rv : RelV v u) (hl : kvs.length < sizeLine)
    (h : ∀ s', Inv X pins σ (upd H d (ndO X.prog X.w d ((storeD kvs e a v).map kn))) s' → Q () s') : wpAny (model X.prog X.w) X.A (dictSet d (.ref a) u) Q E s := by
  obtain ⟨hz, hs, xs, pr, dd⟩ := n.heap I
  have hxl : xs.length ≤ sizeLine := by
    rw [← pairedLen pr, List.length_map]
    exact hz
  refine wpAny_dictSet_heap (knd := nestedKind X.prog X.w) hu (keyIs I he pl) dd (fun h' dd' sb => h _ (ndStored I n rv hl pr hs dd' sb)) hxl
/-- d[k] = v -/
def rSetN (P : Program) (w : World) (K : PySem.W.Frag) : TSet := fun o i v H Q => ∃ (d a : Addr) (e : PyData) (kvs : List KvD), o = .ref d ∧ i = .ref a ∧ Nd P w K H d kvs ∧ Dp K H (.ref a) e ∧ Pl 8 e ∧ kvs.length < sizeLine ∧ Q (upd H d (ndO P w d ((storeD kvs e a v).map kn)))
theorem set_nd (hu : X.A.units + 9 < cLine) : PSet X (rSetN X.prog X.w X.K) := by
  intro pins s σ H o i v ov iv u Q I ro ri rv h
  obtain ⟨d, a, e, kvs, rfl, rfl, n, he, pl, hl, q⟩ := h
  cases ro
  cases ri
  obtain ⟨hz, hs, xs, pr, dd⟩ := n.heap I
  have hxl : xs.length ≤ sizeLine := by
    rw [← pairedLen pr, List.length_map]
    exact hz
  refine wpAny_setItem_heap (knd := nestedKind X.prog X.w) (by show X.A.in1.units + 8 < cLine; rw [Around.in1_units]; omega) (keyIs I he pl) dd (fun h' dd' sb => ⟨_, ndStored I n rv hl pr hs dd' sb, q⟩) hxl
/-! ### looking up -/
def valN (ks : List KvN) (k : NestedKey) : Option V := (ks.find? fun q => decide (q.1 = k)).map fun q => q.2.2
theorem pairedFind {ks : List KvN} {xs : List (NestedKey × Addr × Value)} (p : Paired rKv ks xs) (k : NestedKey) {v : V} (h : valN ks k = some v) : ∃ q u, atKey xs k = some (q, u) ∧ RelV v u := by
  induction p with
  | nil => cases h
  | @cons x y l r hxy t ih =>
    unfold valN at h ih
    unfold atKey at ih ⊢
    rw [List.find?_cons] at h ⊢
    rw [← hxy.1]
    cases hd : decide (x.1 = k) with
    | true =>
      rw [hd] at h
      have h2 : some x.2.2 = some v := h
      rw [← Option.some.inj h2]
      exact ⟨y.2.1, y.2.2, rfl, hxy.2.2⟩
    | false =>
      rw [hd] at h
      exact ih h
def rIxN (P : Program) (w : World) (K : PySem.W.Frag) : R2 := fun x y H Q => ∃ (d a : Addr) (e : PyData) (kvs : List KvD) (v : V), x = .ref d ∧ y = .ref a ∧ Nd P w K H d kvs ∧ Dp K H (.ref a) e ∧ Pl 8 e ∧ valN (kvs.map kn) (keyD e) = some v ∧ Q v H
theorem ix_nd (hu : X.A.units + 9 < cLine) : IxR X (rIxN X.prog X.w X.K) := by
  intro value slice pins s σ H x y v u Q I rx ry h hs
  obtain ⟨d, a, e, kvs, z, rfl, rfl, n, he, pl, hv, q⟩ := h
  cases rx
  cases ry
  obtain ⟨_, _, xs, pr, dd⟩ := n.heap I
  obtain ⟨b, t, e1, r1⟩ := pairedFind pr _ hv
  have fin : ∀ tk, EP X pins σ Q t { s with toks := tk } := fun tk => ⟨z, H, I.tok tk, r1, q⟩
  exact subscriptTail_builtinR (x := t) (Q := fun r s' => EP X pins σ Q r s') dd.typeIs PySem.slot_dict_getitem.lookup (wpAny_getItem_heap (knd := nestedKind X.prog X.w) (by show X.A.in1.units + 8 < cLine; rw [Around.in1_units]; omega) (keyIs I he pl) dd e1 ⟨rfl, fin _⟩) hs
/-- {} -/
def tDNewN (P : Program) (w : World) : TE := fun _ H Q => ∀ p, H p = none → Q (.ref p) (upd H p (ndO P w p []))
theorem pe_dnewN {pos : Pos} : PE X (.Dict [] [] pos) (tDNewN X.prog X.w) := ⟨fun pins s σ H Q I h =>
  wpAny_Dict_empty ⟨.ref s.heap.objs.size, _, I.laid (a := s.heap.objs.size) (o := ndO X.prog X.w s.heap.objs.size []) (t' := s.toks) (fun _ _ q => Heap.get?_push_of_some _ q) (Nat.le_refl _) (ndNew s.heap I.big), rfl, h _ (I.hok.fresh (Nat.le_refl _))⟩⟩
end
end ND

set_option Elab.async false
set_option linter.all false
set_option maxRecDepth 100000
set_option maxHeartbeats 4000000
/-! {k: v for x in xs}, the keys data -/
namespace ND
open PySem PySem.Spec PyProof.Rows L2
/-- a promise that holds in each block of such a scope -/
def InBlk (X : Cx) (sc : Scope) (F : Cx → Prop) : Prop := ∀ (t : Shared) (G : Hp) (E : Addr) (ces : List (Str × Addr)) (ps : List Addr), F (X.blk t G sc (compEnvC sc ces E X.env) ps)
/-- one turn: what comes of it stands for the next one -/
def turnN (P : Program) (w : World) (K : PySem.W.Frag) (D : Addr) (g : TG) (tk tv : TE) (vs : List Nat) (σ : L2.St) (x : V) (Nx : Hp → Prop) : Hp → Prop := fun G => g x (wipe σ vs) G fun ρ G2 => wipe ρ vs = wipe σ vs ∧ tk ρ G2 fun y G3 => tv ρ G3 fun z G4 =>
  ∃ (kvs : List KvD) (a : Addr) (e : PyData), y = .ref a ∧ Nd P w K G4 D kvs ∧ Dp K G4 (.ref a) e ∧ Pl 8 e ∧ kvs.length < sizeLine ∧ Nx (upd G4 D (ndO P w D ((storeD kvs e a z).map kn)))
def tNdc (P : Program) (w : World) (K : PySem.W.Frag) (wi : TI) (g : TG) (tk tv : TE) (vs : List Nat) : TE := fun σ H Q => wi σ H fun J G => ∀ D, G D = none → ∃ W : Nat → Nat → Hp → Prop, (∃ m, W 0 m (upd G D (ndO P w D []))) ∧ ∀ i m T, W i m T →
  (J.stop i T ∧ Q (.ref D) T) ∨ (J.go i T ∧ ∃ Nx : Hp → Prop, (∀ T', Nx T' → ∃ m', m' < m ∧ W (i + 1) m' T') ∧ ∀ x T', J.yld i T x T' → turnN P w K D g tk tv vs σ x Nx T')
section
variable {X : Cx}
theorem ndc_core {pins : List (Addr × Obj)} {s : Shared} {σ : L2.St} {H : Hp} {Q : VK} {kx vx tg iter : Expr} {sc : Scope} {own : List (Str × Nat)} {pos pos' : Pos} {wi : TI} {g : TG} {tk tv : TE} {use : Option (Value → Sem Unit)} {Qf : Value → Shared → Prop}
    (hu : X.A.units + 8 < cLine) (calm : X.calm = true) (nd : X.N.Nodup) (I : Inv X pins σ H s) (it0 : PI X tg iter wi) (bk : BlkOk X.N X.env.scope sc own) (pG : InBlk X sc fun Y => PG Y tg g) (pK : InBlk X sc fun Y => PE Y kx tk) (pV : InBlk X sc fun Y => PE Y vx tv)
    (fold : ∀ x, foldedSetIterable iter X.env x = pure x) (hq : tNdc X.prog X.w X.K wi g tk tv (own.map (·.2)) σ H Q)
    (out : ∀ D C t m G, Inv X pins σ G t → Q (.ref D) G → t.heap.Ns C m → FpOk X pins G C → compPost (model X.prog X.w) X.A X.xe use Qf (.ref D) C (.ok .next) t) :
    wpAny (model X.prog X.w) X.A (comprehension (.DictComp kx vx [⟨tg, iter, [], 0⟩] sc pos) sc X.env pos' newDict false (eval iter X.env) use) Qf X.xe s := by
  have cells : ∀ y ∈ sc.names, y.2 = .free → ∃ c, X.env.cells.lookup y.1 = some c := by
    intro y hy e
    exact (bk.free y hy e).elim (fun z => I.ok.has _ (.inl z)) fun z => I.ok.has _ (.inr z)
  refine wpAny_comprehension_free (use := use) rfl fold (closure_ok cells) bk.kind (fun y hy e => by rw [bk.uniq y hy, e]) ?_
  refine thn (it0.run pins s σ H _ I hq) fun xv s1 hx => thn hx fun itv s2 ⟨it, fp, tn, J, G, eit, I2, T, st2, f2, q⟩ => ?_
  subst eit
  refine wpAny_newObj_type (newEnv_comp ?_)
  obtain ⟨D, hD⟩ : ∃ D, D = s2.heap.objs.size := ⟨_, rfl⟩
  rw [← hD]
  have free : G D = none := I2.hok.fresh (Nat.le_of_eq hD.symm)
  obtain ⟨W, ⟨m0, w0⟩, turn⟩ := q D free
  obtain ⟨s3, hs3⟩ : ∃ t : Shared, t = { s2 with heap := s2.heap.push { cls := .type "dict", data := .dict #[] } } := ⟨_, rfl⟩
  rw [← hs3]
  have I3 : Inv X pins σ (upd G D (ndO X.prog X.w D [])) s3 := by
    rw [hs3, hD]
    exact I2.laid (t' := s2.toks) (fun b o e => Heap.get?_push_of_some _ e) (Nat.le_refl _) (ndNew s2.heap I2.big)
  have grow : s3.heap = s2.heap.push { cls := .type "dict", data := .dict #[] } := by rw [hs3]
  have below : ∀ b ∈ fp, b < s2.heap.objs.size := fun b hb => (T.obj _ _ st2 b hb).elim fun o e => Heap.lt_size e.1
  have f3 : ∀ b ∈ fp, FpOk X pins (upd G D (ndO X.prog X.w D [])) b ∧ b < s3.heap.objs.size := by
    intro b hb
    have lt := below b hb
    constructor
    · exact ⟨by rw [upd_ne (by rw [hD]; exact Nat.ne_of_lt lt)]; exact (f2 b hb).1, (f2 b hb).2⟩
    · rw [grow, Heap.size_push]
      exact Nat.lt_succ_of_lt lt
  have st3 : tn 0 s3.heap := by
    refine T.keep _ _ _ st2 fun b _ o e => ?_
    rw [grow]
    exact Heap.get?_push_of_some _ e
  have I4 := block_start I3 bk nd f3
  obtain ⟨ce, hce⟩ : ∃ c, c = compEnvC sc (cellsFrom (s3.heap.objs.size + 1) sc.names (cloFrom X.env.cells sc.names [])) s3.heap.objs.size X.env := ⟨_, rfl⟩
  obtain ⟨G3, hG3⟩ : ∃ G3, G3 = upd G D (ndO X.prog X.w D []) := ⟨_, rfl⟩
  have qG : PG (X.blk s3 G3 sc ce fp) tg g := by rw [hce]; exact pG _ _ _ _ _
  have qK : PE (X.blk s3 G3 sc ce fp) kx tk := by rw [hce]; exact pK _ _ _ _ _
  have qV : PE (X.blk s3 G3 sc ce fp) vx tv := by rw [hce]; exact pV _ _ _ _ _
  have loc : ce.locals = s3.heap.objs.size := by rw [hce]; rfl
  obtain ⟨s4, hs4⟩ : ∃ t : Shared, t = { s3 with heap := pushCells (s3.heap.push { cls := .type "dict", data := .dict #[] }) sc.names } := ⟨_, rfl⟩
  rw [← hce, ← hG3, ← hs4] at I4
  rw [← hG3] at I3 w0 f3
  show codeAny _ _ (.compStart (.DictComp kx vx [⟨tg, iter, [], 0⟩] sc pos) 0 (.ref it) (.ref D) (compEnvC sc (cellsFrom (s3.heap.objs.size + 1) sc.names (cloFrom X.env.cells sc.names [])) s3.heap.objs.size X.env)) _ _
  rw [← hce, ← hs4]
  have none3 : ∀ b ∈ fp, G3 b = none := fun b hb => (f3 b hb).1.1
  have st4 : tn 0 s4.heap := by
    refine T.keep _ _ _ st3 fun b _ o e => ?_
    rw [hs4]
    exact pushCells_keeps _ _ _ _ (Heap.get?_push_of_some _ e)
  have fps : ∀ {ρ : L2.St} {G' : Hp} {t : Shared}, Inv (X.blk s3 G3 sc ce fp) [] ρ G' t → (∀ b ∈ fp, G' b = none) → ∀ b ∈ fp, FpOk (X.blk s3 G3 sc ce fp) [] G' b := by
    intro ρ G' t J' hn b hb
    refine ⟨hn b hb, (J'.ok.exf b hb).1, J'.ok.exfs b hb, .inl hb, fun x c e => (J'.ok.exf b hb).2 x c e, fun p hp => ?_⟩
    exact absurd (show p ∈ ([] : List (Addr × Obj)) ++ [] from hp) (by simp)
  suffices loop : codeAny (model X.prog X.w) X.A (.compLoop (.DictComp kx vx [⟨tg, iter, [], 0⟩] sc pos) 0 (.ref it) (.ref D) ce) (compPost (model X.prog X.w) X.A X.xe use Qf (.ref D) s3.heap.objs.size) s4 from codeAny_compStart_dict loop (T.self X.A 0 _ _ _ st4 loop)
  refine compLoop_anyD (fun n t => ∃ i G', Inv (X.blk s3 G3 sc ce fp) [] (wipe σ (own.map (·.2))) G' t ∧ tn i t.heap ∧ (∀ b ∈ fp, G' b = none) ∧ W i n G') (fun n s5 ⟨i, G5, I5, st5, n5, w5⟩ => ?_) m0 ⟨0, G3, I4, st4, none3, w0⟩
  rcases turn i n G5 w5 with ⟨stop, qq⟩ | ⟨go, Nx, hNx, step⟩
  · refine thnF (T.done (X.blk s3 G3 sc ce fp) rfl rfl rfl calm i [] s5 _ G5 (fun _ _ => False) I5 (fps I5 n5) st5 stop) fun r s6 ⟨er, I6⟩ => ?_
    subst er
    have I7 : Inv X pins σ G5 s6 := I3.call' (ch := fp) I6.os I6.base I6.hok I6.bare fun b hb => by
      obtain ⟨⟨_, a1, a2, a3, a4, a5⟩, _⟩ := f3 b hb
      exact ⟨a3, a1, a4, a5⟩
    have nC : G5 s3.heap.objs.size = none := by
      rw [← loc]
      exact I6.free
    obtain ⟨m, hm, _⟩ := I6.loc
    have hm : s6.heap.Ns ce.locals m := hm
    rw [loc] at hm
    exact out D _ s6 m G5 I7 qq hm (I3.fpOk (Nat.le_refl _) nC)
  · refine thnF (T.item (X.blk s3 G3 sc ce fp) rfl rfl rfl calm i [] s5 _ G5 (fun _ _ => False) I5 (fps I5 n5) st5 go) fun r s6 ⟨u, er, h6⟩ => ?_
    subst er
    refine thnF h6 fun _ s7 ⟨x, G7, I7, r7, y7, st7, n7⟩ => ?_
    refine thnF (qG.run _ s7 _ G7 x u _ (I7.pinned (fps I7 n7) (T.obj _ _ st7)) r7 (step x G7 y7)) fun _ s8 ⟨ρ, G8, I8, hw8, q8⟩ => ?_
    refine wpAny_pure ?_
    show wpAny _ _ _ _ _ _
    refine thnF (qK.run _ s8 ρ G8 _ I8 q8) fun kv s9 ⟨y, G9, I9, r9, q9⟩ => ?_
    refine thnF (qV.run _ s9 ρ G9 _ I9 q9) fun vv s10 h10 => ?_
    obtain ⟨z, G10, I10, r10, kvs, a, e, rfl, nN, he, pl, hl, nx⟩ := h10
    cases r9
    refine nd_dictSet (X := X.blk s3 G3 sc ce fp) hu I10 nN he pl r10 hl fun s11 I11 => ?_
    obtain ⟨m', hm, w'⟩ := hNx _ nx
    have pin' : ∀ b ∈ fp, ∀ o, s7.heap.get? b = some o → s11.heap.get? b = some o ∧ upd G10 D (ndO X.prog X.w D ((storeD kvs e a z).map kn)) b = none := fun b hb o e =>
      let c := I11.pin (b, o) (List.mem_append_right _ (List.mem_append_right _ (mem_pinsAt hb e)))
      ⟨c.1, c.2.1⟩
    refine ⟨m', hm, i + 1, _, (I11.unpinned (pins := [])).weak (by rw [← hw8, wipe_length]) (fun j v e => ?_), T.keep _ _ _ st7 fun b hb o e => (pin' b hb o e).1, fun b hb => ?_, w'⟩
    · rw [← hw8] at e
      exact (wipe_some e).1
    · obtain ⟨o, e, _⟩ := T.obj _ _ st7 b hb
      exact (pin' b hb o e).2
theorem pe_ndc {kx vx tg iter : Expr} {sc : Scope} {own : List (Str × Nat)} {pos : Pos} {wi : TI} {g : TG} {tk tv : TE} (hu : X.A.units + 8 < cLine) (calm : X.calm = true) (nd : X.N.Nodup) (it0 : PI X tg iter wi) (bk : BlkOk X.N X.env.scope sc own)
    (pG : InBlk X sc fun Y => PG Y tg g) (pK : InBlk X sc fun Y => PE Y kx tk) (pV : InBlk X sc fun Y => PE Y vx tv) (fold : ∀ x, foldedSetIterable iter X.env x = pure x := by intro _; rfl) :
    PE X (.DictComp kx vx [⟨tg, iter, [], 0⟩] sc pos) (tNdc X.prog X.w X.K wi g tk tv (own.map (·.2))) := by
  refine ⟨fun pins s σ H Q I h => ?_⟩
  rw [arm_eval_DictComp]
  refine ndc_core hu calm nd I it0 bk pG pK pV fold h fun D C t m G I' q hm f => ⟨m, hm, fun h2 sb => ?_⟩
  obtain ⟨f0, f1, f2, f3, f4, f5⟩ := f
  exact ⟨.ref D, G, I'.turned (t' := t.toks) (fun b o hb e => (sb.2 b hb).trans e) f0 f1 f3 f4 f5, rfl, q⟩
end
end ND

set_option Elab.async false
set_option linter.all false
set_option maxRecDepth 100000
set_option maxHeartbeats 4000000
/-! list(d), sorted(xs) of data -/
namespace ND
open PySem PySem.Spec PyProof.Rows L2
theorem rawSrc {prog : Program} {w : World} {d : Addr} {es : Array DictEntry} {ep : Nat} (lo : (d == sysModules) = false) : PySem.W.KdlSrc prog w "dict" d d es.size (fun i v => ∃ hi : i < es.size, v = es[i].key) (fun h => h.DictRaw d es ep) where
  type := fun _ m => m.typeIs
  there := fun h m => by
    obtain ⟨o, ho, _⟩ := m
    exact ⟨Heap.lt_size ho, Heap.lt_size ho⟩
  keep := fun h h' m k => m.at fun o e => k d (.inl rfl) o e
  notList := by decide
  notTuple := by decide
  hint := fun A E s Q m q => PySem.W.kdl_hint_dict m.typeIs q
  iter := fun A s hh m => by
    have lt : d < s.heap.objs.size := by
      obtain ⟨o, ho, _⟩ := m
      exact Heap.lt_size ho
    refine ⟨_, _, fun E Q q => wpAny_pyIter_dict_raw lo m q, Walks.rawKeys hh s.heap.objs.size d (Nat.ne_of_lt lt) es ep, ?_⟩
    exact ⟨⟨_, Heap.get?_push_size _ rfl, rfl, rfl⟩, m.at fun o e => Heap.get?_push_of_some _ e⟩
theorem refsVals : ∀ {l : List Addr} {us : List Value}, us.length = l.length → (∀ (j : Nat) (v : Value), us[j]? = some v → ∃ a, l[j]? = some a ∧ v = .ref a) → Vals (l.map V.ref) us
  | [], [], _, _ => .nil
  | a :: l, u :: us, hl, h => by
    obtain ⟨b, e, rfl⟩ := h 0 u rfl
    cases e
    exact .cons rfl (refsVals (by simpa using hl) fun j v e => by simpa using h (j + 1) v (by simpa using e))
  | [], _ :: _, hl, _ => by simp at hl
  | _ :: _, [], hl, _ => by simp at hl
section
variable {X : Cx}
/-- the keys that a walk over the dict gives -/
theorem keyVals {P : Program} {w : World} {kvs : List KvD} {h : Heap} {xs : List (NestedKey × Addr × Value)} {es : Array DictEntry} {acc : List Value} (pr : Paired rKv (kvs.map kn) xs) (hsz : es.size = xs.length) (hx : ∀ i (hi : i < es.size), ∃ y, xs[i]? = some y ∧ es[i].key = .ref y.2.1 ∧ es[i].val = y.2.2 ∧ (nestedKind P w).is h y.1 y.2.1)
    (hl : acc.length = es.size) (ha : ∀ (j : Nat) (v : Value), acc[j]? = some v → ∃ hi : j < es.size, v = es[j].key) : Vals (kvs.map fun q => V.ref q.2.1) acc := by
  have at1 : ∀ {ks : List KvN} {xs : List (NestedKey × Addr × Value)}, Paired rKv ks xs → ∀ (j : Nat) (y : NestedKey × Addr × Value), xs[j]? = some y → ∃ q, ks[j]? = some q ∧ q.2.1 = y.2.1 := by
    intro ks xs p
    induction p with
    | nil => intro j y e; cases j <;> cases e
    | cons h t ih =>
      intro j y e
      cases j with
      | zero => cases e; exact ⟨_, rfl, h.2.1⟩
      | succ j => exact ih j y (by simpa using e)
  have e : (kvs.map fun q => V.ref q.2.1) = (kvs.map fun q => q.2.1).map V.ref := by rw [List.map_map]; rfl
  rw [e]
  refine refsVals ?_ fun j v hv => ?_
  · have := pairedLen pr
    rw [List.length_map] at this ⊢
    omega
  · obtain ⟨hi, rfl⟩ := ha j v hv
    obtain ⟨y, e1, e2, _, _⟩ := hx j hi
    obtain ⟨q, e3, e4⟩ := at1 pr j y e1
    rw [List.getElem?_map] at e3
    cases e5 : kvs[j]? with
    | none => rw [e5] at e3; cases e3
    | some p =>
      rw [e5] at e3
      have e6 : kn p = q := Option.some.inj e3
      refine ⟨p.2.1, by rw [List.getElem?_map, e5]; rfl, ?_⟩
      rw [e2, ← e4, ← e6]
      rfl
theorem call_listN (calm : X.calm = true) : CallR X (.type "list") (fun xs H Q => ∃ (a : Addr) (kvs : List KvD), xs = [.ref a] ∧ Nd X.prog X.w X.K H a kvs ∧ ∀ p, H p = none → Q (.ref p) (upd H p (.lst (kvs.map fun q => .ref q.2.1)))) := by
  intro pins s σ H xs us Q I r q
  obtain ⟨a, kvs, rfl, n, q⟩ := q
  obtain ⟨u, rfl, rx⟩ := vals1 r
  cases rx
  obtain ⟨hz, lo, ys, pr, dd⟩ := n.heap I
  obtain ⟨es, ep, raw, hsz, hx⟩ := dd.raw
  have hy : ys.length = kvs.length := by
    have := pairedLen pr
    rw [List.length_map] at this
    omega
  refine PySem.W.kdl_call (rawSrc (es := es) (ep := ep) lo) (I.ok.hd calm) raw (by omega) fun h' tk acc c' hk hD hacc => ?_
  have hv := keyVals (acc := acc.toList) pr hsz hx (by rw [Array.length_toList]; exact hacc.1) fun j v e => hacc.2 j v (by rw [← Array.getElem?_toList]; exact e)
  refine ⟨.ref s.heap.objs.size, upd H s.heap.objs.size (.lst (kvs.map fun q => .ref q.2.1)), I.laid (t' := tk) hk (Nat.le_refl _) ?_, rfl, q _ (I.hok.fresh (Nat.le_refl _))⟩
  exact ⟨by rw [List.length_map]; exact hz, acc.toList, c', hv, by rw [Array.toArray_toList]; exact hD⟩
/-! ### sorted(xs), xs data -/
abbrev Bd := V × PyData
theorem valsEach : ∀ {bs : List Bd} {us : List Value}, Vals (bs.map (·.1)) us → PySem.W.EachIs (fun u (b : Bd) => RelV b.1 u) us bs
  | [], [], _ => .nil
  | b :: bs, u :: us, .cons r t => .cons r (valsEach t)
theorem eachVals : ∀ {bs : List Bd} {us : List Value}, PySem.W.EachIs (fun u (b : Bd) => RelV b.1 u) us bs → Vals (bs.map (·.1)) us
  | [], [], _ => .nil
  | b :: bs, u :: us, .cons r t => .cons r (eachVals t)
theorem eachReads {pins : List (Addr × Obj)} {σ : L2.St} {H : Hp} {s : Shared} (I : Inv X pins σ H s) : ∀ {bs : List Bd} {us : List Value}, (∀ b ∈ bs, Dp X.K H b.1 b.2) → Vals (bs.map (·.1)) us → PySem.W.EachIs (fun u (b : Bd) => ∃ as, Reads s.heap u b.2 as) us bs
  | [], [], _, _ => .nil
  | b :: bs, u :: us, h, .cons r t => .cons (Dp.reads I b.2 b.1 u (h b List.mem_cons_self) r) (eachReads I (fun c hc => h c (List.mem_cons_of_mem _ hc)) t)
def sortB (bs : List Bd) : List Bd := bs.mergeSort (PySem.W.dataLe false fun b : Bd => b.2)
def rSortedDt (K : PySem.W.Frag) : List V → Hp → VK → Prop := fun vs H Q => ∃ (a : Addr) (bs : List Bd), vs = [.ref a] ∧ SqL K H a (bs.map (·.1)) ∧ (∀ b ∈ bs, Dp K H b.1 b.2) ∧ PySem.W.AllAlike (bs.map (·.2)) ∧ PySem.W.Sortable (bs.map (·.2)) ∧ (∀ b ∈ bs, b.2.depth ≤ 8) ∧
  ∀ p, H p = none → Q (.ref p) (upd H p (.lst ((sortB bs).map (·.1))))
theorem cr_sortedDt (hu : X.A.units + 12 < cLine) : CallR X (.builtin "sorted") (rSortedDt X.K) := by
  intro pins s σ H vs us Q I r h
  obtain ⟨a, bs, rfl, hs, hd, al, so, dp, q⟩ := h
  obtain rfl := Vals.ref1 r
  obtain ⟨its, rv, hl, hz⟩ := I.list hs
  rw [List.length_map] at hz
  refine PySem.W.sorted_data (enc := fun b : Bd => b.2) (R := fun u (b : Bd) => RelV b.1 u) hl.isList (valsEach rv) (eachReads I hd rv) al so hz (fun b hb => by have := dp b hb; omega) fun out ol oe => ?_
  obtain ⟨ep, he⟩ := PyProof.Rows.sortedAll_at s.heap its (List.toArray out)
  refine ⟨.ref _, upd H (s.heap.objs.size + 1) (.lst ((sortB bs).map (·.1))), I.laid (t' := s.toks) (fun _ _ => PyProof.Rows.sortedAll_old) (Nat.le_succ _) ⟨?_, out, ep, eachVals oe, he⟩, rfl, q _ (I.hok.fresh (Nat.le_succ _))⟩
  rw [List.length_map]
  unfold sortB
  rw [List.length_mergeSort]
  exact hz
end
end ND

set_option Elab.async false
set_option linter.all false
set_option maxRecDepth 100000
set_option maxHeartbeats 4000000
/-! sorted(.., key=f), f a def of one's own: its calls may touch the slots of the frames that wait -/
namespace ND
open PySem PySem.W PySem.Calls PyProof.Rows
/-- all but a stands, of the frames fs all but the slots -/
def SkB (fs : List Addr) (a : Addr) (h h' : Heap) : Prop := ∀ b o, b ≠ a → h.get? b = some o → (b ∉ fs → h'.get? b = some o) ∧ ∃ sl, h'.get? b = some { o with slots := sl }
def Sk (fs : List Addr) (h h' : Heap) : Prop := ∀ b o, h.get? b = some o → (b ∉ fs → h'.get? b = some o) ∧ ∃ sl, h'.get? b = some { o with slots := sl }
theorem Sk.of {fs : List Addr} {h h' : Heap} (k : ∀ b o, h.get? b = some o → h'.get? b = some o) : Sk fs h h' := fun b o e => ⟨fun _ => k b o e, o.slots, k b o e⟩
theorem SkB.of {fs : List Addr} {a : Addr} {h h' : Heap} (k : ∀ b o, b ≠ a → h.get? b = some o → h'.get? b = some o) : SkB fs a h h' := fun b o n e => ⟨fun _ => k b o n e, o.slots, k b o n e⟩
theorem Sk.trans {fs : List Addr} {h h1 h2 : Heap} (x : Sk fs h h1) (y : Sk fs h1 h2) : Sk fs h h2 := fun b o e => by
  obtain ⟨k, sl, e1⟩ := x b o e
  obtain ⟨_, sl2, e2⟩ := y b _ e1
  exact ⟨fun nb => (y b o (k nb)).1 nb, sl2, e2⟩
theorem SkB.trans {fs : List Addr} {a : Addr} {h h1 h2 : Heap} (x : SkB fs a h h1) (y : Sk fs h1 h2) : SkB fs a h h2 := fun b o n e => by
  obtain ⟨k, sl, e1⟩ := x b o n e
  obtain ⟨_, sl2, e2⟩ := y b _ e1
  exact ⟨fun nb => (y b o (k nb)).1 nb, sl2, e2⟩
theorem SkB.but {fs : List Addr} {a c : Addr} {h h1 h2 : Heap} (x : SkB fs a h h1) (y : ∀ b o, b ≠ c → h1.get? b = some o → h2.get? b = some o) (hc : h.get? c = none ∨ c = a) : SkB fs a h h2 := fun b o n e => by
  have bc : b ≠ c := fun z => by
    rcases hc with hc | hc
    · rw [z, hc] at e; cases e
    · exact n (z.trans hc)
  obtain ⟨k, sl, e1⟩ := x b o n e
  exact ⟨fun nb => y b o bc (k nb), sl, y b _ bc e1⟩
/-- data without lists reads on while the tuples stand but for slots -/
theorem readsMv {h h' : Heap} (k : ∀ b o, h.get? b = some o → o.cls = .type "tuple" → ∃ sl, h'.get? b = some { o with slots := sl }) {n : Nat} {d : PyData} (pl : Pl n d) : ∀ (v : Value) (as : List Addr), Reads h v d as → Reads h' v d as := by
  induction pl with
  | non => intro v as r; cases r; exact .none
  | int => intro v as r; cases r; exact .int _ _
  | str => intro v as r; cases r; exact .str _ _
  | @tup n ds hd ih =>
    intro v as r
    cases r with
    | @tuple a o vs m xs as h1 h2 h3 h4 =>
      obtain ⟨sl, e⟩ := k _ _ h1 h2
      have all : ∀ (l : List PyData) (us : List Value) (as : List Addr), (∀ d ∈ l, ∀ (v : Value) (as : List Addr), Reads h v d as → Reads h' v d as) → ReadsAll h us l as → ReadsAll h' us l as := by
        intro l
        induction l with
        | nil => intro us as _ r; cases r; exact .nil
        | cons x l il =>
          intro us as hl r
          cases r with
          | cons r1 r2 => exact .cons (hl x List.mem_cons_self _ _ r1) (il _ _ (fun d hd => hl d (List.mem_cons_of_mem _ hd)) r2)
      exact .tuple e h2 h3 (all ds _ _ ih h4)
/-- a heap without the object at k -/
def gone (h : Heap) (k : Addr) : Heap := { h with objs := h.objs.setIfInBounds k { cls := .none, data := .freed } }
theorem gone_self (h : Heap) (k : Addr) : (gone h k).get? k = none := by
  unfold gone Heap.get?
  by_cases hk : k < h.objs.size
  · simp [hk]
  · simp [hk]
theorem gone_ne (h : Heap) {k b : Addr} (n : b ≠ k) : (gone h k).get? b = h.get? b := by
  unfold gone Heap.get?
  simp [Array.getElem?_setIfInBounds, Ne.symm n]
section
variable {prog : Program} {w : World} {A : Around} {E : Value → Shared → Prop} {s : Shared} {a kS : Addr} {vs : List Value} {kz : List PyData} {b : Bool} {f : Value} {e1 : Nat} {P : PySem.Fin → Shared → Prop} {fs : List Addr}
/-- what a call of f at k gives -/
def KeyAt (fs : List Addr) (s s0 : Shared) (k : PyData) (r : Value) (s1 : Shared) : Prop := s1.os = s.os ∧ AllBare s1.gens ∧ Sk fs s0.heap s1.heap ∧ Reads s1.heap r k []
theorem keyFold {h1 : Heap} (bare : AllBare s.gens) (sk : SkB fs a h1 s.heap) (hkS : h1.get? kS = none) (nk : s.heap.get? kS = some (seqObj "list" #[] 0)) (na : s.heap.get? a = some (seqObj "list" #[] e1)) (hka : kS ≠ a) (afs : a ∉ fs) (kfs : kS ∉ fs)
    (hlen : kz.length = vs.length) (hZ : vs.length ≤ sizeLine) (hal : AllAlike kz) (hsk : Sortable kz) (hpl : ∀ k ∈ kz, ∃ n, Pl n k) (hu : ∀ d, d ∈ kz → A.units + d.depth < cLine)
    (turn : ∀ (i : Nat) (v : Value) (k : PyData), vs[i]? = some v → kz[i]? = some k → ∀ s0 : Shared, s0.os = s.os → AllBare s0.gens → SkB fs a h1 s0.heap → wpAny (model prog w) A (call f [v]) (KeyAt fs s s0 k) (fun _ _ => False) s0)
    (fin : ∀ (s1 : Shared) (out : List Value) (c : Nat), s1.os = s.os → AllBare s1.gens → SkB fs a h1 s1.heap → s1.heap.get? a = some (seqObj "list" (List.toArray out) c) → KeyedOut b kz vs out → P (.done (.ret .none)) s1) :
    wpAny (model prog w) A (ksk_rest a f b vs.toArray e1 (.ref kS)) P E s := by
  unfold ksk_rest
  refine wpAny_bind (wpAny_rule ?_)
  first
    | rw [List.forIn_toArray]
    | (rw [← Array.forIn_toList]; simp only [List.toList_toArray])
  refine wpAny_bind (ksk_fold (fun i t => t.os = s.os ∧ AllBare t.gens ∧ SkB fs a h1 t.heap ∧ ∃ kA e, t.heap.get? kS = some (seqObj "list" kA e) ∧ t.heap.get? a = some (seqObj "list" #[] e1) ∧ EachIs (fun v k => Reads t.heap v k []) kA.toList (kz.take i)) vs 0 s
    ⟨rfl, bare, sk, #[], 0, nk, na, by rw [List.take_zero]; exact EachIs.nil⟩ (fun j x t hx inv => ?_) fun t inv => ?_)
  · obtain ⟨os, bg, kp, kA, e, nk', na', hk⟩ := inv
    simp only [Nat.zero_add] at hk ⊢
    have hj : j < vs.length := (List.getElem?_eq_some_iff.mp hx).1
    have hj2 : j < kz.length := by omega
    have hkj : kz[j]? = some kz[j] := List.getElem?_eq_getElem hj2
    have hz : kA.size ≤ vs.length := by
      have h1 := hk.length
      rw [Array.length_toList, List.length_take] at h1
      omega
    refine wpAny_bind (wpAny_attempt (wpAny_mono (turn j x kz[j] hx hkj t os bg kp) (fun v t2 he => ?_) fun _ _ hF => hF.elim))
    obtain ⟨os2, bg2, sk2, hr⟩ := he
    try dsimp only
    have nk2 : t2.heap.get? kS = some (seqObj "list" kA e) := (sk2 _ _ nk').1 kfs
    have na2 : t2.heap.get? a = some (seqObj "list" #[] e1) := (sk2 _ _ na').1 afs
    have sb := Heap.SameBut.update t2.heap kS (Obj.mapSeq (·.push v))
    obtain ⟨c2, hc2⟩ : ∃ c2, (t2.heap.update kS (Obj.mapSeq (·.push v))).get? kS = some (seqObj "list" (kA.push v) c2) := ⟨_, get?_update_seq nk2 (·.push v)⟩
    refine wpAny_bind (listUpdate_at nk2 rfl ?_ (Nat.le_trans hz hZ) (Nat.le_trans (Nat.le_of_eq (Array.size_push ..)) (Nat.succ_le_succ (Nat.le_trans hz hZ))))
    have stay : ∀ b o, b ≠ kS → t2.heap.get? b = some o → (t2.heap.update kS (Obj.mapSeq (·.push v))).get? b = some o := fun b o nb e => (sb.2 b nb).trans e
    have tupS : ∀ b o, t2.heap.get? b = some o → o.cls = .type "tuple" → ∃ sl, (t2.heap.update kS (Obj.mapSeq (·.push v))).get? b = some { o with slots := sl } := fun b o e ct => by
      refine ⟨o.slots, stay b o (fun z => ?_) e⟩
      rw [z, nk2] at e
      rw [← Option.some.inj e] at ct
      have c2 : Value.type "list" = Value.type "tuple" := ct
      injection c2 with c3
      exact absurd c3 (by decide)
    have all : ∀ k ∈ kz, ∀ u, Reads t2.heap u k [] → Reads (t2.heap.update kS (Obj.mapSeq (·.push v))) u k [] := fun k hk u r => (hpl k hk).elim fun n pl => readsMv tupS pl u [] r
    refine wpAny_pure ⟨rfl, os2, bg2, (kp.trans sk2).but stay (.inl hkS), kA.push v, c2, hc2, stay _ _ hka.symm na2, ?_⟩
    have ek : kz.take (j + 1) = kz.take j ++ [kz[j]] := by rw [List.take_add_one, hkj]; simp
    have ea : (kA.push v).toList = kA.toList ++ [v] := by simp
    rw [ea, ek]
    have old : ∀ {us : List Value} {ks : List PyData}, (∀ k ∈ ks, k ∈ kz) → EachIs (fun v k => Reads t.heap v k []) us ks → EachIs (fun u k => Reads (t2.heap.update kS (Obj.mapSeq (·.push v))) u k []) us ks := by
      intro us ks hm h
      induction h with
      | nil => exact .nil
      | cons r _ ih =>
        refine .cons ?_ (ih fun k hk => hm k (List.mem_cons_of_mem _ hk))
        have mk := hm _ List.mem_cons_self
        refine all _ mk _ ?_
        obtain ⟨n, pl⟩ := hpl _ mk
        exact readsMv (fun b o e _ => (sk2 b o e).2) pl _ [] r
    exact each_snoc (R := fun (u : Value) (d : PyData) => Reads (t2.heap.update kS (Obj.mapSeq (·.push v))) u d []) (all _ (List.getElem_mem hj2) _ hr) (old (fun k hk => List.mem_of_mem_take hk) hk)
  · obtain ⟨os, bg, kp, kA, e, nk', na', hk⟩ := inv
    have e3 : kz.take (0 + vs.length) = kz := List.take_of_length_le (by omega)
    rw [e3] at hk
    have hk2 : EachIs (fun v k => ∃ as, Reads t.heap v k as) kA.toList kz := hk.mono fun v k q => ⟨[], q⟩
    have hsz : kA.size = vs.length := by
      have h1 := hk2.length
      rw [Array.length_toList] at h1
      omega
    try dsimp only
    refine wpAny_bind (listItems_at nk' rfl ?_)
    refine keyH_end (s := t) (κ := dataKind t.heap kz) (h₁ := gone t.heap kS) (fun b o nb q => ?_) (gone_self _ _) nk' na' hka (SortsAt.data (s := t) hk2 hal hsk hu) hsz hZ fun h3 tk3 c k3 n3 => ?_
    · by_cases z : b = kS
      · rw [z, gone_self] at q; cases q
      · rw [gone_ne _ z] at q; exact q
    · refine fin { t with heap := h3, toks := tk3 } _ c os bg ?_ n3 ⟨t.heap, kA.toList, hal, rfl, hk2⟩
      intro b o nb q
      have nbk : b ≠ kS := fun z => by rw [z, hkS] at q; cases q
      obtain ⟨k, sl, q1⟩ := kp b o nb q
      refine ⟨fun nf => k3 b o nb (by rw [gone_ne _ nbk]; exact k nf), sl, k3 b _ nb (by rw [gone_ne _ nbk]; exact q1)⟩
theorem keyTree {n : Nat} (bare : AllBare s.gens) (ho : s.heap.get? a = some (seqObj "list" vs.toArray n)) (afs : a ∉ fs) (old : ∀ b ∈ fs, b < s.heap.objs.size) (hlen : kz.length = vs.length) (hZ : vs.length ≤ sizeLine) (hal : AllAlike kz) (hsk : Sortable kz) (hpl : ∀ k ∈ kz, ∃ n, Pl n k)
    (hu : ∀ d, d ∈ kz → A.units + d.depth < cLine)
    (turn : ∀ (i : Nat) (v : Value) (k : PyData), vs[i]? = some v → kz[i]? = some k → ∀ s0 : Shared, s0.os = s.os → AllBare s0.gens → SkB fs a s.heap s0.heap → wpAny (model prog w) A (call f [v]) (KeyAt fs s s0 k) (fun _ _ => False) s0)
    (fin : ∀ (s1 : Shared) (out : List Value) (c : Nat), s1.os = s.os → AllBare s1.gens → SkB fs a s.heap s1.heap → s1.heap.get? a = some (seqObj "list" (List.toArray out) c) → KeyedOut b kz vs out → P (.done (.ret .none)) s1) :
    wpAny (model prog w) A (ksk_tree a f b) P E s := by
  have lt : a < s.heap.objs.size := Heap.lt_size ho
  obtain ⟨e1, ho1⟩ : ∃ e1, (s.heap.update a (Obj.mapSeq fun _ => (#[] : Array Value))).get? a = some (seqObj "list" #[] e1) := ⟨_, get?_update_seq ho fun _ => #[]⟩
  have big : ((s.heap.update a (Obj.mapSeq fun _ => (#[] : Array Value))).push (seqObj "tuple" vs.toArray 0)).objs.size = s.heap.objs.size + 1 := by rw [size_push', Heap.size_update]
  unfold ksk_tree
  refine wpAny_bind (listItems_at ho rfl (wpAny_bind (listUpdate_at ho rfl ?_ (by rw [List.size_toArray]; exact hZ) (Nat.zero_le _))))
  refine wpAny_bind (seqEpoch_at ho1 rfl (wpAny_bind (wpAny_newTuple ?_ (by show vs.length ≤ _; exact hZ))))
  refine wpAny_bind (wpAny_newList (wpAny_holding ?_) (Nat.zero_le _))
  refine keyFold (s := { s with heap := sortingHeap s.heap a vs }) (h1 := s.heap) bare (SkB.of fun b o nb q => sortingHeap_old nb q) ?_ (Heap.get?_push_size _ rfl) (Heap.get?_push_of_some _ (Heap.get?_push_of_some _ ho1)) ?_ afs ?_ hlen hZ hal hsk hpl hu turn fin
  · exact Heap.get?_none_of_le (by rw [big]; exact Nat.le_succ _)
  · rw [big]; exact Nat.ne_of_gt (Nat.lt_succ_of_lt lt)
  · intro z
    have := old _ z
    rw [big] at this
    exact absurd (Nat.lt_of_succ_lt this) (Nat.lt_irrefl _)
end
end ND

set_option Elab.async false
set_option linter.all false
set_option maxRecDepth 100000
set_option maxHeartbeats 4000000
/-! sorted(d, key=f) over the layer: d a dict whose keys are data, f a def of one's own that looks at a key and gives data -/
namespace ND
open PySem PySem.Spec PyProof.Rows L2
/-- the tuples of H as they stand, all else unknown -/
def frzT (H : Hp) (h : Heap) : Hp := fun b => match H b with
  | some (.tup xs) => (h.get? b).map fun o => .frz o (.tup xs)
  | some (.frz o (.tup xs)) => some (.frz o (.tup xs))
  | _ => none
theorem frzT_some {H : Hp} {h : Heap} {b : Addr} {u : HO} (e : frzT H h b = some u) : ∃ o xs, u = .frz o (.tup xs) ∧ ((H b = some (.tup xs) ∧ h.get? b = some o) ∨ H b = some (.frz o (.tup xs))) := by
  unfold frzT at e
  split at e
  · next xs hb =>
    cases hg : h.get? b with
    | none => rw [hg] at e; cases e
    | some o =>
      rw [hg] at e
      exact ⟨o, xs, (Option.some.inj e).symm, .inl ⟨hb, rfl⟩⟩
  · next o xs hb => exact ⟨o, xs, (Option.some.inj e).symm, .inr hb⟩
  · cases e
theorem frzT_none {H : Hp} {h : Heap} {b : Addr} (e : H b = none) : frzT H h b = none := by
  unfold frzT
  rw [e]
section
variable {P : Program} {w : World} {H : Hp} {h : Heap}
theorem frzT_ok (hok : HOk P w H h) : HOk P w (frzT H h) h := fun b u e => by
  obtain ⟨o, xs, rfl, ⟨e1, e2⟩ | e1⟩ := frzT_some e
  · exact ⟨e2, hok b _ e1⟩
  · obtain ⟨q1, q2⟩ := hok b _ e1
    exact ⟨q1, q2⟩
theorem frzT_sq {K : PySem.W.Frag} (hok : HOk P w H h) {a : Addr} {xs : List V} (q : SqT K H a xs) : SqT K (frzT H h) a xs := by
  rcases q with (q | ⟨o, q⟩) | q
  · obtain ⟨_, _, _, o, ho, _⟩ := hok a _ q
    refine .inl (.inr ⟨o, ?_⟩)
    unfold frzT
    rw [q, ho]
    rfl
  · refine .inl (.inr ⟨o, ?_⟩)
    unfold frzT
    rw [q]
  · exact .inr q
end
theorem allSq {K : PySem.W.Frag} {H H' : Hp} : ∀ {ds : List PyData} {xs : List V}, (∀ d ∈ ds, ∀ v, Dp K H v d → Dp K H' v d) → DpAll K H xs ds → DpAll K H' xs ds
  | _, _, _, .nil => .nil
  | _, _, k, .cons h r => .cons (k _ List.mem_cons_self _ h) (allSq (fun d hd => k d (List.mem_cons_of_mem _ hd)) r)
theorem dpSq {K : PySem.W.Frag} {H H' : Hp} (k : ∀ a xs, SqT K H a xs → SqT K H' a xs) {n : Nat} {d : PyData} (o : Pl n d) : ∀ v, Dp K H v d → Dp K H' v d := by
  induction o with
  | non n => intro v h; cases h; exact .non
  | int n i => intro v h; cases h; exact .int _
  | str n z => intro v h; cases h; exact .str _
  | tup h ih =>
    intro v hv
    cases hv with
    | tup hx hd => exact .tup (k _ _ hx) (allSq ih hd)
/-- data of the layer reads, without an Inv -/
theorem readsOf {P : Program} {w : World} {K : PySem.W.Frag} {H : Hp} {h : Heap} (kin : K.In h) (hok : HOk P w H h) {n : Nat} {d : PyData} (pl : Pl n d) : ∀ (v : V) (u : Value), Dp K H v d → RelV v u → Reads h u d [] := by
  induction pl with
  | non => intro v u hd r; cases hd; cases r; exact .none
  | int n i => intro v u hd r; cases hd; obtain ⟨t, rfl⟩ := r; exact .int i t
  | str n z => intro v u hd r; cases hd; obtain ⟨t, rfl⟩ := r; exact .str z t
  | @tup n ds hl ih =>
    intro v u hd r
    cases hd with
    | @tup a xs _ hs ha =>
      cases r
      have tup : ∃ its : List Value, Vals xs its ∧ ∃ o n, h.get? a = some o ∧ o.cls = .type "tuple" ∧ o.data = .seq its.toArray n := by
        rcases hs with q | ⟨o, its, n, hk, hc, hs, hz, r⟩
        · obtain ⟨z, its, r, o, ho, hc, n, hd⟩ := q.ok hok
          exact ⟨its, r, o, n, ho, hc, hd⟩
        · exact ⟨its.toList, r, o, n, kin a o hk, hc, by simpa using hs⟩
      obtain ⟨its, rv, o, m, ho, hc, hdt⟩ := tup
      have all : ∀ (l : List PyData) (vs : List V) (us : List Value), (∀ d ∈ l, ∀ (v : V) (u : Value), Dp K H v d → RelV v u → Reads h u d []) → DpAll K H vs l → Vals vs us → ReadsAll h us l [] := by
        intro l
        induction l with
        | nil => intro vs us _ ha r; cases ha; cases r; exact .nil
        | cons x l il =>
          intro vs us hl ha r
          cases ha with
          | cons h1 h2 =>
            cases r with
            | cons r1 r2 => exact ReadsAll.cons (as := []) (bs := []) (hl x List.mem_cons_self _ _ h1 r1) (il _ _ (fun d hd => hl d (List.mem_cons_of_mem _ hd)) h2 r2)
      exact .tuple ho hc hdt (by simpa using all ds _ its ih ha rv)
/-- a look at data that gives data -/
def spKey (K : PySem.W.Frag) (p : PyData → Prop) (k : PyData → PyData) : Sp := fun vs H Q _ => ∃ v d, vs = [v] ∧ Dp K H v d ∧ p d ∧ ∀ r H', (∀ a o, H a = some o → H' a = some o) → Dp K H' r (k d) → Q r H'
section
variable {X : Cx} {pins : List (Addr × Obj)} {σ : L2.St} {H : Hp} {s : Shared}
/-- the frames that wait are no part of the base, the layer's heap -/
theorem baseFree (I : Inv X pins σ H s) {b : Addr} {o : Obj} (e : X.base.get? b = some o) : b ∉ frs X.stack := fun hb => by
  have := (I.stack.mem hb).1
  rw [e] at this
  cases this
theorem invAt (I : Inv X pins σ H s) {s0 : Shared} (os : s0.os = s.os) (bare : AllBare s0.gens) (sk : Sk (frs X.stack) s.heap s0.heap) : Inv X pins σ H s0 := by
  refine I.call' (ch := []) os ⟨fun b o e n nf _ => (sk b o e).1 nf, fun b o e n hf _ => (sk b o e).2, fun b o e n _ => n, fun b o e _ => ?_, fun _ _ e => e, fun _ _ _ e => e, fun b ps e => ⟨#[], by rw [Array.append_empty]; exact e⟩⟩ (fun a u e => ?_) bare (fun b z => absurd z (by simp))
  · obtain ⟨sl, q⟩ := (sk b o e).2
    exact ⟨_, q⟩
  · refine (I.hok a u e).stay (fun b q hb eb => (sk b q eb).1 fun z => ?_) (fun _ q => q) fun _ _ q => q
    have nb := I.stkFree b z
    rcases hb with rfl | hb
    · rw [e] at nb; cases nb
    · rw [hb] at nb; cases nb
theorem keyCall {P0 : Shared} {n m : Nat} {f : Addr} {fd : FuncData} {x : Str} {p : PyData → Prop} {k : PyData → PyData} (F : FnOk X.prog X.w X.K X.mg X.base CX0 n f fd [x] (spKey X.K p k)) (hr : Room n X.A.in1.in1) (hb : Binds X.K fd [x] []) (I : Inv X pins σ H s) (os : s.os = P0.os)
    {v : V} {u : Value} {d : PyData} (dp : Dp X.K H v d) (pl : Pl 8 d) (hp : p d) (pk : Pl m (k d)) (r : RelV v u) : wpAny (model X.prog X.w) X.A.in1.in1 (call (.ref f) [u]) (KeyAt (frs X.stack) P0 s (k d)) (fun _ _ => False) s := by
  have e0 := I.env0
  have ok := frzT_ok I.hok
  have env : Env0 X.prog X.w X.K X.mg X.base X.A.in1.in1 X.stack s (frzT H s.heap) := ⟨e0.frames, e0.mod, fun b o e => ⟨(e0.bs b o e).1, frzT_none (e0.bs b o e).2⟩, e0.bsz, e0.funs, fun b hb => frzT_none (e0.frf b hb), ok, e0.bare⟩
  have dp2 := dpSq (fun a xs q => frzT_sq (K := X.K) I.hok q) pl _ dp
  have run := F.run X.A.in1.in1 X.stack s (frzT H s.heap) ⟨[u], []⟩ [u] [v] (fun r H' => (∀ a o, frzT H s.heap a = some o → H' a = some o) ∧ Dp X.K H' r (k d)) (fun _ _ _ => False) hr env (hb s [u] I.kIn rfl) (.cons r .nil) ⟨v, d, rfl, dp2, hp, fun r H' same dr => ⟨same, dr⟩⟩
  refine wpAny_call (codeAny_mono run fun res s1 hq => ?_)
  cases res with
  | error e => exact False.elim hq
  | ok fl =>
    cases fl with
    | ret y =>
      obtain ⟨z, H', os1, bare, un, hok, rz, same, dz⟩ := hq
      have sk : Sk (frs X.stack) s.heap s1.heap := fun b o e => by
        cases hf : frzT H s.heap b with
        | none =>
          refine ⟨fun nf => un.keep b o e hf nf (by simp), ?_⟩
          by_cases hb : b ∈ frs X.stack
          · exact un.slot b o e hf hb (by simp)
          · exact ⟨o.slots, un.keep b o e hf hb (by simp)⟩
        | some q =>
          obtain ⟨o', xs, rfl, _⟩ := frzT_some hf
          have e1 := (hok b _ (un.frzs _ _ _ hf)).1
          have e2 := (ok b _ hf).1
          rw [e] at e2
          have e3 := Option.some.inj e2
          subst e3
          exact ⟨fun _ => e1, o.slots, e1⟩
      have kin : X.K.In s1.heap := fun a o hk => by
        have hbase := I.ok.mod.kin a o hk
        exact (sk a o (I.kIn a o hk)).1 (baseFree I hbase)
      exact ⟨os1.trans os, bare, sk, readsOf kin hok pk z y dz rz⟩
    | next => exact False.elim hq
    | brk => exact False.elim hq
    | cont => exact False.elim hq
end
end ND

set_option Elab.async false
set_option linter.all false
set_option maxRecDepth 100000
set_option maxHeartbeats 4000000
namespace ND
open PySem PySem.Spec PyProof.Rows L2
def sortK (k : PyData → PyData) (kvs : List KvD) : List KvD := kvs.mergeSort (PySem.W.dataLe false fun q : KvD => k q.1)
def rSortNK (P : Program) (w : World) (K : PySem.W.Frag) (f : Addr) (p : PyData → Prop) (k : PyData → PyData) : List V → List V → Hp → VK → Prop := fun vs zs H Q => ∃ (d : Addr) (kvs : List KvD), vs = [.ref d] ∧ zs = [.ref f] ∧ Nd P w K H d kvs ∧ (∀ q ∈ kvs, p q.1) ∧ (∀ q ∈ kvs, Pl 8 (k q.1)) ∧
  PySem.W.AllAlike (kvs.map fun q => k q.1) ∧ PySem.W.Sortable (kvs.map fun q => k q.1) ∧ ∀ l, H l = none → Q (.ref l) (upd H l (.lst ((sortK k kvs).map fun q => .ref q.2.1)))
theorem plDepth {n : Nat} {d : PyData} (h : Pl n d) : d.depth ≤ n := by
  induction h with
  | non => simp [PyData.depth]
  | int => simp [PyData.depth]
  | str => simp [PyData.depth]
  | @tup n ds h ih =>
    have all : ∀ l : List PyData, (∀ d ∈ l, d.depth ≤ n) → PyData.depthAll l ≤ n := by
      intro l
      induction l with
      | nil => intro _; simp [PyData.depthAll]
      | cons x l il =>
        intro hl
        have h1 := hl x List.mem_cons_self
        have h2 := il fun d hd => hl d (List.mem_cons_of_mem _ hd)
        simp only [PyData.depthAll]
        omega
    have := all ds ih
    simp only [PyData.depth]
    omega
theorem eachKv : ∀ {kvs : List KvD} {us : List Value}, Vals (kvs.map fun q => V.ref q.2.1) us → PySem.W.EachIs (fun u (q : KvD) => RelV (.ref q.2.1) u) us kvs
  | [], [], _ => .nil
  | q :: kvs, u :: us, .cons r t => .cons r (eachKv t)
theorem kvEach : ∀ {kvs : List KvD} {us : List Value}, PySem.W.EachIs (fun u (q : KvD) => RelV (.ref q.2.1) u) us kvs → Vals (kvs.map fun q => V.ref q.2.1) us
  | [], [], _ => .nil
  | q :: kvs, u :: us, .cons r t => .cons r (kvEach t)
theorem valsAt {α : Type} {g : α → V} : ∀ {l : List α} {us : List Value}, Vals (l.map g) us → ∀ (i : Nat) (v : Value), us[i]? = some v → ∃ q, l[i]? = some q ∧ RelV (g q) v
  | [], [], _, i, v, e => by cases i <;> cases e
  | q :: l, u :: us, .cons r t, 0, v, e => by cases e; exact ⟨q, rfl, r⟩
  | q :: l, u :: us, .cons r t, i + 1, v, e => valsAt t i v (by simpa using e)
theorem HOk_get {P : Program} {w : World} {H : Hp} {h : Heap} (hok : HOk P w H h) {a : Addr} {u : HO} (e : H a = some u) : ∃ o, h.get? a = some o := by
  have lt := hok.lt e
  by_cases hn : h.get? a = none
  · exact absurd (L2.HOk.gone hok hn) (by rw [e]; simp)
  · exact Option.ne_none_iff_exists'.mp hn
section
variable {X : Cx}
/-- a thing that came to be while all else stood -/
theorem layAt {pins : List (Addr × Obj)} {σ : L2.St} {H : Hp} {s s1 : Shared} {L : Addr} {o : HO} (I : Inv X pins σ H s) (os : s1.os = s.os) (bare : AllBare s1.gens) (sk : Sk (frs X.stack) s.heap s1.heap) (hn : s.heap.get? L = none) (Hn : H L = none) (new : ObjOk X.prog X.w (upd H L o) s1.heap L o) :
    Inv X pins σ (upd H L o) s1 := by
  have I1 := invAt I os bare sk
  have ne : ∀ {b : Addr} {u : HO}, H b = some u → b ≠ L := fun e z => by rw [z, Hn] at e; cases e
  refine I.call' (ch := []) os ⟨fun b q e n nf _ => (sk b q e).1 nf, fun b q e n hf _ => (sk b q e).2, fun b q e n _ => ?_, fun b q e _ => ?_, fun b xs e => by rw [upd_ne (ne e)]; exact e, fun b q u e => by rw [upd_ne (ne e)]; exact e, fun b ps e => ⟨#[], by rw [upd_ne (ne e), Array.append_empty]; exact e⟩⟩ (fun a u e => ?_) bare (fun b z => absurd z (by simp))
  · rw [upd_ne fun z => by rw [z, hn] at e; cases e]
    exact n
  · obtain ⟨sl, q1⟩ := (sk b q e).2
    exact ⟨_, q1⟩
  · by_cases z : a = L
    · subst z
      rw [upd_same] at e
      rw [← Option.some.inj e]
      exact new
    · rw [upd_ne z] at e
      exact (I1.hok a u e).stay (fun _ _ _ q => q) (fun b q => by rw [upd_ne (ne q)]; exact q) fun b xs q => by rw [upd_ne (ne q)]; exact q
theorem cr_sortedNK {n : Nat} {f : Addr} {fd : FuncData} {x : Str} {p : PyData → Prop} {k : PyData → PyData} (F : FnOk X.prog X.w X.K X.mg X.base CX0 n f fd [x] (spKey X.K p k)) (hr : Room (n + 2) X.A) (hb : Binds X.K fd [x] []) (hu : X.A.units + 12 < cLine) (calm : X.calm = true) :
    CallRK X (.builtin "sorted") [Str.ofString "key"] (rSortNK X.prog X.w X.K f p k) := by
  intro pins s σ H vs zs us ws Q I r rz h
  obtain ⟨d, kvs, rfl, rfl, nn, hp, pk, al, so, q⟩ := h
  obtain rfl := Vals.ref1 r
  obtain rfl := Vals.ref1 rz
  obtain ⟨hz, lo, ys, pr, dd⟩ := nn.heap I
  obtain ⟨es, ep, raw, hsz, hx⟩ := dd.raw
  have hy : ys.length = kvs.length := by
    have := pairedLen pr
    rw [List.length_map] at this
    omega
  show wpAny _ _ (call (.builtin "sorted") [.ref d] [(Str.ofString "key", .ref f)]) _ _ s
  refine PyProof.Rows.call_function_entry_kw PyProof.Rows.kind_sorted PyProof.Rows.plain_sorted PyProof.Rows.entry_sorted (PyProof.Rows.ksk_s1 _ _) ?_
  unfold Builtin.«sorted»
  refine wpAny_bind (m := checkCount "sorted" 1 1 _) (wpAny_pure ?_)
  refine wpAny_bind (PySem.W.kdu_collect (A := X.A.in1) (rawSrc (es := es) (ep := ep) lo) (I.ok.hd calm) raw (by omega) fun h' tk acc hk hacc => ?_)
  have hv := keyVals (acc := acc.toList) pr hsz hx (by rw [Array.length_toList]; exact hacc.1) fun j v e => hacc.2 j v (by rw [← Array.getElem?_toList]; exact e)
  have hal : acc.toList.length = kvs.length := by
    have := hv.length
    rw [List.length_map] at this
    exact this.symm
  refine wpAny_bind (wpAny_newList ?_ (by rw [hal]; exact hz))
  obtain ⟨L, hL⟩ : ∃ L, L = h'.objs.size := ⟨_, rfl⟩
  have hoL : (h'.push (seqObj "list" acc.toList.toArray 0)).get? L = some (seqObj "list" acc.toList.toArray 0) := by
    rw [hL]
    exact Heap.get?_push_size _ rfl
  have hLn : s.heap.get? L = none := by
    cases e : s.heap.get? L with
    | none => rfl
    | some o =>
      have := Heap.lt_size (hk _ _ e)
      exact absurd this (by rw [hL]; exact Nat.lt_irrefl _)
  have old : ∀ b ∈ frs X.stack, ∃ o, s.heap.get? b = some o := fun b hb => by
    obtain ⟨_, o, ho, _⟩ := I.stack.mem hb
    exact ⟨o, ho⟩
  have keepL : ∀ b o, s.heap.get? b = some o → (h'.push (seqObj "list" acc.toList.toArray 0)).get? b = some o := fun b o e => Heap.get?_push_of_some _ (hk b o e)
  show wpAny _ _ _ _ _ { s with heap := h'.push (seqObj "list" acc.toList.toArray 0), toks := tk }
  rw [← hL]
  refine wpAny_bind (wpAny_holding (PyProof.Rows.wpAny_call_entry_kw PyProof.Rows.slot_list_sort ⟨_, hoL, rfl⟩ PyProof.Rows.entry_list_sort ?_ (PyProof.Rows.ksk_l1 _ _)))
  show wpAny (model X.prog X.w) X.A.in1.in1 (Builtin.«list.sort» ⟨[.ref L], [(Str.ofString "key", .ref f)]⟩) _ _ _
  rw [PyProof.Rows.ksk_t1]
  refine keyTree (fs := frs X.stack) (kz := kvs.map fun q => k q.1) (s := { s with heap := h'.push (seqObj "list" acc.toList.toArray 0), toks := tk }) I.bare hoL (fun z => ?_) (fun b hb => ?_) (by rw [List.length_map]; exact hal.symm) (by rw [hal]; exact hz) al so (fun y hy => ?_) (fun y hy => ?_)
    (fun i v y hv1 hy1 s0 os bare sk => ?_) fun s1 out c os bare sk ho ko => ?_
  · obtain ⟨o, ho⟩ := old _ z
    rw [hLn] at ho
    cases ho
  · obtain ⟨o, ho⟩ := old _ hb
    exact Heap.lt_size (keepL _ _ ho)
  · obtain ⟨z, hz, rfl⟩ := List.mem_map.mp hy
    exact ⟨8, pk z hz⟩
  · obtain ⟨z, hz, rfl⟩ := List.mem_map.mp hy
    have := plDepth (pk z hz)
    show X.A.units + 1 + 1 + _ < _
    omega
  · obtain ⟨z, e1, rv⟩ := valsAt hv i v hv1
    rw [List.getElem?_map, e1] at hy1
    obtain rfl := Option.some.inj hy1
    have hm := List.mem_of_getElem? e1
    obtain ⟨pl, dp⟩ := nn.k z hm
    have I0 : Inv X pins σ H s0 := invAt I os bare fun b o e => sk b o (fun y => by rw [y, hLn] at e; cases e) (keepL b o e)
    exact keyCall F hr.in1.in1 hb I0 os dp pl (hp z hm) (pk z hm) rv
  · refine ⟨.none, rfl, wpAny_pure ⟨_, rfl, ?_⟩⟩
    have sk2 : Sk (frs X.stack) s.heap s1.heap := fun b o e => sk b o (fun y => by rw [y, hLn] at e; cases e) (keepL b o e)
    have I1 : Inv X pins σ H s1 := invAt I os bare sk2
    have each := PySem.W.keyedOut_each (bs := kvs) (R := fun u (q : KvD) => RelV (.ref q.2.1) u) (fun q => k q.1) ko (eachKv hv)
    have hv2 := kvEach each
    have HLn : H L = none := by
      cases e : H L with
      | none => rfl
      | some o =>
        obtain ⟨u, hu⟩ := HOk_get I.hok e
        rw [hLn] at hu
        cases hu
    refine ⟨.ref L, upd H L (.lst ((sortK k kvs).map fun q => .ref q.2.1)), layAt I os bare sk2 hLn HLn ⟨?_, out, c, hv2, ho⟩, rfl, q L HLn⟩
    rw [List.length_map]
    unfold sortK
    rw [List.length_mergeSort]
    exact hz
end
end ND

set_option Elab.async false
set_option linter.all false
set_option maxRecDepth 100000
/-! the table of a set with at most four tuples of texts -/
namespace S4
open PySem PySem.Spec PyProof.Rows L2

abbrev Tx (P : Program) (w : World) (h : Heap) (k : List Str) (a : Addr) : Prop := IsTupleKey (PySem.strKind P w) h k a
abbrev hx (P : Program) (w : World) (k : List Str) : Int := tupleKeyHash (PySem.strKind P w) k

/-- the c-th state of the way of a hash -/
def N (t : SetTable) (g : Int) (c : Nat) : SetTable.Probe := nth t.mask (runAt t.mask (SetTable.bits g % (t.mask + 1)) (SetTable.bits g)) c
theorem N_add (t : SetTable) (g : Int) (c q : Nat) : nth t.mask (N t g c) q = N t g (c + q) := (nth_add t.mask c _ q).symm
theorem N_j (t : SetTable) (g : Int) (c : Nat) : (N t g c).j = way t.mask g c := rfl
theorem N_none (t : SetTable) (g : Int) : ∀ c, (N t g c).dummy = none
  | 0 => rfl
  | c + 1 => by
    have e : N t g (c + 1) = adv t.mask (N t g c) := nth_succ _ _ _
    have ih := N_none t g c
    rw [e]
    unfold adv
    split <;> exact ih

structure Tab (P : Program) (w : World) (h : Heap) (a : Addr) (L : List (Addr × List Str)) (es : Array (Int × Value)) (ep : Nat) (t : SetTable) : Prop where
  obj : ∃ o, h.get? a = some o ∧ o.ExactSet ∧ o.data = .set es ep t
  ents : es.toList = L.map fun q => (hx P w q.2, Value.ref q.1)
  ok : TabOk t (L.map fun q => hx P w q.2)
  diff : (L.map (·.2)).Nodup
  mem : ∀ q ∈ L, Tx P w h q.2 q.1
  m7 : t.mask = 7
  four : L.length ≤ 4

section
variable {P : Program} {w : World} {A : Around} {E : Value → Shared → Prop} {s : Shared}
variable {a : Addr} {L : List (Addr × List Str)} {es : Array (Int × Value)} {ep : Nat} {t : SetTable}

theorem Tab.size {h : Heap} (R : Tab P w h a L es ep t) : es.size = L.length := by
  rw [← Array.length_toList, R.ents, List.length_map]
theorem Tab.place {h : Heap} (R : Tab P w h a L es ep t) : t.place.size = L.length := by
  rw [R.ok.sz, List.length_map]
theorem Tab.fits {h : Heap} (R : Tab P w h a L es ep t) : t.fits es.size = true := by
  have h1 := R.place
  have h2 := R.size
  have h3 := R.four
  have h4 := R.m7
  unfold SetTable.fits SetTable.fill
  rw [R.ok.dm, Bool.and_eq_true, beq_iff_eq, decide_eq_true_eq]
  refine ⟨h1.trans h2.symm, ?_⟩
  show t.place.size + 0 ≤ t.mask
  omega
theorem Tab.ent {h : Heap} (R : Tab P w h a L es ep t) {i : Nat} {q : Addr × List Str} (e : L[i]? = some q) : es[i]? = some (hx P w q.2, Value.ref q.1) := by
  rw [← Array.getElem?_toList, R.ents, List.getElem?_map, e]
  rfl
theorem Tab.at {h : Heap} (R : Tab P w h a L es ep t) {i j : Nat} (e : t.place.toList[i]? = some j) : ∃ q, L[i]? = some q := by
  have h1 : i < t.place.toList.length := (List.getElem?_eq_some_iff.mp e).1
  rw [Array.length_toList, R.place] at h1
  exact ⟨_, List.getElem?_eq_getElem h1⟩

/-- what a probe from the c-th state meets -/
theorem Tab.meets {h : Heap} (R : Tab P w h a L es ep t) (k : List Str) {K : Nat} (kf : K < 10 * SetTable.turns t.mask)
    (ke : way t.mask (hx P w k) K ∉ t.place.toList) (kb : ∀ c, c < K → way t.mask (hx P w k) c ∈ t.place.toList) {c : Nat} (hc : c ≤ K) :
    (∃ (d i : Nat) (q : Addr × List Str), c ≤ d ∧ d < K ∧ t.place.toList[i]? = some (way t.mask (hx P w k) d) ∧ L[i]? = some q ∧
      (∀ (d' i' : Nat) (q' : Addr × List Str), c ≤ d' → d' < d → t.place.toList[i']? = some (way t.mask (hx P w k) d') → L[i']? = some q' → q'.2 ≠ k) ∧
      t.probe (fun i : Nat => (es[i]?.map (·.1)).getD 0) (hx P w k) (N t (hx P w k) c) = some (.candidate (way t.mask (hx P w k) d) i (N t (hx P w k) (d + 1)))) ∨
    ((∀ (d' i' : Nat) (q' : Addr × List Str), c ≤ d' → d' < K → t.place.toList[i']? = some (way t.mask (hx P w k) d') → L[i']? = some q' → q'.2 ≠ k) ∧
      t.probe (fun i : Nat => (es[i]?.map (·.1)).getD 0) (hx P w k) (N t (hx P w k) c) = some (.empty (way t.mask (hx P w k) K) none)) := by
  have wj : ∀ q, (nth t.mask (N t (hx P w k) c) q).j = way t.mask (hx P w k) (c + q) := fun q => congrArg SetTable.Probe.j (N_add t (hx P w k) c q)
  have hat : ∀ (i : Nat) (q : Addr × List Str), L[i]? = some q → (fun i : Nat => (es[i]?.map (·.1)).getD 0) i = hx P w q.2 := fun i q e => by
    show (es[i]?.map (·.1)).getD 0 = _
    rw [R.ent e]
    rfl
  have ck : c + (K - c) = K := by omega
  have apart : ∀ (d i' : Nat) (q' : Addr × List Str), (∀ k' i', k' < d → t.place.toList[i']? = some (nth t.mask (N t (hx P w k) c) k').j → (fun i : Nat => (es[i]?.map (·.1)).getD 0) i' ≠ hx P w k) →
      ∀ d', c ≤ d' → d' < c + d → t.place.toList[i']? = some (way t.mask (hx P w k) d') → L[i']? = some q' → q'.2 ≠ k := fun d i' q' hno d' h1 h2 h3 h4 e => by
    refine hno (d' - c) i' (by omega) ?_ ?_
    · rw [wj, show c + (d' - c) = d' by omega]
      exact h3
    · rw [hat i' q' h4, e]
  rcases go_spec t R.ok.ris R.ok.dm (fun i : Nat => (es[i]?.map (·.1)).getD 0) (hx P w k) (10 * SetTable.turns t.mask) (K - c) (N t (hx P w k) c) (N_none _ _ _) (by omega)
    (fun q hq => by rw [wj]; exact kb _ (by omega)) (by rw [wj, ck]; exact ke) with ⟨q, i, h1, h2, h3, h4, h5⟩ | ⟨h1, h2⟩
  · refine .inl ?_
    obtain ⟨z, hz⟩ := R.at h2
    refine ⟨c + q, i, z, Nat.le_add_right _ _, by omega, by rw [← wj]; exact h2, hz, fun d' i' q' => (fun a b c d => apart q i' q' h4 d' a b c d), ?_⟩
    rw [← wj]
    have e : N t (hx P w k) (c + q + 1) = nth t.mask (N t (hx P w k) c) (q + 1) := (N_add t (hx P w k) c (q + 1)).symm
    rw [e]
    exact h5
  · refine .inr ⟨fun d' i' q' a b => apart (K - c) i' q' h1 d' a (by omega), ?_⟩
    have e : way t.mask (hx P w k) K = (nth t.mask (N t (hx P w k) c) (K - c)).j := by rw [wj, ck]
    rw [e]
    exact h2

/-! questions asked of tuples of texts -/
theorem all_str {k : List Str} {vs : List Value} (h : ItemsAre (PySem.strKind P w) k vs) : ∀ v ∈ vs, ∃ x y, v = Value.str x y := by
  induction h with
  | nil => exact fun v hv => absurd hv (by simp)
  | @cons k0 v' ks vs h1 _ ih =>
    intro v hv
    rcases List.mem_cons.mp hv with e | hv
    · obtain ⟨y, e2⟩ := Value.isStrOf_shape h1
      exact ⟨k0, y, e.trans e2⟩
    · exact ih v hv
theorem stm_str (n : Nat) (x : Str) (y : Tok) : ofAClassStatement n (.str x y) = pure false := by
  cases n <;> rfl
theorem hbv_str (n : Nat) (x : Str) (y : Tok) : hashByValue n (.str x y) = pure false := by
  cases n <;> rfl
theorem stm_tx {k : List Str} {b : Addr} {Q : Bool → Shared → Prop} (hk : Tx P w s.heap k b) (h : Q false s) : wpAny (model P w) A (ofAClassStatement 8 (.ref b)) Q E s := by
  have hT := hk.typeIs
  obtain ⟨o, items, n, ho, _, hd, hi⟩ := hk
  unfold ofAClassStatement
  refine wpAny_bind (wpAny_typeOf hT ?_)
  dsimp only
  have e : (("tuple" : String) == "tuple") = true := by decide
  simp only [e, if_true, Bool.not_true, Bool.false_eq_true, if_false]
  try refine wpAny_bind (wpAny_pure ?_)
  try simp only [Bool.not_true, Bool.false_eq_true, if_false]
  show wpAny _ _ (seqItems? (.ref b) >>= _) _ _ s
  refine wpAny_bind (wpAny_seqItems ho hd ?_)
  dsimp only
  refine wpAny_bind ?_
  show wpAny _ _ (forIn items _ _) _ _ s
  rw [← Array.forIn_toList]
  refine wpAny_forIn_list _ (fun rest r s' => r.1 = none ∧ s' = s ∧ ∀ v ∈ rest, ∃ x y, v = Value.str x y) _ (fun v rest r s' z => ?_) (fun r s' z => ?_) _ _ ⟨rfl, rfl, all_str hi⟩
  · obtain ⟨z1, rfl, z3⟩ := z
    obtain ⟨x, y, rfl⟩ := z3 v List.mem_cons_self
    rw [stm_str]
    refine wpAny_bind (wpAny_pure ?_)
    simp only [Bool.false_eq_true, if_false]
    exact wpAny_pure ⟨rfl, rfl, fun u hu => z3 u (List.mem_cons_of_mem _ hu)⟩
  · obtain ⟨r1, r2⟩ := r
    obtain ⟨z1, rfl, _⟩ := z
    simp only at z1
    subst z1
    exact wpAny_pure h
theorem hbv_tx {k : List Str} {b : Addr} {Q : Bool → Shared → Prop} (hk : Tx P w s.heap k b) (h : ∀ v, Q v s) : wpAny (model P w) A (hashByValue 8 (.ref b)) Q E s := by
  have hT := hk.typeIs
  obtain ⟨o, items, n, ho, _, hd, hi⟩ := hk
  unfold hashByValue
  refine wpAny_bind (wpAny_specialOf hT F.slot_tuple_hash.lookup ?_)
  show wpAny _ _ (seqItems? (.ref b) >>= _) _ _ s
  refine wpAny_bind (wpAny_seqItems ho hd ?_)
  refine wpAny_bind ?_
  show wpAny _ _ (forIn items _ _) _ _ s
  rw [← Array.forIn_toList]
  refine wpAny_forIn_list _ (fun rest r s' => r.1 = none ∧ s' = s ∧ ∀ v ∈ rest, ∃ x y, v = Value.str x y) _ (fun v rest r s' z => ?_) (fun r s' z => ?_) _ _ ⟨rfl, rfl, all_str hi⟩
  · obtain ⟨z1, rfl, z3⟩ := z
    obtain ⟨x, y, rfl⟩ := z3 v List.mem_cons_self
    rw [hbv_str]
    refine wpAny_bind (wpAny_pure ?_)
    simp only [Bool.not_false, if_true]
    exact wpAny_pure (wpAny_pure (h false))
  · obtain ⟨r1, r2⟩ := r
    obtain ⟨z1, rfl, _⟩ := z
    simp only at z1
    subst z1
    exact wpAny_pure (h true)
theorem unseen {k : List Str} {b : Addr} {Q : Bool → Shared → Prop} (hk : Tx P w s.heap k b) {ys : List Value} (hy : ∀ y ∈ ys, ∃ q : Addr × List Str, y = Value.ref q.1 ∧ Tx P w s.heap q.2 q.1) (h : Q false s) :
    wpAny (model P w) A (searchCouldBeSeen (.ref b) ys) Q E s := by
  unfold searchCouldBeSeen
  refine wpAny_bind (wpAny_forIn_list _ (fun rest r s' => r.1 = none ∧ s' = s ∧ ∀ y ∈ rest, ∃ q : Addr × List Str, y = Value.ref q.1 ∧ Tx P w s.heap q.2 q.1) _ (fun v rest r s' z => ?_) (fun r s' z => ?_) _ _ ⟨rfl, rfl, hy⟩)
  · obtain ⟨z1, rfl, z3⟩ := z
    obtain ⟨q, rfl, hc⟩ := z3 v List.mem_cons_self
    have more : ∀ y ∈ rest, ∃ q : Addr × List Str, y = Value.ref q.1 ∧ Tx P w s'.heap q.2 q.1 := fun u hu => z3 u (List.mem_cons_of_mem _ hu)
    dsimp only
    by_cases hv : (b == q.1 || (carriedByValue (.ref b) && carriedByValue (.ref q.1))) = true
    · exact wp_if_pos hv (wpAny_pure ⟨rfl, rfl, more⟩)
    · refine wp_if_neg hv ?_
      refine wpAny_bind (wpAny_eqIsQuiet_tuple hk ?_)
      simp only [Bool.not_true, Bool.false_eq_true, if_false]
      refine wpAny_bind (wpAny_eqIsQuiet_tuple hc ?_)
      simp only [Bool.not_true, Bool.false_eq_true, if_false]
      refine wpAny_bind (stm_tx hk ?_)
      simp only [Bool.false_eq_true, if_false]
      refine wpAny_bind (stm_tx hc ?_)
      simp only [Bool.false_eq_true, if_false]
      exact wpAny_pure ⟨rfl, rfl, more⟩
  · obtain ⟨r1, r2⟩ := r
    obtain ⟨z1, rfl, _⟩ := z
    simp only at z1
    subst z1
    exact wpAny_pure h

/-- the search, from the c-th state on -/
theorem Tab.look (R : Tab P w s.heap a L es ep t) {x : Addr} {k : List Str} (hk : Tx P w s.heap k x) (hu : A.units < cLine) {K : Nat} (kf : K < 10 * SetTable.turns t.mask)
    (ke : way t.mask (hx P w k) K ∉ t.place.toList) (kb : ∀ c, c < K → way t.mask (hx P w k) c ∈ t.place.toList) {Q : SetFound → Shared → Prop}
    (yes : k ∈ L.map (·.2) → Q (.there none) s) (no : k ∉ L.map (·.2) → Q (.free (way t.mask (hx P w k) K) false) s) :
    ∀ (f c : Nat) (stand : Option SetTable.Probe), stand.getD (t.probeStart (hx P w k)) = N t (hx P w k) c → c ≤ K → K - c < f →
      (∀ (i : Nat) (q : Addr × List Str), L[i]? = some q → q.2 = k → ∃ c', c ≤ c' ∧ c' < K ∧ t.place.toList[i]? = some (way t.mask (hx P w k) c')) →
      wpAny (model P w) A (setSearchFrom a (.ref x) (hx P w k) true f stand) Q E s
  | 0, c, stand, _, _, hf, _ => absurd hf (Nat.not_lt_zero _)
  | f + 1, c, stand, hst, hc, hf, hre => by
    obtain ⟨o, ho, hex, hd⟩ := R.obj
    have live : ∀ {i j : Nat}, t.place.toList[i]? = some j → t.slot j = .live i := fun e => slot_live R.ok.ris e
    have gw : ¬ t.gaveWay = true := by
      unfold SetTable.gaveWay
      rw [R.m7]
      decide
    rw [setSearchFrom_succ]
    refine wpAny_bind (wpAny_setState_of ho hd R.fits ?_)
    dsimp only
    refine wp_if_neg gw ?_
    try refine wpAny_bind (wpAny_pure ?_)
    rw [hst]
    rcases R.meets k kf ke kb hc with ⟨d, i, q, d1, d2, d3, d4, d5, d6⟩ | ⟨d5, d6⟩
    · rw [d6]
      dsimp only
      have hq := R.mem q (List.mem_of_getElem? d4)
      have tail : wpAny (model P w) A (searchRest a (.ref x) (hx P w k) true f es t (way t.mask (hx P w k) d) i (N t (hx P w k) (d + 1))) Q E s := by
        unfold searchRest
        rw [R.ent d4]
        dsimp only
        refine wpAny_bind (wpAny_holding (wpAny_eqBool_tuple hu hq hk ?_))
        refine wpAny_bind (wpAny_setState_of ho hd R.fits ?_)
        dsimp only
        by_cases e : q.2 = k
        · exact wp_if_pos (by simp [e]) (wpAny_pure (yes (List.mem_map.mpr ⟨q, List.mem_of_getElem? d4, e⟩)))
        · refine wp_if_neg (by simp [e]) ?_
          try refine wpAny_bind (wpAny_pure ?_)
          rw [sameMem]
          dsimp only
          simp only [if_true, live d3, R.ent d4]
          refine wpAny_bind (wpAny_isSame_ref_self (wpAny_bind (wpAny_pure ?_)))
          simp only [if_true]
          refine wp_if_neg (by simp [e]) ?_
          refine Tab.look R hk hu kf ke kb yes no f (d + 1) _ rfl (by omega) (by omega) fun i0 q0 h0 e0 => ?_
          obtain ⟨c', a1, a2, a3⟩ := hre i0 q0 h0 e0
          refine ⟨c', ?_, a2, a3⟩
          rcases Nat.lt_trichotomy c' d with z | z | z
          · exact absurd e0 (d5 c' i0 q0 a1 z a3 h0)
          · rw [z] at a3
            have s0 := (live a3).symm.trans (live d3)
            injection s0 with s0
            rw [s0, d4] at h0
            exact absurd ((congrArg Prod.snd (Option.some.inj h0)).trans e0) e
          · exact z
      by_cases hl : t.led = true
      · refine wp_if_neg (by simp [hl]) ?_
        try refine wpAny_bind (wpAny_pure ?_)
        exact tail
      · refine wp_if_pos (by simp [hl]) ?_
        refine wpAny_bind (unseen hk (fun y hy => ?_) ?_)
        · obtain ⟨e, he, ee⟩ := List.mem_map.mp hy
          have he1 : e ∈ es.toList := by
            have z : e ∈ es ∧ e.1 = hx P w k := by simpa using he
            simpa using z.1
          rw [R.ents] at he1
          obtain ⟨q2, hq2, e2⟩ := List.mem_map.mp he1
          exact ⟨q2, by rw [← ee, ← e2], R.mem q2 hq2⟩
        · refine wp_if_neg (by decide) ?_
          try refine wpAny_bind (wpAny_pure ?_)
          exact tail
    · rw [d6]
      dsimp only
      refine wpAny_pure (no fun hm => ?_)
      obtain ⟨q0, h0, e0⟩ := List.mem_map.mp hm
      obtain ⟨i0, l0, g0⟩ := List.getElem_of_mem h0
      have h00 : L[i0]? = some q0 := by rw [List.getElem?_eq_getElem l0, g0]
      obtain ⟨c', a1, a2, a3⟩ := hre i0 q0 h00 e0
      exact d5 c' i0 q0 a1 a2 a3 h00 e0
end
end S4

set_option Elab.async false
set_option linter.all false
set_option maxRecDepth 100000
/-! at most four put in -/
namespace S4
open PySem PySem.Spec PyProof.Rows L2
section
variable {P : Program} {w : World} {A : Around} {E : Value → Shared → Prop} {s : Shared}
variable {a : Addr} {L : List (Addr × List Str)} {es : Array (Int × Value)} {ep : Nat} {t : SetTable}

theorem Tx.old {h h' : Heap} {k : List Str} {b : Addr} (x : Tx P w h k b) (hk : ∀ o, h.get? b = some o → h'.get? b = some o) : Tx P w h' k b := by
  obtain ⟨o, items, n, ho, r⟩ := x
  exact ⟨o, items, n, hk o ho, r⟩
theorem Tx.but {h h' : Heap} {k : List Str} {a b : Addr} {o : Obj} {es : Array (Int × Value)} {ep : Nat} {t : SetTable} (x : Tx P w h k b) (ho : h.get? a = some o) (hd : o.data = .set es ep t) (hs : Heap.SameBut a h h') : Tx P w h' k b := by
  refine x.old fun o' e => (hs.2 b fun z => ?_).trans e
  obtain ⟨o2, items, n, h2, _, d2, _⟩ := x
  rw [z, ho] at h2
  rw [← Option.some.inj h2, hd] at d2
  exact nomatch d2

/-- SetState after a search for adding -/
theorem Tab.seek (R : Tab P w s.heap a L es ep t) {x : Addr} {k : List Str} (hk : Tx P w s.heap k x) (hu : A.units < cLine) {Q : SetFound → Shared → Prop}
    (yes : k ∈ L.map (·.2) → Q (.there none) s)
    (no : ∀ K, k ∉ L.map (·.2) → way t.mask (hx P w k) K ∉ t.place.toList → (∀ c, c < K → way t.mask (hx P w k) c ∈ t.place.toList) → Q (.free (way t.mask (hx P w k) K) false) s) :
    wpAny (model P w) A (setSearch a (.ref x) (hx P w k) true) Q E s := by
  have h4 := R.four
  have h7 := R.m7
  obtain ⟨K, kf, ke, kb⟩ := R.ok.first (by rw [List.length_map]; omega) (hx P w k)
  have hK : K < 100000 := by
    have : 10 * SetTable.turns t.mask ≤ 1000 := by
      unfold SetTable.turns
      omega
    omega
  unfold setSearch
  refine R.look hk hu kf ke kb yes (fun z => no K z ke kb) 100000 0 none rfl (Nat.zero_le _) (by omega) fun i q e0 e1 => ?_
  have hi : (L.map fun q => hx P w q.2)[i]? = some (hx P w k) := by rw [List.getElem?_map, e0, ← e1] <;> rfl
  have hl : i < t.place.toList.length := by
    have h1 : i < L.length := (List.getElem?_eq_some_iff.mp e0).1
    rw [Array.length_toList, R.place]
    exact h1
  have hj := List.getElem?_eq_getElem hl
  obtain ⟨c, hc, e⟩ := R.ok.before ke hi hj
  exact ⟨c, Nat.zero_le _, hc, by rw [hj, e]⟩

/-- one more, while there is room for four -/
theorem Tab.add (R : Tab P w s.heap a L es ep t) {x : Addr} {k : List Str} (hk : Tx P w s.heap k x) (hu : A.units < cLine) (few : L.length < 4) {Q : Bool → Shared → Prop}
    (hQ : ∀ b h' L' es' ep' t', Heap.SameBut a s.heap h' → Tab P w h' a L' es' ep' t' → (k ∈ L.map (·.2) → L' = L) → (k ∉ L.map (·.2) → L'.Perm ((x, k) :: L)) → Q b { s with heap := h' }) :
    wpAny (model P w) A (setAddHashed a (.ref x) (hx P w k)) Q E s := by
  obtain ⟨o, ho, hex, hd⟩ := R.obj
  have h7 := R.m7
  unfold setAddHashed
  refine wpAny_holding ?_
  rw [show (100000 : Nat) = 99999 + 1 from rfl, setAddHashedIn_succ]
  refine wpAny_bind (wpAny_setState_of ho hd R.fits ?_)
  dsimp only
  refine wp_if_neg (by simp [byScan, Value.scannable]) ?_
  try refine wpAny_bind (wpAny_pure ?_)
  refine wpAny_bind (R.seek hk hu (fun hm => ?_) fun K hm ke kb => ?_)
  · dsimp only
    exact wpAny_pure (hQ false s.heap L es ep t (Heap.SameBut.refl a s.heap) R (fun _ => rfl) fun z => absurd hm z)
  dsimp only
  refine wpAny_bind (wpAny_setState_of ho hd R.fits ?_)
  dsimp only
  obtain ⟨q1, q2, q3, q4, q5, q6, q7, q8, q9⟩ := R.ok.put ke kb
  generalize hpt : t.put (way t.mask (hx P w k) K) = pt at q1 q3 q4 q5 q6 q7 q8 q9 ⊢
  obtain ⟨t1, p⟩ := pt
  dsimp only at q1 q3 q4 q5 q6 q7 q8 q9 ⊢
  subst q1
  generalize hpp : SetTable.below t.place (way t.mask (hx P w k) K) = p at q2 q3 ⊢
  rw [List.length_map] at q2 q9
  have pm : (L.take p ++ (x, k) :: L.drop p).Perm ((x, k) :: L) := put_perm L p (x, k)
  have hlen : (L.take p ++ (x, k) :: L.drop p).length = L.length + 1 := pm.length_eq
  have hents : (SetTable.insertAt es p (hx P w k, Value.ref x)).toList = (L.take p ++ (x, k) :: L.drop p).map fun q => (hx P w q.2, Value.ref q.1) := by
    rw [SetTable.toList_insertAt, R.ents, List.map_append, List.map_cons, List.map_take, List.map_drop]
  have hhs : (L.take p ++ (x, k) :: L.drop p).map (fun q => hx P w q.2) = (L.map fun q => hx P w q.2).take p ++ hx P w k :: (L.map fun q => hx P w q.2).drop p := by
    rw [List.map_append, List.map_cons, List.map_take, List.map_drop]
  rw [← hhs] at q3
  have nd1 : ((L.take p ++ (x, k) :: L.drop p).map (·.2)).Nodup := by
    refine (pm.map (·.2)).nodup_iff.mpr ?_
    rw [List.map_cons]
    exact List.nodup_cons.mpr ⟨hm, R.diff⟩
  have hes : (SetTable.insertAt es p (hx P w k, Value.ref x)).size = L.length + 1 := by
    rw [← Array.length_toList, hents, List.length_map, hlen]
  generalize SetTable.insertAt es p (hx P w k, Value.ref x) = es1 at hents hes ⊢
  generalize L.take p ++ (x, k) :: L.drop p = L1 at pm hlen q3 nd1 hents
  have fin : ∀ t2 : SetTable, t2.place = t1.place → t2.dummies = t1.dummies → t2.mask = t1.mask →
      wpAny (model P w) A (do
        storeSet a es1 t2
        if (!false && t2.tooFull) = true then setRelay a (SetTable.grown (es.size + 1))
        return true) Q E s := fun t2 e1 e2 e3 => by
    refine wpAny_bind (wpAny_storeSet_of ho hd ?_ (by rw [hes, sizeLine_eq]; omega))
    have sb : Heap.SameBut a s.heap (s.heap.update a (Obj.putSet es1 t2)) := Heap.SameBut.update ..
    have ho1 := store_at (es' := es1) (t' := t2) ho hd
    generalize s.heap.update a (Obj.putSet es1 t2) = h1 at sb ho1 ⊢
    have full : ¬ t2.tooFull = true := by
      unfold SetTable.tooFull
      rw [decide_eq_true_eq]
      have e4 : t2.fill = t1.fill := by
        unfold SetTable.fill
        rw [e1, e2]
      rw [e4, q9, e3, q4, h7]
      omega
    have okT : TabOk t2 (L1.map fun q => hx P w q.2) := by
      obtain ⟨b1, b2, b3, b4, b5, b6⟩ := q3
      exact ⟨by rw [e1]; exact b1, by rw [e2]; exact b2, by rw [e1]; exact b3, by rw [e3]; exact b4, by rw [e1, e3]; exact b5, by rw [e1, e3]; exact b6⟩
    have T1 : Tab P w h1 a L1 es1 (ep + 1) t2 := by
      refine ⟨⟨_, ho1, ⟨hex.1, hex.2.1, hex.2.2⟩, rfl⟩, hents, okT, nd1, fun q hq => ?_, by rw [e3, q4]; exact h7, by rw [hlen]; omega⟩
      rcases List.mem_cons.mp (pm.mem_iff.mp hq) with e | hq
      · rw [e]; exact hk.but ho hd sb
      · exact (R.mem q hq).but ho hd sb
    first
      | refine wp_if_neg (by simp [full]) ?_
      | (refine wpAny_bind ?_; refine wp_if_neg (by simp [full]) ?_; refine wpAny_pure ?_)
    exact wpAny_pure (hQ true h1 L1 es1 (ep + 1) t2 sb T1 (fun z => absurd z hm) fun _ => pm)
  by_cases hp : t1.plain = true
  · first
      | (refine wpAny_bind ?_; refine wp_if_pos hp ?_; refine hbv_tx hk fun v => ?_)
      | refine wp_if_pos hp (wpAny_bind (hbv_tx hk fun v => ?_))
    cases v with
    | true => exact fin t1 rfl rfl rfl
    | false => exact fin { t1 with plain := false } rfl rfl rfl
  · first
      | (refine wpAny_bind ?_; refine wp_if_neg hp ?_; refine wpAny_pure ?_)
      | refine wp_if_neg hp (wpAny_bind (wpAny_pure ?_))
    exact fin t1 rfl rfl rfl
end
end S4

set_option Elab.async false
set_option linter.all false
set_option maxRecDepth 100000
/-! set(t) and len(set(t)), t a tuple of at most four tuples of texts -/
namespace S4
open PySem PySem.Spec PyProof.Rows L2

/-- what is in the set of the first i rows -/
structure Has (ks : List (Addr × List Str)) (i : Nat) (L : List (Addr × List Str)) : Prop where
  sub : ∀ q ∈ L, q ∈ ks.take i
  all : ∀ q ∈ ks.take i, q.2 ∈ L.map (·.2)
  len : L.length ≤ i
  cnt : L.length = i ↔ ((ks.take i).map (·.2)).Nodup
theorem Has.none (ks : List (Addr × List Str)) : Has ks 0 [] :=
  ⟨fun q h => absurd h (by simp), fun q h => absurd h (by simp), Nat.le_refl _, ⟨fun _ => by simp, fun _ => rfl⟩⟩
theorem nodup_snoc {α : Type} {l : List α} {x : α} : (l ++ [x]).Nodup ↔ l.Nodup ∧ x ∉ l := by
  rw [List.nodup_append]
  constructor
  · intro ⟨h1, _, h3⟩
    exact ⟨h1, fun hx => h3 x hx x (List.mem_singleton.mpr rfl) rfl⟩
  · intro ⟨h1, h2⟩
    refine ⟨h1, by simp, fun a ha b hb e => ?_⟩
    rw [List.mem_singleton.mp hb] at e
    rw [e] at ha
    exact h2 ha
theorem Has.skip {ks L : List (Addr × List Str)} {i : Nat} {x : Addr × List Str} (g : Has ks i L) (h : ks[i]? = some x) (hm : x.2 ∈ L.map (·.2)) : Has ks (i + 1) L := by
  have e : ks.take (i + 1) = ks.take i ++ [x] := L2.take_next h
  refine ⟨fun q hq => by rw [e]; exact List.mem_append_left _ (g.sub q hq), fun q hq => ?_, Nat.le_succ_of_le g.len, ⟨fun z => ?_, fun z => ?_⟩⟩
  · rw [e] at hq
    rcases List.mem_append.mp hq with y | y
    · exact g.all q y
    · rw [List.mem_singleton.mp y]; exact hm
  · have := g.len
    omega
  · rw [e, List.map_append] at z
    obtain ⟨q, hq, eq⟩ := List.mem_map.mp hm
    exact absurd (List.mem_map.mpr ⟨q, g.sub q hq, eq⟩) (nodup_snoc.mp z).2
theorem Has.more {ks L L' : List (Addr × List Str)} {i : Nat} {x : Addr × List Str} (g : Has ks i L) (h : ks[i]? = some x) (hm : x.2 ∉ L.map (·.2)) (pm : L'.Perm (x :: L)) : Has ks (i + 1) L' := by
  have e : ks.take (i + 1) = ks.take i ++ [x] := L2.take_next h
  have el : L'.length = L.length + 1 := pm.length_eq
  refine ⟨fun q hq => ?_, fun q hq => ?_, by have := g.len; omega, ?_⟩
  · rw [e]
    rcases List.mem_cons.mp (pm.mem_iff.mp hq) with y | y
    · rw [y]; exact List.mem_append_right _ (List.mem_singleton.mpr rfl)
    · exact List.mem_append_left _ (g.sub q y)
  · rw [(pm.map (·.2)).mem_iff, List.map_cons]
    rw [e] at hq
    rcases List.mem_append.mp hq with y | y
    · exact List.mem_cons_of_mem _ (g.all q y)
    · rw [List.mem_singleton.mp y]; exact List.mem_cons_self
  · have hn : x.2 ∉ (ks.take i).map (·.2) := fun z => by
      obtain ⟨q, hq, eq⟩ := List.mem_map.mp z
      exact hm (eq ▸ g.all q hq)
    rw [e, List.map_append, el]
    show L.length + 1 = i + 1 ↔ (_ ++ [x.2]).Nodup
    rw [nodup_snoc, ← g.cnt]
    constructor
    · intro z
      exact ⟨by omega, hn⟩
    · intro z
      rw [z.1]

section
variable {P : Program} {w : World} {A : Around} {E : Value → Shared → Prop} {s : Shared}
theorem Tab.old {h h' : Heap} {a : Addr} {L : List (Addr × List Str)} {es : Array (Int × Value)} {ep : Nat} {t : SetTable} (R : Tab P w h a L es ep t) (ha : ∀ o, h.get? a = some o → h'.get? a = some o) (hm : ∀ q ∈ L, Tx P w h' q.2 q.1) : Tab P w h' a L es ep t := by
  obtain ⟨o, ho, r⟩ := R.obj
  exact ⟨⟨o, ha o ho, r⟩, R.ents, R.ok, R.diff, hm, R.m7, R.four⟩
theorem Tab.fresh {h : Heap} {a : Addr} (led : Bool) (ho : h.get? a = some { cls := .type "set", dict := none, data := .set #[] 0 (.fresh 0 0 led) }) : Tab P w h a [] #[] 0 (.fresh 0 0 led) :=
  ⟨⟨_, ho, ⟨rfl, rfl, rfl⟩, rfl⟩, rfl, ⟨List.Pairwise.nil, rfl, rfl, .inl rfl, fun x hx => absurd hx (by intro z; cases z), fun i h j hi => absurd hi (by simp)⟩, List.nodup_nil, fun q hq => absurd hq (by simp), rfl, Nat.zero_le _⟩

/-- the loop that fills it -/
theorem fill {I : Addr} {fp wr : List Addr} {G : Array GenState → Array GenState → Prop} {n : Nat} {Pv : Nat → Value → Prop} {St : Nat → Shared → Prop} {R : Result → Shared → Prop}
    (W : WalksS P w A.in1 I fp wr G n Pv St) (S : Addr) (hSf : S ∉ fp) (ks : List (Addr × List Str)) (hn : n = ks.length) (few : ks.length ≤ 4) (hval : ∀ i v, Pv i v → ∃ q, ks[i]? = some q ∧ v = .ref q.1)
    (h0 : Heap) (hk : ∀ q ∈ ks, Tx P w h0 q.2 q.1) (hS0 : h0.get? S = none) (hw0 : ∀ b ∈ wr, h0.get? b = none) (hu : A.in1.units < cLine) :
    ∀ (m i : Nat) (s : Shared), n - i = m → i ≤ n → St i s → (∀ b o, h0.get? b = some o → s.heap.get? b = some o) → (∃ L es ep t, Tab P w s.heap S L es ep t ∧ Has ks i L) →
      (∀ s' L es ep t, Moved (S :: wr) G s s' → Tab P w s'.heap S L es ep t → Has ks n L → (∀ b o, h0.get? b = some o → s'.heap.get? b = some o) → R (.ok (.ret .none)) s') →
      codeAny (model P w) A (.builtin "set.update.loop" ⟨[.ref S, .ref I], []⟩) R s := by
  have hSw : S ∉ wr := fun h => hSf (W.sub _ h)
  have wide : ∀ b ∈ wr, b ∈ S :: wr := fun b hb => List.mem_cons_of_mem _ hb
  have stay : ∀ {s s' : Shared}, Moved wr G s s' → (∀ b o, h0.get? b = some o → s.heap.get? b = some o) → ∀ b o, h0.get? b = some o → s'.heap.get? b = some o := fun hm z b o e =>
    hm.heap b o (fun hb => by rw [hw0 b hb] at e; cases e) (z b o e)
  intro m
  induction m with
  | zero =>
    intro i s hk' hi hst hkp ⟨L, es, ep, t, T, g⟩ hR
    obtain rfl : i = n := by omega
    refine codeAny_builtin F.entry_set_update_loop ?_
    rw [Around.under_plainId F.plain_set_update_loop _]
    show wpAny _ A.in1 (pyNext (.ref I) >>= _) _ _ s
    refine wpAny_bind (W.done s _ _ hst fun s' hm => ?_)
    show wpAny _ A.in1 (ret Value.none) _ _ s'
    have z := stay hm hkp
    exact wpAny_pure (hR s' L es ep t (hm.mono wide) (T.old (fun o e => hm.heap S o hSw e) fun q hq => (hk q (List.mem_of_mem_take (g.sub q hq))).old (z _)) g z)
  | succ m ih =>
    intro i s hk' hi hst hkp ⟨L, es, ep, t, T, g⟩ hR
    have hlt : i < n := by omega
    refine codeAny_builtin F.entry_set_update_loop ?_
    rw [Around.under_plainId F.plain_set_update_loop _]
    show wpAny _ A.in1 (pyNext (.ref I) >>= _) _ _ s
    refine wpAny_bind (W.item i s _ _ hlt hst fun v s' hP hst' hm => ?_)
    obtain ⟨q, hq, rfl⟩ := hval i v hP
    have z := stay hm hkp
    have T' : Tab P w s'.heap S L es ep t := T.old (fun o e => hm.heap S o hSw e) fun q hq => (hk q (List.mem_of_mem_take (g.sub q hq))).old (z _)
    have hx' : Tx P w s'.heap q.2 q.1 := (hk q (List.mem_of_getElem? hq)).old (z _)
    show wpAny _ A.in1 (holding [Value.ref q.1] (setAdd S (.ref q.1)) >>= _) _ _ s'
    refine wpAny_bind (wpAny_holding ?_)
    unfold setAdd
    refine wpAny_holding ?_
    refine wpAny_bind (wpAny_pyHash_tuple hu hx' ?_)
    refine Tab.add (s := { s' with toks := s'.toks + (q.2.length + 1) }) T' hx' hu (by have := g.len; omega) fun b h' L' es' ep' t' sb T2 c1 c2 => ?_
    have g' : Has ks (i + 1) L' := by
      by_cases c : q.2 ∈ L.map (·.2)
      · rw [c1 c]; exact g.skip hq c
      · exact g.more hq c (c2 c)
    have z2 : ∀ b o, h0.get? b = some o → h'.get? b = some o := fun b o e => (sb.2 b (fun y => by rw [y, hS0] at e; cases e)).trans (z b o e)
    refine wpAny_pure ⟨plainId_quiet F.plain_set_update_loop _, ih (i + 1) _ (by omega) hlt (W.frame _ s' _ _ hst' (Nat.le_add_right _ _) fun b hb o e => ?_) z2 ⟨L', es', ep', t', T2, g'⟩ fun s2 L2 es2 ep2 t2 hm2 T3 g3 z3 => ?_⟩
    · rw [sb.2 b (fun h : b = S => hSf (by rw [← h]; exact hb))]; exact e
    · refine hR s2 L2 es2 ep2 t2 (Moved.trans W.gtrans ((hm.mono wide).then_heap (Nat.le_add_right _ _) fun b o hb e => ?_) hm2) T3 g3 z3
      rw [sb.2 b (fun h : b = S => hb (by rw [h]; exact List.mem_cons_self))]; exact e

abbrev newSet (led : Bool) : Obj := { cls := .type "set", dict := none, data := .set #[] 0 (.fresh 0 0 led) }
set_option maxHeartbeats 3200000 in
theorem call_set {l : Addr} {items : Array Value} (ks : List (Addr × List Str)) {Q : Value → Shared → Prop} (hh : A.handled = none) (hl : s.heap.IsTuple l items) (hit : items.toList = ks.map fun q => Value.ref q.1)
    (hk : ∀ q ∈ ks, Tx P w s.heap q.2 q.1) (few : ks.length ≤ 4) (hu : A.units + 3 < cLine)
    (h : ∀ (h' : Heap) (tk : Nat) L es ep t, Tab P w h' s.heap.objs.size L es ep t → Has ks ks.length L → (∀ b o, s.heap.get? b = some o → h'.get? b = some o) → Q (.ref s.heap.objs.size) { s with heap := h', toks := tk }) :
    wpAny (model P w) A (call (.type "set") [.ref l]) Q E s := by
  have hsz : items.size = ks.length := by rw [← Array.length_toList, hit, List.length_map]
  obtain ⟨c, tl, hmro⟩ := F.called_set.mro
  have hmade := F.called_set.made
  have hsub := F.called_set.sub
  refine wpAny_call (codeAny_of_tree ?_)
  show wpAny _ _ (callAny (.type "set") _) _ _ _
  refine wpAny_pure ⟨Code.quiet_builtin _ (by decide +kernel), codeAny_builtin F.entry_type_call ?_⟩
  rw [Around.under_plain (weight_type_call_type "set" [.ref l] []) rfl]
  have h1 := F.called_set.notType
  have h2 := F.called_set.canCreate
  have hct := F.typeCall_set_1 (.ref l)
  repeat (any_goals (first | assumption | wp_step))
  refine codeAny_mono (code_set_new_1 (.ref l) (E := E) (Q₁ := fun obj s₁ => ∃ led : Bool, obj = .ref s.heap.objs.size ∧ s₁ = { s with heap := s.heap.push (newSet led) }) fun led => ⟨led, rfl, rfl⟩) fun r s₁ hr => ?_
  rcases r with e | fl
  · exact hr
  cases fl with
  | ret obj =>
    obtain ⟨led, rfl, rfl⟩ := hr
    have hS : (s.heap.push (newSet led)).get? s.heap.objs.size = some (newSet led) := Heap.get?_push_size _ rfl
    have hT : Shared.TypeIs { s with heap := s.heap.push (newSet led) } (.ref s.heap.objs.size) "set" := ⟨_, hS, rfl⟩
    have hli := F.called_set.init.lookup
    have hbi := F.called_set.init.bind (.ref s.heap.objs.size)
    repeat (any_goals (first | assumption | wp_step))
    refine codeAny_mono (codeAny_call_builtin (R := wants (fun r s₂ => r = .none ∧ ∃ h' tk L es ep t, s₂ = { s with heap := h', toks := tk } ∧ Tab P w h' s.heap.objs.size L es ep t ∧ Has ks ks.length L ∧
        (∀ b o, s.heap.get? b = some o → h'.get? b = some o)) E) F.called_set.init.plain F.entry_set_init (check_set_init_1 hT ?_)) fun r₂ s₂ hr₂ => ?_
    · obtain ⟨ol, hol, hcl, nl, hdl⟩ := hl
      obtain ⟨ocls, odict, odata, oslots⟩ := ol
      simp only at hcl hdl
      subst hcl; subst hdl
      have hol' : (s.heap.push (newSet led)).get? l = some { cls := .type "tuple", dict := odict, data := .seq items nl, slots := oslots } := Heap.get?_push_of_some _ hol
      have hsls := F.sub_tuple_set
      have hslf := F.sub_tuple_frozenset
      have hne : (Value.type "tuple" == Value.type "dict") = false := by decide
      have hl1 : (s.heap.push (newSet led)).IsTuple l items := ⟨_, hol', rfl, nl, rfl⟩
      unfold Builtin.«set.__init__» noKeywords Builtin.Frozenset.updateFrom
      generalize hPI : pyIter = PI
      wp_walk
      subst hPI
      refine wpAny_pyIter_tuple hl1 ?_
      refine wpAny_bind (wpAny_runValue ?_)
      have hlS : l < s.heap.objs.size := Heap.lt_size hol
      have hh3 : A.in1.in1.in1.handled = none := by simp [hh]
      have hsize : (s.heap.push (newSet led)).objs.size = s.heap.objs.size + 1 := Heap.size_push ..
      have hneI : l ≠ (s.heap.push (newSet led)).objs.size := by rw [hsize]; exact Nat.ne_of_lt (Nat.lt_succ_of_lt hlS)
      have hSf : s.heap.objs.size ∉ [(s.heap.push (newSet led)).objs.size, l] := by
        rw [hsize]
        simp only [List.mem_cons, List.not_mem_nil, or_false, not_or]
        exact ⟨Nat.ne_of_lt (Nat.lt_succ_self _), Nat.ne_of_gt hlS⟩
      have hval : ∀ (i : Nat) (v : Value), items[i]? = some v → ∃ q, ks[i]? = some q ∧ v = .ref q.1 := fun i v hv => by
        rw [← Array.getElem?_toList, hit, List.getElem?_map] at hv
        obtain ⟨q, e1, e2⟩ := Option.map_eq_some_iff.mp hv
        exact ⟨q, e1, e2.symm⟩
      have off : ∀ b, s.heap.objs.size ≤ b → s.heap.get? b = none := fun b hb => by
        cases z : s.heap.get? b with
        | none => rfl
        | some o => exact absurd (Nat.lt_of_lt_of_le (Heap.lt_size z) hb) (Nat.lt_irrefl _)
      refine fill ((Walks.tuple hh3 _ l hneI items).toS) s.heap.objs.size hSf ks hsz few hval s.heap hk (off _ (Nat.le_refl _)) (fun b hb => off b (by rw [List.mem_singleton.mp hb, hsize]; exact Nat.le_succ _)) hu (items.size - 0) 0 _ (by omega) (Nat.zero_le _)
        ⟨⟨_, Heap.get?_push_size _ rfl, rfl, rfl⟩, (hl1.push _)⟩ (fun b o e => Heap.get?_push_of_some _ (Heap.get?_push_of_some _ e)) ⟨[], #[], 0, _, Tab.fresh led (Heap.get?_push_of_some _ hS), Has.none ks⟩ fun s' L es ep t hm T g z => ?_
      obtain ⟨h', g2, d', tk', os'⟩ := s'
      obtain rfl : g2 = s.gens := hm.gens
      obtain rfl : d' = s.drawn := hm.drawn
      obtain rfl : os' = s.os := hm.os
      show wpAny _ _ _ _ _ _
      refine wpAny_pure ?_
      show wpAny _ _ (ret Value.none) _ _ _
      rw [hsz] at g
      exact wpAny_pure ⟨rfl, h', tk', L, es, ep, t, rfl, T, g, z⟩
    · rcases r₂ with e | fl₂
      · exact hr₂
      cases fl₂ with
      | ret r =>
        obtain ⟨rfl, h', tk, L, es, ep, t, rfl, T, g, z⟩ := hr₂
        repeat (any_goals (first | assumption | wp_step))
        exact h _ _ _ _ _ _ T g z
      | _ => exact hr₂.elim
  | _ => exact hr.elim
end

/-- a row of tuples of texts, as values and as texts -/
inductive TxRow (K : PySem.W.Frag) (H : Hp) : List V → List (List Str) → Prop
  | nil : TxRow K H [] []
  | cons {t : Addr} {k : List Str} {vs : List V} {ks : List (List Str)} : SqT K H t (k.map V.str) → TxRow K H vs ks → TxRow K H (.ref t :: vs) (k :: ks)
theorem items_of {P : Program} {w : World} : ∀ {ys : List Str} {us : List Value}, StrsAre us ys → ItemsAre (PySem.strKind P w) ys us
  | _, _, .nil => .nil
  | _, _, .cons y t r => .cons (strKind_is _ _ _ _) (items_of r)
section
variable {X : Cx} {pins : List (Addr × Obj)} {σ : L2.St} {H : Hp} {s : Shared}
theorem tx_of (I : Inv X pins σ H s) {t : Addr} {k : List Str} (h : SqT X.K H t (k.map V.str)) : Tx X.prog X.w s.heap k t := by
  obtain ⟨its, rv, ⟨o, ho, hc, n, hd⟩, _⟩ := I.tuple h
  exact ⟨o, its.toArray, n, ho, hc, hd, items_of (by simpa using strsAre_of rv)⟩
theorem rows_of (I : Inv X pins σ H s) : ∀ {vs : List V} {ks : List (List Str)} {us : List Value}, TxRow X.K H vs ks → Vals vs us →
    ∃ L : List (Addr × List Str), us = (L.map fun q => Value.ref q.1) ∧ L.map (·.2) = ks ∧ ∀ q ∈ L, Tx X.prog X.w s.heap q.2 q.1
  | _, _, _, .nil, .nil => ⟨[], rfl, rfl, fun q hq => absurd hq (by simp)⟩
  | _, _, _, .cons (t := t) (k := k) h r, .cons rv rvs => by
    obtain ⟨L, e1, e2, e3⟩ := rows_of I r rvs
    cases rv
    refine ⟨(t, k) :: L, by rw [e1] <;> rfl, by rw [← e2] <;> rfl, fun q hq => ?_⟩
    rcases List.mem_cons.mp hq with e | hq
    · rw [e]; exact tx_of I h
    · exact e3 q hq
end
section
variable {X : Cx}
/-- len(set(t)): as many as there are, exactly if all differ -/
def tLenSetT (K : PySem.W.Frag) (ta : TE) : TE := fun σ H Q => ta σ H fun x H1 => ∃ (l : Addr) (vs : List V) (ks : List (List Str)), x = V.ref l ∧ SqT K H1 l vs ∧ TxRow K H1 vs ks ∧ ks.length ≤ 4 ∧
  ∀ m : Nat, m ≤ ks.length → (m = ks.length ↔ ks.Nodup) → Q (.int m) H1
theorem pe_lenSetT {a : Expr} {ta : TE} {p p2 q pos : Pos} (hu : X.A.units + 64 < cLine) (hc : X.calm = true) (hg : Gl X "len") (hm : X.mg "len" = none) (hg2 : Gl X "set") (hm2 : X.mg "set" = none) (ha : PE X a ta)
    (na : starEach [a] X.env = (false, eval a X.env) :: starEach [] X.env := by rfl) : PE X (.Call (.Name "len" p) [.Call (.Name "set" p2) [a] [] q] [] pos) (tLenSetT X.K ta) := by
  refine ⟨fun pins s σ H Q I h => ?_⟩
  refine Call_ (ld_blt I hg hm PySem.boot_len ?_)
  refine PyProof.Rows.callWith_builtin1 (PyProof.Rows.args_cons ?_ rfl) rfl rfl
  refine Call_ (ld_blt I hg2 hm2 PyProof.Rows.boot_set ?_)
  refine PyProof.Rows.callWith_type1 (PyProof.Rows.args_cons (thn (ha.run pins s σ H _ I h) fun v s1 ⟨x, H1, I1, r1, q1⟩ => PyProof.Rows.args_nil ?_) na) na rfl
  obtain ⟨l, vs, ks, rfl, hq, hr, h4, q1⟩ := q1
  cases r1
  obtain ⟨its, rv, hT, hz⟩ := I1.tuple hq
  obtain ⟨L, e1, e2, e3⟩ := rows_of I1 hr rv
  have hL : L.length = ks.length := by rw [← e2, List.length_map]
  refine call_set L (I1.ok.hd hc) hT (by simpa using e1) e3 (by omega) (by omega) fun h' tk L2 es ep t T g z => ?_
  refine PyProof.Rows.args_nil ?_
  have I2 : Inv X pins σ H1 { s1 with heap := h', toks := tk } := I1.kept z
  obtain ⟨o, ho, hex, hd⟩ := T.obj
  have hn := T.size
  refine call_len_set ho hex hd T.fits (by rw [hn]; have := T.four; omega) ⟨.int L2.length, H1, I2.tok _, ⟨_, by rw [hn]⟩, q1 L2.length (by rw [← hL]; exact g.len) ?_⟩
  rw [← hL, g.cnt, List.take_length, e2]
end
end S4

set_option Elab.async false
set_option linter.all false
set_option maxRecDepth 100000
set_option maxHeartbeats 4000000
namespace KS
open PySem PySem.Spec PyProof.Rows L2
theorem sameUpd {H : Hp} {p : Addr} {o : HO} (h : H p = none) : Same H (upd H p o) := fun b u e => by
  rw [upd_ne (ne_of_none e h)]
  exact e
theorem sameTup {K : PySem.W.Frag} {H H' : Hp} {a : Addr} {xs : List V} (e : Same H H') (h : SqT K H a xs) : SqT K H' a xs := by
  rcases h with (h | ⟨o, h⟩) | h
  · exact .inl (.inl (e _ _ h))
  · exact .inl (.inr ⟨o, e _ _ h⟩)
  · exact .inr h
mutual
theorem dpSame {K : PySem.W.Frag} {H H' : Hp} (e : Same H H') : ∀ (d : PyData) (v : V), Dp K H v d → Dp K H' v d
  | .none, _, h => by cases h; exact .non
  | .bool b, _, h => by cases h; exact .bl b
  | .int i, _, h => by cases h; exact .int i
  | .str x, _, h => by cases h; exact .str x
  | .list ds, _, h => by
    cases h with
    | lst ha hd => exact .lst (e.seq ha) (dpAllSame e ds _ hd)
  | .tuple ds, _, h => by
    cases h with
    | tup ha hd => exact .tup (sameTup e ha) (dpAllSame e ds _ hd)
  | .dict _, _, h => nomatch h
theorem dpAllSame {K : PySem.W.Frag} {H H' : Hp} (e : Same H H') : ∀ (ds : List PyData) (vs : List V), DpAll K H vs ds → DpAll K H' vs ds
  | [], _, h => by cases h; exact .nil
  | d :: ds, _, h => by
    cases h with
    | cons h1 h2 => exact .cons (dpSame e d _ h1) (dpAllSame e ds _ h2)
end
theorem dpLen {K : PySem.W.Frag} {H : Hp} : ∀ {vs : List V} {ds : List PyData}, DpAll K H vs ds → vs.length = ds.length
  | _, _, .nil => rfl
  | _, _, .cons _ r => by rw [List.length_cons, List.length_cons, dpLen r]
theorem dpAt {K : PySem.W.Frag} {H : Hp} : ∀ {vs : List V} {ds : List PyData}, DpAll K H vs ds → ∀ {i : Nat} {d : PyData}, ds[i]? = some d → ∃ v, vs[i]? = some v ∧ Dp K H v d
  | _, _, .nil, _, _, h => by simp at h
  | _, _, .cons h1 r, 0, _, h => by
    cases h
    exact ⟨_, rfl, h1⟩
  | _, _, .cons h1 r, i + 1, _, h => dpAt r (by simpa using h)
def SOk (z : Str) : Prop := z.cps.all (· < 0x110000) = true
/-- data down to the depth n: texts not too long, tuples not too wide, no lists -/
inductive Od : Nat → PyData → Prop
  | non (n : Nat) : Od n .none
  | bl (n : Nat) (b : Bool) : Od n (.bool b)
  | int (n : Nat) (i : Int) : Od n (.int i)
  | str (n : Nat) {z : Str} (h : SOk z) (h2 : z.length ≤ 2000) : Od n (.str z)
  | tup {n : Nat} {ds : List PyData} (h : ds.length ≤ 100) (h2 : ∀ d ∈ ds, Od n d) : Od (n + 1) (.tuple ds)
theorem Od.up {n : Nat} {d : PyData} (h : Od n d) : ∀ {m : Nat}, n ≤ m → Od m d := by
  induction h with
  | non n => exact fun _ => .non _
  | bl n b => exact fun _ => .bl _ b
  | int n i => exact fun _ => .int _ i
  | str n h h2 => exact fun _ => .str _ h h2
  | @tup n ds h h2 ih =>
    intro m hm
    obtain ⟨k, rfl⟩ : ∃ k, m = k + 1 := ⟨m - 1, by omega⟩
    exact .tup h fun d hd => ih d hd (by omega)
theorem allLay : ∀ {ds : List PyData} {n : Nat}, (∀ d ∈ ds, d.canLay0 = true ∧ d.depth ≤ n) → PyData.canLayAll0 ds = true ∧ PyData.depthAll ds ≤ n
  | [], n, _ => ⟨rfl, Nat.zero_le _⟩
  | d :: ds, n, h => by
    obtain ⟨h1, h2⟩ := h d List.mem_cons_self
    obtain ⟨h3, h4⟩ := allLay (n := n) fun x hx => h x (List.mem_cons_of_mem _ hx)
    constructor
    · simp only [PyData.canLayAll0, h1, h3, Bool.and_self]
    · simp only [PyData.depthAll]
      exact Nat.max_le.mpr ⟨h2, h4⟩
theorem Od.lay {n : Nat} {d : PyData} (h : Od n d) : d.canLay0 = true ∧ d.depth ≤ n := by
  induction h with
  | non n => exact ⟨rfl, Nat.zero_le _⟩
  | bl n b => exact ⟨rfl, Nat.zero_le _⟩
  | int n i => exact ⟨rfl, Nat.zero_le _⟩
  | str n h h2 => exact ⟨h, Nat.zero_le _⟩
  | @tup n ds h h2 ih =>
    obtain ⟨a, b⟩ := allLay (n := n) ih
    refine ⟨a, ?_⟩
    simp only [PyData.depth]
    omega
theorem Od.shaped {n : Nat} {d : PyData} (h : Od n d) (hn : n ≤ 64) : SeqAt.shaped d = true := by
  obtain ⟨a, b⟩ := h.lay
  unfold SeqAt.shaped
  rw [a, Bool.true_and]
  exact decide_eq_true (by omega)
/-! kinds -/
def tyD : PyData → String
  | .none => "NoneType" | .bool _ => "bool" | .int _ => "int" | .str _ => "str" | .list _ => "list" | .tuple _ => "tuple" | .dict _ => "dict"
def isT (t c : String) : Bool := t == c || (t == "bool" && c == "int")
def isD (d : PyData) (c : String) : Bool := isT (tyD d) c
theorem kitAll : ∀ t ∈ ["NoneType", "bool", "int", "str", "list", "tuple"], ∀ c ∈ ["tuple", "str", "int", "bool", "list"], kitB t c = some (isT t c) := by decide +kernel
theorem dpTy {K : PySem.W.Frag} {H : Hp} {v : V} {d : PyData} (h : Dp K H v d) : TyX K H v (.type (tyD d)) := by
  cases h with
  | non => exact .base .non
  | bl b => exact .base (.bl b)
  | int i => exact .base (.int i)
  | str x => exact .base (.str x)
  | lst h _ =>
    rcases h with (h | ⟨o, h⟩) | ⟨o, its, n, h, c, _⟩
    · exact .base (.lst h)
    · exact .base (.frz h)
    · exact .kList h c
  | tup h _ =>
    rcases h with (h | ⟨o, h⟩) | ⟨o, its, n, h, c, _⟩
    · exact .base (.tup h)
    · exact .fTuple h
    · exact .kTuple h c
theorem dpKit {K : PySem.W.Frag} {H : Hp} {v : V} {d : PyData} (h : Dp K H v d) {c : String} (hc : c = "tuple" ∨ c = "str" ∨ c = "int" ∨ c = "bool" ∨ c = "list") : PySem.W.kitOne K (.type (tyD d)) (.type c) = some (isD d c) := by
  have hc' : c ∈ ["tuple", "str", "int", "bool", "list"] := by rcases hc with rfl | rfl | rfl | rfl | rfl <;> simp
  refine kit_ty (kitAll _ ?_ _ hc')
  cases h <;> simp [tyD]
theorem isi {K : PySem.W.Frag} {H : Hp} {v : V} {d : PyData} (h : Dp K H v d) {c : String} (hc : c = "tuple" ∨ c = "str" ∨ c = "int" ∨ c = "bool" ∨ c = "list") {Q : VK} (q : Q (.bl (isD d c)) H) : rIsi K [v, .ty c] H Q :=
  ⟨v, .ty c, _, _, _, rfl, .ty c, dpTy h, dpKit h hc, q⟩
/-- the built-in names that are read -/
structure Bn (mg : Str → Option Value) : Prop where
  isi : mg "isinstance" = none
  len : mg "len" = none
  zip : mg "zip" = none
  all : mg "all" = none
  list : mg "list" = none
  tuple : mg "tuple" = none
  bool : mg "bool" = none
  int : mg "int" = none
  str : mg "str" = none
  range : mg "range" = none
  ord : mg "ord" = none
  set : mg "set" = none
  max : mg "max" = none
  min : mg "min" = none
/-! comprehensions with one name -/
theorem lcJ {J : It} {n : Nat} {g : TG} {tt : TT} {te : TE} {vs : List Nat} {σ : L2.St} {H1 : Hp} {D : Addr} {Qd : Hp → Prop} (Pv : Nat → Hp → Prop) (h0 : Pv 0 (upd H1 D (.lst [])))
    (hgo : ∀ i H, i < n → Pv i H → J.go i H) (hst : ∀ H, Pv n H → J.stop n H)
    (hs : ∀ i H x H', i < n → Pv i H → J.yld i H x H' → g x (wipe σ vs) H' fun σ2 H2 => wipe σ2 vs = wipe σ vs ∧ tt σ2 H2 fun b H3 =>
      if b = true then te σ2 H3 fun y H4 => ∃ acc, H4 D = some (.lst acc) ∧ acc.length < sizeLine ∧ Pv (i + 1) (upd H4 D (.lst (acc ++ [y]))) else Pv (i + 1) H3)
    (hd : ∀ H, Pv n H → Qd H) :
    ∃ W : Nat → Nat → Hp → Prop, (∃ m, W 0 m (upd H1 D (.lst []))) ∧ ∀ i m H, W i m H →
      (J.stop i H ∧ Qd H) ∨ (J.go i H ∧ ∃ Nx : Hp → Prop, (∀ H', Nx H' → ∃ m', m' < m ∧ W (i + 1) m' H') ∧ ∀ x H', J.yld i H x H' → g x (wipe σ vs) H' fun σ2 H2 => wipe σ2 vs = wipe σ vs ∧ tt σ2 H2 fun b H3 =>
        if b = true then te σ2 H3 fun y H4 => ∃ acc, H4 D = some (.lst acc) ∧ acc.length < sizeLine ∧ Nx (upd H4 D (.lst (acc ++ [y]))) else Nx H3) := by
  refine ⟨fun i m H => m = n - i ∧ i ≤ n ∧ Pv i H, ⟨n, by simp, Nat.zero_le _, h0⟩, fun i m H hW => ?_⟩
  obtain ⟨rfl, hi, p⟩ := hW
  by_cases lt : i < n
  · refine .inr ⟨hgo i H lt p, Pv (i + 1), fun H' p' => ⟨n - (i + 1), by omega, rfl, lt, p'⟩, fun x H' y => ?_⟩
    exact hs i H x H' lt p y
  · have e : i = n := by omega
    subst e
    exact .inl ⟨hst H p, hd H p⟩
/-- the list at D, all else as it was -/
def At (H1 : Hp) (D : Addr) (xs : List V) (H : Hp) : Prop := Same H1 H ∧ H D = some (.lst xs)
theorem At.put {H1 H H' : Hp} {D : Addr} {xs ys : List V} (hD : H1 D = none) (h : At H1 D xs H) (s : Same H H') : H' D = some (.lst xs) ∧ At H1 D ys (upd H' D (.lst ys)) := by
  obtain ⟨a, b⟩ := h
  refine ⟨s _ _ b, fun c o e => ?_, upd_same⟩
  rw [upd_ne (ne_of_none e hD)]
  exact s _ _ (a _ _ e)
theorem dpSnoc {K : PySem.W.Frag} {H : Hp} {y : V} {e : PyData} (hy : Dp K H y e) : ∀ {xs : List V} {ds : List PyData}, DpAll K H xs ds → DpAll K H (xs ++ [y]) (ds ++ [e])
  | _, _, .nil => .cons hy .nil
  | _, _, .cons h r => .cons h (dpSnoc hy r)
/-- every item answers a Bool -/
theorem lcAll {J : It} {n j : Nat} {te : TE} {σ : L2.St} {H1 : Hp} {D : Addr} {Qd : Hp → Prop} (b : Nat → Bool) (hD : H1 D = none) (hn : n ≤ 1000000) (hw : ∀ v, wipe ((wipe σ [j]).set j (some v)) [j] = wipe σ [j])
    (hgo : ∀ i H, i < n → Same H1 H → J.go i H) (hst : ∀ H, Same H1 H → J.stop n H)
    (hs : ∀ i H x H', i < n → Same H1 H → J.yld i H x H' → Same H H' ∧ ∀ (R : VK), (∀ H2, Same H' H2 → R (.bl (b i)) H2) → te ((wipe σ [j]).set j (some x)) H' R)
    (hd : ∀ H, Same H1 H → H D = some (.lst (((List.range n).map b).map V.bl)) → Qd H) :
    ∃ W : Nat → Nat → Hp → Prop, (∃ m, W 0 m (upd H1 D (.lst []))) ∧ ∀ i m H, W i m H →
      (J.stop i H ∧ Qd H) ∨ (J.go i H ∧ ∃ Nx : Hp → Prop, (∀ H', Nx H' → ∃ m', m' < m ∧ W (i + 1) m' H') ∧ ∀ x H', J.yld i H x H' → gName j x (wipe σ [j]) H' fun σ2 H2 => wipe σ2 [j] = wipe σ [j] ∧ tYes σ2 H2 fun b H3 =>
        if b = true then te σ2 H3 fun y H4 => ∃ acc, H4 D = some (.lst acc) ∧ acc.length < sizeLine ∧ Nx (upd H4 D (.lst (acc ++ [y]))) else Nx H3) := by
  refine lcJ (n := n) (fun i H => At H1 D (((List.range i).map b).map V.bl) H) ⟨sameUpd hD, upd_same⟩ (fun i H lt h => hgo i H lt h.1) (fun H h => hst H h.1) (fun i H x H' lt h y => ?_) (fun H h => hd H h.1 h.2)
  obtain ⟨s1, s2⟩ := hs i H x H' lt h.1 y
  refine ⟨hw x, ?_⟩
  unfold tYes
  dsimp only
  rw [if_pos rfl]
  refine s2 _ fun H2 s3 => ?_
  obtain ⟨e1, e2⟩ := h.put (ys := ((List.range (i + 1)).map b).map V.bl) hD (s1.trans s3)
  refine ⟨_, e1, ?_, ?_⟩
  · rw [List.length_map, List.length_map, List.length_range, sizeLine_eq]
    omega
  · have e3 : ((List.range (i + 1)).map b).map V.bl = ((List.range i).map b).map V.bl ++ [V.bl (b i)] := by
      rw [List.range_succ, List.map_append, List.map_append]
      rfl
    rw [← e3]
    exact e2
/-- the ones that answer true are kept -/
theorem lcSome {K : PySem.W.Frag} {J : It} {n j : Nat} {tt : TT} {te : TE} {σ : L2.St} {H1 : Hp} {D : Addr} {Qd : Hp → Prop} (b : Nat → Bool) (hD : H1 D = none) (hn : n ≤ 1000000) (hw : ∀ v, wipe ((wipe σ [j]).set j (some v)) [j] = wipe σ [j])
    (hgo : ∀ i H, i < n → Same H1 H → J.go i H) (hst : ∀ H, Same H1 H → J.stop n H)
    (hs : ∀ i H x H', i < n → Same H1 H → J.yld i H x H' → Same H H' ∧ (∀ (F : Bool → Hp → Prop), (∀ H2, Same H' H2 → F (b i) H2) → tt ((wipe σ [j]).set j (some x)) H' F) ∧ ∃ y d, (∀ H, Dp K H y d) ∧ Od 0 d ∧ ∀ (R : VK) H2, R y H2 → te ((wipe σ [j]).set j (some x)) H2 R)
    (hd : ∀ H xs, Same H1 H → H D = some (.lst xs) → (xs = [] ↔ ∀ i, i < n → b i = false) → (∃ ds, (∀ H, DpAll K H xs ds) ∧ (∀ d ∈ ds, Od 0 d) ∧ ds.length ≤ n) → Qd H) :
    ∃ W : Nat → Nat → Hp → Prop, (∃ m, W 0 m (upd H1 D (.lst []))) ∧ ∀ i m H, W i m H →
      (J.stop i H ∧ Qd H) ∨ (J.go i H ∧ ∃ Nx : Hp → Prop, (∀ H', Nx H' → ∃ m', m' < m ∧ W (i + 1) m' H') ∧ ∀ x H', J.yld i H x H' → gName j x (wipe σ [j]) H' fun σ2 H2 => wipe σ2 [j] = wipe σ [j] ∧ tt σ2 H2 fun b H3 =>
        if b = true then te σ2 H3 fun y H4 => ∃ acc, H4 D = some (.lst acc) ∧ acc.length < sizeLine ∧ Nx (upd H4 D (.lst (acc ++ [y]))) else Nx H3) := by
  refine lcJ (n := n) (fun i H => ∃ xs, At H1 D xs H ∧ (xs = [] ↔ ∀ k, k < i → b k = false) ∧ xs.length ≤ i ∧ ∃ ds, (∀ H, DpAll K H xs ds) ∧ ∀ d ∈ ds, Od 0 d) ⟨[], ⟨sameUpd hD, upd_same⟩, ⟨fun _ k hk => absurd hk (Nat.not_lt_zero _), fun _ => rfl⟩, Nat.le_refl _, [], fun _ => .nil, fun d hd => absurd hd (by simp)⟩ (fun i H lt h => hgo i H lt h.choose_spec.1.1) (fun H h => hst H h.choose_spec.1.1) (fun i H x H' lt h y => ?_)
    (fun H h => by obtain ⟨xs, h1, h2, h3, h4⟩ := h; obtain ⟨ds, g1, g2⟩ := h4; exact hd H xs h1.1 h1.2 h2 ⟨ds, g1, g2, by have := dpLen (g1 H); omega⟩)
  obtain ⟨xs, h, e0, hl, ds, hda, hod⟩ := h
  obtain ⟨s1, s2, z, zd, z1, z2, s4⟩ := hs i H x H' lt h.1 y
  refine ⟨hw x, s2 _ fun H2 s3 => ?_⟩
  cases hb : b i with
  | true =>
    refine iteT (s4 _ _ ?_)
    obtain ⟨e1, e2⟩ := h.put (ys := xs ++ [z]) hD (s1.trans s3)
    refine ⟨_, e1, by rw [sizeLine_eq]; omega, _, e2, ⟨fun q => absurd q (by simp), fun q => ?_⟩, by rw [List.length_append]; exact Nat.succ_le_succ hl, ds ++ [zd], fun H => dpSnoc (z1 H) (hda H), fun d hd => ?_⟩
    · rw [q i (Nat.lt_succ_self _)] at hb
      cases hb
    · rcases List.mem_append.mp hd with y | y
      · exact hod d y
      · rw [List.mem_singleton.mp y]
        exact z2
  | false =>
    refine iteF ⟨xs, ⟨(h.1.trans s1).trans s3, s3 _ _ (s1 _ _ h.2)⟩, ⟨fun q k hk => ?_, fun q => e0.mpr fun k hk => q k (by omega)⟩, by omega, ds, hda, hod⟩
    rcases Nat.lt_succ_iff_lt_or_eq.mp hk with c | c
    · exact e0.mp q k c
    · rw [c]
      exact hb
/-- all(..) over a tuple -/
theorem lcAllT {K : PySem.W.Frag} {a : Addr} {xs : List V} {ds : List PyData} {j : Nat} {te : TE} {σ : L2.St} {H1 : Hp} {D : Addr} {Qd : Hp → Prop} (p : PyData → Bool) (ha : SqT K H1 a xs) (hx : DpAll K H1 xs ds) (hn : ds.length ≤ 1000) (hD : H1 D = none) (hw : ∀ v, wipe ((wipe σ [j]).set j (some v)) [j] = wipe σ [j])
    (hs : ∀ v d H, d ∈ ds → Same H1 H → Dp K H v d → ∀ (R : VK), (∀ H2, Same H H2 → R (.bl (p d)) H2) → te ((wipe σ [j]).set j (some v)) H R)
    (hd : ∀ H, Same H1 H → H D = some (.lst ((ds.map p).map V.bl)) → Qd H) :
    ∃ W : Nat → Nat → Hp → Prop, (∃ m, W 0 m (upd H1 D (.lst []))) ∧ ∀ i m H, W i m H →
      ((Itt K a).stop i H ∧ Qd H) ∨ ((Itt K a).go i H ∧ ∃ Nx : Hp → Prop, (∀ H', Nx H' → ∃ m', m' < m ∧ W (i + 1) m' H') ∧ ∀ x H', (Itt K a).yld i H x H' → gName j x (wipe σ [j]) H' fun σ2 H2 => wipe σ2 [j] = wipe σ [j] ∧ tYes σ2 H2 fun b H3 =>
        if b = true then te σ2 H3 fun y H4 => ∃ acc, H4 D = some (.lst acc) ∧ acc.length < sizeLine ∧ Nx (upd H4 D (.lst (acc ++ [y]))) else Nx H3) := by
  have hl := dpLen hx
  refine lcAll (n := ds.length) (fun i => p (ds.getD i .none)) hD (by omega) hw (fun i H lt s => ?_) (fun H s => ⟨xs, sameTup s ha, by omega⟩) (fun i H x H' lt s y => ?_) (fun H s e => hd H s ?_)
  · exact ⟨xs, xs[i], sameTup s ha, List.getElem?_eq_getElem (by omega)⟩
  · obtain ⟨rfl, y⟩ := y
    refine ⟨Same.refl _, fun R hR => ?_⟩
    have e := y xs (sameTup s ha)
    have e2 : ds[i]? = some ds[i] := List.getElem?_eq_getElem lt
    obtain ⟨v, h1, h2⟩ := dpAt hx e2
    obtain rfl : v = x := Option.some.inj (h1.symm.trans e)
    rw [List.getD_eq_getElem?_getD, e2] at hR
    exact hs v ds[i] _ (List.getElem_mem lt) s (dpSame s _ _ h2) R hR
  · rw [e]
    have : (List.range ds.length).map (fun i => p (ds.getD i .none)) = ds.map p := by
      refine List.ext_getElem (by simp) fun i h1 h2 => ?_
      simp only [List.getElem_map, List.getElem_range]
      rw [List.getD_eq_getElem?_getD, List.getElem?_eq_getElem (by simpa using h1)]
      rfl
    rw [this]
/-- the kept ones of a tuple -/
theorem lcSomeT {K : PySem.W.Frag} {a : Addr} {xs : List V} {ds : List PyData} {j : Nat} {tt : TT} {te : TE} {σ : L2.St} {H1 : Hp} {D : Addr} {Qd : Hp → Prop} (p : PyData → Bool) (ha : SqT K H1 a xs) (hx : DpAll K H1 xs ds) (hn : ds.length ≤ 1000) (hD : H1 D = none) (hw : ∀ v, wipe ((wipe σ [j]).set j (some v)) [j] = wipe σ [j])
    (hs : ∀ v d H, d ∈ ds → Same H1 H → Dp K H v d → (∀ (F : Bool → Hp → Prop), (∀ H2, Same H H2 → F (p d) H2) → tt ((wipe σ [j]).set j (some v)) H F) ∧ ∃ y d, (∀ H, Dp K H y d) ∧ Od 0 d ∧ ∀ (R : VK) H2, R y H2 → te ((wipe σ [j]).set j (some v)) H2 R)
    (hd : ∀ H zs, Same H1 H → H D = some (.lst zs) → (zs = [] ↔ ∀ d ∈ ds, p d = false) → (∃ es, (∀ H, DpAll K H zs es) ∧ (∀ d ∈ es, Od 0 d) ∧ es.length ≤ ds.length) → Qd H) :
    ∃ W : Nat → Nat → Hp → Prop, (∃ m, W 0 m (upd H1 D (.lst []))) ∧ ∀ i m H, W i m H →
      ((Itt K a).stop i H ∧ Qd H) ∨ ((Itt K a).go i H ∧ ∃ Nx : Hp → Prop, (∀ H', Nx H' → ∃ m', m' < m ∧ W (i + 1) m' H') ∧ ∀ x H', (Itt K a).yld i H x H' → gName j x (wipe σ [j]) H' fun σ2 H2 => wipe σ2 [j] = wipe σ [j] ∧ tt σ2 H2 fun b H3 =>
        if b = true then te σ2 H3 fun y H4 => ∃ acc, H4 D = some (.lst acc) ∧ acc.length < sizeLine ∧ Nx (upd H4 D (.lst (acc ++ [y]))) else Nx H3) := by
  have hl := dpLen hx
  refine lcSome (K := K) (n := ds.length) (fun i => p (ds.getD i .none)) hD (by omega) hw (fun i H lt s => ?_) (fun H s => ⟨xs, sameTup s ha, by omega⟩) (fun i H x H' lt s y => ?_) (fun H zs s e e0 es => hd H zs s e (e0.trans ?_) es)
  · exact ⟨xs, xs[i], sameTup s ha, List.getElem?_eq_getElem (by omega)⟩
  · obtain ⟨rfl, y⟩ := y
    have e := y xs (sameTup s ha)
    have e2 : ds[i]? = some ds[i] := List.getElem?_eq_getElem lt
    obtain ⟨v, h1, h2⟩ := dpAt hx e2
    obtain rfl : v = x := Option.some.inj (h1.symm.trans e)
    rw [List.getD_eq_getElem?_getD, e2]
    exact ⟨Same.refl _, hs v ds[i] _ (List.getElem_mem lt) s (dpSame s _ _ h2)⟩
  · constructor
    · intro h d hd
      obtain ⟨i, hi, e⟩ := List.getElem_of_mem hd
      have := h i hi
      rw [List.getD_eq_getElem?_getD, List.getElem?_eq_getElem hi] at this
      rw [← e]
      exact this
    · intro h i hi
      rw [List.getD_eq_getElem?_getD, List.getElem?_eq_getElem hi]
      exact h _ (List.getElem_mem hi)
/-- a kept list against [] -/
theorem eqNil {K : PySem.W.Frag} {H : Hp} {D e : Addr} {zs : List V} {Q : VK} {n : Nat} (hD : H D = some (.lst zs)) (he : H e = some (.lst [])) (es : ∃ es, (∀ H, DpAll K H zs es) ∧ (∀ d ∈ es, Od 0 d) ∧ es.length ≤ n) (h : Q (.bl (decide (zs = []))) H) : rEqD K (.ref D) (.ref e) H Q := by
  obtain ⟨ds, h1, h2, _⟩ := es
  refine ⟨.list ds, .list [], .lst (.inl (.inl hD)) (h1 H), .lst (.inl (.inl he)) .nil, ?_, rfl, ?_⟩
  · obtain ⟨a, b⟩ := allLay (ds := ds) (n := 0) fun d hd => (h2 d hd).lay
    have e1 : (PyData.list ds).canLay0 = true := a
    unfold SeqAt.shaped
    rw [e1, Bool.true_and]
    refine decide_eq_true ?_
    simp only [PyData.depth]
    omega
  · have hl := dpLen (h1 H)
    cases ds with
    | nil =>
      have : zs = [] := List.eq_nil_of_length_eq_zero hl
      subst this
      exact h
    | cons d ds =>
      have : ¬ zs = [] := fun z => by rw [z] at hl; cases hl
      rw [decide_eq_false this] at h
      exact h
theorem neNil {K : PySem.W.Frag} {H : Hp} {D e : Addr} {zs : List V} {Q : VK} {n : Nat} (hD : H D = some (.lst zs)) (he : H e = some (.lst [])) (es : ∃ es, (∀ H, DpAll K H zs es) ∧ (∀ d ∈ es, Od 0 d) ∧ es.length ≤ n) (h : Q (.bl (!decide (zs = []))) H) : rNeD K (.ref D) (.ref e) H Q := by
  obtain ⟨d, e, h1, h2, h3, h4, h5⟩ := eqNil (Q := fun x H => Q (match x with | .bl b => .bl (!b) | _ => x) H) hD he es h
  exact ⟨d, e, h1, h2, h3, h4, h5⟩
end KS

set_option Elab.async false
set_option linter.all false
set_option maxRecDepth 100000
set_option maxHeartbeats 4000000
/-! z.translate({n: None}): a line of plain signs, without those of one number -/
namespace TD
open PySem PySem.Spec PyProof.Rows L2 PySem.Builtin PySem.Builtin.Str
/-- what becomes of a sign -/
def left1 (n c : Nat) : Option Nat := if c = n then none else some c
/-- a line without the signs of a number -/
def gone (n : Nat) (l : List Nat) : List Nat := l.filter fun c => decide (c ≠ n)
theorem goneLen (n : Nat) (l : List Nat) : (gone n l).length = l.length ↔ l.all (fun c => decide (c ≠ n)) = true := by
  unfold gone
  rw [List.length_filter_eq_length_iff, List.all_eq_true]
/-- the dict, as the machine knows it -/
structure Drops (P : Program) (w : World) (h : Heap) (d : Addr) (n : Nat) : Prop where
  low : (d == sysModules) = false
  has : ∃ f : Key → Option Value, h.MapOf (mixKind P w) d f ∧ f (Sum.inl (n : Int)) = some .none ∧ ∀ c : Nat, c ≠ n → f (Sum.inl (c : Int)) = none
theorem Drops.on {P : Program} {w : World} {h h' : Heap} {d : Addr} {n : Nat} (D : Drops P w h d n) (k : ∀ b o, h.get? b = some o → h'.get? b = some o) : Drops P w h' d n := by
  obtain ⟨lo, f, ⟨o, es, ep, ho, r⟩, q⟩ := D
  exact ⟨lo, f, ⟨o, es, ep, k _ _ ho, r⟩, q⟩
theorem keyLookup : isSubtype (.type "KeyError") (.type "LookupError") = pure true := by first | rfl | kernel_rfl
section
variable {P : Program} {w : World} {A : Around} {E : Value → Shared → Prop} {s : Shared} {d : Addr} {n c : Nat}
/-- one sign looked up -/
theorem oneSign {Q : Mapped → Shared → Prop} (hh : A.handled = none) (D : Drops P w s.heap d n)
    (y1 : c = n → ∀ h' k, (∀ b o, s.heap.get? b = some o → h'.get? b = some o) → Q .drop { s with heap := h', toks := k })
    (y2 : c ≠ n → ∀ h' k, (∀ b o, s.heap.get? b = some o → h'.get? b = some o) → Q .keep { s with heap := h', toks := k }) : wpAny (model P w) A (tableLookup (.ref d) c) Q E s := by
  obtain ⟨lo, f, M, f1, f2⟩ := D
  unfold tableLookup
  refine wpAny_bind (wpAny_attempt (wpAny_bind (wpAny_mkInt ?_)))
  by_cases e : c = n
  · refine wpAny_getItem_of (knd := mixKind P w) (k := Sum.inl (c : Int)) (kV_is ⟨_, rfl⟩) M (by rw [e]; exact f1) ?_
    exact wpAny_pure (y1 e s.heap _ fun _ _ z => z)
  · refine wpAny_getItem_missing_of (knd := mixKind P w) (k := Sum.inl (c : Int)) (kV_is ⟨_, rfl⟩) lo hh M (f2 c e) fun h' x hx => ?_
    obtain ⟨ob, t, ho, hc, _⟩ := hx.there
    refine wpAny_bind (wpAny_isInstance (T := "KeyError") (b := true) ⟨ob, ho, hc⟩ keyLookup ?_)
    simp only [if_true]
    exact wpAny_bind (wpAny_rule (wpAny_pure (y2 e h' _ hx.keeps)))
/-- the walk over the signs: where it stands -/
def At (n : Nat) (x : List Nat) (s : Shared) (rest : List Nat) (st : List Str × Nat × Bool × List (Nat × Option Nat) × Bool) (s2 : Shared) : Prop :=
  ∃ (past : List Nat) (ps : List Str) (tot : Nat) (kn : List (Nat × Option Nat)) (h' : Heap) (k : Nat), x = past ++ rest ∧ st = (ps, tot, true, kn, false) ∧ ps.reverse = (gone n past).map (fun c => (⟨#[c]⟩ : Str)) ∧
    tot ≤ past.length ∧ (∀ c a, List.lookup c kn = some a → a = left1 n c) ∧ s2 = { s with heap := h', toks := k } ∧ ∀ b o, s.heap.get? b = some o → h'.get? b = some o
theorem At.stay {x : List Nat} {rest past : List Nat} {ps : List Str} {tot : Nat} {kn : List (Nat × Option Nat)} {h' : Heap} {k : Nat} (h1 : x = past ++ c :: rest) (hc : c ≠ n) (h3 : ps.reverse = (gone n past).map (fun c => (⟨#[c]⟩ : Str)))
    (h5 : tot ≤ past.length) (h4 : ∀ c a, List.lookup c kn = some a → a = left1 n c) (h6 : ∀ b o, s.heap.get? b = some o → h'.get? b = some o) : At n x s rest (⟨#[c]⟩ :: ps, tot + 1, true, kn, false) { s with heap := h', toks := k } := by
  refine ⟨past ++ [c], ⟨#[c]⟩ :: ps, tot + 1, kn, h', k, by rw [h1]; simp, rfl, ?_, by simp; omega, h4, rfl, h6⟩
  unfold gone at h3 ⊢
  rw [List.reverse_cons, h3, List.filter_append, List.map_append, List.filter_cons, if_pos (decide_eq_true hc)]
  rfl
theorem At.skip {x : List Nat} {rest past : List Nat} {ps : List Str} {tot : Nat} {kn : List (Nat × Option Nat)} {h' : Heap} {k : Nat} (h1 : x = past ++ c :: rest) (hc : c = n) (h3 : ps.reverse = (gone n past).map (fun c => (⟨#[c]⟩ : Str)))
    (h5 : tot ≤ past.length) (h4 : ∀ c a, List.lookup c kn = some a → a = left1 n c) (h6 : ∀ b o, s.heap.get? b = some o → h'.get? b = some o) : At n x s rest (ps, tot, true, kn, false) { s with heap := h', toks := k } := by
  refine ⟨past ++ [c], ps, tot, kn, h', k, by rw [h1]; simp, rfl, ?_, by simp; omega, h4, rfl, h6⟩
  unfold gone at h3 ⊢
  rw [h3, List.filter_append, List.filter_cons, if_neg (by simp [hc])]
  simp
theorem glued : ∀ (l : List Nat) (a : Array Nat), (l.map fun c => (⟨#[c]⟩ : Str)).foldl (fun b p => b ++ p.cps) a = a ++ l.toArray
  | [], a => by simp
  | c :: l, a => by
    rw [List.map_cons, List.foldl_cons, glued l]
    apply Array.toList_inj.mp
    simp
theorem known2 {x y : Nat} {a b : Option Nat} {kn : List (Nat × Option Nat)} (h : List.lookup y ((x, a) :: kn) = some b) : (y = x ∧ b = a) ∨ List.lookup y kn = some b := by
  rw [List.lookup_cons] at h
  by_cases e : y = x
  · subst e
    rw [beq_self_eq_true] at h
    exact .inl ⟨rfl, (Option.some.inj h).symm⟩
  · rw [beq_eq_false_iff_ne.mpr e] at h
    exact .inr h
theorem meets (z : Str) (t : Tok) (hz : z.length ≤ 16000000) (ha : z.cps.all (fun c => decide (c < 128)) = true) : MeetsIn P w («str.translate» ⟨[.str z t, .ref d], []⟩) (fun A R s =>
    A.handled = none ∧ Drops P w s.heap d n ∧ ∀ (v : Value) (h' : Heap) (k : Nat), (∀ b o, s.heap.get? b = some o → h'.get? b = some o) → (∃ u, v = .str ⟨(gone n z.cps.toList).toArray⟩ u) → R (.ok (.ret v)) { s with heap := h', toks := k }) := by
  refine .of_wp fun A R s h => ?_
  obtain ⟨hh, D, h⟩ := h
  have hh1 : A.in1.handled = none := hh
  show wpAny _ _ (if (z.length == 0) = true then (do rule "str.translate.empty"; ret (.str z t)) else (do
    let st ← forIn z.cps (([], 0, z.cps.all fun c => decide (c < 128), [], false) : List Str × Nat × Bool × List (Nat × Option Nat) × Bool) _
    _)) _ _ s
  rw [ha]
  have hL : z.cps.toList.length = z.length := rfl
  cases h0 : (z.length == 0) with
  | true =>
    rw [if_pos rfl]
    have hx : z.cps.toList = [] := List.eq_nil_of_length_eq_zero (by rw [hL]; exact beq_iff_eq.mp h0)
    refine wpAny_bind (wpAny_rule (wpAny_pure ⟨_, rfl, h _ s.heap s.toks (fun _ _ e => e) ⟨t, ?_⟩⟩))
    have : z = ⟨(gone n z.cps.toList).toArray⟩ := by
      rw [hx]
      cases z with
      | mk a =>
        have : a.toList = [] := hx
        rw [show a = #[] from Array.toList_inj.mp this]
        rfl
    rw [← this]
  | false =>
    rw [if_neg Bool.false_ne_true]
    refine wpAny_bind (MeetsSeq2.wpAny_forIn_array _ (At n z.cps.toList s) _ (fun c rest st s2 hI => ?turn) (fun st s2 hI => ?fin) z.cps ([], 0, true, [], false) ?start)
    case start => exact ⟨[], [], 0, [], s.heap, s.toks, rfl, rfl, rfl, Nat.le_refl _, (fun c a y => by cases y), rfl, fun _ _ e => e⟩
    case turn =>
      obtain ⟨past, ps, tot, kn, h', k, e1, rfl, e3, e4, e5, rfl, e7⟩ := hI
      have hp : tot ≤ 16777216 := by
        have q := congrArg List.length e1
        rw [List.length_append, hL] at q
        omega
      show wpAny _ _ (if tooLong tot = true then _ else (if true = true then _ else _)) _ _ _
      rw [short24 hp, if_neg Bool.false_ne_true, if_pos rfl]
      have D' : Drops P w ({ s with heap := h', toks := k } : Shared).heap d n := D.on e7
      cases hl : List.lookup c kn with
      | some a =>
        have q := e5 c a hl
        subst q
        refine wpAny_bind (wpAny_pure ?_)
        by_cases ec : c = n
        · rw [show left1 n c = none from if_pos ec]
          exact wpAny_pure (At.skip e1 ec e3 e4 e5 e7)
        · rw [show left1 n c = some c from if_neg ec]
          exact wpAny_pure (At.stay e1 ec e3 e4 e5 e7)
      | none =>
        have more : ∀ b, b = left1 n c → ∀ y a, List.lookup y ((c, b) :: kn) = some a → a = left1 n y := fun b hb y a q => by
          rcases known2 q with ⟨q1, q2⟩ | q
          · rw [q2, hb, q1]
          · exact e5 y a q
        refine wpAny_bind (oneSign hh1 D' (fun ec h2 k2 k3 => ?_) (fun ec h2 k2 k3 => ?_))
        · refine wpAny_bind (wpAny_pure (wpAny_pure ?_))
          exact At.skip e1 ec e3 e4 (more none (if_pos ec).symm) (fun b o y => k3 b o (e7 b o y))
        · refine wpAny_bind (wpAny_pure (wpAny_pure ?_))
          exact At.stay e1 ec e3 e4 (more (some c) (if_neg ec).symm) (fun b o y => k3 b o (e7 b o y))
    case fin =>
      obtain ⟨past, ps, tot, kn, h', k, e1, rfl, e3, e4, e5, rfl, e7⟩ := hI
      rw [List.append_nil] at e1
      subst e1
      show wpAny _ _ (if tooLong tot = true then _ else retStr ⟨ps.reverse.foldl (fun b (p : Str) => b ++ p.cps) #[]⟩) _ _ _
      rw [short24 (by rw [hL] at e4; omega), if_neg Bool.false_ne_true, e3, glued, Array.empty_append]
      have le : (gone n z.cps.toList).length ≤ z.length := by
        unfold gone
        exact hL ▸ List.length_filter_le _ _
      exact wpAny_bind (wpAny_mkStr (wpAny_pure ⟨_, rfl, h _ h' _ e7 ⟨_, rfl⟩⟩) (by show (gone n z.cps.toList).toArray.size ≤ _; rw [List.size_toArray, sizeLine_eq]; omega))
end
section
variable {X : Cx}
/-- z.translate(d), where d is {n: None} -/
theorem mt_drop {n : Nat} (hc : X.calm = true) : MtR X "str.translate" (fun x xs H Q => ∃ (z : Str) (d : Addr), x = .str z ∧ xs = [.ref d] ∧ H d = some (.dK [(Sum.inl (n : Int), .non)]) ∧ z.cps.all (fun c => decide (c < 128)) = true ∧ z.length ≤ 16000000 ∧
    Q (.str ⟨(gone n z.cps.toList).toArray⟩) H) := by
  intro pins s σ H x xs v us Q I rx rs h
  obtain ⟨z, d, rfl, rfl, hd, ha, hz, h⟩ := h
  obtain ⟨t, rfl⟩ := rx
  cases rs with
  | cons r1 rs =>
    cases rs
    cases r1
    obtain ⟨_, lo, vs, rel, dd⟩ := dk_of I.hok hd
    have D : Drops X.prog X.w s.heap d n := by
      refine ⟨lo, _, dd.mapOf, ?_, fun c hcn => ?_⟩
      · have := rel.val (Sum.inl (n : Int))
        rw [show valV [((Sum.inl (n : Int) : Key), V.non)] (Sum.inl (n : Int)) = some .non from valV_pos rfl] at this
        obtain ⟨u, hu, ru⟩ := RelO.some_of this
        rw [hu]
        cases ru
        rfl
      · have := rel.val (Sum.inl (c : Int))
        rw [show valV [((Sum.inl (n : Int) : Key), V.non)] (Sum.inl (c : Int)) = none from by
          rw [valV_neg (fun e => by have := Sum.inl.inj e; omega)]
          rfl] at this
        revert this
        cases valueAt vs (Sum.inl (c : Int)) with
        | none => exact fun _ => rfl
        | some _ => exact fun e => e.elim
    refine call_meetsIn F.slot_str_translate (typeIs_str _ _ _) F.entry_str_translate (F.args_str_translate_2 _ _) (meets (n := n) z t hz ha) ⟨I.ok.hd hc, D, fun v h' k hk y => ?_⟩
    obtain ⟨u, rfl⟩ := y
    exact ⟨.str _, H, I.kept (t' := k) hk, ⟨u, rfl⟩, h⟩
end
end TD

set_option Elab.async false
set_option linter.all false
set_option maxRecDepth 100000
set_option maxHeartbeats 4000000
namespace KS
open PySem PySem.Spec PyProof.Rows L2
/-! ### what the words mean -/
def signOk (c : Nat) : Bool := decide (32 ≤ c) && (decide (c ≤ 126) && decide (c ≠ 37))
def okT (z : Str) : Bool := decide (z.length ≤ 400) && z.cps.toList.all signOk
def letter (c : Nat) : Bool := decide (97 ≤ c) && decide (c ≤ 122)
def nameSign (c : Nat) : Bool := letter c || (decide (48 ≤ c) && decide (c ≤ 57))
def okN (z : Str) : Bool := decide (1 ≤ z.length) && (decide (z.length ≤ 8) && (letter (z.cps.getD 0 0) && z.cps.toList.all nameSign))
def isTx : PyData → Bool
  | .str z => okT z
  | _ => false
def isNm : PyData → Bool
  | .str z => okN z
  | _ => false
def isKy : PyData → Bool
  | .tuple [a, b] => isNm a && isNm b
  | _ => false
/-- a promise: the answer to a question about one value -/
def spIs (K : PySem.W.Frag) (n : Nat) (p : PyData → Bool) : Sp := fun vs H Q _ => ∃ v d, vs = [v] ∧ Dp K H v d ∧ Od n d ∧ ∀ H', Same H H' → Q (.bl (p d)) H'
/-- a def's bundle -/
structure Has (P : Program) (w : World) (K : PySem.W.Frag) (mg : Str → Option Value) (base : Heap) (k : Nat) (x : Str) (ps : List Str) (sp : Sp) : Prop where
  ex : ∃ (f : Addr) (fd : FuncData), mg x = some (.ref f) ∧ PySem.W.keepIn K (.ref f) = true ∧ Binds K fd ps [] ∧ FnOk P w K mg base CX0 k f fd ps sp
abbrev IntG (mg : Str → Option Value) (x : Str) (i : Int) : Prop := ∃ t, mg x = some (.int i t)
theorem IntG.gc {mg : Str → Option Value} {x : Str} {i : Int} (h : IntG mg x i) : ∃ u, mg x = some u ∧ RelV (.int i) u := let ⟨t, e⟩ := h; ⟨_, e, t, rfl⟩
section
variable {P : Program} {w : World} {K : PySem.W.Frag} {mg : Str → Option Value} {base : Heap} {f : Addr} {fd : FuncData}
theorem leOne (a c : Nat) : (!decide ([c] < [a])) = decide (a ≤ c) := by
  have e : ([c] < [a]) ↔ c < a := by
    rw [List.cons_lt_cons_iff]
    constructor
    · rintro (h | ⟨_, h⟩)
      · exact h
      · exact absurd h (by simp)
    · exact fun h => .inl h
  by_cases h : a ≤ c
  · rw [decide_eq_true h, decide_eq_false (fun z => absurd (e.mp z) (by omega))]
    rfl
  · rw [decide_eq_false h, decide_eq_true (e.mpr (by omega))]
    rfl
theorem scText : FnScope ["value"] ["value"] (defScope sIsText) := ⟨rfl, rfl, rfl, by decide +kernel, rfl, by decide +kernel, by decide +kernel⟩
theorem allRange (l : List Nat) (p : Nat → Bool) : (((List.range l.length).map fun i => p (l.getD i 0)).all id) = l.all p := by
  rw [Bool.eq_iff_iff, List.all_eq_true, List.all_eq_true]
  constructor
  · intro h x hx
    obtain ⟨i, hi, e⟩ := List.getElem_of_mem hx
    have := h (p (l.getD i 0)) (List.mem_map.mpr ⟨i, List.mem_range.mpr hi, rfl⟩)
    rw [List.getD_eq_getElem?_getD, List.getElem?_eq_getElem hi] at this
    rw [← e]
    exact this
  · intro h b hb
    obtain ⟨i, hi, e⟩ := List.mem_map.mp hb
    rw [← e]
    have hi' := List.mem_range.mp hi
    rw [List.getD_eq_getElem?_getD, List.getElem?_eq_getElem hi']
    exact h _ (List.getElem_mem hi')
theorem plainTil : (List.range 128).all (fun c => decide (c ≠ 37) && Unicode.isPrintable c == signOk c || decide (c = 37)) = true := by decide +kernel
theorem plainSign {c : Nat} (h : c < 128) (h2 : c ≠ 37) : Unicode.isPrintable c = signOk c := by
  have := List.all_eq_true.mp plainTil c (List.mem_range.mpr h)
  rw [decide_eq_true h2, decide_eq_false h2, Bool.true_and, Bool.or_false] at this
  exact eq_of_beq this
theorem signAscii {c : Nat} (h : signOk c = true) : c < 128 ∧ c ≠ 37 := by
  unfold signOk at h
  rw [Bool.and_eq_true, Bool.and_eq_true, decide_eq_true_eq, decide_eq_true_eq, decide_eq_true_eq] at h
  omega
theorem okT_as (z : Str) : z.cps.toList.all signOk = (Txt.isascii z && (Txt.isprintable z && decide ((TD.gone 37 z.cps.toList).length = z.cps.toList.length))) := by
  have e1 : Txt.isascii z = z.cps.toList.all (fun c => decide (c < 128)) := by
    show z.cps.all _ = _
    rw [Array.all_toList]
  have e2 : Txt.isprintable z = z.cps.toList.all Unicode.isPrintable := by
    show z.cps.all _ = _
    rw [Array.all_toList]
  rw [e1, e2, Bool.eq_iff_iff, Bool.and_eq_true, Bool.and_eq_true, decide_eq_true_eq, TD.goneLen]
  simp only [List.all_eq_true, decide_eq_true_eq]
  constructor
  · intro h
    refine ⟨fun c hc => (signAscii (h c hc)).1, fun c hc => ?_, fun c hc => (signAscii (h c hc)).2⟩
    rw [plainSign (signAscii (h c hc)).1 (signAscii (h c hc)).2]
    exact h c hc
  · intro ⟨h1, h2, h3⟩ c hc
    rw [← plainSign (h1 c hc) (h3 c hc)]
    exact h2 c hc
theorem okText {k n : Nat} (F : FnP K "is_text" sIsText f fd) (B : Bn mg) (g1 : IntG mg "LONGEST_TEXT" 400) : FnOk P w K mg base CX0 (k + 1) f fd ["value"] (spIs K n isTx) := by
  refine F.ok scText (fun vs H Q E h => ?_) (fun cdv A outer s H vs Q E hr h => ?_)
  · obtain ⟨v, d, rfl, _⟩ := h
    rfl
  · obtain ⟨v, d, rfl, hd, od, q⟩ := h
    refine ⟨_, PSs.nox (pss_cons (ps_if (PW.pt (pw_or (pt_not (pt_val (pe_callB call_isi (by rfl) B.isi (by decide +kernel) (pa_cons (pv 0) (pa_cons (pe_bltn (v := .ty "str") (by rfl) B.str (by decide +kernel) rfl) pa_nil)))))
        (pw_or (pt_cmpR op_gt (pe_callB call_len_str (by rfl) B.len PySem.boot_len (pa_cons (pv 0) pa_nil)) (C8.pe_gc (by rfl) g1.gc) (nomark _))
        (pw_or (pt_not (pt_val (pe_bm0 PySem.F.plainAttrs_str PySem.F.slot_str_isascii PySem.F.type_str_isascii mt_isascii (pv 0))))
        (pw_or1 (pt_not (pt_val (pe_bm0 PySem.F.plainAttrs_str PySem.F.slot_str_isprintable PySem.F.type_str_isprintable mt_isprintable (pv 0))))))))) (pss_one (ps_ret pe_bl)) pss_nil) (pss_one (ps_ret (pe_cmpR op_eq (pe_callB call_len_str (by rfl) B.len PySem.boot_len (pa_cons (pe_bm PySem.F.plainAttrs_str PySem.F.slot_str_translate PySem.F.type_str_translate (TD.mt_drop (n := 37) rfl) (pv 0)
          (pa_cons (pe_disp (pps_cons pe_int pe_non pps_nil) (by rfl) (by rfl) (fun z => by cases z) (by decide)) pa_nil)) pa_nil))
        (pe_callB call_len_str (by rfl) B.len PySem.boot_len (pa_cons (pv 0) pa_nil)) (nomark _))))), ?_⟩
    refine ⟨v, rfl, v, .ty "str", _, _, _, rfl, .ty _, dpTy hd, dpKit hd (.inr (.inl rfl)), _, rfl, ?_⟩
    cases od with
    | @str _ z sok len =>
      cases hd
      have hq : ∀ H', Same H H' → ∀ b, okT z = b → Q (.bl b) H' := fun H' s' b e => e ▸ q H' s'
      refine iteF ⟨.str z, rfl, z, rfl, by rw [sizeLine_eq]; omega, _, _, rfl, rfl, _, rfl, ite2 (fun e => ?_) (fun e => ?_)⟩
      · have e1 : (400 : Int) < (z.length : Int) := of_decide_eq_true e
        exact hq H (Same.refl H) _ (by unfold okT; rw [decide_eq_false (by omega), Bool.false_and])
      · have e1 : ¬ (400 : Int) < (z.length : Int) := fun y => e (decide_eq_true y)
        have e2 : okT z = (Txt.isascii z && (Txt.isprintable z && decide ((TD.gone 37 z.cps.toList).length = z.cps.toList.length))) := by
          rw [← okT_as]
          unfold okT
          rw [decide_eq_true (by omega), Bool.true_and]
        refine ⟨.str z, rfl, rfl, z, rfl, rfl, trivial, _, rfl, ?_⟩
        cases ha : Txt.isascii z with
        | false => exact iteT (hq H (Same.refl H) _ (by rw [e2, ha, Bool.false_and]))
        | true =>
          refine iteF ⟨.str z, rfl, rfl, z, rfl, rfl, trivial, _, rfl, ?_⟩
          cases hp : Txt.isprintable z with
          | false => exact iteT (hq H (Same.refl H) _ (by rw [e2, hp, Bool.false_and, Bool.and_false]))
          | true =>
            rw [ha, hp, Bool.true_and, Bool.true_and] at e2
            refine iteF ⟨.str z, rfl, rfl, fun D hD => ⟨upd_same .., [(Sum.inl 37, V.non)], rfl, by decide, z, D, rfl, rfl, upd_same .., ha, by omega, _, rfl, ?_, .str z, rfl, z, rfl, by rw [sizeLine_eq]; omega, ?_⟩⟩
            · have := List.length_filter_le (fun c => decide (c ≠ 37)) z.cps.toList
              have e3 : z.cps.toList.length = z.length := rfl
              show (TD.gone 37 z.cps.toList).toArray.size ≤ _
              rw [List.size_toArray, sizeLine_eq]
              unfold TD.gone
              omega
            · refine ⟨rfl, ?_⟩
              have e3 : decide (V.int (((⟨(TD.gone 37 z.cps.toList).toArray⟩ : Str).length : Nat) : Int) = V.int (z.length : Int)) = decide ((TD.gone 37 z.cps.toList).length = z.cps.toList.length) := by
                rw [decide_eq_decide]
                have e4 : (⟨(TD.gone 37 z.cps.toList).toArray⟩ : Str).length = (TD.gone 37 z.cps.toList).length := List.size_toArray
                have e5 : z.cps.toList.length = z.length := rfl
                rw [e4, e5]
                constructor
                · intro y
                  have : ((TD.gone 37 z.cps.toList).length : Int) = (z.length : Int) := by injection y
                  omega
                · intro y
                  rw [y]
              rw [e3]
              exact hq _ (fun b o hb => by
                have ne : b ≠ D := fun e => by rw [e, hD] at hb; cases hb
                rw [upd_ne ne, upd_ne ne]
                exact hb) _ e2
    | non => exact iteT (q H (Same.refl H))
    | bl => exact iteT (q H (Same.refl H))
    | int => exact iteT (q H (Same.refl H))
    | tup => exact iteT (q H (Same.refl H))
end
end KS

set_option Elab.async false
set_option linter.all false
set_option maxRecDepth 100000
set_option maxHeartbeats 4000000
namespace KS
open PySem PySem.Spec PyProof.Rows L2
section
variable {P : Program} {w : World} {K : PySem.W.Frag} {mg : Str → Option Value} {base : Heap} {f : Addr} {fd : FuncData}
theorem nameTil : (List.range 128).all (fun c => (Unicode.isAlnum c && !(Unicode.isUpper c || Unicode.isTitle c)) == nameSign c) = true := by decide +kernel
theorem lowTil : (List.range 128).all (fun c => !letter c || Unicode.isLower c) = true := by decide +kernel
theorem nameIs {c : Nat} (h : c < 128) : (Unicode.isAlnum c && !(Unicode.isUpper c || Unicode.isTitle c)) = nameSign c :=
  eq_of_beq (List.all_eq_true.mp nameTil c (List.mem_range.mpr h))
theorem nameLow {c : Nat} (h : nameSign c = true) : c < 128 := by
  unfold nameSign letter at h
  simp only [Bool.or_eq_true, Bool.and_eq_true, decide_eq_true_eq] at h
  omega
theorem lowIs {c : Nat} (h : letter c = true) : Unicode.isLower c = true := by
  have hc : c < 128 := nameLow (by unfold nameSign; rw [h, Bool.true_or])
  have := List.all_eq_true.mp lowTil c (List.mem_range.mpr hc)
  rw [h] at this
  exact this
theorem okN_as (z : Str) {c0 : Nat} (h0 : z.cps[0]? = some c0) (hl : letter c0 = true) : z.cps.toList.all nameSign = (Txt.isascii z && (Txt.isalnum z && Txt.islower z)) := by
  have m0 : c0 ∈ z.cps.toList := List.mem_of_getElem? (i := 0) (by rw [Array.getElem?_toList]; exact h0)
  have e1 : Txt.isascii z = z.cps.toList.all (fun c => decide (c < 128)) := by
    show z.cps.all _ = _
    rw [Array.all_toList]
  have e2 : Txt.isalnum z = z.cps.toList.all Unicode.isAlnum := by
    show (decide (z.length > 0) && z.cps.all _) = _
    rw [Array.all_toList, decide_eq_true (by show z.cps.toList.length > 0; exact List.length_pos_of_mem m0), Bool.true_and]
  have e3 : Txt.islower z = !z.cps.toList.any (fun c => Unicode.isUpper c || Unicode.isTitle c) := by
    show (z.cps.any _ && !z.cps.any _) = _
    rw [← Array.any_toList, ← Array.any_toList, List.any_eq_true.mpr ⟨c0, m0, lowIs hl⟩, Bool.true_and]
  rw [e1, e2, e3, Bool.eq_iff_iff, Bool.and_eq_true, Bool.and_eq_true, Bool.not_eq_true', List.any_eq_false]
  simp only [List.all_eq_true, decide_eq_true_eq]
  constructor
  · intro h
    refine ⟨fun c hc => nameLow (h c hc), fun c hc => ?_, fun c hc => ?_⟩
    · have := h c hc
      rw [← nameIs (nameLow this), Bool.and_eq_true] at this
      exact this.1
    · have := h c hc
      rw [← nameIs (nameLow this), Bool.and_eq_true, Bool.not_eq_true'] at this
      rw [this.2]
      exact Bool.false_ne_true
  · intro ⟨h1, h2, h3⟩ c hc
    rw [← nameIs (h1 c hc), h2 c hc, Bool.eq_false_iff.mpr (h3 c hc)]
    rfl
theorem scName : FnScope ["value"] ["value"] (defScope sIsName) := ⟨rfl, rfl, rfl, by decide +kernel, rfl, by decide +kernel, by decide +kernel⟩
theorem okName {k n : Nat} (F : FnP K "is_name" sIsName f fd) (B : Bn mg) (g1 : IntG mg "LONGEST_NAME" 8) : FnOk P w K mg base CX0 (k + 1) f fd ["value"] (spIs K n isNm) := by
  refine F.ok scName (fun vs H Q E h => ?_) (fun cdv A outer s H vs Q E hr h => ?_)
  · obtain ⟨v, d, rfl, _⟩ := h
    rfl
  · obtain ⟨v, d, rfl, hd, od, q⟩ := h
    refine ⟨_, PSs.nox (pss_cons (ps_if (PW.pt (pw_or (pt_not (pt_val (pe_callB call_isi (by rfl) B.isi (by decide +kernel) (pa_cons (pv 0) (pa_cons (pe_bltn (v := .ty "str") (by rfl) B.str (by decide +kernel) rfl) pa_nil)))))
        (pw_or1 (pt_not (pt_chain op_le op_le pe_int (pe_callB call_len_str (by rfl) B.len PySem.boot_len (pa_cons (pv 0) pa_nil)) (C8.pe_gc (by rfl) g1.gc)))))) (pss_one (ps_ret pe_bl)) pss_nil) (pss_one (ps_ret (pe_and (pe_chain op_le_str op_le_str pe_str (pe_ix ix_str (pv 0) pe_int (fun _ _ => rfl)) pe_str)
        (pe_and (pe_bm0 PySem.F.plainAttrs_str PySem.F.slot_str_isascii PySem.F.type_str_isascii mt_isascii (pv 0))
        (pe_and (pe_bm0 PySem.F.plainAttrs_str PySem.F.slot_str_isalnum PySem.F.type_str_isalnum mt_isalnum (pv 0))
        (pe_one (pe_bm0 PySem.F.plainAttrs_str PySem.F.slot_str_islower PySem.F.type_str_islower mt_islower (pv 0))))))))), ?_⟩
    refine ⟨v, rfl, v, .ty "str", _, _, _, rfl, .ty _, dpTy hd, dpKit hd (.inr (.inl rfl)), _, rfl, ?_⟩
    cases od with
    | @str _ z sok len =>
      cases hd
      have hq : ∀ H', Same H H' → ∀ b, okN z = b → Q (.bl b) H' := fun H' s' b e => e ▸ q H' s'
      refine iteF ⟨.str z, rfl, z, rfl, by rw [sizeLine_eq]; omega, _, _, rfl, rfl, _, rfl, ?_⟩
      by_cases h1 : 1 ≤ z.length
      · rw [if_pos (decide_eq_true (by omega : (1 : Int) ≤ (z.length : Int)))]
        refine ⟨_, _, rfl, rfl, _, rfl, ?_⟩
        by_cases h2 : z.length ≤ 8
        · rw [decide_eq_true (by omega : (z.length : Int) ≤ 8)]
          refine iteF ?_
          have hz : ∃ c, z.cps[0]? = some c := ⟨z.cps[0]'h1, Array.getElem?_eq_getElem h1⟩
          obtain ⟨c, hc⟩ := hz
          have e1 : okN z = (letter c && z.cps.toList.all nameSign) := by
            unfold okN
            rw [decide_eq_true h1, decide_eq_true h2, Bool.true_and, Bool.true_and, Array.getD_eq_getD_getElem?, hc]
            rfl
          have k1 : (!decide ((⟨#[c]⟩ : Str).cps.toList < ("a" : Str).cps.toList)) = decide (97 ≤ c) := leOne 97 c
          have k2 : (!decide (("z" : Str).cps.toList < (⟨#[c]⟩ : Str).cps.toList)) = decide (c ≤ 122) := leOne c 122
          refine ⟨.str z, rfl, z, 0, c, rfl, rfl, by rw [sizeLine_eq]; omega, atI_nat (j := 0) (by rw [Array.getElem?_toList]; exact hc), _, _, rfl, rfl, _, rfl, ?_⟩
          rw [k1]
          by_cases h3 : 97 ≤ c
          · rw [if_pos (decide_eq_true h3)]
            refine ⟨_, _, rfl, rfl, _, rfl, ?_⟩
            rw [k2]
            by_cases h4 : c ≤ 122
            · have hl : letter c = true := by unfold letter; rw [decide_eq_true h3, decide_eq_true h4]; rfl
              have e2 : okN z = (Txt.isascii z && (Txt.isalnum z && Txt.islower z)) := by rw [e1, hl, Bool.true_and, okN_as z hc hl]
              rw [if_pos (decide_eq_true h4)]
              refine ⟨.str z, rfl, rfl, z, rfl, rfl, trivial, _, rfl, ?_⟩
              cases ha : Txt.isascii z with
              | false => exact hq H (Same.refl H) _ (by rw [e2, ha, Bool.false_and])
              | true =>
                refine iteT ⟨.str z, rfl, rfl, z, rfl, rfl, trivial, _, rfl, ?_⟩
                cases hp : Txt.isalnum z with
                | false => exact hq H (Same.refl H) _ (by rw [e2, hp, Bool.false_and, Bool.and_false])
                | true => exact iteT ⟨.str z, rfl, rfl, z, rfl, rfl, trivial, hq H (Same.refl H) _ (by rw [e2, ha, hp, Bool.true_and, Bool.true_and])⟩
            · rw [if_neg (by simp [h4])]
              have : decide (c ≤ 122) = false := decide_eq_false h4
              exact hq H (Same.refl H) _ (by rw [e1]; unfold letter; rw [this, Bool.and_false, Bool.false_and])
          · rw [if_neg (by simp [h3])]
            have : decide (97 ≤ c) = false := decide_eq_false h3
            exact ⟨_, rfl, hq H (Same.refl H) _ (by rw [e1]; unfold letter; rw [this, Bool.false_and, Bool.false_and])⟩
        · rw [decide_eq_false (by omega : ¬ (z.length : Int) ≤ 8)]
          exact iteT (hq H (Same.refl H) _ (by unfold okN; rw [decide_eq_false h2, Bool.false_and, Bool.and_false]))
      · rw [if_neg (by rw [decide_eq_true_eq]; omega)]
        exact ⟨_, rfl, iteT (hq H (Same.refl H) _ (by unfold okN; rw [decide_eq_false h1, Bool.false_and]))⟩
    | non => exact iteT (q H (Same.refl H))
    | bl => exact iteT (q H (Same.refl H))
    | int => exact iteT (q H (Same.refl H))
    | tup => exact iteT (q H (Same.refl H))
theorem scKey : FnScope ["value"] ["value"] (defScope sIsKey) := ⟨rfl, rfl, rfl, by decide +kernel, rfl, by decide +kernel, by decide +kernel⟩
theorem dInt {i j : Int} : decide (V.int i = V.int j) = decide (i = j) := by
  rw [decide_eq_decide]
  exact ⟨fun h => by injection h, fun h => by rw [h]⟩
theorem okKey {k n : Nat} (F : FnP K "is_key" sIsKey f fd) (B : Bn mg) (Nm : Has P w K mg base (k + 2) "is_name" ["value"] (spIs K n isNm)) : FnOk P w K mg base CX0 (k + 3) f fd ["value"] (spIs K n isKy) := by
  obtain ⟨fN, fdN, gN, kN, bN, GN⟩ := Nm.ex
  refine F.ok scKey (fun vs H Q E h => ?_) (fun cdv A outer s H vs Q E hr h => ?_)
  · obtain ⟨v, d, rfl, _⟩ := h
    rfl
  · obtain ⟨v, d, rfl, hd, od, q⟩ := h
    refine ⟨_, PSs.nox (pss_one (ps_ret (pe_and (pe_callB call_isi (by rfl) B.isi (by decide +kernel) (pa_cons (pv 0) (pa_cons (pe_bltn (v := .ty "tuple") (by rfl) B.tuple (by decide +kernel) rfl) pa_nil)))
      (pe_and (pe_cmpR op_eq (pe_callB call_len_seq (by rfl) B.len PySem.boot_len (pa_cons (pv 0) pa_nil)) pe_int (nomark _))
      (pe_and (pe_call GN hr (by rfl) gN kN bN .nil pass0 (pa_cons (pe_ix ix_tup (pv 0) pe_int (fun _ _ => rfl)) pa_nil)) (pe_one (pe_call GN hr (by rfl) gN kN bN .nil pass0 (pa_cons (pe_ix ix_tup (pv 0) pe_int (fun _ _ => rfl)) pa_nil)))))))), ?_⟩
    refine ⟨v, rfl, v, .ty "tuple", _, _, _, rfl, .ty _, dpTy hd, dpKit hd (.inl rfl), _, rfl, ?_⟩
    cases od with
    | @tup n ds hl hod =>
      cases hd with
      | @tup a xs _ hx hds =>
        have el := dpLen hds
        refine iteT ⟨.ref a, rfl, a, xs, rfl, .inr hx, rfl, _, rfl, ?_⟩
        rw [dInt]
        refine ite2 (fun e => ?_) (fun e => ?_)
        · have e2 : xs.length = 2 := by have := of_decide_eq_true e; omega
          match xs, ds, hds, el, e2 with
          | [x0, x1], [d0, d1], .cons h0 (.cons h1 .nil), _, _ =>
            have o0 := (hod d0 (by simp)).up (m := n + 1) (by omega)
            have o1 := (hod d1 (by simp)).up (m := n + 1) (by omega)
            refine ⟨.ref a, rfl, a, _, 0, x0, rfl, rfl, hx, atI_nat (j := 0) rfl, x0, d0, rfl, h0, o0, fun H1 s1 => ⟨_, rfl, ite2 (fun e => ?_) (fun e => ?_)⟩⟩
            · refine ⟨.ref a, rfl, a, _, 1, x1, rfl, rfl, sameTup s1 hx, atI_nat (j := 1) rfl, x1, d1, rfl, dpSame s1 _ _ h1, o1, fun H2 s2 => ?_⟩
              have := q H2 (s1.trans s2)
              rw [show isKy (.tuple [d0, d1]) = (isNm d0 && isNm d1) from rfl, e, Bool.true_and] at this
              exact this
            · have := q H1 s1
              rw [show isKy (.tuple [d0, d1]) = (isNm d0 && isNm d1) from rfl, Bool.eq_false_iff.mpr e, Bool.false_and] at this
              exact this
        · have e2 : xs.length ≠ 2 := fun z => e (by rw [z]; rfl)
          have e3 : isKy (.tuple ds) = false := by
            match ds, el with
            | [], _ => rfl
            | [_], _ => rfl
            | [_, _], el => exact absurd el e2
            | _ :: _ :: _ :: _, _ => rfl
          rw [e3] at q
          exact q H (Same.refl H)
    | non => exact iteF (q H (Same.refl H))
    | bl => exact iteF (q H (Same.refl H))
    | int => exact iteF (q H (Same.refl H))
    | str => exact iteF (q H (Same.refl H))
end
end KS

set_option Elab.async false
set_option linter.all false
set_option maxRecDepth 100000
set_option maxHeartbeats 4000000
namespace KS
open PySem PySem.Spec PyProof.Rows L2
def namesOf : PyData → List Str
  | .tuple [.str a, .str b] => [a, b]
  | _ => []
def areKy : PyData → Bool
  | .tuple ds => decide (1 ≤ ds.length) && (decide (ds.length ≤ 4) && (ds.all isKy && decide ((ds.map namesOf).Nodup)))
  | _ => false
def orNone : PyData → Bool
  | .none => true
  | d => isTx d
def areAn : PyData → Bool
  | .tuple ds => decide (1 ≤ ds.length) && (decide (ds.length ≤ 4) && ds.all orNone)
  | _ => false
def areAr : PyData → Bool
  | .tuple ds => decide (ds.length ≤ 4) && ds.all isTx
  | _ => false
def isIn : PyData → Bool
  | .int _ => true
  | _ => false
def isWord (z : Str) (d : PyData) : Bool := PyData.eqv d (.str z)
def isSt : PyData → Bool
  | .tuple [a, b] => isWord "read" a && areKy b
  | .tuple [a, b, c] => isWord "write" a && (isNm b && isTx c)
  | .tuple ds => PyData.eqv (.tuple ds) (.tuple [.str "stop"])
  | _ => false
def rowsOk : PyData → Bool
  | .tuple ds => ds.all areAn
  | _ => false
def posI : PyData → Bool
  | .int i => decide (0 ≤ i)
  | _ => false
def isPl : PyData → Bool
  | .tuple [r, a, s, c] => isTx r && (areAr a && (rowsOk s && posI c))
  | _ => false
theorem kyShape {d : PyData} (h : isKy d = true) : ∃ a b : Str, d = .tuple [.str a, .str b] := by
  unfold isKy at h
  split at h
  · rename_i a b
    rw [Bool.and_eq_true] at h
    cases a <;> simp [isNm] at h
    cases b <;> simp [isNm] at h
    exact ⟨_, _, rfl⟩
  · cases h
theorem txRow {K : PySem.W.Frag} {H : Hp} : ∀ {ds : List PyData} {xs : List V}, DpAll K H xs ds → ds.all isKy = true → S4.TxRow K H xs (ds.map namesOf)
  | _, _, .nil, _ => .nil
  | _, _, .cons h r, e => by
    rw [List.all_cons, Bool.and_eq_true] at e
    obtain ⟨a, b, rfl⟩ := kyShape e.1
    cases h with
    | tup hx hd =>
      cases hd with
      | cons h1 r1 =>
        cases r1 with
        | cons h2 r2 =>
          cases r2
          cases h1
          cases h2
          exact .cons (k := [a, b]) hx (txRow r e.2)
section
variable {P : Program} {w : World} {K : PySem.W.Frag} {mg : Str → Option Value} {base : Heap} {f : Addr} {fd : FuncData}
theorem scKeys : FnScope ["value", "key"] ["value"] (defScope sAreKeys) := ⟨rfl, rfl, rfl, by decide +kernel, rfl, by decide +kernel, by decide +kernel⟩
theorem okKeys {k n : Nat} (F : FnP K "are_keys" sAreKeys f fd) (B : Bn mg) (g1 : IntG mg "MOST_KEYS" 4) (Ky : Has P w K mg base (k + 3) "is_key" ["value"] (spIs K n isKy)) : FnOk P w K mg base CX0 (k + 4) f fd ["value"] (spIs K n areKy) := by
  obtain ⟨fN, fdN, gN, kN, bN, GN⟩ := Ky.ex
  refine F.ok scKeys (fun vs H Q E h => ?_) (fun cdv A outer s H vs Q E hr h => ?_)
  · obtain ⟨v, d, rfl, _⟩ := h
    rfl
  · obtain ⟨v, d, rfl, hd, od, q⟩ := h
    refine ⟨_, PSs.nox (pss_cons (ps_if (PW.pt (pw_or (pt_not (pt_val (pe_callB call_isi (by rfl) B.isi (by decide +kernel) (pa_cons (pv 0) (pa_cons (pe_bltn (v := .ty "tuple") (by rfl) B.tuple (by decide +kernel) rfl) pa_nil)))))
        (pw_or1 (pt_not (pt_chain op_le op_le pe_int (pe_callB call_len_seq (by rfl) B.len PySem.boot_len (pa_cons (pv 0) pa_nil)) (C8.pe_gc (by rfl) g1.gc)))))) (pss_one (ps_ret pe_bl)) pss_nil) (pss_one (ps_ret (pe_and (pe_callB (cr_all rfl) (by rfl) B.all (by decide +kernel) (pa_cons (pe_lc (own := [("key", 1)]) (g := gName 1) rfl scKeys.nd (pi_tup (pv 0)) (blkOk_by (N := ["value", "key"]) (sc := defScope sAreKeys) (by decide +kernel))
        (fun _ _ _ _ _ => pg_name (i := 1) scKeys.nd rfl (.inl rfl) (hf := .inr rfl)) (fun _ _ _ _ _ => pts_nil)
        (fun _ _ _ _ _ => pe_call GN hr (by rfl) gN kN bN .nil pass0 (pa_cons (pv 1) pa_nil))) pa_nil))
        (pe_one (pe_cmpR op_eq (S4.pe_lenSetT hr.units rfl (by rfl) B.len (by rfl) B.set (pv 0)) (pe_callB call_len_seq (by rfl) B.len PySem.boot_len (pa_cons (pv 0) pa_nil)) (nomark _))))))), ?_⟩
    refine ⟨v, rfl, v, .ty "tuple", _, _, _, rfl, .ty _, dpTy hd, dpKit hd (.inl rfl), _, rfl, ?_⟩
    cases od with
    | @tup n ds hl hod =>
      cases hd with
      | @tup a xs _ hx hds =>
        have el := dpLen hds
        have hq : ∀ H', Same H H' → ∀ b, areKy (.tuple ds) = b → Q (.bl b) H' := fun H' s' b e => e ▸ q H' s'
        refine iteF ⟨.ref a, rfl, a, xs, rfl, .inr hx, _, _, rfl, rfl, _, rfl, ?_⟩
        by_cases h1 : 1 ≤ ds.length
        · rw [if_pos (decide_eq_true (by omega : (1 : Int) ≤ (xs.length : Int)))]
          refine ⟨_, _, rfl, rfl, _, rfl, ?_⟩
          by_cases h2 : ds.length ≤ 4
          · rw [decide_eq_true (by omega : (xs.length : Int) ≤ 4)]
            refine iteF ?_
            have e1 : areKy (.tuple ds) = (ds.all isKy && decide ((ds.map namesOf).Nodup)) := by
              show (decide (1 ≤ ds.length) && (decide (ds.length ≤ 4) && (ds.all isKy && decide ((ds.map namesOf).Nodup)))) = _
              rw [decide_eq_true h1, decide_eq_true h2, Bool.true_and, Bool.true_and]
            refine ⟨.ref a, rfl, a, rfl, ⟨xs, hx⟩, fun D hD => ?_⟩
            refine lcAllT isKy hx hds (by omega) hD (fun v => rfl) (fun v d H1 hm s1 hd R hR => ?_) (fun H1 s1 e3 => ?_)
            · exact ⟨v, rfl, v, d, rfl, hd, (hod d hm).up (by omega), fun H2 s2 => hR H2 s2⟩
            · refine ⟨D, ds.map isKy, rfl, .inl (.inl e3), _, rfl, ?_⟩
              rw [show (ds.map isKy).all id = ds.all isKy by rw [List.all_map]; rfl]
              refine ite2 (fun e => ?_) (fun e => ?_)
              · refine ⟨.ref a, rfl, a, xs, _, rfl, sameTup s1 hx, txRow (dpAllSame s1 _ _ hds) e, by rw [List.length_map]; exact h2, fun m m1 m2 => ?_⟩
                refine ⟨.ref a, rfl, a, xs, rfl, .inr (sameTup s1 hx), rfl, ?_⟩
                rw [dInt]
                refine hq H1 s1 _ ?_
                rw [e1, e, Bool.true_and, decide_eq_decide, ← m2, List.length_map]
                omega
              · exact hq H1 s1 _ (by rw [e1, Bool.eq_false_iff.mpr e, Bool.false_and])
          · rw [decide_eq_false (by omega : ¬ (xs.length : Int) ≤ 4)]
            exact iteT (hq H (Same.refl H) _ (by show (decide (1 ≤ ds.length) && (decide (ds.length ≤ 4) && _)) = _; rw [decide_eq_false h2, Bool.false_and, Bool.and_false]))
        · rw [if_neg (by rw [decide_eq_true_eq]; omega)]
          exact ⟨_, rfl, iteT (hq H (Same.refl H) _ (by show (decide (1 ≤ ds.length) && _) = _; rw [decide_eq_false h1, Bool.false_and]))⟩
    | non => exact iteT (q H (Same.refl H))
    | bl => exact iteT (q H (Same.refl H))
    | int => exact iteT (q H (Same.refl H))
    | str => exact iteT (q H (Same.refl H))
theorem scAns : FnScope ["value", "answer"] ["value"] (defScope sAreAnswers) := ⟨rfl, rfl, rfl, by decide +kernel, rfl, by decide +kernel, by decide +kernel⟩
theorem okAns {k n : Nat} (F : FnP K "are_answers" sAreAnswers f fd) (B : Bn mg) (g1 : IntG mg "MOST_KEYS" 4) (Tx : Has P w K mg base (k + 1) "is_text" ["value"] (spIs K n isTx)) : FnOk P w K mg base CX0 (k + 2) f fd ["value"] (spIs K n areAn) := by
  obtain ⟨fN, fdN, gN, kN, bN, GN⟩ := Tx.ex
  refine F.ok scAns (fun vs H Q E h => ?_) (fun cdv A outer s H vs Q E hr h => ?_)
  · obtain ⟨v, d, rfl, _⟩ := h
    rfl
  · obtain ⟨v, d, rfl, hd, od, q⟩ := h
    refine ⟨_, PSs.nox (pss_cons (ps_if (PW.pt (pw_or (pt_not (pt_val (pe_callB call_isi (by rfl) B.isi (by decide +kernel) (pa_cons (pv 0) (pa_cons (pe_bltn (v := .ty "tuple") (by rfl) B.tuple (by decide +kernel) rfl) pa_nil)))))
        (pw_or1 (pt_not (pt_chain op_le op_le pe_int (pe_callB call_len_seq (by rfl) B.len PySem.boot_len (pa_cons (pv 0) pa_nil)) (C8.pe_gc (by rfl) g1.gc)))))) (pss_one (ps_ret pe_bl)) pss_nil) (pss_one (ps_ret (pe_callB (cr_all rfl) (by rfl) B.all (by decide +kernel) (pa_cons (pe_lc (own := [("answer", 1)]) (g := gName 1) rfl scAns.nd (pi_tup (pv 0)) (blkOk_by (N := ["value", "answer"]) (sc := defScope sAreAnswers) (by decide +kernel))
        (fun _ _ _ _ _ => pg_name (i := 1) scAns.nd rfl (.inl rfl) (hf := .inr rfl)) (fun _ _ _ _ _ => pts_nil)
        (fun _ _ _ _ _ => pe_or (pe_cmpR op_isN (pv 1) pe_non (nomark _)) (pe_one (pe_call GN hr (by rfl) gN kN bN .nil pass0 (pa_cons (pv 1) pa_nil))))) pa_nil))))), ?_⟩
    refine ⟨v, rfl, v, .ty "tuple", _, _, _, rfl, .ty _, dpTy hd, dpKit hd (.inl rfl), _, rfl, ?_⟩
    cases od with
    | @tup n ds hl hod =>
      cases hd with
      | @tup a xs _ hx hds =>
        have el := dpLen hds
        have hq : ∀ H', Same H H' → ∀ b, areAn (.tuple ds) = b → Q (.bl b) H' := fun H' s' b e => e ▸ q H' s'
        refine iteF ⟨.ref a, rfl, a, xs, rfl, .inr hx, _, _, rfl, rfl, _, rfl, ?_⟩
        by_cases h1 : 1 ≤ ds.length
        · rw [if_pos (decide_eq_true (by omega : (1 : Int) ≤ (xs.length : Int)))]
          refine ⟨_, _, rfl, rfl, _, rfl, ?_⟩
          by_cases h2 : ds.length ≤ 4
          · rw [decide_eq_true (by omega : (xs.length : Int) ≤ 4)]
            refine iteF ?_
            refine ⟨.ref a, rfl, a, rfl, ⟨xs, hx⟩, fun D hD => ?_⟩
            refine lcAllT orNone hx hds (by omega) hD (fun v => rfl) (fun v d H1 hm s1 hd R hR => ?_) (fun H1 s1 e3 => ?_)
            · refine ⟨v, rfl, rfl, _, rfl, ?_⟩
              have od2 : Od (n + 1) d := (hod d hm).up (by omega)
              by_cases hn : v = .non
              · subst hn
                cases hd
                exact iteT (hR H1 (Same.refl _))
              · rw [decide_eq_false hn]
                refine iteF ⟨v, rfl, v, d, rfl, hd, od2, fun H2 s2 => ?_⟩
                have := hR H2 s2
                cases hd with
                | non => exact absurd rfl hn
                | _ => exact this
            · refine ⟨D, ds.map orNone, rfl, .inl (.inl e3), ?_⟩
              rw [show (ds.map orNone).all id = ds.all orNone by rw [List.all_map]; rfl]
              refine hq H1 s1 _ ?_
              show (decide (1 ≤ ds.length) && (decide (ds.length ≤ 4) && ds.all orNone)) = _
              rw [decide_eq_true h1, decide_eq_true h2, Bool.true_and, Bool.true_and]
          · rw [decide_eq_false (by omega : ¬ (xs.length : Int) ≤ 4)]
            exact iteT (hq H (Same.refl H) _ (by show (decide (1 ≤ ds.length) && (decide (ds.length ≤ 4) && _)) = _; rw [decide_eq_false h2, Bool.false_and, Bool.and_false]))
        · rw [if_neg (by rw [decide_eq_true_eq]; omega)]
          exact ⟨_, rfl, iteT (hq H (Same.refl H) _ (by show (decide (1 ≤ ds.length) && _) = _; rw [decide_eq_false h1, Bool.false_and]))⟩
    | non => exact iteT (q H (Same.refl H))
    | bl => exact iteT (q H (Same.refl H))
    | int => exact iteT (q H (Same.refl H))
    | str => exact iteT (q H (Same.refl H))
theorem scInt : FnScope ["value"] ["value"] (defScope sInteger) := ⟨rfl, rfl, rfl, by decide +kernel, rfl, by decide +kernel, by decide +kernel⟩
theorem okInt {k n : Nat} (F : FnP K "is_integer" sInteger f fd) (B : Bn mg) : FnOk P w K mg base CX0 (k + 1) f fd ["value"] (spIs K n isIn) := by
  refine F.ok scInt (fun vs H Q E h => ?_) (fun cdv A outer s H vs Q E hr h => ?_)
  · obtain ⟨v, d, rfl, _⟩ := h
    rfl
  · obtain ⟨v, d, rfl, hd, od, q⟩ := h
    refine ⟨_, PSs.nox (pss_one (ps_ret (pe_and (pe_callB call_isi (by rfl) B.isi (by decide +kernel) (pa_cons (pv 0) (pa_cons (pe_bltn (v := .ty "int") (by rfl) B.int (by decide +kernel) rfl) pa_nil)))
      (pe_one (pe_not (pe_callB call_isi (by rfl) B.isi (by decide +kernel) (pa_cons (pv 0) (pa_cons (pe_bltn (v := .ty "bool") (by rfl) B.bool (by decide +kernel) rfl) pa_nil)))))))), ?_⟩
    refine ⟨v, rfl, v, .ty "int", _, _, _, rfl, .ty _, dpTy hd, dpKit hd (.inr (.inr (.inl rfl))), _, rfl, ?_⟩
    have k2 := @dpKit K H v d hd "bool" (.inr (.inr (.inr (.inl rfl))))
    have t2 := dpTy hd
    cases od with
    | int => exact iteT ⟨v, rfl, v, .ty "bool", _, _, _, rfl, .ty _, t2, k2, _, rfl, q H (Same.refl H)⟩
    | bl => exact iteT ⟨v, rfl, v, .ty "bool", _, _, _, rfl, .ty _, t2, k2, _, rfl, q H (Same.refl H)⟩
    | non => exact iteF (q H (Same.refl H))
    | str => exact iteF (q H (Same.refl H))
    | tup => exact iteF (q H (Same.refl H))
end
end KS

set_option Elab.async false
set_option linter.all false
set_option maxRecDepth 100000
set_option maxHeartbeats 4000000
namespace KS.La
open PySem PySem.Spec PyProof.Rows L2
/-! ### the feed -/
/-- all but the list at f stands -/
def Kp (f : Addr) (H H' : Hp) : Prop := ∀ b o, b ≠ f → H b = some o → H' b = some o
def Fd (H : Hp) (f : Addr) : Prop := ∃ x y : Int, H f = some (.lst [.int x, .int y]) ∧ 0 ≤ x ∧ 0 ≤ y
theorem Kp.refl (f : Addr) (H : Hp) : Kp f H H := fun _ _ _ h => h
theorem Kp.trans {f : Addr} {H H1 H2 : Hp} (a : Kp f H H1) (b : Kp f H1 H2) : Kp f H H2 := fun c o n h => b c o n (a c o n h)
theorem Kp.put {f : Addr} {H : Hp} {o : HO} : Kp f H (upd H f o) := fun b u n h => by
  rw [upd_ne n]
  exact h
theorem Kp.new {f p : Addr} {H : Hp} {o : HO} (h : H p = none) : Kp f H (upd H p o) := fun b u _ e => by
  rw [upd_ne (ne_of_none e h)]
  exact e
theorem Kp.same {f : Addr} {H H' : Hp} (s : Same H H') : Kp f H H' := fun b o _ h => s b o h
theorem Fd.same {f : Addr} {H H' : Hp} (s : Same H H') : Fd H f → Fd H' f := fun ⟨x, y, h, a, b⟩ => ⟨x, y, s _ _ h, a, b⟩
theorem Fd.new {f p : Addr} {H : Hp} {o : HO} (h : H p = none) (e : Fd H f) : Fd (upd H p o) f := e.same (sameUpd h)
theorem Fd.put {f : Addr} {H : Hp} {x y : Int} (hx : 0 ≤ x) (hy : 0 ≤ y) : Fd (upd H f (.lst [.int x, .int y])) f := ⟨x, y, upd_same, hx, hy⟩
/-! ### promises -/
def spFeed (K : PySem.W.Frag) : Sp := fun vs H Q _ => ∃ (a : Addr) (ns : List Int) (k : Int), vs = [.ref a, .int k] ∧ SqL K H a (ns.map V.int) ∧ ns.length ≤ 63 ∧ 0 ≤ k ∧ k < 1000 ∧ ∀ p H', Same H H' → H p = none → Fd H' p → Q (.ref p) H'
def spDraw : Sp := fun vs H Q _ => ∃ (f : Addr) (n : Int), vs = [.ref f, .int n] ∧ Fd H f ∧ 0 < n ∧ n < 1000000 ∧ ∀ (r : Int) H', 0 ≤ r → r < n → Kp f H H' → Fd H' f → Q (.int r) H'
def spPick (K : PySem.W.Frag) : Sp := fun vs H Q _ => ∃ (f l : Addr) (xs : List V), vs = [.ref f, .ref l] ∧ Fd H f ∧ SqL K H l xs ∧ l ≠ f ∧ 0 < xs.length ∧ xs.length < 1000 ∧ ∀ (i : Nat) (v : V) H', xs[i]? = some v → Kp f H H' → Fd H' f → Q v H'
def spCalls : Sp := fun vs H Q _ => vs = [] ∧ ∀ p, H p = none → Q (.ref p) (upd H p (.lst [.str "make", .str "", .str "r 2", .str "Mend!", .str "m"]))
/-- what the law calls a line -/
def lineOk (z : Str) : Bool := decide (z.length ≤ 400) && !decide (10 ∈ z.cps.toList)
/-- drawn texts are texts -/
def TOk (z : Str) : Prop := SOk z ∧ z.length ≤ 1000 ∧ okT z = true
instance (z : Str) : Decidable (TOk z) := by unfold TOk SOk; infer_instance
theorem lineOfT {z : Str} (h : okT z = true) : lineOk z = true := by
  unfold okT at h
  unfold lineOk
  rw [Bool.and_eq_true] at h ⊢
  refine ⟨h.1, ?_⟩
  rw [Bool.not_eq_true', decide_eq_false_iff_not]
  intro hm
  have := List.all_eq_true.mp h.2 10 hm
  exact absurd this (by decide)
theorem sokFold : ∀ (l : List (Array Nat)) (a : Array Nat), a.all (· < 0x110000) = true → (∀ b ∈ l, b.all (· < 0x110000) = true) → (l.foldl (· ++ ·) a).all (· < 0x110000) = true
  | [], _, h, _ => h
  | b :: l, a, h, k => sokFold l (a ++ b) (by rw [Array.all_append, h, k b (List.mem_cons_self ..)]; rfl) fun c hc => k c (List.mem_cons_of_mem _ hc)
theorem sokMul {z : Str} {n : Int} (h : SOk z) : SOk (Txt.mul z n) := by
  unfold Txt.mul
  split
  · (show Str.empty.cps.all (· < 0x110000) = true; decide +kernel)
  · split
    · exact h
    · exact sokFold _ #[] (by simp) fun b hb => by rw [List.eq_of_mem_replicate hb]; exact h
theorem allFold (p : Nat → Bool) : ∀ (l : List (Array Nat)) (a : Array Nat), a.all p = true → (∀ b ∈ l, b.all p = true) → (l.foldl (· ++ ·) a).all p = true
  | [], _, h, _ => h
  | b :: l, a, h, k => allFold p l (a ++ b) (by rw [Array.all_append, h, k b (List.mem_cons_self ..)]; rfl) fun c hc => k c (List.mem_cons_of_mem _ hc)
theorem allMul (p : Nat → Bool) {z : Str} {n : Int} (h : z.cps.all p = true) : (Txt.mul z n).cps.all p = true := by
  unfold Txt.mul
  split
  · show (#[] : Array Nat).all p = true
    simp
  · split
    · exact h
    · exact allFold p _ #[] (by simp) fun b hb => by rw [List.eq_of_mem_replicate hb]; exact h
theorem tokMul {z : Str} {n : Int} {c : Nat} (h : SOk z) (e : z = ⟨#[c]⟩) (m : n ≤ 400) (hc : signOk c = true) : TOk (Txt.mul z n) := by
  have hl := len_mul_one (N := 400) e m
  have ht : okT (Txt.mul z n) = true := by
    unfold okT
    rw [Bool.and_eq_true]
    refine ⟨decide_eq_true hl, ?_⟩
    have := allMul signOk (z := z) (n := n) (by rw [e]; simpa using hc)
    rw [← Array.all_toList] at this
    exact this
  exact ⟨sokMul h, by omega, ht⟩
def spText : Sp := fun vs H Q _ => ∃ f : Addr, vs = [.ref f] ∧ Fd H f ∧ ∀ (z : Str) H', TOk z → Kp f H H' → Fd H' f → Q (.str z) H'
section
variable {P : Program} {w : World} {K : PySem.W.Frag} {mg : Str → Option Value} {base : Heap} {f : Addr} {fd : FuncData}
theorem scFeed : FnScope ["_law_script", "_law_k", "_law_cell", "_law_great"] ["_law_script", "_law_k"] (defScope lFeed) := ⟨rfl, rfl, rfl, by decide +kernel, rfl, by decide +kernel, by decide +kernel⟩
theorem seqNat {ns : List Int} {k : Int} (h0 : 0 ≤ k) (h : k < (ns.length : Int)) : ∃ n : Int, atI (ns.map V.int) k = some (.int n) := by
  obtain ⟨j, rfl⟩ : ∃ j : Nat, k = (j : Int) := ⟨k.toNat, by omega⟩
  have hj : j < ns.length := by omega
  refine ⟨ns[j], atI_nat ?_⟩
  rw [List.getElem?_map, List.getElem?_eq_getElem hj]
  rfl
theorem okFeed {k : Nat} (F : FnP K "_law_feed_of" lFeed f fd) (ml : mg "len" = none) : FnOk P w K mg base CX0 (k + 1) f fd ["_law_script", "_law_k"] (spFeed K) := by
  refine F.ok scFeed (fun vs H Q E h => ?_) (fun cdv A outer s H vs Q E hr h => ?_)
  · obtain ⟨a, ns, k, rfl, _⟩ := h
    rfl
  · obtain ⟨a, ns, n, rfl, hS, hlen, hn0, hn1, q⟩ := h
    refine ⟨_, PSs.nox (pss_cons (ps_set (i := 2) scFeed.nd rfl (.inl rfl) (pe_op op_add (pe_op op_mul pe_int (pv 1)) pe_int))
      (C8.pss_cut (ps_if (pt_cmpR op_lt (pv 1) (pe_callB call_len_seq (by rfl) ml PySem.boot_len (pa_cons (pv 0) pa_nil)) (nomark _)) (pss_one (ps_set (i := 2) scFeed.nd rfl (.inl rfl) (pe_ix ix_list (pv 0) (pv 1) (fun _ _ => rfl)))) pss_nil)
      (C8.pss_cut (ps_if (pt_cmpR op_lt (pv 2) pe_int (nomark _)) (pss_one (ps_set (i := 2) scFeed.nd rfl (.inl rfl) (pe_op op_sub pe_int (pe_op op_mul pe_int (pv 2))))) pss_nil)
      (C8.pss_cut (ps_set (i := 3) scFeed.nd rfl (.inl rfl) (pe_ifExp (pt_cmpR op_ge (pv 2) (pe_op op_pow pe_int pe_int) (nomark _)) (pv 2) pe_int))
      (pss_one (ps_ret (pe_lst (pa_cons (pv 3) (pa_cons (pe_op op_add (pe_op op_add (pe_op op_mod (pv 2) pe_int) (pe_op op_mul pe_int (pv 1))) pe_int) pa_nil))))))))), ?_⟩
    refine ⟨.int n, rfl, 9029, n, rfl, rfl, .inl ⟨by decide, by decide⟩, 9029 * n, 31, rfl, rfl, ?_⟩
    refine ⟨fun σ' H' => H' = H ∧ ∃ c : Int, σ' = [some (.ref a), some (.int n), some (.int c), none], ?_, ?_⟩
    · refine ⟨.int n, rfl, .ref a, rfl, a, _, rfl, .inl hS, n, _, rfl, rfl, _, rfl, ite2 (fun e => ?_) (fun _ => ?_)⟩
      · have e1 : n < ((ns.map V.int).length : Int) := of_decide_eq_true e
        rw [List.length_map] at e1
        obtain ⟨c, hc⟩ := seqNat hn0 e1
        exact ⟨.ref a, rfl, .int n, rfl, a, _, n, _, rfl, rfl, hS, hc, rfl, c, rfl⟩
      · exact ⟨rfl, _, rfl⟩
    rintro σ' H' ⟨rfl, c, rfl⟩
    refine ⟨fun σ' H2 => H2 = H' ∧ ∃ c : Int, 0 ≤ c ∧ σ' = [some (.ref a), some (.int n), some (.int c), none], ?_, ?_⟩
    · refine ⟨.int c, rfl, c, 0, rfl, rfl, _, rfl, ite2 (fun e => ?_) (fun e => ?_)⟩
      · have e1 : c < 0 := of_decide_eq_true e
        exact ⟨.int c, rfl, 7, c, rfl, rfl, .inl ⟨by decide, by decide⟩, 5, 7 * c, rfl, rfl, rfl, 5 - 7 * c, by omega, rfl⟩
      · have e1 : ¬ c < 0 := fun z => e (decide_eq_true z)
        exact ⟨rfl, c, by omega, rfl⟩
    rintro σ' H2 ⟨rfl, d, hd, rfl⟩
    refine ⟨fun σ' H3 => H3 = H2 ∧ ∃ g : Int, 0 ≤ g ∧ σ' = [some (.ref a), some (.int n), some (.int d), some (.int g)], ?_, ?_⟩
    · refine ⟨.int d, rfl, 10, 18, rfl, rfl, ⟨by decide, by decide, by decide⟩, d, _, rfl, rfl, _, rfl, ite2 (fun _ => ?_) (fun _ => ?_)⟩
      · exact ⟨.int d, rfl, rfl, d, hd, rfl⟩
      · exact ⟨rfl, 0, by decide, rfl⟩
    rintro σ' H3 ⟨rfl, g, hg, rfl⟩
    refine ⟨.int g, rfl, .int d, rfl, d, 1000003, rfl, rfl, (by show (0 : Int) < 1000003; decide), .int n, rfl, 11, n, rfl, rfl, .inl ⟨by decide, by decide⟩, _, _, rfl, rfl, _, _, rfl, rfl, (by show 2 ≤ sizeLine; decide), fun p hp => ?_⟩
    refine q p _ (sameUpd hp) hp ⟨_, _, upd_same, hg, ?_⟩
    have := Int.emod_nonneg d (show (1000003 : Int) ≠ 0 by decide)
    omega
theorem scDraw : FnScope ["_law_feed", "_law_many", "_law_digit"] ["_law_feed", "_law_many"] (defScope lDraw) := ⟨rfl, rfl, rfl, by decide +kernel, rfl, by decide +kernel, by decide +kernel⟩
theorem okDraw {k : Nat} (F : FnP K "_law_draw" lDraw f fd) : FnOk P w K mg base CX0 (k + 1) f fd ["_law_feed", "_law_many"] spDraw := by
  refine F.ok scDraw (fun vs H Q E h => ?_) (fun cdv A outer s H vs Q E hr h => ?_)
  · obtain ⟨a, n, rfl, _⟩ := h
    rfl
  · obtain ⟨a, n, rfl, ⟨x, y, hf, hx, hy⟩, hn0, hn1, q⟩ := h
    have hS : ∀ {x y : Int} {H : Hp}, H a = some (.lst [.int x, .int y]) → SqL K H a [.int x, .int y] := fun h => .inl (.inl h)
    refine ⟨_, PSs.nox (pss_cons (ps_if (pt_cmpR op_gt (pe_ix ix_list (pv 0) pe_int (fun _ _ => rfl)) pe_int (nomark _))
        (pss_cons (ps_set (i := 2) scDraw.nd rfl (.inl rfl) (pe_op op_modN (pe_ix ix_list (pv 0) pe_int (fun _ _ => rfl)) (pv 1)))
        (pss_cons (ps_asg (pe_op op_fdivN (pe_ix ix_list (pv 0) pe_int (fun _ _ => rfl)) (pv 1)) (pg_sub (pv 0) pe_int set_list))
        (pss_one (ps_ret (pv 2))))) pss_nil)
      (pss_cons (ps_asg (pe_op op_mod (pe_op op_add (pe_op op_mul (pe_ix ix_list (pv 0) pe_int (fun _ _ => rfl)) pe_int) pe_int) pe_int) (pg_sub (pv 0) pe_int set_list))
      (pss_one (ps_ret (pe_op op_modN (pe_op op_fdiv (pe_ix ix_list (pv 0) pe_int (fun _ _ => rfl)) pe_int) (pv 1)))))), ?_⟩
    refine ⟨.ref a, rfl, a, _, 0, .int x, rfl, rfl, hS hf, atI_nat (j := 0) rfl, x, 0, rfl, rfl, _, rfl, ite2 (fun e => ?_) (fun e => ?_)⟩
    · refine ⟨.ref a, rfl, a, _, 0, .int x, rfl, rfl, hS hf, atI_nat (j := 0) rfl, .int n, rfl, x, n, rfl, rfl, (by show n ≠ 0; omega), ?_⟩
      refine ⟨.ref a, rfl, a, _, 0, .int x, rfl, rfl, hS hf, atI_nat (j := 0) rfl, .int n, rfl, x, n, rfl, rfl, ⟨(by omega), (by omega)⟩, ?_⟩
      refine ⟨.ref a, rfl, a, _, _, 0, rfl, rfl, hf, rfl, ?_⟩
      refine ⟨_, rfl, ?_⟩
      show Q (.int (x.fmod n)) (upd H a (.lst [.int (x.fdiv n), .int y]))
      rw [Int.fmod_eq_emod_of_nonneg x (by omega), Int.fdiv_eq_ediv_of_nonneg x (by omega)]
      exact q (x % n) _ (Int.emod_nonneg x (by omega)) (Int.emod_lt_of_pos x hn0) Kp.put (Fd.put (Int.ediv_nonneg hx (by omega)) hy)
    · refine ⟨.ref a, rfl, a, _, 1, .int y, rfl, rfl, hS hf, atI_nat (j := 1) rfl, y, 48271, rfl, rfl, .inr ⟨by decide, by decide⟩, _, 11, rfl, rfl, _, 2147483647, rfl, rfl, (by show (0 : Int) < 2147483647; decide), ?_⟩
      refine ⟨.ref a, rfl, a, _, _, 1, rfl, rfl, hf, rfl, ?_⟩
      have hm := Int.emod_nonneg (y * 48271 + 11) (show (2147483647 : Int) ≠ 0 by decide)
      refine ⟨.ref a, rfl, a, [.int x, .int ((y * 48271 + 11) % 2147483647)], 1, .int ((y * 48271 + 11) % 2147483647), rfl, rfl, hS upd_same, atI_nat (j := 1) rfl, (y * 48271 + 11) % 2147483647, 127, rfl, rfl, ⟨by decide, by decide⟩, ?_⟩
      refine ⟨.int n, rfl, _, n, rfl, rfl, (by show n ≠ 0; omega), ?_⟩
      show Q (.int (((y * 48271 + 11) % 2147483647 / 127).fmod n)) (upd H a (.lst [.int x, .int ((y * 48271 + 11) % 2147483647)]))
      rw [Int.fmod_eq_emod_of_nonneg _ (by omega)]
      exact q _ _ (Int.emod_nonneg _ (by omega)) (Int.emod_lt_of_pos _ hn0) Kp.put (Fd.put hx hm)
theorem scPick : FnScope ["_law_feed", "_law_items"] ["_law_feed", "_law_items"] (defScope lPick) := ⟨rfl, rfl, rfl, by decide +kernel, rfl, by decide +kernel, by decide +kernel⟩
theorem okPick {k : Nat} (F : FnP K "_law_pick" lPick f fd) (ml : mg "len" = none) (D : Has P w K mg base (k + 1) "_law_draw" ["_law_feed", "_law_many"] spDraw) : FnOk P w K mg base CX0 (k + 2) f fd ["_law_feed", "_law_items"] (spPick K) := by
  obtain ⟨fD, fdD, gD, kD, bD, GD⟩ := D.ex
  refine F.ok scPick (fun vs H Q E h => ?_) (fun cdv A outer s H vs Q E hr h => ?_)
  · obtain ⟨a, l, xs, rfl, _⟩ := h
    rfl
  · obtain ⟨a, l, xs, rfl, hF, hL, ne, h0, h1, q⟩ := h
    refine ⟨_, PSs.nox (pss_one (ps_ret (pe_ix ix_list (pv 1) (pe_call GD hr (by rfl) gD kD bD .nil pass0 (pa_cons (pv 0) (pa_cons (pe_callB call_len_seq (by rfl) ml PySem.boot_len (pa_cons (pv 1) pa_nil)) pa_nil))) (fun _ _ => rfl)))), ?_⟩
    refine ⟨.ref l, rfl, .ref a, rfl, .ref l, rfl, l, xs, rfl, .inl hL, ?_⟩
    refine ⟨a, (xs.length : Int), rfl, hF, by omega, by omega, fun r H' r0 r1 kp fd' => ?_⟩
    obtain ⟨j, rfl⟩ : ∃ j : Nat, r = (j : Int) := ⟨r.toNat, by omega⟩
    have hj : j < xs.length := by omega
    have hv : xs[j]? = some xs[j] := List.getElem?_eq_getElem hj
    have hL' : SqL K H' l xs := by
      rcases hL with (h | ⟨o, h⟩) | h
      · exact .inl (.inl (kp _ _ ne h))
      · exact .inl (.inr ⟨o, kp _ _ ne h⟩)
      · exact .inr h
    exact ⟨l, xs, _, _, rfl, rfl, hL', atI_nat hv, q j _ H' hv kp fd'⟩
theorem scCalls : FnScope [] [] (defScope lCalls) := ⟨rfl, rfl, rfl, by decide +kernel, rfl, by decide +kernel, by decide +kernel⟩
theorem okCalls {k : Nat} (F : FnP K "_law_calls" lCalls f fd) : FnOk P w K mg base CX0 (k + 1) f fd [] spCalls := by
  refine F.ok scCalls (fun vs H Q E h => ?_) (fun cdv A outer s H vs Q E hr h => ?_)
  · obtain ⟨rfl, _⟩ := h
    rfl
  · obtain ⟨rfl, q⟩ := h
    refine ⟨_, PSs.nox (pss_one (ps_ret (pe_lst (pa_cons pe_str (pa_cons pe_str (pa_cons pe_str (pa_cons pe_str (pa_cons pe_str pa_nil)))))))), ?_⟩
    exact ⟨(by show 5 ≤ sizeLine; decide), fun p hp => q p hp⟩
/-- z * n, z one sign -/
def rRepX : R2 := fun x y H Q => ∃ (z : Str) (n : Int), x = .str z ∧ y = .int n ∧ z.length = 1 ∧ 0 ≤ n ∧ n ≤ 1000 ∧ Q (.str (Txt.mul z n)) H
theorem opRepX {X : Cx} : OpR X (binaryOp .Mult) rRepX := by
  intro pins s σ H x y v u Q I rx ry h
  obtain ⟨z, n, rfl, rfl, hz, h0, h1, q⟩ := h
  obtain ⟨t, rfl⟩ := rx
  obtain ⟨t', rfl⟩ := ry
  refine SB.mul ⟨?_, fun g _ => ?_, fun _ _ => ?_⟩ fun t2 k => ⟨.str (Txt.mul z n), H, I.tok k, ⟨t2, rfl⟩, q⟩
  · simp
    omega
  · rw [hz]
    have hn : 0 < n := by omega
    have hle : (1 : Int) ≤ (2 ^ 63 - 1) / n := by
      rw [Int.le_ediv_iff_mul_le hn]
      omega
    show ¬ ((1 : Nat) : Int) > (2 ^ 63 - 1) / n
    omega
  · rw [hz]
    unfold Builtin.Str.tooLong
    rw [decide_eq_false_iff_not, sizeLine_eq]
    omega
theorem scTxt : FnScope ["_law_feed", "_law_form", "_law_many"] ["_law_feed"] (defScope lText) := ⟨rfl, rfl, rfl, by decide +kernel, rfl, by decide +kernel, by decide +kernel⟩
theorem okTxt {k : Nat} (F : FnP K "_law_some_text" lText f fd) (D : Has P w K mg base (k + 1) "_law_draw" ["_law_feed", "_law_many"] spDraw) (Pk : Has P w K mg base (k + 2) "_law_pick" ["_law_feed", "_law_items"] (spPick K))
    (Ca : Has P w K mg base (k + 1) "_law_calls" [] spCalls) : FnOk P w K mg base CX0 (k + 3) f fd ["_law_feed"] spText := by
  obtain ⟨fD, fdD, gD, kD, bD, GD⟩ := D.ex
  obtain ⟨fP, fdP, gP, kP, bP, GP⟩ := Pk.ex
  obtain ⟨fC, fdC, gC, kC, bC, GC⟩ := Ca.ex
  refine F.ok scTxt (fun vs H Q E h => ?_) (fun cdv A outer s H vs Q E hr h => ?_)
  · obtain ⟨a, rfl, _⟩ := h
    rfl
  · obtain ⟨a, rfl, hF, q⟩ := h
    have hr1 : Room (k + 1) _ := hr.mono (by omega)
    refine ⟨_, PSs.nox (pss_cons (ps_set (i := 1) scTxt.nd rfl (.inl rfl) (pe_call GD hr1 (by rfl) gD kD bD .nil pass0 (pa_cons (pv 0) (pa_cons (pe_int) pa_nil)))) (pss_cons (ps_if (pt_cmpR op_eq (pv 1) pe_int (nomark _)) (pss_one (ps_ret (pe_call GP hr (by rfl) gP kP bP .nil pass0 (pa_cons (pv 0) (pa_cons (pe_call0 GC hr1 (by rfl) gC kC bC .nil pass0) pa_nil))))) pss_nil) (pss_cons (ps_if (pt_cmpR op_eq (pv 1) pe_int (nomark _))
        (pss_cons (ps_set (i := 2) scTxt.nd rfl (.inl rfl) (pe_ix ix_list (pe_lst (pa_cons (pe_op op_add pe_int (pe_call GD hr1 (by rfl) gD kD bD .nil pass0 (pa_cons (pv 0) (pa_cons (pe_int) pa_nil)))) (pa_cons (pe_int) pa_nil)))
          (pe_op op_fdiv (pe_call GD hr1 (by rfl) gD kD bD .nil pass0 (pa_cons (pv 0) (pa_cons (pe_int) pa_nil))) pe_int) (fun _ _ => rfl))) (pss_one (ps_ret (pe_call GP hr (by rfl) gP kP bP .nil pass0 (pa_cons (pv 0) (pa_cons (pe_lst (pa_cons (pe_str) (pa_cons (pe_str) (pa_cons (pe_str) (pa_cons (pe_str) (pa_cons (pe_str) (pa_cons (pe_op opRepX pe_str (pv 2)) (pa_cons (pe_str) (pa_cons (pe_str) (pa_cons (pe_str) (pa_cons (pe_str) pa_nil))))))))))) pa_nil)))))) pss_nil) (pss_one (ps_ret (pe_ix ix_list (pe_lst (pa_cons (pe_str) (pa_cons (pe_str) (pa_cons (pe_str) (pa_cons (pe_str) (pa_cons (pe_str) (pa_cons (pe_str) pa_nil))))))) (pv 1) (fun _ _ => rfl))))))), ?_⟩
    have neF : ∀ {H : Hp} {p : Addr}, Fd H a → H p = none → p ≠ a := fun ⟨x, y, e, _⟩ hp z => by
      rw [z, e] at hp
      cases hp
    refine ⟨.ref a, rfl, a, 8, rfl, hF, by decide, by decide, fun r H1 r0 r1 k1 F1 => ?_⟩
    refine ⟨.int r, rfl, rfl, _, rfl, ite2 (fun e => ?_) (fun e7 => ?_)⟩
    · -- the names of calls
      refine ⟨.ref a, rfl, rfl, fun p hp => ?_⟩
      refine ⟨a, p, _, rfl, F1.new hp, .inl (.inl upd_same), neF F1 hp, by decide, by decide, fun i v H2 hv k2 F2 => ?_⟩
      have kk : Kp a H H2 := (k1.trans (Kp.new hp)).trans k2
      match i, hv with
      | 0, hv => cases hv; exact q _ H2 (by decide +kernel) kk F2
      | 1, hv => cases hv; exact q _ H2 (by decide +kernel) kk F2
      | 2, hv => cases hv; exact q _ H2 (by decide +kernel) kk F2
      | 3, hv => cases hv; exact q _ H2 (by decide +kernel) kk F2
      | 4, hv => cases hv; exact q _ H2 (by decide +kernel) kk F2
    refine ⟨.int r, rfl, rfl, _, rfl, ite2 (fun e => ?_) (fun e6 => ?_)⟩
    · -- one of ten
      refine ⟨.ref a, rfl, a, 90, rfl, F1, by decide, by decide, fun r2 H2 r20 r21 k2 F2 => ⟨1, r2, rfl, rfl, ?_⟩⟩
      refine ⟨(by show 2 ≤ sizeLine; decide), fun p hp => ?_⟩
      refine ⟨.ref a, rfl, a, 7, rfl, F2.new hp, by decide, by decide, fun r3 H3 r30 r31 k3 F3 => ⟨r3, 6, rfl, rfl, ⟨by decide, by decide⟩, ?_⟩⟩
      have hp3 : H3 p = some (.lst [.int (1 + r2), .int 400]) := k3 _ _ (neF F2 hp) upd_same
      obtain ⟨m, hm, m0, m1⟩ : ∃ m : Int, atI [V.int (1 + r2), .int 400] (r3 / 6) = some (.int m) ∧ 0 ≤ m ∧ m ≤ 400 := by
        by_cases hz : r3 < 6
        · have e0 : r3 / 6 = 0 := by omega
          rw [e0]
          exact ⟨1 + r2, rfl, by omega, by omega⟩
        · have e0 : r3 / 6 = 1 := by omega
          rw [e0]
          exact ⟨400, rfl, by decide, by decide⟩
      refine ⟨p, _, _, .int m, rfl, rfl, .inl (.inl hp3), hm, ?_⟩
      refine ⟨.ref a, rfl, .int m, rfl, _, m, rfl, rfl, rfl, m0, (by omega), (by show 10 ≤ sizeLine; decide), fun p2 hp2 => ?_⟩
      refine ⟨a, p2, _, rfl, F3.new hp2, .inl (.inl upd_same), neF F3 hp2, (by show 0 < 10; decide), (by show 10 < 1000; decide), fun i v H4 hv k4 F4 => ?_⟩
      have kk : Kp a H H4 := ((((k1.trans k2).trans (Kp.new hp)).trans k3).trans (Kp.new hp2)).trans k4
      match i, hv with
      | 0, hv => cases hv; exact q _ H4 (by decide +kernel) kk F4
      | 1, hv => cases hv; exact q _ H4 (by decide +kernel) kk F4
      | 2, hv => cases hv; exact q _ H4 (by decide +kernel) kk F4
      | 3, hv => cases hv; exact q _ H4 (by decide +kernel) kk F4
      | 4, hv => cases hv; exact q _ H4 (by decide +kernel) kk F4
      | 5, hv => cases hv; exact q _ H4 (tokMul (c := 120) (by unfold SOk; decide +kernel) (by decide +kernel) m1 (by decide +kernel)) kk F4
      | 6, hv => cases hv; exact q _ H4 (by decide +kernel) kk F4
      | 7, hv => cases hv; exact q _ H4 (by decide +kernel) kk F4
      | 8, hv => cases hv; exact q _ H4 (by decide +kernel) kk F4
      | 9, hv => cases hv; exact q _ H4 (by decide +kernel) kk F4
    · have n7 : r ≠ 7 := fun z => e7 (by rw [z]; rfl)
      have n6 : r ≠ 6 := fun z => e6 (by rw [z]; rfl)
      refine ⟨(by show 6 ≤ sizeLine; decide), fun p hp => ?_⟩
      obtain ⟨z, sz, hz⟩ : ∃ z : Str, TOk z ∧ atI [V.str "0", .str "1", .str "0", .str "1", .str "", .str "10"] r = some (.str z) := by
        have hc : r = 0 ∨ r = 1 ∨ r = 2 ∨ r = 3 ∨ r = 4 ∨ r = 5 := by omega
        rcases hc with h | h | h | h | h | h <;> (rw [h]; first | exact ⟨"0", by decide +kernel, rfl⟩ | exact ⟨"1", by decide +kernel, rfl⟩ | exact ⟨"", by decide +kernel, rfl⟩ | exact ⟨"10", by decide +kernel, rfl⟩)
      exact ⟨.int r, rfl, p, _, _, .str z, rfl, rfl, .inl (.inl upd_same), hz, q z _ sz (k1.trans (Kp.new hp)) (F1.new hp)⟩
end
/-! ### values that are alike -/
inductive Fl : V → String → Prop
  | non : Fl .non "NoneType"
  | bl (b : Bool) : Fl (.bl b) "bool"
  | int (i : Int) : Fl (.int i) "int"
  | str (z : Str) : Fl (.str z) "str"
section
variable {K : PySem.W.Frag} {H : Hp}
theorem Fl.tyX {v : V} {t : String} (h : Fl v t) : TyX K H v (.type t) := by
  cases h
  · exact .base .non
  · exact .base (.bl _)
  · exact .base (.int _)
  · exact .base (.str _)
theorem Fl.noSeq {v : V} {t : String} (h : Fl v t) : PySem.W.kitAny K (.type t) [.type "list", .type "tuple"] = some false := by
  cases h <;> exact kitAny_cons (b := false) (kit_ty (by decide +kernel)) (fun _ => kitAny_cons (b := false) (kit_ty (by decide +kernel)) (fun _ => kitAny_nil) (fun z => z)) (fun z => z)
theorem Fl.kit {v : V} {t : String} (h : Fl v t) (c : String) (hc : c = "bool" ∨ c = "int" ∨ c = "str") : ∃ b, PySem.W.kitOne K (.type t) (.type c) = some b := by
  rcases hc with rfl | rfl | rfl <;> cases h <;> first | exact ⟨true, kit_ty (by decide +kernel)⟩ | exact ⟨false, kit_ty (by decide +kernel)⟩
theorem Fl.scal {v : V} {t : String} (h : Fl v t) : L2.scal v v = true := by
  cases h <;> rfl
theorem kitSeqL : PySem.W.kitAny K (.type "list") [.type "list", .type "tuple"] = some true := kitAny_cons (b := true) (kit_ty (by decide +kernel)) (fun z => by cases z) (fun _ => rfl)
theorem kitSeqT : PySem.W.kitAny K (.type "tuple") [.type "list", .type "tuple"] = some true := kitAny_cons (b := false) (kit_ty (by decide +kernel)) (fun _ => kitAny_cons (b := true) (kit_ty (by decide +kernel)) (fun z => by cases z) (fun _ => rfl)) (fun _ => rfl)
theorem SqL.tyX {a : Addr} {xs : List V} (h : SqL K H a xs) : TyX K H (.ref a) (.type "list") := by
  rcases h with (h | ⟨o, h⟩) | ⟨o, its, n, h, c, _⟩
  · exact .base (.lst h)
  · exact .base (.frz h)
  · exact .kList h c
theorem SqT.tyX {a : Addr} {xs : List V} (h : SqT K H a xs) : TyX K H (.ref a) (.type "tuple") := by
  rcases h with (h | ⟨o, h⟩) | ⟨o, its, n, h, c, _⟩
  · exact .base (.tup h)
  · exact .fTuple h
  · exact .kTuple h c
end
/-- alike down to the depth n -/
inductive Sv (K : PySem.W.Frag) (H : Hp) : Nat → V → V → Prop
  | flat {n : Nat} {v : V} {t : String} (h : Fl v t) : Sv K H n v v
  | lst {n : Nat} {a b : Addr} {xs ys : List V} (ha : SqL K H a xs) (hb : SqL K H b ys) (hl : xs.length = ys.length) (hz : xs.length ≤ 1000) (h : ∀ (i : Nat) v w, xs[i]? = some v → ys[i]? = some w → Sv K H n v w) : Sv K H (n + 1) (.ref a) (.ref b)
  | tup {n : Nat} {a b : Addr} {xs ys : List V} (ha : SqT K H a xs) (hb : SqT K H b ys) (hl : xs.length = ys.length) (hz : xs.length ≤ 1000) (h : ∀ (i : Nat) v w, xs[i]? = some v → ys[i]? = some w → Sv K H n v w) : Sv K H (n + 1) (.ref a) (.ref b)
theorem Sv.same {K : PySem.W.Frag} {H H' : Hp} (e : Same H H') {n : Nat} {v w : V} (h : Sv K H n v w) : Sv K H' n v w := by
  induction h with
  | flat h => exact .flat h
  | lst ha hb hl hz _ ih => exact .lst (e.seq ha) (e.seq hb) hl hz ih
  | tup ha hb hl hz _ ih => exact .tup (sameTup e ha) (sameTup e hb) hl hz ih
def spSame (K : PySem.W.Frag) (n : Nat) : Sp := fun vs H Q _ => ∃ v w : V, vs = [v, w] ∧ Sv K H n v w ∧ ∀ H', Same H H' → Q (.bl true) H'
section
variable {P : Program} {w : World} {K : PySem.W.Frag} {mg : Str → Option Value} {base : Heap} {f : Addr} {fd : FuncData}
theorem scSame : FnScope ["_law_found", "_law_due", "_law_a", "_law_b"] ["_law_found", "_law_due"] (defScope lSame) := ⟨rfl, rfl, rfl, by decide +kernel, rfl, by decide +kernel, by decide +kernel⟩
theorem okSame (F : FnP K "_law_same" lSame f fd) (gS : mg "_law_same" = some (.ref f)) (B : Bn mg) : ∀ (n k : Nat), FnOk P w K mg base CX0 (k + n + 1) f fd ["_law_found", "_law_due"] (spSame K n) := by
  have bS : Binds K fd ["_law_found", "_law_due"] [] := F.bindsN fun _ _ _ _ _ _ us hl => match us, hl with | [_, _], _ => rfl
  intro n
  induction n with
  | zero =>
    intro k
    refine F.ok scSame (fun vs H Q E h => ?_) (fun cdv A outer s H vs Q E hr h => ?_)
    · obtain ⟨v, w, rfl, _⟩ := h
      rfl
    · obtain ⟨v, w', rfl, hv, q⟩ := h
      obtain ⟨t, hf, rfl⟩ : ∃ t, Fl v t ∧ v = w' := by
        cases hv with
        | flat h => exact ⟨_, h, rfl⟩
      refine ⟨_, PSs.nox (pss_cons (ps_if (pt_val (pe_callB call_isiT (by rfl) B.isi (by decide +kernel) (pa_cons (pv 1) (pa_cons (pe_tup (pa_cons (pe_bltn (v := .ty "list") (by rfl) B.list (by decide +kernel) rfl) (pa_cons (pe_bltn (v := .ty "tuple") (by rfl) B.tuple (by decide +kernel) rfl) pa_nil))) pa_nil))))
        (pss_cons (ps_never) (pss_one (ps_never))) pss_nil) (pss_cons (ps_if (PW.pt (pw_or (pt_cmpR op_ne (pe_callB call_isi (by rfl) B.isi (by decide +kernel) (pa_cons (pv 0) (pa_cons (pe_bltn (v := .ty "bool") (by rfl) B.bool (by decide +kernel) rfl) pa_nil))) (pe_callB call_isi (by rfl) B.isi (by decide +kernel) (pa_cons (pv 1) (pa_cons (pe_bltn (v := .ty "bool") (by rfl) B.bool (by decide +kernel) rfl) pa_nil))) (nomark _))
            (pw_or1 (pt_cmpR op_ne (pe_callB call_isi (by rfl) B.isi (by decide +kernel) (pa_cons (pv 0) (pa_cons (pe_bltn (v := .ty "int") (by rfl) B.int (by decide +kernel) rfl) pa_nil))) (pe_callB call_isi (by rfl) B.isi (by decide +kernel) (pa_cons (pv 1) (pa_cons (pe_bltn (v := .ty "int") (by rfl) B.int (by decide +kernel) rfl) pa_nil))) (nomark _)))))
          (pss_one (ps_ret pe_bl)) pss_nil) (pss_one (ps_ret (pe_and (pe_cmpR op_eq (pe_callB call_isi (by rfl) B.isi (by decide +kernel) (pa_cons (pv 0) (pa_cons (pe_bltn (v := .ty "str") (by rfl) B.str (by decide +kernel) rfl) pa_nil))) (pe_callB call_isi (by rfl) B.isi (by decide +kernel) (pa_cons (pv 1) (pa_cons (pe_bltn (v := .ty "str") (by rfl) B.str (by decide +kernel) rfl) pa_nil))) (nomark _))
          (pe_one (pe_cmpR op_eq (pv 0) (pv 1) (nomark _)))))))), ?_⟩
      obtain ⟨b1, e1⟩ := hf.kit (K := K) "bool" (.inl rfl)
      obtain ⟨b2, e2⟩ := hf.kit (K := K) "int" (.inr (.inl rfl))
      obtain ⟨b3, e3⟩ := hf.kit (K := K) "str" (.inr (.inr rfl))
      refine ⟨v, rfl, (by show 2 ≤ sizeLine; decide), fun p hp => ⟨v, p, [.ty "list", .ty "tuple"], .type t, [.type "list", .type "tuple"], false, rfl, upd_same, .cons (.ty _) (.cons (.ty _) .nil), hf.tyX, hf.noSeq, false, rfl, iteF ?_⟩⟩
      refine ⟨v, rfl, v, .ty "bool", .type t, .type "bool", b1, rfl, .ty _, hf.tyX, e1, v, rfl, v, .ty "bool", .type t, .type "bool", b1, rfl, .ty _, hf.tyX, e1, rfl, _, rfl, iteNS rfl ?_⟩
      refine ⟨v, rfl, v, .ty "int", .type t, .type "int", b2, rfl, .ty _, hf.tyX, e2, v, rfl, v, .ty "int", .type t, .type "int", b2, rfl, .ty _, hf.tyX, e2, rfl, _, rfl, iteNS rfl ?_⟩
      refine ⟨v, rfl, v, .ty "str", .type t, .type "str", b3, rfl, .ty _, hf.tyX, e3, v, rfl, v, .ty "str", .type t, .type "str", b3, rfl, .ty _, hf.tyX, e3, rfl, _, rfl, ?_⟩
      rw [if_pos (decide_eq_true rfl)]
      refine ⟨v, rfl, v, rfl, hf.scal, ?_⟩
      rw [decide_eq_true (rfl : v = v)]
      exact q _ (sameUpd hp)
  | succ n ih =>
    intro k
    have G := ih k
    refine F.ok scSame (fun vs H Q E h => ?_) (fun cdv A outer s H vs Q E hr h => ?_)
    · obtain ⟨v, w, rfl, _⟩ := h
      rfl
    · have hr1 : Room (k + n + 1) _ := hr.mono (by omega)
      refine ⟨_, PSs.nox (pss_cons (ps_if (pt_val (pe_callB call_isiT (by rfl) B.isi (by decide +kernel) (pa_cons (pv 1) (pa_cons (pe_tup (pa_cons (pe_bltn (v := .ty "list") (by rfl) B.list (by decide +kernel) rfl) (pa_cons (pe_bltn (v := .ty "tuple") (by rfl) B.tuple (by decide +kernel) rfl) pa_nil))) pa_nil))))
        (pss_cons (ps_if (PW.pt (pw_or (pt_cmpR op_ne (pe_callB call_isi (by rfl) B.isi (by decide +kernel) (pa_cons (pv 0) (pa_cons (pe_bltn (v := .ty "list") (by rfl) B.list (by decide +kernel) rfl) pa_nil))) (pe_callB call_isi (by rfl) B.isi (by decide +kernel) (pa_cons (pv 1) (pa_cons (pe_bltn (v := .ty "list") (by rfl) B.list (by decide +kernel) rfl) pa_nil))) (nomark _))
            (pw_or1 (pt_not (pt_val (pe_callB call_isiT (by rfl) B.isi (by decide +kernel) (pa_cons (pv 0) (pa_cons (pe_tup (pa_cons (pe_bltn (v := .ty "list") (by rfl) B.list (by decide +kernel) rfl) (pa_cons (pe_bltn (v := .ty "tuple") (by rfl) B.tuple (by decide +kernel) rfl) pa_nil))) pa_nil))))))))
            (pss_one (ps_ret pe_bl)) pss_nil) (pss_one (ps_ret (pe_and (pe_cmpR op_eq (pe_callB call_len_seq (by rfl) B.len PySem.boot_len (pa_cons (pv 0) pa_nil)) (pe_callB call_len_seq (by rfl) B.len PySem.boot_len (pa_cons (pv 1) pa_nil)) (nomark _))
            (pe_one (pe_callB (cr_all rfl) (by rfl) B.all (by decide +kernel) (pa_cons (pe_lc (own := [("_law_a", 2), ("_law_b", 3)]) (g := gTup K 2 (gCons (gName 2) (gCons (gName 3) gNil))) rfl scSame.nd (RZ.pi_zipA (by rfl) B.zip (pa_cons (pv 0) (pa_cons (pv 1) pa_nil))) (blkOk_by (N := ["_law_found", "_law_due", "_law_a", "_law_b"]) (sc := defScope lSame) (by decide +kernel))
              (fun _ _ _ _ _ => pg_tup rfl (pgs_cons (pg_name (i := 2) scSame.nd rfl (.inl rfl) (hf := .inr rfl)) (pgs_cons (pg_name (i := 3) scSame.nd rfl (.inl rfl) (hf := .inr rfl)) pgs_nil))) (fun _ _ _ _ _ => pts_nil)
              (fun _ _ _ _ _ => pe_call G hr1 (by rfl) gS F.kp bS .nil pass0 (pa_cons (pv 2) (pa_cons (pv 3) pa_nil)))) pa_nil))))))) pss_nil) (pss_cons (ps_if (PW.pt (pw_or (pt_cmpR op_ne (pe_callB call_isi (by rfl) B.isi (by decide +kernel) (pa_cons (pv 0) (pa_cons (pe_bltn (v := .ty "bool") (by rfl) B.bool (by decide +kernel) rfl) pa_nil))) (pe_callB call_isi (by rfl) B.isi (by decide +kernel) (pa_cons (pv 1) (pa_cons (pe_bltn (v := .ty "bool") (by rfl) B.bool (by decide +kernel) rfl) pa_nil))) (nomark _))
            (pw_or1 (pt_cmpR op_ne (pe_callB call_isi (by rfl) B.isi (by decide +kernel) (pa_cons (pv 0) (pa_cons (pe_bltn (v := .ty "int") (by rfl) B.int (by decide +kernel) rfl) pa_nil))) (pe_callB call_isi (by rfl) B.isi (by decide +kernel) (pa_cons (pv 1) (pa_cons (pe_bltn (v := .ty "int") (by rfl) B.int (by decide +kernel) rfl) pa_nil))) (nomark _)))))
          (pss_one (ps_ret pe_bl)) pss_nil) (pss_one (ps_ret (pe_and (pe_cmpR op_eq (pe_callB call_isi (by rfl) B.isi (by decide +kernel) (pa_cons (pv 0) (pa_cons (pe_bltn (v := .ty "str") (by rfl) B.str (by decide +kernel) rfl) pa_nil))) (pe_callB call_isi (by rfl) B.isi (by decide +kernel) (pa_cons (pv 1) (pa_cons (pe_bltn (v := .ty "str") (by rfl) B.str (by decide +kernel) rfl) pa_nil))) (nomark _))
          (pe_one (pe_cmpR op_eq (pv 0) (pv 1) (nomark _)))))))), ?_⟩
      obtain ⟨v, w, rfl, hv, q⟩ := h
      cases hv with
      | @flat _ _ t hf =>
        obtain ⟨b1, e1⟩ := hf.kit (K := K) "bool" (.inl rfl)
        obtain ⟨b2, e2⟩ := hf.kit (K := K) "int" (.inr (.inl rfl))
        obtain ⟨b3, e3⟩ := hf.kit (K := K) "str" (.inr (.inr rfl))
        refine ⟨v, rfl, (by show 2 ≤ sizeLine; decide), fun p hp => ⟨v, p, [.ty "list", .ty "tuple"], .type t, [.type "list", .type "tuple"], false, rfl, upd_same, .cons (.ty _) (.cons (.ty _) .nil), hf.tyX, hf.noSeq, false, rfl, iteF ?_⟩⟩
        refine ⟨v, rfl, v, .ty "bool", .type t, .type "bool", b1, rfl, .ty _, hf.tyX, e1, v, rfl, v, .ty "bool", .type t, .type "bool", b1, rfl, .ty _, hf.tyX, e1, rfl, _, rfl, iteNS rfl ?_⟩
        refine ⟨v, rfl, v, .ty "int", .type t, .type "int", b2, rfl, .ty _, hf.tyX, e2, v, rfl, v, .ty "int", .type t, .type "int", b2, rfl, .ty _, hf.tyX, e2, rfl, _, rfl, iteNS rfl ?_⟩
        refine ⟨v, rfl, v, .ty "str", .type t, .type "str", b3, rfl, .ty _, hf.tyX, e3, v, rfl, v, .ty "str", .type t, .type "str", b3, rfl, .ty _, hf.tyX, e3, rfl, _, rfl, ?_⟩
        rw [if_pos (decide_eq_true rfl)]
        refine ⟨v, rfl, v, rfl, hf.scal, ?_⟩
        rw [decide_eq_true (rfl : v = v)]
        exact q _ (sameUpd hp)
      | @lst _ a b xs ys ha hb hl hz hh =>
        refine ⟨.ref b, rfl, (by show 2 ≤ sizeLine; decide), fun p hp => ?_⟩
        have s1 : Same H (upd H p (.tup [.ty "list", .ty "tuple"])) := sameUpd hp
        have ha1 := (s1).seq ha
        have hb1 := (s1).seq hb
        refine ⟨.ref b, p, [.ty "list", .ty "tuple"], .type "list", [.type "list", .type "tuple"], true, rfl, upd_same, .cons (.ty _) (.cons (.ty _) .nil), SqL.tyX hb1, kitSeqL, true, rfl, iteT ?_⟩
        refine ⟨.ref a, rfl, .ref a, .ty "list", .type "list", .type "list", true, rfl, .ty _, SqL.tyX ha1, kit_ty (by decide +kernel), .ref b, rfl, .ref b, .ty "list", .type "list", .type "list", true, rfl, .ty _, SqL.tyX hb1, kit_ty (by decide +kernel), rfl, _, rfl, iteNS rfl ?_⟩
        refine ⟨.ref a, rfl, (by show 2 ≤ sizeLine; decide), fun p2 hp2 => ?_⟩
        have s2 : Same _ (upd (upd H p (.tup [.ty "list", .ty "tuple"])) p2 (.tup [.ty "list", .ty "tuple"])) := s1.trans (sameUpd hp2)
        have ha2 := (s2).seq ha
        have hb2 := (s2).seq hb
        refine ⟨.ref a, p2, [.ty "list", .ty "tuple"], .type "list", [.type "list", .type "tuple"], true, rfl, upd_same, .cons (.ty _) (.cons (.ty _) .nil), SqL.tyX ha2, kitSeqL, true, rfl, iteF ?_⟩
        refine ⟨.ref a, rfl, a, xs, rfl, .inl ha2, .ref b, rfl, b, ys, rfl, .inl hb2, rfl, _, rfl, ?_⟩
        rw [if_pos (decide_eq_true (by rw [hl]))]
        refine ⟨.ref a, rfl, .ref b, rfl, a, b, xs, ys, rfl, .inl ⟨ha2, hb2, fun D hD => ?_⟩⟩
        generalize upd (upd H p (.tup [.ty "list", .ty "tuple"])) p2 (.tup [.ty "list", .ty "tuple"]) = H2 at *
        refine lcJ (n := xs.length) (fun i H3 => Same H2 H3 ∧ H3 D = some (.lst ((List.replicate i true).map V.bl)) ∧ i ≤ xs.length) ⟨sameUpd hD, upd_same, Nat.zero_le _⟩ (fun i H3 lt h3 => ?_) (fun H3 h3 => ?_) (fun i H3 x H4 lt h3 y => ?_) (fun H3 h3 => ?_)
        · exact ⟨xs, ys, xs[i], ys[i], (h3.1).seq ha2, (h3.1).seq hb2, List.getElem?_eq_getElem lt, List.getElem?_eq_getElem (by omega)⟩
        · exact ⟨xs, ys, (h3.1).seq ha2, (h3.1).seq hb2, .inl (Nat.le_refl _)⟩
        · obtain ⟨s3, eD, _⟩ := h3
          obtain ⟨T, x1, y1, rfl, nT, rfl, fx, fy⟩ := y
          have e1 := fx _ ((s3).seq ha2)
          have e2 := fy _ ((s3).seq hb2)
          refine ⟨T, [x1, y1], rfl, .inl (.inl upd_same), rfl, x1, [y1], rfl, y1, [], rfl, rfl, rfl, ?_⟩
          refine ⟨x1, rfl, y1, rfl, x1, y1, rfl, (hh i _ _ e1 e2).same (s2.trans (s3.trans (sameUpd nT))), fun H5 s5 => ?_⟩
          have s4 : Same H2 H5 := s3.trans ((sameUpd nT).trans s5)
          have eD5 : H5 D = some (.lst ((List.replicate i true).map V.bl)) := s5 _ _ (sameUpd nT _ _ eD)
          refine ⟨_, eD5, ?_, fun b o hb => ?_, ?_, lt⟩
          · rw [List.length_map, List.length_replicate]
            exact small1000 (by omega)
          · rw [upd_ne (ne_of_none hb hD)]
            exact s4 _ _ hb
          · rw [upd_same, List.replicate_succ', List.map_append]
            rfl
        · obtain ⟨s3, eD, _⟩ := h3
          refine ⟨D, List.replicate xs.length true, rfl, .inl (.inl eD), ?_⟩
          rw [show (List.replicate xs.length true).all id = true by simp]
          exact q _ (s2.trans s3)
      | @tup _ a b xs ys ha hb hl hz hh =>
        refine ⟨.ref b, rfl, (by show 2 ≤ sizeLine; decide), fun p hp => ?_⟩
        have s1 : Same H (upd H p (.tup [.ty "list", .ty "tuple"])) := sameUpd hp
        have ha1 := sameTup (s1) ha
        have hb1 := sameTup (s1) hb
        refine ⟨.ref b, p, [.ty "list", .ty "tuple"], .type "tuple", [.type "list", .type "tuple"], true, rfl, upd_same, .cons (.ty _) (.cons (.ty _) .nil), SqT.tyX hb1, kitSeqT, true, rfl, iteT ?_⟩
        refine ⟨.ref a, rfl, .ref a, .ty "list", .type "tuple", .type "list", false, rfl, .ty _, SqT.tyX ha1, kit_ty (by decide +kernel), .ref b, rfl, .ref b, .ty "list", .type "tuple", .type "list", false, rfl, .ty _, SqT.tyX hb1, kit_ty (by decide +kernel), rfl, _, rfl, iteNS rfl ?_⟩
        refine ⟨.ref a, rfl, (by show 2 ≤ sizeLine; decide), fun p2 hp2 => ?_⟩
        have s2 : Same _ (upd (upd H p (.tup [.ty "list", .ty "tuple"])) p2 (.tup [.ty "list", .ty "tuple"])) := s1.trans (sameUpd hp2)
        have ha2 := sameTup (s2) ha
        have hb2 := sameTup (s2) hb
        refine ⟨.ref a, p2, [.ty "list", .ty "tuple"], .type "tuple", [.type "list", .type "tuple"], true, rfl, upd_same, .cons (.ty _) (.cons (.ty _) .nil), SqT.tyX ha2, kitSeqT, true, rfl, iteF ?_⟩
        refine ⟨.ref a, rfl, a, xs, rfl, .inr ha2, .ref b, rfl, b, ys, rfl, .inr hb2, rfl, _, rfl, ?_⟩
        rw [if_pos (decide_eq_true (by rw [hl]))]
        refine ⟨.ref a, rfl, .ref b, rfl, a, b, xs, ys, rfl, .inr ⟨ha2, hb2, fun D hD => ?_⟩⟩
        generalize upd (upd H p (.tup [.ty "list", .ty "tuple"])) p2 (.tup [.ty "list", .ty "tuple"]) = H2 at *
        refine lcJ (n := xs.length) (fun i H3 => Same H2 H3 ∧ H3 D = some (.lst ((List.replicate i true).map V.bl)) ∧ i ≤ xs.length) ⟨sameUpd hD, upd_same, Nat.zero_le _⟩ (fun i H3 lt h3 => ?_) (fun H3 h3 => ?_) (fun i H3 x H4 lt h3 y => ?_) (fun H3 h3 => ?_)
        · exact ⟨xs, ys, xs[i], ys[i], sameTup (h3.1) ha2, sameTup (h3.1) hb2, List.getElem?_eq_getElem lt, List.getElem?_eq_getElem (by omega)⟩
        · exact ⟨xs, ys, sameTup (h3.1) ha2, sameTup (h3.1) hb2, .inl (Nat.le_refl _)⟩
        · obtain ⟨s3, eD, _⟩ := h3
          obtain ⟨T, x1, y1, rfl, nT, rfl, fx, fy⟩ := y
          have e1 := fx _ (sameTup (s3) ha2)
          have e2 := fy _ (sameTup (s3) hb2)
          refine ⟨T, [x1, y1], rfl, .inl (.inl upd_same), rfl, x1, [y1], rfl, y1, [], rfl, rfl, rfl, ?_⟩
          refine ⟨x1, rfl, y1, rfl, x1, y1, rfl, (hh i _ _ e1 e2).same (s2.trans (s3.trans (sameUpd nT))), fun H5 s5 => ?_⟩
          have s4 : Same H2 H5 := s3.trans ((sameUpd nT).trans s5)
          have eD5 : H5 D = some (.lst ((List.replicate i true).map V.bl)) := s5 _ _ (sameUpd nT _ _ eD)
          refine ⟨_, eD5, ?_, fun b o hb => ?_, ?_, lt⟩
          · rw [List.length_map, List.length_replicate]
            exact small1000 (by omega)
          · rw [upd_ne (ne_of_none hb hD)]
            exact s4 _ _ hb
          · rw [upd_same, List.replicate_succ', List.map_append]
            rfl
        · obtain ⟨s3, eD, _⟩ := h3
          refine ⟨D, List.replicate xs.length true, rfl, .inl (.inl eD), ?_⟩
          rw [show (List.replicate xs.length true).all id = true by simp]
          exact q _ (s2.trans s3)
end
end KS.La

set_option Elab.async false
set_option linter.all false
set_option maxRecDepth 100000
set_option maxHeartbeats 4000000
namespace KS.La
open PySem PySem.Spec PyProof.Rows L2
/-- all but lists stand -/
def KT (H H' : Hp) : Prop := ∀ a o, H a = some o → (∀ xs, o ≠ .lst xs) → H' a = some o
theorem KT.refl (H : Hp) : KT H H := fun _ _ e _ => e
theorem KT.trans {H H1 H2 : Hp} (a : KT H H1) (b : KT H1 H2) : KT H H2 := fun c o e n => b c o (a c o e n) n
theorem KT.same {H H' : Hp} (s : Same H H') : KT H H' := fun a o e _ => s a o e
theorem KT.kp {f : Addr} {H H' : Hp} (hf : Fd H f) (k : Kp f H H') : KT H H' := fun a o e n => by
  refine k a o (fun z => ?_) e
  obtain ⟨x, y, h, _⟩ := hf
  rw [z, h] at e
  exact n _ (Option.some.inj e).symm
theorem KT.put {H : Hp} {D : Addr} {xs ys : List V} (h : H D = some (.lst xs)) : KT H (upd H D (.lst ys)) := fun a o e n => by
  rw [upd_ne fun z => ?_]
  · exact e
  · rw [z, h] at e
    exact n _ (Option.some.inj e).symm
theorem KT.tup {K : PySem.W.Frag} {H H' : Hp} (k : KT H H') {a : Addr} {xs : List V} (h : SqT K H a xs) : SqT K H' a xs := by
  rcases h with (h | ⟨o, h⟩) | h
  · exact .inl (.inl (k _ _ h fun xs z => nomatch z))
  · exact .inl (.inr ⟨o, k _ _ h fun xs z => nomatch z⟩)
  · exact .inr h
/-- data to the depth n, tuples of at most w items -/
inductive Ow (w : Nat) : Nat → PyData → Prop
  | non (n : Nat) : Ow w n .none
  | bl (n : Nat) (b : Bool) : Ow w n (.bool b)
  | int (n : Nat) (i : Int) : Ow w n (.int i)
  | str (n : Nat) {z : Str} (h : TOk z) : Ow w n (.str z)
  | tup {n : Nat} {ds : List PyData} (h : ds.length ≤ w) (h2 : ∀ d ∈ ds, Ow w n d) : Ow w (n + 1) (.tuple ds)
theorem Ow.od {w n : Nat} {d : PyData} (hw : w ≤ 100) (h : Ow w n d) : Od n d := by
  induction h with
  | non n => exact .non _
  | bl n b => exact .bl _ b
  | int n i => exact .int _ i
  | str n h => exact .str _ h.1 (by have := h.2.1; omega)
  | tup h h2 ih => exact .tup (by omega) ih
theorem Ow.up {w n : Nat} {d : PyData} (h : Ow w n d) : ∀ {w' m : Nat}, w ≤ w' → n ≤ m → Ow w' m d := by
  induction h with
  | non n => exact fun _ _ => .non _
  | bl n b => exact fun _ _ => .bl _ b
  | int n i => exact fun _ _ => .int _ i
  | str n h => exact fun _ _ => .str _ h
  | @tup n ds h h2 ih =>
    intro w' m hw hm
    obtain ⟨k, rfl⟩ : ∃ k, m = k + 1 := ⟨m - 1, by omega⟩
    exact .tup (by omega) fun d hd => ih d hd hw (by omega)
theorem allKT {K : PySem.W.Frag} {H H' : Hp} : ∀ {ds : List PyData} {xs : List V}, (∀ d ∈ ds, ∀ v, Dp K H v d → Dp K H' v d) → DpAll K H xs ds → DpAll K H' xs ds
  | _, _, _, .nil => .nil
  | _, _, k, .cons h r => .cons (k _ List.mem_cons_self _ h) (allKT (fun d hd => k d (List.mem_cons_of_mem _ hd)) r)
theorem dpKT {K : PySem.W.Frag} {H H' : Hp} (k : KT H H') {w n : Nat} {d : PyData} (o : Ow w n d) : ∀ v, Dp K H v d → Dp K H' v d := by
  induction o with
  | non n => exact fun v h => by cases h; exact .non
  | bl n b => exact fun v h => by cases h; exact .bl _
  | int n i => exact fun v h => by cases h; exact .int _
  | str n h => exact fun v h => by cases h; exact .str _
  | tup h h2 ih =>
    intro v hv
    cases hv with
    | tup hx hd => exact .tup (k.tup hx) (allKT ih hd)
/-- v is such data -/
def Vw (K : PySem.W.Frag) (w n : Nat) (H : Hp) (v : V) : Prop := ∃ d, Dp K H v d ∧ Ow w n d
theorem Vw.kt {K : PySem.W.Frag} {w n : Nat} {H H' : Hp} {v : V} (k : KT H H') (h : Vw K w n H v) : Vw K w n H' v := let ⟨d, a, b⟩ := h; ⟨d, dpKT k b _ a, b⟩
theorem Vw.up {K : PySem.W.Frag} {w n w' n' : Nat} {H : Hp} {v : V} (h : Vw K w n H v) (a : w ≤ w') (b : n ≤ n') : Vw K w' n' H v := let ⟨d, x, y⟩ := h; ⟨d, x, y.up a b⟩
theorem vwAll {K : PySem.W.Frag} {w n : Nat} {H : Hp} : ∀ {xs : List V}, (∀ v ∈ xs, Vw K w n H v) → ∃ ds, DpAll K H xs ds ∧ ∀ d ∈ ds, Ow w n d
  | [], _ => ⟨[], .nil, fun d hd => absurd hd (by simp)⟩
  | x :: xs, h => by
    obtain ⟨d, a, b⟩ := h x List.mem_cons_self
    obtain ⟨ds, c, e⟩ := vwAll fun v hv => h v (List.mem_cons_of_mem _ hv)
    refine ⟨d :: ds, .cons a c, fun y hy => ?_⟩
    rcases List.mem_cons.mp hy with z | z
    · rw [z]; exact b
    · exact e y z
theorem Vw.tup {K : PySem.W.Frag} {w n : Nat} {H : Hp} {a : Addr} {xs : List V} (ha : SqT K H a xs) (hl : xs.length ≤ w) (h : ∀ v ∈ xs, Vw K w n H v) : Vw K w (n + 1) H (.ref a) := by
  obtain ⟨ds, c, e⟩ := vwAll h
  exact ⟨.tuple ds, .tup ha c, .tup (by have := dpLen c; omega) e⟩
theorem Vw.str {K : PySem.W.Frag} {w n : Nat} {H : Hp} {z : Str} (h : TOk z) : Vw K w n H (.str z) := ⟨.str z, .str z, .str _ h⟩
theorem Vw.int {K : PySem.W.Frag} {w n : Nat} {H : Hp} {i : Int} : Vw K w n H (.int i) := ⟨.int i, .int i, .int _ i⟩
theorem Vw.non {K : PySem.W.Frag} {w n : Nat} {H : Hp} : Vw K w n H .non := ⟨.none, .non, .non _⟩
theorem Vw.bl {K : PySem.W.Frag} {w n : Nat} {H : Hp} {b : Bool} : Vw K w n H (.bl b) := ⟨.bool b, .bl b, .bl _ b⟩
theorem forJ {J : It} {n : Nat} {g : TG} {tb : TS} {D : Ends} {σ : L2.St} {H : Hp} (Pv : Nat → L2.St → Hp → Prop) (h0 : Pv 0 σ H) (hgo : ∀ i σ H, i < n → Pv i σ H → J.go i H) (hst : ∀ σ H, Pv n σ H → J.stop n H)
    (hs : ∀ i σ H x H', i < n → Pv i σ H → J.yld i H x H' → g x σ H' fun σ2 H2 => tb { D with nx := Pv (i + 1), ct := Pv (i + 1), bk := D.nx } σ2 H2) (hd : ∀ σ H, Pv n σ H → D.nx σ H) :
    ∃ W : Nat → Nat → L2.St → Hp → Prop, (∃ m, W 0 m σ H) ∧ ∀ i m σ H, W i m σ H →
      (J.stop i H ∧ D.nx σ H) ∨ (J.go i H ∧ ∃ N : L2.St → Hp → Prop, (∀ σ' H', N σ' H' → ∃ m', m' < m ∧ W (i + 1) m' σ' H') ∧ ∀ x H', J.yld i H x H' → g x σ H' fun σ2 H2 => tb { D with nx := N, ct := N, bk := D.nx } σ2 H2) := by
  refine ⟨fun i m σ H => m = n - i ∧ i ≤ n ∧ Pv i σ H, ⟨n, by simp, Nat.zero_le _, h0⟩, fun i m σ H hW => ?_⟩
  obtain ⟨rfl, hi, p⟩ := hW
  by_cases lt : i < n
  · exact .inr ⟨hgo i σ H lt p, Pv (i + 1), fun σ' H' p' => ⟨n - (i + 1), by omega, rfl, lt, p'⟩, fun x H' y => hs i σ H x H' lt p y⟩
  · have e : i = n := by omega
    subst e
    exact .inl ⟨hst σ H p, hd σ H p⟩
def spAns : Sp := fun vs H Q _ => ∃ f : Addr, vs = [.ref f] ∧ Fd H f ∧ ∀ (v : V) H', (v = .non ∨ ∃ z, v = .str z ∧ TOk z) → Kp f H H' → Fd H' f → Q v H'
def spPickS : Sp := fun vs H Q _ => ∃ (f : Addr) (z : Str), vs = [.ref f, .str z] ∧ Fd H f ∧ 0 < z.length ∧ z.length < 1000 ∧ ∀ (c : Nat) H', c ∈ z.cps.toList → Kp f H H' → Fd H' f → Q (.str ⟨#[c]⟩) H'
/-- a text as words are -/
def spWord : Sp := fun vs H Q _ => ∃ f : Addr, vs = [.ref f] ∧ Fd H f ∧ ∀ (z : Str) H', TOk z → Kp f H H' → Fd H' f → Q (.str z) H'
theorem sokCut {z : Str} (h : SOk z) (lo hi : Option Int) : SOk (cutS z lo hi) := by
  unfold SOk cutS
  rw [List.all_toArray, List.all_eq_true]
  intro x hx
  have h1 := List.mem_of_mem_drop (List.mem_of_mem_take hx)
  exact Array.all_eq_true'.mp h x (by simpa using h1)
theorem lenCut (z : Str) (lo hi : Option Int) : (cutS z lo hi).length ≤ z.length := by
  show ((z.cps.toList.drop _).take _).toArray.size ≤ z.cps.size
  rw [List.size_toArray, List.length_take, List.length_drop, Array.length_toList]
  omega
theorem sokCat {a b : Str} (h : SOk a) (k : SOk b) : SOk (a ++ b) := by
  show (a.cps ++ b.cps).all _ = true
  rw [Array.all_append, Bool.and_eq_true]
  exact ⟨h, k⟩
theorem lenCat (a b : Str) : (a ++ b).length = a.length + b.length := by
  show (a.cps ++ b.cps).size = _
  rw [Array.size_append]
  rfl
theorem sokMem {z : Str} (h : SOk z) {c : Nat} (hc : c ∈ z.cps.toList) : SOk ⟨#[c]⟩ := by
  have h1 := Array.all_eq_true'.mp h c (by simpa using hc)
  unfold SOk
  simpa using h1
section
variable {P : Program} {w : World} {K : PySem.W.Frag} {mg : Str → Option Value} {base : Heap} {f : Addr} {fd : FuncData}
theorem scAns : FnScope ["_law_feed"] ["_law_feed"] (defScope lAnswer) := ⟨rfl, rfl, rfl, by decide +kernel, rfl, by decide +kernel, by decide +kernel⟩
theorem okAns {k : Nat} (F : FnP K "_law_some_answer" lAnswer f fd) (D : Has P w K mg base (k + 1) "_law_draw" ["_law_feed", "_law_many"] spDraw) (T : Has P w K mg base (k + 3) "_law_some_text" ["_law_feed"] spText) : FnOk P w K mg base CX0 (k + 4) f fd ["_law_feed"] spAns := by
  obtain ⟨fD, fdD, gD, kD, bD, GD⟩ := D.ex
  obtain ⟨fT, fdT, gT, kT, bT, GT⟩ := T.ex
  refine F.ok scAns (fun vs H Q E h => ?_) (fun cdv A outer s H vs Q E hr h => ?_)
  · obtain ⟨a, rfl, _⟩ := h
    rfl
  · obtain ⟨a, rfl, hF, q⟩ := h
    have hr1 : Room (k + 1) _ := hr.mono (by omega)
    refine ⟨_, PSs.nox (pss_one (ps_ret (pe_ifExp (pt_cmpR op_eq (pe_call GD hr1 (by rfl) gD kD bD .nil pass0 (pa_cons (pv 0) (pa_cons (pe_int) pa_nil))) pe_int (nomark _)) pe_non (pe_call GT hr (by rfl) gT kT bT .nil pass0 (pa_cons (pv 0) pa_nil))))), ?_⟩
    refine ⟨.ref a, rfl, a, 5, rfl, hF, by decide, by decide, fun r H1 r0 r1 k1 F1 => ⟨rfl, _, rfl, ite2 (fun e => ?_) (fun e => ?_)⟩⟩
    · exact q .non H1 (.inl rfl) k1 F1
    · exact ⟨.ref a, rfl, a, rfl, F1, fun z H2 tz k2 F2 => q _ H2 (.inr ⟨z, rfl, tz⟩) (k1.trans k2) F2⟩
theorem okPickS {k : Nat} (F : FnP K "_law_pick" lPick f fd) (ml : mg "len" = none) (D : Has P w K mg base (k + 1) "_law_draw" ["_law_feed", "_law_many"] spDraw) : FnOk P w K mg base CX0 (k + 2) f fd ["_law_feed", "_law_items"] spPickS := by
  obtain ⟨fD, fdD, gD, kD, bD, GD⟩ := D.ex
  refine F.ok scPick (fun vs H Q E h => ?_) (fun cdv A outer s H vs Q E hr h => ?_)
  · obtain ⟨a, z, rfl, _⟩ := h
    rfl
  · obtain ⟨a, z, rfl, hF, h0, h1, q⟩ := h
    refine ⟨_, PSs.nox (pss_one (ps_ret (pe_ix ix_str (pv 1) (pe_call GD hr (by rfl) gD kD bD .nil pass0 (pa_cons (pv 0) (pa_cons (pe_callB call_len_str (by rfl) ml PySem.boot_len (pa_cons (pv 1) pa_nil)) pa_nil))) (fun _ _ => rfl)))), ?_⟩
    refine ⟨.str z, rfl, .ref a, rfl, .str z, rfl, z, rfl, by rw [sizeLine_eq]; omega, ?_⟩
    refine ⟨a, (z.length : Int), rfl, hF, by omega, by omega, fun r H' r0 r1 kp fd' => ?_⟩
    obtain ⟨j, rfl⟩ : ∃ j : Nat, r = (j : Int) := ⟨r.toNat, by omega⟩
    have hj : j < z.cps.toList.length := by show j < z.length; omega
    exact ⟨z, _, _, rfl, rfl, by rw [sizeLine_eq]; omega, atI_nat (List.getElem?_eq_getElem hj), q _ H' (List.getElem_mem hj) kp fd'⟩
end
end KS.La

set_option Elab.async false
set_option linter.all false
set_option maxRecDepth 100000
set_option maxHeartbeats 4000000
/-! places: the record, its data, its two ranks -/
namespace PLC
open PySem PySem.Spec PyProof.Rows L2 ND
open PySem.W (dataLt dataLe alike alikeAll keyToksAll)
structure Pc where
  c : Str
  as : List Str
  rs : List (List (Option Str))
  n : Int
def ansD : Option Str → PyData
  | none => .none
  | some z => .str z
def rowD (r : List (Option Str)) : PyData := .tuple (r.map ansD)
def argsD (as : List Str) : PyData := .tuple (as.map .str)
def rowsD (rs : List (List (Option Str))) : PyData := .tuple (rs.map rowD)
def pcD (p : Pc) : PyData := .tuple [.str p.c, argsD p.as, rowsD p.rs, .int p.n]
def dot (z : Str) : Str := ("." : Str) ++ z
def rankA : Option Str → PyData
  | none => .str ""
  | some z => .str (dot z)
def lkA : Option Str → PyData
  | none => .tuple [.int 0, .str ""]
  | some z => .tuple [.int 1, .str z]
def rankRow (r : List (Option Str)) : PyData := .tuple (r.map rankA)
def lkRow (r : List (Option Str)) : PyData := .tuple (r.map lkA)
def rankP (p : Pc) : PyData := .tuple [.str p.c, argsD p.as, .tuple (p.rs.map rankRow), .int p.n]
def lkP (p : Pc) : PyData := .tuple [.str p.c, argsD p.as, .tuple (p.rs.map lkRow), .int p.n]
/-- the rank of data -/
def aRank : PyData → PyData
  | .none => .str ""
  | .str z => .str (dot z)
  | d => d
def rRank : PyData → PyData
  | .tuple xs => .tuple (xs.map aRank)
  | d => d
def rankD : PyData → PyData
  | .tuple [c, a, .tuple rs, n] => .tuple [c, a, .tuple (rs.map rRank), n]
  | d => d
theorem aRank_eq (a : Option Str) : aRank (ansD a) = rankA a := by cases a <;> rfl
theorem rRank_eq (r : List (Option Str)) : rRank (rowD r) = rankRow r := by
  show PyData.tuple ((r.map ansD).map aRank) = .tuple (r.map rankA)
  rw [List.map_map]
  congr 1
  exact List.map_congr_left fun a _ => aRank_eq a
theorem rankD_eq (p : Pc) : rankD (pcD p) = rankP p := by
  show PyData.tuple [.str p.c, argsD p.as, .tuple ((p.rs.map rowD).map rRank), .int p.n] = _
  rw [List.map_map]
  have e : p.rs.map (rRank ∘ rowD) = p.rs.map rankRow := List.map_congr_left fun r _ => rRank_eq r
  rw [e]
  rfl
/-! ### they are told apart by what they are -/
theorem ansD_inj {a b : Option Str} (h : ansD a = ansD b) : a = b := by
  cases a <;> cases b <;> simp [ansD] at h ⊢
  exact h
theorem mapInj {α β : Type} {f : α → β} (hf : ∀ {x y}, f x = f y → x = y) : ∀ {l r : List α}, l.map f = r.map f → l = r
  | [], [], _ => rfl
  | [], _ :: _, h => by simp at h
  | _ :: _, [], h => by simp at h
  | x :: l, y :: r, h => by
    simp only [List.map_cons, List.cons.injEq] at h
    rw [hf h.1, mapInj hf h.2]
theorem rowD_inj {a b : List (Option Str)} (h : rowD a = rowD b) : a = b := mapInj ansD_inj (PyData.tuple.inj h)
theorem lkA_inj {a b : Option Str} (h : lkA a = lkA b) : a = b := by
  cases a <;> cases b <;> simp [lkA] at h ⊢
  exact h
theorem lkRow_inj {a b : List (Option Str)} (h : lkRow a = lkRow b) : a = b := mapInj lkA_inj (PyData.tuple.inj h)
theorem argsD_inj {a b : List Str} (h : argsD a = argsD b) : a = b := mapInj (fun h => PyData.str.inj h) (PyData.tuple.inj h)
theorem pcD_inj {p q : Pc} (h : pcD p = pcD q) : p = q := by
  have h2 := PyData.tuple.inj h
  simp only [List.cons.injEq, and_true] at h2
  obtain ⟨h3, h4, h5, h6⟩ := h2
  cases p; cases q
  have a := PyData.str.inj h3
  have b := argsD_inj h4
  have c := mapInj rowD_inj (PyData.tuple.inj h5)
  have d := PyData.int.inj h6
  simp only at a b c d
  subst a b c d
  rfl
theorem lkP_inj {p q : Pc} (h : lkP p = lkP q) : p = q := by
  have h2 := PyData.tuple.inj h
  simp only [List.cons.injEq, and_true] at h2
  obtain ⟨h3, h4, h5, h6⟩ := h2
  cases p; cases q
  have a := PyData.str.inj h3
  have b := argsD_inj h4
  have c := mapInj lkRow_inj (PyData.tuple.inj h5)
  have d := PyData.int.inj h6
  simp only at a b c d
  subst a b c d
  rfl
/-! ### plain -/
theorem plAns (a : Option Str) : Pl 1 (ansD a) := by cases a; exact .non _; exact .str _ _
theorem plRow (r : List (Option Str)) : Pl 2 (rowD r) := .tup fun d hd => by obtain ⟨a, _, rfl⟩ := List.mem_map.mp hd; exact plAns a
theorem plArgs (as : List Str) : Pl 1 (argsD as) := .tup fun d hd => by obtain ⟨a, _, rfl⟩ := List.mem_map.mp hd; exact .str _ _
theorem plRows (rs : List (List (Option Str))) : Pl 3 (rowsD rs) := .tup fun d hd => by obtain ⟨a, _, rfl⟩ := List.mem_map.mp hd; exact plRow a
theorem plPc (p : Pc) : Pl 4 (pcD p) := .tup fun d hd => by
  simp only [List.mem_cons, List.not_mem_nil, or_false] at hd
  rcases hd with rfl | rfl | rfl | rfl
  · exact .str _ _
  · exact (plArgs _).up (by omega)
  · exact plRows _
  · exact .int _ _
theorem plRankA (a : Option Str) : Pl 1 (rankA a) := by
  cases a <;> exact .str _ _
theorem plRank (p : Pc) : Pl 4 (rankP p) := .tup fun d hd => by
  simp only [List.mem_cons, List.not_mem_nil, or_false] at hd
  rcases hd with rfl | rfl | rfl | rfl
  · exact .str _ _
  · exact (plArgs _).up (by omega)
  · exact .tup fun d hd => by
      obtain ⟨r, _, rfl⟩ := List.mem_map.mp hd
      exact .tup fun d hd => by obtain ⟨a, _, rfl⟩ := List.mem_map.mp hd; exact plRankA a
  · exact .int _ _
theorem plLkA (a : Option Str) : Pl 1 (lkA a) := by
  cases a <;> exact .tup fun d hd => by
    simp only [List.mem_cons, List.not_mem_nil, or_false] at hd
    rcases hd with rfl | rfl
    · exact .int _ _
    · exact .str _ _
theorem plLk (p : Pc) : Pl 4 (lkP p) := .tup fun d hd => by
  simp only [List.mem_cons, List.not_mem_nil, or_false] at hd
  rcases hd with rfl | rfl | rfl | rfl
  · exact .str _ _
  · exact (plArgs _).up (by omega)
  · exact .tup fun d hd => by
      obtain ⟨r, _, rfl⟩ := List.mem_map.mp hd
      exact .tup fun d hd => by obtain ⟨a, _, rfl⟩ := List.mem_map.mp hd; exact plLkA a
  · exact .int _ _
/-! ### the two orders are one -/
section
variable {α : Type} {f g : α → PyData}
theorem alikeMap (h : ∀ x y, alike (f x) (f y) = true) : ∀ xs ys : List α, alikeAll (xs.map f) (ys.map f) = true
  | [], _ => by simp [alikeAll]
  | _ :: _, [] => by simp [alikeAll]
  | x :: xs, y :: ys => by
    show alikeAll (f x :: xs.map f) (f y :: ys.map f) = true
    rw [alikeAll, h x y, alikeMap h xs ys]
    rfl
theorem eqvMap (h : ∀ x y, PyData.eqv (f x) (f y) = PyData.eqv (g x) (g y)) : ∀ xs ys : List α, PyData.eqvAll (xs.map f) (ys.map f) = PyData.eqvAll (xs.map g) (ys.map g)
  | [], [] => rfl
  | [], _ :: _ => by simp [PyData.eqvAll]
  | _ :: _, [] => by simp [PyData.eqvAll]
  | x :: xs, y :: ys => by
    show PyData.eqvAll (f x :: xs.map f) (f y :: ys.map f) = PyData.eqvAll (g x :: xs.map g) (g y :: ys.map g)
    rw [PySem.W.eqv_all_cons, PySem.W.eqv_all_cons, h x y, eqvMap h xs ys]
theorem ltMap (h1 : ∀ x y, alike (f x) (f y) = true) (h2 : ∀ x y, alike (g x) (g y) = true) (he : ∀ x y, PyData.eqv (f x) (f y) = PyData.eqv (g x) (g y)) (hl : ∀ x y, dataLt (f x) (f y) = dataLt (g x) (g y)) :
    ∀ xs ys : List α, PyProof.Rows.lexLt itemOrd (keyToksAll (xs.map f)) (keyToksAll (ys.map f)) = PyProof.Rows.lexLt itemOrd (keyToksAll (xs.map g)) (keyToksAll (ys.map g))
  | [], [] => rfl
  | [], y :: ys => by
    show PyProof.Rows.lexLt itemOrd (keyToksAll []) (keyToksAll (f y :: ys.map f)) = PyProof.Rows.lexLt itemOrd (keyToksAll []) (keyToksAll (g y :: ys.map g))
    simp only [keyToksAll]
    exact (PySem.W.lex_atom (by decide) _ _).trans (PySem.W.lex_atom (by decide) _ _).symm
  | x :: xs, [] => by
    show PyProof.Rows.lexLt itemOrd (keyToksAll (f x :: xs.map f)) (keyToksAll []) = PyProof.Rows.lexLt itemOrd (keyToksAll (g x :: xs.map g)) (keyToksAll [])
    simp only [keyToksAll]
    exact (PySem.W.lex_atom (by decide) _ _).trans (PySem.W.lex_atom (by decide) _ _).symm
  | x :: xs, y :: ys => by
    show PyProof.Rows.lexLt itemOrd (keyToksAll (f x :: xs.map f)) (keyToksAll (f y :: ys.map f)) = PyProof.Rows.lexLt itemOrd (keyToksAll (g x :: xs.map g)) (keyToksAll (g y :: ys.map g))
    rw [PySem.W.dataLt_cons (h1 x y), PySem.W.dataLt_cons (h2 x y), he x y, hl x y, ltMap h1 h2 he hl xs ys]
end
theorem irr (l : List PyData) : PyProof.Rows.lexLt itemOrd (keyToksAll l) (keyToksAll l) = false := PyProof.Rows.lex_irrefl _
theorem alRank (x y : Option Str) : alike (rankA x) (rankA y) = true := by cases x <;> cases y <;> simp [rankA, alike]
theorem dotL (z : Str) : (dot z).cps.toList = 46 :: z.cps.toList := by
  show ((#[46] : Array Nat) ++ z.cps).toList = _
  simp
theorem strIff (a b : Str) : a = b ↔ a.cps.toList = b.cps.toList := ⟨fun e => by rw [e], fun e => PySem.W.str_of_cps e⟩
theorem dotInj (a b : Str) : dot a = dot b ↔ a = b := by
  rw [strIff, strIff, dotL, dotL]
  simp
theorem dotNot (a : Str) : ("" : Str) ≠ dot a := fun e => by
  have := congrArg (fun z : Str => z.cps.toList) e
  rw [dotL] at this
  cases this
theorem alLk (x y : Option Str) : alike (lkA x) (lkA y) = true := by cases x <;> cases y <;> simp [lkA, alike, alikeAll]
theorem eqS (a b : Str) : PyData.eqv (.str a) (.str b) = decide (a = b) := by
  rw [PyData.eqv, Bool.eq_iff_iff, beq_iff_eq, decide_eq_true_eq]
theorem ltSelf (a b : Str) : (if PyData.eqv (.str a) (.str b) = true then false else dataLt (.str a) (.str b)) = dataLt (.str a) (.str b) := by
  rw [eqS]
  by_cases e : a = b
  · subst e
    rw [if_pos (decide_eq_true rfl), PySem.W.dataLt_str]
    exact (decide_eq_false (List.lt_irrefl _)).symm
  · rw [if_neg (by simp [e])]
theorem eqA (x y : Option Str) : PyData.eqv (rankA x) (rankA y) = PyData.eqv (lkA x) (lkA y) := by
  cases x <;> cases y
  · show PyData.eqv (.str "") (.str "") = PyData.eqv (.tuple [.int 0, .str ""]) (.tuple [.int 0, .str ""])
    simp [PyData.eqv, PyData.eqvAll]
  · next b =>
    show PyData.eqv (.str "") (.str (dot b)) = PyData.eqv (.tuple [.int 0, .str ""]) (.tuple [.int 1, .str b])
    rw [eqS, decide_eq_false (dotNot b)]
    simp [PyData.eqv, PyData.eqvAll]
  · next a =>
    show PyData.eqv (.str (dot a)) (.str "") = PyData.eqv (.tuple [.int 1, .str a]) (.tuple [.int 0, .str ""])
    rw [eqS, decide_eq_false (fun e => dotNot a e.symm)]
    simp [PyData.eqv, PyData.eqvAll]
  · next a b =>
    show PyData.eqv (.str (dot a)) (.str (dot b)) = PyData.eqv (.tuple [.int 1, .str a]) (.tuple [.int 1, .str b])
    rw [eqS, show decide (dot a = dot b) = decide (a = b) from decide_eq_decide.mpr (dotInj a b), ← eqS]
    simp [PyData.eqv, PyData.eqvAll]
theorem ltA (x y : Option Str) : dataLt (rankA x) (rankA y) = dataLt (lkA x) (lkA y) := by
  have e0 : alike (.int 0) (.int 0) = true := by simp [alike]
  have e1 : alike (.int 0) (.int 1) = true := by simp [alike]
  have e2 : alike (.int 1) (.int 0) = true := by simp [alike]
  have e3 : alike (.int 1) (.int 1) = true := by simp [alike]
  have es : ∀ a b : Str, alike (.str a) (.str b) = true := fun a b => by simp [alike]
  have n0 : (("" : Str).cps.toList) = [] := rfl
  cases x with
  | none =>
    cases y with
    | none =>
      show dataLt (.str "") (.str "") = dataLt (.tuple [.int 0, .str ""]) (.tuple [.int 0, .str ""])
      rw [PySem.W.dataLt_tuple, irr, PySem.W.dataLt_str, n0]
      rfl
    | some b =>
      show dataLt (.str "") (.str (dot b)) = dataLt (.tuple [.int 0, .str ""]) (.tuple [.int 1, .str b])
      rw [PySem.W.dataLt_pair e1 (es _ _), if_neg (by simp [PyData.eqv]), PySem.W.dataLt_int, PySem.W.dataLt_str, n0, dotL]
      rfl
  | some a =>
    cases y with
    | none =>
      show dataLt (.str (dot a)) (.str "") = dataLt (.tuple [.int 1, .str a]) (.tuple [.int 0, .str ""])
      rw [PySem.W.dataLt_pair e2 (es _ _), if_neg (by simp [PyData.eqv]), PySem.W.dataLt_int, PySem.W.dataLt_str, n0, dotL]
      rfl
    | some b =>
      show dataLt (.str (dot a)) (.str (dot b)) = dataLt (.tuple [.int 1, .str a]) (.tuple [.int 1, .str b])
      rw [PySem.W.dataLt_pair e3 (es _ _), if_pos (by simp [PyData.eqv]), ltSelf, PySem.W.dataLt_str, PySem.W.dataLt_str, dotL, dotL]
      refine decide_eq_decide.mpr ?_
      rw [List.cons_lt_cons_iff]
      simp
theorem lt4 {α : Type} {f g : α → PyData} (al1 : ∀ x y, alike (f x) (f y) = true) (al2 : ∀ x y, alike (g x) (g y) = true) (er : ∀ x y, PyData.eqv (f x) (f y) = PyData.eqv (g x) (g y)) (lr : ∀ x y, dataLt (f x) (f y) = dataLt (g x) (g y))
    (c d : Str) (as bs : List Str) (m n : Int) (xs ys : List α) : dataLt (.tuple [.str c, argsD as, .tuple (xs.map f), .int m]) (.tuple [.str d, argsD bs, .tuple (ys.map f), .int n]) = dataLt (.tuple [.str c, argsD as, .tuple (xs.map g), .int m]) (.tuple [.str d, argsD bs, .tuple (ys.map g), .int n]) := by
  have es : ∀ a b : Str, alike (.str a) (.str b) = true := fun a b => by simp [alike]
  have aa : alike (argsD as) (argsD bs) = true := by unfold argsD; rw [alike]; exact alikeMap es _ _
  have r1 : alike (.tuple (xs.map f)) (.tuple (ys.map f)) = true := by rw [alike]; exact alikeMap al1 _ _
  have r2 : alike (.tuple (xs.map g)) (.tuple (ys.map g)) = true := by rw [alike]; exact alikeMap al2 _ _
  have r3 : PyData.eqv (.tuple (xs.map f)) (.tuple (ys.map f)) = PyData.eqv (.tuple (xs.map g)) (.tuple (ys.map g)) := by rw [PyData.eqv, PyData.eqv]; exact eqvMap er _ _
  have r4 : dataLt (.tuple (xs.map f)) (.tuple (ys.map f)) = dataLt (.tuple (xs.map g)) (.tuple (ys.map g)) := by rw [PySem.W.dataLt_tuple, PySem.W.dataLt_tuple]; exact ltMap al1 al2 er lr _ _
  rw [PySem.W.dataLt_tuple, PySem.W.dataLt_tuple, PySem.W.dataLt_cons (es _ _), PySem.W.dataLt_cons (es _ _), PySem.W.dataLt_cons aa, PySem.W.dataLt_cons aa, PySem.W.dataLt_cons r1, PySem.W.dataLt_cons r2, r3, r4]
theorem ltP (p q : Pc) : dataLt (rankP p) (rankP q) = dataLt (lkP p) (lkP q) :=
  lt4 (fun x y => by unfold rankRow; rw [alike]; exact alikeMap alRank x y) (fun x y => by unfold lkRow; rw [alike]; exact alikeMap alLk x y) (fun x y => by unfold rankRow lkRow; rw [PyData.eqv, PyData.eqv]; exact eqvMap eqA x y)
    (fun x y => by unfold rankRow lkRow; rw [PySem.W.dataLt_tuple, PySem.W.dataLt_tuple]; exact ltMap alRank alLk eqA ltA x y) _ _ _ _ _ _ _ _
/-! ### where None is nowhere among the answers, the places themselves are compared -/
def noN (p : Pc) : Prop := ∀ r ∈ p.rs, none ∉ r
def sRow (r : List Str) : PyData := .tuple (r.map .str)
def lkS (z : Str) : PyData := .tuple [.int 1, .str z]
def lkSRow (r : List Str) : PyData := .tuple (r.map lkS)
theorem noneFree : ∀ {r : List (Option Str)}, none ∉ r → ∃ r' : List Str, r = r'.map some
  | [], _ => ⟨[], rfl⟩
  | none :: _, h => absurd List.mem_cons_self h
  | some z :: r, h => by
    obtain ⟨r', e⟩ := noneFree (r := r) fun y => h (List.mem_cons_of_mem _ y)
    exact ⟨z :: r', by rw [e]; rfl⟩
theorem noneFrees : ∀ {rs : List (List (Option Str))}, (∀ r ∈ rs, none ∉ r) → ∃ rs' : List (List Str), rs = rs'.map fun r => r.map some
  | [], _ => ⟨[], rfl⟩
  | r :: rs, h => by
    obtain ⟨r', e1⟩ := noneFree (h r List.mem_cons_self)
    obtain ⟨rs', e2⟩ := noneFrees (rs := rs) fun y hy => h y (List.mem_cons_of_mem _ hy)
    exact ⟨r' :: rs', by rw [e1, e2]; rfl⟩
theorem noNForm {p : Pc} (h : noN p) : ∃ rs' : List (List Str), pcD p = .tuple [.str p.c, argsD p.as, .tuple (rs'.map sRow), .int p.n] ∧ lkP p = .tuple [.str p.c, argsD p.as, .tuple (rs'.map lkSRow), .int p.n] := by
  obtain ⟨rs', e⟩ := noneFrees h
  refine ⟨rs', ?_, ?_⟩
  · have : p.rs.map rowD = rs'.map sRow := by
      rw [e, List.map_map]
      refine List.map_congr_left fun r _ => ?_
      show PyData.tuple ((r.map some).map ansD) = .tuple (r.map .str)
      rw [List.map_map]
      rfl
    show PyData.tuple [.str p.c, argsD p.as, .tuple (p.rs.map rowD), .int p.n] = _
    rw [this]
  · have : p.rs.map lkRow = rs'.map lkSRow := by
      rw [e, List.map_map]
      refine List.map_congr_left fun r _ => ?_
      show PyData.tuple ((r.map some).map lkA) = .tuple (r.map lkS)
      rw [List.map_map]
      rfl
    show PyData.tuple [.str p.c, argsD p.as, .tuple (p.rs.map lkRow), .int p.n] = _
    rw [this]
theorem alStr (x y : Str) : alike (.str x) (.str y) = true := by simp [alike]
theorem alLkS (x y : Str) : alike (lkS x) (lkS y) = true := by simp [lkS, alike, alikeAll]
theorem alSRow (x y : List Str) : alike (sRow x) (sRow y) = true := by unfold sRow; rw [alike]; exact alikeMap alStr x y
theorem eqLkS (x y : Str) : PyData.eqv (.str x) (.str y) = PyData.eqv (lkS x) (lkS y) := by simp [lkS, PyData.eqv, PyData.eqvAll]
theorem ltLkS (x y : Str) : dataLt (.str x) (.str y) = dataLt (lkS x) (lkS y) := by
  unfold lkS
  rw [PySem.W.dataLt_pair (by simp [alike]) (alStr _ _), if_pos (by simp [PyData.eqv]), ltSelf]
theorem ltN {p q : Pc} (hp : noN p) (hq : noN q) : dataLt (pcD p) (pcD q) = dataLt (lkP p) (lkP q) := by
  obtain ⟨r1, e1, e2⟩ := noNForm hp
  obtain ⟨r2, e3, e4⟩ := noNForm hq
  rw [e1, e2, e3, e4]
  exact lt4 alSRow (fun x y => by unfold lkSRow; rw [alike]; exact alikeMap alLkS x y) (fun x y => by unfold sRow lkSRow; rw [PyData.eqv, PyData.eqv]; exact eqvMap eqLkS x y)
    (fun x y => by unfold sRow lkSRow; rw [PySem.W.dataLt_tuple, PySem.W.dataLt_tuple]; exact ltMap alStr alLkS eqLkS ltLkS x y) _ _ _ _ _ _ _ _
theorem alN {p q : Pc} (hp : noN p) (hq : noN q) : alike (pcD p) (pcD q) = true := by
  obtain ⟨r1, e1, _⟩ := noNForm hp
  obtain ⟨r2, e3, _⟩ := noNForm hq
  have aa : alike (argsD p.as) (argsD q.as) = true := by unfold argsD; rw [alike]; exact alikeMap alStr _ _
  have a1 : alike (.tuple (r1.map sRow)) (.tuple (r2.map sRow)) = true := by rw [alike]; exact alikeMap alSRow _ _
  rw [e1, e3]
  simp only [alike, alikeAll, Bool.and_true, Bool.true_and]
  simp only [alike] at aa a1
  rw [Bool.and_eq_true]
  exact ⟨aa, a1⟩
theorem leP : dataLe false rankP = dataLe false lkP := by
  rw [PySem.W.dataLe_eq, PySem.W.dataLe_eq]
  funext a b
  show (!dataLt (rankP b) (rankP a)) = !dataLt (lkP b) (lkP a)
  rw [ltP]
theorem alRankP (p q : Pc) : alike (rankP p) (rankP q) = true := by
  have es : ∀ a b : Str, alike (.str a) (.str b) = true := fun a b => by simp [alike]
  have al1 : ∀ x y, alike (rankRow x) (rankRow y) = true := fun x y => by unfold rankRow; rw [alike]; exact alikeMap alRank x y
  have aa : alike (argsD p.as) (argsD q.as) = true := by unfold argsD; rw [alike]; exact alikeMap es _ _
  have r1 : alike (.tuple (p.rs.map rankRow)) (.tuple (q.rs.map rankRow)) = true := by rw [alike]; exact alikeMap al1 _ _
  unfold rankP
  simp only [alike, alikeAll, Bool.and_true, Bool.true_and]
  simp only [alike] at aa r1
  rw [Bool.and_eq_true]
  exact ⟨aa, r1⟩
theorem alLkP (p q : Pc) : alike (lkP p) (lkP q) = true := by
  have es : ∀ a b : Str, alike (.str a) (.str b) = true := fun a b => by simp [alike]
  have al1 : ∀ x y, alike (lkRow x) (lkRow y) = true := fun x y => by unfold lkRow; rw [alike]; exact alikeMap alLk x y
  have aa : alike (argsD p.as) (argsD q.as) = true := by unfold argsD; rw [alike]; exact alikeMap es _ _
  have r1 : alike (.tuple (p.rs.map lkRow)) (.tuple (q.rs.map lkRow)) = true := by rw [alike]; exact alikeMap al1 _ _
  unfold lkP
  simp only [alike, alikeAll, Bool.and_true, Bool.true_and]
  simp only [alike] at aa r1
  rw [Bool.and_eq_true]
  exact ⟨aa, r1⟩
/-- the places in order -/
def srt (D : List Pc) : List Pc := D.mergeSort (dataLe false lkP)
theorem sortOf {α : Type} {l : List α} {g : α → PyData} {D : List Pc} {k : Pc → PyData} {e : Pc → PyData} {r : PyData → PyData} (hg : l.map g = D.map e) (hr : ∀ p, r (e p) = k p) (hk : dataLe false k = dataLe false lkP) :
    (l.mergeSort (dataLe false fun x => r (g x))).map g = (srt D).map e := by
  have h1 : (l.mergeSort (dataLe false fun x => r (g x))).map g = (l.map g).mergeSort (dataLe false r) := List.map_mergeSort fun a _ b _ => by
    rw [PySem.W.dataLe_eq, PySem.W.dataLe_eq]
  have h2 : (D.mergeSort (dataLe false k)).map e = (D.map e).mergeSort (dataLe false r) := List.map_mergeSort fun a _ b _ => by
    rw [PySem.W.dataLe_eq, PySem.W.dataLe_eq]
    show cond false _ (!dataLt (k b) (k a)) = cond false _ (!dataLt (r (e b)) (r (e a)))
    rw [hr, hr]
  rw [h1, hg, ← h2, hk]
  rfl
theorem sortOfN {α : Type} {l : List α} {g : α → PyData} {D : List Pc} (hg : l.map g = D.map pcD) (hn : ∀ p ∈ D, noN p) : (l.mergeSort (dataLe false g)).map g = (srt D).map pcD := by
  have h1 : (l.mergeSort (dataLe false g)).map g = (l.map g).mergeSort (dataLe false id) := List.map_mergeSort fun a _ b _ => by
    rw [PySem.W.dataLe_eq, PySem.W.dataLe_eq]
    rfl
  have h2 : (srt D).map pcD = (D.map pcD).mergeSort (dataLe false id) := List.map_mergeSort fun a ha b hb => by
    rw [PySem.W.dataLe_eq, PySem.W.dataLe_eq]
    show (!dataLt (lkP b) (lkP a)) = !dataLt (pcD b) (pcD a)
    rw [ltN (hn b hb) (hn a ha)]
  rw [h1, hg, h2]
end PLC

set_option Elab.async false
set_option linter.all false
set_option maxRecDepth 100000
set_option maxHeartbeats 4000000
/-! name = {k: v for ..} on one row -/
namespace ND
open PySem PySem.Spec PyProof.Rows L2
theorem swD {kx vx : Expr} {gs : List Comprehension} {sc : Scope} {pos py : Pos} {y : Str} {l : Nat} {env : Env} (h1 : env.scope.kind = .function) (h2 : env.scope.names.lookup y = some .local) (h3 : (py.line == pos.line) = true) (h4 : (sc.names.any fun (n, k) => n == y && (k == .local || k == .cell)) = false) :
    swapsWith (.DictComp kx vx gs sc pos) (some (.Name y py)) l env = pure true := by
  have b : env.blockKind = .function := by
    unfold Env.blockKind
    rw [h1] <;> rfl
  have c : env.kindOf y = some .local := h2
  unfold swapsWith
  simp only [b, c, h4, Expr.pos, h3]
  rfl
section
variable {X : Cx}
theorem ps_setNdc {i : Nat} {y : Str} {py : Pos} {kx vx tg iter : Expr} {sc : Scope} {own : List (Str × Nat)} {pos spos : Pos} {wi : TI} {g : TG} {tk tv : TE} (hu : X.A.units + 8 < cLine) (calm : X.calm = true) (nd : X.N.Nodup) (hy : X.N[i]? = some y) (loc : X.env.scope.names.lookup y = some .local)
    (sw : swapsWith (.DictComp kx vx [⟨tg, iter, [], 0⟩] sc pos) (some (.Name y py)) spos.line X.env = pure true) (it0 : PI X tg iter wi) (bk : BlkOk X.N X.env.scope sc own) (pG : InBlk X sc fun Y => PG Y tg g) (pK : InBlk X sc fun Y => PE Y kx tk) (pV : InBlk X sc fun Y => PE Y vx tv)
    (fold : ∀ x, foldedSetIterable iter X.env x = pure x := by intro _; rfl) : PS X (.Assign [.Name y py] (.DictComp kx vx [⟨tg, iter, [], 0⟩] sc pos) spos) (tAsg (tNdc X.prog X.w X.K wi g tk tv (own.map (·.2))) (gName i)) := by
  refine ⟨fun pins s σ H D I h => ?_⟩
  rw [exec_Assign_Name_used _ _ _ _ sw]
  refine wpAny_bind (wpAny_standAt (wpAny_bind ?_))
  show wpAny _ X.A (comprehension (.DictComp kx vx [⟨tg, iter, [], 0⟩] sc pos) sc X.env (firstIterPos [⟨tg, iter, [], 0⟩] pos) newDict false (eval iter X.env) (some (assign (.Name y py) X.env)) >>= fun _ => pure ()) _ _ s
  have q : tNdc X.prog X.w X.K wi g tk tv (own.map (·.2)) σ H (fun x T => gName i x σ T D.nx) := h
  refine wpAny_bind (thn (ndc_core (Qf := fun _ t => SP X pins D .next t) hu calm nd I it0 bk pG pK pV fold q fun L C t m G I' r hm f => ?_) fun _ t ht => wpAny_pure (wpAny_pure ht))
  show wpAny _ _ (assign (.Name y py) X.env (.ref L)) _ _ _
  refine wpAny_assign_Name (store_ok2 (v := V.ref L) I' nd hy (.inl loc) rfl (fun t2 I2 ⟨a, sb, ha⟩ => ?_) (.inr loc))
  obtain ⟨f0, f1, f2, f3, f4, f5⟩ := f
  have ne : C ≠ a := by
    rcases ha with z | z
    · exact fun e => f1 (e.trans z)
    · exact fun e => f4 y a z e.symm
  exact ⟨m, hm.sameBut sb ne, fun t3 sb3 => ⟨_, G, I2.turned (t' := t2.toks) (fun b o hb e => (sb3.2 b hb).trans e) f0 f1 f3 f4 f5, r⟩⟩
end
end ND

set_option Elab.async false
set_option linter.all false
set_option maxRecDepth 100000
set_option maxHeartbeats 4000000
/-! places in the layer's heap -/
namespace PLC
open PySem PySem.Spec PyProof.Rows L2 ND KS KS.La
structure Ok (p : Pc) : Prop where
  c : TOk p.c
  as : ∀ a ∈ p.as, TOk a
  al : p.as.length ≤ 4
  rs : ∀ r ∈ p.rs, r.length ≤ 4 ∧ ∀ z, some z ∈ r → TOk z
  rl : p.rs.length ≤ 100
theorem TOk.odS {z : Str} (h : TOk z) : SOk z ∧ z.length ≤ 2000 := ⟨h.1, by have := h.2.1; omega⟩
theorem odAns {a : Option Str} (h : ∀ z, a = some z → TOk z) : Od 0 (ansD a) := by
  cases a with
  | none => exact .non _
  | some z => exact .str _ (TOk.odS (h z rfl)).1 (TOk.odS (h z rfl)).2
theorem odRow {r : List (Option Str)} (h : r.length ≤ 4 ∧ ∀ z, some z ∈ r → TOk z) : Od 1 (rowD r) := .tup (by rw [List.length_map]; omega) fun d hd => by
  obtain ⟨a, ha, rfl⟩ := List.mem_map.mp hd
  exact odAns fun z e => h.2 z (by rw [← e]; exact ha)
theorem odArgs {as : List Str} (h : ∀ a ∈ as, TOk a) (hl : as.length ≤ 100) : Od 1 (argsD as) := .tup (by rw [List.length_map]; exact hl) fun d hd => by
  obtain ⟨a, ha, rfl⟩ := List.mem_map.mp hd
  exact .str _ (TOk.odS (h a ha)).1 (TOk.odS (h a ha)).2
theorem odRows {rs : List (List (Option Str))} (h : ∀ r ∈ rs, r.length ≤ 4 ∧ ∀ z, some z ∈ r → TOk z) (hl : rs.length ≤ 100) : Od 2 (rowsD rs) := .tup (by rw [List.length_map]; exact hl) fun d hd => by
  obtain ⟨r, hr, rfl⟩ := List.mem_map.mp hd
  exact odRow (h r hr)
theorem odPc {p : Pc} (h : Ok p) : Od 3 (pcD p) := .tup (by show 4 ≤ 100; omega) fun d hd => by
  simp only [List.mem_cons, List.not_mem_nil, or_false] at hd
  rcases hd with rfl | rfl | rfl | rfl
  · exact .str _ (TOk.odS h.c).1 (TOk.odS h.c).2
  · exact (odArgs h.as (by have := h.al; omega)).up (by omega)
  · exact odRows h.rs h.rl
  · exact .int _ _
/-! ### == of plain data is being the same -/
theorem eqvPl {n : Nat} {d : PyData} (h : Pl n d) : ∀ {m : Nat} {e : PyData}, Pl m e → (PyData.eqv d e = true ↔ d = e) := by
  induction h with
  | non => intro m e he; cases he <;> simp [PyData.eqv]
  | int n i => intro m e he; cases he <;> simp [PyData.eqv]
  | str n z => intro m e he; cases he <;> simp [PyData.eqv]
  | @tup n ds h ih =>
    intro m e he
    cases he with
    | @tup m es he =>
      have all : ∀ (l r : List PyData), (∀ d ∈ l, ∀ {m : Nat} {e : PyData}, Pl m e → (PyData.eqv d e = true ↔ d = e)) → (∀ e ∈ r, Pl m e) → (PyData.eqvAll l r = true ↔ l = r) := by
        intro l
        induction l with
        | nil => intro r _ _; cases r <;> simp [PyData.eqvAll]
        | cons x l il =>
          intro r hl hr
          cases r with
          | nil => simp [PyData.eqvAll]
          | cons y r =>
            rw [PySem.W.eqv_all_cons, Bool.and_eq_true, hl x List.mem_cons_self (hr y List.mem_cons_self), il r (fun d hd => hl d (List.mem_cons_of_mem _ hd)) (fun e he => hr e (List.mem_cons_of_mem _ he)), List.cons.injEq]
      rw [PyData.eqv, all ds es ih he, PyData.tuple.injEq]
    | non => simp [PyData.eqv]
    | int => simp [PyData.eqv]
    | str => simp [PyData.eqv]
theorem eqArgs (a b : List Str) : PyData.eqv (argsD a) (argsD b) = decide (a = b) := by
  rw [Bool.eq_iff_iff, eqvPl (plArgs a) (plArgs b), decide_eq_true_eq]
  exact ⟨argsD_inj, fun h => by rw [h]⟩
theorem eqRows (a b : List (List (Option Str))) : PyData.eqv (rowsD a) (rowsD b) = decide (a = b) := by
  rw [Bool.eq_iff_iff, eqvPl (plRows a) (plRows b), decide_eq_true_eq]
  exact ⟨fun h => mapInj rowD_inj (PyData.tuple.inj h), fun h => by rw [h]⟩
theorem eqPc (a b : Pc) : PyData.eqv (pcD a) (pcD b) = true ↔ a = b := by
  rw [eqvPl (plPc a) (plPc b)]
  exact ⟨pcD_inj, fun h => by rw [h]⟩
/-! ### taking a place apart -/
section
variable {K : PySem.W.Frag} {H : Hp}
theorem dpStrs : ∀ {as : List Str} {xs : List V}, DpAll K H xs (as.map .str) → xs = as.map V.str
  | [], _, h => by cases h; rfl
  | a :: as, _, h => by
    cases h with
    | cons h1 h2 =>
      cases h1
      rw [dpStrs h2]
      rfl
theorem strsDp : ∀ (as : List Str), DpAll K H (as.map V.str) (as.map .str)
  | [] => .nil
  | a :: as => .cons (.str a) (strsDp as)
def vA : Option Str → V
  | none => .non
  | some z => .str z
theorem dpAns {a : Option Str} {v : V} (h : Dp K H v (ansD a)) : v = vA a := by
  cases a <;> cases h <;> rfl
theorem ansDp (a : Option Str) : Dp K H (vA a) (ansD a) := by
  cases a
  · exact .non
  · exact .str _
theorem dpRowA : ∀ {r : List (Option Str)} {xs : List V}, DpAll K H xs (r.map ansD) → xs = r.map vA
  | [], _, h => by cases h; rfl
  | a :: r, _, h => by
    cases h with
    | cons h1 h2 =>
      rw [dpAns h1, dpRowA h2]
      rfl
theorem rowADp : ∀ (r : List (Option Str)), DpAll K H (r.map vA) (r.map ansD)
  | [] => .nil
  | a :: r => .cons (ansDp a) (rowADp r)
theorem argsAt {v : V} {as : List Str} (h : Dp K H v (argsD as)) : ∃ b, v = .ref b ∧ SqT K H b (as.map V.str) := by
  cases h with
  | tup hs ha => exact ⟨_, rfl, by rw [← dpStrs ha]; exact hs⟩
theorem argsDp {b : Addr} {as : List Str} (h : SqT K H b (as.map V.str)) : Dp K H (.ref b) (argsD as) := .tup h (strsDp as)
theorem rowAt {v : V} {r : List (Option Str)} (h : Dp K H v (rowD r)) : ∃ b, v = .ref b ∧ SqT K H b (r.map vA) := by
  cases h with
  | tup hs ha => exact ⟨_, rfl, by rw [← dpRowA ha]; exact hs⟩
theorem rowDp {b : Addr} {r : List (Option Str)} (h : SqT K H b (r.map vA)) : Dp K H (.ref b) (rowD r) := .tup h (rowADp r)
theorem rowsAt {v : V} {rs : List (List (Option Str))} (h : Dp K H v (rowsD rs)) : ∃ b xs, v = .ref b ∧ SqT K H b xs ∧ DpAll K H xs (rs.map rowD) := by
  cases h with
  | tup hs ha => exact ⟨_, _, rfl, hs, ha⟩
theorem pcAt {v : V} {p : Pc} (h : Dp K H v (pcD p)) : ∃ a va vr, v = .ref a ∧ SqT K H a [.str p.c, va, vr, .int p.n] ∧ Dp K H va (argsD p.as) ∧ Dp K H vr (rowsD p.rs) := by
  cases h with
  | tup hs ha =>
    cases ha with
    | cons h1 r =>
      cases r with
      | cons h2 r =>
        cases r with
        | cons h3 r =>
          cases r with
          | cons h4 r =>
            cases r
            cases h1
            cases h4
            exact ⟨_, _, _, rfl, hs, h2, h3⟩
theorem pcMk {a : Addr} {p : Pc} {va vr : V} (hs : SqT K H a [.str p.c, va, vr, .int p.n]) (ha : Dp K H va (argsD p.as)) (hr : Dp K H vr (rowsD p.rs)) : Dp K H (.ref a) (pcD p) := .tup hs (.cons (.str _) (.cons ha (.cons hr (.cons (.int _) .nil))))
end
theorem TS.lst {H : Hp} {D : Addr} {xs : List V} {o : HO} (h : H D = some (.lst xs)) : TS H (upd H D o) := fun a u e t => by
  rw [upd_ne fun z => ?_]
  · exact e
  · rw [z, h] at e
    have e2 := Option.some.inj e
    rcases t with ⟨xs, rfl⟩ | ⟨p, xs, rfl⟩ <;> cases e2
theorem allPl {K : PySem.W.Frag} {H H' : Hp} {n : Nat} {ds : List PyData} {xs : List V} (pl : ∀ d ∈ ds, Pl n d) (k : TS H H') (h : DpAll K H xs ds) : DpAll K H' xs ds := allTS (fun d hd => dpTS k (pl d hd)) h
/-- [e for x in t], t a tuple: each item gives new data -/
theorem lcMapN {K : PySem.W.Frag} {a : Addr} {xs : List V} {ds : List PyData} {j n : Nat} {te : TE} {σ : L2.St} {H1 : Hp} {D : Addr} {Qd : Hp → Prop} (g : PyData → PyData) (ha : SqT K H1 a xs) (hx : DpAll K H1 xs ds) (pl : ∀ d ∈ ds, Pl n (g d)) (hn : ds.length ≤ 1000) (hD : H1 D = none) (hw : ∀ v, wipe ((wipe σ [j]).set j (some v)) [j] = wipe σ [j])
    (hs : ∀ v d H, d ∈ ds → Same H1 H → Dp K H v d → ∀ (R : VK), (∀ y H2, Same H H2 → Dp K H2 y (g d) → R y H2) → te ((wipe σ [j]).set j (some v)) H R)
    (hd : ∀ H ys, Same H1 H → H D = some (.lst ys) → DpAll K H ys (ds.map g) → Qd H) :
    ∃ W : Nat → Nat → Hp → Prop, (∃ m, W 0 m (upd H1 D (.lst []))) ∧ ∀ i m H, W i m H →
      ((Itt K a).stop i H ∧ Qd H) ∨ ((Itt K a).go i H ∧ ∃ Nx : Hp → Prop, (∀ H', Nx H' → ∃ m', m' < m ∧ W (i + 1) m' H') ∧ ∀ x H', (Itt K a).yld i H x H' → gName j x (wipe σ [j]) H' fun σ2 H2 => wipe σ2 [j] = wipe σ [j] ∧ tYes σ2 H2 fun b H3 =>
        if b = true then te σ2 H3 fun y H4 => ∃ acc, H4 D = some (.lst acc) ∧ acc.length < sizeLine ∧ Nx (upd H4 D (.lst (acc ++ [y]))) else Nx H3) := by
  have hl := dpLen hx
  refine lcJ (n := ds.length) (fun i H => ∃ ys, At H1 D ys H ∧ DpAll K H ys ((ds.take i).map g)) ⟨[], ⟨sameUpd hD, upd_same⟩, .nil⟩ (fun i H lt h => ⟨xs, xs[i], sameTup h.choose_spec.1.1 ha, List.getElem?_eq_getElem (by omega)⟩)
    (fun H h => ⟨xs, sameTup h.choose_spec.1.1 ha, by omega⟩) (fun i H x H' lt h y => ?_) (fun H h => ?_)
  · obtain ⟨ys, hat, hys⟩ := h
    obtain ⟨rfl, y⟩ := y
    have e := y xs (sameTup hat.1 ha)
    obtain ⟨v, h1, h2⟩ := dpAt hx (List.getElem?_eq_getElem lt)
    obtain rfl : v = x := Option.some.inj (h1.symm.trans e)
    refine ⟨hw v, ?_⟩
    unfold tYes
    dsimp only
    rw [if_pos rfl]
    refine hs v ds[i] _ (List.getElem_mem lt) hat.1 (dpSame hat.1 _ _ h2) _ fun z H2 s2 hz => ?_
    obtain ⟨e3, e4⟩ := hat.put (ys := ys ++ [z]) hD s2
    have hly := dpLen hys
    refine ⟨_, e3, ?_, _, e4, ?_⟩
    · rw [hly, List.length_map, List.length_take, sizeLine_eq]
      omega
    · rw [List.take_succ_eq_append_getElem lt, List.map_append]
      have t := TS.lst (o := .lst (ys ++ [z])) e3
      refine dpSnoc (dpTS t (pl _ (List.getElem_mem lt)) _ hz) (allPl (n := n) (fun d hd => ?_) t (dpAllSame s2 _ _ hys))
      obtain ⟨c, hc, rfl⟩ := List.mem_map.mp hd
      exact pl c (List.mem_of_mem_take hc)
  · obtain ⟨ys, hat, hys⟩ := h
    rw [List.take_length] at hys
    exact hd H ys hat.1 hat.2 hys
end PLC

set_option Elab.async false
set_option linter.all false
set_option maxRecDepth 100000
set_option maxHeartbeats 4000000
/-! trees as data, and what stands at a place of a run -/
namespace TRE
open PySem PySem.Spec PyProof.Rows L2 ND KS KS.La PLC
/-- a part of a text: a text, or an item of a row -/
inductive Pt
  | txt (z : Str)
  | itm (r i : Int)
inductive Tr
  | stop
  | wr (o : Str) (ps : List Pt) (next : Tr)
  | rd (ks : List (Str × Str)) (cs : List (List (Option Str) × Tr)) (last : Tr)
def ptD : Pt → PyData
  | .txt z => .str z
  | .itm r i => .tuple [.int r, .int i]
def kyD (k : Str × Str) : PyData := .tuple [.str k.1, .str k.2]
mutual
def trD : Tr → PyData
  | .stop => .tuple [.str "stop"]
  | .wr o ps n => .tuple [.str "write", .str o, .tuple (ps.map ptD), trD n]
  | .rd ks cs l => .tuple [.str "read", .tuple (ks.map kyD), .tuple (csD cs), trD l]
def csD : List (List (Option Str) × Tr) → List PyData
  | [] => []
  | (r, t) :: cs => .tuple [rowD r, trD t] :: csD cs
end
theorem csD_map : ∀ cs, csD cs = cs.map fun c => .tuple [rowD c.1, trD c.2]
  | [] => by rw [csD]; rfl
  | (r, t) :: cs => by rw [csD, csD_map cs]; rfl
/-- past the writes -/
def nextRead : Tr → Tr
  | .wr _ _ n => nextRead n
  | t => t
def wrs : Tr → Nat
  | .wr _ _ n => wrs n + 1
  | _ => 0
def pickC (r : List (Option Str)) : List (List (Option Str) × Tr) → Tr → Tr
  | [], l => l
  | (g, t) :: cs, l => if g = r then t else pickC r cs l
/-- the node behind a read -/
def after (r : List (Option Str)) : Tr → Tr
  | .rd _ cs l => pickC r cs l
  | t => t
/-- an item of a row, or nothing -/
def itemS (rows : List (List (Option Str))) (r i : Int) : Str :=
  if 0 ≤ r ∧ r < (rows.length : Int) then
    (if 0 ≤ i ∧ i < ((rows.getD r.toNat []).length : Int) then ((rows.getD r.toNat []).getD i.toNat none).getD "" else "")
  else ""
def pieceS (rows : List (List (Option Str))) : Pt → Str
  | .txt z => z
  | .itm r i => itemS rows r i
theorem argsRow (as : List Str) : argsD as = rowD (as.map some) := by
  show PyData.tuple (as.map .str) = .tuple ((as.map some).map ansD)
  rw [List.map_map]
  rfl
section
variable {K : PySem.W.Frag} {H : Hp}
theorem dpTup {v : V} {ds : List PyData} (h : Dp K H v (.tuple ds)) : ∃ a xs, v = .ref a ∧ SqT K H a xs ∧ DpAll K H xs ds := by
  cases h with
  | tup a b => exact ⟨_, _, rfl, a, b⟩
theorem dpOne {xs : List V} {d : PyData} (h : DpAll K H xs [d]) : ∃ y, xs = [y] ∧ Dp K H y d := by
  cases h with
  | cons a b => cases b; exact ⟨_, rfl, a⟩
theorem dpTwo {xs : List V} {d e : PyData} (h : DpAll K H xs [d, e]) : ∃ y z, xs = [y, z] ∧ Dp K H y d ∧ Dp K H z e := by
  cases h with
  | cons a b =>
    obtain ⟨z, rfl, c⟩ := dpOne b
    exact ⟨_, _, rfl, a, c⟩
theorem dpFour {xs : List V} {a b c d : PyData} (h : DpAll K H xs [a, b, c, d]) : ∃ x y z u, xs = [x, y, z, u] ∧ Dp K H x a ∧ Dp K H y b ∧ Dp K H z c ∧ Dp K H u d := by
  cases h with
  | cons h1 h2 =>
    cases h2 with
    | cons h2 h3 =>
      obtain ⟨z, u, rfl, h4, h5⟩ := dpTwo h3
      exact ⟨_, _, _, _, rfl, h1, h2, h4, h5⟩
theorem dpStr {v : V} {z : Str} (h : Dp K H v (.str z)) : v = .str z := by
  cases h
  rfl
theorem dpInt {v : V} {i : Int} (h : Dp K H v (.int i)) : v = .int i := by
  cases h
  rfl
theorem stopAt {v : V} (h : Dp K H v (trD .stop)) : ∃ a, v = .ref a ∧ SqT K H a [.str "stop"] := by
  rw [trD] at h
  obtain ⟨a, xs, rfl, hs, hx⟩ := dpTup h
  obtain ⟨y, rfl, hy⟩ := dpOne hx
  rw [dpStr hy] at hs
  exact ⟨a, rfl, hs⟩
theorem wrAt {v : V} {o : Str} {ps : List Pt} {n : Tr} (h : Dp K H v (trD (.wr o ps n))) : ∃ a vp vn, v = .ref a ∧ SqT K H a [.str "write", .str o, vp, vn] ∧ Dp K H vp (.tuple (ps.map ptD)) ∧ Dp K H vn (trD n) := by
  rw [trD] at h
  obtain ⟨a, xs, rfl, hs, hx⟩ := dpTup h
  obtain ⟨x, y, z, u, rfl, h1, h2, h3, h4⟩ := dpFour hx
  rw [dpStr h1, dpStr h2] at hs
  exact ⟨a, z, u, rfl, hs, h3, h4⟩
theorem rdAt {v : V} {ks : List (Str × Str)} {cs : List (List (Option Str) × Tr)} {l : Tr} (h : Dp K H v (trD (.rd ks cs l))) : ∃ a vk vc vl, v = .ref a ∧ SqT K H a [.str "read", vk, vc, vl] ∧ Dp K H vk (.tuple (ks.map kyD)) ∧ Dp K H vc (.tuple (csD cs)) ∧ Dp K H vl (trD l) := by
  rw [trD] at h
  obtain ⟨a, xs, rfl, hs, hx⟩ := dpTup h
  obtain ⟨x, y, z, u, rfl, h1, h2, h3, h4⟩ := dpFour hx
  rw [dpStr h1] at hs
  exact ⟨a, y, z, u, rfl, hs, h2, h3, h4⟩
/-- the node's word -/
def word : Tr → Str
  | .stop => "stop"
  | .wr _ _ _ => "write"
  | .rd _ _ _ => "read"
theorem headAt {v : V} {t : Tr} (h : Dp K H v (trD t)) : ∃ a xs, v = .ref a ∧ SqT K H a xs ∧ atI xs 0 = some (.str (word t)) := by
  cases t with
  | stop => obtain ⟨a, e, hs⟩ := stopAt h; exact ⟨a, _, e, hs, atI_nat (j := 0) rfl⟩
  | wr o ps n => obtain ⟨a, _, _, e, hs, _⟩ := wrAt h; exact ⟨a, _, e, hs, atI_nat (j := 0) rfl⟩
  | rd ks cs l => obtain ⟨a, _, _, _, e, hs, _⟩ := rdAt h; exact ⟨a, _, e, hs, atI_nat (j := 0) rfl⟩
end
theorem wordEq (s t : Str) : decide (V.str s = V.str t) = decide (s = t) := by
  by_cases h : s = t
  · rw [h, decide_eq_true rfl, decide_eq_true rfl]
  · rw [decide_eq_false h, decide_eq_false fun z => h (V.str.inj z)]
theorem ww : (decide (("write" : Str) = "write")) = true := by decide +kernel
theorem sw : (decide (("stop" : Str) = "write")) = false := by decide +kernel
theorem rw' : (decide (("read" : Str) = "write")) = false := by decide +kernel
theorem wr' : (decide (("write" : Str) = "read")) = false := by decide +kernel
theorem sr : (decide (("stop" : Str) = "read")) = false := by decide +kernel
theorem rr : (decide (("read" : Str) = "read")) = true := by decide +kernel
theorem ws : (decide (("write" : Str) = "stop")) = false := by decide +kernel
theorem ss : (decide (("stop" : Str) = "stop")) = true := by decide +kernel
section
variable {P : Program} {w : World} {K : PySem.W.Frag} {mg : Str → Option Value} {base : Heap} {f : Addr} {fd : FuncData}
theorem eqRow (a b : List (Option Str)) : PyData.eqv (rowD a) (rowD b) = decide (a = b) := by
  rw [Bool.eq_iff_iff, eqvPl (plRow a) (plRow b), decide_eq_true_eq]
  exact ⟨rowD_inj, fun h => by rw [h]⟩
end
end TRE

set_option Elab.async false
set_option linter.all false
set_option maxRecDepth 100000
set_option maxHeartbeats 4000000
namespace TRE
open PySem PySem.Spec PyProof.Rows L2 ND KS KS.La PLC
/-- the step at a node -/
def stepD (rows : List (List (Option Str))) : Tr → PyData
  | .stop => .tuple [.str "stop"]
  | .rd ks _ _ => .tuple [.str "read", .tuple (ks.map kyD)]
  | .wr o ps _ => if (Txt.join "" (ps.map (pieceS rows))).length ≤ 400 then .tuple [.str "write", .str o, .str (Txt.join "" (ps.map (pieceS rows)))] else .tuple [.str "stop"]
def PtOk : Pt → Prop
  | .txt z => TOk z
  | .itm _ _ => True
/-- the rows that parts are taken from -/
def RowsOk (rows : List (List (Option Str))) : Prop := ∀ r ∈ rows, ∀ z, some z ∈ r → TOk z
theorem tokEmpty : TOk "" := by decide +kernel
theorem itemTok {rows : List (List (Option Str))} (h : RowsOk rows) (r i : Int) : TOk (itemS rows r i) := by
  unfold itemS
  split
  · rename_i h1
    split
    · rename_i h2
      have l1 : r.toNat < rows.length := by omega
      have e1 : rows.getD r.toNat [] = rows[r.toNat] := by rw [List.getD_eq_getElem?_getD, List.getElem?_eq_getElem l1]; rfl
      rw [e1] at h2 ⊢
      have l2 : i.toNat < rows[r.toNat].length := by omega
      rw [List.getD_eq_getElem?_getD, List.getElem?_eq_getElem l2]
      show TOk ((rows[r.toNat][i.toNat]).getD "")
      cases e : rows[r.toNat][i.toNat] with
      | none => exact tokEmpty
      | some z => exact h _ (List.getElem_mem l1) z (by rw [← e]; exact List.getElem_mem l2)
    · exact tokEmpty
  · exact tokEmpty
theorem pieceTok {rows : List (List (Option Str))} (h : RowsOk rows) {p : Pt} (hp : PtOk p) : TOk (pieceS rows p) := by
  cases p with
  | txt z => exact hp
  | itm r i => exact itemTok h r i
section
variable {P : Program} {w : World} {K : PySem.W.Frag} {mg : Str → Option Value} {base : Heap} {f : Addr} {fd : FuncData}
def spPiece (K : PySem.W.Frag) : Sp := fun vs H Q _ => ∃ v u p rows, vs = [v, u] ∧ Dp K H v (ptD p) ∧ Dp K H u (.tuple (rows.map rowD)) ∧ RowsOk rows ∧ Q (.str (pieceS rows p)) H
abbrev nPiece : List Str := ["part", "rows", "row", "item"]
theorem scPiece : FnScope nPiece ["part", "rows"] (defScope sPiece) := ⟨rfl, rfl, rfl, by decide +kernel, rfl, by decide +kernel, by decide +kernel⟩
theorem okPiece {k : Nat} (F : FnP K "_piece" sPiece f fd) (B : Bn mg) : FnOk P w K mg base CX0 (k + 1) f fd ["part", "rows"] (spPiece K) := by
  refine F.ok scPiece (fun vs H Q E h => ?_) (fun cdv A outer s H vs Q E hr h => ?_)
  · obtain ⟨v, u, p, rows, rfl, _⟩ := h
    rfl
  · obtain ⟨v, u, p, rows, rfl, hd, hu, hok, q⟩ := h
    obtain ⟨b, xs, rfl, hb, hx⟩ := dpTup hu
    have lx := dpLen hx
    rw [List.length_map] at lx
    refine ⟨_, PSs.nox (pss_cons (ps_if (pt_val (pe_callB call_isi (by rfl) B.isi (by decide +kernel) (pa_cons (pv 0) (pa_cons (pe_bltn (v := .ty "str") (by rfl) B.str (by decide +kernel) rfl) pa_nil)))) (pss_one (ps_ret (pv 0))) pss_nil) (C8.pss_cut (ps_asg (pv 0) (pg_tup rfl (pgs_cons (pg_name (i := 2) scPiece.nd rfl (.inl rfl)) (pgs_cons (pg_name (i := 3) scPiece.nd rfl (.inl rfl)) pgs_nil)))) (pss_cons (ps_if (PW.pt (pw_or (pt_not (pt_chain op_le op_lt pe_int (pv 2) (pe_callB call_len_seq (by rfl) B.len PySem.boot_len (pa_cons (pv 1) pa_nil))))
        (pw_or1 (pt_not (pt_chain op_le op_lt pe_int (pv 3) (pe_callB call_len_seq (by rfl) B.len PySem.boot_len (pa_cons (pe_ix ix_tup (pv 1) (pv 2) (fun _ _ => rfl)) pa_nil))))))) (pss_one (ps_ret pe_str)) pss_nil) (pss_one (ps_ret (pe_orT (pe_ix ix_tup (pe_ix ix_tup (pv 1) (pv 2) (fun _ _ => rfl)) (pv 3) (fun _ _ => rfl)) (pe_one pe_str))))))), ?_⟩
    refine ⟨v, rfl, v, .ty "str", _, _, _, rfl, .ty _, dpTy hd, dpKit hd (.inr (.inl rfl)), _, rfl, ?_⟩
    cases p with
    | txt z =>
      cases hd
      exact iteT ⟨_, rfl, q⟩
    | itm r i =>
      have q' : Q (.str (itemS rows r i)) H := q
      refine iteF ?_
      obtain ⟨a, ys, rfl, ha, hy⟩ := dpTup hd
      obtain ⟨y, z, rfl, h1, h2⟩ := dpTwo hy
      obtain rfl := dpInt h1
      obtain rfl := dpInt h2
      refine ⟨fun σ' H' => σ' = [some (.ref a), some (.ref b), some (.int r), some (.int i)] ∧ H = H', ?_, ?_⟩
      · exact ⟨.ref a, rfl, a, _, rfl, ha, rfl, _, _, rfl, _, _, rfl, rfl, rfl, rfl⟩
      rintro _ _ ⟨rfl, rfl⟩
      refine ⟨.int r, rfl, 0, r, rfl, rfl, _, rfl, ?_⟩
      by_cases h0 : 0 ≤ r
      · rw [if_pos (decide_eq_true h0)]
        refine ⟨.ref b, rfl, b, xs, rfl, .inr hb, r, (xs.length : Int), rfl, rfl, _, rfl, ?_⟩
        by_cases h3 : r < (xs.length : Int)
        · rw [decide_eq_true h3]
          obtain ⟨j, rfl⟩ : ∃ j : Nat, r = (j : Int) := ⟨r.toNat, by omega⟩
          have hj : j < rows.length := by omega
          have er : (rows.map rowD)[j]? = some (rowD rows[j]) := by rw [List.getElem?_map, List.getElem?_eq_getElem hj]; rfl
          obtain ⟨v', e1, e2⟩ := dpAt hx er
          obtain ⟨c, rfl, hc⟩ := rowAt e2
          have ad : rows.getD j [] = rows[j] := by rw [List.getD_eq_getElem?_getD, List.getElem?_eq_getElem hj]; rfl
          refine iteF ⟨.int i, rfl, 0, i, rfl, rfl, _, rfl, ?_⟩
          by_cases h4 : 0 ≤ i
          · rw [if_pos (decide_eq_true h4)]
            refine ⟨.ref b, rfl, .int (j : Int), rfl, b, xs, (j : Int), .ref c, rfl, rfl, hb, atI_nat e1, c, _, rfl, .inr hc, i, _, rfl, rfl, _, rfl, ?_⟩
            rw [List.length_map]
            by_cases h5 : i < (rows[j].length : Int)
            · rw [decide_eq_true h5]
              obtain ⟨m, rfl⟩ : ∃ m : Nat, i = (m : Int) := ⟨i.toNat, by omega⟩
              have hm : m < rows[j].length := by omega
              have ei : (rows[j].map vA)[m]? = some (vA (rows[j][m])) := by rw [List.getElem?_map, List.getElem?_eq_getElem hm]; rfl
              refine iteF ⟨.ref b, rfl, .int (j : Int), rfl, b, xs, (j : Int), .ref c, rfl, rfl, hb, atI_nat e1, .int (m : Int), rfl, c, _, (m : Int), _, rfl, rfl, hc, atI_nat ei, ?_⟩
              have eS : itemS rows (j : Int) (m : Int) = (rows[j][m]).getD "" := by
                unfold itemS
                rw [if_pos ⟨h0, by omega⟩, Int.toNat_natCast, ad, if_pos ⟨h4, h5⟩, Int.toNat_natCast, List.getD_eq_getElem?_getD, List.getElem?_eq_getElem hm]
                rfl
              rw [eS] at q'
              cases eo : rows[j][m] with
              | none =>
                rw [eo] at q'
                exact ⟨false, rfl, iteF q'⟩
              | some z =>
                rw [eo] at q'
                have tz : TOk z := hok _ (List.getElem_mem hj) z (by rw [← eo]; exact List.getElem_mem hm)
                have tl : z.length ≤ 1000 := tz.2.1
                refine ⟨_, ⟨by rw [sizeLine_eq]; omega, rfl⟩, ?_⟩
                by_cases hz : (z.length : Int) = 0
                · have : ((z.length : Int) != 0) = false := by rw [hz]; rfl
                  rw [this]
                  have ez : z = "" := by
                    have h6 : z.cps.size = 0 := by
                      have : z.length = 0 := by omega
                      exact this
                    cases z with
                    | mk cps =>
                      have : cps = #[] := Array.eq_empty_of_size_eq_zero h6
                      rw [this]
                      rfl
                  rw [ez] at q'
                  exact iteF q'
                · have : ((z.length : Int) != 0) = true := by simpa using hz
                  rw [this]
                  exact iteT q'
            · rw [decide_eq_false h5]
              have eS : itemS rows (j : Int) i = "" := by
                unfold itemS
                rw [if_pos ⟨h0, by omega⟩, Int.toNat_natCast, ad, if_neg fun z => h5 z.2]
              rw [eS] at q'
              exact iteT q'
          · rw [if_neg (by rw [decide_eq_true_eq]; exact h4)]
            have eS : itemS rows (j : Int) i = "" := by
              unfold itemS
              rw [if_pos ⟨h0, by omega⟩, if_neg fun z => h4 z.1]
            rw [eS] at q'
            exact ⟨_, rfl, iteT q'⟩
        · rw [decide_eq_false h3]
          have eS : itemS rows r i = "" := by
            unfold itemS
            rw [if_neg fun z => h3 (by omega)]
          rw [eS] at q'
          exact iteT q'
      · rw [if_neg (by rw [decide_eq_true_eq]; exact h0)]
        have eS : itemS rows r i = "" := by
          unfold itemS
          rw [if_neg fun z => h0 z.1]
        rw [eS] at q'
        exact ⟨_, rfl, iteT q'⟩
def spStepOf (K : PySem.W.Frag) : Sp := fun vs H Q _ => ∃ v u t rows, vs = [v, u] ∧ Dp K H v (trD t) ∧ Dp K H u (.tuple (rows.map rowD)) ∧ RowsOk rows ∧ (∀ o ps n, t = .wr o ps n → ps.length ≤ 100 ∧ ∀ p ∈ ps, PtOk p) ∧ ∀ r H', Same H H' → Dp K H' r (stepD rows t) → Q r H'
abbrev nStepOf : List Str := ["node", "rows", "text", "part"]
theorem scStepOf : FnScope nStepOf ["node", "rows"] (defScope sStepOf) := ⟨rfl, rfl, rfl, by decide +kernel, rfl, by decide +kernel, by decide +kernel⟩
theorem okStepOf {k : Nat} {S : Addr} (F : FnP K "_step_of" sStepOf f fd) (B : Bn mg) (gT : IntG mg "LONGEST_TEXT" 400) (gS : mg "STOP" = some (.ref S)) (hS : ∀ H, SqT K H S [.str "stop"]) (Pc : Has P w K mg base (k + 1) "_piece" ["part", "rows"] (spPiece K)) : FnOk P w K mg base CX0 (k + 2) f fd ["node", "rows"] (spStepOf K) := by
  obtain ⟨fP, fdP, gP, kP, bP, GP⟩ := Pc.ex
  refine F.ok scStepOf (fun vs H Q E h => ?_) (fun cdv A outer s H vs Q E hr h => ?_)
  · obtain ⟨v, u, t, rows, rfl, _⟩ := h
    rfl
  · obtain ⟨v, u, t, rows, rfl, hd, hu, hok, hps, q⟩ := h
    refine ⟨_, PSs.nox (pss_cons (ps_if (pt_cmpR op_eq (pe_ix ix_tup (pv 0) pe_int (fun _ _ => rfl)) pe_str (nomark _)) (pss_one (ps_ret (pe_tup (pa_cons (pe_str) (pa_cons (pe_ix ix_tup (pv 0) pe_int (fun _ _ => rfl)) pa_nil))))) pss_nil) (pss_cons (ps_if (pt_cmpR op_eq (pe_ix ix_tup (pv 0) pe_int (fun _ _ => rfl)) pe_str (nomark _)) (pss_one (ps_ret (pe_glob (v := .ref S) (by rfl) gS rfl))) pss_nil) (pss_cons (ps_set (i := 2) scStepOf.nd rfl (.inl rfl) (pe_join pe_str (pe_lc (own := [("part", 3)]) (g := gName 3) rfl scStepOf.nd (pi_tup (pe_ix ix_tup (pv 0) pe_int (fun _ _ => rfl))) (blkOk_by (N := nStepOf) (sc := defScope sStepOf) (by decide +kernel))
        (fun _ _ _ _ _ => pg_name (i := 3) scStepOf.nd rfl (.inl rfl) (hf := .inr rfl)) (fun _ _ _ _ _ => pts_nil) (fun _ _ _ _ _ => pe_call GP hr (by rfl) gP kP bP .nil pass0 (pa_cons (pv 3) (pa_cons (pv 1) pa_nil)))))) (pss_cons (ps_if (pt_cmpR op_gt (pe_callB call_len_str (by rfl) B.len PySem.boot_len (pa_cons (pv 2) pa_nil)) (C8.pe_gc (by rfl) gT.gc) (nomark _)) (pss_one (ps_ret (pe_glob (v := .ref S) (by rfl) gS rfl))) pss_nil) (pss_one (ps_ret (pe_tup (pa_cons (pe_str) (pa_cons (pe_ix ix_tup (pv 0) pe_int (fun _ _ => rfl)) (pa_cons (pv 2) pa_nil)))))))))), ?_⟩
    have stp : ∀ H', Dp K H' (.ref S) (.tuple [.str "stop"]) := fun H' => .tup (hS H') (.cons (.str _) .nil)
    obtain ⟨a0, xs0, ev, hs0, h0⟩ := headAt hd
    subst ev
    refine ⟨.ref a0, rfl, a0, xs0, 0, .str (word t), rfl, rfl, hs0, h0, rfl, _, rfl, ?_⟩
    rw [wordEq]
    cases t with
    | stop =>
      rw [show word .stop = "stop" from rfl, sr]
      refine iteF ⟨.ref a0, rfl, a0, xs0, 0, .str "stop", rfl, rfl, hs0, h0, rfl, _, rfl, ?_⟩
      rw [wordEq, ss]
      exact iteT (q _ H (Same.refl H) (stp H))
    | rd ks cs l =>
      rw [show word (.rd ks cs l) = "read" from rfl, rr]
      obtain ⟨a2, vk, vc, vl, ea, hs2, hk, _⟩ := rdAt hd
      cases ea
      refine iteT ⟨.ref a0, rfl, a0, _, 1, vk, rfl, rfl, hs2, atI_nat (j := 1) rfl, (by show 2 ≤ sizeLine; decide), fun p hp => ?_⟩
      exact q _ _ (sameUpd hp) (.tup (.inl (.inl upd_same)) (.cons (.str _) (.cons (dpSame (sameUpd hp) _ _ hk) .nil)))
    | wr o ps n =>
      rw [show word (.wr o ps n) = "write" from rfl, wr']
      obtain ⟨a2, vp, vn, ea, hs2, hp2, _⟩ := wrAt hd
      cases ea
      obtain ⟨hl, hpt⟩ := hps o ps n rfl
      obtain ⟨b, xs, rfl, hb, hx⟩ := dpTup hp2
      have lx := dpLen hx
      rw [List.length_map] at lx
      refine iteF ⟨.ref a0, rfl, a0, xs0, 0, .str "write", rfl, rfl, hs0, h0, rfl, _, rfl, ?_⟩
      rw [wordEq, ws]
      refine iteF ⟨⟨_, rfl⟩, .ref a0, rfl, a0, _, 2, .ref b, rfl, rfl, hs2, atI_nat (j := 2) rfl, b, rfl, ⟨xs, hb⟩, fun D hD => ?_⟩
      refine lcJ (n := ps.length) (vs := [3]) (fun i H' => At H D ((ps.take i).map fun p => .str (pieceS rows p)) H') ⟨sameUpd hD, upd_same⟩ (fun i H' lt h => ⟨xs, xs[i], sameTup h.1 hb, List.getElem?_eq_getElem (by omega)⟩) (fun H' h => ⟨xs, sameTup h.1 hb, by omega⟩) (fun i H' x H2 lt h y => ?_) (fun H' h => ?_)
      · obtain ⟨rfl, y⟩ := y
        have ex := y xs (sameTup h.1 hb)
        have ep : (ps.map ptD)[i]? = some (ptD ps[i]) := by rw [List.getElem?_map, List.getElem?_eq_getElem lt]; rfl
        obtain ⟨v', e1, e2⟩ := dpAt hx ep
        obtain rfl : v' = x := Option.some.inj (e1.symm.trans ex)
        refine ⟨rfl, ?_⟩
        unfold tYes
        dsimp only
        rw [if_pos rfl]
        refine ⟨v', rfl, u, rfl, v', u, ps[i], rows, rfl, dpSame h.1 _ _ e2, dpSame h.1 _ _ hu, hok, ?_⟩
        obtain ⟨e3, e4⟩ := h.put (ys := (ps.take i).map (fun p => .str (pieceS rows p)) ++ [.str (pieceS rows ps[i])]) hD (Same.refl _)
        refine ⟨_, e3, by rw [List.length_map, List.length_take, sizeLine_eq]; omega, ?_⟩
        rw [List.take_succ_eq_append_getElem lt, List.map_append]
        exact e4
      · rw [List.take_length] at h
        have em : (ps.map fun p => V.str (pieceS rows p)) = (ps.map (pieceS rows)).map V.str := by rw [List.map_map]; rfl
        have hD2 := h.2
        rw [em] at hD2
        have tks : ∀ z ∈ ps.map (pieceS rows), TOk z := fun z hz => by
          obtain ⟨p, hp, rfl⟩ := List.mem_map.mp hz
          exact pieceTok hok (hpt p hp)
        have sum : ∀ l : List Str, (∀ z ∈ l, TOk z) → (l.map (·.length)).sum ≤ 1000 * l.length := by
          intro l
          induction l with
          | nil => intro _; exact Nat.zero_le _
          | cons z l ih =>
            intro hl
            have h1 := ih fun y hy => hl y (List.mem_cons_of_mem _ hy)
            have h2 : z.length ≤ 1000 := (hl z List.mem_cons_self).2.1
            rw [List.map_cons, List.sum_cons, List.length_cons]
            omega
        have hsum := sum _ tks
        have hlen : (ps.map (pieceS rows)).length ≤ 100 := by rw [List.length_map]; exact hl
        refine ⟨"", D, ps.map (pieceS rows), rfl, rfl, .inl (.inl (.inl hD2)), ?_, ?_⟩
        · have e0 : ("" : Str).length = 0 := by decide +kernel
          rw [e0]
          omega
        have hT : (Txt.join "" (ps.map (pieceS rows))).length ≤ sizeLine := by
          have h3 := StrLaws.join_length_le "" (ps.map (pieceS rows))
          have e0 : ("" : Str).length = 0 := by decide +kernel
          rw [e0] at h3
          rw [sizeLine_eq]
          have h4 : (Txt.join "" (ps.map (pieceS rows))).length ≤ ((ps.map (pieceS rows)).map (·.length)).sum + (ps.map (pieceS rows)).length * 0 := by
            rw [← StrLaws.glued_eq_join] at h3
            exact h3
          omega
        have hq : stepD rows (.wr o ps n) = if (Txt.join "" (ps.map (pieceS rows))).length ≤ 400 then .tuple [.str "write", .str o, .str (Txt.join "" (ps.map (pieceS rows)))] else .tuple [.str "stop"] := rfl
        rw [hq] at q
        generalize Txt.join "" (ps.map (pieceS rows)) = T at *
        refine ⟨.str T, rfl, T, rfl, hT, _, _, rfl, rfl, _, rfl, ite2 (fun e => ?_) (fun e => ?_)⟩
        · have e1 : (400 : Int) < (T.length : Int) := of_decide_eq_true e
          rw [if_neg (by omega)] at q
          exact q _ H' h.1 (stp H')
        · have e1 : ¬ (400 : Int) < (T.length : Int) := fun y => e (decide_eq_true y)
          rw [if_pos (by omega)] at q
          refine ⟨.ref a0, rfl, a0, _, 1, .str o, rfl, rfl, sameTup h.1 hs2, atI_nat (j := 1) rfl, .str T, rfl, (by show 3 ≤ sizeLine; decide), fun p hp => ?_⟩
          exact q _ _ (h.1.trans (sameUpd hp)) (.tup (.inl (.inl upd_same)) (.cons (.str _) (.cons (.str _) (.cons (.str _) .nil))))
end
end TRE

set_option Elab.async false
set_option linter.all false
set_option maxRecDepth 100000
set_option maxHeartbeats 4000000
namespace TRE
open PySem PySem.Spec PyProof.Rows L2 ND KS KS.La PLC
section
variable {P : Program} {w : World} {K : PySem.W.Frag} {mg : Str → Option Value} {base : Heap} {f : Addr} {fd : FuncData}
def spPieceL (K : PySem.W.Frag) : Sp := fun vs H Q _ => ∃ v b xs p rows, vs = [v, .ref b] ∧ Dp K H v (ptD p) ∧ SqL K H b xs ∧ DpAll K H xs (rows.map rowD) ∧ RowsOk rows ∧ Q (.str (pieceS rows p)) H
abbrev nPT : List Str := ["_law_part", "_law_rows", "_law_there"]
theorem scPT : FnScope nPT ["_law_part", "_law_rows"] (defScope lPartText) := ⟨rfl, rfl, rfl, by decide +kernel, rfl, by decide +kernel, by decide +kernel⟩
theorem okPartText {k : Nat} (F : FnP K "_law_part_text" lPartText f fd) (B : Bn mg) : FnOk P w K mg base CX0 (k + 1) f fd ["_law_part", "_law_rows"] (spPieceL K) := by
  refine F.ok scPT (fun vs H Q E h => ?_) (fun cdv A outer s H vs Q E hr h => ?_)
  · obtain ⟨v, b, xs, p, rows, rfl, _⟩ := h
    rfl
  · obtain ⟨v, b, xs, p, rows, rfl, hd, hb, hx, hok, q⟩ := h
    have lx := dpLen hx
    rw [List.length_map] at lx
    refine ⟨_, PSs.nox (pss_cons (ps_if (pt_val (pe_callB call_isi (by rfl) B.isi (by decide +kernel) (pa_cons (pv 0) (pa_cons (pe_bltn (v := .ty "str") (by rfl) B.str (by decide +kernel) rfl) pa_nil)))) (pss_one (ps_ret (pv 0))) pss_nil) (C8.pss_cut (ps_set (i := 2) scPT.nd rfl (.inl rfl) (pe_and (pe_chain op_le op_lt pe_int (pe_ix ix_tup (pv 0) pe_int (fun _ _ => rfl)) (pe_callB call_len_seq (by rfl) B.len PySem.boot_len (pa_cons (pv 1) pa_nil)))
        (pe_one (pe_chain op_le op_lt pe_int (pe_ix ix_tup (pv 0) pe_int (fun _ _ => rfl)) (pe_callB call_len_seq (by rfl) B.len PySem.boot_len (pa_cons (pe_ix ix_list (pv 1) (pe_ix ix_tup (pv 0) pe_int (fun _ _ => rfl)) (fun _ _ => rfl)) pa_nil)))))) (pss_one (ps_ret (pe_ifExp (pt_val (pv 2)) (pe_orT (pe_ix ix_tup (pe_ix ix_list (pv 1) (pe_ix ix_tup (pv 0) pe_int (fun _ _ => rfl)) (fun _ _ => rfl)) (pe_ix ix_tup (pv 0) pe_int (fun _ _ => rfl)) (fun _ _ => rfl)) (pe_one pe_str)) pe_str))))), ?_⟩
    refine ⟨v, rfl, v, .ty "str", _, _, _, rfl, .ty _, dpTy hd, dpKit hd (.inr (.inl rfl)), _, rfl, ?_⟩
    cases p with
    | txt z =>
      cases hd
      exact iteT ⟨_, rfl, q⟩
    | itm r i =>
      have q' : Q (.str (itemS rows r i)) H := q
      refine iteF ?_
      obtain ⟨a, ys, rfl, ha, hy⟩ := dpTup hd
      obtain ⟨y, z, rfl, h1, h2⟩ := dpTwo hy
      obtain rfl := dpInt h1
      obtain rfl := dpInt h2
      have at0 : atI [V.int r, V.int i] 0 = some (.int r) := atI_nat (j := 0) rfl
      have at1 : atI [V.int r, V.int i] 1 = some (.int i) := atI_nat (j := 1) rfl
      refine ⟨fun σ' H' => ∃ t : Bool, σ' = [some (.ref a), some (.ref b), some (.bl t)] ∧ H = H' ∧ (t = true ↔ (0 ≤ r ∧ r < (rows.length : Int)) ∧ 0 ≤ i ∧ i < ((rows.getD r.toNat []).length : Int)), ?_, ?_⟩
      · refine ⟨.ref a, rfl, a, _, 0, .int r, rfl, rfl, ha, at0, 0, r, rfl, rfl, _, rfl, ?_⟩
        by_cases h0 : 0 ≤ r
        · rw [if_pos (decide_eq_true h0)]
          refine ⟨.ref b, rfl, b, xs, rfl, .inl hb, r, (xs.length : Int), rfl, rfl, _, rfl, ?_⟩
          by_cases h3 : r < (xs.length : Int)
          · rw [decide_eq_true h3]
            obtain ⟨j, rfl⟩ : ∃ j : Nat, r = (j : Int) := ⟨r.toNat, by omega⟩
            have hj : j < rows.length := by omega
            have er : (rows.map rowD)[j]? = some (rowD rows[j]) := by rw [List.getElem?_map, List.getElem?_eq_getElem hj]; rfl
            obtain ⟨v', e1, e2⟩ := dpAt hx er
            obtain ⟨c, rfl, hc⟩ := rowAt e2
            have ad : rows.getD (j : Int).toNat [] = rows[j] := by rw [Int.toNat_natCast, List.getD_eq_getElem?_getD, List.getElem?_eq_getElem hj]; rfl
            rw [ad]
            refine iteT ⟨.ref a, rfl, a, _, 1, .int i, rfl, rfl, ha, at1, 0, i, rfl, rfl, _, rfl, ?_⟩
            by_cases h4 : 0 ≤ i
            · rw [if_pos (decide_eq_true h4)]
              refine ⟨.ref b, rfl, .ref a, rfl, a, _, 0, .int (j : Int), rfl, rfl, ha, at0, b, xs, (j : Int), .ref c, rfl, rfl, hb, atI_nat e1, c, _, rfl, .inr hc, i, _, rfl, rfl, _, rfl, rfl, ?_⟩
              rw [List.length_map, decide_eq_true_eq]
              exact ⟨fun h5 => ⟨⟨h0, by omega⟩, h4, h5⟩, fun h5 => h5.2.2⟩
            · rw [if_neg (by rw [decide_eq_true_eq]; exact h4)]
              exact ⟨_, rfl, rfl, ⟨fun z => absurd z Bool.false_ne_true, fun z => absurd z.2.1 h4⟩⟩
          · rw [decide_eq_false h3]
            exact iteF ⟨_, rfl, rfl, ⟨fun z => absurd z Bool.false_ne_true, fun z => absurd z.1.2 (by omega)⟩⟩
        · rw [if_neg (by rw [decide_eq_true_eq]; exact h0)]
          exact ⟨_, rfl, iteF ⟨_, rfl, rfl, ⟨fun z => absurd z Bool.false_ne_true, fun z => absurd z.1.1 h0⟩⟩⟩
      rintro _ _ ⟨t, rfl, rfl, ht⟩
      refine ⟨.bl t, rfl, _, rfl, ?_⟩
      cases t with
      | false =>
        have eS : itemS rows r i = "" := by
          have no := fun z => Bool.false_ne_true (ht.mpr z)
          unfold itemS
          by_cases h1 : 0 ≤ r ∧ r < (rows.length : Int)
          · rw [if_pos h1]
            by_cases h2 : 0 ≤ i ∧ i < ((rows.getD r.toNat []).length : Int)
            · exact absurd ⟨h1, h2⟩ no
            · rw [if_neg h2]
          · rw [if_neg h1]
        rw [eS] at q'
        exact iteF q'
      | true =>
        obtain ⟨⟨h0, h3⟩, h4, h5⟩ := ht.mp rfl
        obtain ⟨j, rfl⟩ : ∃ j : Nat, r = (j : Int) := ⟨r.toNat, by omega⟩
        have hj : j < rows.length := by omega
        have er : (rows.map rowD)[j]? = some (rowD rows[j]) := by rw [List.getElem?_map, List.getElem?_eq_getElem hj]; rfl
        obtain ⟨v', e1, e2⟩ := dpAt hx er
        obtain ⟨c, rfl, hc⟩ := rowAt e2
        have ad : rows.getD (j : Int).toNat [] = rows[j] := by rw [Int.toNat_natCast, List.getD_eq_getElem?_getD, List.getElem?_eq_getElem hj]; rfl
        rw [ad] at h5
        obtain ⟨m, rfl⟩ : ∃ m : Nat, i = (m : Int) := ⟨i.toNat, by omega⟩
        have hm : m < rows[j].length := by omega
        have ei : (rows[j].map vA)[m]? = some (vA (rows[j][m])) := by rw [List.getElem?_map, List.getElem?_eq_getElem hm]; rfl
        refine iteT ⟨.ref b, rfl, .ref a, rfl, a, _, 0, .int (j : Int), rfl, rfl, ha, at0, b, xs, (j : Int), .ref c, rfl, rfl, hb, atI_nat e1, .ref a, rfl, a, _, 1, .int (m : Int), rfl, rfl, ha, at1, c, _, (m : Int), _, rfl, rfl, hc, atI_nat ei, ?_⟩
        have eS : itemS rows (j : Int) (m : Int) = (rows[j][m]).getD "" := by
          unfold itemS
          rw [if_pos ⟨h0, h3⟩, ad, if_pos ⟨h4, h5⟩, Int.toNat_natCast, List.getD_eq_getElem?_getD, List.getElem?_eq_getElem hm]
          rfl
        rw [eS] at q'
        cases eo : rows[j][m] with
        | none =>
          rw [eo] at q'
          exact ⟨false, rfl, iteF q'⟩
        | some z =>
          rw [eo] at q'
          have tz : TOk z := hok _ (List.getElem_mem hj) z (by rw [← eo]; exact List.getElem_mem hm)
          have tl : z.length ≤ 1000 := tz.2.1
          refine ⟨_, ⟨by rw [sizeLine_eq]; omega, rfl⟩, ?_⟩
          by_cases hz : (z.length : Int) = 0
          · have : ((z.length : Int) != 0) = false := by rw [hz]; rfl
            rw [this]
            have ez : z = "" := by
              have h6 : z.cps.size = 0 := by
                have : z.length = 0 := by omega
                exact this
              cases z with
              | mk cps =>
                have : cps = #[] := Array.eq_empty_of_size_eq_zero h6
                rw [this]
                rfl
            rw [ez] at q'
            exact iteF q'
          · have : ((z.length : Int) != 0) = true := by simpa using hz
            rw [this]
            exact iteT q'
end
end TRE

set_option Elab.async false
set_option linter.all false
set_option maxRecDepth 100000
set_option maxHeartbeats 4000000
namespace TRE
open PySem PySem.Spec PyProof.Rows L2 ND KS KS.La PLC
def RowOk (r : List (Option Str)) : Prop := r.length ≤ 4 ∧ ∀ z, some z ∈ r → TOk z
mutual
/-- sizes, all the way down -/
def TrOk : Tr → Prop
  | .stop => True
  | .wr _ ps n => (ps.length ≤ 100 ∧ ∀ p ∈ ps, PtOk p) ∧ TrOk n
  | .rd _ cs l => (cs.length ≤ 100 ∧ CsOk cs) ∧ TrOk l
def CsOk : List (List (Option Str) × Tr) → Prop
  | [] => True
  | (r, t) :: cs => (RowOk r ∧ TrOk t) ∧ CsOk cs
end
theorem csOk_mem : ∀ {cs : List (List (Option Str) × Tr)}, CsOk cs → ∀ c ∈ cs, RowOk c.1 ∧ TrOk c.2
  | [], _, c, h => absurd h (by simp)
  | (r, t) :: cs, h, c, hc => by
    rw [CsOk] at h
    rcases List.mem_cons.mp hc with rfl | hc
    · exact h.1
    · exact csOk_mem h.2 c hc
theorem okNextT : ∀ {t : Tr}, TrOk t → TrOk (nextRead t)
  | .stop, h => h
  | .rd _ _ _, h => h
  | .wr o ps n, h => by
    rw [TrOk] at h
    rw [nextRead]
    exact okNextT h.2
theorem okPick {r : List (Option Str)} : ∀ {cs : List (List (Option Str) × Tr)} {l : Tr}, CsOk cs → TrOk l → TrOk (pickC r cs l)
  | [], l, _, h => h
  | (g, t) :: cs, l, hc, h => by
    rw [CsOk] at hc
    show TrOk (if g = r then t else pickC r cs l)
    split
    · exact hc.1.2
    · exact okPick hc.2 h
theorem okAfterT {r : List (Option Str)} {t : Tr} (h : TrOk t) : TrOk (after r t) := by
  cases t with
  | stop => exact h
  | wr o ps n => exact h
  | rd ks cs l =>
    rw [TrOk] at h
    exact okPick h.1.2 h.2
/-- behind all rows -/
def walk : Tr → List (List (Option Str)) → Tr
  | t, [] => t
  | t, r :: rs => walk (after r (nextRead t)) rs
/-- each row is read -/
def CanW : Tr → List (List (Option Str)) → Prop
  | _, [] => True
  | t, r :: rs => (∃ ks cs l, nextRead t = .rd ks cs l) ∧ CanW (after r (nextRead t)) rs
def down : Tr → Nat → Tr
  | t, 0 => t
  | .wr _ _ n, k + 1 => down n k
  | t, _ + 1 => t
/-- so many writes -/
def CanD : Tr → Nat → Prop
  | _, 0 => True
  | .wr _ _ n, k + 1 => CanD n k
  | _, _ + 1 => False
theorem okWalk : ∀ {rs : List (List (Option Str))} {t : Tr}, TrOk t → TrOk (walk t rs)
  | [], t, h => h
  | r :: rs, t, h => okWalk (rs := rs) (okAfterT (okNextT h))
theorem okDown : ∀ {k : Nat} {t : Tr}, TrOk t → TrOk (down t k)
  | 0, t, h => by cases t <;> exact h
  | k + 1, .stop, h => h
  | k + 1, .rd _ _ _, h => h
  | k + 1, .wr o ps n, h => by
    rw [TrOk] at h
    exact okDown (k := k) h.2
theorem walkSnoc (t : Tr) (r : List (Option Str)) : ∀ rs, walk t (rs ++ [r]) = after r (nextRead (walk t rs)) := by
  intro rs
  induction rs generalizing t with
  | nil => rfl
  | cons x rs ih => exact ih (after x (nextRead t))
theorem canW_at : ∀ {rs : List (List (Option Str))} {t : Tr} {i : Nat}, CanW t rs → i < rs.length → ∃ ks cs l, nextRead (walk t (rs.take i)) = .rd ks cs l
  | [], _, _, _, h => absurd h (Nat.not_lt_zero _)
  | r :: rs, t, 0, h, _ => h.1
  | r :: rs, t, i + 1, h, lt => canW_at (rs := rs) (i := i) h.2 (Nat.lt_of_succ_lt_succ lt)
theorem downSnoc : ∀ (k : Nat) (t : Tr), CanD t (k + 1) → ∃ o ps n, down t k = .wr o ps n ∧ down t (k + 1) = n
  | 0, .wr o ps n, _ => ⟨o, ps, n, rfl, by cases n <;> rfl⟩
  | k + 1, .wr o ps n, h => downSnoc k n h
  | k, .stop, h => h.elim
  | k, .rd _ _ _, h => h.elim
theorem canD_le : ∀ {k j : Nat} {t : Tr}, j ≤ k → CanD t k → CanD t j
  | _, 0, t, _, _ => by cases t <;> trivial
  | 0, j + 1, _, h, _ => absurd h (by omega)
  | k + 1, j + 1, .wr o ps n, h, c => canD_le (k := k) (j := j) (t := n) (by omega) c
  | k + 1, j + 1, .stop, _, c => c.elim
  | k + 1, j + 1, .rd _ _ _, _, c => c.elim
theorem rowShaped {r : List (Option Str)} (h : RowOk r) : SeqAt.shaped (rowD r) = true := (odRow h).shaped (by omega)
abbrev sStepAt : Stmt := inClass (top 20) 3
section
variable {P : Program} {w : World} {K : PySem.W.Frag} {mg : Str → Option Value} {base : Heap} {f : Addr} {fd : FuncData}
def spStepAt (K : PySem.W.Frag) (C : Addr) : Sp := fun vs H Q _ => ∃ x dx v va vr t as rs, ∃ c : Nat, vs = [.ref x, va, vr, .int c] ∧ H x = some (.ins C dx [("_node", v)]) ∧ Dp K H v (trD t) ∧ TrOk t ∧ Dp K H va (argsD as) ∧ (∀ z ∈ as, TOk z) ∧ Dp K H vr (rowsD rs) ∧ (∀ r ∈ rs, RowOk r) ∧ rs.length ≤ 1000 ∧
  CanW t rs ∧ CanD (walk t rs) c ∧ c ≤ 1000 ∧ ∀ r H', Same H H' → Dp K H' r (stepD (as.map some :: rs) (down (walk t rs) c)) → Q r H'
abbrev nSA : List Str := ["self", "arguments", "answers", "count", "node", "row", "_", "cases", "given", "inner"]
theorem scSA : FnScope nSA ["self", "arguments", "answers", "count"] (defScope sStepAt) := ⟨rfl, rfl, rfl, by decide +kernel, rfl, by decide +kernel, by decide +kernel⟩
theorem okStepAt {k : Nat} {C : Addr} (F : FunD K "step_at" "TreeRecipe.step_at" (defArgs sStepAt) (defBody sStepAt) (defScope sStepAt) [] [] f fd) (B : Bn mg) (cl : Cls K C) (nf : NoAttr K C "_node")
    (So : Has P w K mg base (k + 2) "_step_of" ["node", "rows"] (spStepOf K)) : FnOk P w K mg base CX0 (k + 3) f fd ["self", "arguments", "answers", "count"] (spStepAt K C) := by
  obtain ⟨fS, fdS, gS, kS, bS, GS⟩ := So.ex
  refine F.ok scSA (fun vs H Q E h => ?_) (fun cdv A outer s H vs Q E hr h => ?_)
  · obtain ⟨x, dx, v, va, vr, t, as, rs, c, rfl, _⟩ := h
    rfl
  · obtain ⟨x, dx, v, va, vr, t, as, rs, c, rfl, hx, hv, ht, ha, hta, hrs, hrok, hlen, hw, hd, hc, q⟩ := h
    obtain ⟨b, xs, rfl, hb, hxs⟩ := rowsAt hrs
    have lx := dpLen hxs
    rw [List.length_map] at lx
    refine ⟨_, PSs.nox (C8.pss_cut (ps_set (i := 4) scSA.nd rfl (.inl rfl) (pe_fld (pv 0) rfl)) (C8.pss_cut (ps_for PassesOwn.never rfl (pi_tup (pv 2)) (pg_name (i := 5) scSA.nd rfl (.inl rfl))
        (C8.pss_cut (ps_while PassesOwn.never (pt_cmpR op_eq (pe_ix ix_tup (pv 4) pe_int (fun _ _ => rfl)) pe_str (nomark _)) (pss_one (ps_set (i := 4) scSA.nd rfl (.inl rfl) (pe_ix ix_tup (pv 4) pe_int (fun _ _ => rfl))))) (C8.pss_cut (ps_asg (pv 4) (pg_tup rfl (pgs_cons (pg_name (i := 6) scSA.nd rfl (.inl rfl)) (pgs_cons (pg_name (i := 6) scSA.nd rfl (.inl rfl)) (pgs_cons (pg_name (i := 7) scSA.nd rfl (.inl rfl)) (pgs_cons (pg_name (i := 4) scSA.nd rfl (.inl rfl)) pgs_nil)))))) (pss_one (ps_for PassesOwn.never rfl (pi_tup (pv 7)) (pg_tup rfl (pgs_cons (pg_name (i := 8) scSA.nd rfl (.inl rfl)) (pgs_cons (pg_name (i := 9) scSA.nd rfl (.inl rfl)) pgs_nil)))
            (pss_one (ps_if (pt_cmpR (r := rEqD K) (op_eqD hr.units) (pv 8) (pv 5) (nomark _)) (pss_cons (ps_set (i := 4) scSA.nd rfl (.inl rfl) (pv 9)) (pss_one (ps_break))) pss_nil))))))) (C8.pss_cut (ps_for PassesOwn.never rfl (pi_range1 (by rfl) B.range (pa_cons (pv 3) pa_nil)) (pg_name (i := 6) scSA.nd rfl (.inl rfl))
        (pss_one (ps_set (i := 4) scSA.nd rfl (.inl rfl) (pe_ix ix_tup (pv 4) pe_int (fun _ _ => rfl))))) (pss_one (ps_ret (pe_call GS hr (by rfl) gS kS bS .nil pass0 (pa_cons (pv 4) (pa_cons (pe_tup (pa_cons (pv 1) (StX.pa_star (pv 2) pa_nil))) pa_nil)))))))), ?_⟩
    refine ⟨fun σ' H' => σ' = [some (.ref x), some va, some (.ref b), some (.int c), some v, none, none, none, none, none] ∧ H = H', ?_, ?_⟩
    · exact ⟨.ref x, rfl, x, C, dx, _, v, rfl, hx, cl, nf, rfl, rfl, rfl⟩
    rintro _ _ ⟨rfl, rfl⟩
    refine ⟨fun σ' H' => (∃ v' x5 x6 x7 x8 x9, σ' = [some (.ref x), some va, some (.ref b), some (.int c), some v', x5, x6, x7, x8, x9] ∧ Dp K H v' (trD (walk t rs))) ∧ H = H', ?_, ?_⟩
    · refine ⟨.ref b, rfl, b, rfl, ⟨xs, hb⟩, ?_⟩
      refine forJ (n := rs.length) (fun i σ' H' => (∃ v' x5 x6 x7 x8 x9, σ' = [some (.ref x), some va, some (.ref b), some (.int c), some v', x5, x6, x7, x8, x9] ∧ Dp K H v' (trD (walk t (rs.take i)))) ∧ H = H') ⟨⟨v, none, none, none, none, none, rfl, hv⟩, rfl⟩
        (fun i σ' H' lt h => by obtain ⟨_, rfl⟩ := h; exact ⟨xs, xs[i], hb, List.getElem?_eq_getElem (by omega)⟩) (fun σ' H' h => by obtain ⟨_, rfl⟩ := h; exact ⟨xs, hb, by omega⟩) (fun i σ' H1 u H2 lt h y => ?_) (fun σ' H' h => ?_)
      · obtain ⟨⟨v', x5, x6, x7, x8, x9, rfl, hv'⟩, eH⟩ := h
        subst eH
        obtain ⟨eH2, y⟩ := y
        have eH3 := eH2.symm
        subst eH3
        have eu := y xs hb
        have er : (rs.map rowD)[i]? = some (rowD rs[i]) := by rw [List.getElem?_map, List.getElem?_eq_getElem lt]; rfl
        obtain ⟨u', e1, e2⟩ := dpAt hxs er
        obtain rfl : u' = u := Option.some.inj (e1.symm.trans eu)
        obtain ⟨ks, cs, l, e3⟩ := canW_at hw lt
        have ok1 : TrOk (nextRead (walk t (rs.take i))) := okNextT (okWalk ht)
        rw [e3, TrOk] at ok1
        refine ⟨fun σ' H' => (∃ v2, σ' = [some (.ref x), some va, some (.ref b), some (.int c), some v2, some u', x6, x7, x8, x9] ∧ Dp K H v2 (trD (nextRead (walk t (rs.take i))))) ∧ H = H', ?_, ?_⟩
        · refine ⟨fun m σ' H' => H = H' ∧ ∃ v2 t', σ' = [some (.ref x), some va, some (.ref b), some (.int c), some v2, some u', x6, x7, x8, x9] ∧ m = wrs t' ∧ Dp K H v2 (trD t') ∧ nextRead t' = nextRead (walk t (rs.take i)), ⟨_, rfl, v', _, rfl, rfl, hv', rfl⟩, fun m σ' H' hw => ?_⟩
          obtain ⟨rfl, v2, t', rfl, rfl, hd', e⟩ := hw
          obtain ⟨a, xs2, rfl, hs, h0⟩ := headAt hd'
          refine ⟨.ref a, rfl, a, xs2, 0, .str (word t'), rfl, rfl, hs, h0, rfl, _, rfl, ?_⟩
          rw [wordEq]
          cases t' with
          | stop =>
            rw [show word .stop = "stop" from rfl, sw]
            exact iteF ⟨⟨_, rfl, by rw [← e]; exact hd'⟩, rfl⟩
          | rd ks cs l =>
            rw [show word (.rd ks cs l) = "read" from rfl, rw']
            exact iteF ⟨⟨_, rfl, by rw [← e]; exact hd'⟩, rfl⟩
          | wr o ps n =>
            rw [show word (.wr o ps n) = "write" from rfl, ww]
            obtain ⟨a2, vp, vn, ea, hs2, _, hn⟩ := wrAt hd'
            cases ea
            refine iteT ⟨fun σ2 H4 => ∃ m', m' < wrs (.wr o ps n) ∧ H = H4 ∧ ∃ v2 t', σ2 = [some (.ref x), some va, some (.ref b), some (.int c), some v2, some u', x6, x7, x8, x9] ∧ m' = wrs t' ∧ Dp K H v2 (trD t') ∧ nextRead t' = nextRead (walk t (rs.take i)), fun _ _ z => z, ?_⟩
            exact ⟨.ref a, rfl, a, _, 3, vn, rfl, rfl, hs2, atI_nat (j := 3) rfl, wrs n, by show wrs n < wrs n + 1; omega, rfl, vn, n, rfl, rfl, hn, e⟩
        rintro _ _ ⟨⟨v2, rfl, hv2⟩, rfl⟩
        rw [e3] at hv2
        obtain ⟨a, vk, vc, vl, rfl, hs, _, hcs, hl⟩ := rdAt hv2
        obtain ⟨d, ys, rfl, hdd, hy⟩ := dpTup hcs
        have ly := dpLen hy
        rw [csD_map, List.length_map] at ly
        refine ⟨fun σ' H' => σ' = [some (.ref x), some va, some (.ref b), some (.int c), some vl, some u', some vk, some (.ref d), x8, x9] ∧ H = H', ?_, ?_⟩
        · exact ⟨.ref a, rfl, a, _, rfl, hs, rfl, _, _, rfl, _, _, rfl, _, _, rfl, _, _, rfl, rfl, rfl, rfl⟩
        rintro _ _ ⟨rfl, rfl⟩
        have last : walk t (rs.take (i + 1)) = pickC rs[i] cs l := by
          rw [List.take_succ_eq_append_getElem lt, walkSnoc, e3]
          rfl
        refine ⟨.ref d, rfl, d, rfl, ⟨ys, hdd⟩, ?_⟩
        refine forJ (n := cs.length) (fun j σ' H' => H = H' ∧ (∃ y8 y9, σ' = [some (.ref x), some va, some (.ref b), some (.int c), some vl, some u', some vk, some (.ref d), y8, y9]) ∧ pickC rs[i] (cs.drop j) l = pickC rs[i] cs l) ⟨rfl, ⟨x8, x9, rfl⟩, rfl⟩
          (fun j σ' H' lt h => by obtain ⟨rfl, _⟩ := h; exact ⟨ys, ys[j], hdd, List.getElem?_eq_getElem (by omega)⟩) (fun σ' H' h => by obtain ⟨rfl, _⟩ := h; exact ⟨ys, hdd, by omega⟩) (fun j σ' H1 z H2 ltj h y2 => ?_) (fun σ' H' h => ?_)
        · obtain ⟨eH4, ⟨y8, y9, rfl⟩, e⟩ := h
          subst eH4
          obtain ⟨eH5, y2⟩ := y2
          have eH6 := eH5.symm
          subst eH6
          have ez := y2 ys hdd
          rw [csD_map] at hy
          have ec : (cs.map fun c => PyData.tuple [rowD c.1, trD c.2])[j]? = some (.tuple [rowD (cs[j]).1, trD (cs[j]).2]) := by rw [List.getElem?_map, List.getElem?_eq_getElem ltj]; rfl
          obtain ⟨z', h1, h2⟩ := dpAt hy ec
          obtain rfl : z' = z := Option.some.inj (h1.symm.trans ez)
          obtain ⟨cc, zs, rfl, hcs2, hz⟩ := dpTup h2
          obtain ⟨g, tv, rfl, hg, htv⟩ := dpTwo hz
          refine ⟨cc, _, rfl, hcs2, rfl, _, _, rfl, _, _, rfl, rfl, ?_⟩
          refine ⟨g, rfl, u', rfl, _, _, hg, e2, rowShaped (csOk_mem ok1.1.2 _ (List.getElem_mem ltj)).1, rowShaped (hrok _ (List.getElem_mem lt)), _, rfl, ?_⟩
          rw [eqRow]
          have ed : cs.drop j = cs[j] :: cs.drop (j + 1) := List.drop_eq_getElem_cons ltj
          by_cases hr2 : (cs[j]).1 = rs[i]
          · rw [decide_eq_true hr2]
            refine iteT ⟨tv, rfl, ⟨tv, _, _, _, _, _, rfl, ?_⟩, rfl⟩
            rw [last, ← e, ed]
            show Dp K _ tv (trD (if (cs[j]).1 = rs[i] then (cs[j]).2 else _))
            rw [if_pos hr2]
            exact htv
          · rw [decide_eq_false hr2]
            refine iteF ⟨rfl, ⟨_, _, rfl⟩, ?_⟩
            rw [← e, ed]
            show _ = (if (cs[j]).1 = rs[i] then (cs[j]).2 else _)
            rw [if_neg hr2]
        · obtain ⟨rfl, ⟨y8, y9, rfl⟩, e⟩ := h
          rw [List.drop_length] at e
          refine ⟨⟨vl, _, _, _, _, _, rfl, ?_⟩, rfl⟩
          rw [last, ← e]
          exact hl
      · obtain ⟨⟨v', x5, x6, x7, x8, x9, rfl, hv'⟩, rfl⟩ := h
        rw [List.take_length] at hv'
        exact ⟨⟨v', x5, x6, x7, x8, x9, rfl, hv'⟩, rfl⟩
    rintro _ _ ⟨⟨v1, x5, x6, x7, x8, x9, rfl, hv1⟩, rfl⟩
    refine ⟨fun σ' H' => (∃ v' y6, σ' = [some (.ref x), some va, some (.ref b), some (.int c), some v', x5, y6, x7, x8, x9] ∧ Dp K H v' (trD (down (walk t rs) c))) ∧ H = H', ?_, ?_⟩
    · refine ⟨.int c, rfl, c, rfl, by omega, by omega, ?_⟩
      rw [Int.toNat_natCast]
      refine forJ (n := c) (fun i σ' H' => (∃ v' y6, σ' = [some (.ref x), some va, some (.ref b), some (.int c), some v', x5, y6, x7, x8, x9] ∧ Dp K H v' (trD (down (walk t rs) i))) ∧ H = H') ⟨⟨v1, x6, rfl, by have e : down (walk t rs) 0 = walk t rs := (by cases walk t rs <;> rfl); rw [e]; exact hv1⟩, rfl⟩
        (fun i σ' H' lt _ => lt) (fun σ' H' _ => Nat.le_refl _) (fun i σ' H1 u H2 lt h y => ?_) (fun σ' H' h => h)
      obtain ⟨⟨v', y6, rfl, hv'⟩, rfl⟩ := h
      obtain ⟨rfl, rfl⟩ := y
      obtain ⟨o, ps, n, e1, e2⟩ := downSnoc i (walk t rs) (canD_le (by omega) hd)
      rw [e1] at hv'
      obtain ⟨a, vp, vn, rfl, hs, _, hn⟩ := wrAt hv'
      exact ⟨.ref a, rfl, a, _, 3, vn, rfl, rfl, hs, atI_nat (j := 3) rfl, ⟨vn, _, rfl, by rw [e2]; exact hn⟩, rfl⟩
    rintro _ _ ⟨⟨v2, y6, rfl, hv2⟩, rfl⟩
    refine ⟨v2, rfl, va, rfl, .ref b, rfl, b, xs, rfl, .inl hb, by show (va :: (xs ++ [])).length ≤ sizeLine; rw [List.length_cons, List.append_nil, sizeLine_eq]; omega, fun T hT => ?_⟩
    have s1 := sameUpd (o := .tup (va :: (xs ++ []))) hT
    have ok2 : TrOk (down (walk t rs) c) := okDown (okWalk ht)
    have dT : Dp K (upd H T (.tup (va :: (xs ++ [])))) (.ref T) (.tuple ((as.map some :: rs).map rowD)) := by
      refine .tup (.inl (.inl upd_same)) ?_
      rw [List.map_cons, ← argsRow]
      refine .cons (dpSame s1 _ _ ha) ?_
      have h2 := dpAllSame s1 _ _ hxs
      have e2 : xs ++ [] = xs := List.append_nil xs
      exact e2.symm ▸ h2
    refine ⟨v2, .ref T, down (walk t rs) c, as.map some :: rs, rfl, dpSame s1 _ _ hv2, dT, fun r hr z hz => ?_, fun o ps n e => ?_, fun r H' s2 h2 => q r H' (s1.trans s2) h2⟩
    · rcases List.mem_cons.mp hr with rfl | hr
      · obtain ⟨y, hy, e⟩ := List.mem_map.mp hz
        rw [← Option.some.inj e]
        exact hta y hy
      · exact (hrok r hr).2 z hz
    · rw [e, TrOk] at ok2
      exact ok2.1
end
end TRE

set_option Elab.async false
set_option linter.all false
set_option maxRecDepth 100000
set_option maxHeartbeats 8000000
namespace TRE
open PySem PySem.Spec PyProof.Rows L2 ND KS KS.La PLC
theorem joinSum {rows : List (List (Option Str))} {ps : List Pt} (h : RowsOk rows) (hl : ps.length ≤ 100) (hp : ∀ p ∈ ps, PtOk p) : ((ps.map (pieceS rows)).map (·.length)).sum ≤ 100000 := by
  have sum : ∀ l : List Pt, (∀ p ∈ l, PtOk p) → ((l.map (pieceS rows)).map (·.length)).sum ≤ 1000 * l.length := by
    intro l
    induction l with
    | nil => intro _; exact Nat.zero_le _
    | cons z l ih =>
      intro hl
      have h1 := ih fun y hy => hl y (List.mem_cons_of_mem _ hy)
      have h2 : (pieceS rows z).length ≤ 1000 := (pieceTok h (hl z List.mem_cons_self)).2.1
      rw [List.map_cons, List.map_cons, List.sum_cons, List.length_cons]
      omega
  have := sum ps hp
  omega
theorem joinLen {rows : List (List (Option Str))} {ps : List Pt} (h : RowsOk rows) (hl : ps.length ≤ 100) (hp : ∀ p ∈ ps, PtOk p) : (Txt.join "" (ps.map (pieceS rows))).length ≤ sizeLine := by
  have h2 := joinSum h hl hp
  have h3 := StrLaws.join_length_le "" (ps.map (pieceS rows))
  have e0 : ("" : Str).length = 0 := by decide +kernel
  rw [e0] at h3
  rw [sizeLine_eq]
  have h4 : (Txt.join "" (ps.map (pieceS rows))).length ≤ ((ps.map (pieceS rows)).map (·.length)).sum + (ps.map (pieceS rows)).length * 0 := by
    rw [← StrLaws.glued_eq_join] at h3
    exact h3
  omega
theorem odWr {n : Nat} {o : Str} {ps : List Pt} {t : Tr} (h : Od n (trD (.wr o ps t))) : Od n (trD t) := by
  rw [trD] at h
  cases h with
  | tup h h2 => exact (h2 (trD t) (by simp)).up (by omega)
theorem odNext {n : Nat} : ∀ {t : Tr}, Od n (trD t) → Od n (trD (nextRead t))
  | .stop, h => h
  | .rd _ _ _, h => h
  | .wr o ps t, h => by rw [nextRead]; exact odNext (odWr h)
theorem odRd {n : Nat} {ks : List (Str × Str)} {cs : List (List (Option Str) × Tr)} {l : Tr} (h : Od n (trD (.rd ks cs l))) : Od n (trD l) ∧ ∀ c ∈ cs, Od n (trD c.2) := by
  rw [trD] at h
  cases h with
  | tup h h2 =>
    refine ⟨(h2 (trD l) (by simp)).up (by omega), fun c hc => ?_⟩
    have h3 := h2 (.tuple (csD cs)) (by simp)
    rw [csD_map] at h3
    cases h3 with
    | tup _ h4 =>
      have h5 := h4 (.tuple [rowD c.1, trD c.2]) (List.mem_map.mpr ⟨c, hc, rfl⟩)
      cases h5 with
      | tup _ h6 => exact (h6 (trD c.2) (by simp)).up (by omega)
/-- the inner nodes of the cases with this row -/
def hits (r : List (Option Str)) (cs : List (List (Option Str) × Tr)) : List Tr := (cs.filter fun c => decide (c.1 = r)).map (·.2)
theorem pickHits (r : List (Option Str)) (l : Tr) : ∀ cs, pickC r cs l = (hits r cs).headD l
  | [] => rfl
  | (g, t) :: cs => by
    show (if g = r then t else pickC r cs l) = _
    unfold hits
    rw [List.filter_cons]
    by_cases h : g = r
    · rw [if_pos h, if_pos (decide_eq_true h)]
      rfl
    · rw [if_neg h, if_neg (by rw [decide_eq_true_eq]; exact h), pickHits r l cs]
      rfl
theorem hitsSnoc (r : List (Option Str)) (cs : List (List (Option Str) × Tr)) (c : List (Option Str) × Tr) : hits r (cs ++ [c]) = if c.1 = r then hits r cs ++ [c.2] else hits r cs := by
  unfold hits
  rw [List.filter_append, List.map_append]
  by_cases h : c.1 = r
  · rw [if_pos h, List.filter_cons, if_pos (decide_eq_true h)]
    rfl
  · rw [if_neg h, List.filter_cons, if_neg (by rw [decide_eq_true_eq]; exact h)]
    simp
theorem hitsLen (r : List (Option Str)) (cs : List (List (Option Str) × Tr)) : (hits r cs).length ≤ cs.length := by
  unfold hits
  rw [List.length_map]
  exact List.length_filter_le _ _
theorem hitsMem {r : List (Option Str)} {cs : List (List (Option Str) × Tr)} {t : Tr} (h : t ∈ hits r cs) : ∃ c ∈ cs, c.2 = t := by
  unfold hits at h
  obtain ⟨c, hc, e⟩ := List.mem_map.mp h
  exact ⟨c, (List.mem_filter.mp hc).1, e⟩
mutual
theorem plTr : ∀ t : Tr, ∃ n, Pl n (trD t)
  | .stop => ⟨1, by rw [trD]; exact .tup fun d hd => by rw [List.mem_singleton.mp hd]; exact .str _ _⟩
  | .wr o ps n => by
    obtain ⟨m, h⟩ := plTr n
    refine ⟨m + 3, ?_⟩
    rw [trD]
    refine .tup fun d hd => ?_
    simp only [List.mem_cons, List.not_mem_nil, or_false] at hd
    rcases hd with rfl | rfl | rfl | rfl
    · exact .str _ _
    · exact .str _ _
    · refine Pl.up (n := 2) (.tup fun d hd => ?_) (by omega)
      obtain ⟨p, _, rfl⟩ := List.mem_map.mp hd
      cases p with
      | txt z => exact .str _ _
      | itm r i =>
        refine .tup fun d hd => ?_
        simp only [List.mem_cons, List.not_mem_nil, or_false] at hd
        rcases hd with rfl | rfl <;> exact .int _ _
    · exact h.up (by omega)
  | .rd ks cs l => by
    obtain ⟨m, h⟩ := plTr l
    obtain ⟨m2, h2⟩ := plCs cs
    refine ⟨m + m2 + 4, ?_⟩
    rw [trD]
    refine .tup fun d hd => ?_
    simp only [List.mem_cons, List.not_mem_nil, or_false] at hd
    rcases hd with rfl | rfl | rfl | rfl
    · exact .str _ _
    · refine Pl.up (n := 2) (.tup fun d hd => ?_) (by omega)
      obtain ⟨k, _, rfl⟩ := List.mem_map.mp hd
      exact .tup fun d hd => by
        simp only [List.mem_cons, List.not_mem_nil, or_false] at hd
        rcases hd with rfl | rfl <;> exact .str _ _
    · exact Pl.up (n := m2 + 1) (.tup h2) (by omega)
    · exact h.up (by omega)
theorem plCs : ∀ cs : List (List (Option Str) × Tr), ∃ n, ∀ d ∈ csD cs, Pl n d
  | [] => ⟨0, fun d hd => by rw [csD] at hd; exact absurd hd (by simp)⟩
  | (r, t) :: cs => by
    obtain ⟨m, h⟩ := plTr t
    obtain ⟨m2, h2⟩ := plCs cs
    refine ⟨m + m2 + 3, fun d hd => ?_⟩
    rw [csD] at hd
    rcases List.mem_cons.mp hd with rfl | hd
    · refine Pl.up (n := m + 3) (.tup fun d hd => ?_) (by omega)
      simp only [List.mem_cons, List.not_mem_nil, or_false] at hd
      rcases hd with rfl | rfl
      · exact (plRow r).up (by omega)
      · exact h.up (by omega)
    · exact (h2 d hd).up (by omega)
end
theorem trTS {K : PySem.W.Frag} {H H' : Hp} (k : TS H H') (t : Tr) (v : V) (h : Dp K H v (trD t)) : Dp K H' v (trD t) := let ⟨_, p⟩ := plTr t; dpTS k p v h
theorem trsTS {K : PySem.W.Frag} {H H' : Hp} (k : TS H H') (ts : List Tr) {xs : List V} (h : DpAll K H xs (ts.map trD)) : DpAll K H' xs (ts.map trD) := allTS (fun d hd v h => by
  obtain ⟨t, _, rfl⟩ := List.mem_map.mp hd
  exact trTS k t v h) h
theorem rowsTS {K : PySem.W.Frag} {H H' : Hp} (k : TS H H') (rs : List (List (Option Str))) {xs : List V} (h : DpAll K H xs (rs.map rowD)) : DpAll K H' xs (rs.map rowD) := allPl (n := 2) (fun d hd => by
  obtain ⟨r, _, rfl⟩ := List.mem_map.mp hd
  exact plRow r) k h
theorem odPick {n : Nat} {r : List (Option Str)} : ∀ {cs : List (List (Option Str) × Tr)} {l : Tr}, (∀ c ∈ cs, Od n (trD c.2)) → Od n (trD l) → Od n (trD (pickC r cs l))
  | [], l, _, h => h
  | (g, t) :: cs, l, hc, h => by
    show Od n (trD (if g = r then t else pickC r cs l))
    split
    · exact hc _ List.mem_cons_self
    · exact odPick (fun c hc2 => hc c (List.mem_cons_of_mem _ hc2)) h
theorem odWalk {n : Nat} : ∀ {rs : List (List (Option Str))} {t : Tr}, Od n (trD t) → Od n (trD (walk t rs))
  | [], t, h => h
  | r :: rs, t, h => by
    refine odWalk (rs := rs) (t := after r (nextRead t)) ?_
    have h2 := odNext h
    cases e : nextRead t with
    | stop => rw [e] at h2; exact h2
    | wr o ps m => rw [e] at h2; exact h2
    | rd ks cs l =>
      rw [e] at h2
      exact odPick (odRd h2).2 (odRd h2).1
section
variable {P : Program} {w : World} {K : PySem.W.Frag} {mg : Str → Option Value} {base : Heap} {f : Addr} {fd : FuncData}
theorem cutAny {K : PySem.W.Frag} {H : Hp} {a : Addr} {xs : List V} {lo hi : Option Int} {Q : VK} (ha : SqT K H a xs) (q : ∀ p H', SqT K H' p (cutV xs lo hi) → Same H H' → Q (.ref p) H') : rSlA K (.ref a) lo hi H Q := by
  refine ⟨a, xs, rfl, ha, fun h => ?_, fun _ p hp => q p _ (.inl (.inl upd_same)) (sameUpd hp)⟩
  refine q a H ?_ (Same.refl H)
  unfold cutV
  rw [h.1, h.2, List.drop_zero, Nat.sub_zero, List.take_length]
  exact ha
/-- a list of trees against [] -/
theorem neTrees {H : Hp} {D e : Addr} {zs : List V} {ts : List Tr} {n : Nat} {Q : VK} (hn : n ≤ 60) (hD : H D = some (.lst zs)) (he : H e = some (.lst [])) (hz : DpAll K H zs (ts.map trD)) (od : ∀ t ∈ ts, Od n (trD t)) (h : Q (.bl (!decide (ts = []))) H) : rNeD K (.ref D) (.ref e) H Q := by
  obtain ⟨a, b⟩ := allLay (ds := ts.map trD) (n := n) fun d hd => by
    obtain ⟨t, ht, rfl⟩ := List.mem_map.mp hd
    exact (od t ht).lay
  refine ⟨.list (ts.map trD), .list [], .lst (.inl (.inl hD)) hz, .lst (.inl (.inl he)) .nil, ?_, rfl, ?_⟩
  · have e1 : (PyData.list (ts.map trD)).canLay0 = true := a
    unfold SeqAt.shaped
    rw [e1, Bool.true_and]
    refine decide_eq_true ?_
    simp only [PyData.depth]
    omega
  · cases ts with
    | nil => exact h
    | cons t ts => exact h
def spLStep (K : PySem.W.Frag) : Sp := fun vs H Q _ => ∃ d kvs pl p t, vs = [.ref d, pl] ∧ H d = some (.dK kvs) ∧ Dp K H pl (pcD p) ∧ Ok p ∧ ((∃ v, valV kvs (.inr p.c) = some v ∧ Dp K H v (trD t)) ∨ (valV kvs (.inr p.c) = none ∧ t = .stop)) ∧ TrOk t ∧ Od 58 (trD t) ∧ CanW t p.rs ∧
  ∃ c : Nat, p.n = (c : Int) ∧ CanD (walk t p.rs) c ∧ c ≤ 1000 ∧ ∀ r H', Same H H' → Dp K H' r (stepD (p.as.map some :: p.rs) (down (walk t p.rs) c)) → Q r H'
abbrev nLS : List Str := ["_law_recipes", "_law_place", "_law_node", "_law_rows", "_law_row", "_law_found", "_law_case", "_law_inner", "_law_turn", "_law_words", "_law_part"]
theorem scLS : FnScope nLS ["_law_recipes", "_law_place"] (defScope lStepAt) := ⟨rfl, rfl, rfl, by decide +kernel, rfl, by decide +kernel, by decide +kernel⟩
theorem okLStep {k : Nat} (F : FnP K "_law_step_at" lStepAt f fd) (B : Bn mg) (Pt : Has P w K mg base (k + 1) "_law_part_text" ["_law_part", "_law_rows"] (spPieceL K)) : FnOk P w K mg base CX0 (k + 2) f fd ["_law_recipes", "_law_place"] (spLStep K) := by
  obtain ⟨fP, fdP, gP, kP, bP, GP⟩ := Pt.ex
  refine F.ok scLS (fun vs H Q E h => ?_) (fun cdv A outer s H vs Q E hr h => ?_)
  · obtain ⟨d, kvs, pl, p, t, rfl, _⟩ := h
    rfl
  · obtain ⟨d, kvs, pl, p, t, rfl, ed, hp, okp, hget, ht, hod, hw, c, ec, hd, hc, q⟩ := h
    obtain ⟨a, va, vr, rfl, hs, ha, hv⟩ := pcAt hp
    obtain ⟨b, xs, rfl, hb, hxs⟩ := rowsAt hv
    have lx := dpLen hxs
    rw [List.length_map] at lx
    refine ⟨_, PSs.nox (C8.pss_cut (ps_asg (pe_tup (pa_cons (pe_dget2 (Nat.lt_of_le_of_lt (Nat.add_le_add_left (by decide) _) hr.units) (pv 0) (pe_ix ix_tup (pv 1) pe_int (fun _ _ => rfl)) (pe_tup (pa_cons (pe_str) pa_nil)) ⟨rfl, rfl, rfl, rfl⟩) (pa_cons (pe_lst (pa_cons (pe_ix ix_tup (pv 1) pe_int (fun _ _ => rfl)) pa_nil)) pa_nil)))
        (pg_tup rfl (pgs_cons (pg_name (i := 2) scLS.nd rfl (.inl rfl)) (pgs_cons (pg_name (i := 3) scLS.nd rfl (.inr rfl)) pgs_nil)))) (C8.pss_cut (ps_for PassesOwn.never rfl (pi_tup (pe_ix ix_tup (pv 1) pe_int (fun _ _ => rfl))) (pg_name (i := 4) scLS.nd rfl (.inr rfl))
        (C8.pss_cut (ps_while PassesOwn.never (pt_cmpR op_eq (pe_ix ix_tup (pv 2) pe_int (fun _ _ => rfl)) pe_str (nomark _)) (pss_one (ps_set (i := 2) scLS.nd rfl (.inl rfl) (pe_ix ix_tup (pv 2) pe_int (fun _ _ => rfl))))) (C8.pss_cut (ps_setLc (i := 5) (own := [("_law_case", 6), ("_law_inner", 7)]) (g := gTup K 2 (gCons (gName 6) (gCons (gName 7) gNil))) (by rfl) scLS.nd rfl rfl (sw_true rfl rfl (by decide +kernel) (by decide +kernel)) (pi_tup (pe_ix ix_tup (pv 2) pe_int (fun _ _ => rfl))) (blkOk_by (N := nLS) (sc := defScope lStepAt) (by decide +kernel))
            (fun _ _ _ _ _ => pg_tup rfl (pgs_cons (pg_name (i := 6) scLS.nd rfl (.inl rfl) (hf := .inr rfl)) (pgs_cons (pg_name (i := 7) scLS.nd rfl (.inl rfl) (hf := .inr rfl)) pgs_nil))) (fun _ _ _ _ _ => pts_one (pt_cmpR (r := rEqD K) (op_eqD hr.units) (pv 6) (pv 4) (nomark _))) (fun _ _ _ _ _ => pv 7)) (C8.pss_cut (ps_set (i := 2) scLS.nd rfl (.inl rfl) (pe_ifExp (pt_cmpR (r := rNeD K) (op_neD hr.units) (pv 5) (pe_lst pa_nil) (nomark _)) (pe_ix ix_list (pv 5) pe_int (fun _ _ => rfl)) (pe_ix ix_tup (pv 2) pe_int (fun _ _ => rfl)))) (pss_one (ps_expr (pe_bm PySem.F.plainAttrs_list PySem.F.slot_list_append PySem.F.type_list_append mt_append (pv 3) (pa_cons (pv 4) pa_nil)))))))) (C8.pss_cut (ps_for PassesOwn.never rfl (pi_range1 (by rfl) B.range (pa_cons (pe_ix ix_tup (pv 1) pe_int (fun _ _ => rfl)) pa_nil)) (pg_name (i := 8) scLS.nd rfl (.inl rfl))
        (pss_one (ps_set (i := 2) scLS.nd rfl (.inl rfl) (pe_ix ix_tup (pv 2) pe_int (fun _ _ => rfl))))) (pss_cons (ps_if (pt_cmpR op_ne (pe_ix ix_tup (pv 2) pe_int (fun _ _ => rfl)) pe_str (nomark _)) (pss_one (ps_ret (pe_slice sl_tupA (pv 2) po_none (po_some pe_int)))) pss_nil) (C8.pss_cut (ps_set (i := 9) scLS.nd rfl (.inl rfl) (pe_join pe_str (pe_lc (own := [("_law_part", 10)]) (g := gName 10) rfl scLS.nd (pi_tup (pe_ix ix_tup (pv 2) pe_int (fun _ _ => rfl))) (blkOk_by (N := nLS) (sc := defScope lStepAt) (by decide +kernel))
        (fun _ _ _ _ _ => pg_name (i := 10) scLS.nd rfl (.inl rfl) (hf := .inr rfl)) (fun _ _ _ _ _ => pts_nil) (fun _ _ _ _ _ => pe_call GP hr (by rfl) gP kP bP .nil pass0 (pa_cons (pv 10) (pa_cons (pv 3) pa_nil)))))) (pss_one (ps_ret (pe_ifExp (pt_cmpR op_le (pe_callB call_len_str (by rfl) B.len PySem.boot_len (pa_cons (pv 9) pa_nil)) pe_int (nomark _)) (pe_tup (pa_cons (pe_str) (pa_cons (pe_ix ix_tup (pv 2) pe_int (fun _ _ => rfl)) (pa_cons (pv 9) pa_nil)))) (pe_tup (pa_cons (pe_str) pa_nil)))))))))), ?_⟩
    have SR : ∀ (v : V) (R : Addr) (x4 x5 x8 : Option V), L2.St := fun v R x4 x5 x8 => [some (.ref d), some (.ref a), some v, some (.ref R), x4, x5, none, none, x8, none, none]
    refine ⟨fun σ' H' => ∃ v R, σ' = [some (.ref d), some (.ref a), some v, some (.ref R), none, none, none, none, none, none, none] ∧ Same H H' ∧ Dp K H' v (trD t) ∧ H' R = some (.lst [va]) ∧ H R = none, ?_, ?_⟩
    · refine ⟨.ref d, rfl, d, rfl, .inl ⟨kvs, .inl ed⟩, .ref a, rfl, a, _, 0, .str p.c, rfl, rfl, hs, atI_nat (j := 0) rfl, (by show 1 ≤ sizeLine; decide), fun T hT => ?_⟩
      have s1 := sameUpd (o := .tup [.str "stop"]) hT
      refine ⟨_, DGet.k (k := .inr p.c) (s1 _ _ ed), .ref a, rfl, a, _, 1, va, rfl, rfl, sameTup s1 hs, atI_nat (j := 1) rfl, (by show 1 ≤ sizeLine; decide), fun R hR => ⟨(by show 2 ≤ sizeLine; decide), fun T2 hT2 => ?_⟩⟩
      have s2 := sameUpd (o := .lst [va]) hR
      have eR : upd (upd H T (.tup [.str "stop"])) R (.lst [va]) R = some (.lst [va]) := upd_same
      have dv : Dp K (upd H T (.tup [.str "stop"])) ((valV kvs (.inr p.c)).getD (.ref T)) (trD t) := by
        rcases hget with ⟨v, e1, e2⟩ | ⟨e1, rfl⟩
        · rw [e1]
          exact dpSame s1 _ _ e2
        · rw [e1, trD]
          exact .tup (.inl (.inl upd_same)) (.cons (.str _) .nil)
      have hR0 : H R = none := by
        cases e : H R with
        | none => rfl
        | some o => rw [s1 _ _ e] at hR; cases hR
      generalize (valV kvs (.inr p.c)).getD (.ref T) = v at *
      have s3 := sameUpd (o := .tup [v, .ref R]) hT2
      refine ⟨T2, _, rfl, .inl (.inl upd_same), rfl, _, _, rfl, _, _, rfl, rfl, v, R, rfl, (s1.trans s2).trans s3, dpSame (s2.trans s3) _ _ dv, s3 _ _ eR, hR0⟩
    rintro _ H1 ⟨v, R, rfl, s1, dv, eR, hR0⟩
    -- the rows
    refine ⟨fun σ' H' => ∃ v x4 x5 ys, σ' = [some (.ref d), some (.ref a), some v, some (.ref R), x4, x5, none, none, none, none, none] ∧ Same H H' ∧ Dp K H' v (trD (walk t p.rs)) ∧ H' R = some (.lst ys) ∧ DpAll K H' ys ((p.as.map some :: p.rs).map rowD), ?_, ?_⟩
    · refine ⟨.ref a, rfl, a, _, 2, .ref b, rfl, rfl, sameTup s1 hs, atI_nat (j := 2) rfl, b, rfl, ⟨xs, sameTup s1 hb⟩, ?_⟩
      refine forJ (n := p.rs.length) (fun i σ' H' => ∃ v x4 x5 ys, σ' = [some (.ref d), some (.ref a), some v, some (.ref R), x4, x5, none, none, none, none, none] ∧ Same H H' ∧ Dp K H' v (trD (walk t (p.rs.take i))) ∧ H' R = some (.lst ys) ∧ DpAll K H' ys ((p.as.map some :: p.rs.take i).map rowD))
        ⟨v, none, none, [va], rfl, s1, dv, eR, .cons (by rw [← argsRow]; exact dpSame s1 _ _ ha) .nil⟩
        (fun i σ' H' lt h => by obtain ⟨_, _, _, _, _, s, _⟩ := h; exact ⟨xs, xs[i], sameTup s hb, List.getElem?_eq_getElem (by omega)⟩) (fun σ' H' h => by obtain ⟨_, _, _, _, _, s, _⟩ := h; exact ⟨xs, sameTup s hb, by omega⟩) (fun i σ' H2 u H3 lt h y => ?_) (fun σ' H' h => ?_)
      · obtain ⟨rfl, y⟩ := y
        obtain ⟨v, x4, x5, ys, rfl, s3, dv, eR, hys⟩ := h
        have eu := y xs (sameTup s3 hb)
        have er : (p.rs.map rowD)[i]? = some (rowD p.rs[i]) := by rw [List.getElem?_map, List.getElem?_eq_getElem lt]; rfl
        obtain ⟨u', e1, e2⟩ := dpAt hxs er
        obtain rfl : u' = u := Option.some.inj (e1.symm.trans eu)
        obtain ⟨ks, cs, l, e3⟩ := canW_at hw lt
        have ok1 : TrOk (nextRead (walk t (p.rs.take i))) := okNextT (okWalk ht)
        have od1 : Od 58 (trD (nextRead (walk t (p.rs.take i)))) := odNext (odWalk hod)
        rw [e3] at od1
        rw [e3, TrOk] at ok1
        have rok := okp.rs _ (List.getElem_mem lt)
        -- past the writes
        refine ⟨fun σ' H' => ∃ v, σ' = [some (.ref d), some (.ref a), some v, some (.ref R), some u', x5, none, none, none, none, none] ∧ H3 = H' ∧ Dp K H3 v (trD (.rd ks cs l)), ?_, ?_⟩
        · refine ⟨fun m σ' H' => H3 = H' ∧ ∃ v' t', σ' = [some (.ref d), some (.ref a), some v', some (.ref R), some u', x5, none, none, none, none, none] ∧ m = wrs t' ∧ Dp K H3 v' (trD t') ∧ nextRead t' = .rd ks cs l, ⟨_, rfl, v, _, rfl, rfl, dv, e3⟩, fun m σ' H' hw => ?_⟩
          obtain ⟨rfl, v', t', rfl, rfl, hd', e⟩ := hw
          obtain ⟨a', xs', rfl, hs', h0⟩ := headAt hd'
          refine ⟨.ref a', rfl, a', xs', 0, .str (word t'), rfl, rfl, hs', h0, rfl, _, rfl, ?_⟩
          rw [wordEq]
          cases t' with
          | stop => cases e
          | rd ks' cs' l' =>
            rw [show word (.rd ks' cs' l') = "read" from rfl, rw']
            exact iteF ⟨_, rfl, rfl, by rw [← e]; exact hd'⟩
          | wr o ps n =>
            rw [show word (.wr o ps n) = "write" from rfl, ww]
            obtain ⟨a2, vp, vn, ea, hs2, _, hn⟩ := wrAt hd'
            cases ea
            refine iteT ⟨fun σ2 H4 => ∃ m', m' < wrs (.wr o ps n) ∧ H3 = H4 ∧ ∃ v' t', σ2 = [some (.ref d), some (.ref a), some v', some (.ref R), some u', x5, none, none, none, none, none] ∧ m' = wrs t' ∧ Dp K H3 v' (trD t') ∧ nextRead t' = .rd ks cs l, fun _ _ z => z, ?_⟩
            exact ⟨.ref a', rfl, a', _, 3, vn, rfl, rfl, hs2, atI_nat (j := 3) rfl, wrs n, by show wrs n < wrs n + 1; omega, rfl, vn, n, rfl, rfl, hn, e⟩
        rintro _ _ ⟨v, rfl, rfl, dv⟩
        obtain ⟨a4, vk, vc, vl, rfl, hs4, _, hc4, hl4⟩ := rdAt dv
        obtain ⟨b4, zs4, rfl, hb4, hz4⟩ := dpTup hc4
        have l4 := dpLen hz4
        rw [csD_map] at hz4
        rw [csD_map, List.length_map] at l4
        have lcs := ok1.1.1
        -- the cases with this row
        refine ⟨fun σ' H' => ∃ D zs, σ' = [some (.ref d), some (.ref a), some (.ref a4), some (.ref R), some u', some (.ref D), none, none, none, none, none] ∧ Same H3 H' ∧ H' D = some (.lst zs) ∧ DpAll K H' zs ((hits p.rs[i] cs).map trD), ?_, ?_⟩
        · refine ⟨.ref a4, rfl, a4, _, 2, .ref b4, rfl, rfl, hs4, atI_nat (j := 2) rfl, b4, rfl, ⟨zs4, hb4⟩, fun D hD => ?_⟩
          refine lcJ (n := cs.length) (vs := [6, 7]) (fun m H' => ∃ zs, At H3 D zs H' ∧ DpAll K H' zs ((hits p.rs[i] (cs.take m)).map trD)) ⟨[], ⟨sameUpd hD, upd_same⟩, .nil⟩
            (fun m H' lt h => ⟨zs4, zs4[m], sameTup h.choose_spec.1.1 hb4, List.getElem?_eq_getElem (by omega)⟩) (fun H' h => ⟨zs4, sameTup h.choose_spec.1.1 hb4, by omega⟩) (fun m H' x H5 ltm h y => ?_) (fun H' h => ?_)
          · obtain ⟨rfl, y⟩ := y
            obtain ⟨zs, hat, hzs⟩ := h
            have ex := y zs4 (sameTup hat.1 hb4)
            have em : (cs.map fun c => PyData.tuple [rowD c.1, trD c.2])[m]? = some (.tuple [rowD (cs[m]).1, trD (cs[m]).2]) := by rw [List.getElem?_map, List.getElem?_eq_getElem ltm]; rfl
            obtain ⟨x', g1, g2⟩ := dpAt hz4 em
            obtain rfl : x' = x := Option.some.inj (g1.symm.trans ex)
            obtain ⟨c4, ws4, rfl, hc5, hw5⟩ := dpTup (dpSame hat.1 _ _ g2)
            obtain ⟨g, t4, rfl, hg, ht4⟩ := dpTwo hw5
            refine ⟨c4, _, rfl, hc5, rfl, _, _, rfl, _, _, rfl, rfl, rfl, ?_⟩
            refine ⟨g, rfl, u', rfl, _, _, hg, dpSame (s3.trans hat.1) _ _ e2, rowShaped (csOk_mem ok1.1.2 _ (List.getElem_mem ltm)).1, rowShaped rok, _, rfl, ?_⟩
            rw [eqRow]
            have ek : hits p.rs[i] (cs.take (m + 1)) = if (cs[m]).1 = p.rs[i] then hits p.rs[i] (cs.take m) ++ [(cs[m]).2] else hits p.rs[i] (cs.take m) := by
              rw [List.take_succ_eq_append_getElem ltm, hitsSnoc]
            by_cases hr2 : (cs[m]).1 = p.rs[i]
            · rw [if_pos hr2] at ek
              rw [decide_eq_true hr2, ek]
              obtain ⟨e6, e7⟩ := hat.put (ys := zs ++ [t4]) hD (Same.refl _)
              have lz := dpLen hzs
              rw [List.length_map] at lz
              have lh := hitsLen p.rs[i] (cs.take m)
              rw [List.length_take] at lh
              refine iteT ⟨t4, rfl, zs, e6, by rw [sizeLine_eq]; omega, zs ++ [t4], e7, ?_⟩
              have t6 := TS.lst (o := .lst (zs ++ [t4])) e6
              rw [List.map_append]
              exact dpSnoc (trTS t6 _ _ ht4) (trsTS t6 _ hzs)
            · rw [if_neg hr2] at ek
              rw [decide_eq_false hr2, ek]
              exact iteF ⟨zs, hat, hzs⟩
          · obtain ⟨zs, hat, hzs⟩ := h
            rw [List.take_length] at hzs
            exact ⟨D, zs, rfl, hat.1, hat.2, hzs⟩
        rintro _ H4 ⟨D, zs, rfl, s4, eD, hzs⟩
        -- the node behind it
        refine ⟨fun σ' H' => ∃ v', σ' = [some (.ref d), some (.ref a), some v', some (.ref R), some u', some (.ref D), none, none, none, none, none] ∧ Same H4 H' ∧ Dp K H' v' (trD (pickC p.rs[i] cs l)), ?_, ?_⟩
        · refine ⟨.ref D, rfl, Nat.zero_le _, fun p' hp' => ?_⟩
          have s5 := sameUpd (o := .lst []) hp'
          refine neTrees (n := 58) (by omega) (s5 _ _ eD) upd_same (dpAllSame s5 _ _ hzs) (fun t' ht' => by
            obtain ⟨c', hc', rfl⟩ := hitsMem ht'
            exact (odRd od1).2 c' hc') ⟨_, rfl, ?_⟩
          rw [pickHits]
          cases hh : hits p.rs[i] cs with
          | nil =>
            rw [decide_eq_true rfl]
            exact iteF ⟨.ref a4, rfl, a4, _, 3, vl, rfl, rfl, sameTup (s4.trans s5) hs4, atI_nat (j := 3) rfl, vl, rfl, s5, dpSame (s4.trans s5) _ _ hl4⟩
          | cons t0 ts =>
            rw [decide_eq_false (by simp)]
            rw [hh] at hzs
            cases hzs with
            | cons hz0 hzr =>
              exact iteT ⟨.ref D, rfl, D, _, 0, _, rfl, rfl, .inl (.inl (s5 _ _ eD)), atI_nat (j := 0) rfl, _, rfl, s5, dpSame s5 _ _ hz0⟩
        rintro _ H5 ⟨v', rfl, s5, dv'⟩
        have eR5 := s5 _ _ (s4 _ _ eR)
        have ly := dpLen hys
        rw [List.length_map, List.length_cons, List.length_take] at ly
        have lrs := okp.rl
        have t7 := TS.lst (o := .lst (ys ++ [u'])) eR5
        refine ⟨.ref R, rfl, .inl ⟨rfl, _, .inl (.inl eR5)⟩, u', rfl, R, ys, u', rfl, rfl, eR5, by rw [sizeLine_eq]; omega, v', _, _, ys ++ [u'], rfl, fun b' o hb' => ?_, ?_, upd_same, ?_⟩
        · rw [upd_ne (ne_of_none hb' hR0)]
          exact s5 _ _ (s4 _ _ (s3 _ _ hb'))
        · rw [List.take_succ_eq_append_getElem lt, walkSnoc, e3]
          exact trTS t7 _ _ dv'
        · have e9 : p.as.map some :: p.rs.take (i + 1) = (p.as.map some :: p.rs.take i) ++ [p.rs[i]] := by
            rw [List.take_succ_eq_append_getElem lt]
            rfl
          rw [e9, List.map_append]
          exact dpSnoc (dpTS t7 (plRow _) _ (dpSame ((s3.trans s4).trans s5) _ _ e2)) (rowsTS t7 _ (dpAllSame (s4.trans s5) _ _ hys))
      · obtain ⟨v, x4, x5, ys, rfl, s3, dv, eR, hys⟩ := h
        rw [List.take_length] at dv hys
        exact ⟨v, x4, x5, ys, rfl, s3, dv, eR, hys⟩
    rintro _ H2 ⟨v, x4, x5, ys, rfl, s2, dv, eR, hys⟩
    refine ⟨fun σ' H' => (∃ v x8, σ' = [some (.ref d), some (.ref a), some v, some (.ref R), x4, x5, none, none, x8, none, none] ∧ Dp K H2 v (trD (down (walk t p.rs) c))) ∧ H2 = H', ?_, ?_⟩
    · refine ⟨.ref a, rfl, a, _, 3, .int p.n, rfl, rfl, sameTup s2 hs, atI_nat (j := 3) rfl, p.n, rfl, by omega, by omega, ?_⟩
      rw [ec, Int.toNat_natCast]
      refine forJ (n := c) (fun i σ' H' => (∃ v x8, σ' = [some (.ref d), some (.ref a), some v, some (.ref R), x4, x5, none, none, x8, none, none] ∧ Dp K H2 v (trD (down (walk t p.rs) i))) ∧ H2 = H') ⟨⟨v, none, rfl, by have e : down (walk t p.rs) 0 = walk t p.rs := (by cases walk t p.rs <;> rfl); rw [e]; exact dv⟩, rfl⟩
        (fun i σ' H' lt _ => lt) (fun σ' H' _ => Nat.le_refl _) (fun i σ' H3 u H4 lt h y => ?_) (fun σ' H' h => h)
      obtain ⟨⟨v', x8, rfl, hv'⟩, rfl⟩ := h
      obtain ⟨rfl, rfl⟩ := y
      obtain ⟨o, ps, n, e1, e2⟩ := downSnoc i (walk t p.rs) (canD_le (by omega) hd)
      rw [e1] at hv'
      obtain ⟨a', vp, vn, rfl, hs', _, hn⟩ := wrAt hv'
      exact ⟨.ref a', rfl, a', _, 3, vn, rfl, rfl, hs', atI_nat (j := 3) rfl, ⟨vn, _, rfl, by rw [e2]; exact hn⟩, rfl⟩
    rintro _ _ ⟨⟨v2, x8, rfl, dv2⟩, rfl⟩
    have ok2 : TrOk (down (walk t p.rs) c) := okDown (okWalk ht)
    have rowsOk : RowsOk (p.as.map some :: p.rs) := fun r hr z hz => by
      rcases List.mem_cons.mp hr with rfl | hr
      · obtain ⟨y, hy, e⟩ := List.mem_map.mp hz
        rw [← Option.some.inj e]
        exact okp.as y hy
      · exact (okp.rs r hr).2 z hz
    generalize down (walk t p.rs) c = T at *
    obtain ⟨a0, xs0, ev, hs0, h0⟩ := headAt dv2
    subst ev
    refine ⟨.ref a0, rfl, a0, xs0, 0, .str (word T), rfl, rfl, hs0, h0, rfl, _, rfl, ?_⟩
    show (if (!decide (V.str (word T) = V.str "write")) = true then _ else _)
    rw [wordEq]
    cases T with
    | stop =>
      rw [show word .stop = "stop" from rfl, sw]
      obtain ⟨a2, ea, hs2⟩ := stopAt dv2
      cases ea
      refine iteT ⟨.ref a0, rfl, 2, rfl, cutAny hs2 fun p' H' h' s' => q _ _ (s2.trans s') ?_⟩
      exact .tup h' (.cons (.str _) .nil)
    | rd ks cs l =>
      rw [show word (.rd ks cs l) = "read" from rfl, rw']
      obtain ⟨a2, vk, vc, vl, ea, hs2, hk, _⟩ := rdAt dv2
      cases ea
      refine iteT ⟨.ref a0, rfl, 2, rfl, cutAny hs2 fun p' H' h' s' => q _ _ (s2.trans s') ?_⟩
      exact .tup h' (.cons (.str _) (.cons (dpSame s' _ _ hk) .nil))
    | wr o ps n =>
      rw [show word (.wr o ps n) = "write" from rfl, ww]
      obtain ⟨a2, vp, vn, ea, hs2, hp2, _⟩ := wrAt dv2
      cases ea
      rw [TrOk] at ok2
      obtain ⟨⟨hl, hpt⟩, _⟩ := ok2
      obtain ⟨b5, xs5, rfl, hb5, hx5⟩ := dpTup hp2
      have l5 := dpLen hx5
      rw [List.length_map] at l5
      have hq : stepD (p.as.map some :: p.rs) (.wr o ps n) = if (Txt.join "" (ps.map (pieceS (p.as.map some :: p.rs)))).length ≤ 400 then .tuple [.str "write", .str o, .str (Txt.join "" (ps.map (pieceS (p.as.map some :: p.rs))))] else .tuple [.str "stop"] := rfl
      rw [hq] at q
      refine iteF ⟨fun σ' H' => σ' = [some (.ref d), some (.ref a), some (.ref a0), some (.ref R), x4, x5, none, none, x8, some (.str (Txt.join "" (ps.map (pieceS (p.as.map some :: p.rs))))), none] ∧ Same H2 H', ?_, ?_⟩
      · refine ⟨⟨_, rfl⟩, .ref a0, rfl, a0, _, 2, .ref b5, rfl, rfl, hs2, atI_nat (j := 2) rfl, b5, rfl, ⟨xs5, hb5⟩, fun D hD => ?_⟩
        refine lcJ (n := ps.length) (vs := [10]) (fun i H' => At H2 D ((ps.take i).map fun x => .str (pieceS (p.as.map some :: p.rs) x)) H') ⟨sameUpd hD, upd_same⟩ (fun i H' lt h => ⟨xs5, xs5[i], sameTup h.1 hb5, List.getElem?_eq_getElem (by omega)⟩) (fun H' h => ⟨xs5, sameTup h.1 hb5, by omega⟩) (fun i H' x H3 lt h y => ?_) (fun H' h => ?_)
        · obtain ⟨rfl, y⟩ := y
          have ex := y xs5 (sameTup h.1 hb5)
          have ep : (ps.map ptD)[i]? = some (ptD ps[i]) := by rw [List.getElem?_map, List.getElem?_eq_getElem lt]; rfl
          obtain ⟨v', e1, e2⟩ := dpAt hx5 ep
          obtain rfl : v' = x := Option.some.inj (e1.symm.trans ex)
          refine ⟨rfl, ?_⟩
          unfold tYes
          dsimp only
          rw [if_pos rfl]
          refine ⟨v', rfl, .ref R, rfl, v', R, ys, ps[i], p.as.map some :: p.rs, rfl, dpSame h.1 _ _ e2, .inl (.inl (h.1 _ _ eR)), dpAllSame h.1 _ _ hys, rowsOk, ?_⟩
          obtain ⟨e3, e4⟩ := h.put (ys := (ps.take i).map (fun x => .str (pieceS (p.as.map some :: p.rs) x)) ++ [.str (pieceS (p.as.map some :: p.rs) ps[i])]) hD (Same.refl _)
          refine ⟨_, e3, by rw [List.length_map, List.length_take, sizeLine_eq]; omega, ?_⟩
          rw [List.take_succ_eq_append_getElem lt, List.map_append]
          exact e4
        · rw [List.take_length] at h
          have em : (ps.map fun x => V.str (pieceS (p.as.map some :: p.rs) x)) = (ps.map (pieceS (p.as.map some :: p.rs))).map V.str := by rw [List.map_map]; rfl
          have hD2 := h.2
          rw [em] at hD2
          refine ⟨"", D, ps.map (pieceS (p.as.map some :: p.rs)), rfl, rfl, .inl (.inl (.inl hD2)), ?_, rfl, h.1⟩
          have e0 : ("" : Str).length = 0 := by decide +kernel
          rw [e0]
          have := joinSum rowsOk hl hpt
          have hlen : (ps.map (pieceS (p.as.map some :: p.rs))).length ≤ 100 := by rw [List.length_map]; exact hl
          omega
      rintro _ H3 ⟨rfl, s3⟩
      have hT := joinLen rowsOk hl hpt
      generalize Txt.join "" (ps.map (pieceS (p.as.map some :: p.rs))) = T at *
      refine ⟨.str T, rfl, T, rfl, hT, _, _, rfl, rfl, _, rfl, ite2 (fun e => ?_) (fun e => ?_)⟩
      · have e1 : (T.length : Int) ≤ 400 := of_decide_eq_true e
        rw [if_pos (by omega)] at q
        refine ⟨.ref a0, rfl, a0, _, 1, .str o, rfl, rfl, sameTup s3 hs2, atI_nat (j := 1) rfl, .str T, rfl, (by show 3 ≤ sizeLine; decide), fun p' hp' => ?_⟩
        exact q _ _ ((s2.trans s3).trans (sameUpd hp')) (.tup (.inl (.inl upd_same)) (.cons (.str _) (.cons (.str _) (.cons (.str _) .nil))))
      · have e1 : ¬ (T.length : Int) ≤ 400 := fun y => e (decide_eq_true y)
        rw [if_neg (by omega)] at q
        refine ⟨(by show 1 ≤ sizeLine; decide), fun p' hp' => ?_⟩
        exact q _ _ ((s2.trans s3).trans (sameUpd hp')) (.tup (.inl (.inl upd_same)) (.cons (.str _) .nil))
end
end TRE

set_option Elab.async false
set_option linter.all false
set_option maxRecDepth 100000
set_option maxHeartbeats 8000000
namespace TRE
open PySem PySem.Spec PyProof.Rows L2 ND KS KS.La PLC
/-- tuple(a list or a tuple) -/
def rTup (K : PySem.W.Frag) : List V → Hp → VK → Prop := fun xs H Q => ∃ p ys, xs = [V.ref p] ∧ ((SqL K H p ys ∧ ∀ (l : Addr), H l = none → Q (V.ref l) (upd H l (HO.tup ys))) ∨ SqT K H p ys ∧ Q (V.ref p) H)
theorem fdNe {H : Hp} {f p : Addr} (h : Fd H f) (hp : H p = none) : p ≠ f := fun z => by
  obtain ⟨x, y, e, _⟩ := h
  rw [z, e] at hp
  cases hp
theorem fdOther {H : Hp} {f p : Addr} {o : HO} (h : Fd H f) (n : p ≠ f) : Fd (upd H p o) f := by
  obtain ⟨x, y, e, a, b⟩ := h
  exact ⟨x, y, by rw [upd_ne (Ne.symm n)]; exact e, a, b⟩
theorem tsKp {f : Addr} {H H' : Hp} (hf : Fd H f) (k : Kp f H H') : TS H H' := fun a o e t => by
  by_cases n : a = f
  · obtain ⟨x, y, h, _⟩ := hf
    rw [n, h] at e
    have e2 := Option.some.inj e
    rcases t with ⟨xs, rfl⟩ | ⟨p, xs, rfl⟩ <;> cases e2
  · exact k a o n e
/-- answers or texts, drawn, over whatever -/
theorem lcFeedX {J : It} {f D : Addr} {j m : Nat} {te : TE} {σ : L2.St} {H1 : Hp} {Qd : Hp → Prop} (pr : Option Str → Prop) (hD : H1 D = none) (hF : Fd H1 f) (hm : m ≤ 100) (hw : ∀ v, wipe ((wipe σ [j]).set j (some v)) [j] = wipe σ [j])
    (hgo : ∀ i H, i < m → Kp f H1 H → J.go i H) (hst : ∀ H, Kp f H1 H → J.stop m H)
    (hs : ∀ i x H H', i < m → Kp f H1 H → Fd H f → J.yld i H x H' → H' = H ∧ ∀ R : VK, (∀ a H2, pr a → Kp f H H2 → Fd H2 f → R (vA a) H2) → te ((wipe σ [j]).set j (some x)) H R)
    (hd : ∀ H (r : List (Option Str)), H D = some (.lst (r.map vA)) → r.length = m → (∀ a ∈ r, pr a) → Kp f H1 H → Fd H f → Qd H) :
    ∃ W : Nat → Nat → Hp → Prop, (∃ m, W 0 m (upd H1 D (.lst []))) ∧ ∀ i k H, W i k H →
      (J.stop i H ∧ Qd H) ∨ (J.go i H ∧ ∃ Nx : Hp → Prop, (∀ H', Nx H' → ∃ m', m' < k ∧ W (i + 1) m' H') ∧ ∀ x H', J.yld i H x H' → gName j x (wipe σ [j]) H' fun σ2 H2 => wipe σ2 [j] = wipe σ [j] ∧ tYes σ2 H2 fun b H3 =>
        if b = true then te σ2 H3 fun y H4 => ∃ acc, H4 D = some (.lst acc) ∧ acc.length < sizeLine ∧ Nx (upd H4 D (.lst (acc ++ [y]))) else Nx H3) := by
  have nD := fdNe hF hD
  refine lcJ (n := m) (fun i H => ∃ r : List (Option Str), H D = some (.lst (r.map vA)) ∧ r.length = i ∧ (∀ a ∈ r, pr a) ∧ Kp f H1 H ∧ Fd H f) ⟨[], upd_same, rfl, fun v hv => absurd hv (by simp), Kp.new hD, fdOther hF nD⟩ (fun i H lt h => hgo i H lt h.choose_spec.2.2.2.1) (fun H h => hst H h.choose_spec.2.2.2.1) (fun i H x H' lt h y => ?_) (fun H h => ?_)
  · obtain ⟨r, e, el, hv, kp, fd⟩ := h
    obtain ⟨rfl, hs2⟩ := hs i x H H' lt kp fd y
    refine ⟨hw _, ?_⟩
    unfold tYes
    dsimp only
    rw [if_pos rfl]
    refine hs2 _ fun a H2 ha k2 f2 => ?_
    have e2 := k2 D _ nD e
    refine ⟨_, e2, by rw [sizeLine_eq, List.length_map]; omega, r ++ [a], ?_, by rw [List.length_append, el]; rfl, fun u hu => ?_, fun b o nb hb => ?_, fdOther f2 nD⟩
    · rw [List.map_append]
      exact upd_same
    · rcases List.mem_append.mp hu with z | z
      · exact hv u z
      · rw [List.mem_singleton.mp z]
        exact ha
    · rw [upd_ne (ne_of_none hb hD)]
      exact k2 _ _ nb (kp _ _ nb hb)
  · obtain ⟨r, e, el, hv, kp, fd⟩ := h
    exact hd H r e el hv kp fd
section
variable {P : Program} {w : World} {K : PySem.W.Frag} {mg : Str → Option Value} {base : Heap} {f : Addr} {fd : FuncData}
theorem neRows {H : Hp} {D e : Addr} {zs : List V} {rs : List (List (Option Str))} {Q : VK} (hD : H D = some (.lst zs)) (he : H e = some (.lst [])) (hz : DpAll K H zs (rs.map rowD)) (ok : ∀ r ∈ rs, RowOk r) (h : Q (.bl (!decide (rs = []))) H) : rNeD K (.ref D) (.ref e) H Q := by
  obtain ⟨a, b⟩ := allLay (ds := rs.map rowD) (n := 1) fun d hd => by
    obtain ⟨r, hr, rfl⟩ := List.mem_map.mp hd
    exact (odRow (ok r hr)).lay
  refine ⟨.list (rs.map rowD), .list [], .lst (.inl (.inl hD)) hz, .lst (.inl (.inl he)) .nil, ?_, rfl, ?_⟩
  · have e1 : (PyData.list (rs.map rowD)).canLay0 = true := a
    unfold SeqAt.shaped
    rw [e1, Bool.true_and]
    refine decide_eq_true ?_
    simp only [PyData.depth]
    omega
  · cases rs with
    | nil => exact h
    | cons t ts => exact h
end
end TRE

set_option Elab.async false
set_option linter.all false
set_option maxRecDepth 100000
set_option maxHeartbeats 8000000
namespace TRE
open PySem PySem.Spec PyProof.Rows L2 ND KS KS.La PLC
abbrev lParts : Stmt := top 44
theorem plPt (p : Pt) : Pl 1 (ptD p) := by
  cases p with
  | txt z => exact .str _ _
  | itm r i =>
    refine .tup fun d hd => ?_
    simp only [List.mem_cons, List.not_mem_nil, or_false] at hd
    rcases hd with rfl | rfl <;> exact .int _ _
section
variable {P : Program} {w : World} {K : PySem.W.Frag} {mg : Str → Option Value} {base : Heap} {f : Addr} {fd : FuncData}
def spParts (K : PySem.W.Frag) : Sp := fun vs H Q _ => ∃ f : Addr, vs = [.ref f] ∧ Fd H f ∧ ∀ v ps H', ps.length ≤ 3 → (∀ p ∈ ps, PtOk p) → Dp K H' v (.tuple (List.map ptD ps)) → Kp f H H' → Fd H' f → Q v H'
abbrev nParts : List Str := ["_law_feed", "_law_found", "_law_turn", "_law_pair"]
theorem scParts : FnScope nParts ["_law_feed"] (defScope lParts) := ⟨rfl, rfl, rfl, by decide +kernel, rfl, by decide +kernel, by decide +kernel⟩
theorem okSomeParts {k : Nat} (F : FnP K "_law_some_parts" lParts f fd) (B : Bn mg) (D : Has P w K mg base (k + 1) "_law_draw" ["_law_feed", "_law_many"] spDraw) (T : Has P w K mg base (k + 3) "_law_some_text" ["_law_feed"] spText) : FnOk P w K mg base CX0 (k + 4) f fd ["_law_feed"] (spParts K) := by
  obtain ⟨fD, fdD, gD, kD, bD, GD⟩ := D.ex
  obtain ⟨fT, fdT, gT, kT, bT, GT⟩ := T.ex
  refine F.ok scParts (fun vs H Q E h => ?_) (fun cdv A outer s H vs Q E hr h => ?_)
  · obtain ⟨a, rfl, _⟩ := h
    rfl
  · obtain ⟨a, rfl, hF, q⟩ := h
    have hr1 : Room (k + 1) _ := hr.mono (by omega)
    refine ⟨_, PSs.nox (pss_cons (ps_set (i := 1) scParts.nd rfl (.inl rfl) (pe_lst pa_nil)) (pss_cons (ps_for PassesOwn.never rfl (pi_range1 (by rfl) B.range (pa_cons (pe_call GD hr1 (by rfl) gD kD bD .nil pass0 (pa_cons (pv 0) (pa_cons (pe_int) pa_nil))) pa_nil)) (pg_name (i := 2) scParts.nd rfl (.inl rfl))
        (pss_cons (ps_set (i := 3) scParts.nd rfl (.inl rfl) (pe_tup (pa_cons (pe_op op_sub (pe_call GD hr1 (by rfl) gD kD bD .nil pass0 (pa_cons (pv 0) (pa_cons (pe_int) pa_nil))) pe_int) (pa_cons (pe_op op_sub (pe_call GD hr1 (by rfl) gD kD bD .nil pass0 (pa_cons (pv 0) (pa_cons (pe_int) pa_nil))) pe_int) pa_nil)))) (pss_one (ps_expr (pe_bm PySem.F.plainAttrs_list PySem.F.slot_list_append PySem.F.type_list_append mt_append (pv 1) (pa_cons (pe_ifExp (pt_cmpR op_gt (pe_call GD hr1 (by rfl) gD kD bD .nil pass0 (pa_cons (pv 0) (pa_cons (pe_int) pa_nil))) pe_int (nomark _)) (pv 3) (pe_call GT hr (by rfl) gT kT bT .nil pass0 (pa_cons (pv 0) pa_nil))) pa_nil)))))) (pss_one (ps_ret (pe_callTy call_tuple_of (by rfl) B.tuple (by decide +kernel) (pa_cons (pv 1) pa_nil)))))), ?_⟩
    refine ⟨Nat.zero_le _, fun R hR => ?_⟩
    have nR := fdNe hF hR
    have F1 := hF.new (o := .lst []) hR
    have pls : ∀ {ps : List Pt} {H H' : Hp} {xs : List V}, TS H H' → DpAll K H xs (ps.map ptD) → DpAll K H' xs (ps.map ptD) := fun t h => allPl (n := 1) (fun d hd => by
      obtain ⟨p', _, rfl⟩ := List.mem_map.mp hd
      exact plPt p') t h
    refine ⟨.ref a, rfl, a, 4, rfl, F1, by decide, by decide, fun r H2 r0 r1 k2 F2 => ⟨r, rfl, by omega, by omega, ?_⟩⟩
    obtain ⟨m, rfl⟩ : ∃ m : Nat, r = (m : Int) := ⟨r.toNat, by omega⟩
    rw [Int.toNat_natCast]
    refine forJ (n := m) (fun i σ' H' => ∃ t u rs ps, σ' = [some (.ref a), some (.ref R), t, u] ∧ H' R = some (.lst rs) ∧ DpAll K H' rs (List.map ptD ps) ∧ ps.length = i ∧ (∀ p ∈ ps, PtOk p) ∧ Kp a H H' ∧ Fd H' a) ⟨none, none, [], [], rfl, k2 _ _ nR upd_same, .nil, rfl, fun v hv => absurd hv (by simp), (Kp.new hR).trans k2, F2⟩ (fun i σ' H' lt _ => lt) (fun σ' H' _ => Nat.le_refl _)
      (fun i σ' H3 x H4 lt h y => ?_) (fun σ' H' h => ?_)
    · obtain ⟨rfl, rfl⟩ := y
      obtain ⟨t, u, rs, ps, rfl, eR, hrs, lR, hv, k3, F3⟩ := h
      have lrs := dpLen hrs
      rw [List.length_map] at lrs
      refine ⟨.ref a, rfl, a, 5, rfl, F3, by decide, by decide, fun x1 H5 a0 a1 k5 F5 => ⟨x1, 1, rfl, rfl, .ref a, rfl, a, 6, rfl, F5, by decide, by decide, fun x2 H6 b0 b1 k6 F6 => ⟨x2, 1, rfl, rfl, (by show 2 ≤ sizeLine; decide), fun p hp => ?_⟩⟩⟩
      have F7 := F6.new (o := .tup [.int (x1 - 1), .int (x2 - 1)]) hp
      have k7 : Kp a H4 (upd H6 p (.tup [.int (x1 - 1), .int (x2 - 1)])) := (k5.trans k6).trans (Kp.new hp)
      have v7 : Dp K (upd H6 p (.tup [.int (x1 - 1), .int (x2 - 1)])) (.ref p) (ptD (.itm (x1 - 1) (x2 - 1))) := .tup (.inl (.inl upd_same)) (.cons (.int _) (.cons (.int _) .nil))
      generalize upd H6 p (.tup [.int (x1 - 1), .int (x2 - 1)]) = H7 at *
      have eR7 := k7 _ _ nR eR
      have fin : ∀ (v : V) (pt : Pt) H8, PtOk pt → Dp K H8 v (ptD pt) → Kp a H7 H8 → Fd H8 a → ∃ rs' ps', upd H8 R (.lst (rs ++ [v])) R = some (.lst rs') ∧ DpAll K (upd H8 R (.lst (rs ++ [v]))) rs' (List.map ptD ps') ∧ ps'.length = i + 1 ∧ (∀ u ∈ ps', PtOk u) ∧ Kp a H (upd H8 R (.lst (rs ++ [v]))) ∧ Fd (upd H8 R (.lst (rs ++ [v]))) a := fun v pt H8 ok8 hv8 k8 F8 => by
        have eR8 := k8 _ _ nR eR7
        have t9 := TS.lst (o := .lst (rs ++ [v])) eR8
        refine ⟨rs ++ [v], ps ++ [pt], upd_same, ?_, by rw [List.length_append, lR]; rfl, fun u hu => ?_, fun b o nb hb => ?_, fdOther F8 nR⟩
        · rw [List.map_append]
          exact dpSnoc (dpTS t9 (plPt _) _ hv8) (pls ((tsKp F3 (k7.trans k8)).trans t9) hrs)
        · rcases List.mem_append.mp hu with z | z
          · exact hv u z
          · rw [List.mem_singleton.mp z]
            exact ok8
        · rw [upd_ne (ne_of_none hb hR)]
          exact k8 _ _ nb (k7 _ _ nb (k3 _ _ nb hb))
      refine ⟨.ref R, rfl, .inl ⟨rfl, _, .inl (.inl eR7)⟩, .ref a, rfl, a, 3, rfl, F7, by decide, by decide, fun x3 H8 c0 c1 k8 F8 => ⟨_, _, rfl, rfl, _, rfl, ite2 (fun _ => ?_) (fun _ => ?_)⟩⟩
      · refine ⟨.ref p, rfl, R, rs, .ref p, rfl, rfl, k8 _ _ nR eR7, by rw [sizeLine_eq]; omega, ?_⟩
        obtain ⟨rs', ps', e1, e2, e3, e4, e5, e6⟩ := fin (.ref p) (.itm (x1 - 1) (x2 - 1)) H8 trivial (dpTS (tsKp F7 k8) (plPt _) _ v7) k8 F8
        exact ⟨_, _, rs', ps', rfl, e1, e2, e3, e4, e5, e6⟩
      · refine ⟨.ref a, rfl, a, rfl, F8, fun z H9 tz k9 F9 => ?_⟩
        refine ⟨R, rs, .str z, rfl, rfl, k9 _ _ nR (k8 _ _ nR eR7), by rw [sizeLine_eq]; omega, ?_⟩
        obtain ⟨rs', ps', e1, e2, e3, e4, e5, e6⟩ := fin (.str z) (.txt z) H9 tz (.str z) (k8.trans k9) F9
        exact ⟨_, _, rs', ps', rfl, e1, e2, e3, e4, e5, e6⟩
    · obtain ⟨t, u, rs, ps, rfl, eR, hrs, lR, hv, k3, F3⟩ := h
      refine ⟨.ref R, rfl, R, rs, rfl, .inl ⟨.inl (.inl eR), fun T hT => ?_⟩⟩
      exact q _ ps _ (by omega) hv (.tup (.inl (.inl upd_same)) (dpAllSame (sameUpd hT) _ _ hrs)) (k3.trans (Kp.new hT)) (F3.new hT)
end
end TRE

set_option Elab.async false
set_option linter.all false
set_option maxRecDepth 100000
set_option maxHeartbeats 8000000
namespace TRE
open PySem PySem.Spec PyProof.Rows L2 ND KS KS.La PLC
theorem dpAppend {K : PySem.W.Frag} {H : Hp} {ys : List V} {es : List PyData} (hy : DpAll K H ys es) : ∀ {xs : List V} {ds : List PyData}, DpAll K H xs ds → DpAll K H (xs ++ ys) (ds ++ es)
  | _, _, .nil => hy
  | _, _, .cons h r => .cons h (dpAppend hy r)
theorem catD {K : PySem.W.Frag} {H : Hp} {v u : V} {ds es : List PyData} {Q : VK} (hv : Dp K H v (.tuple ds)) (hu : Dp K H u (.tuple es)) (hl : ds.length + es.length ≤ 1000) (q : ∀ y H', Same H H' → Dp K H' y (.tuple (ds ++ es)) → Q y H') : rCatA K v u H Q := by
  cases hv with
  | @tup a xs _ ha hx =>
    cases hu with
    | @tup b ys _ hb hy =>
      have l1 := dpLen hx
      have l2 := dpLen hy
      refine ⟨a, b, xs, ys, rfl, rfl, ha, hb, by rw [sizeLine_eq]; omega, fun e => ?_, fun _ e => ?_, fun _ _ p hp => ?_⟩
      · subst e
        have : ds = [] := List.eq_nil_of_length_eq_zero l1.symm
        subst this
        exact q _ H (Same.refl H) (.tup hb hy)
      · subst e
        have : es = [] := List.eq_nil_of_length_eq_zero l2.symm
        subst this
        rw [List.append_nil] at q
        exact q _ H (Same.refl H) (.tup ha hx)
      · have s1 := sameUpd (o := .tup (xs ++ ys)) hp
        exact q _ _ s1 (.tup (.inl (.inl upd_same)) (dpAppend (dpAllSame s1 _ _ hy) (dpAllSame s1 _ _ hx)))
/-- a place of a run of the tree t, called c with as -/
def AtRun (t : Tr) (c : Str) (as : List Str) (q : Pc) : Prop := q.c = c ∧ q.as = as ∧ CanW t q.rs ∧ (∀ r ∈ q.rs, RowOk r) ∧ ∃ n : Nat, q.n = (n : Int) ∧ CanD (walk t q.rs) n
theorem canDSnoc : ∀ {n : Nat} {t : Tr} {o ps m}, CanD t n → down t n = .wr o ps m → CanD t (n + 1)
  | 0, .wr _ _ _, _, _, _, _, e => by
    cases e
    show CanD _ 0
    cases ‹Tr› <;> trivial
  | 0, .stop, _, _, _, _, e => by cases e
  | 0, .rd _ _ _, _, _, _, _, e => by cases e
  | n + 1, .wr _ _ s, o, ps, m, h, e => canDSnoc (n := n) (t := s) (o := o) (ps := ps) (m := m) h e
  | n + 1, .stop, _, _, _, h, _ => h.elim
  | n + 1, .rd _ _ _, _, _, _, h, _ => h.elim
theorem nextDown : ∀ {n : Nat} {t : Tr} {ks cs l}, CanD t n → down t n = .rd ks cs l → nextRead t = .rd ks cs l
  | 0, .wr _ _ _, _, _, _, _, e => by cases e
  | 0, .stop, _, _, _, _, e => by cases e
  | 0, .rd _ _ _, _, _, _, _, e => e
  | n + 1, .wr _ _ s, ks, cs, l, h, e => nextDown (n := n) (t := s) (ks := ks) (cs := cs) (l := l) h e
  | n + 1, .stop, _, _, _, h, _ => h.elim
  | n + 1, .rd _ _ _, _, _, _, h, _ => h.elim
theorem canWSnoc : ∀ {rs : List (List (Option Str))} {t : Tr} {r : List (Option Str)}, CanW t rs → (∃ ks cs l, nextRead (walk t rs) = .rd ks cs l) → CanW t (rs ++ [r])
  | [], t, r, _, h => ⟨h, trivial⟩
  | x :: rs, t, r, h, h2 => ⟨h.1, canWSnoc (rs := rs) h.2 h2⟩
theorem atOk {t : Tr} {c : Str} {as : List Str} {q : Pc} (h : AtRun t c as q) (hc : TOk c) (ha : ∀ z ∈ as, TOk z) (hl : as.length ≤ 4) (hr : q.rs.length ≤ 100) : Ok q := by
  obtain ⟨rfl, rfl, _, h4, _⟩ := h
  exact ⟨hc, ha, hl, h4, hr⟩
end TRE

set_option Elab.async false
set_option linter.all false
set_option maxRecDepth 100000
set_option maxHeartbeats 4000000
namespace PLC
open PySem PySem.Spec PyProof.Rows L2 ND KS KS.La
abbrev sAW : Stmt := top 14
abbrev sAR : Stmt := top 15
def spAW (K : PySem.W.Frag) : Sp := fun vs H Q _ => ∃ v p, vs = [v] ∧ Dp K H v (pcD p) ∧ ∀ r H', Same H H' → Dp K H' r (pcD { p with n := p.n + 1 }) → Q r H'
def spAR (K : PySem.W.Frag) : Sp := fun vs H Q _ => ∃ v u p row, vs = [v, u] ∧ Dp K H v (pcD p) ∧ p.rs.length ≤ 100 ∧ Dp K H u (rowD row) ∧ ∀ r H', Same H H' → Dp K H' r (pcD { p with rs := p.rs ++ [row], n := 0 }) → Q r H'
section
variable {P : Program} {w : World} {K : PySem.W.Frag} {mg : Str → Option Value} {base : Heap} {f : Addr} {fd : FuncData}
theorem scAW : FnScope ["place", "recipe", "arguments", "answers", "count"] ["place"] (defScope sAW) := ⟨rfl, rfl, rfl, by decide +kernel, rfl, by decide +kernel, by decide +kernel⟩
theorem okAW {k : Nat} (F : FnP K "after_write" sAW f fd) : FnOk P w K mg base CX0 (k + 1) f fd ["place"] (spAW K) := by
  refine F.ok scAW (fun vs H Q E h => ?_) (fun cdv A outer s H vs Q E hr h => ?_)
  · obtain ⟨v, p, rfl, _⟩ := h
    rfl
  · obtain ⟨v, p, rfl, hd, q⟩ := h
    obtain ⟨a, va, vr, rfl, hs, ha, hv⟩ := pcAt hd
    refine ⟨_, PSs.nox (pss_cons (ps_asg (pv 0) (pg_tup rfl (pgs_cons (pg_name (i := 1) scAW.nd rfl (.inl rfl)) (pgs_cons (pg_name (i := 2) scAW.nd rfl (.inl rfl)) (pgs_cons (pg_name (i := 3) scAW.nd rfl (.inl rfl)) (pgs_cons (pg_name (i := 4) scAW.nd rfl (.inl rfl)) pgs_nil)))))) (pss_one (ps_ret (pe_tup (pa_cons (pv 1) (pa_cons (pv 2) (pa_cons (pv 3) (pa_cons (pe_op op_add (pv 4) pe_int) pa_nil)))))))), ?_⟩
    refine ⟨.ref a, rfl, a, _, rfl, hs, rfl, _, _, rfl, _, _, rfl, _, _, rfl, _, _, rfl, rfl, ?_⟩
    refine ⟨.str p.c, rfl, va, rfl, vr, rfl, .int p.n, rfl, p.n, 1, rfl, rfl, (by show 4 ≤ sizeLine; decide), fun t ht => ?_⟩
    have s1 := sameUpd (o := .tup [.str p.c, va, vr, .int (p.n + 1)]) ht
    exact q _ _ s1 (pcMk (p := { p with n := p.n + 1 }) (.inl (.inl upd_same)) (dpSame s1 _ _ ha) (dpSame s1 _ _ hv))
abbrev nAR : List Str := ["place", "answers", "recipe", "arguments", "rows", "_"]
theorem scAR : FnScope nAR ["place", "answers"] (defScope sAR) := ⟨rfl, rfl, rfl, by decide +kernel, rfl, by decide +kernel, by decide +kernel⟩
theorem okAR {k : Nat} (F : FnP K "after_read" sAR f fd) : FnOk P w K mg base CX0 (k + 1) f fd ["place", "answers"] (spAR K) := by
  refine F.ok scAR (fun vs H Q E h => ?_) (fun cdv A outer s H vs Q E hr h => ?_)
  · obtain ⟨v, u, p, row, rfl, _⟩ := h
    rfl
  · obtain ⟨v, u, p, row, rfl, hd, hl, hu, q⟩ := h
    obtain ⟨a, va, vr, rfl, hs, ha, hv⟩ := pcAt hd
    obtain ⟨b, xs, rfl, hb, hx⟩ := rowsAt hv
    refine ⟨_, PSs.nox (pss_cons (ps_asg (pv 0) (pg_tup rfl (pgs_cons (pg_name (i := 2) scAR.nd rfl (.inl rfl)) (pgs_cons (pg_name (i := 3) scAR.nd rfl (.inl rfl)) (pgs_cons (pg_name (i := 4) scAR.nd rfl (.inl rfl)) (pgs_cons (pg_name (i := 5) scAR.nd rfl (.inl rfl)) pgs_nil)))))) (pss_one (ps_ret (pe_tup (pa_cons (pv 2) (pa_cons (pv 3) (pa_cons (pe_tup (StX.pa_star (pv 4) (pa_cons (pv 1) pa_nil))) (pa_cons (pe_int) pa_nil)))))))), ?_⟩
    refine ⟨.ref a, rfl, a, _, rfl, hs, rfl, _, _, rfl, _, _, rfl, _, _, rfl, _, _, rfl, rfl, ?_⟩
    have hlx := dpLen hx
    rw [List.length_map] at hlx
    refine ⟨.str p.c, rfl, va, rfl, .ref b, rfl, b, xs, rfl, .inl hb, u, rfl, by rw [List.length_append, sizeLine_eq]; show xs.length + 1 ≤ _; omega, fun t ht => ⟨(by show 4 ≤ sizeLine; decide), fun t2 ht2 => ?_⟩⟩
    have s1 := sameUpd (o := .tup (xs ++ [u])) ht
    have s2 := sameUpd (o := .tup [.str p.c, va, .ref t, .int 0]) ht2
    have sA := s1.trans s2
    refine q _ _ sA (pcMk (p := { p with rs := p.rs ++ [row], n := 0 }) (.inl (.inl upd_same)) (dpSame sA _ _ ha) (.tup (sameTup s2 (.inl (.inl upd_same))) ?_))
    rw [List.map_append]
    exact dpSnoc (dpSame sA _ _ hu) (dpAllSame sA _ _ hx)
end
end PLC

set_option Elab.async false
set_option linter.all false
set_option maxRecDepth 100000
set_option maxHeartbeats 8000000
namespace TRE
open PySem PySem.Spec PyProof.Rows L2 ND KS KS.La PLC
theorem sokEmpty : SOk "" := by unfold SOk; decide +kernel
theorem sokJoin : ∀ l : List Str, (∀ z ∈ l, SOk z) → SOk (Str.join "" l)
  | [], _ => by
    show SOk Str.empty
    unfold SOk
    decide +kernel
  | [x], h => h x List.mem_cons_self
  | x :: y :: l, h => by
    show SOk (x ++ "" ++ Str.join "" (y :: l))
    exact sokCat (sokCat (h x List.mem_cons_self) sokEmpty) (sokJoin (y :: l) fun z hz => h z (List.mem_cons_of_mem _ hz))
theorem sokTxt (l : List Str) (h : ∀ z ∈ l, SOk z) : SOk (Txt.join "" l) := by
  have e : Txt.join "" l = Str.join "" l := StrLaws.glued_eq_join "" l
  rw [e]
  exact sokJoin l h
/-- a step's depth and sizes -/
theorem odStep {n : Nat} {rows : List (List (Option Str))} {t : Tr} (h : Od (n + 1) (trD t)) (ok : TrOk t) (hr : RowsOk rows) : Od (n + 1) (stepD rows t) := by
  have stp : Od (n + 1) (.tuple [.str "stop"]) := .tup (by show 1 ≤ 100; omega) fun d hd => by
    rw [List.mem_singleton.mp hd]
    exact .str _ (by unfold SOk; decide +kernel) (by decide +kernel)
  cases t with
  | stop => exact stp
  | rd ks cs l =>
    rw [trD] at h
    cases h with
    | tup h1 h2 =>
      refine .tup (by show 2 ≤ 100; omega) fun d hd => ?_
      simp only [List.mem_cons, List.not_mem_nil, or_false] at hd
      rcases hd with rfl | rfl
      · exact h2 _ (by simp)
      · exact h2 _ (by simp)
  | wr o ps m =>
    rw [TrOk] at ok
    rw [trD] at h
    show Od (n + 1) (if (Txt.join "" (ps.map (pieceS rows))).length ≤ 400 then .tuple [.str "write", .str o, .str (Txt.join "" (ps.map (pieceS rows)))] else .tuple [.str "stop"])
    split
    · rename_i hl
      cases h with
      | tup h1 h2 =>
        refine .tup (by show 3 ≤ 100; omega) fun d hd => ?_
        simp only [List.mem_cons, List.not_mem_nil, or_false] at hd
        rcases hd with rfl | rfl | rfl
        · exact h2 _ (by simp)
        · exact h2 _ (by simp)
        · refine .str _ (sokTxt _ fun z hz => ?_) (by omega)
          obtain ⟨p, hp, rfl⟩ := List.mem_map.mp hz
          exact (pieceTok hr (ok.1.2 p hp)).1
    · exact stp
theorem dpAtV {K : PySem.W.Frag} {H : Hp} : ∀ {vs : List V} {ds : List PyData}, DpAll K H vs ds → ∀ {i : Nat} {v : V}, vs[i]? = some v → ∃ d, ds[i]? = some d ∧ Dp K H v d
  | _, _, .nil, i, v, e => by simp at e
  | _, _, .cons h r, 0, v, e => ⟨_, rfl, by obtain rfl := Option.some.inj e; exact h⟩
  | _, _, .cons h r, i + 1, v, e => dpAtV r e
theorem svDp {K : PySem.W.Frag} {H : Hp} {n : Nat} {d : PyData} (o : Od n d) : ∀ {v w : V}, Dp K H v d → Dp K H w d → Sv K H n v w := by
  induction o with
  | non n => intro v w a b; cases a; cases b; exact .flat .non
  | bl n b => intro v w a b; cases a; cases b; exact .flat (.bl _)
  | int n i => intro v w a b; cases a; cases b; exact .flat (.int _)
  | str n h h2 => intro v w a b; cases a; cases b; exact .flat (.str _)
  | @tup n ds h h2 ih =>
    intro v w a b
    cases a with
    | @tup a1 xs _ ha hx =>
      cases b with
      | @tup b1 ys _ hb hy =>
        have l1 := dpLen hx
        have l2 := dpLen hy
        refine .tup ha hb (by omega) (by omega) fun i v w e1 e2 => ?_
        obtain ⟨d, hd, h3⟩ := dpAtV hx e1
        obtain ⟨d', hd', h4⟩ := dpAtV hy e2
        obtain rfl := Option.some.inj (hd.symm.trans hd')
        exact ih d (List.mem_of_getElem? hd) h3 h4
theorem svLst {K : PySem.W.Frag} {H : Hp} {n : Nat} {ds : List PyData} {a b : Addr} {xs ys : List V} (o : ∀ d ∈ ds, Od n d) (hl : ds.length ≤ 1000) (ha : H a = some (.lst xs)) (hb : H b = some (.lst ys)) (hx : DpAll K H xs ds) (hy : DpAll K H ys ds) : Sv K H (n + 1) (.ref a) (.ref b) := by
  have l1 := dpLen hx
  have l2 := dpLen hy
  refine .lst (.inl (.inl ha)) (.inl (.inl hb)) (by omega) (by omega) fun i v w e1 e2 => ?_
  obtain ⟨d, hd, h3⟩ := dpAtV hx e1
  obtain ⟨d', hd', h4⟩ := dpAtV hy e2
  obtain rfl := Option.some.inj (hd.symm.trans hd')
  exact svDp (o d (List.mem_of_getElem? hd)) h3 h4
end TRE

set_option Elab.async false
set_option linter.all false
set_option maxRecDepth 100000
set_option maxHeartbeats 8000000
namespace TRE
open PySem PySem.Spec PyProof.Rows L2 ND KS KS.La PLC
abbrev lMixed : Stmt := top 37
/-- data put into another order -/
def spMixG {α : Type} (K : PySem.W.Frag) (e : α → PyData) : Sp := fun vs H Q _ => ∃ (f l : Addr) (xs : List V) (ds : List α), vs = [.ref f, .ref l] ∧ Fd H f ∧ SqL K H l xs ∧ ds.length ≤ 50 ∧ DpAll K H xs (ds.map e) ∧ (∀ d ∈ ds, Od 50 (e d)) ∧
  ∀ (p : Addr) (ys : List V) (es : List α) (H' : Hp), H p = none → Kp f H H' → Fd H' f → H' p = some (.lst ys) → DpAll K H' ys (es.map e) → es.Perm ds → Q (.ref p) H'
theorem dpErase {K : PySem.W.Frag} {H : Hp} : ∀ {j : Nat} {xs : List V} {ds : List PyData}, DpAll K H xs ds → DpAll K H (xs.eraseIdx j) (ds.eraseIdx j)
  | _, _, _, .nil => .nil
  | 0, _, _, .cons _ r => r
  | j + 1, _, _, .cons h r => .cons h (dpErase (j := j) r)
theorem mapErase {α β : Type} (g : α → β) : ∀ (l : List α) (j : Nat), (l.eraseIdx j).map g = (l.map g).eraseIdx j
  | [], _ => rfl
  | _ :: _, 0 => rfl
  | x :: l, j + 1 => by
    show g x :: (l.eraseIdx j).map g = g x :: (l.map g).eraseIdx j
    rw [mapErase g l j]
theorem permErase {α : Type} : ∀ (l : List α) (j : Nat) (h : j < l.length), (l[j] :: l.eraseIdx j).Perm l
  | _ :: _, 0, _ => List.Perm.refl _
  | x :: l, j + 1, h => by
    have h2 : j < l.length := Nat.lt_of_succ_lt_succ h
    exact (List.Perm.swap x l[j] (l.eraseIdx j)).trans ((permErase l j h2).cons x)
section
variable {P : Program} {w : World} {K : PySem.W.Frag} {mg : Str → Option Value} {base : Heap} {f : Addr} {fd : FuncData} {α : Type}
theorem neG {e : α → PyData} {H : Hp} {D p : Addr} {zs : List V} {ds : List α} {Q : VK} (hD : H D = some (.lst zs)) (he : H p = some (.lst [])) (hz : DpAll K H zs (ds.map e)) (od : ∀ d ∈ ds, Od 50 (e d)) (h : Q (.bl (!decide (zs.length = 0))) H) : rNeD K (.ref D) (.ref p) H Q := by
  have l := dpLen hz
  obtain ⟨a, b⟩ := allLay (ds := ds.map e) (n := 50) fun d hd => by
    obtain ⟨t, ht, rfl⟩ := List.mem_map.mp hd
    exact (od t ht).lay
  refine ⟨.list (ds.map e), .list [], .lst (.inl (.inl hD)) hz, .lst (.inl (.inl he)) .nil, ?_, rfl, ?_⟩
  · have e1 : (PyData.list (ds.map e)).canLay0 = true := a
    unfold SeqAt.shaped
    rw [e1, Bool.true_and]
    refine decide_eq_true ?_
    simp only [PyData.depth]
    omega
  · cases ds with
    | nil =>
      rw [decide_eq_true (by simpa using l)] at h
      exact h
    | cons t ts =>
      rw [decide_eq_false (by rw [l]; simp)] at h
      exact h
theorem scMixed : FnScope ["_law_feed", "_law_items", "_law_left", "_law_found"] ["_law_feed", "_law_items"] (defScope lMixed) := ⟨rfl, rfl, rfl, by decide +kernel, rfl, by decide +kernel, by decide +kernel⟩
theorem okMixG {k : Nat} (e : α → PyData) (pl : ∀ d, ∃ n, Pl n (e d)) (F : FnP K "_law_mixed" lMixed f fd) (B : Bn mg) (D : Has P w K mg base (k + 1) "_law_draw" ["_law_feed", "_law_many"] spDraw) : FnOk P w K mg base CX0 (k + 2) f fd ["_law_feed", "_law_items"] (spMixG K e) := by
  obtain ⟨fD, fdD, gD, kD, bD, GD⟩ := D.ex
  refine F.ok scMixed (fun vs H Q E h => ?_) (fun cdv A outer s H vs Q E hr h => ?_)
  · obtain ⟨a, l, xs, ds, rfl, _⟩ := h
    rfl
  · obtain ⟨a, l, xs, ds, rfl, hF, hL, hlen, hv, hod, q⟩ := h
    have eG : ∀ {ds : List α} {H H' : Hp} {xs : List V}, TS H H' → DpAll K H xs (ds.map e) → DpAll K H' xs (ds.map e) := fun t h => allTS (fun d hd v h => by
      obtain ⟨x, _, rfl⟩ := List.mem_map.mp hd
      obtain ⟨n, p⟩ := pl x
      exact dpTS t p v h) h
    have lx := dpLen hv
    rw [List.length_map] at lx
    refine ⟨_, PSs.nox (pss_cons (ps_par (i := 2) (j := 3) (by rfl) scMixed.nd rfl rfl (by decide) rfl rfl (pa_cons (pe_callTy call_list_of (by rfl) B.list (by decide +kernel) (pa_cons (pv 1) pa_nil)) (pa_cons (pe_lst pa_nil) pa_nil)) (by rfl)) (pss_cons (ps_while PassesOwn.never (pt_cmpR (r := rNeD K) (op_neD hr.units) (pv 2) (pe_lst pa_nil) (nomark _))
        (pss_one (ps_expr (pe_bm PySem.F.plainAttrs_list PySem.F.slot_list_append PySem.F.type_list_append mt_append (pv 3) (pa_cons (pe_bm PySem.F.plainAttrs_list PySem.F.slot_list_pop PySem.F.type_list_pop mt_popAt (pv 2) (pa_cons (pe_call GD hr (by rfl) gD kD bD .nil pass0 (pa_cons (pv 0) (pa_cons (pe_callB call_len_seq (by rfl) B.len PySem.boot_len (pa_cons (pv 2) pa_nil)) pa_nil))) pa_nil)) pa_nil))))) (pss_one (ps_ret (pv 3))))), ?_⟩
    refine ⟨.ref l, rfl, l, xs, rfl, .inl hL, fun L hLn => ⟨(by show 0 ≤ sizeLine; exact Nat.zero_le _), fun M hMn => ⟨_, _, rfl, ?_⟩⟩⟩
    have s1 := sameUpd (o := .lst xs) hLn
    have s2 := sameUpd (o := .lst []) hMn
    have neLM : L ≠ M := fun z => by rw [z] at hMn; rw [upd_same] at hMn; cases hMn
    have hMn0 : H M = none := by
      cases e9 : H M with
      | none => rfl
      | some o => rw [s1 _ _ e9] at hMn; cases hMn
    have neLa := fdNe hF hLn
    have neMa := fdNe hF hMn0
    have eL : upd (upd H L (.lst xs)) M (.lst []) L = some (.lst xs) := s2 _ _ upd_same
    have eM : upd (upd H L (.lst xs)) M (.lst []) M = some (.lst []) := upd_same
    have F2 := (hF.same s1).same s2
    have k2 : Kp a H (upd (upd H L (.lst xs)) M (.lst [])) := Kp.same (s1.trans s2)
    generalize upd (upd H L (.lst xs)) M (.lst []) = H2 at *
    refine ⟨fun m σ' H' => ∃ zs ys, σ' = [some (.ref a), some (.ref l), some (.ref L), some (.ref M)] ∧ m = zs.length ∧ zs.length + ys.length = xs.length ∧ H' L = some (.lst zs) ∧ H' M = some (.lst ys) ∧ (∃ ls fs : List α, DpAll K H' zs (ls.map e) ∧ DpAll K H' ys (fs.map e) ∧ (ls ++ fs).Perm ds) ∧ Kp a H H' ∧ Fd H' a,
      ⟨_, xs, [], rfl, rfl, by simp, eL, eM, ⟨ds, [], eG (tsKp hF k2) hv, .nil, by rw [List.append_nil]⟩, k2, F2⟩, fun m σ' H' hw => ?_⟩
    obtain ⟨zs, ys, rfl, rfl, hl, eL', eM', ⟨ls, fs, hz, hy, pm⟩, k', F'⟩ := hw
    refine ⟨.ref L, rfl, Nat.zero_le _, fun p hp => ?_⟩
    have sp := sameUpd (o := .lst []) hp
    have oz : ∀ d ∈ ls, Od 50 (e d) := fun d hd => hod d (pm.subset (List.mem_append_left _ hd))
    refine neG (sp _ _ eL') upd_same (dpAllSame sp _ _ hz) oz ⟨_, rfl, ?_⟩
    have kp' : Kp a H (upd H' p (.lst [])) := k'.trans (Kp.same sp)
    have F3 := F'.same sp
    have eL3 := sp _ _ eL'
    have eM3 := sp _ _ eM'
    have hz3 := dpAllSame sp _ _ hz
    have hy3 := dpAllSame sp _ _ hy
    have lz := dpLen hz
    have lyy := dpLen hy
    rw [List.length_map] at lz lyy
    generalize upd H' p (.lst []) = H3 at *
    by_cases e0 : zs.length = 0
    · rw [decide_eq_true e0]
      refine iteF ?_
      have l0 : ls = [] := List.eq_nil_of_length_eq_zero (by omega)
      rw [l0, List.nil_append] at pm
      exact ⟨.ref M, rfl, q M ys fs H3 hMn0 kp' F3 eM3 hy3 pm⟩
    · rw [decide_eq_false e0]
      refine iteT ⟨fun σ2 H4 => ∃ m', m' < zs.length ∧ ∃ zs ys, σ2 = [some (.ref a), some (.ref l), some (.ref L), some (.ref M)] ∧ m' = zs.length ∧ zs.length + ys.length = xs.length ∧ H4 L = some (.lst zs) ∧ H4 M = some (.lst ys) ∧ (∃ ls fs : List α, DpAll K H4 zs (ls.map e) ∧ DpAll K H4 ys (fs.map e) ∧ (ls ++ fs).Perm ds) ∧ Kp a H H4 ∧ Fd H4 a, fun _ _ z => z, ?_⟩
      have pos : 0 < zs.length := by omega
      refine ⟨.ref M, rfl, .inl ⟨rfl, _, .inl (.inl eM3)⟩, .ref L, rfl, .inl ⟨rfl, _, .inl (.inl eL3)⟩, .ref a, rfl, .ref L, rfl, L, zs, rfl, .inl (.inl (.inl eL3)), a, (zs.length : Int), rfl, F3, by omega, by omega, fun r H4 r0 r1 k4 F4 => ?_⟩
      obtain ⟨j, rfl⟩ : ∃ j : Nat, r = (j : Int) := ⟨r.toNat, by omega⟩
      have hj : j < zs.length := by omega
      have eL4 := k4 _ _ neLa eL3
      have eM4 := k4 _ _ neMa eM3
      have hsi : seqIndex? (j : Int) zs.length = some j := by
        unfold seqIndex?
        rw [if_neg (show ¬ ((j : Int) < 0) by omega)]
        show (if (decide ((0 : Int) ≤ (j : Int)) && decide ((j : Int) < (zs.length : Int))) = true then some ((j : Int).toNat) else none) = some j
        rw [if_pos (by rw [Bool.and_eq_true, decide_eq_true_eq, decide_eq_true_eq]; omega)]
        rfl
      refine ⟨L, zs, (j : Int), j, zs[j], rfl, rfl, eL4, by omega, by omega, hsi, List.getElem?_eq_getElem hj, ?_⟩
      have kt4 : TS H3 H4 := tsKp F3 k4
      have kt5 : TS H4 (upd H4 L (.lst (zs.eraseIdx j))) := TS.lst eL4
      have eM5 : upd H4 L (.lst (zs.eraseIdx j)) M = some (.lst ys) := by rw [upd_ne (Ne.symm neLM)]; exact eM4
      refine ⟨M, ys, zs[j], rfl, rfl, eM5, by rw [sizeLine_eq]; omega, ?_⟩
      have kt6 := TS.lst (o := .lst (ys ++ [zs[j]])) eM5
      have ktA := (kt4.trans kt5).trans kt6
      refine ⟨(zs.eraseIdx j).length, by rw [List.length_eraseIdx_of_lt hj]; omega, zs.eraseIdx j, ys ++ [zs[j]], rfl, rfl, by rw [List.length_eraseIdx_of_lt hj, List.length_append]; show zs.length - 1 + (ys.length + 1) = _; omega, ?_, upd_same, ⟨ls.eraseIdx j, fs ++ [ls[j]'(by omega)], ?_, ?_, ?_⟩, fun b o nb hb => ?_, fdOther (fdOther F4 neLa) neMa⟩
      · rw [upd_ne neLM]
        exact upd_same
      · have h1 := dpErase (j := j) hz3
        rw [← mapErase] at h1
        exact eG ktA h1
      · rw [List.map_append]
        refine dpSnoc ?_ (eG ktA hy3)
        have hj2 : j < ls.length := by omega
        have ee : (ls.map e)[j]? = some (e (ls[j]'hj2)) := by rw [List.getElem?_map, List.getElem?_eq_getElem hj2]; rfl
        obtain ⟨v', g1, g2⟩ := dpAt hz3 ee
        rw [List.getElem?_eq_getElem hj] at g1
        obtain ⟨n, p⟩ := pl (ls[j]'hj2)
        have g3 := dpTS ktA p _ g2
        rw [← Option.some.inj g1] at g3
        exact g3
      · have hj2 : j < ls.length := by omega
        refine List.Perm.trans ?_ pm
        rw [← List.append_assoc]
        exact (List.perm_append_comm.trans (List.Perm.append_right fs (permErase ls j hj2)))
      · rw [upd_ne (ne_of_none hb hMn0), upd_ne (ne_of_none hb hLn)]
        exact k4 _ _ nb (kp' _ _ nb hb)
end
end TRE

set_option Elab.async false
set_option linter.all false
set_option maxRecDepth 100000
set_option maxHeartbeats 8000000
namespace TRE
open PySem PySem.Spec PyProof.Rows L2 ND KS KS.La PLC
abbrev lKeys : Stmt := top 46
abbrev lOuts : Stmt := top 39
def outsL : List Str := ["o", "read", "write", "z9z9z9z9"]
theorem outsNd : outsL.Nodup := by unfold outsL; decide +kernel
theorem notTake {α : Type} {l : List α} (h : l.Nodup) {i : Nat} (lt : i < l.length) : l[i] ∉ l.take i := fun hm => by
  have h2 : (l.take (i + 1)).Nodup := h.sublist (List.take_sublist _ _)
  rw [List.take_succ_eq_append_getElem lt] at h2
  exact (List.nodup_append.mp h2).2.2 _ hm _ (List.mem_singleton.mpr rfl) rfl
theorem plKy (k : Str × Str) : Pl 1 (kyD k) := .tup fun d hd => by
  simp only [List.mem_cons, List.not_mem_nil, or_false] at hd
  rcases hd with rfl | rfl <;> exact .str _ _
section
variable {P : Program} {w : World} {K : PySem.W.Frag} {mg : Str → Option Value} {base : Heap} {f : Addr} {fd : FuncData}
theorem cutTake (xs : List V) (j : Nat) : cutV xs none (some (j : Int)) = xs.take j := by
  unfold cutV
  rw [HT.sIx_nat, HT.sIx_none, List.drop_zero, Nat.sub_zero]
  rcases Nat.le_total j xs.length with h | h
  · rw [Nat.min_eq_left h]
  · rw [Nat.min_eq_right h, List.take_of_length_le h, List.take_of_length_le (Nat.le_refl _)]
def spOutsT : Sp := fun vs H Q _ => vs = [] ∧ ∀ p, H p = none → Q (.ref p) (upd H p (.lst (outsL.map V.str)))
theorem scOuts : FnScope [] [] (defScope lOuts) := ⟨rfl, rfl, rfl, by decide +kernel, rfl, by decide +kernel, by decide +kernel⟩
theorem okOutsT {k : Nat} (F : FnP K "_law_outs" lOuts f fd) : FnOk P w K mg base CX0 (k + 1) f fd [] spOutsT := by
  refine F.ok scOuts (fun vs H Q E h => ?_) (fun cdv A outer s H vs Q E hr h => ?_)
  · obtain ⟨rfl, _⟩ := h
    rfl
  · obtain ⟨rfl, q⟩ := h
    exact ⟨_, PSs.nox (pss_one (ps_ret (pe_lst (pa_cons (pe_str) (pa_cons (pe_str) (pa_cons (pe_str) (pa_cons (pe_str) pa_nil))))))), (by show 4 ≤ sizeLine; decide), fun p hp => q p hp⟩
def spKeys : Sp := fun vs H Q _ => ∃ (f l : Addr) (nms : List Str), vs = [.ref f, .ref l] ∧ Fd H f ∧ H l = some (.lst (nms.map V.str)) ∧ l ≠ f ∧ nms.length ≤ 12 ∧ nms.Nodup ∧
  ∀ (R : Addr) (ys : List V) (ks : List (Str × Str)) (H' : Hp), H R = none → H' R = some (.lst ys) → (∀ K, DpAll K H' ys (ks.map kyD)) → ks.Nodup → (∀ k ∈ ks, k.1 ∈ nms ∧ k.2 ∈ outsL) → ks.length ≤ 4 * nms.length ∧ nms.length ≤ ks.length → Kp f H H' → Fd H' f → Q (.ref R) H'
abbrev nKeys : List Str := ["_law_feed", "_law_names", "_law_found", "_law_name", "_law_out"]
theorem scKeys : FnScope nKeys ["_law_feed", "_law_names"] (defScope lKeys) := ⟨rfl, rfl, rfl, by decide +kernel, rfl, by decide +kernel, by decide +kernel⟩
theorem okSomeKeys {k : Nat} (F : FnP K "_law_some_keys" lKeys f fd) (B : Bn mg) (D : Has P w K mg base (k + 1) "_law_draw" ["_law_feed", "_law_many"] spDraw) (O : Has P w K mg base (k + 1) "_law_outs" [] spOutsT) : FnOk P w K mg base CX0 (k + 2) f fd ["_law_feed", "_law_names"] spKeys := by
  obtain ⟨fD, fdD, gD, kD, bD, GD⟩ := D.ex
  obtain ⟨fO, fdO, gO, kO, bO, GO⟩ := O.ex
  refine F.ok scKeys (fun vs H Q E h => ?_) (fun cdv A outer s H vs Q E hr h => ?_)
  · obtain ⟨a, l, nms, rfl, _⟩ := h
    rfl
  · obtain ⟨a, l, nms, rfl, hF, el, nl, ln, nd, q⟩ := h
    refine ⟨_, PSs.nox (pss_cons (ps_set (i := 2) scKeys.nd rfl (.inl rfl) (pe_lst pa_nil)) (pss_cons (ps_for PassesOwn.never rfl (pi_list (pv 1)) (pg_name (i := 3) scKeys.nd rfl (.inl rfl))
        (pss_one (ps_for PassesOwn.never rfl (pi_list (pe_slice sl_list (pe_call0 GO hr (by rfl) gO kO bO .nil pass0) po_none (po_some (pe_op op_add pe_int (pe_call GD hr (by rfl) gD kD bD .nil pass0 (pa_cons (pv 0) (pa_cons (pe_int) pa_nil))))))) (pg_name (i := 4) scKeys.nd rfl (.inl rfl))
          (pss_one (ps_expr (pe_bm PySem.F.plainAttrs_list PySem.F.slot_list_append PySem.F.type_list_append mt_append (pv 2) (pa_cons (pe_tup (pa_cons (pv 3) (pa_cons (pv 4) pa_nil))) pa_nil))))))) (pss_one (ps_ret (pv 2))))), ?_⟩
    refine ⟨Nat.zero_le _, fun R hR => ?_⟩
    have nR := fdNe hF hR
    have F1 := hF.new (o := .lst []) hR
    have nRl : R ≠ l := fun z => by rw [z, el] at hR; cases hR
    have el1 := sameUpd (o := .lst []) hR _ _ el
    refine ⟨.ref l, rfl, l, rfl, ⟨_, .inl (.inl el1)⟩, ?_⟩
    refine forJ (n := nms.length) (fun i σ' H' => ∃ x3 x4 ys ks, σ' = [some (.ref a), some (.ref l), some (.ref R), x3, x4] ∧ H' R = some (.lst ys) ∧ (∀ K, DpAll K H' ys (List.map kyD ks)) ∧ ks.Nodup ∧ (∀ k ∈ ks, k.1 ∈ nms.take i ∧ k.2 ∈ outsL) ∧ (ks.length ≤ 4 * i ∧ i ≤ ks.length) ∧ Kp a H H' ∧ Fd H' a)
      ⟨none, none, [], [], rfl, upd_same, fun _ => .nil, List.nodup_nil, fun k hk => absurd hk (by simp), ⟨Nat.zero_le _, Nat.zero_le _⟩, Kp.new hR, F1⟩
      (fun i σ' H' lt h => by obtain ⟨_, _, _, _, _, _, _, _, _, _, k, _⟩ := h; exact ⟨nms.map V.str, V.str nms[i], .inl (.inl (k _ _ nl el)), by rw [List.getElem?_map, List.getElem?_eq_getElem lt]; rfl⟩)
      (fun σ' H' h => by obtain ⟨_, _, _, _, _, _, _, _, _, _, k, _⟩ := h; exact ⟨nms.map V.str, .inl (.inl (k _ _ nl el)), by rw [List.length_map]; exact Nat.le_refl _⟩) (fun i σ' H2 x H3 lt h y => ?_) (fun σ' H' h => ?_)
    · obtain ⟨rfl, y⟩ := y
      obtain ⟨x3, x4, ys, ks, rfl, eR, hys, hnd, hmem, hlen, k3, F3⟩ := h
      have ex := y _ (.inl (.inl (k3 _ _ nl el)))
      rw [List.getElem?_map, List.getElem?_eq_getElem lt] at ex
      obtain rfl : V.str nms[i] = x := Option.some.inj ex
      refine ⟨rfl, fun O hO => ?_⟩
      have sO := sameUpd (o := .lst (outsL.map V.str)) hO
      have F4 := F3.same sO
      have nO := fdNe F3 hO
      refine ⟨.ref a, rfl, a, 4, rfl, F4, by decide, by decide, fun r H5 r0 r1 k5 F5 => ⟨1, r, rfl, rfl, _, rfl, O, outsL.map V.str, rfl, .inl (.inl (k5 _ _ nO upd_same)), fun p hp => ?_⟩⟩
      obtain ⟨m, em⟩ : ∃ m : Nat, 1 + r = (m : Int) := ⟨(1 + r).toNat, by omega⟩
      rw [em, cutTake, ← List.map_take]
      have sp := sameUpd (o := .lst ((outsL.take m).map V.str)) hp
      have kA := ((Kp.same sO : Kp a _ _).trans k5).trans (Kp.same sp)
      have k6 := k3.trans kA
      have F6 := F5.same sp
      have np := fdNe F5 hp
      have ep : upd H5 p (.lst ((outsL.take m).map V.str)) p = some (.lst ((outsL.take m).map V.str)) := upd_same
      have eR6 := kA _ _ nR eR
      have pls : ∀ {ks : List (Str × Str)} {H H' : Hp} {xs : List V} (K : PySem.W.Frag), TS H H' → DpAll K H xs (ks.map kyD) → DpAll K H' xs (ks.map kyD) := fun K t h => allPl (n := 1) (fun d hd => by
        obtain ⟨p', _, rfl⟩ := List.mem_map.mp hd
        exact plKy p') t h
      have hys6 : ∀ K, DpAll K (upd H5 p (.lst ((outsL.take m).map V.str))) ys (List.map kyD ks) := fun K => pls K (tsKp F3 kA) (hys K)
      have lm : (outsL.take m).length ≤ 4 := by rw [List.length_take]; show min m 4 ≤ 4; omega
      have lm1 : 1 ≤ (outsL.take m).length := by rw [List.length_take]; show 1 ≤ min m 4; omega
      have ndo : (outsL.take m).Nodup := outsNd.sublist (List.take_sublist _ _)
      have sub : ∀ z ∈ outsL.take m, z ∈ outsL := fun z hz => List.mem_of_mem_take hz
      have npR : p ≠ R := fun z => by rw [z] at hp; rw [k5 _ _ nR (sO _ _ eR)] at hp; cases hp
      generalize upd H5 p (.lst ((outsL.take m).map V.str)) = H6 at *
      generalize outsL.take m = ol at *
      refine ⟨p, rfl, ⟨_, .inl (.inl ep)⟩, ?_⟩
      refine forJ (n := ol.length) (fun j σ' H' => ∃ x4 ys ks, σ' = [some (.ref a), some (.ref l), some (.ref R), some (.str nms[i]), x4] ∧ H' R = some (.lst ys) ∧ H' p = some (.lst (ol.map V.str)) ∧ (∀ K, DpAll K H' ys (List.map kyD ks)) ∧ ks.Nodup ∧ (∀ k ∈ ks, (k.1 ∈ nms.take i ∨ (k.1 = nms[i] ∧ k.2 ∈ ol.take j)) ∧ k.2 ∈ outsL) ∧ (ks.length ≤ 4 * i + j ∧ i + j ≤ ks.length) ∧ Kp a H H' ∧ Fd H' a)
        ⟨_, ys, ks, rfl, eR6, ep, hys6, hnd, fun k hk => ⟨.inl (hmem k hk).1, (hmem k hk).2⟩, ⟨by omega, by omega⟩, k6, F6⟩
        (fun j σ' H' lt h => by obtain ⟨_, _, _, _, _, e, _⟩ := h; exact ⟨ol.map V.str, V.str ol[j], .inl (.inl e), by rw [List.getElem?_map, List.getElem?_eq_getElem lt]; rfl⟩)
        (fun σ' H' h => by obtain ⟨_, _, _, _, _, e, _⟩ := h; exact ⟨ol.map V.str, .inl (.inl e), by rw [List.length_map]; exact Nat.le_refl _⟩) (fun j σ' H7 x H8 ltj h y => ?_) (fun σ' H' h => ?_)
      · obtain ⟨rfl, y⟩ := y
        obtain ⟨x4, ys, ks, rfl, eR, ep, hys, hnd, hmem, hlen, k7, F7⟩ := h
        have ex := y _ (.inl (.inl ep))
        rw [List.getElem?_map, List.getElem?_eq_getElem ltj] at ex
        obtain rfl : V.str ol[j] = x := Option.some.inj ex
        have ly := dpLen (hys K)
        rw [List.length_map] at ly
        refine ⟨.ref R, rfl, .inl ⟨rfl, _, .inl (.inl eR)⟩, .str nms[i], rfl, .str ol[j], rfl, (by show 2 ≤ sizeLine; decide), fun U hU => ?_⟩
        have sU := sameUpd (o := .tup [.str nms[i], .str ol[j]]) hU
        have eU : ∀ K, Dp K (upd H8 U (.tup [.str nms[i], .str ol[j]])) (.ref U) (kyD (nms[i], ol[j])) := fun K => .tup (.inl (.inl upd_same)) (.cons (.str _) (.cons (.str _) .nil))
        have eR9 := sU _ _ eR
        have ep9 := sU _ _ ep
        have F9 := F7.same sU
        have k9 := k7.trans (Kp.same sU)
        have hys9 : ∀ K, DpAll K (upd H8 U (.tup [.str nms[i], .str ol[j]])) ys (List.map kyD ks) := fun K => dpAllSame sU _ _ (hys K)
        generalize upd H8 U (.tup [.str nms[i], .str ol[j]]) = H9 at *
        have t9 := TS.lst (o := .lst (ys ++ [.ref U])) eR9
        refine ⟨R, ys, .ref U, rfl, rfl, eR9, by rw [sizeLine_eq]; omega, _, ys ++ [.ref U], ks ++ [(nms[i], ol[j])], rfl, upd_same, by rw [upd_ne npR]; exact ep9, fun K => ?_, ?_, fun k hk => ?_, ⟨by rw [List.length_append]; show ks.length + 1 ≤ _; omega, by rw [List.length_append]; show _ ≤ ks.length + 1; omega⟩, fun b o nb hb => ?_, fdOther F9 nR⟩
        · rw [List.map_append]
          exact dpSnoc (dpTS t9 (plKy _) _ (eU K)) (pls K t9 (hys9 K))
        · refine List.nodup_append.mpr ⟨hnd, by simp, fun u hu v hv e => ?_⟩
          rw [List.mem_singleton.mp hv] at e
          rw [e] at hu
          rcases (hmem _ hu).1 with z | ⟨_, z⟩
          · exact notTake nd lt z
          · exact notTake ndo ltj z
        · rcases List.mem_append.mp hk with z | z
          · obtain ⟨h1, h2⟩ := hmem k z
            refine ⟨?_, h2⟩
            rcases h1 with h1 | ⟨h1, h3⟩
            · exact .inl h1
            · exact .inr ⟨h1, by rw [List.take_succ_eq_append_getElem ltj]; exact List.mem_append_left _ h3⟩
          · rw [List.mem_singleton.mp z]
            exact ⟨.inr ⟨rfl, by rw [List.take_succ_eq_append_getElem ltj]; exact List.mem_append_right _ (List.mem_singleton.mpr rfl)⟩, sub _ (List.getElem_mem ltj)⟩
        · rw [upd_ne (ne_of_none hb hR)]
          exact k9 _ _ nb hb
      · obtain ⟨x4, ys, ks, rfl, eR, ep, hys, hnd, hmem, hlen, k7, F7⟩ := h
        refine ⟨_, _, ys, ks, rfl, eR, hys, hnd, fun k hk => ⟨?_, (hmem k hk).2⟩, ⟨by omega, by omega⟩, k7, F7⟩
        rw [List.take_succ_eq_append_getElem lt]
        rcases (hmem k hk).1 with z | ⟨z, _⟩
        · exact List.mem_append_left _ z
        · exact List.mem_append_right _ (List.mem_singleton.mpr z)
    · obtain ⟨x3, x4, ys, ks, rfl, eR, hys, hnd, hmem, hlen, k3, F3⟩ := h
      rw [List.take_length] at hmem
      exact ⟨.ref R, rfl, q R ys ks H' hR eR hys hnd hmem hlen k3 F3⟩
end
end TRE

set_option Elab.async false
set_option linter.all false
set_option maxRecDepth 100000
set_option maxHeartbeats 8000000
namespace TRE
open PySem PySem.Spec PyProof.Rows L2 ND KS KS.La PLC
abbrev lNames : Stmt := top 41
def hsg (k : Nat) : Str := ⟨#[("hbtqkaxzmeyg" : Str).cps.toList.getD k 0]⟩
def dsg (k : Nat) : Str := ⟨#[("0123456789ab" : Str).cps.toList.getD k 0]⟩
def hopt (k : Nat) : List Str := (["", "1", "x2", "zz0zz0z"] : List Str).map (hsg k ++ ·)
def opt (k : Nat) : List Str := hopt k ++ ["hyy0yy0" ++ dsg k]
theorem apartB : ∀ i ∈ List.range 12, ∀ j ∈ List.range 12, i ≠ j → ∀ x ∈ opt i, x ∉ opt j := by decide +kernel
theorem namesApart {i j : Nat} (hi : i < 12) (hj : j < 12) (n : i ≠ j) {x : Str} (h : x ∈ opt i) : x ∉ opt j := apartB i (List.mem_range.mpr hi) j (List.mem_range.mpr hj) n x h
theorem okB : ∀ i ∈ List.range 12, ∀ x ∈ opt i, okN x = true ∧ TOk x ∧ x.length ≤ 8 := by decide +kernel
theorem namesOk {i : Nat} (hi : i < 12) {x : Str} (h : x ∈ opt i) : okN x = true ∧ TOk x ∧ x.length ≤ 8 := okB i (List.mem_range.mpr hi) x h
theorem namesNd : ∀ {n : Nat} {l : List Str}, l.length ≤ 12 → (∀ i (h : i < l.length), l[i] ∈ opt (n + i)) → n + l.length ≤ 12 → l.Nodup
  | n, [], _, _, _ => List.nodup_nil
  | n, x :: l, hl, h, hn => by
    rw [List.length_cons] at hl hn
    refine List.nodup_cons.mpr ⟨fun hm => ?_, namesNd (n := n + 1) (by omega) (fun i hi => ?_) (by omega)⟩
    · obtain ⟨i, hi, e⟩ := List.getElem_of_mem hm
      have h0 := h 0 (by show 0 < l.length + 1; omega)
      have h1 := h (i + 1) (by show i + 1 < l.length + 1; omega)
      have e1 : (x :: l)[i + 1]'(by show i + 1 < l.length + 1; omega) = x := e
      rw [e1] at h1
      exact namesApart (i := n + 0) (j := n + (i + 1)) (by omega) (by omega) (by omega) h0 h1
    · have h1 := h (i + 1) (by show i + 1 < l.length + 1; omega)
      have e2 : n + (i + 1) = n + 1 + i := by omega
      rw [e2] at h1
      exact h1
section
variable {P : Program} {w : World} {K : PySem.W.Frag} {mg : Str → Option Value} {base : Heap} {f : Addr} {fd : FuncData}
def spNames : Sp := fun vs H Q _ => ∃ (f : Addr) (m : Nat), vs = [.ref f, .int m] ∧ m ≤ 12 ∧ Fd H f ∧ ∀ (R : Addr) (nms : List Str) (H' : Hp), H R = none → H' R = some (.lst (nms.map V.str)) → nms.length = m → (∀ i (h : i < nms.length), nms[i] ∈ opt i) → Kp f H H' → Fd H' f → Q (.ref R) H'
/-- texts, one for each turn, out of what is told of it -/
theorem lcTexts {J : It} {f D : Addr} {j m : Nat} {te : TE} {σ : L2.St} {H1 : Hp} {Qd : Hp → Prop} (op : Nat → List Str) (hD : H1 D = none) (hF : Fd H1 f) (hm : m ≤ 100) (hw : ∀ v, wipe ((wipe σ [j]).set j (some v)) [j] = wipe σ [j])
    (hgo : ∀ i H, i < m → Kp f H1 H → J.go i H) (hst : ∀ H, Kp f H1 H → J.stop m H)
    (hs : ∀ i x H H', i < m → Kp f H1 H → Fd H f → J.yld i H x H' → H' = H ∧ ∀ R : VK, (∀ z H2, z ∈ op i → Kp f H H2 → Fd H2 f → R (.str z) H2) → te ((wipe σ [j]).set j (some x)) H R)
    (hd : ∀ H (r : List Str), H D = some (.lst (r.map V.str)) → r.length = m → (∀ i (h : i < r.length), r[i] ∈ op i) → Kp f H1 H → Fd H f → Qd H) :
    ∃ W : Nat → Nat → Hp → Prop, (∃ m, W 0 m (upd H1 D (.lst []))) ∧ ∀ i k H, W i k H →
      (J.stop i H ∧ Qd H) ∨ (J.go i H ∧ ∃ Nx : Hp → Prop, (∀ H', Nx H' → ∃ m', m' < k ∧ W (i + 1) m' H') ∧ ∀ x H', J.yld i H x H' → gName j x (wipe σ [j]) H' fun σ2 H2 => wipe σ2 [j] = wipe σ [j] ∧ tYes σ2 H2 fun b H3 =>
        if b = true then te σ2 H3 fun y H4 => ∃ acc, H4 D = some (.lst acc) ∧ acc.length < sizeLine ∧ Nx (upd H4 D (.lst (acc ++ [y]))) else Nx H3) := by
  have nD := fdNe hF hD
  refine lcJ (n := m) (fun i H => ∃ r : List Str, H D = some (.lst (r.map V.str)) ∧ r.length = i ∧ (∀ i (h : i < r.length), r[i] ∈ op i) ∧ Kp f H1 H ∧ Fd H f) ⟨[], upd_same, rfl, fun i h => absurd h (Nat.not_lt_zero _), Kp.new hD, fdOther hF nD⟩ (fun i H lt h => hgo i H lt h.choose_spec.2.2.2.1) (fun H h => hst H h.choose_spec.2.2.2.1) (fun i H x H' lt h y => ?_) (fun H h => ?_)
  · obtain ⟨r, e, el, hv, kp, fd⟩ := h
    obtain ⟨rfl, hs2⟩ := hs i x H H' lt kp fd y
    refine ⟨hw _, ?_⟩
    unfold tYes
    dsimp only
    rw [if_pos rfl]
    refine hs2 _ fun z H2 ha k2 f2 => ?_
    have e2 := k2 D _ nD e
    refine ⟨_, e2, by rw [sizeLine_eq, List.length_map]; omega, r ++ [z], ?_, by rw [List.length_append, el]; rfl, fun u hu => ?_, fun b o nb hb => ?_, fdOther f2 nD⟩
    · rw [List.map_append]
      exact upd_same
    · by_cases h9 : u < r.length
      · rw [List.getElem_append_left h9]
        exact hv u h9
      · rw [List.length_append] at hu
        have h10 : u < r.length + 1 := hu
        have : u = r.length := by omega
        subst this
        have e3 : (r ++ [z])[r.length]'(by rw [List.length_append]; exact h10) = z := by simp
        rw [e3, el]
        exact ha
    · rw [upd_ne (ne_of_none hb hD)]
      exact k2 _ _ nb (kp _ _ nb hb)
  · obtain ⟨r, e, el, hv, kp, fd⟩ := h
    exact hd H r e el hv kp fd
abbrev nNames : List Str := ["_law_feed", "_law_many", "_law_heads", "_law_k"]
theorem scNames : FnScope nNames ["_law_feed", "_law_many"] (defScope lNames) := ⟨rfl, rfl, rfl, by decide +kernel, rfl, by decide +kernel, by decide +kernel⟩
theorem okNames {k : Nat} (F : FnP K "_law_some_names" lNames f fd) (B : Bn mg) (D : Has P w K mg base (k + 1) "_law_draw" ["_law_feed", "_law_many"] spDraw) : FnOk P w K mg base CX0 (k + 2) f fd ["_law_feed", "_law_many"] spNames := by
  obtain ⟨fD, fdD, gD, kD, bD, GD⟩ := D.ex
  refine F.ok scNames (fun vs H Q E h => ?_) (fun cdv A outer s H vs Q E hr h => ?_)
  · obtain ⟨a, m, rfl, _⟩ := h
    rfl
  · obtain ⟨a, m, rfl, hm, hF, q⟩ := h
    refine ⟨_, PSs.nox (C8.pss_cut (ps_set (i := 2) scNames.nd rfl (.inr rfl) (pe_lc (own := [("_law_k", 3)]) (g := gName 3) rfl scNames.nd (pi_range1 (by rfl) B.range (pa_cons (pv 1) pa_nil)) (blkOk_by (N := nNames) (sc := defScope lNames) (by decide +kernel))
        (fun _ _ _ _ _ => pg_name (i := 3) scNames.nd rfl (.inl rfl) (hf := .inr rfl)) (fun _ _ _ _ _ => pts_nil)
        (fun _ _ _ _ _ => pe_op op_add_str (pe_ix ix_str pe_str (pv 3) (fun _ _ => rfl)) (pe_ix (r := rIxL K) ix_list (pe_lst (pa_cons (pe_str) (pa_cons (pe_str) (pa_cons (pe_str) (pa_cons (pe_str) pa_nil))))) (pe_call GD hr (by rfl) gD kD bD .nil pass0 (pa_cons (pv 0) (pa_cons (pe_int) pa_nil))) (fun _ _ => rfl))))) (pss_one (ps_ret (pe_lc (own := [("_law_k", 3)]) (g := gName 3) rfl scNames.nd (pi_range1 (by rfl) B.range (pa_cons (pv 1) pa_nil)) (blkOk_by (N := nNames) (sc := defScope lNames) (by decide +kernel))
        (fun _ _ _ _ _ => pg_name (i := 3) scNames.nd rfl (.inl rfl) (hf := .inr rfl)) (fun _ _ _ _ _ => pts_nil)
        (fun _ _ _ _ _ => pe_ix (r := rIxL K) ix_list (pe_lst (pa_cons (pe_ix (r := rIxL K) ix_list (pv 2) (pv 3) (fun _ _ => rfl)) (pa_cons (pe_op op_add_str pe_str (pe_ix ix_str pe_str (pv 3) (fun _ _ => rfl))) pa_nil))) (pe_op op_fdiv (pe_call GD hr (by rfl) gD kD bD .nil pass0 (pa_cons (pv 0) (pa_cons (pe_int) pa_nil))) pe_int) (fun _ _ => rfl)))))), ?_⟩
    have l12 : ("hbtqkaxzmeyg" : Str).cps.toList.length = 12 := by decide +kernel
    have l12d : ("0123456789ab" : Str).cps.toList.length = 12 := by decide +kernel
    refine ⟨fun σ' H' => ∃ D hs, σ' = [some (.ref a), some (.int m), some (.ref D), none] ∧ H D = none ∧ H' D = some (.lst (List.map V.str hs)) ∧ hs.length = m ∧ (∀ i (h : i < hs.length), hs[i] ∈ hopt i) ∧ Kp a H H' ∧ Fd H' a, ?_, ?_⟩
    · refine ⟨.int m, rfl, m, rfl, by omega, by omega, ?_⟩
      rw [Int.toNat_natCast]
      intro D hD
      refine lcTexts (m := m) hopt hD hF (by omega) (fun v => rfl) (fun i H' lt _ => lt) (fun H' _ => Nat.le_refl _) (fun i x H1 H2 lt k1 F1 y => ?_) (fun H' r e el hr k F' => ⟨D, r, rfl, hD, e, el, hr, k, F'⟩)
      obtain ⟨rfl, rfl⟩ := y
      refine ⟨rfl, fun R hR => ?_⟩
      have hi : i < ("hbtqkaxzmeyg" : Str).cps.toList.length := by omega
      have eh : hsg i = ⟨#[("hbtqkaxzmeyg" : Str).cps.toList[i]]⟩ := by
        unfold hsg
        rw [List.getD_eq_getElem?_getD, List.getElem?_eq_getElem hi]
        rfl
      refine ⟨.int (0 + i), rfl, "hbtqkaxzmeyg", (i : Int), _, rfl, by rw [Int.zero_add], by rw [sizeLine_eq]; decide +kernel, atI_nat (List.getElem?_eq_getElem hi), (by show 4 ≤ sizeLine; decide), fun L hL => ⟨.ref a, rfl, a, 4, rfl, F1.new hL, by decide, by decide, fun r H5 r0 r1 k5 F5 => ?_⟩⟩
      obtain ⟨j, rfl⟩ : ∃ j : Nat, r = (j : Int) := ⟨r.toNat, by omega⟩
      have hj : j < (["", "1", "x2", "zz0zz0z"] : List Str).length := by show j < 4; omega
      have ev : ((["", "1", "x2", "zz0zz0z"] : List Str).map V.str)[j]? = some (.str ((["", "1", "x2", "zz0zz0z"] : List Str)[j])) := by rw [List.getElem?_map, List.getElem?_eq_getElem hj]; rfl
      have sl : ∀ z ∈ (["", "1", "x2", "zz0zz0z"] : List Str), z.length ≤ 7 := by decide +kernel
      have nL := fdNe F1 hL
      refine ⟨L, _, (j : Int), _, rfl, rfl, .inl (.inl (k5 _ _ nL upd_same)), atI_nat ev, _, _, rfl, rfl, ?_, ?_⟩
      · have h7 := sl _ (List.getElem_mem hj)
        rw [sizeLine_eq]
        show 1 + _ ≤ _
        omega
      · rw [← eh]
        exact hR _ H5 (List.mem_map.mpr ⟨_, List.getElem_mem hj, rfl⟩) ((Kp.new hL).trans k5) F5
    rintro _ H3 ⟨Dh, hs, rfl, hDh, eDh, lh, hh, k3, F3⟩
    have nDh := fdNe hF hDh
    refine ⟨.int m, rfl, m, rfl, by omega, by omega, ?_⟩
    rw [Int.toNat_natCast]
    intro D hD
    have hD0 : H D = none := by
      cases e : H D with
      | none => rfl
      | some o => rw [k3 D o (fdNe F3 hD) e] at hD; cases hD
    refine lcTexts (m := m) opt hD F3 (by omega) (fun v => rfl) (fun i H' lt _ => lt) (fun H' _ => Nat.le_refl _) (fun i x H1 H2 lt k1 F1 y => ?_) (fun H' r e el hr k F' => q D r H' hD0 e el hr (k3.trans k) F')
    obtain ⟨rfl, rfl⟩ := y
    refine ⟨rfl, fun R hR => ?_⟩
    have hi : i < ("0123456789ab" : Str).cps.toList.length := by omega
    have hi2 : i < hs.length := by omega
    have eh : dsg i = ⟨#[("0123456789ab" : Str).cps.toList[i]]⟩ := by
      unfold dsg
      rw [List.getD_eq_getElem?_getD, List.getElem?_eq_getElem hi]
      rfl
    have e8 : (hs.map V.str)[i]? = some (.str hs[i]) := by rw [List.getElem?_map, List.getElem?_eq_getElem hi2]; rfl
    refine ⟨.ref Dh, rfl, .int (0 + i), rfl, Dh, _, (i : Int), _, rfl, by rw [Int.zero_add], .inl (.inl (k1 _ _ nDh eDh)), atI_nat e8, ?_⟩
    refine ⟨.int (0 + i), rfl, "0123456789ab", (i : Int), _, rfl, by rw [Int.zero_add], by rw [sizeLine_eq]; decide +kernel, atI_nat (List.getElem?_eq_getElem hi), _, _, rfl, rfl, ?_, (by show 2 ≤ sizeLine; decide), fun L hL => ?_⟩
    · have h7 : ("hyy0yy0" : Str).length = 7 := by decide +kernel
      rw [sizeLine_eq, h7]
      show 7 + 1 ≤ _
      omega
    refine ⟨.ref a, rfl, a, 5, rfl, F1.new hL, by decide, by decide, fun r H5 r0 r1 k5 F5 => ⟨r, 4, rfl, rfl, ⟨by decide, by decide⟩, ?_⟩⟩
    have nL := fdNe F1 hL
    have kk := (Kp.new (o := .lst [.str hs[i], .str ("hyy0yy0" ++ ⟨#[("0123456789ab" : Str).cps.toList[i]]⟩)]) hL : Kp a _ _).trans k5
    rcases (show r / 4 = 0 ∨ r / 4 = 1 by omega) with e4 | e4
    · refine ⟨L, _, 0, .str hs[i], rfl, (show V.int (r / 4) = _ by rw [e4]), .inl (.inl (k5 _ _ nL upd_same)), atI_nat (j := 0) rfl, ?_⟩
      exact hR _ H5 (List.mem_append_left _ (hh i hi2)) kk F5
    · refine ⟨L, _, 1, .str ("hyy0yy0" ++ ⟨#[("0123456789ab" : Str).cps.toList[i]]⟩), rfl, (show V.int (r / 4) = _ by rw [e4]), .inl (.inl (k5 _ _ nL upd_same)), atI_nat (j := 1) rfl, ?_⟩
      rw [← eh]
      exact hR _ H5 (List.mem_append_right _ (List.mem_singleton.mpr rfl)) kk F5
end
end TRE

set_option Elab.async false
set_option linter.all false
set_option maxRecDepth 100000
set_option maxHeartbeats 8000000
namespace TRE
open PySem PySem.Spec PyProof.Rows L2 ND KS KS.La PLC
abbrev lOutputs : Stmt := top 47
def kvO (o : Str × Str) : Key × V := (.inr o.1, .str o.2)
/-- outputs, each once, with texts -/
def OutsOk (os : List (Str × Str)) : Prop := (os.map (·.1)).Nodup ∧ ∀ o ∈ os, o.1 ∈ outsL ∧ TOk o.2
theorem mergeNd : ∀ (l acc : List (Str × Str)), ((acc ++ l).map (·.1)).Nodup → mergeK (acc.map kvO) (l.map kvO) = (acc ++ l).map kvO
  | [], acc, _ => by rw [List.append_nil]; rfl
  | o :: l, acc, h => by
    have e : putK (acc.map kvO) (.inr o.1) (.str o.2) = (acc ++ [o]).map kvO := by
      rw [putK_new]
      · rw [List.map_append]; rfl
      · cases hv : valV (acc.map kvO) (Sum.inr o.1) with
        | none => rfl
        | some v =>
          have h1 := valV_any (Sum.inr o.1 : Key) (acc.map kvO)
          rw [hv] at h1
          obtain ⟨kv, hkv, hd⟩ := List.any_eq_true.mp h1
          obtain ⟨o2, ho2, rfl⟩ := List.mem_map.mp hkv
          have e1 : o2.1 = o.1 := Sum.inr.inj (of_decide_eq_true hd)
          rw [List.map_append, List.map_cons] at h
          exact absurd e1 ((List.nodup_append.mp h).2.2 _ (List.mem_map_of_mem ho2) _ List.mem_cons_self)
    show mergeK (putK (acc.map kvO) (.inr o.1) (.str o.2)) (l.map kvO) = _
    rw [e, mergeNd l (acc ++ [o]) (by rw [List.append_assoc]; exact h), List.append_assoc]
    rfl
section
variable {P : Program} {w : World} {K : PySem.W.Frag} {mg : Str → Option Value} {base : Heap} {f : Addr} {fd : FuncData}
def spOutputs : Sp := fun vs H Q _ => ∃ f : Addr, vs = [.ref f] ∧ Fd H f ∧ ∀ p os H', OutsOk os → H p = none → H' p = some (.dK (os.map kvO)) → Kp f H H' → Fd H' f → Q (.ref p) H'
abbrev nOutputs : List Str := ["_law_feed", "_law_out"]
theorem scOutputs : FnScope nOutputs ["_law_feed"] (defScope lOutputs) := ⟨rfl, rfl, rfl, by decide +kernel, rfl, by decide +kernel, by decide +kernel⟩
theorem okOutputs {k : Nat} (F : FnP K "_law_some_outputs" lOutputs f fd) (md : mg "dict" = none) (D : Has P w K mg base (k + 1) "_law_draw" ["_law_feed", "_law_many"] spDraw) (T : Has P w K mg base (k + 3) "_law_some_text" ["_law_feed"] spText) (O : Has P w K mg base (k + 1) "_law_outs" [] spOutsT) : FnOk P w K mg base CX0 (k + 4) f fd ["_law_feed"] spOutputs := by
  obtain ⟨fD, fdD, gD, kD, bD, GD⟩ := D.ex
  obtain ⟨fT, fdT, gT, kT, bT, GT⟩ := T.ex
  obtain ⟨fO, fdO, gO, kO, bO, GO⟩ := O.ex
  refine F.ok scOutputs (fun vs H Q E h => ?_) (fun cdv A outer s H vs Q E hr h => ?_)
  · obtain ⟨a, rfl, _⟩ := h
    rfl
  · obtain ⟨a, rfl, hF, q⟩ := h
    have hr1 : Room (k + 1) _ := hr.mono (by omega)
    refine ⟨_, PSs.nox (pss_one (ps_ret (pe_callTy (T := "dict") (call_dictP rfl) (by rfl) md (by decide +kernel) (pa_cons (pe_lc (own := [("_law_out", 1)]) (g := gName 1) rfl scOutputs.nd (pi_list (pe_call0 GO hr1 (by rfl) gO kO bO .nil pass0)) (blkOk_by (N := nOutputs) (sc := defScope lOutputs) (by decide +kernel))
        (fun _ _ _ _ _ => pg_name (i := 1) scOutputs.nd rfl (.inl rfl) (hf := .inr rfl)) (fun _ _ _ _ _ => pts_one (pt_cmpR op_gt (pe_call GD hr1 (by rfl) gD kD bD .nil pass0 (pa_cons (pv 0) (pa_cons (pe_int) pa_nil))) pe_int (nomark _)))
        (fun _ _ _ _ _ => pe_tup (pa_cons (pv 1) (pa_cons (pe_call GT hr (by rfl) gT kT bT .nil pass0 (pa_cons (pv 0) pa_nil)) pa_nil)))) pa_nil)))), ?_⟩
    refine ⟨rfl, fun O hO => ⟨O, rfl, ⟨_, .inl (.inl upd_same)⟩, fun D hD => ?_⟩⟩
    have sO := sameUpd (o := .lst (outsL.map V.str)) hO
    have eO : upd H O (.lst (outsL.map V.str)) O = some (.lst (outsL.map V.str)) := upd_same
    have F1 := hF.same sO
    have nO := fdNe hF hO
    have nD := fdNe F1 hD
    have nOD : D ≠ O := fun z => by rw [z, eO] at hD; cases hD
    have kO1 : Kp a H (upd H O (.lst (outsL.map V.str))) := Kp.same sO
    have hD0 : H D = none := by
      cases e : H D with
      | none => rfl
      | some o => rw [sO _ _ e] at hD; cases hD
    generalize upd H O (.lst (outsL.map V.str)) = H1 at *
    refine lcJ (n := outsL.length) (vs := [1]) (fun i H' => ∃ (ps : List Addr) (os : List (Str × Str)), H' D = some (.lst (ps.map V.ref)) ∧ H' O = some (.lst (outsL.map V.str)) ∧ Paired (fun p o => SqT K H' p [.str o.1, .str o.2]) ps os ∧ (os.map (·.1)).Nodup ∧ (∀ o ∈ os, o.1 ∈ outsL.take i ∧ TOk o.2) ∧ ps.length ≤ i ∧ Kp a H1 H' ∧ Fd H' a)
      ⟨[], [], upd_same, by rw [upd_ne (Ne.symm nOD)]; exact eO, .nil, List.nodup_nil, fun o ho => absurd ho (by simp), Nat.zero_le _, Kp.new hD, fdOther F1 nD⟩
      (fun i H' lt h => by obtain ⟨_, _, _, e, _⟩ := h; exact ⟨outsL.map V.str, V.str outsL[i], .inl (.inl e), by rw [List.getElem?_map, List.getElem?_eq_getElem lt]; rfl⟩)
      (fun H' h => by obtain ⟨_, _, _, e, _⟩ := h; exact ⟨outsL.map V.str, .inl (.inl e), by rw [List.length_map]; exact Nat.le_refl _⟩) (fun i H' x H2 lt h y => ?_) (fun H' h => ?_)
    · obtain ⟨rfl, y⟩ := y
      obtain ⟨ps, os, eD, eO2, pr, ndp, hm, hl, k1, F2⟩ := h
      have ex := y _ (.inl (.inl eO2))
      rw [List.getElem?_map, List.getElem?_eq_getElem lt] at ex
      obtain rfl : V.str outsL[i] = x := Option.some.inj ex
      have up : ∀ {ps : List Addr} {os : List (Str × Str)} {H H' : Hp}, TS H H' → Paired (fun p (o : Str × Str) => SqT K H p [.str o.1, .str o.2]) ps os → Paired (fun p (o : Str × Str) => SqT K H' p [.str o.1, .str o.2]) ps os := fun t h => by
        induction h with
        | nil => exact .nil
        | cons h _ ih => exact .cons (TS.tup t h) ih
      refine ⟨rfl, .ref a, rfl, a, 4, rfl, F2, by decide, by decide, fun r H3 r0 r1 k3 F3 => ⟨r, 0, rfl, rfl, _, rfl, ite2 (fun _ => ?_) (fun _ => ?_)⟩⟩
      · refine ⟨_, rfl, .ref a, rfl, a, rfl, F3, fun z H4 tz k4 F4 => ⟨(by show 2 ≤ sizeLine; decide), fun U hU => ?_⟩⟩
        have sU := sameUpd (o := .tup [.str outsL[i], .str z]) hU
        have kA : Kp a H2 (upd H4 U (.tup [.str outsL[i], .str z])) := (k3.trans k4).trans (Kp.same sU)
        have F5 := F4.same sU
        have eU : SqT K (upd H4 U (.tup [.str outsL[i], .str z])) U [.str outsL[i], .str z] := .inl (.inl upd_same)
        have tA := tsKp F2 kA
        generalize upd H4 U (.tup [.str outsL[i], .str z]) = H5 at *
        have eD5 := kA _ _ nD eD
        have t6 := TS.lst (o := .lst (ps.map V.ref ++ [.ref U])) eD5
        refine ⟨ps.map V.ref, eD5, by rw [sizeLine_eq, List.length_map]; have : outsL.length = 4 := rfl; omega, ps ++ [U], os ++ [(outsL[i], z)], by rw [List.map_append]; exact upd_same, by rw [upd_ne (Ne.symm nOD)]; exact kA _ _ nO eO2, ?_, ?_, fun o ho => ?_, by rw [List.length_append]; show ps.length + 1 ≤ _; omega, fun b o nb hb => ?_, fdOther F5 nD⟩
        · exact (up (tA.trans t6) pr).snoc (TS.tup t6 eU)
        · rw [List.map_append]
          refine List.nodup_append.mpr ⟨ndp, by simp, fun u hu v hv e => ?_⟩
          obtain ⟨o, ho, rfl⟩ := List.mem_map.mp hu
          have hv2 : v = outsL[i] := List.mem_singleton.mp hv
          rw [hv2] at e
          have h1 := (hm o ho).1
          rw [e] at h1
          exact notTake outsNd lt h1
        · rw [List.take_succ_eq_append_getElem lt]
          rcases List.mem_append.mp ho with z' | z'
          · exact ⟨List.mem_append_left _ (hm o z').1, (hm o z').2⟩
          · rw [List.mem_singleton.mp z']
            exact ⟨List.mem_append_right _ (List.mem_singleton.mpr rfl), tz⟩
        · rw [upd_ne (ne_of_none hb hD)]
          exact kA _ _ nb (k1 _ _ nb hb)
      · refine ⟨ps, os, k3 _ _ nD eD, k3 _ _ nO eO2, up (tsKp F2 k3) pr, ndp, fun o ho => ⟨?_, (hm o ho).2⟩, by omega, k1.trans k3, F3⟩
        rw [List.take_succ_eq_append_getElem lt]
        exact List.mem_append_left _ (hm o ho).1
    · obtain ⟨ps, os, eD, eO2, pr, ndp, hm, hl, k1, F2⟩ := h
      have pr2 : Paired (fun p (kv : Key × V) => SqT K H' p [kV kv.1, kv.2]) ps (os.map kvO) := by
        clear eD hm hl ndp
        induction pr with
        | nil => exact .nil
        | cons h _ ih => exact .cons h ih
      refine ⟨D, ps, os.map kvO, rfl, .inl (.inl eD), pr2, fun p hp => ?_⟩
      have em := mergeNd os [] ndp
      rw [List.map_nil, List.nil_append] at em
      rw [em]
      have hp0 : H p = none := by
        cases e : H p with
        | none => rfl
        | some o => rw [k1 p o (fdNe F2 hp) (kO1 p o (fdNe F2 hp) e)] at hp; cases hp
      exact q p os _ ⟨ndp, fun o ho => ⟨List.mem_of_mem_take (hm o ho).1, (hm o ho).2⟩⟩ hp0 upd_same ((kO1.trans k1).trans (Kp.new hp)) (F2.new hp)
end
end TRE

set_option Elab.async false
set_option linter.all false
set_option maxRecDepth 100000
set_option maxHeartbeats 4000000
namespace KS
open PySem PySem.Spec PyProof.Rows L2
def isPr : PyData → Bool
  | .tuple [a, b] => isIn a && isIn b
  | _ => false
def isPt (d : PyData) : Bool := isTx d || isPr d
def arePt : PyData → Bool
  | .tuple ds => ds.all isPt
  | _ => false
/-- a case: answers of the number, whatever stands for the node -/
def isCs (m : Int) : PyData → Bool
  | .tuple [a, _] => areAn a && (match a with
    | .tuple ds => decide ((ds.length : Int) = m)
    | _ => false)
  | _ => false
def areCs (m : Int) : PyData → Bool
  | .tuple ds => ds.all (isCs m)
  | _ => false
def spIs2 (K : PySem.W.Frag) (n : Nat) (p : Int → PyData → Bool) : Sp := fun vs H Q _ => ∃ v d m, vs = [v, .int m] ∧ Dp K H v d ∧ Od n d ∧ ∀ H', Same H H' → Q (.bl (p m d)) H'
section
variable {P : Program} {w : World} {K : PySem.W.Frag} {mg : Str → Option Value} {base : Heap} {f : Addr} {fd : FuncData}
theorem scPair : FnScope ["value"] ["value"] (defScope sPair) := ⟨rfl, rfl, rfl, by decide +kernel, rfl, by decide +kernel, by decide +kernel⟩
theorem okPair {k n : Nat} (F : FnP K "_is_pair_of_integers" sPair f fd) (B : Bn mg) (In : ∀ n, Has P w K mg base (k + 1) "is_integer" ["value"] (spIs K n isIn)) : FnOk P w K mg base CX0 (k + 2) f fd ["value"] (spIs K n isPr) := by
  refine F.ok scPair (fun vs H Q E h => ?_) (fun cdv A outer s H vs Q E hr h => ?_)
  · obtain ⟨v, d, rfl, _⟩ := h
    rfl
  · obtain ⟨v, d, rfl, hd, od, q⟩ := h
    obtain ⟨fN, fdN, gN, kN, bN, GN⟩ := (In n).ex
    refine ⟨_, PSs.nox (pss_one (ps_ret (pe_and (pe_callB call_isi (by rfl) B.isi (by decide +kernel) (pa_cons (pv 0) (pa_cons (pe_bltn (v := .ty "tuple") (by rfl) B.tuple (by decide +kernel) rfl) pa_nil)))
      (pe_and (pe_cmpR op_eq (pe_callB call_len_seq (by rfl) B.len PySem.boot_len (pa_cons (pv 0) pa_nil)) pe_int (nomark _))
      (pe_and (pe_call GN hr (by rfl) gN kN bN .nil pass0 (pa_cons (pe_ix ix_tup (pv 0) pe_int (fun _ _ => rfl)) pa_nil)) (pe_one (pe_call GN hr (by rfl) gN kN bN .nil pass0 (pa_cons (pe_ix ix_tup (pv 0) pe_int (fun _ _ => rfl)) pa_nil)))))))), ?_⟩
    refine ⟨v, rfl, v, .ty "tuple", _, _, _, rfl, .ty _, dpTy hd, dpKit hd (.inl rfl), _, rfl, ?_⟩
    cases od with
    | @tup n ds hl hod =>
      cases hd with
      | @tup a xs _ hx hds =>
        have el := dpLen hds
        refine iteT ⟨.ref a, rfl, a, xs, rfl, .inr hx, rfl, _, rfl, ?_⟩
        rw [dInt]
        refine ite2 (fun e => ?_) (fun e => ?_)
        · have e2 : xs.length = 2 := by have := of_decide_eq_true e; omega
          match xs, ds, hds, el, e2 with
          | [x0, x1], [d0, d1], .cons h0 (.cons h1 .nil), _, _ =>
            have o0 := (hod d0 (by simp)).up (m := n + 1) (by omega)
            have o1 := (hod d1 (by simp)).up (m := n + 1) (by omega)
            refine ⟨.ref a, rfl, a, _, 0, x0, rfl, rfl, hx, atI_nat (j := 0) rfl, x0, d0, rfl, h0, o0, fun H1 s1 => ⟨_, rfl, ite2 (fun e => ?_) (fun e => ?_)⟩⟩
            · refine ⟨.ref a, rfl, a, _, 1, x1, rfl, rfl, sameTup s1 hx, atI_nat (j := 1) rfl, x1, d1, rfl, dpSame s1 _ _ h1, o1, fun H2 s2 => ?_⟩
              have := q H2 (s1.trans s2)
              rw [show isPr (.tuple [d0, d1]) = (isIn d0 && isIn d1) from rfl, e, Bool.true_and] at this
              exact this
            · have := q H1 s1
              rw [show isPr (.tuple [d0, d1]) = (isIn d0 && isIn d1) from rfl, Bool.eq_false_iff.mpr e, Bool.false_and] at this
              exact this
        · have e2 : xs.length ≠ 2 := fun z => e (by rw [z]; rfl)
          have e3 : isPr (.tuple ds) = false := by
            match ds, el with
            | [], _ => rfl
            | [_], _ => rfl
            | [_, _], el => exact absurd el e2
            | _ :: _ :: _ :: _, _ => rfl
          rw [e3] at q
          exact q H (Same.refl H)
    | non => exact iteF (q H (Same.refl H))
    | bl => exact iteF (q H (Same.refl H))
    | int => exact iteF (q H (Same.refl H))
    | str => exact iteF (q H (Same.refl H))
theorem scParts : FnScope ["value", "part"] ["value"] (defScope sParts) := ⟨rfl, rfl, rfl, by decide +kernel, rfl, by decide +kernel, by decide +kernel⟩
theorem okParts {k n : Nat} (F : FnP K "_are_parts" sParts f fd) (B : Bn mg) (Tx : ∀ n, Has P w K mg base (k + 2) "is_text" ["value"] (spIs K n isTx)) (Pr : ∀ n, Has P w K mg base (k + 2) "_is_pair_of_integers" ["value"] (spIs K n isPr)) : FnOk P w K mg base CX0 (k + 3) f fd ["value"] (spIs K n arePt) := by
  refine F.ok scParts (fun vs H Q E h => ?_) (fun cdv A outer s H vs Q E hr h => ?_)
  · obtain ⟨v, d, rfl, _⟩ := h
    rfl
  · obtain ⟨v, d, rfl, hd, od, q⟩ := h
    obtain ⟨fT, fdT, gT, kT, bT, GT⟩ := (Tx n).ex
    obtain ⟨fP, fdP, gP, kP, bP, GP⟩ := (Pr n).ex
    refine ⟨_, PSs.nox (pss_one (ps_ret (pe_and (pe_callB call_isi (by rfl) B.isi (by decide +kernel) (pa_cons (pv 0) (pa_cons (pe_bltn (v := .ty "tuple") (by rfl) B.tuple (by decide +kernel) rfl) pa_nil)))
      (pe_one (pe_callB (cr_all rfl) (by rfl) B.all (by decide +kernel) (pa_cons (pe_lc (own := [("part", 1)]) (g := gName 1) rfl scParts.nd (pi_tup (pv 0)) (blkOk_by (N := ["value", "part"]) (sc := defScope sParts) (by decide +kernel))
        (fun _ _ _ _ _ => pg_name (i := 1) scParts.nd rfl (.inl rfl) (hf := .inr rfl)) (fun _ _ _ _ _ => pts_nil)
        (fun _ _ _ _ _ => pe_or (pe_call GT hr (by rfl) gT kT bT .nil pass0 (pa_cons (pv 1) pa_nil)) (pe_one (pe_call GP hr (by rfl) gP kP bP .nil pass0 (pa_cons (pv 1) pa_nil))))) pa_nil)))))), ?_⟩
    refine ⟨v, rfl, v, .ty "tuple", _, _, _, rfl, .ty _, dpTy hd, dpKit hd (.inl rfl), _, rfl, ?_⟩
    cases od with
    | @tup n ds hl hod =>
      cases hd with
      | @tup a xs _ hx hds =>
        have hq : ∀ H', Same H H' → ∀ b, arePt (.tuple ds) = b → Q (.bl b) H' := fun H' s' b e => e ▸ q H' s'
        refine iteT ⟨.ref a, rfl, a, rfl, ⟨xs, hx⟩, fun D hD => ?_⟩
        refine lcAllT isPt hx hds (by omega) hD (fun v => rfl) (fun v d H1 hm s1 hd R hR => ?_) (fun H1 s1 e3 => ?_)
        · have od2 : Od (n + 1) d := (hod d hm).up (by omega)
          refine ⟨v, rfl, v, d, rfl, hd, od2, fun H2 s2 => ⟨_, rfl, ite2 (fun e => ?_) (fun e => ?_)⟩⟩
          · have := hR H2 s2
            unfold isPt at this
            rw [e, Bool.true_or] at this
            exact this
          · refine ⟨v, rfl, v, d, rfl, dpSame s2 _ _ hd, od2, fun H3 s3 => ?_⟩
            have := hR H3 (s2.trans s3)
            unfold isPt at this
            rw [Bool.eq_false_iff.mpr e, Bool.false_or] at this
            exact this
        · refine ⟨D, ds.map isPt, rfl, .inl (.inl e3), ?_⟩
          rw [show (ds.map isPt).all id = ds.all isPt by rw [List.all_map]; rfl]
          exact hq H1 s1 _ rfl
    | non => exact iteF (q H (Same.refl H))
    | bl => exact iteF (q H (Same.refl H))
    | int => exact iteF (q H (Same.refl H))
    | str => exact iteF (q H (Same.refl H))
theorem scCase : FnScope ["value", "many"] ["value", "many"] (defScope sCase) := ⟨rfl, rfl, rfl, by decide +kernel, rfl, by decide +kernel, by decide +kernel⟩
theorem okCase {k n : Nat} (F : FnP K "_is_case" sCase f fd) (B : Bn mg) (An : ∀ n, Has P w K mg base (k + 2) "are_answers" ["value"] (spIs K n areAn)) : FnOk P w K mg base CX0 (k + 3) f fd ["value", "many"] (spIs2 K n isCs) := by
  refine F.ok scCase (fun vs H Q E h => ?_) (fun cdv A outer s H vs Q E hr h => ?_)
  · obtain ⟨v, d, m, rfl, _⟩ := h
    rfl
  · obtain ⟨v, d, m, rfl, hd, od, q⟩ := h
    obtain ⟨fA, fdA, gA, kA, bA, GA⟩ := (An n).ex
    refine ⟨_, PSs.nox (pss_cons (ps_if (PW.pt (pw_or (pt_not (pt_val (pe_callB call_isi (by rfl) B.isi (by decide +kernel) (pa_cons (pv 0) (pa_cons (pe_bltn (v := .ty "tuple") (by rfl) B.tuple (by decide +kernel) rfl) pa_nil)))))
        (pw_or1 (pt_cmpR op_ne (pe_callB call_len_seq (by rfl) B.len PySem.boot_len (pa_cons (pv 0) pa_nil)) pe_int (nomark _))))) (pss_one (ps_ret pe_bl)) pss_nil) (pss_one (ps_ret (pe_and (pe_call GA hr (by rfl) gA kA bA .nil pass0 (pa_cons (pe_ix ix_tup (pv 0) pe_int (fun _ _ => rfl)) pa_nil)) (pe_one (pe_cmpR op_eq (pe_callB call_len_seq (by rfl) B.len PySem.boot_len (pa_cons (pe_ix ix_tup (pv 0) pe_int (fun _ _ => rfl)) pa_nil)) (pv 1) (nomark _))))))), ?_⟩
    refine ⟨v, rfl, v, .ty "tuple", _, _, _, rfl, .ty _, dpTy hd, dpKit hd (.inl rfl), _, rfl, ?_⟩
    cases od with
    | @tup n ds hl hod =>
      cases hd with
      | @tup a xs _ hx hds =>
        have el := dpLen hds
        have hq : ∀ H', Same H H' → ∀ b, isCs m (.tuple ds) = b → Q (.bl b) H' := fun H' s' b e => e ▸ q H' s'
        refine iteF ⟨.ref a, rfl, a, xs, rfl, .inr hx, rfl, _, rfl, ?_⟩
        rw [dInt]
        by_cases e2 : xs.length = 2
        · rw [decide_eq_true (by omega : (xs.length : Int) = 2)]
          refine iteF ?_
          match xs, ds, hds, el, e2 with
          | [x0, x1], [d0, d1], .cons h0 (.cons h1 .nil), _, _ =>
            have o0 := (hod d0 (by simp)).up (m := n + 1) (by omega)
            refine ⟨.ref a, rfl, a, _, 0, x0, rfl, rfl, hx, atI_nat (j := 0) rfl, x0, d0, rfl, h0, o0, fun H1 s1 => ⟨_, rfl, ite2 (fun e => ?_) (fun e => ?_)⟩⟩
            · have h01 := dpSame s1 _ _ h0
              cases d0 with
              | tuple es =>
                cases h01 with
                | @tup b ys _ hy hes =>
                  have ele := dpLen hes
                  refine ⟨.ref a, rfl, a, _, 0, .ref b, rfl, rfl, sameTup s1 hx, atI_nat (j := 0) rfl, b, ys, rfl, .inr hy, .int m, rfl, rfl, ?_⟩
                  rw [dInt]
                  refine hq H1 s1 _ ?_
                  show (areAn (.tuple es) && decide ((es.length : Int) = m)) = _
                  rw [e, Bool.true_and, ele]
              | _ => exact absurd e (by simp [areAn])
            · refine hq H1 s1 _ ?_
              show (areAn d0 && _) = false
              rw [Bool.eq_false_iff.mpr e, Bool.false_and]
        · rw [decide_eq_false (by omega : ¬ (xs.length : Int) = 2)]
          refine iteT (hq H (Same.refl H) _ ?_)
          match ds, el with
          | [], _ => rfl
          | [_], _ => rfl
          | [_, _], el => exact absurd el e2
          | _ :: _ :: _ :: _, _ => rfl
    | non => exact iteT (q H (Same.refl H))
    | bl => exact iteT (q H (Same.refl H))
    | int => exact iteT (q H (Same.refl H))
    | str => exact iteT (q H (Same.refl H))
theorem scCases : FnScope ["value", "many", "case"] ["value", "many"] (defScope sCases) := ⟨rfl, rfl, rfl, by decide +kernel, rfl, by decide +kernel, by decide +kernel⟩
theorem okCases {k n : Nat} (F : FnP K "_are_cases" sCases f fd) (B : Bn mg) (Cs : ∀ n, Has P w K mg base (k + 3) "_is_case" ["value", "many"] (spIs2 K n isCs)) : FnOk P w K mg base CX0 (k + 4) f fd ["value", "many"] (spIs2 K n areCs) := by
  refine F.ok scCases (fun vs H Q E h => ?_) (fun cdv A outer s H vs Q E hr h => ?_)
  · obtain ⟨v, d, m, rfl, _⟩ := h
    rfl
  · obtain ⟨v, d, m, rfl, hd, od, q⟩ := h
    obtain ⟨fC, fdC, gC, kC, bC, GC⟩ := (Cs n).ex
    refine ⟨_, PSs.nox (pss_one (ps_ret (pe_and (pe_callB call_isi (by rfl) B.isi (by decide +kernel) (pa_cons (pv 0) (pa_cons (pe_bltn (v := .ty "tuple") (by rfl) B.tuple (by decide +kernel) rfl) pa_nil)))
      (pe_one (pe_callB (cr_all rfl) (by rfl) B.all (by decide +kernel) (pa_cons (pe_lc (own := [("case", 2)]) (g := gName 2) rfl scCases.nd (pi_tup (pv 0)) (blkOk_by (N := ["value", "many", "case"]) (sc := defScope sCases) (by decide +kernel))
        (fun _ _ _ _ _ => pg_name (i := 2) scCases.nd rfl (.inl rfl) (hf := .inr rfl)) (fun _ _ _ _ _ => pts_nil)
        (fun _ _ _ _ _ => pe_call GC hr (by rfl) gC kC bC .nil pass0 (pa_cons (pv 2) (pa_cons (pv 1) pa_nil)))) pa_nil)))))), ?_⟩
    refine ⟨v, rfl, v, .ty "tuple", _, _, _, rfl, .ty _, dpTy hd, dpKit hd (.inl rfl), _, rfl, ?_⟩
    cases od with
    | @tup n ds hl hod =>
      cases hd with
      | @tup a xs _ hx hds =>
        refine iteT ⟨.ref a, rfl, a, rfl, ⟨xs, hx⟩, fun D hD => ?_⟩
        refine lcAllT (isCs m) hx hds (by omega) hD (fun v => rfl) (fun v d H1 hm s1 hd R hR => ?_) (fun H1 s1 e3 => ?_)
        · exact ⟨v, rfl, .int m, rfl, v, d, m, rfl, hd, (hod d hm).up (by omega), fun H2 s2 => hR H2 s2⟩
        · refine ⟨D, ds.map (isCs m), rfl, .inl (.inl e3), ?_⟩
          rw [show (ds.map (isCs m)).all id = ds.all (isCs m) by rw [List.all_map]; rfl]
          exact q H1 s1
    | non => exact iteF (q H (Same.refl H))
    | bl => exact iteF (q H (Same.refl H))
    | int => exact iteF (q H (Same.refl H))
    | str => exact iteF (q H (Same.refl H))
end
end KS

set_option Elab.async false
set_option linter.all false
set_option maxRecDepth 100000
set_option maxHeartbeats 4000000
namespace KS
open PySem PySem.Spec PyProof.Rows L2
section
variable {X : Cx}
def rNotInTD (K : PySem.W.Frag) : R2 := fun x y H Q => ∃ d ds, Dp K H x d ∧ Dp K H y (.tuple ds) ∧ SeqAt.shaped d = true ∧ SeqAt.shaped (.tuple ds) = true ∧ Q (.bl (!ds.any fun z => PyData.eqv z d)) H
theorem op_notInTD (hu : X.A.units + 65 < cLine) : OpR X (compareOp .NotIn) (rNotInTD X.K) := by
  intro pins s σ H x y v u Q I rx ry h
  obtain ⟨d, ds, hd, he, sd, se, q⟩ := h
  obtain ⟨as, r1⟩ := Dp.reads I d x v hd rx
  obtain ⟨bs, r2⟩ := Dp.reads I (.tuple ds) y u he ry
  refine SeqAt.notIn_tuple_reads r2 r1 (SeqAt.canLay_of_shaped se) (SeqAt.canLay_of_shaped sd) ?_ ⟨.bl _, H, I, rfl, q⟩
  have h1 := SeqAt.depth_of_shaped sd
  have h2 : min (PyData.depthAll ds) d.depth ≤ d.depth := Nat.min_le_right _ _
  omega
end
def lenD : PyData → Int
  | .tuple ds => ds.length
  | _ => 0
/-- a node behind the outputs ws, whatever stands for the nodes in it -/
def isNd (ws : List PyData) : PyData → Bool
  | .tuple [k, a, b, _] => if isWord "write" k then isNm a && (!(ws.any fun z => PyData.eqv z a) && arePt b) else isWord "read" k && (areKy a && areCs (lenD a) b)
  | d => PyData.eqv d (.tuple [.str "stop"])
/-- what can be compared: the whole, or the first of four -/
def NodeOk (d : PyData) : Prop := SeqAt.shaped d = true ∨ ∃ k a b e, d = .tuple [k, a, b, e] ∧ SeqAt.shaped k = true
def spNode (K : PySem.W.Frag) (n : Nat) : Sp := fun vs H Q _ => ∃ v wv d ws, vs = [v, wv] ∧ Dp K H v d ∧ Od n d ∧ NodeOk d ∧ Dp K H wv (.tuple ws) ∧ SeqAt.shaped (.tuple ws) = true ∧ ∀ H', Same H H' → Q (.bl (isNd ws d)) H'
theorem strSh2 {n : Nat} {z : Str} (h : Od n (.str z)) : SeqAt.shaped (.str z) = true := by
  cases h with
  | str n h _ =>
    unfold SeqAt.shaped
    have e : (PyData.str z).canLay0 = true := h
    rw [e]
    rfl
section
variable {P : Program} {w : World} {K : PySem.W.Frag} {mg : Str → Option Value} {base : Heap} {f : Addr} {fd : FuncData}
abbrev nNode : List Str := ["value", "written", "kind", "first", "second", "_"]
theorem scNode : FnScope nNode ["value", "written"] (defScope sIsNode) := ⟨rfl, rfl, rfl, by decide +kernel, rfl, by decide +kernel, by decide +kernel⟩
theorem okNode {k n : Nat} {S : Addr} (F : FnP K "_is_node" sIsNode f fd) (B : Bn mg) (gS : mg "STOP" = some (.ref S)) (hS : ∀ H, SqT K H S [.str "stop"]) (Nm : ∀ n, Has P w K mg base (k + 4) "is_name" ["value"] (spIs K n isNm)) (Pt : ∀ n, Has P w K mg base (k + 4) "_are_parts" ["value"] (spIs K n arePt))
    (Ky : ∀ n, Has P w K mg base (k + 4) "are_keys" ["value"] (spIs K n areKy)) (Cs : ∀ n, Has P w K mg base (k + 4) "_are_cases" ["value", "many"] (spIs2 K n areCs)) : FnOk P w K mg base CX0 (k + 5) f fd ["value", "written"] (spNode K n) := by
  refine F.ok scNode (fun vs H Q E h => ?_) (fun cdv A outer s H vs Q E hr h => ?_)
  · obtain ⟨v, wv, d, ws, rfl, _⟩ := h
    rfl
  · obtain ⟨v, wv, d, ws, rfl, hd, od, nok, hw, hws, q⟩ := h
    obtain ⟨fN, fdN, gN, kN, bN, GN⟩ := (Nm n).ex
    obtain ⟨fP, fdP, gP, kP, bP, GP⟩ := (Pt n).ex
    obtain ⟨fK, fdK, gK, kK, bK, GK⟩ := (Ky n).ex
    obtain ⟨fC, fdC, gC, kC, bC, GC⟩ := (Cs n).ex
    have hu65 : (A.deeper (envOfC "_is_node" (defScope sIsNode) s.heap.objs.size f cdv)).units + 65 < cLine := by
      have := hr.un
      omega
    refine ⟨_, PSs.nox (pss_cons (ps_if (PW.pt (pw_or (pt_not (pt_val (pe_callB call_isi (by rfl) B.isi (by decide +kernel) (pa_cons (pv 0) (pa_cons (pe_bltn (v := .ty "tuple") (by rfl) B.tuple (by decide +kernel) rfl) pa_nil)))))
        (pw_or1 (pt_cmpR op_ne (pe_callB call_len_seq (by rfl) B.len PySem.boot_len (pa_cons (pv 0) pa_nil)) pe_int (nomark _))))) (pss_one (ps_ret (pe_cmpR (op_eqD hr.units) (pv 0) (pe_glob (v := .ref S) (by rfl) gS rfl) (nomark _)))) pss_nil) (pss_cons (ps_asg (pv 0) (pg_tup rfl (pgs_cons (pg_name (i := 2) scNode.nd rfl (.inl rfl)) (pgs_cons (pg_name (i := 3) scNode.nd rfl (.inl rfl)) (pgs_cons (pg_name (i := 4) scNode.nd rfl (.inl rfl)) (pgs_cons (pg_name (i := 5) scNode.nd rfl (.inl rfl)) pgs_nil)))))) (pss_cons (ps_if (pt_cmpR (op_eqD hr.units) (pv 2) pe_str (nomark _)) (pss_one (ps_ret (pe_and (pe_call GN hr (by rfl) gN kN bN .nil pass0 (pa_cons (pv 3) pa_nil)) (pe_and (pe_cmpR (op_notInTD hu65) (pv 3) (pv 1) (by rfl)) (pe_one (pe_call GP hr (by rfl) gP kP bP .nil pass0 (pa_cons (pv 4) pa_nil))))))) pss_nil) (pss_one (ps_ret (pe_and (pe_cmpR (op_eqD hr.units) (pv 2) pe_str (nomark _)) (pe_and (pe_call GK hr (by rfl) gK kK bK .nil pass0 (pa_cons (pv 3) pa_nil)) (pe_one (pe_call GC hr (by rfl) gC kC bC .nil pass0 (pa_cons (pv 4) (pa_cons (pe_callB call_len_seq (by rfl) B.len PySem.boot_len (pa_cons (pv 3) pa_nil)) pa_nil))))))))))), ?_⟩
    refine ⟨v, rfl, v, .ty "tuple", _, _, _, rfl, .ty _, dpTy hd, dpKit hd (.inl rfl), _, rfl, ?_⟩
    have flat : SeqAt.shaped d = true → isNd ws d = PyData.eqv d (.tuple [.str "stop"]) → rEqD K v (.ref S) H Q := fun hs he =>
      ⟨d, .tuple [.str "stop"], hd, .tup (hS H) (.cons (.str _) .nil), hs, by decide +kernel, by rw [← he]; exact q H (Same.refl H)⟩
    cases od with
    | @tup n ds hl hod =>
      have hq : ∀ H', Same H H' → ∀ b, isNd ws (.tuple ds) = b → Q (.bl b) H' := fun H' s' b e => e ▸ q H' s'
      by_cases e4 : ds.length = 4
      · cases hd with
        | @tup a xs _ hx hds =>
          have el := dpLen hds
          refine iteF ⟨.ref a, rfl, a, xs, rfl, .inr hx, rfl, _, rfl, ?_⟩
          rw [dInt, decide_eq_true (by omega : (xs.length : Int) = 4)]
          refine iteF ?_
          have e5 : xs.length = 4 := by omega
          match xs, ds, hds, el, e5 with
          | [x0, x1, x2, x3], [d0, d1, d2, d3], .cons h0 (.cons h1 (.cons h2 (.cons h3 .nil))), _, _ =>
            have o1 := (hod d1 (by simp)).up (m := n + 1) (by omega)
            have o2 := (hod d2 (by simp)).up (m := n + 1) (by omega)
            have sh0 : SeqAt.shaped d0 = true := by
              rcases nok with z | ⟨k', a', b', e', z, z2⟩
              · have c1 := SeqAt.canLay_of_shaped z
                have c2 := SeqAt.depth_of_shaped z
                simp only [PyData.canLay0, PyData.canLayAll0, Bool.and_eq_true] at c1
                simp only [PyData.depth, PyData.depthAll] at c2
                unfold SeqAt.shaped
                rw [c1.1, Bool.true_and]
                exact decide_eq_true (by omega)
              · injection z with z
                injection z with z
                rw [z]
                exact z2
            have hs : isNd ws (.tuple [d0, d1, d2, d3]) = if isWord "write" d0 then isNm d1 && (!(ws.any fun z => PyData.eqv z d1) && arePt d2) else isWord "read" d0 && (areKy d1 && areCs (lenD d1) d2) := rfl
            refine ⟨.ref a, rfl, a, _, rfl, hx, rfl, x0, _, rfl, x1, _, rfl, x2, _, rfl, x3, _, rfl, rfl, ?_⟩
            refine ⟨x0, rfl, d0, .str "write", h0, .str _, sh0, by decide +kernel, _, rfl, ite2 (fun e => ?_) (fun e => ?_)⟩
            · have ew : isWord "write" d0 = true := e
              rw [ew, if_pos rfl] at hs
              refine ⟨x1, rfl, x1, d1, rfl, h1, o1, fun H1 s1 => ⟨_, rfl, ite2 (fun c => ?_) (fun c => ?_)⟩⟩
              · cases d1 with
                | str z =>
                  refine ⟨x1, rfl, wv, rfl, .str z, ws, dpSame s1 _ _ h1, dpSame s1 _ _ hw, strSh2 o1, hws, _, rfl, ite2 (fun c2 => ?_) (fun c2 => ?_)⟩
                  · exact ⟨x2, rfl, x2, d2, rfl, dpSame s1 _ _ h2, o2, fun H2 s2 => hq H2 (s1.trans s2) _ (by rw [hs, c, c2, Bool.true_and, Bool.true_and])⟩
                  · exact hq H1 s1 _ (by rw [hs, c, Bool.eq_false_iff.mpr c2]; rfl)
                | _ => exact absurd c (by simp [isNm])
              · exact hq H1 s1 _ (by rw [hs, Bool.eq_false_iff.mpr c, Bool.false_and])
            · have ew : isWord "write" d0 = false := Bool.eq_false_iff.mpr e
              rw [ew, if_neg Bool.false_ne_true] at hs
              refine ⟨x0, rfl, d0, .str "read", h0, .str _, sh0, by decide +kernel, _, rfl, ite2 (fun c => ?_) (fun c => ?_)⟩
              · have er : isWord "read" d0 = true := c
                refine ⟨x1, rfl, x1, d1, rfl, h1, o1, fun H1 s1 => ⟨_, rfl, ite2 (fun c2 => ?_) (fun c2 => ?_)⟩⟩
                · have h11 := dpSame s1 _ _ h1
                  cases d1 with
                  | tuple es =>
                    cases h11 with
                    | @tup b ys _ hy hes =>
                      refine ⟨x2, rfl, .ref b, rfl, b, ys, rfl, .inr hy, x2, d2, (ys.length : Int), rfl, dpSame s1 _ _ h2, o2, fun H2 s2 => hq H2 (s1.trans s2) _ ?_⟩
                      rw [hs, er, c2, Bool.true_and, Bool.true_and]
                      show areCs (es.length : Int) d2 = _
                      rw [dpLen hes]
                  | _ => exact absurd c2 (by simp [areKy])
                · exact hq H1 s1 _ (by rw [hs, er, Bool.eq_false_iff.mpr c2]; rfl)
              · have er : isWord "read" d0 = false := Bool.eq_false_iff.mpr c
                exact hq H (Same.refl H) _ (by rw [hs, er, Bool.false_and])
      · have he : isNd ws (.tuple ds) = PyData.eqv (.tuple ds) (.tuple [.str "stop"]) := by
          match ds, e4 with
          | [], _ => rfl
          | [_], _ => rfl
          | [_, _], _ => rfl
          | [_, _, _], _ => rfl
          | _ :: _ :: _ :: _ :: _ :: _, _ => rfl
        have hsh : SeqAt.shaped (.tuple ds) = true := by
          rcases nok with z | ⟨k', a', b', e', z, _⟩
          · exact z
          · injection z with z
            rw [z] at e4
            exact absurd rfl e4
        have hf := flat hsh he
        cases hd with
        | @tup a xs _ hx hds =>
          have el := dpLen hds
          refine iteF ⟨.ref a, rfl, a, xs, rfl, .inr hx, rfl, _, rfl, ?_⟩
          rw [dInt, decide_eq_false (by omega : ¬ (xs.length : Int) = 4)]
          exact iteT ⟨.ref a, rfl, hf⟩
    | non => exact iteT ⟨v, rfl, flat rfl rfl⟩
    | bl => exact iteT ⟨v, rfl, flat rfl rfl⟩
    | int => exact iteT ⟨v, rfl, flat rfl rfl⟩
    | @str n z h1 h2 => exact iteT ⟨v, rfl, flat (strSh2 (.str n h1 h2)) rfl⟩
end
end KS

set_option Elab.async false
set_option linter.all false
set_option maxRecDepth 100000
set_option maxHeartbeats 4000000
/-! the program's look at a tree, for trees without a fault -/
namespace KS.La
open PySem PySem.Spec PyProof.Rows L2
theorem eqvStr (d : PyData) (z : Str) : PyData.eqv d (.str z) = true ↔ d = .str z := by
  cases d <;> simp [PyData.eqv]
theorem ndFlat (ws : List PyData) (d0 : PyData) (dr : List PyData) (h : dr.length ≠ 3) : isNd ws (.tuple (d0 :: dr)) = (isWord "stop" d0 && dr.isEmpty) := by
  match dr, h with
  | [], _ => rfl
  | [_], _ => rfl
  | [_, _], _ => rfl
  | [_, _, _], h => exact absurd rfl h
  | _ :: _ :: _ :: _ :: _, _ => rfl
theorem ndFour (ws : List PyData) (d0 d1 d2 d3 : PyData) : isNd ws (.tuple [d0, d1, d2, d3]) = if isWord "write" d0 then isNm d1 && (!(ws.any fun z => PyData.eqv z d1) && arePt d2) else isWord "read" d0 && (areKy d1 && areCs (lenD d1) d2) := rfl
def second : PyData → PyData
  | .tuple [_, x] => x
  | _ => .none
def caseNodes : PyData → List PyData
  | .tuple cs => cs.map second
  | _ => []
def inD : PyData → List PyData
  | .tuple [k, _, b, e] => if isWord "write" k then [e] else caseNodes b ++ [e]
  | _ => []
def wsD (ws : List PyData) : PyData → List PyData
  | .tuple [k, a, _, _] => if isWord "write" k then ws ++ [a] else ws
  | _ => ws
def firstSome (g : Nat → PyData → Option (List Nat)) : Nat → List PyData → Option (List Nat)
  | _, [] => none
  | i, d :: ds => match g i d with
    | some p => some p
    | none => firstSome g (i + 1) ds
def ff : Nat → List PyData → List Nat → PyData → Option (List Nat)
  | 0, ws, p, d => if isNd ws d then none else some p
  | n + 1, ws, p, d => if isNd ws d then firstSome (fun i e => ff n (wsD ws d) (p ++ [i]) e) 0 (inD d) else some p
theorem fsStep (g : Nat → PyData → Option (List Nat)) (l : List PyData) (i : Nat) (h : i < l.length) : firstSome g i (l.drop i) = match g i l[i] with
    | some p => some p
    | none => firstSome g (i + 1) (l.drop (i + 1)) := by
  rw [List.drop_eq_getElem_cons h]
  rfl
theorem ndShape {ws : List PyData} {d : PyData} (h : isNd ws d = true) : d = .tuple [.str "stop"] ∨ (∃ a b e, d = .tuple [.str "write", a, b, e] ∧ isNm a = true ∧ arePt b = true ∧ (ws.any fun z => PyData.eqv z a) = false) ∨ ∃ a b e, d = .tuple [.str "read", a, b, e] ∧ areKy a = true ∧ areCs (lenD a) b = true := by
  cases d with
  | tuple ds =>
    match ds with
    | [] => cases h
    | d0 :: dr =>
      by_cases h3 : dr.length = 3
      · match dr, h3 with
        | [a, b, c], _ =>
          rw [ndFour] at h
          cases e : isWord "write" d0 with
          | true =>
            rw [e, if_pos rfl, Bool.and_eq_true, Bool.and_eq_true, Bool.not_eq_true'] at h
            rw [(eqvStr _ _).mp e]
            exact .inr (.inl ⟨a, b, c, rfl, h.1, h.2.2, h.2.1⟩)
          | false =>
            rw [e, if_neg Bool.false_ne_true, Bool.and_eq_true, Bool.and_eq_true] at h
            rw [(eqvStr _ _).mp h.1]
            exact .inr (.inr ⟨a, b, c, rfl, h.2.1, h.2.2⟩)
      · rw [ndFlat _ _ _ h3, Bool.and_eq_true] at h
        rw [(eqvStr _ _).mp h.1]
        cases dr with
        | nil => exact .inl rfl
        | cons y ys => cases h.2
  | _ => cases h
theorem csShape {m : Int} {d : PyData} (h : isCs m d = true) : ∃ a x, d = .tuple [a, x] := by
  unfold isCs at h
  split at h
  · exact ⟨_, _, rfl⟩
  · cases h
theorem csTuple {m : Int} {b : PyData} (h : areCs m b = true) : ∃ cs, b = .tuple cs ∧ ∀ c ∈ cs, isCs m c = true := by
  cases b with
  | tuple cs => exact ⟨cs, rfl, fun c hc => List.all_eq_true.mp h c hc⟩
  | _ => cases h
/-- the nodes in a node are less deep -/
theorem inOd {ws : List PyData} {d : PyData} {n : Nat} (h : isNd ws d = true) (od : Od (n + 1) d) : ∀ e ∈ inD d, Od n e := by
  rcases ndShape h with rfl | ⟨a, b, c, rfl, _⟩ | ⟨a, b, c, rfl, _, hb⟩
  · exact fun e he => absurd he (by simp [inD])
  · cases od with
    | tup _ h2 =>
      intro e he
      have he' : e = c := by simpa [inD, show isWord "write" (.str "write") = true from by decide +kernel] using he
      rw [he']
      exact h2 c (by simp)
  · obtain ⟨cs, rfl, hcs⟩ := csTuple hb
    cases od with
    | tup _ h2 =>
      intro e he
      have he' : e ∈ cs.map second ++ [c] := by simpa [inD, caseNodes, show isWord "write" (.str "read") = false from by decide +kernel] using he
      rcases List.mem_append.mp he' with y | y
      · obtain ⟨x, hx, rfl⟩ := List.mem_map.mp y
        obtain ⟨a', x', rfl⟩ := csShape (hcs x hx)
        have o1 := h2 (.tuple cs) (by simp)
        cases o1 with
        | tup _ h3 =>
          have o2 := h3 _ hx
          cases o2 with
          | tup _ h4 => exact (h4 x' (by simp)).up (by omega)
      · rw [List.mem_singleton.mp y]
        exact h2 c (by simp)
/-- names alone -/
def WsOk (ws : List PyData) : Prop := ∀ z ∈ ws, ∃ t, z = .str t ∧ SOk t
theorem WsOk.shapedL {ws : List PyData} (h : WsOk ws) : SeqAt.shaped (.list ws) = true := by
  obtain ⟨a, b⟩ := allLay (ds := ws) (n := 0) fun d hd => by
    obtain ⟨t, rfl, ht⟩ := h d hd
    exact ⟨ht, Nat.zero_le _⟩
  have e1 : (PyData.list ws).canLay0 = true := a
  unfold SeqAt.shaped
  rw [e1, Bool.true_and]
  refine decide_eq_true ?_
  simp only [PyData.depth]
  omega
theorem WsOk.shapedT {ws : List PyData} (h : WsOk ws) : SeqAt.shaped (.tuple ws) = true := by
  obtain ⟨a, b⟩ := allLay (ds := ws) (n := 0) fun d hd => by
    obtain ⟨t, rfl, ht⟩ := h d hd
    exact ⟨ht, Nat.zero_le _⟩
  have e1 : (PyData.tuple ws).canLay0 = true := a
  unfold SeqAt.shaped
  rw [e1, Bool.true_and]
  refine decide_eq_true ?_
  simp only [PyData.depth]
  omega
theorem nmStr {a : PyData} (h : isNm a = true) : ∃ t, a = .str t := by
  cases a <;> first | exact ⟨_, rfl⟩ | cases h
theorem wsOkIn {ws : List PyData} {d : PyData} {n : Nat} (hw : WsOk ws) (h : isNd ws d = true) (od : Od n d) : WsOk (wsD ws d) := by
  rcases ndShape h with rfl | ⟨a, b, c, rfl, ha, _⟩ | ⟨a, b, c, rfl, _, hb⟩
  · exact hw
  · intro z hz
    have hz' : z ∈ ws ++ [a] := by simpa [wsD, show isWord "write" (.str "write") = true from by decide +kernel] using hz
    rcases List.mem_append.mp hz' with y | y
    · exact hw z y
    · rw [List.mem_singleton.mp y]
      obtain ⟨t, rfl⟩ := nmStr ha
      cases od with
      | tup _ h2 =>
        have o := h2 (.str t) (by simp)
        cases o with
        | str _ hs _ => exact ⟨t, rfl, hs⟩
  · have e : wsD ws (.tuple [.str "read", a, b, c]) = ws := by simp [wsD, show isWord "write" (.str "read") = false from by decide +kernel]
    rw [e]
    exact hw
theorem wsLen (ws : List PyData) (d : PyData) : (wsD ws d).length ≤ ws.length + 1 := by
  unfold wsD
  split
  · split
    · simp
    · omega
  · omega
abbrev nI (i : Nat) : V := .int (i : Nat)
section
variable {K : PySem.W.Frag}
theorem writeNe : isWord "write" (.str "stop") = false ∧ isWord "read" (.str "stop") = false ∧ isWord "write" (.str "write") = true ∧ isWord "read" (.str "write") = false ∧ isWord "write" (.str "read") = false ∧ isWord "read" (.str "read") = true := by decide +kernel
theorem eqvSW : PyData.eqv (.str "stop") (.str "write") = false := by decide +kernel
theorem eqvWW : PyData.eqv (.str "write") (.str "write") = true := by decide +kernel
theorem eqvRW : PyData.eqv (.str "read") (.str "write") = false := by decide +kernel
theorem eqvSR : PyData.eqv (.str "stop") (.str "read") = false := by decide +kernel
theorem eqvWR : PyData.eqv (.str "write") (.str "read") = false := by decide +kernel
theorem eqvRR : PyData.eqv (.str "read") (.str "read") = true := by decide +kernel
theorem dpTup {H : Hp} {v : V} {ds : List PyData} (h : Dp K H v (.tuple ds)) : ∃ a xs, v = .ref a ∧ SqT K H a xs ∧ DpAll K H xs ds := by
  cases h with
  | tup a b => exact ⟨_, _, rfl, a, b⟩
theorem dpOne {H : Hp} {xs : List V} {d : PyData} (h : DpAll K H xs [d]) : ∃ y, xs = [y] ∧ Dp K H y d := by
  cases h with
  | cons a b => cases b; exact ⟨_, rfl, a⟩
theorem dpTwo {H : Hp} {xs : List V} {d e : PyData} (h : DpAll K H xs [d, e]) : ∃ y z, xs = [y, z] ∧ Dp K H y d ∧ Dp K H z e := by
  cases h with
  | cons a b =>
    obtain ⟨z, rfl, c⟩ := dpOne b
    exact ⟨_, _, rfl, a, c⟩
theorem dpFour {H : Hp} {xs : List V} {a b c d : PyData} (h : DpAll K H xs [a, b, c, d]) : ∃ x y z u, xs = [x, y, z, u] ∧ Dp K H x a ∧ Dp K H y b ∧ Dp K H z c ∧ Dp K H u d := by
  cases h with
  | cons h1 h2 =>
    cases h2 with
    | cons h2 h3 =>
      obtain ⟨z, u, rfl, h4, h5⟩ := dpTwo h3
      exact ⟨_, _, _, _, rfl, h1, h2, h4, h5⟩
end
/-! ### the program's walk -/
/-- data stand where all but lists stand -/
theorem dpKTo {K : PySem.W.Frag} {H H' : Hp} (k : KT H H') {n : Nat} {d : PyData} (o : Od n d) : ∀ v, Dp K H v d → Dp K H' v d := by
  induction o with
  | non n => exact fun v h => by cases h; exact .non
  | bl n b => exact fun v h => by cases h; exact .bl _
  | int n i => exact fun v h => by cases h; exact .int _
  | str n h _ => exact fun v h => by cases h; exact .str _
  | tup h h2 ih =>
    intro v hv
    cases hv with
    | tup hx hd => exact .tup (k.tup hx) (allKT ih hd)
structure Ent where
  n : Nat
  d : PyData
  ps : List Nat
  ws : List PyData
def firstRes : List Ent → Option (List Nat)
  | [] => none
  | E :: r => match ff E.n E.ws E.ps E.d with
    | some p => some p
    | none => firstRes r
def cnt : Nat → PyData → Nat
  | 0, _ => 1
  | n + 1, d => 1 + ((inD d).map (cnt n)).sum
def cntS : List Ent → Nat
  | [] => 0
  | E :: r => cnt E.n E.d + cntS r
def FineS (N : Nat) : List Ent → Prop
  | [] => True
  | E :: r => E.n ≤ N ∧ r.length ≤ 101 * (N - E.n) ∧ FineS N r
def ents (n : Nat) (ps : List Nat) (ws : List PyData) : Nat → List PyData → List Ent
  | _, [] => []
  | i, e :: r => ⟨n, e, ps ++ [i], ws⟩ :: ents n ps ws (i + 1) r
theorem ents_len (n : Nat) (ps : List Nat) (ws : List PyData) : ∀ (l : List PyData) (i : Nat), (ents n ps ws i l).length = l.length
  | [], _ => rfl
  | _ :: r, i => by
    show (ents n ps ws (i + 1) r).length + 1 = r.length + 1
    rw [ents_len n ps ws r]
theorem firstRes_ents (n : Nat) (ps : List Nat) (ws : List PyData) (S : List Ent) : ∀ (l : List PyData) (i : Nat), firstRes (ents n ps ws i l ++ S) = match firstSome (fun i e => ff n ws (ps ++ [i]) e) i l with
    | some p => some p
    | none => firstRes S
  | [], _ => rfl
  | e :: r, i => by
    have h := firstRes_ents n ps ws S r (i + 1)
    show (match ff n ws (ps ++ [i]) e with
      | some p => some p
      | none => firstRes (ents n ps ws (i + 1) r ++ S)) = match (match ff n ws (ps ++ [i]) e with
      | some p => some p
      | none => firstSome (fun i e => ff n ws (ps ++ [i]) e) (i + 1) r) with
      | some p => some p
      | none => firstRes S
    rw [h]
    cases ff n ws (ps ++ [i]) e <;> rfl
theorem cntS_ents (n : Nat) (ps : List Nat) (ws : List PyData) (S : List Ent) : ∀ (l : List PyData) (i : Nat), cntS (ents n ps ws i l ++ S) = (l.map (cnt n)).sum + cntS S
  | [], _ => by
    show cntS S = 0 + cntS S
    omega
  | e :: r, i => by
    have h := cntS_ents n ps ws S r (i + 1)
    show cnt n e + cntS (ents n ps ws (i + 1) r ++ S) = (cnt n e + (r.map (cnt n)).sum) + cntS S
    omega
theorem fine_ents {N n : Nat} {ps : List Nat} {ws : List PyData} {S : List Ent} (h : n + 1 ≤ N) (hS : FineS N S) (hl : S.length ≤ 101 * (N - (n + 1))) : ∀ (l : List PyData) (i : Nat), l.length ≤ 101 → FineS N (ents n ps ws i l ++ S)
  | [], _, _ => hS
  | e :: r, i, hr => by
    have hr' : r.length + 1 ≤ 101 := hr
    refine ⟨by show n ≤ N; omega, ?_, fine_ents h hS hl r (i + 1) (by omega)⟩
    show (ents n ps ws (i + 1) r ++ S).length ≤ 101 * (N - n)
    rw [List.length_append, ents_len]
    have : N - n = (N - (n + 1)) + 1 := by omega
    rw [this, Nat.mul_add]
    omega
theorem ffNo {n : Nat} {ws : List PyData} {ps : List Nat} {d : PyData} (h : isNd ws d = false) : ff n ws ps d = some ps := by
  cases n <;> (show (if isNd ws d = true then _ else some ps) = some ps; rw [h]; rfl)
theorem ffYes {n : Nat} {ws : List PyData} {ps : List Nat} {d : PyData} (h : isNd ws d = true) : ff (n + 1) ws ps d = firstSome (fun i e => ff n (wsD ws d) (ps ++ [i]) e) 0 (inD d) := by
  show (if isNd ws d = true then _ else some ps) = _
  rw [h]
  rfl
theorem inLen {ws : List PyData} {d : PyData} {n : Nat} (h : isNd ws d = true) (od : Od n d) : (inD d).length ≤ 101 := by
  rcases ndShape h with rfl | ⟨a, b, c, rfl, ha, _⟩ | ⟨a, b, c, rfl, _, hb⟩
  · simp [inD]
  · simp [inD, writeNe.2.2.1]
  · obtain ⟨cs, rfl, hcs⟩ := csTuple hb
    cases od with
    | tup _ h2 =>
      have o := h2 (.tuple cs) (by simp)
      cases o with
      | tup h _ =>
        simp [inD, caseNodes, writeNe.2.2.2.2.1]
        omega
def EntOk (K : PySem.W.Frag) (H0 H : Hp) (v : V) (E : Ent) : Prop := ∃ (t : Addr) (x : V) (pa wa : Addr) (zs : List V), v = .ref t ∧ SqT K H t [x, .ref pa, .ref wa] ∧ Dp K H x E.d ∧ SqT K H pa (E.ps.map nI) ∧ SqT K H wa zs ∧ DpAll K H0 zs E.ws ∧
  Od E.n E.d ∧ WsOk E.ws ∧ E.ps.length + E.n ≤ 300 ∧ E.ws.length + E.n ≤ 300
inductive StOk (K : PySem.W.Frag) (H0 H : Hp) : List V → List Ent → Prop
  | nil : StOk K H0 H [] []
  | cons {v : V} {E : Ent} {vs : List V} {Es : List Ent} (h : EntOk K H0 H v E) (r : StOk K H0 H vs Es) : StOk K H0 H (v :: vs) (E :: Es)
theorem StOk.kt {K : PySem.W.Frag} {H0 H H' : Hp} (k : KT H H') {vs : List V} {Es : List Ent} (h : StOk K H0 H vs Es) : StOk K H0 H' vs Es := by
  induction h with
  | nil => exact .nil
  | cons h r ih =>
    obtain ⟨t, x, pa, wa, zs, rfl, h1, h2, h3, h4, h5, h6, h7⟩ := h
    exact .cons ⟨t, x, pa, wa, zs, rfl, k.tup h1, dpKTo k h6 _ h2, k.tup h3, k.tup h4, h5, h6, h7⟩ ih
theorem StOk.len {K : PySem.W.Frag} {H0 H : Hp} {vs : List V} {Es : List Ent} (h : StOk K H0 H vs Es) : vs.length = Es.length := by
  induction h with
  | nil => rfl
  | cons _ _ ih => rw [List.length_cons, List.length_cons, ih]
theorem lcMapG {K : PySem.W.Frag} {a : Addr} {xs : List V} {ds : List PyData} {vs : List Nat} {gt : TG} {te : TE} {σ : L2.St} {H1 : Hp} {D : Addr} {Qd : Hp → Prop} (g : PyData → PyData) (ha : SqT K H1 a xs) (hx : DpAll K H1 xs ds) (hn : ds.length ≤ 1000) (hD : H1 D = none)
    (hs : ∀ v d H, d ∈ ds → Same H1 H → Dp K H1 v d → ∀ (R : VK) (N : Hp → Prop), (∀ y H2, Same H H2 → Dp K H1 y (g d) → R y H2) → gt v (wipe σ vs) H fun σ2 H2 => wipe σ2 vs = wipe σ vs ∧ tYes σ2 H2 fun b H3 => if b = true then te σ2 H3 R else N H3)
    (hd : ∀ H ys, Same H1 H → H D = some (.lst ys) → DpAll K H1 ys (ds.map g) → Qd H) :
    ∃ W : Nat → Nat → Hp → Prop, (∃ m, W 0 m (upd H1 D (.lst []))) ∧ ∀ i m H, W i m H →
      ((Itt K a).stop i H ∧ Qd H) ∨ ((Itt K a).go i H ∧ ∃ Nx : Hp → Prop, (∀ H', Nx H' → ∃ m', m' < m ∧ W (i + 1) m' H') ∧ ∀ x H', (Itt K a).yld i H x H' → gt x (wipe σ vs) H' fun σ2 H2 => wipe σ2 vs = wipe σ vs ∧ tYes σ2 H2 fun b H3 =>
        if b = true then te σ2 H3 fun y H4 => ∃ acc, H4 D = some (.lst acc) ∧ acc.length < sizeLine ∧ Nx (upd H4 D (.lst (acc ++ [y]))) else Nx H3) := by
  have hl := dpLen hx
  refine lcJ (n := ds.length) (fun i H => ∃ ys, At H1 D ys H ∧ DpAll K H1 ys ((ds.take i).map g)) ⟨[], ⟨sameUpd hD, upd_same⟩, .nil⟩ (fun i H lt h => ⟨xs, xs[i], sameTup h.choose_spec.1.1 ha, List.getElem?_eq_getElem (by omega)⟩)
    (fun H h => ⟨xs, sameTup h.choose_spec.1.1 ha, by omega⟩) (fun i H x H' lt h y => ?_) (fun H h => ?_)
  · obtain ⟨ys, hat, hys⟩ := h
    obtain ⟨rfl, y⟩ := y
    have e := y xs (sameTup hat.1 ha)
    have e2 : ds[i]? = some ds[i] := List.getElem?_eq_getElem lt
    obtain ⟨v, h1, h2⟩ := dpAt hx e2
    obtain rfl : v = x := Option.some.inj (h1.symm.trans e)
    refine hs v ds[i] _ (List.getElem_mem lt) hat.1 h2 _ _ fun z H2 s2 hz => ?_
    obtain ⟨e3, e4⟩ := hat.put (ys := ys ++ [z]) hD s2
    have hly := dpLen hys
    refine ⟨_, e3, ?_, _, e4, ?_⟩
    · rw [hly, List.length_map, List.length_take, sizeLine_eq]
      omega
    · rw [List.take_succ_eq_append_getElem lt, List.map_append]
      exact dpSnoc hz hys
  · obtain ⟨ys, hat, hys⟩ := h
    rw [List.take_length] at hys
    exact hd H ys hat.1 hat.2 hys
def spInner (K : PySem.W.Frag) (n : Nat) : Sp := fun vs H Q _ => ∃ v d ws, vs = [v] ∧ Dp K H v d ∧ Od n d ∧ isNd ws d = true ∧ ∀ p xs H', H p = none → Same H H' → H' p = some (.lst xs) → DpAll K H xs (inD d) → Q (.ref p) H'
section
variable {P : Program} {w : World} {K : PySem.W.Frag} {mg : Str → Option Value} {base : Heap} {f : Addr} {fd : FuncData}
theorem scInner : FnScope ["node", "_", "inner"] ["node"] (defScope sInner) := ⟨rfl, rfl, rfl, by decide +kernel, rfl, by decide +kernel, by decide +kernel⟩
theorem okInner {k n : Nat} (F : FnP K "_inner_nodes" sInner f fd) : FnOk P w K mg base CX0 (k + 1) f fd ["node"] (spInner K n) := by
  refine F.ok scInner (fun vs H Q E h => ?_) (fun cdv A outer s H vs Q E hr h => ?_)
  · obtain ⟨v, d, ws, rfl, _⟩ := h
    rfl
  · obtain ⟨v, d, ws, rfl, hd, od, e, q⟩ := h
    refine ⟨_, PSs.nox (pss_cons (ps_if (pt_cmpR (op_eqD hr.units) (pe_ix ix_tup (pv 0) pe_int (fun _ _ => rfl)) pe_str (nomark _)) (pss_one (ps_ret (pe_lst (pa_cons (pe_ix ix_tup (pv 0) pe_int (fun _ _ => rfl)) pa_nil)))) pss_nil) (pss_cons (ps_if (pt_cmpR (op_eqD hr.units) (pe_ix ix_tup (pv 0) pe_int (fun _ _ => rfl)) pe_str (nomark _)) (pss_one (ps_ret (pe_op op_cat (pe_lc (own := [("_", 1), ("inner", 2)]) (g := gTup K 2 (gCons (gName 1) (gCons (gName 2) gNil))) rfl scInner.nd (pi_tup (pe_ix ix_tup (pv 0) pe_int (fun _ _ => rfl))) (blkOk_by (N := ["node", "_", "inner"]) (sc := defScope sInner) (by decide +kernel))
          (fun _ _ _ _ _ => pg_tup rfl (pgs_cons (pg_name (i := 1) scInner.nd rfl (.inl rfl) (hf := .inr rfl)) (pgs_cons (pg_name (i := 2) scInner.nd rfl (.inl rfl) (hf := .inr rfl)) pgs_nil))) (fun _ _ _ _ _ => pts_nil) (fun _ _ _ _ _ => pv 2)) (pe_lst (pa_cons (pe_ix ix_tup (pv 0) pe_int (fun _ _ => rfl)) pa_nil))))) pss_nil) (pss_one (ps_ret (pe_lst pa_nil))))), ?_⟩
    rcases ndShape e with rfl | ⟨a, b, c, rfl, ha, _⟩ | ⟨a, b, c, rfl, _, hb⟩
    · obtain ⟨t, ys, rfl, hy, hds⟩ := dpTup hd
      obtain ⟨y0, rfl, h0⟩ := dpOne hds
      refine ⟨.ref t, rfl, t, _, 0, y0, rfl, rfl, hy, atI_nat (j := 0) rfl, .str "stop", .str "write", h0, .str _, by decide +kernel, by decide +kernel, _, rfl, ?_⟩
      rw [eqvSW]
      refine iteF ⟨.ref t, rfl, t, _, 0, y0, rfl, rfl, hy, atI_nat (j := 0) rfl, .str "stop", .str "read", h0, .str _, by decide +kernel, by decide +kernel, _, rfl, ?_⟩
      rw [eqvSR]
      refine iteF ⟨(by show 0 ≤ sizeLine; exact Nat.zero_le _), fun p hp => q p [] _ hp (sameUpd hp) upd_same ?_⟩
      have e6 : inD (.tuple [.str "stop"]) = [] := rfl
      rw [e6]
      exact .nil
    · obtain ⟨t, ys, rfl, hy, hds⟩ := dpTup hd
      obtain ⟨y0, y1, y2, y3, rfl, h0, h1, h2, h3⟩ := dpFour hds
      refine ⟨.ref t, rfl, t, _, 0, y0, rfl, rfl, hy, atI_nat (j := 0) rfl, .str "write", .str "write", h0, .str _, by decide +kernel, by decide +kernel, _, rfl, ?_⟩
      rw [eqvWW]
      refine iteT ⟨.ref t, rfl, t, _, 3, y3, rfl, rfl, hy, atI_nat (j := 3) rfl, (by show 1 ≤ sizeLine; decide), fun p hp => q p [y3] _ hp (sameUpd hp) upd_same ?_⟩
      have e5 : inD (.tuple [.str "write", a, b, c]) = [c] := by simp [inD, writeNe.2.2.1]
      rw [e5]
      exact .cons h3 .nil
    · obtain ⟨cs, rfl, hcs⟩ := csTuple hb
      obtain ⟨t, ys, rfl, hy, hds⟩ := dpTup hd
      obtain ⟨y0, y1, y2, y3, rfl, h0, h1, h2, h3⟩ := dpFour hds
      obtain ⟨t2, cxs, rfl, hy2, hc2⟩ := dpTup h2
      have lcs : cs.length ≤ 100 := by
        cases od with
        | tup _ h2 =>
          have o := h2 (.tuple cs) (by simp)
          cases o with
          | tup h _ => exact h
      refine ⟨.ref t, rfl, t, _, 0, y0, rfl, rfl, hy, atI_nat (j := 0) rfl, .str "read", .str "write", h0, .str _, by decide +kernel, by decide +kernel, _, rfl, ?_⟩
      rw [eqvRW]
      refine iteF ⟨.ref t, rfl, t, _, 0, y0, rfl, rfl, hy, atI_nat (j := 0) rfl, .str "read", .str "read", h0, .str _, by decide +kernel, by decide +kernel, _, rfl, ?_⟩
      rw [eqvRR]
      refine iteT ⟨.ref t, rfl, t, _, 2, .ref t2, rfl, rfl, hy, atI_nat (j := 2) rfl, t2, rfl, ⟨cxs, hy2⟩, fun D hD => ?_⟩
      refine lcMapG second hy2 hc2 (by omega) hD (fun v d H4 hm s4 hd4 R N hR => ?_) (fun H4 ys4 s4 e4 hys4 => ?_)
      · obtain ⟨a', x', rfl⟩ := csShape (hcs d hm)
        obtain ⟨g, gs, rfl, hg, hgs⟩ := dpTup hd4
        obtain ⟨g0, g1, rfl, k0, k1⟩ := dpTwo hgs
        refine ⟨g, [g0, g1], rfl, sameTup s4 hg, rfl, g0, [g1], rfl, g1, [], rfl, rfl, rfl, ?_⟩
        unfold tYes
        dsimp only
        rw [if_pos rfl]
        refine ⟨g1, rfl, hR g1 H4 (Same.refl _) ?_⟩
        exact k1
      · refine ⟨.ref t, rfl, t, _, 3, y3, rfl, rfl, sameTup s4 hy, atI_nat (j := 3) rfl, (by show 1 ≤ sizeLine; decide), fun p5 hp5 => ?_⟩
        have s5 := sameUpd (o := .lst [y3]) hp5
        have hL5 : upd H4 p5 (.lst [y3]) p5 = some (.lst [y3]) := upd_same
        generalize upd H4 p5 (.lst [y3]) = H5 at s5 hL5 ⊢
        have hly := dpLen hys4
        refine ⟨D, p5, ys4, [y3], rfl, rfl, s5 _ _ e4, hL5, by rw [hly, List.length_map, sizeLine_eq]; show cs.length + 1 ≤ _; omega, fun p6 hp6 => ?_⟩
        have s6 := sameUpd (o := .lst (ys4 ++ [y3])) hp6
        have sA := (s4.trans s5).trans s6
        have hp0 : H p6 = none := by
          cases hh : H p6 with
          | none => rfl
          | some o => rw [(s4.trans s5) _ _ hh] at hp6; cases hp6
        refine q p6 (ys4 ++ [y3]) _ hp0 sA upd_same ?_
        have e5 : inD (.tuple [.str "read", a, .tuple cs, c]) = cs.map second ++ [c] := by simp [inD, caseNodes, writeNe.2.2.2.2.1]
        rw [e5]
        exact dpSnoc h3 hys4
end
end KS.La

set_option Elab.async false
set_option linter.all false
set_option maxRecDepth 100000
set_option maxHeartbeats 4000000
namespace KS.La
open PySem PySem.Spec PyProof.Rows L2
/-- a tree without a fault is let by -/
def spCheck0 (K : PySem.W.Frag) (n : Nat) : Sp := fun vs H Q _ => ∃ v d, vs = [v] ∧ Dp K H v d ∧ Od n d ∧ ff n [] [] d = none ∧ ∀ H', Same H H' → Q .non H'
section
variable {P : Program} {w : World} {K : PySem.W.Frag} {mg : Str → Option Value} {base : Heap} {f : Addr} {fd : FuncData}
abbrev nCheck : List Str := ["top", "waiting", "node", "path", "written", "inner", "at"]
theorem scCheck : FnScope nCheck ["top"] (defScope sCheck) := ⟨rfl, rfl, rfl, by decide +kernel, rfl, by decide +kernel, by decide +kernel⟩
theorem okCheck0 {k n : Nat} (hn : n ≤ 60) (F : FnP K "_check_tree" sCheck f fd) (B : Bn mg) (mr : mg "reversed" = none) (Nd : ∀ n, Has P w K mg base (k + 5) "_is_node" ["value", "written"] (spNode K n)) (In : ∀ n, Has P w K mg base (k + 5) "_inner_nodes" ["node"] (spInner K n)) :
    FnOk P w K mg base CX0 (k + 6) f fd ["top"] (spCheck0 K n) := by
  refine F.ok scCheck (fun vs H Q E h => ?_) (fun cdv A outer s H vs Q E hr h => ?_)
  · obtain ⟨v, d, rfl, _⟩ := h
    rfl
  · obtain ⟨v, d, rfl, hd, od, hff, q1⟩ := h
    obtain ⟨fN, fdN, gN, kN, bN, GN⟩ := (Nd 199).ex
    obtain ⟨fI, fdI, gI, kI, bI, GI⟩ := (In 199).ex
    refine ⟨_, PSs.nox (pss_cons (ps_set (i := 1) scCheck.nd rfl (.inl rfl) (pe_lst (pa_cons (pe_tup (pa_cons (pv 0) (pa_cons (pe_tup pa_nil) (pa_cons (pe_tup pa_nil) pa_nil)))) pa_nil))) (pss_one (ps_while PassesOwn.never (pt_truth (pv 1) (by intro _; rfl))
        (pss_cons (ps_asg (pe_bm0 PySem.F.plainAttrs_list PySem.F.slot_list_pop PySem.F.type_list_pop mt_pop (pv 1)) (pg_tup rfl (pgs_cons (pg_name (i := 2) scCheck.nd rfl (.inl rfl)) (pgs_cons (pg_name (i := 3) scCheck.nd rfl (.inl rfl)) (pgs_cons (pg_name (i := 4) scCheck.nd rfl (.inl rfl)) pgs_nil))))) (pss_cons (ps_if (pt_not (pt_val (pe_call GN hr (by rfl) gN kN bN .nil pass0 (pa_cons (pv 2) (pa_cons (pv 4) pa_nil))))) (pss_one (ps_never)) pss_nil) (pss_cons (ps_set (i := 5) scCheck.nd rfl (.inl rfl) (pe_call GI hr (by rfl) gI kI bI .nil pass0 (pa_cons (pv 2) pa_nil))) (C8.pss_cut (ps_if (pt_cmpR (op_eqD hr.units) (pe_ix ix_tup (pv 2) pe_int (fun _ _ => rfl)) pe_str (nomark _)) (pss_one (ps_set (i := 4) scCheck.nd rfl (.inl rfl) (pe_tup (StX.pa_star (pv 4) (pa_cons (pe_ix ix_tup (pv 2) pe_int (fun _ _ => rfl)) pa_nil))))) pss_nil) (pss_one (ps_for PassesOwn.never rfl (pi_revR (by rfl) mr (prg_1 (by rfl) B.range (pe_callB call_len_seq (by rfl) B.len PySem.boot_len (pa_cons (pv 5) pa_nil)))) (pg_name (i := 6) scCheck.nd rfl (.inl rfl))
            (pss_one (ps_expr (pe_bm PySem.F.plainAttrs_list PySem.F.slot_list_append PySem.F.type_list_append mt_append (pv 1) (pa_cons (pe_tup (pa_cons (pe_ix ix_list (pv 5) (pv 6) (fun _ _ => rfl)) (pa_cons (pe_tup (StX.pa_star (pv 3) (pa_cons (pv 6) pa_nil))) (pa_cons (pv 4) pa_nil)))) pa_nil))))))))))))), ?_⟩
    refine ⟨v, rfl, (by show 0 ≤ sizeLine; exact Nat.zero_le _), fun p1 n1 => ⟨(by show 0 ≤ sizeLine; exact Nat.zero_le _), fun p2 n2 => ⟨(by show 3 ≤ sizeLine; decide), fun p3 n3 => ⟨(by show 1 ≤ sizeLine; decide), fun W nW => ?_⟩⟩⟩⟩
    have s1 := sameUpd (o := .tup []) n1
    have e1 : upd H p1 (.tup []) p1 = some (.tup []) := upd_same
    generalize upd H p1 (.tup []) = H1 at *
    have s2 := sameUpd (o := .tup []) n2
    have e2 : upd H1 p2 (.tup []) p2 = some (.tup []) := upd_same
    generalize upd H1 p2 (.tup []) = H2 at *
    have s3 := sameUpd (o := .tup [v, .ref p1, .ref p2]) n3
    have e3 : upd H2 p3 (.tup [v, .ref p1, .ref p2]) p3 = some (.tup [v, .ref p1, .ref p2]) := upd_same
    generalize upd H2 p3 (.tup [v, .ref p1, .ref p2]) = H3 at *
    have s4 := sameUpd (o := .lst [.ref p3]) nW
    have e4 : upd H3 W (.lst [.ref p3]) W = some (.lst [.ref p3]) := upd_same
    generalize upd H3 W (.lst [.ref p3]) = H4 at *
    have sA := ((s1.trans s2).trans s3).trans s4
    have hWn : H W = none := by
      cases hh : H W with
      | none => rfl
      | some o => rw [((s1.trans s2).trans s3) _ _ hh] at nW; cases nW
    have first : StOk K H H4 [.ref p3] [⟨n, d, [], []⟩] := .cons ⟨p3, v, p1, p2, [], rfl, .inl (.inl (s4 _ _ e3)), dpSame sA _ _ hd, .inl (.inl (s4 _ _ (s3 _ _ (s2 _ _ e1)))), .inl (.inl (s4 _ _ (s3 _ _ e2))), .nil, od, fun z hz => absurd hz (by simp), by show 0 + n ≤ 300; omega, by show 0 + n ≤ 300; omega⟩ .nil
    refine ⟨fun m σ' H' => ∃ (b c e f g : Option V) (rs : List V) (S : List Ent), σ' = [some v, some (.ref W), b, c, e, f, g] ∧ Same H H' ∧ H' W = some (.lst rs.reverse) ∧ StOk K H H' rs S ∧ FineS n S ∧ m = cntS S ∧ firstRes S = ff n [] [] d,
      ⟨_, none, none, none, none, none, [.ref p3], [⟨n, d, [], []⟩], rfl, sA, e4, first, ⟨Nat.le_refl _, Nat.zero_le _, trivial⟩, rfl, ?_⟩, fun m σ' H' hw => ?_⟩
    · show (match ff n [] [] d with
        | some p => some p
        | none => none) = _
      cases ff n [] [] d <;> rfl
    obtain ⟨b, c, e, g, g2, rs, S, rfl, sH, hW, hS, hF, rfl, hres⟩ := hw
    cases hS with
    | nil =>
      refine ⟨.ref W, rfl, false, .inl ⟨[], .inl (.inl hW), rfl⟩, iteF ?_⟩
      exact q1 H' sH
    | @cons v1 E1 rs S h1 hr1 =>
      refine ⟨.ref W, rfl, true, .inl ⟨_, .inl (.inl hW), by simp⟩, iteT ?_⟩
      refine ⟨fun σ2 H2 => ∃ m', m' < cntS (E1 :: S) ∧ ∃ (b c e f g : Option V) (rs : List V) (S : List Ent), σ2 = [some v, some (.ref W), b, c, e, f, g] ∧ Same H H2 ∧ H2 W = some (.lst rs.reverse) ∧ StOk K H H2 rs S ∧ FineS n S ∧ m' = cntS S ∧ firstRes S = ff n [] [] d, fun _ _ z => z, ?_⟩
      obtain ⟨n0, d0, ps0, ws0⟩ := E1
      obtain ⟨t, x, pa, wa, zs, rfl, ht, hx, hpa, hwa, hzs, hod, hwok, hpl, hwl⟩ := h1
      dsimp only at hx hpa hzs hod hwok hpl hwl
      obtain ⟨hF1, hF2, hF3⟩ := hF
      dsimp only at hF1 hF2
      have hlast : (V.ref t :: rs).reverse[(V.ref t :: rs).reverse.length - 1]? = some (.ref t) := by
        rw [List.reverse_cons, List.length_append, List.length_singleton, Nat.add_sub_cancel, List.getElem?_append_right (Nat.le_refl _), Nat.sub_self]
        rfl
      have hdrop : (V.ref t :: rs).reverse.dropLast = rs.reverse := by rw [List.reverse_cons, List.dropLast_concat]
      refine ⟨.ref W, rfl, .inl ⟨rfl, _, .inl (.inl hW)⟩, W, _, .ref t, rfl, rfl, hW, hlast, ?_⟩
      rw [hdrop]
      have kt1 : KT H' (upd H' W (.lst rs.reverse)) := KT.put hW
      have sH2 : Same H (upd H' W (.lst rs.reverse)) := fun b o hb => by
        rw [upd_ne (ne_of_none hb hWn)]
        exact sH _ _ hb
      have hW2 : upd H' W (.lst rs.reverse) W = some (.lst rs.reverse) := upd_same
      generalize upd H' W (.lst rs.reverse) = H5 at kt1 sH2 hW2 ⊢
      refine ⟨t, _, rfl, kt1.tup ht, rfl, x, _, rfl, _, _, rfl, _, _, rfl, rfl, ?_⟩
      have nok : NodeOk d0 := .inl ((hod.up (m := 60) (by omega)).shaped (by omega))
      refine ⟨x, rfl, .ref wa, rfl, x, .ref wa, d0, ws0, rfl, dpKTo kt1 hod _ hx, hod.up (by omega), nok, .tup (kt1.tup hwa) (dpAllSame sH2 _ _ hzs), hwok.shapedT, fun H6 s6 => ⟨_, rfl, ?_⟩⟩
      cases hnd : isNd ws0 d0 with
      | false =>
        have hr0 : firstRes (⟨n0, d0, ps0, ws0⟩ :: S) = some ps0 := by
          show (match ff n0 ws0 ps0 d0 with
            | some p => some p
            | none => firstRes S) = _
          rw [ffNo hnd]
        rw [hr0, hff] at hres
        cases hres
      | true =>
        obtain ⟨n1, rfl⟩ : ∃ n1, n0 = n1 + 1 := by
          cases n0 with
          | zero => exact absurd hnd (by cases hod <;> simp [isNd, PyData.eqv])
          | succ n1 => exact ⟨n1, rfl⟩
        refine iteF ⟨x, rfl, x, d0, ws0, rfl, dpSame s6 _ _ (dpKTo kt1 hod _ hx), hod.up (by omega), hnd, fun L xs H7 nL s7 hL hxs => ?_⟩
        have sH7 := (sH2.trans s6).trans s7
        have hxs0 : DpAll K H7 xs (inD d0) := dpAllSame s7 _ _ hxs
        have hpa7 := sameTup (s6.trans s7) (kt1.tup hpa)
        have hwa7 := sameTup (s6.trans s7) (kt1.tup hwa)
        have hW7 := (s6.trans s7) _ _ hW2
        have neL : L ≠ W := fun z => by rw [z, (s6 _ _ hW2)] at nL; cases nL
        have kt7 : KT H' H7 := kt1.trans (KT.same (s6.trans s7))
        refine ⟨fun σ' H8 => ∃ wa' zs', σ' = [some v, some (.ref W), some x, some (.ref pa), some (.ref wa'), some (.ref L), g2] ∧ Same H7 H8 ∧ SqT K H8 wa' zs' ∧ DpAll K H zs' (wsD ws0 d0), ?_, ?_⟩
        · have hx7 := dpSame (s6.trans s7) _ _ (dpKTo kt1 hod _ hx)
          rcases ndShape hnd with rfl | ⟨a, b', c', rfl, ha, _⟩ | ⟨a, b', c', rfl, _, hb⟩
          · obtain ⟨t', ys, rfl, hy, hds⟩ := dpTup hx7
            obtain ⟨y0, rfl, h0⟩ := dpOne hds
            refine ⟨.ref t', rfl, t', _, 0, y0, rfl, rfl, hy, atI_nat (j := 0) rfl, .str "stop", .str "write", h0, .str _, by decide +kernel, by decide +kernel, _, rfl, ?_⟩
            rw [eqvSW]
            refine iteF ⟨wa, zs, rfl, Same.refl _, hwa7, ?_⟩
            have e5 : wsD ws0 (.tuple [.str "stop"]) = ws0 := rfl
            rw [e5]
            exact hzs
          · obtain ⟨t', ys, rfl, hy, hds⟩ := dpTup hx7
            obtain ⟨y0, y1, y2, y3, rfl, h0, h1, h2, h3⟩ := dpFour hds
            obtain ⟨a0, rfl⟩ := nmStr ha
            refine ⟨.ref t', rfl, t', _, 0, y0, rfl, rfl, hy, atI_nat (j := 0) rfl, .str "write", .str "write", h0, .str _, by decide +kernel, by decide +kernel, _, rfl, ?_⟩
            rw [eqvWW]
            have hlz := dpLen hzs
            refine iteT ⟨.ref wa, rfl, wa, zs, rfl, .inl hwa7, .ref t', rfl, t', _, 1, y1, rfl, rfl, hy, atI_nat (j := 1) rfl, ?_, fun p8 n8 => ?_⟩
            · rw [List.length_append, hlz, sizeLine_eq]
              show ws0.length + 1 ≤ _
              omega
            refine ⟨p8, zs ++ [y1], rfl, sameUpd n8, .inl (.inl upd_same), ?_⟩
            have e5 : wsD ws0 (.tuple [.str "write", .str a0, b', c']) = ws0 ++ [.str a0] := by simp [wsD, writeNe.2.2.1]
            rw [e5]
            refine dpSnoc ?_ hzs
            cases h1
            exact .str _
          · obtain ⟨t', ys, rfl, hy, hds⟩ := dpTup hx7
            obtain ⟨y0, y1, y2, y3, rfl, h0, h1, h2, h3⟩ := dpFour hds
            refine ⟨.ref t', rfl, t', _, 0, y0, rfl, rfl, hy, atI_nat (j := 0) rfl, .str "read", .str "write", h0, .str _, by decide +kernel, by decide +kernel, _, rfl, ?_⟩
            rw [eqvRW]
            refine iteF ⟨wa, zs, rfl, Same.refl _, hwa7, ?_⟩
            have e5 : wsD ws0 (.tuple [.str "read", a, b', c']) = ws0 := by simp [wsD, writeNe.2.2.2.2.1]
            rw [e5]
            exact hzs
        rintro σ8 H8 ⟨wa', zs', rfl, s8, hwa8, hzs8⟩
        have lin := inLen hnd hod
        have hlx := dpLen hxs0
        have ino := inOd hnd hod
        have wok2 := wsOkIn hwok hnd hod
        have wl2 := wsLen ws0 d0
        have hL8 := s8 _ _ hL
        have sH8 := sH7.trans s8
        have hlS := hr1.len
        refine ⟨.ref L, rfl, L, xs, rfl, .inl (.inl (.inl hL8)), (xs.length : Int), rfl, by omega, by omega, by omega, by omega, ?_⟩
        refine forJ (n := xs.length) (fun i σ' H9 => ∃ (u : Option V) (es : List V), σ' = [some v, some (.ref W), some x, some (.ref pa), some (.ref wa'), some (.ref L), u] ∧ Same H H9 ∧ KT H8 H9 ∧ H9 L = some (.lst xs) ∧ H9 W = some (.lst (es ++ rs).reverse) ∧
            StOk K H H9 (es ++ rs) (ents n1 ps0 (wsD ws0 d0) (xs.length - i) ((inD d0).drop (xs.length - i)) ++ S)) ⟨g2, [], rfl, sH8, KT.refl _, hL8, s8 _ _ hW7, ?_⟩
          (fun i σ' H9 lt _ => by show i < ((xs.length : Int) - 0).toNat; omega) (fun σ' H9 _ => by show ((xs.length : Int) - 0).toNat ≤ xs.length; omega) (fun i σ' H9 xv H10 lt h y => ?_) (fun σ' H9 h => ?_)
        · rw [Nat.sub_zero, List.drop_of_length_le (by omega)]
          exact hr1.kt (kt7.trans (KT.same s8))
        · obtain ⟨rfl, rfl⟩ := y
          obtain ⟨u, es, rfl, sH9, kt9, hL9, hW9, hS9⟩ := h
          obtain ⟨j, hj⟩ : ∃ j, j = xs.length - (i + 1) := ⟨_, rfl⟩
          have hjl : j < xs.length := by omega
          have hint : (0 + ((((xs.length : Int) - 0).toNat : Nat) : Int) - 1 + (i : Nat) * (-1)) = ((j : Nat) : Int) := by omega
          rw [hint]
          have hji : xs.length - i = j + 1 := by omega
          have hjd : j < (inD d0).length := by omega
          have e2 : (inD d0)[j]? = some (inD d0)[j] := List.getElem?_eq_getElem hjd
          obtain ⟨xe, g1, g3⟩ := dpAt hxs e2
          have oj := ino _ (List.getElem_mem hjd)
          refine ⟨.ref W, rfl, .inl ⟨rfl, _, .inl (.inl hW9)⟩, .ref L, rfl, .int j, rfl, L, xs, _, xe, rfl, rfl, .inl (.inl hL9), atI_nat g1, ?_⟩
          have hpa9 : SqT K H10 pa (ps0.map nI) := kt9.tup (sameTup s8 hpa7)
          refine ⟨.ref pa, rfl, pa, _, rfl, .inl hpa9, .int j, rfl, ?_, fun p11 n11 => ⟨.ref wa', rfl, (by show 3 ≤ sizeLine; decide), fun p12 n12 => ?_⟩⟩
          · rw [List.length_append, List.length_map, sizeLine_eq]
            show ps0.length + 1 ≤ _
            omega
          have s11 := sameUpd (o := .tup (ps0.map nI ++ [.int j])) n11
          have e11 : upd H10 p11 (.tup (ps0.map nI ++ [.int j])) p11 = some (.tup (ps0.map nI ++ [.int j])) := upd_same
          generalize upd H10 p11 (.tup (ps0.map nI ++ [.int j])) = H11 at s11 e11 n12 ⊢
          have s12 := sameUpd (o := .tup [xe, .ref p11, .ref wa']) n12
          have e12 : upd H11 p12 (.tup [xe, .ref p11, .ref wa']) p12 = some (.tup [xe, .ref p11, .ref wa']) := upd_same
          generalize upd H11 p12 (.tup [xe, .ref p11, .ref wa']) = H12 at s12 e12 ⊢
          have sX := s11.trans s12
          have hW12 := sX _ _ hW9
          refine ⟨W, _, .ref p12, rfl, rfl, hW12, ?_, ?_⟩
          · have hl9 := hS9.len
            simp only [List.length_append, ents_len, List.length_drop] at hl9
            rw [List.length_reverse, List.length_append, hl9, sizeLine_eq]
            omega
          have hrev : (es ++ rs).reverse ++ [V.ref p12] = ((.ref p12 :: es) ++ rs).reverse := by rw [List.cons_append, List.reverse_cons]
          rw [hrev]
          have kt12 : KT H12 (upd H12 W (.lst ((.ref p12 :: es) ++ rs).reverse)) := KT.put hW12
          have ktA := (KT.same sX).trans kt12
          refine ⟨_, .ref p12 :: es, rfl, fun b o hb => ?_, kt9.trans ktA, ?_, upd_same, ?_⟩
          · rw [upd_ne (ne_of_none hb hWn)]
            exact sX _ _ (sH9 _ _ hb)
          · rw [upd_ne neL]
            exact sX _ _ hL9
          · rw [← hj, List.drop_eq_getElem_cons hjd]
            rw [hji] at hS9
            refine .cons ?_ (hS9.kt ktA)
            refine ⟨p12, xe, p11, wa', zs', rfl, kt12.tup (.inl (.inl e12)), ?_, kt12.tup (.inl (.inl ?_)), ktA.tup (kt9.tup hwa8), hzs8, oj, wok2, ?_, ?_⟩
            · exact dpKTo ((KT.same (s7.trans s8)).trans (kt9.trans ktA)) oj _ g3
            · show H12 p11 = some (.tup ((ps0 ++ [j]).map nI))
              rw [List.map_append]
              exact s12 _ _ e11
            · show (ps0 ++ [j]).length + n1 ≤ 300
              rw [List.length_append]
              show ps0.length + 1 + n1 ≤ 300
              omega
            · show (wsD ws0 d0).length + n1 ≤ 300
              omega
        · obtain ⟨u, es, rfl, sH9, kt9, hL9, hW9, hS9⟩ := h
          rw [Nat.sub_self, List.drop_zero] at hS9
          refine ⟨_, ?_, _, _, _, _, _, es ++ rs, _, rfl, sH9, hW9, hS9, fine_ents hF1 hF3 hF2 _ _ lin, rfl, ?_⟩
          · rw [cntS_ents]
            show _ < (1 + ((inD d0).map (cnt n1)).sum) + cntS S
            omega
          · rw [firstRes_ents, ← hres]
            show _ = (match ff (n1 + 1) ws0 ps0 d0 with
              | some p => some p
              | none => firstRes S)
            rw [ffYes hnd] <;> rfl
end
end KS.La

set_option Elab.async false
set_option linter.all false
set_option maxRecDepth 100000
set_option maxHeartbeats 4000000
/-! trees without a fault -/
namespace TRE
open PySem PySem.Spec PyProof.Rows L2 ND KS KS.La PLC
def KsOk (ks : List (Str × Str)) : Prop := 1 ≤ ks.length ∧ ks.length ≤ 4 ∧ ks.Nodup ∧ ∀ k ∈ ks, okN k.1 = true ∧ okN k.2 = true
mutual
/-- the outputs that may be written, each once on its way -/
def TrZ : List Str → Tr → Prop
  | _, .stop => True
  | zs, .wr o ps n => (o ∈ zs ∧ ps.length ≤ 100 ∧ ∀ p ∈ ps, PtOk p) ∧ TrZ (zs.filter fun z => decide (z ≠ o)) n
  | zs, .rd ks cs l => (KsOk ks ∧ cs.length ≤ 100) ∧ CsZ zs ks.length cs ∧ TrZ zs l
def CsZ : List Str → Nat → List (List (Option Str) × Tr) → Prop
  | _, _, [] => True
  | zs, m, (r, t) :: cs => ((r.length = m ∧ ∀ z, some z ∈ r → TOk z) ∧ TrZ zs t) ∧ CsZ zs m cs
end
theorem csZ_mem {zs : List Str} {m : Nat} : ∀ {cs : List (List (Option Str) × Tr)}, CsZ zs m cs → ∀ c ∈ cs, (c.1.length = m ∧ ∀ z, some z ∈ c.1 → TOk z) ∧ TrZ zs c.2
  | [], _, c, h => absurd h (by simp)
  | (r, t) :: cs, h, c, hc => by
    rw [CsZ] at h
    rcases List.mem_cons.mp hc with rfl | hc
    · exact h.1
    · exact csZ_mem h.2 c hc
mutual
theorem zOk : ∀ {t : Tr} {zs : List Str}, TrZ zs t → TrOk t
  | .stop, _, _ => by rw [TrOk]; trivial
  | .wr o ps n, zs, h => by
    rw [TrZ] at h
    rw [TrOk]
    exact ⟨h.1.2, zOk h.2⟩
  | .rd ks cs l, zs, h => by
    rw [TrZ] at h
    rw [TrOk]
    exact ⟨⟨h.1.2, zOks h.1.1.2.1 h.2.1⟩, zOk h.2.2⟩
theorem zOks : ∀ {cs : List (List (Option Str) × Tr)} {zs : List Str} {m : Nat}, m ≤ 4 → CsZ zs m cs → CsOk cs
  | [], _, _, _, _ => by rw [CsOk]; trivial
  | (r, t) :: cs, zs, m, hm, h => by
    rw [CsZ] at h
    rw [CsOk]
    exact ⟨⟨⟨by rw [h.1.1.1]; exact hm, h.1.1.2⟩, zOk h.1.2⟩, zOks hm h.2⟩
end
theorem zNext : ∀ {t : Tr} {zs : List Str}, TrZ zs t → ∃ zs', TrZ zs' (nextRead t)
  | .stop, zs, h => ⟨zs, h⟩
  | .rd _ _ _, zs, h => ⟨zs, h⟩
  | .wr o ps n, zs, h => by
    rw [TrZ] at h
    rw [nextRead]
    exact zNext h.2
theorem zPick {zs : List Str} {m : Nat} {r : List (Option Str)} : ∀ {cs : List (List (Option Str) × Tr)} {l : Tr}, CsZ zs m cs → TrZ zs l → TrZ zs (pickC r cs l)
  | [], l, _, h => h
  | (g, t) :: cs, l, hc, h => by
    rw [CsZ] at hc
    show TrZ zs (if g = r then t else pickC r cs l)
    split
    · exact hc.1.2
    · exact zPick hc.2 h
theorem zAfter {zs : List Str} {r : List (Option Str)} {t : Tr} (h : TrZ zs t) : TrZ zs (after r t) := by
  cases t with
  | stop => exact h
  | wr o ps n => exact h
  | rd ks cs l =>
    rw [TrZ] at h
    exact zPick h.2.1 h.2.2
theorem zWalk : ∀ {rs : List (List (Option Str))} {t : Tr} {zs : List Str}, TrZ zs t → ∃ zs', TrZ zs' (walk t rs)
  | [], t, zs, h => ⟨zs, h⟩
  | r :: rs, t, zs, h => by
    obtain ⟨zs', h'⟩ := zNext h
    exact zWalk (rs := rs) (zAfter h')
theorem zFew {t : Tr} {zs : List Str} (h : TrZ zs t) (rs : List (List (Option Str))) {ks cs l} (e : nextRead (walk t rs) = .rd ks cs l) : ks.length ≤ 4 := by
  obtain ⟨zs', h'⟩ := zWalk (rs := rs) h
  obtain ⟨zs2, h2⟩ := zNext h'
  rw [e, TrZ] at h2
  exact h2.1.1.2.1
/-! ### no fault is found -/
theorem fsNone {g : Nat → PyData → Option (List Nat)} : ∀ {l : List PyData} {i : Nat}, (∀ j, ∀ e ∈ l, g j e = none) → firstSome g i l = none
  | [], _, _ => rfl
  | e :: l, i, h => by
    show (match g i e with
      | some p => some p
      | none => firstSome g (i + 1) l) = none
    rw [h i e List.mem_cons_self]
    exact fsNone fun j x hx => h j x (List.mem_cons_of_mem _ hx)
theorem ptIs {p : Pt} (h : PtOk p) : isPt (ptD p) = true := by
  cases p with
  | txt z =>
    have h1 : TOk z := h
    show (isTx (.str z) || isPr (.str z)) = true
    rw [show isTx (.str z) = okT z from rfl, h1.2.2]
    rfl
  | itm r i => rfl
theorem nmInj : ∀ {ks : List (Str × Str)}, ks.Nodup → ((ks.map kyD).map KS.namesOf).Nodup := fun {ks} h => by
  rw [List.map_map]
  rw [List.nodup_iff_pairwise_ne, List.pairwise_map]
  rw [List.nodup_iff_pairwise_ne] at h
  refine h.imp fun {a b} n e => n ?_
  have e2 : [a.1, a.2] = [b.1, b.2] := e
  injection e2 with e3 e4
  injection e4 with e4 _
  exact Prod.ext e3 e4
theorem ksIs {ks : List (Str × Str)} (h : KsOk ks) : areKy (.tuple (ks.map kyD)) = true := by
  obtain ⟨h1, h2, h3, h4⟩ := h
  show (decide (1 ≤ (ks.map kyD).length) && (decide ((ks.map kyD).length ≤ 4) && ((ks.map kyD).all isKy && decide (((ks.map kyD).map KS.namesOf).Nodup)))) = true
  rw [List.length_map, decide_eq_true h1, decide_eq_true h2, decide_eq_true (nmInj h3), Bool.and_true, Bool.true_and, Bool.true_and, List.all_map, List.all_eq_true]
  intro k hk
  show (isNm (.str k.1) && isNm (.str k.2)) = true
  rw [show isNm (.str k.1) = okN k.1 from rfl, show isNm (.str k.2) = okN k.2 from rfl, (h4 k hk).1, (h4 k hk).2]
  rfl
theorem rowIs {m : Nat} {r : List (Option Str)} (e : r.length = m) (h1 : 1 ≤ m) (h2 : m ≤ 4) (h : ∀ z, some z ∈ r → TOk z) : areAn (rowD r) = true := by
  show (decide (1 ≤ (r.map ansD).length) && (decide ((r.map ansD).length ≤ 4) && (r.map ansD).all orNone)) = true
  rw [List.length_map, e, decide_eq_true h1, decide_eq_true h2, Bool.true_and, Bool.true_and, List.all_map, List.all_eq_true]
  intro a ha
  cases a with
  | none => rfl
  | some z => exact (h z ha).2.2
theorem csIs {zs : List Str} {m : Nat} (h1 : 1 ≤ m) (h2 : m ≤ 4) {cs : List (List (Option Str) × Tr)} (h : CsZ zs m cs) : areCs (m : Int) (.tuple (csD cs)) = true := by
  show (csD cs).all (isCs (m : Int)) = true
  rw [csD_map, List.all_map, List.all_eq_true]
  intro c hc
  obtain ⟨⟨e, z⟩, _⟩ := csZ_mem h c hc
  show (areAn (rowD c.1) && decide (((c.1.map ansD).length : Int) = (m : Int))) = true
  rw [rowIs e h1 h2 z, List.length_map, e, decide_eq_true rfl]
  rfl
theorem wsNew {ws : List PyData} {o : Str} (h : PyData.str o ∉ ws) : (ws.any fun z => PyData.eqv z (.str o)) = false := by
  rw [List.any_eq_false]
  intro z hz e
  exact h (by rw [← (eqvStr z o).mp e]; exact hz)
theorem zFF : ∀ {n : Nat} {t : Tr} {zs : List Str} {ws : List PyData} {p : List Nat}, (∀ z ∈ zs, okN z = true ∧ PyData.str z ∉ ws) → Od n (trD t) → TrZ zs t → ff n ws p (trD t) = none := by
  intro n
  induction n with
  | zero =>
    intro t zs ws p _ od _
    cases t <;> (rw [trD] at od; cases od)
  | succ n ih =>
    intro t zs ws p hz od h
    cases t with
    | stop =>
      have hn : isNd ws (trD .stop) = true := by rw [trD]; simp [isNd, PyData.eqv, PyData.eqvAll]
      rw [ffYes hn, trD]
      rfl
    | wr o ps m =>
      rw [TrZ] at h
      obtain ⟨⟨ho, lp, hp⟩, hm⟩ := h
      have hn : isNd ws (trD (.wr o ps m)) = true := by
        rw [trD, ndFour, writeNe.2.2.1, if_pos rfl, wsNew (hz o ho).2]
        show (okN o && (!false && (ps.map ptD).all isPt)) = true
        rw [(hz o ho).1, List.all_map]
        simp only [Bool.not_false, Bool.true_and, List.all_eq_true]
        exact fun p hp2 => ptIs (hp p hp2)
      have ino := inOd hn od
      rw [ffYes hn]
      refine fsNone fun j e he => ?_
      have e1 : inD (trD (.wr o ps m)) = [trD m] := by rw [trD]; simp [inD, writeNe.2.2.1]
      have e2 : wsD ws (trD (.wr o ps m)) = ws ++ [.str o] := by rw [trD]; simp [wsD, writeNe.2.2.1]
      have oe := ino e he
      rw [e1, List.mem_singleton] at he
      subst he
      rw [e2]
      refine ih (zs := zs.filter fun z => decide (z ≠ o)) (fun z hz2 => ?_) oe hm
      obtain ⟨h1, h2⟩ := List.mem_filter.mp hz2
      refine ⟨(hz z h1).1, fun hm2 => ?_⟩
      rcases List.mem_append.mp hm2 with y | y
      · exact (hz z h1).2 y
      · exact of_decide_eq_true h2 (PyData.str.inj (List.mem_singleton.mp y))
    | rd ks cs l =>
      rw [TrZ] at h
      obtain ⟨⟨hk, lc⟩, hc, hl⟩ := h
      have hn : isNd ws (trD (.rd ks cs l)) = true := by
        rw [trD, ndFour, writeNe.2.2.2.2.1, if_neg Bool.false_ne_true, writeNe.2.2.2.2.2, ksIs hk]
        show (true && (true && areCs (((ks.map kyD).length : Nat) : Int) (.tuple (csD cs)))) = true
        rw [List.length_map, csIs hk.1 hk.2.1 hc]
        rfl
      have ino := inOd hn od
      rw [ffYes hn]
      refine fsNone fun j e he => ?_
      have e1 : inD (trD (.rd ks cs l)) = (csD cs).map second ++ [trD l] := by rw [trD]; simp [inD, caseNodes, writeNe.2.2.2.2.1]
      have e2 : wsD ws (trD (.rd ks cs l)) = ws := by rw [trD]; simp [wsD, writeNe.2.2.2.2.1]
      have oe := ino e he
      rw [e2]
      rw [e1] at he
      rcases List.mem_append.mp he with y | y
      · rw [csD_map, List.map_map] at y
        obtain ⟨c, hc2, rfl⟩ := List.mem_map.mp y
        exact ih hz oe (csZ_mem hc c hc2).2
      · rw [List.mem_singleton.mp y] at oe ⊢
        exact ih hz oe hl
end TRE

set_option Elab.async false
set_option linter.all false
set_option maxRecDepth 100000
set_option maxHeartbeats 8000000
/-! a drawn tree -/
namespace TRE
open PySem PySem.Spec PyProof.Rows L2 ND KS KS.La PLC
abbrev lTree : Stmt := top 45
abbrev kysD (ks : List (Str × Str)) : List PyData := ks.map kyD
def spTree (K : PySem.W.Frag) (M : Nat) : Sp := fun vs H Q _ => ∃ (f ks os : Addr) (xs : List V) (keys : List (Str × Str)) (zs : List Str) (n : Int), vs = [.ref f, .ref ks, .ref os, .int n] ∧ 0 ≤ n ∧ n ≤ M ∧ Fd H f ∧ H ks = some (.lst xs) ∧ ks ≠ f ∧ DpAll K H xs (kysD keys) ∧ 1 ≤ keys.length ∧ keys.length ≤ 50 ∧ keys.Nodup ∧
  (∀ k ∈ keys, okN k.1 = true ∧ okN k.2 = true ∧ TOk k.1 ∧ TOk k.2) ∧ H os = some (.lst (zs.map V.str)) ∧ os ≠ f ∧ zs.length ≤ 10 ∧ (∀ z ∈ zs, TOk z) ∧ ∀ v t H', Dp K H' v (trD t) → TrZ zs t → Od (3 * M + 2) (trD t) → Kp f H H' → Fd H' f → Q v H'
theorem kysTS {K : PySem.W.Frag} {H H' : Hp} (k : TS H H') {ks : List (Str × Str)} {xs : List V} (h : DpAll K H xs (kysD ks)) : DpAll K H' xs (kysD ks) := allPl (n := 1) (fun d hd => by
  obtain ⟨x, _, rfl⟩ := List.mem_map.mp hd
  exact plKy x) k h
theorem plUp {n : Nat} {d : PyData} (h : Pl n d) {m : Nat} (l : n ≤ m) : Pl m d := h.up l
theorem plCase (c : List (Option Str) × Tr) : ∃ n, Pl n (.tuple [rowD c.1, trD c.2]) := by
  obtain ⟨n, h⟩ := plTr c.2
  refine ⟨n + 2 + 1, .tup fun d hd => ?_⟩
  simp only [List.mem_cons, List.not_mem_nil, or_false] at hd
  rcases hd with rfl | rfl
  · exact (plRow _).up (by omega)
  · exact h.up (by omega)
theorem csTS {K : PySem.W.Frag} {H H' : Hp} (k : TS H H') {cs : List (List (Option Str) × Tr)} {xs : List V} (h : DpAll K H xs (csD cs)) : DpAll K H' xs (csD cs) := allTS (fun d hd v hv => by
  rw [csD_map] at hd
  obtain ⟨c, _, rfl⟩ := List.mem_map.mp hd
  obtain ⟨n, p⟩ := plCase c
  exact dpTS k p v hv) h
theorem csSnoc (cs : List (List (Option Str) × Tr)) (r : List (Option Str)) (t : Tr) : csD (cs ++ [(r, t)]) = csD cs ++ [.tuple [rowD r, trD t]] := by
  rw [csD_map, csD_map, List.map_append]
  rfl
theorem csZ_snoc {zs : List Str} {m : Nat} {r : List (Option Str)} {t : Tr} (hr : r.length = m ∧ ∀ z, some z ∈ r → TOk z) (ht : TrZ zs t) : ∀ {cs : List (List (Option Str) × Tr)}, CsZ zs m cs → CsZ zs m (cs ++ [(r, t)])
  | [], _ => by
    show CsZ zs m [(r, t)]
    rw [CsZ]
    exact ⟨⟨hr, ht⟩, by rw [CsZ]; trivial⟩
  | (g, u) :: cs, h => by
    rw [CsZ] at h
    show CsZ zs m ((g, u) :: (cs ++ [(r, t)]))
    rw [CsZ]
    exact ⟨h.1, csZ_snoc hr ht h.2⟩
theorem eqE {K : PySem.W.Frag} {α : Type} {e : α → PyData} {H : Hp} {D p : Addr} {xs : List V} {ds : List α} {Q : VK} {n : Nat} (hn : n ≤ 60) (hD : H D = some (.lst xs)) (hv : DpAll K H xs (ds.map e)) (od : ∀ d ∈ ds, Od n (e d)) (ep : H p = some (.lst [])) (h : Q (.bl (decide (ds = []))) H) : rEqD K (.ref D) (.ref p) H Q := by
  obtain ⟨a, b⟩ := allLay (ds := ds.map e) (n := n) fun d hd => by
    obtain ⟨t, ht, rfl⟩ := List.mem_map.mp hd
    exact (od t ht).lay
  refine ⟨.list (ds.map e), .list [], .lst (.inl (.inl hD)) hv, .lst (.inl (.inl ep)) .nil, ?_, rfl, ?_⟩
  · have e1 : (PyData.list (ds.map e)).canLay0 = true := a
    unfold SeqAt.shaped
    rw [e1, Bool.true_and]
    refine decide_eq_true ?_
    simp only [PyData.depth]
    omega
  · cases ds with
    | nil => exact h
    | cons t ts => exact h
theorem neE {K : PySem.W.Frag} {α : Type} {e : α → PyData} {H : Hp} {D p : Addr} {xs : List V} {ds : List α} {Q : VK} {n : Nat} (hn : n ≤ 60) (hD : H D = some (.lst xs)) (hv : DpAll K H xs (ds.map e)) (od : ∀ d ∈ ds, Od n (e d)) (ep : H p = some (.lst [])) (h : Q (.bl (!decide (ds = []))) H) : rNeD K (.ref D) (.ref p) H Q := by
  obtain ⟨d, e', h1, h2, h3, h4, h5⟩ := eqE (Q := fun x H => Q (match x with | .bl b => .bl (!b) | _ => x) H) hn hD hv od ep h
  exact ⟨d, e', h1, h2, h3, h4, h5⟩
theorem strsDp {K : PySem.W.Frag} {H : Hp} : ∀ (zs : List Str), DpAll K H (zs.map V.str) (zs.map PyData.str)
  | [] => .nil
  | z :: zs => .cons (.str z) (strsDp zs)
theorem dpTake {K : PySem.W.Frag} {H : Hp} : ∀ {xs : List V} {ds : List PyData}, DpAll K H xs ds → ∀ k, DpAll K H (xs.take k) (ds.take k)
  | _, _, .nil, k => by rw [List.take_nil, List.take_nil]; exact .nil
  | _, _, .cons h r, 0 => .nil
  | _, _, .cons h r, k + 1 => .cons h (dpTake r k)
theorem odKy {k : Str × Str} (h : TOk k.1 ∧ TOk k.2) : Od 1 (kyD k) := .tup (by show 2 ≤ 100; omega) fun d hd => by
  simp only [List.mem_cons, List.not_mem_nil, or_false] at hd
  rcases hd with rfl | rfl
  · exact .str _ (TOk.odS h.1).1 (TOk.odS h.1).2
  · exact .str _ (TOk.odS h.2).1 (TOk.odS h.2).2
theorem odPts {ps : List Pt} (l : ps.length ≤ 100) (h : ∀ p ∈ ps, PtOk p) : Od 2 (.tuple (ps.map ptD)) := .tup (by rw [List.length_map]; exact l) fun d hd => by
  obtain ⟨p, hp, rfl⟩ := List.mem_map.mp hd
  cases p with
  | txt z => exact .str _ (TOk.odS (h _ hp)).1 (TOk.odS (h _ hp)).2
  | itm r i =>
    refine .tup (by show 2 ≤ 100; omega) fun d hd => ?_
    simp only [List.mem_cons, List.not_mem_nil, or_false] at hd
    rcases hd with rfl | rfl
    · exact .int _ _
    · exact .int _ _
theorem odStop (n : Nat) : Od (n + 1) (trD .stop) := by
  rw [trD]
  exact .tup (by show 1 ≤ 100; omega) fun d hd => by
    rw [List.mem_singleton.mp hd]
    exact .str _ (by unfold SOk; decide +kernel) (by decide +kernel)
theorem odWrT {n : Nat} {o : Str} {ps : List Pt} {t : Tr} (ho : TOk o) (l : ps.length ≤ 100) (h : ∀ p ∈ ps, PtOk p) (ht : Od n (trD t)) (n2 : 2 ≤ n) : Od (n + 1) (trD (.wr o ps t)) := by
  rw [trD]
  refine .tup (by show 4 ≤ 100; omega) fun d hd => ?_
  simp only [List.mem_cons, List.not_mem_nil, or_false] at hd
  rcases hd with rfl | rfl | rfl | rfl
  · exact .str _ (by unfold SOk; decide +kernel) (by decide +kernel)
  · exact .str _ (TOk.odS ho).1 (TOk.odS ho).2
  · exact (odPts l h).up n2
  · exact ht
theorem odRdT {n : Nat} {ks : List (Str × Str)} {cs : List (List (Option Str) × Tr)} {t : Tr} (hk : ks.length ≤ 100) (hk2 : ∀ k ∈ ks, TOk k.1 ∧ TOk k.2) (l : cs.length ≤ 100) (h : ∀ c ∈ cs, Od n (.tuple [rowD c.1, trD c.2])) (ht : Od (n + 1) (trD t)) (n2 : 1 ≤ n) : Od (n + 2) (trD (.rd ks cs t)) := by
  rw [trD, csD_map]
  refine .tup (by show 4 ≤ 100; omega) fun d hd => ?_
  simp only [List.mem_cons, List.not_mem_nil, or_false] at hd
  rcases hd with rfl | rfl | rfl | rfl
  · exact .str _ (by unfold SOk; decide +kernel) (by decide +kernel)
  · refine .tup (by rw [List.length_map]; exact hk) fun d hd => ?_
    obtain ⟨k, hk3, rfl⟩ := List.mem_map.mp hd
    exact (odKy (hk2 k hk3)).up (by omega)
  · refine .tup (by rw [List.length_map]; exact l) fun d hd => ?_
    obtain ⟨c, hc, rfl⟩ := List.mem_map.mp hd
    exact h c hc
  · exact ht
theorem odCase {n : Nat} {r : List (Option Str)} {t : Tr} (h : RowOk r) (ht : Od n (trD t)) (n1 : 1 ≤ n) : Od (n + 1) (.tuple [rowD r, trD t]) := .tup (by show 2 ≤ 100; omega) fun d hd => by
  simp only [List.mem_cons, List.not_mem_nil, or_false] at hd
  rcases hd with rfl | rfl
  · exact (odRow h).up n1
  · exact ht
abbrev nTree : List Str := ["_law_feed", "_law_keys", "_law_outs_here", "_law_deep", "_law_form", "_law_out", "_law_left", "_law_chosen", "_law_cases", "_law_turn", "_law_row", "_law_one", "_law_key"]
theorem plPts (ps : List Pt) : Pl 2 (.tuple (ps.map ptD)) := .tup fun d hd => by
  obtain ⟨p, _, rfl⟩ := List.mem_map.mp hd
  exact plPt p
abbrev tT (a ks os : Addr) (n : Int) (x4 x5 x6 x7 x8 x9 x10 x11 x12 : Option V) : L2.St := [some (.ref a), some (.ref ks), some (.ref os), some (.int n), x4, x5, x6, x7, x8, x9, x10, x11, x12]
section
variable {P : Program} {w : World} {K : PySem.W.Frag} {mg : Str → Option Value} {base : Heap} {f : Addr} {fd : FuncData}
abbrev pTree : List Str := ["_law_feed", "_law_keys", "_law_outs_here", "_law_deep"]
theorem scTree : FnScope nTree pTree (defScope lTree) := ⟨rfl, rfl, rfl, by decide +kernel, rfl, by decide +kernel, by decide +kernel⟩
theorem okTree {k : Nat} (F : FnP K "_law_some_tree" lTree f fd) (gT : mg "_law_some_tree" = some (.ref f)) (bT : Binds K fd pTree []) (B : Bn mg) (D : Has P w K mg base (k + 1) "_law_draw" ["_law_feed", "_law_many"] spDraw) (Pk : Has P w K mg base (k + 2) "_law_pick" ["_law_feed", "_law_items"] (spPick K))
    (Mx : Has P w K mg base (k + 2) "_law_mixed" ["_law_feed", "_law_items"] (spMixG K kyD)) (Pa : Has P w K mg base (k + 4) "_law_some_parts" ["_law_feed"] (spParts K)) (An : Has P w K mg base (k + 4) "_law_some_answer" ["_law_feed"] spAns) :
    ∀ M, M ≤ 100 → FnOk P w K mg base CX0 (k + M + 5) f fd pTree (spTree K M) := by
  obtain ⟨fD, fdD, gD, kD, bD, GD⟩ := D.ex
  obtain ⟨fP, fdP, gP, kP, bP, GP⟩ := Pk.ex
  obtain ⟨fM, fdM, gM, kM, bM, GM⟩ := Mx.ex
  obtain ⟨fQ, fdQ, gQ, kQ, bQ, GQ⟩ := Pa.ex
  obtain ⟨fA, fdA, gA, kA, bA, GA⟩ := An.ex
  have stop : ∀ {H1 : Hp} {p : Addr}, H1 p = none → Dp K (upd H1 p (.tup [.str "stop"])) (.ref p) (trD .stop) := fun {H1 p} hp => by
    rw [trD]
    exact .tup (.inl (.inl upd_same)) (.cons (.str _) .nil)
  intro M
  induction M with
  | zero =>
    intro hM
    refine F.ok scTree (fun vs H Q E h => ?_) (fun cdv A outer s H vs Q E hr h => ?_)
    · obtain ⟨a, ks, os, xs, keys, zs, n, rfl, _⟩ := h
      rfl
    · obtain ⟨a, ks, os, xs, keys, zs, n, rfl, n0, n1, hF, eK, neK, hxs, _, _, _, _, eO, neO, _, hzs, q⟩ := h
      have hr1 : Room (k + 1) _ := hr.mono (by omega)
      refine ⟨_, PSs.nox (pss_cons (ps_set (i := 4) scTree.nd rfl (.inl rfl) (pe_call GD hr1 (by rfl) gD kD bD .nil pass0 (pa_cons (pv 0) (pa_cons (pe_int) pa_nil)))) (pss_cons (ps_if (PW.pt (pw_or (pt_cmpR op_eq (pv 3) pe_int (nomark _)) (pw_or (pt_cmpR op_eq (pv 4) pe_int (nomark _)) (pw_or1 (PW.pt (pw_and (pt_cmpR (r := rEqD K) (op_eqD hr.units) (pv 1) (pe_lst pa_nil) (nomark _)) (pw_and1 (pt_cmpR (r := rEqD K) (op_eqD hr.units) (pv 2) (pe_lst pa_nil) (nomark _)))))))))
          (pss_one (ps_ret (pe_tup (pa_cons (pe_str) pa_nil)))) pss_nil) (pss_cons (ps_never) (pss_cons (ps_never) (pss_cons (ps_never) (pss_one (ps_never))))))), ?_⟩
      refine ⟨.ref a, rfl, a, 9, rfl, hF, by decide, by decide, fun r H1 r0 r1 k1 F1 => ⟨.int n, rfl, rfl, _, rfl, ite2 (fun e => ?_) (fun e => ?_)⟩⟩
      · exact iteT ⟨(by show 1 ≤ sizeLine; decide), fun p hp => q _ .stop _ (stop hp) (by rw [TrZ]; trivial) (odStop _) (k1.trans (Kp.new hp)) (F1.new hp)⟩
      · have e2 : n = 0 := by omega
        subst e2
        exact absurd e (by decide)
  | succ M ih =>
    intro hM
    have G := ih (by omega)
    refine F.ok scTree (fun vs H Q E h => ?_) (fun cdv A outer s H vs Q E hr h => ?_)
    · obtain ⟨a, ks, os, xs, keys, zs, n, rfl, _⟩ := h
      rfl
    · obtain ⟨a, ks, os, xs, keys, zs, n, rfl, n0, n1, hF, eK, neK, hxs, lx1, lx, knd, kok, eO, neO, lz, hzs, q⟩ := h
      have hr1 : Room (k + 1) _ := hr.mono (by omega)
      have hr2 : Room (k + 2) _ := hr.mono (by omega)
      have hr4 : Room (k + 4) _ := hr.mono (by omega)
      have hrG : Room (k + M + 5) _ := hr.mono (by omega)
      have xne : keys ≠ [] := fun z => by rw [z] at lx1; exact absurd lx1 (by decide)
      have lxx := dpLen hxs
      rw [List.length_map] at lxx
      have odk : ∀ k ∈ keys, Od 1 (kyD k) := fun k hk => odKy (kok k hk).2.2
      have ods : ∀ z ∈ zs, Od 0 (PyData.str z) := fun z hz => .str _ (TOk.odS (hzs z hz)).1 (TOk.odS (hzs z hz)).2
      have keysAt : ∀ {H' : Hp}, Kp a H H' → DpAll K H' xs (kysD keys) := fun k => kysTS (tsKp hF k) hxs
      refine ⟨_, PSs.nox (pss_cons (ps_set (i := 4) scTree.nd rfl (.inl rfl) (pe_call GD hr1 (by rfl) gD kD bD .nil pass0 (pa_cons (pv 0) (pa_cons (pe_int) pa_nil)))) (C8.pss_cut (ps_if (PW.pt (pw_or (pt_cmpR op_eq (pv 3) pe_int (nomark _)) (pw_or (pt_cmpR op_eq (pv 4) pe_int (nomark _)) (pw_or1 (PW.pt (pw_and (pt_cmpR (r := rEqD K) (op_eqD hr.units) (pv 1) (pe_lst pa_nil) (nomark _)) (pw_and1 (pt_cmpR (r := rEqD K) (op_eqD hr.units) (pv 2) (pe_lst pa_nil) (nomark _)))))))))
          (pss_one (ps_ret (pe_tup (pa_cons (pe_str) pa_nil)))) pss_nil) (C8.pss_cut (ps_if (PW.pt (pw_or (PW.pt (pw_and (pt_cmpR op_lt (pv 4) pe_int (nomark _)) (pw_and1 (pt_cmpR (r := rNeD K) (op_neD hr.units) (pv 2) (pe_lst pa_nil) (nomark _))))) (pw_or1 (pt_cmpR (r := rEqD K) (op_eqD hr.units) (pv 1) (pe_lst pa_nil) (nomark _)))))
          (pss_cons (ps_set (i := 5) scTree.nd rfl (.inr rfl) (pe_call GP hr2 (by rfl) gP kP bP .nil pass0 (pa_cons (pv 0) (pa_cons (pv 2) pa_nil)))) (pss_cons (ps_setLc (i := 6) (own := [("_law_one", 11)]) (g := gName 11) (by rfl) scTree.nd rfl rfl (sw_true rfl rfl (by decide +kernel) (by decide +kernel)) (pi_list (pv 2)) (blkOk_by (N := nTree) (sc := defScope lTree) (by decide +kernel))
              (fun _ _ _ _ _ => pg_name (i := 11) scTree.nd rfl (.inl rfl) (hf := .inr rfl)) (fun _ _ _ _ _ => pts_one (pt_cmpR (r := rNe) op_ne (pv 11) (pv 5) (nomark _))) (fun _ _ _ _ _ => pv 11)) (pss_one (ps_ret (pe_tup (pa_cons (pe_str) (pa_cons (pv 5) (pa_cons (pe_call GQ hr4 (by rfl) gQ kQ bQ .nil pass0 (pa_cons (pv 0) pa_nil)) (pa_cons (pe_call G hrG (by rfl) gT F.kp bT .nil pass0 (pa_cons (pv 0) (pa_cons (pv 1) (pa_cons (pv 6) (pa_cons (pe_op op_sub (pv 3) pe_int) pa_nil))))) pa_nil))))))))) pss_nil) (C8.pss_cut (ps_par (i := 7) (j := 8) (by rfl) scTree.nd rfl rfl (by decide) rfl rfl (pa_cons (pe_slice sl_list (pe_call GM hr2 (by rfl) gM kM bM .nil pass0 (pa_cons (pv 0) (pa_cons (pv 1) pa_nil))) po_none (po_some (pe_ix ix_list (pe_lst (pa_cons (pe_int) (pa_cons (pe_int) (pa_cons (pe_int) (pa_cons (pe_int) (pa_cons (pe_int) (pa_cons (pe_int) (pa_cons (pe_int) pa_nil)))))))) (pe_call GD hr1 (by rfl) gD kD bD .nil pass0 (pa_cons (pv 0) (pa_cons (pe_int) pa_nil))) (fun _ _ => rfl)))) (pa_cons (pe_lst pa_nil) pa_nil)) (by rfl)) (C8.pss_cut (ps_for PassesOwn.never rfl (pi_range1 (by rfl) B.range (pa_cons (pe_call GD hr1 (by rfl) gD kD bD .nil pass0 (pa_cons (pv 0) (pa_cons (pe_int) pa_nil))) pa_nil)) (pg_name (i := 9) scTree.nd rfl (.inl rfl))
          (pss_cons (ps_set (i := 10) scTree.nd rfl (.inl rfl) (pe_callTy call_tuple_of (by rfl) B.tuple (by decide +kernel) (pa_cons (pe_lc (own := [("_law_key", 12)]) (g := gName 12) rfl scTree.nd (pi_list (pv 7)) (blkOk_by (N := nTree) (sc := defScope lTree) (by decide +kernel))
              (fun _ _ _ _ _ => pg_name (i := 12) scTree.nd rfl (.inl rfl) (hf := .inr rfl)) (fun _ _ _ _ _ => pts_nil) (fun _ _ _ _ _ => pe_call GA hr4 (by rfl) gA kA bA .nil pass0 (pa_cons (pv 0) pa_nil))) pa_nil))) (pss_one (ps_expr (pe_bm PySem.F.plainAttrs_list PySem.F.slot_list_append PySem.F.type_list_append mt_append (pv 8) (pa_cons (pe_tup (pa_cons (pv 10) (pa_cons (pe_call G hrG (by rfl) gT F.kp bT .nil pass0 (pa_cons (pv 0) (pa_cons (pv 1) (pa_cons (pv 2) (pa_cons (pe_op op_sub (pe_op op_sub (pv 3) pe_int) (pe_call GD hr1 (by rfl) gD kD bD .nil pass0 (pa_cons (pv 0) (pa_cons (pv 3) pa_nil)))) pa_nil))))) pa_nil))) pa_nil)))))) (pss_one (ps_ret (pe_tup (pa_cons (pe_str) (pa_cons (pe_callTy call_tuple_of (by rfl) B.tuple (by decide +kernel) (pa_cons (pv 7) pa_nil)) (pa_cons (pe_callTy call_tuple_of (by rfl) B.tuple (by decide +kernel) (pa_cons (pv 8) pa_nil)) (pa_cons (pe_call G hrG (by rfl) gT F.kp bT .nil pass0 (pa_cons (pv 0) (pa_cons (pv 1) (pa_cons (pv 2) (pa_cons (pe_op op_sub (pv 3) pe_int) pa_nil))))) pa_nil)))))))))))), ?_⟩
      refine ⟨.ref a, rfl, a, 9, rfl, hF, by decide, by decide, fun r H1 r0 r1 k1 F1 => ?_⟩
      have eK1 := k1 _ _ neK eK
      have eO1 := k1 _ _ neO eO
      have ret : ∀ {H2 : Hp}, Kp a H H2 → Fd H2 a → (1 ≤ sizeLine ∧ ∀ p, H2 p = none → Q (.ref p) (upd H2 p (.tup [.str "stop"]))) := fun k2 F2 => ⟨by decide, fun p hp => q _ .stop _ (stop hp) (by rw [TrZ]; trivial) (odStop _) (k2.trans (Kp.new hp)) (F2.new hp)⟩
      -- the first if
      refine ⟨fun σ' H' => σ' = tT a ks os n (some (.int r)) none none none none none none none none ∧ 1 ≤ n ∧ Kp a H H' ∧ Fd H' a, ?_, ?_⟩
      · refine ⟨.int n, rfl, rfl, _, rfl, ite2 (fun e => ?_) (fun e => ?_)⟩
        · exact iteT (ret k1 F1)
        have hn1 : 1 ≤ n := by
          have : n ≠ 0 := fun z => e (decide_eq_true (by rw [z]))
          omega
        refine ⟨.int r, rfl, rfl, _, rfl, ite2 (fun e => ?_) (fun e => ?_)⟩
        · exact iteT (ret k1 F1)
        refine ⟨.ref ks, rfl, Nat.zero_le _, fun p hp => ?_⟩
        have s2 := sameUpd (o := .lst []) hp
        refine eqE (n := 1) (by omega) (s2 _ _ eK1) (keysAt (k1.trans (Kp.same s2))) odk upd_same ⟨_, rfl, ?_⟩
        rw [decide_eq_false xne]
        exact iteF ⟨rfl, hn1, k1.trans (Kp.same s2), F1.same s2⟩
      rintro σ2 H2 ⟨rfl, hn1, k2, F2⟩
      -- the second
      refine ⟨fun σ' H' => σ' = tT a ks os n (some (.int r)) none none none none none none none none ∧ Kp a H H' ∧ Fd H' a, ?_, ?_⟩
      · have eK2 := k2 _ _ neK eK
        have eO2 := k2 _ _ neO eO
        have keysNil : ∀ {H3 : Hp} {p : Addr}, Kp a H H3 → Fd H3 a → H3 p = none → ∀ R : VK, R (.bl false) (upd H3 p (.lst [])) → rEqD K (.ref ks) (.ref p) (upd H3 p (.lst [])) R := fun {H3 p} k3 F3 hp R hR => by
          have s3 := sameUpd (o := .lst []) hp
          refine eqE (n := 1) (by omega) (s3 _ _ (k3 _ _ neK eK)) (keysAt (k3.trans (Kp.same s3))) odk upd_same ?_
          rw [decide_eq_false xne]
          exact hR
        refine ⟨.int r, rfl, r, 4, rfl, rfl, _, rfl, ite2 (fun e => ?_) (fun e => ?_)⟩
        · refine ⟨.ref os, rfl, Nat.zero_le _, fun p hp => ?_⟩
          have s3 := sameUpd (o := .lst []) hp
          refine neE (e := PyData.str) (n := 0) (by omega) (s3 _ _ eO2) (strsDp zs) ods upd_same ⟨_, rfl, ?_⟩
          have k3 := k2.trans (Kp.same s3)
          have F3 := F2.same s3
          have eO3 := s3 _ _ eO2
          generalize upd H2 p (.lst []) = H3 at *
          by_cases z0 : zs = []
          · rw [decide_eq_true z0]
            refine iteF ⟨.ref ks, rfl, Nat.zero_le _, fun p4 hp4 => keysNil k3 F3 hp4 _ ⟨_, rfl, iteF ⟨rfl, k3.trans (Kp.new hp4), F3.new hp4⟩⟩⟩
          rw [decide_eq_false z0]
          refine iteT (iteT ?_)
          -- a write
          have zpos : 0 < zs.length := List.length_pos_iff.mpr z0
          refine ⟨.ref a, rfl, .ref os, rfl, a, os, zs.map V.str, rfl, F3, .inl (.inl eO3), neO, by rw [List.length_map]; exact zpos, by rw [List.length_map]; omega, fun i v H4 hv4 k4 F4 => ?_⟩
          obtain ⟨z, hzm, rfl⟩ := List.mem_map.mp (List.mem_of_getElem? hv4)
          have tz := hzs z hzm
          have eO4 := k4 _ _ neO eO3
          have k04 := k3.trans k4
          refine ⟨.ref os, rfl, os, rfl, ⟨_, .inl (.inl eO4)⟩, fun D hD => ?_⟩
          have nDo : D ≠ os := fun y => by rw [y, eO4] at hD; cases hD
          refine lcJ (n := zs.length) (vs := [11]) (fun i H' => At H4 D (((zs.take i).filter fun y => decide (y ≠ z)).map V.str) H') ⟨sameUpd hD, upd_same⟩
            (fun i H' lt h => ⟨zs.map V.str, V.str zs[i], .inl (.inl (h.1 _ _ eO4)), by rw [List.getElem?_map, List.getElem?_eq_getElem lt]; rfl⟩) (fun H' h => ⟨zs.map V.str, .inl (.inl (h.1 _ _ eO4)), by rw [List.length_map]; exact Nat.le_refl _⟩) (fun i H' x H5 lt h y => ?_) (fun H' h => ?_)
          · obtain ⟨rfl, y⟩ := y
            have ex := y _ (.inl (.inl (h.1 _ _ eO4)))
            rw [List.getElem?_map, List.getElem?_eq_getElem lt] at ex
            obtain rfl : V.str zs[i] = x := Option.some.inj ex
            have et : (zs.take (i + 1)).filter (fun y => decide (y ≠ z)) = (zs.take i).filter (fun y => decide (y ≠ z)) ++ (if zs[i] ≠ z then [zs[i]] else []) := by
              rw [List.take_succ_eq_append_getElem lt, List.filter_append, List.filter_cons]
              by_cases e : zs[i] = z
              · rw [if_neg (by simp [e]), if_neg (by simp [e])]
                rfl
              · rw [if_pos (by simp [e]), if_pos e]
                rfl
            have ln := List.length_filter_le (fun y => decide (y ≠ z)) (zs.take i)
            rw [List.length_take] at ln
            refine ⟨rfl, .str zs[i], rfl, .str z, rfl, rfl, _, rfl, ite2 (fun e => ?_) (fun e => ?_)⟩
            · have ne : zs[i] ≠ z := fun z2 => by rw [z2] at e; simp at e
              rw [if_pos ne] at et
              obtain ⟨g1, g2⟩ := h.put (ys := ((zs.take (i + 1)).filter fun y => decide (y ≠ z)).map V.str) hD (Same.refl _)
              refine ⟨.str zs[i], rfl, _, g1, by rw [List.length_map, sizeLine_eq]; omega, ?_⟩
              rw [et, List.map_append] at g2
              rw [et, List.map_append]
              exact g2
            · have e2 : zs[i] = z := Decidable.byContradiction fun ne => e (by simp [ne])
              rw [if_neg (fun n => n e2), List.append_nil] at et
              rw [et]
              exact h
          rw [List.take_length] at h
          have hat := h
          have lf := List.length_filter_le (fun y => decide (y ≠ z)) zs
          have F5 := F4.same hat.1
          have k05 := k04.trans (Kp.same hat.1)
          have nDa : D ≠ a := fdNe F4 hD
          refine ⟨.str z, rfl, .ref a, rfl, a, rfl, F5, fun v6 ps H6 lps hps hv6 k6 F6 => ?_⟩
          have k06 := k05.trans k6
          refine ⟨.ref a, rfl, .ref ks, rfl, .ref D, rfl, .int n, rfl, n, 1, rfl, rfl, a, ks, D, xs, keys, zs.filter (fun y => decide (y ≠ z)), n - 1, rfl, by omega, by omega, F6, k06 _ _ neK eK, neK, keysAt k06, lx1, lx, knd, kok, k6 _ _ nDa hat.2, nDa, by omega, fun y hy => hzs y (List.mem_filter.mp hy).1, fun v7 t7 H7 hv7 z7 o7 k7 F7 => ⟨(by show 4 ≤ sizeLine; decide), fun p8 hp8 => ?_⟩⟩
          have s8 := sameUpd (o := .tup [.str "write", .str z, v6, v7]) hp8
          refine q _ (.wr z ps t7) _ ?_ ?_ (((odWrT tz (by omega) hps o7 (by omega) : Od (3 * M + 2 + 1) _)).up (by omega)) ((k06.trans k7).trans (Kp.same s8)) (F7.same s8)
          · rw [trD]
            refine .tup (.inl (.inl upd_same)) (.cons (.str _) (.cons (.str _) (.cons ?_ (.cons (dpSame s8 _ _ hv7) .nil))))
            exact dpSame s8 _ _ (dpTS (tsKp F6 k7) (plPts ps) _ hv6)
          · rw [TrZ]
            exact ⟨⟨hzm, by omega, hps⟩, z7⟩
        · refine iteF ⟨.ref ks, rfl, Nat.zero_le _, fun p4 hp4 => keysNil k2 F2 hp4 _ ⟨_, rfl, iteF ⟨rfl, k2.trans (Kp.new hp4), F2.new hp4⟩⟩⟩
      rintro σ3 H3 ⟨rfl, k3, F3⟩
      have eK3 := k3 _ _ neK eK
      -- the keys chosen
      refine ⟨fun σ' H' => ∃ C U cs chosen, σ' = tT a ks os n (some (.int r)) none none (some (.ref C)) (some (.ref U)) none none none none ∧ H' C = some (.lst cs) ∧ DpAll K H' cs (kysD chosen) ∧ 1 ≤ chosen.length ∧ chosen.length ≤ 4 ∧ chosen.Nodup ∧ (∀ k ∈ chosen, k ∈ keys) ∧ H' U = some (.lst []) ∧ C ≠ a ∧ U ≠ a ∧ C ≠ U ∧ H3 U = none ∧ Kp a H3 H' ∧ Fd H' a, ?_, ?_⟩
      · refine ⟨.ref a, rfl, .ref ks, rfl, a, ks, xs, keys, rfl, F3, .inl (.inl eK3), lx, keysAt k3, fun k hk => (odk k hk).up (by omega), fun p ys es H4 np k4 F4 ep hv4 perm => ?_⟩
        have pa : p ≠ a := fdNe F3 np
        refine ⟨(by show 7 ≤ sizeLine; decide), fun L hL => ?_⟩
        have s5 := sameUpd (o := .lst [.int 1, .int 1, .int 1, .int 2, .int 2, .int 3, .int 4]) hL
        have eL : upd H4 L (.lst [.int 1, .int 1, .int 1, .int 2, .int 2, .int 3, .int 4]) L = some (.lst [.int 1, .int 1, .int 1, .int 2, .int 2, .int 3, .int 4]) := upd_same
        have F5 := F4.same s5
        have nLa := fdNe F4 hL
        have ep5 := s5 _ _ ep
        generalize upd H4 L (.lst [.int 1, .int 1, .int 1, .int 2, .int 2, .int 3, .int 4]) = H5 at *
        refine ⟨.ref a, rfl, a, 7, rfl, F5, by decide, by decide, fun r6 H6 r60 r61 k6 F6 => ?_⟩
        obtain ⟨j, hj, hj1, hj4⟩ : ∃ j : Nat, atI [V.int 1, .int 1, .int 1, .int 2, .int 2, .int 3, .int 4] r6 = some (.int (j : Int)) ∧ 1 ≤ j ∧ j ≤ 4 := by
          have hc : r6 = 0 ∨ r6 = 1 ∨ r6 = 2 ∨ r6 = 3 ∨ r6 = 4 ∨ r6 = 5 ∨ r6 = 6 := by omega
          rcases hc with h | h | h | h | h | h | h <;> rw [h]
          · exact ⟨1, rfl, by omega, by omega⟩
          · exact ⟨1, rfl, by omega, by omega⟩
          · exact ⟨1, rfl, by omega, by omega⟩
          · exact ⟨2, rfl, by omega, by omega⟩
          · exact ⟨2, rfl, by omega, by omega⟩
          · exact ⟨3, rfl, by omega, by omega⟩
          · exact ⟨4, rfl, by omega, by omega⟩
        refine ⟨L, _, r6, .int (j : Int), rfl, rfl, .inl (.inl (k6 _ _ nLa eL)), hj, (j : Int), rfl, p, ys, rfl, .inl (.inl (k6 _ _ pa ep5)), fun C hC => ⟨Nat.zero_le _, fun U hU => ⟨_, _, rfl, ?_⟩⟩⟩
        have s7 := sameUpd (o := .lst (cutV ys none (some (j : Int)))) hC
        have s8 := sameUpd (o := .lst []) hU
        have F8 := (F6.same s7).same s8
        have Ca := fdNe F6 hC
        have Ua := fdNe (F6.same s7) hU
        have kA : Kp a H3 (upd (upd H6 C (.lst (cutV ys none (some (j : Int))))) U (.lst [])) := ((k4.trans (Kp.same s5)).trans k6).trans (Kp.same (s7.trans s8))
        have les := perm.length_eq
        have dp8 : ∀ G, TS H4 G → DpAll K G (cutV ys none (some (j : Int))) (kysD (es.take j)) := fun G t => by
          rw [cutTake, show kysD (es.take j) = (kysD es).take j from List.map_take]
          exact dpTake (kysTS t hv4) j
        refine ⟨C, U, _, es.take j, rfl, s8 _ _ upd_same, dp8 _ (((TS.same s5).trans (tsKp F5 k6)).trans (TS.same (s7.trans s8))), by rw [List.length_take]; omega, by rw [List.length_take]; omega, (perm.nodup_iff.mpr knd).sublist (List.take_sublist _ _), fun k hk => perm.mem_iff.mp (List.mem_of_mem_take hk), upd_same, Ca, Ua, fun z => (by rw [← z, upd_same] at hU; cases hU), ?_, kA, F8⟩
        cases e : H3 U with
        | none => rfl
        | some o => 
          have := s7 _ _ (k6 _ _ Ua (s5 _ _ (k4 _ _ Ua e)))
          rw [this] at hU
          cases hU
      rintro σ4 H4 ⟨C, U, cs, chosen, rfl, eC, hcs, lc1, lc, cnd, csub, eU, Ca, Ua, CU, nU3, k4, F4⟩
      have lcc := dpLen hcs
      rw [List.length_map] at lcc
      -- the cases
      refine ⟨fun σ' H' => ∃ x9 x10 rs cases, σ' = tT a ks os n (some (.int r)) none none (some (.ref C)) (some (.ref U)) x9 x10 none none ∧ H' C = some (.lst cs) ∧ H' U = some (.lst rs) ∧ cases.length ≤ 2 ∧ DpAll K H' cs (kysD chosen) ∧ DpAll K H' rs (csD cases) ∧ CsZ zs chosen.length cases ∧ (∀ c ∈ cases, Od (3 * M + 3) (.tuple [rowD c.1, trD c.2])) ∧ Kp a H3 H' ∧ Fd H' a, ?_, ?_⟩
      · refine ⟨.ref a, rfl, a, 3, rfl, F4, by decide, by decide, fun r5 H5 r50 r51 k5 F5 => ⟨r5, rfl, by omega, by omega, ?_⟩⟩
        obtain ⟨m, rfl⟩ : ∃ m : Nat, r5 = (m : Int) := ⟨r5.toNat, by omega⟩
        rw [Int.toNat_natCast]
        refine forJ (n := m) (fun i σ' H' => ∃ x9 x10 rs cases, σ' = tT a ks os n (some (.int r)) none none (some (.ref C)) (some (.ref U)) x9 x10 none none ∧ H' C = some (.lst cs) ∧ H' U = some (.lst rs) ∧ cases.length = i ∧ DpAll K H' cs (kysD chosen) ∧ DpAll K H' rs (csD cases) ∧ CsZ zs chosen.length cases ∧ (∀ c ∈ cases, Od (3 * M + 3) (.tuple [rowD c.1, trD c.2])) ∧ Kp a H3 H' ∧ Fd H' a)
          ⟨none, none, [], [], rfl, k5 _ _ Ca eC, k5 _ _ Ua eU, rfl, kysTS (tsKp F4 k5) hcs, .nil, (by rw [CsZ]; trivial), fun c hc => absurd hc (by simp), k4.trans k5, F5⟩ (fun i σ' H' lt _ => lt) (fun σ' H' _ => Nat.le_refl _) (fun i σ' H6 x H7 lt h y => ?_) (fun σ' H' h => ?_)
        · obtain ⟨rfl, rfl⟩ := y
          obtain ⟨x9, x10, rs, cases, rfl, eC6, eU6, lr, hc6, hr6, cz6, od6, k6, F6⟩ := h
          have lrr := dpLen hr6
          rw [csD_map, List.length_map] at lrr
          refine ⟨.ref C, rfl, C, rfl, ⟨_, .inl (.inl eC6)⟩, fun D hD => ?_⟩
          refine lcFeedX (m := cs.length) (fun a => ∀ z, a = some z → TOk z) hD F6 (by omega) (fun v => rfl) (fun i H lt k => ⟨cs, _, .inl (.inl (k _ _ Ca eC6)), List.getElem?_eq_getElem (by omega)⟩) (fun H k => ⟨cs, .inl (.inl (k _ _ Ca eC6)), by omega⟩) (fun i x H8 H9 lt k8 F8 y => ?_) (fun H8 row e8 l8 hv8 k8 F8 => ?_)
          · obtain ⟨rfl, y⟩ := y
            refine ⟨rfl, fun R hR => ?_⟩
            refine ⟨.ref a, rfl, a, rfl, F8, fun v H10 hv10 k10 F10 => ?_⟩
            rcases hv10 with rfl | ⟨z, rfl, tz⟩
            · exact hR none H10 (fun z e => by cases e) k10 F10
            · exact hR (some z) H10 (fun y e => by cases e; exact tz) k10 F10
          have rok : row.length = chosen.length ∧ ∀ z, some z ∈ row → TOk z := ⟨by omega, fun z hz => hv8 _ hz z rfl⟩
          refine ⟨D, row.map vA, rfl, .inl ⟨.inl (.inl e8), fun T hT => ?_⟩⟩
          have sT := sameUpd (o := .tup (row.map vA)) hT
          have vT : Dp K (upd H8 T (.tup (row.map vA))) (.ref T) (rowD row) := rowDp (.inl (.inl upd_same))
          have F9 := F8.same sT
          have k9 := k8.trans (Kp.same sT)
          generalize upd H8 T (.tup (row.map vA)) = H9 at *
          have eU9 := k9 _ _ Ua eU6
          have k39 := k6.trans k9
          refine ⟨.ref U, rfl, .inl ⟨rfl, _, .inl (.inl eU9)⟩, .ref T, rfl, .ref a, rfl, .ref ks, rfl, .ref os, rfl, .int n, rfl, n, 1, rfl, rfl, .ref a, rfl, .int n, rfl, a, n, rfl, F9, by omega, by omega, fun r10 H10 r100 r101 k10 F10 => ⟨n - 1, r10, rfl, rfl, ?_⟩⟩
          have k310 := (k3.trans k39).trans k10
          refine ⟨a, ks, os, xs, keys, zs, n - 1 - r10, rfl, by omega, by omega, F10, k310 _ _ neK eK, neK, keysAt k310, lx1, lx, knd, kok, k310 _ _ neO eO, neO, lz, hzs, fun v11 t11 H11 hv11 z11 o11 k11 F11 => ⟨(by show 2 ≤ sizeLine; decide), fun p hp => ?_⟩⟩
          have sp := sameUpd (o := .tup [.ref T, v11]) hp
          have kA : Kp a H9 (upd H11 p (.tup [.ref T, v11])) := (k10.trans k11).trans (Kp.same sp)
          have vp : Dp K (upd H11 p (.tup [.ref T, v11])) (.ref p) (.tuple [rowD row, trD t11]) := .tup (.inl (.inl upd_same)) (.cons (dpSame sp _ _ (dpTS (tsKp F9 (k10.trans k11)) (plRow _) _ vT)) (.cons (dpSame sp _ _ hv11) .nil))
          have FA := F11.same sp
          generalize upd H11 p (.tup [.ref T, v11]) = H12 at *
          have eU12 := kA _ _ Ua eU9
          have eC12 := kA _ _ Ca (k9 _ _ Ca eC6)
          have kt := TS.lst (o := .lst (rs ++ [.ref p])) eU12
          have ktA : TS H7 H12 := tsKp F6 (k9.trans kA)
          refine ⟨U, rs, .ref p, rfl, rfl, eU12, by rw [sizeLine_eq]; omega, ?_⟩
          refine ⟨_, _, rs ++ [.ref p], cases ++ [(row, t11)], rfl, by rw [upd_ne CU]; exact eC12, upd_same, by rw [List.length_append, lr]; rfl, kysTS (ktA.trans kt) hc6, ?_, csZ_snoc rok z11 cz6, fun c hc => ?_, fun b o nb hb => ?_, fdOther FA Ua⟩
          · rw [csSnoc]
            refine dpSnoc ?_ (csTS (ktA.trans kt) hr6)
            obtain ⟨m, pl⟩ := plCase (row, t11)
            exact dpTS kt pl _ vp
          · rcases List.mem_append.mp hc with z | z
            · exact od6 c z
            · rw [List.mem_singleton.mp z]
              exact odCase ⟨by rw [rok.1]; exact lc, rok.2⟩ o11 (by omega)
          · rw [upd_ne (ne_of_none hb nU3)]
            exact kA _ _ nb (k39 _ _ nb hb)
        · obtain ⟨x9, x10, rs, cases, rfl, eC6, eU6, lr, hc6, hr6, cz6, od6, k6, F6⟩ := h
          exact ⟨x9, x10, rs, cases, rfl, eC6, eU6, by omega, hc6, hr6, cz6, od6, k6, F6⟩
      rintro σ5 H5 ⟨x9, x10, rs, cases, rfl, eC5, eU5, lr, hc5, hr5, cz5, od5, k5, F5⟩
      refine ⟨.ref C, rfl, C, cs, rfl, .inl ⟨.inl (.inl eC5), fun T1 hT1 => ?_⟩⟩
      have s6 := sameUpd (o := .tup cs) hT1
      have v6 : Dp K (upd H5 T1 (.tup cs)) (.ref T1) (.tuple (kysD chosen)) := .tup (.inl (.inl upd_same)) (dpAllSame s6 _ _ hc5)
      have F6 := F5.same s6
      have eU6 := s6 _ _ eU5
      have hr6 : DpAll K (upd H5 T1 (.tup cs)) rs (csD cases) := dpAllSame s6 _ _ hr5
      generalize upd H5 T1 (.tup cs) = H6 at *
      refine ⟨.ref U, rfl, U, rs, rfl, .inl ⟨.inl (.inl eU6), fun T2 hT2 => ?_⟩⟩
      have s7 := sameUpd (o := .tup rs) hT2
      have v7 : Dp K (upd H6 T2 (.tup rs)) (.ref T2) (.tuple (csD cases)) := .tup (.inl (.inl upd_same)) (dpAllSame s7 _ _ hr6)
      have F7 := F6.same s7
      have k7 : Kp a H3 (upd H6 T2 (.tup rs)) := k5.trans (Kp.same (s6.trans s7))
      have w6 := dpSame s7 _ _ v6
      generalize upd H6 T2 (.tup rs) = H7 at *
      have k07 := k3.trans k7
      refine ⟨.ref a, rfl, .ref ks, rfl, .ref os, rfl, .int n, rfl, n, 1, rfl, rfl, a, ks, os, xs, keys, zs, n - 1, rfl, by omega, by omega, F7, k07 _ _ neK eK, neK, keysAt k07, lx1, lx, knd, kok, k07 _ _ neO eO, neO, lz, hzs, fun v8 t8 H8 hv8 z8 o8 k8 F8 => ⟨(by show 4 ≤ sizeLine; decide), fun p9 hp9 => ?_⟩⟩
      have s9 := sameUpd (o := .tup [.str "read", .ref T1, .ref T2, v8]) hp9
      have t8T := tsKp F7 k8
      have plC : ∃ m, Pl m (.tuple (csD cases)) := by
        obtain ⟨m, pl⟩ := plTr (.rd [] cases .stop)
        rw [trD] at pl
        cases pl with
        | @tup n _ h => exact ⟨n, h (.tuple (csD cases)) (by simp)⟩
      obtain ⟨mC, plC⟩ := plC
      have plK : Pl 2 (.tuple (kysD chosen)) := .tup fun d hd => by
        obtain ⟨k, _, rfl⟩ := List.mem_map.mp hd
        exact plKy k
      refine q _ (.rd chosen cases t8) _ ?_ ?_ (((odRdT (n := 3 * M + 3) (by omega) (fun k hk => (kok k (csub k hk)).2.2) (by omega) od5 (o8.up (by omega)) (by omega))).up (by omega)) ((k07.trans k8).trans (Kp.same s9)) (F8.same s9)
      · rw [trD]
        exact .tup (.inl (.inl upd_same)) (.cons (.str _) (.cons (dpSame s9 _ _ (dpTS t8T plK _ w6)) (.cons (dpSame s9 _ _ (dpTS t8T plC _ v7)) (.cons (dpSame s9 _ _ hv8) .nil))))
      · rw [TrZ]
        exact ⟨⟨⟨lc1, lc, cnd, fun k hk => ⟨(kok k (csub k hk)).1, (kok k (csub k hk)).2.1⟩⟩, by omega⟩, cz5, z8⟩
end
end TRE

set_option Elab.async false
set_option linter.all false
set_option maxRecDepth 100000
set_option maxHeartbeats 8000000
/-! the recipes of a drawn world: a dict of trees -/
namespace TRE
open PySem PySem.Spec PyProof.Rows L2 ND KS KS.La PLC
abbrev lMade : Stmt := top 48
inductive RK (K : PySem.W.Frag) (H : Hp) : List (Key × V) → List (Str × Tr) → Prop
  | nil : RK K H [] []
  | cons {z : Str} {v : V} {t : Tr} {kvs : List (Key × V)} {L : List (Str × Tr)} (h : Dp K H v (trD t)) (r : RK K H kvs L) : RK K H ((.inr z, v) :: kvs) ((z, t) :: L)
theorem RK.ts {K : PySem.W.Frag} {H H' : Hp} (k : TS H H') {kvs : List (Key × V)} {L : List (Str × Tr)} (h : RK K H kvs L) : RK K H' kvs L := by
  induction h with
  | nil => exact .nil
  | cons h _ ih => exact .cons (trTS k _ _ h) ih
theorem RK.len {K : PySem.W.Frag} {H : Hp} {kvs : List (Key × V)} {L : List (Str × Tr)} (h : RK K H kvs L) : kvs.length = L.length := by
  induction h with
  | nil => rfl
  | cons _ _ ih => rw [List.length_cons, List.length_cons, ih]
theorem RK.snoc {K : PySem.W.Frag} {H : Hp} {kvs : List (Key × V)} {L : List (Str × Tr)} {z : Str} {v : V} {t : Tr} (h : RK K H kvs L) (hv : Dp K H v (trD t)) : RK K H (kvs ++ [(.inr z, v)]) (L ++ [(z, t)]) := by
  induction h with
  | nil => exact .cons hv .nil
  | cons h _ ih => exact .cons h ih
theorem RK.none {K : PySem.W.Frag} {H : Hp} {kvs : List (Key × V)} {L : List (Str × Tr)} {z : Str} (h : RK K H kvs L) (hz : z ∉ L.map (·.1)) : valV kvs (.inr z) = none := by
  induction h with
  | nil => rfl
  | @cons y v t kvs L h _ ih =>
    rw [valV_neg fun e => hz (by rw [← Sum.inr.inj e]; exact List.mem_cons_self)]
    exact ih fun e => hz (List.mem_cons_of_mem _ e)
theorem RK.some {K : PySem.W.Frag} {H : Hp} {kvs : List (Key × V)} {L : List (Str × Tr)} {z : Str} (h : RK K H kvs L) (hz : z ∈ L.map (·.1)) : ∃ v t, valV kvs (.inr z) = some v ∧ Dp K H v (trD t) ∧ (z, t) ∈ L := by
  induction h with
  | nil => exact absurd hz (by simp)
  | @cons y v t kvs L h _ ih =>
    by_cases e : y = z
    · subst e
      exact ⟨v, t, valV_pos rfl, h, List.mem_cons_self⟩
    · rw [valV_neg fun e2 => e (Sum.inr.inj e2)]
      have : z ∈ L.map (·.1) := by
        rcases List.mem_cons.mp hz with y2 | y2
        · exact absurd y2.symm e
        · exact y2
      obtain ⟨v2, t2, a, b, c⟩ := ih this
      exact ⟨v2, t2, a, b, List.mem_cons_of_mem _ c⟩
theorem putNew {kvs : List (Key × V)} {k : Key} {v : V} (h : valV kvs k = none) : putK kvs k v = kvs ++ [(k, v)] := by
  unfold putK
  rw [valV_any, h]
  rfl
def goodT (t : Tr) : Prop := (∃ zs, (∀ z ∈ zs, okN z = true) ∧ TrZ zs t) ∧ Od 50 (trD t)
def RecOk (L : List (Str × Tr)) : Prop := (L.map (·.1)).Nodup ∧ ∀ p ∈ L, TOk p.1 ∧ goodT p.2
theorem RecOk.snoc {L : List (Str × Tr)} {z : Str} {t : Tr} (h : RecOk L) (hz : z ∉ L.map (·.1)) (tz : TOk z) (g : goodT t) : RecOk (L ++ [(z, t)]) := by
  refine ⟨?_, fun p hp => ?_⟩
  · rw [List.map_append]
    refine List.nodup_append.mpr ⟨h.1, by simp, fun u hu v hv e => ?_⟩
    rw [List.map_cons, List.map_nil, List.mem_singleton] at hv
    subst hv
    exact hz (e ▸ hu)
  · rcases List.mem_append.mp hp with y | y
    · exact h.2 p y
    · rw [List.mem_singleton.mp y]
      exact ⟨tz, g⟩
def callsL : List Str := ["make", "", "r 2", "Mend!", "m"]
theorem callsOk : ∀ z ∈ callsL, TOk z := by unfold callsL; decide +kernel
theorem outsOk : ∀ z ∈ outsL, okN z = true ∧ TOk z := by unfold outsL; decide +kernel
/-- all but two stand -/
def Kd (f d : Addr) (H H' : Hp) : Prop := ∀ b o, b ≠ f → b ≠ d → H b = some o → H' b = some o
theorem Kd.kp {f d : Addr} {H H' : Hp} (k : Kp f H H') : Kd f d H H' := fun b o n _ h => k b o n h
theorem Kd.trans {f d : Addr} {H H1 H2 : Hp} (a : Kd f d H H1) (b : Kd f d H1 H2) : Kd f d H H2 := fun c o n1 n2 h => b c o n1 n2 (a c o n1 n2 h)
theorem Kd.put {f d : Addr} {H : Hp} {o : HO} : Kd f d H (upd H d o) := fun b u _ n h => by rw [upd_ne n]; exact h
theorem tsDict {d : Addr} {H : Hp} {kvs : List (Key × V)} {o : HO} (h : H d = some (.dK kvs)) : TS H (upd H d o) := fun a u e t => by
  rw [upd_ne fun z => ?_]
  · exact e
  · rw [z, h] at e
    have e2 := Option.some.inj e
    rcases t with ⟨xs, rfl⟩ | ⟨p, xs, rfl⟩ <;> cases e2
theorem dNe {H : Hp} {f d : Addr} {kvs : List (Key × V)} (h : Fd H f) (e : H d = some (.dK kvs)) : d ≠ f := fun z => by
  obtain ⟨x, y, e2, _⟩ := h
  rw [z, e2] at e
  cases e
def spMade (K : PySem.W.Frag) : Sp := fun vs H Q _ => ∃ (f nr d : Addr) (nms : List Str) (kvs : List (Key × V)) (L : List (Str × Tr)), vs = [.ref f, .ref nr, .ref d] ∧ Fd H f ∧ H nr = some (.lst (nms.map V.str)) ∧ nr ≠ f ∧ 1 ≤ nms.length ∧ nms.length ≤ 12 ∧ nms.Nodup ∧ (∀ x ∈ nms, okN x = true ∧ TOk x) ∧
  H d = some (.dK kvs) ∧ RK K H kvs L ∧ RecOk L ∧ (∀ p ∈ L, p.1 ∈ callsL) ∧ L.length ≤ 100 ∧
  ∀ v kvs' L' H', H' d = some (.dK kvs') → RK K H' kvs' L' → RecOk L' → (∀ p ∈ L', p.1 ∈ callsL) → L'.length ≤ L.length + 1 → Kd f d H H' → Fd H' f → Q v H'
abbrev nMade : List Str := ["_law_feed", "_law_near", "_law_recipes", "_law_call", "_law_arguments", "_law_turn"]
section
variable {P : Program} {w : World} {K : PySem.W.Frag} {mg : Str → Option Value} {base : Heap} {f : Addr} {fd : FuncData}
theorem scMade : FnScope nMade ["_law_feed", "_law_near", "_law_recipes"] (defScope lMade) := ⟨rfl, rfl, rfl, by decide +kernel, rfl, by decide +kernel, by decide +kernel⟩
theorem okMade {k : Nat} (F : FnP K "_law_drawn_made" lMade f fd) (B : Bn mg) (D : Has P w K mg base (k + 1) "_law_draw" ["_law_feed", "_law_many"] spDraw) (Pk : Has P w K mg base (k + 2) "_law_pick" ["_law_feed", "_law_items"] (spPick K)) (Ca : Has P w K mg base (k + 1) "_law_calls" [] spCalls)
    (Ke : Has P w K mg base (k + 2) "_law_some_keys" ["_law_feed", "_law_names"] spKeys) (Ou : Has P w K mg base (k + 1) "_law_outs" [] spOutsT) (Tx : Has P w K mg base (k + 3) "_law_some_text" ["_law_feed"] spText) (Tr' : Has P w K mg base (k + 11) "_law_some_tree" pTree (spTree K 6)) :
    FnOk P w K mg base CX0 (k + 12) f fd ["_law_feed", "_law_near", "_law_recipes"] (spMade K) := by
  obtain ⟨fD, fdD, gD, kD, bD, GD⟩ := D.ex
  obtain ⟨fP, fdP, gP, kP, bP, GP⟩ := Pk.ex
  obtain ⟨fC, fdC, gC, kC, bC, GC⟩ := Ca.ex
  obtain ⟨fK, fdK, gK, kK, bK, GK⟩ := Ke.ex
  obtain ⟨fO, fdO, gO, kO, bO, GO⟩ := Ou.ex
  obtain ⟨fX, fdX, gX, kX, bX, GX⟩ := Tx.ex
  obtain ⟨fT, fdT, gT, kT, bT, GT⟩ := Tr'.ex
  refine F.ok scMade (fun vs H Q E h => ?_) (fun cdv A outer s H vs Q E hr h => ?_)
  · obtain ⟨a, nr, d, nms, kvs, L, rfl, _⟩ := h
    rfl
  · obtain ⟨a, nr, d, nms, kvs, L, rfl, hF, en, nn, ln1, ln, nd, nok, ed, rk, rok, rca, lL, q⟩ := h
    have hr1 : Room (k + 1) _ := hr.mono (by omega)
    have hr2 : Room (k + 2) _ := hr.mono (by omega)
    have hr3 : Room (k + 3) _ := hr.mono (by omega)
    have hu1 : (A.deeper (envOfC "_law_drawn_made" (defScope lMade) s.heap.objs.size f cdv)).units + 1 < cLine := by
      have := hr.units
      omega
    have nd' := dNe hF ed
    refine ⟨_, PSs.nox (C8.pss_cut (ps_set (i := 3) scMade.nd rfl (.inl rfl) (pe_call GP hr2 (by rfl) gP kP bP .nil pass0 (pa_cons (pv 0) (pa_cons (pe_call0 GC hr1 (by rfl) gC kC bC .nil pass0) pa_nil)))) (C8.pss_cut (ps_if (PW.pt (pw_and (pt_cmp (pc_dnotin hu1 (pv 3) (pv 2))) (pw_and1 (pt_cmpR op_gt (pe_call GD hr1 (by rfl) gD kD bD .nil pass0 (pa_cons (pv 0) (pa_cons (pe_int) pa_nil))) pe_int (nomark _)))))
        (pss_one (ps_dput hu1 (pv 2) (pv 3) (pe_call GT hr (by rfl) gT kT bT .nil pass0 (pa_cons (pv 0) (pa_cons (pe_call GK hr2 (by rfl) gK kK bK .nil pass0 (pa_cons (pv 0) (pa_cons (pv 1) pa_nil))) (pa_cons (pe_call0 GO hr1 (by rfl) gO kO bO .nil pass0) (pa_cons (pe_op op_add pe_int (pe_call GD hr1 (by rfl) gD kD bD .nil pass0 (pa_cons (pv 0) (pa_cons (pe_int) pa_nil)))) pa_nil))))) rfl)) pss_nil) (C8.pss_cut (ps_set (i := 4) scMade.nd rfl (.inl rfl) (pe_callTy (r := rTup K) (T := "tuple") call_tuple_of (by rfl) B.tuple (by decide +kernel) (pa_cons (pe_lc (own := [("_law_turn", 5)]) (g := gName 5) rfl scMade.nd (pi_range1 (by rfl) B.range (pa_cons (pe_ix (r := rIxL K) ix_list (pe_lst (pa_cons (pe_int) (pa_cons (pe_int) (pa_cons (pe_int) (pa_cons (pe_int) (pa_cons (pe_int) pa_nil)))))) (pe_call GD hr1 (by rfl) gD kD bD .nil pass0 (pa_cons (pv 0) (pa_cons (pe_int) pa_nil))) (fun _ _ => rfl)) pa_nil)) (blkOk_by (N := nMade) (sc := defScope lMade) (by decide +kernel))
          (fun _ _ _ _ _ => pg_name (i := 5) scMade.nd rfl (.inl rfl) (hf := .inr rfl)) (fun _ _ _ _ _ => pts_nil) (fun _ _ _ _ _ => pe_call GX hr3 (by rfl) gX kX bX .nil pass0 (pa_cons (pv 0) pa_nil))) pa_nil))) (pss_cons (ps_if (pt_cmpR op_eq (pe_call GD hr1 (by rfl) gD kD bD .nil pass0 (pa_cons (pv 0) (pa_cons (pe_int) pa_nil))) pe_int (nomark _))
        (pss_one (ps_ret (pe_tup (pa_cons (pe_str) (pa_cons (pe_tup (pa_cons (pe_call GP hr2 (by rfl) gP kP bP .nil pass0 (pa_cons (pv 0) (pa_cons (pv 1) pa_nil))) (pa_cons (pe_call GP hr2 (by rfl) gP kP bP .nil pass0 (pa_cons (pv 0) (pa_cons (pe_call0 GO hr1 (by rfl) gO kO bO .nil pass0) pa_nil))) pa_nil))) (pa_cons (pv 4) pa_nil)))))) pss_nil) (pss_one (ps_ret (pe_tup (pa_cons (pe_str) (pa_cons (pv 3) (pa_cons (pv 4) pa_nil)))))))))), ?_⟩
    -- the call
    refine ⟨fun σ' H' => ∃ c, σ' = [some (.ref a), some (.ref nr), some (.ref d), some (.str c), none, none] ∧ c ∈ callsL ∧ Kp a H H' ∧ Fd H' a, ?_, ?_⟩
    · refine ⟨.ref a, rfl, rfl, fun p hp => ?_⟩
      have s1 := sameUpd (o := .lst [.str "make", .str "", .str "r 2", .str "Mend!", .str "m"]) hp
      have F1 := hF.same s1
      have np := fdNe hF hp
      refine ⟨a, p, _, rfl, F1, .inl (.inl upd_same), np, by decide, by decide, fun i v H2 hv k2 F2 => ?_⟩
      obtain ⟨c, hc, rfl⟩ : ∃ c, c ∈ callsL ∧ v = .str c := by
        have hm : v ∈ callsL.map V.str := List.mem_of_getElem? hv
        obtain ⟨c, hc, e⟩ := List.mem_map.mp hm
        exact ⟨c, hc, e.symm⟩
      exact ⟨c, rfl, hc, (Kp.same s1).trans k2, F2⟩
    rintro σ1 H1 ⟨c, rfl, hc, k1, F1⟩
    have tc := callsOk c hc
    have ed1 := k1 _ _ nd' ed
    have rk1 := rk.ts (tsKp hF k1)
    -- a new recipe
    refine ⟨fun σ' H' => σ' = [some (.ref a), some (.ref nr), some (.ref d), some (.str c), none, none] ∧ ∃ kvs' L', H' d = some (.dK kvs') ∧ RK K H' kvs' L' ∧ RecOk L' ∧ (∀ p ∈ L', p.1 ∈ callsL) ∧ L'.length ≤ L.length + 1 ∧ Kd a d H H' ∧ Fd H' a, ?_, ?_⟩
    · refine ⟨.str c, rfl, .ref d, rfl, d, _, rfl, DGet.k (k := Sum.inr c) ed1, _, rfl, ?_⟩
      by_cases hc2 : c ∈ L.map (·.1)
      · obtain ⟨v, t, e1, _, _⟩ := rk1.some hc2
        rw [e1]
        exact iteF ⟨rfl, kvs, L, ed1, rk1, rok, rca, by omega, Kd.kp k1, F1⟩
      · have e1 := rk1.none hc2
        rw [e1]
        refine iteT ⟨.ref a, rfl, a, 12, rfl, F1, by decide, by decide, fun r H2 r0 r1 k2 F2 => ⟨r, 0, rfl, rfl, _, rfl, ite2 (fun _ => ?_) (fun _ => ?_)⟩⟩
        · refine ⟨.ref a, rfl, .ref a, rfl, .ref nr, rfl, a, nr, nms, rfl, F2, (k1.trans k2) _ _ nn en, nn, ln, nd, fun R ys keys H3 nR eR hys knd kmem klen k3 F3 => ⟨rfl, fun O hO => ?_⟩⟩
          have sO := sameUpd (o := .lst (outsL.map V.str)) hO
          have F4 := F3.same sO
          have nO := fdNe F3 hO
          have nRa : R ≠ a := fdNe F2 nR
          have klen1 : 1 ≤ keys.length ∨ keys = [] := by
            cases keys with
            | nil => exact .inr rfl
            | cons _ _ => exact .inl (by simp)
          refine ⟨.ref a, rfl, a, 5, rfl, F4, by decide, by decide, fun r5 H5 r50 r51 k5 F5 => ⟨2, r5, rfl, rfl, ?_⟩⟩
          have kA : Kp a H3 H5 := (Kp.same sO).trans k5
          refine ⟨a, R, O, ys, keys, outsL, 2 + r5, rfl, by omega, by omega, F5, kA _ _ nRa eR, nRa, kysTS (tsKp F3 kA) (hys K), ?_, by omega, knd, fun k' hk' => ⟨(nok _ (kmem k' hk').1).1, (outsOk _ (kmem k' hk').2).1, (nok _ (kmem k' hk').1).2, (outsOk _ (kmem k' hk').2).2⟩,
            k5 _ _ nO upd_same, nO, by show 4 ≤ 10; omega, fun z hz => (outsOk z hz).2, fun v t H6 hv zt ot k6 F6 => ?_⟩
          · omega
          have k16 : Kp a H1 H6 := ((k2.trans k3).trans kA).trans k6
          have ed6 := k16 _ _ nd' ed1
          have rk6 := rk1.ts (tsKp F1 k16)
          refine ⟨.ref d, rfl, .str c, rfl, d, _, rfl, DPut.k (k := Sum.inr c) ed6 (by rw [rk6.len, sizeLine_eq]; omega), ?_⟩
          rw [putNew e1]
          have t7 := tsDict (o := .dK (kvs ++ [(Sum.inr c, v)])) ed6
          refine ⟨rfl, _, L ++ [(c, t)], upd_same, (rk6.ts t7).snoc (trTS t7 _ _ hv), rok.snoc hc2 tc ⟨⟨outsL, fun z hz => (outsOk z hz).1, zt⟩, ot.up (by omega)⟩, fun p hp => ?_, by rw [List.length_append]; exact Nat.le_refl _, (Kd.kp (k1.trans k16)).trans Kd.put, fdOther F6 nd'⟩
          rcases List.mem_append.mp hp with y | y
          · exact rca p y
          · rw [List.mem_singleton.mp y]
            exact hc
        · exact ⟨rfl, kvs, L, k2 _ _ nd' ed1, rk1.ts (tsKp F1 k2), rok, rca, by omega, Kd.kp (k1.trans k2), F2⟩
    rintro σ2 H2 ⟨rfl, kvs', L', ed2, rk2, rok2, rca2, lL2, k2, F2⟩
    -- the arguments
    refine ⟨fun σ' H' => ∃ T, σ' = [some (.ref a), some (.ref nr), some (.ref d), some (.str c), some (.ref T), none] ∧ Kp a H2 H' ∧ Fd H' a, ?_, ?_⟩
    · refine ⟨(by show 5 ≤ sizeLine; decide), fun M hM => ?_⟩
      have sM := sameUpd (o := .lst [.int 0, .int 0, .int 1, .int 2, .int 4]) hM
      have eM : upd H2 M (.lst [.int 0, .int 0, .int 1, .int 2, .int 4]) M = some (.lst [.int 0, .int 0, .int 1, .int 2, .int 4]) := upd_same
      have F3 := F2.same sM
      have nM := fdNe F2 hM
      generalize upd H2 M (.lst [.int 0, .int 0, .int 1, .int 2, .int 4]) = H3 at *
      refine ⟨.ref a, rfl, a, 5, rfl, F3, by decide, by decide, fun r H4 r0 r1 k4 F4 => ?_⟩
      obtain ⟨j, hj, hj4⟩ : ∃ j : Nat, atI [V.int 0, .int 0, .int 1, .int 2, .int 4] r = some (.int (j : Int)) ∧ j ≤ 4 := by
        have hc : r = 0 ∨ r = 1 ∨ r = 2 ∨ r = 3 ∨ r = 4 := by omega
        rcases hc with h | h | h | h | h <;> rw [h]
        · exact ⟨0, rfl, by omega⟩
        · exact ⟨0, rfl, by omega⟩
        · exact ⟨1, rfl, by omega⟩
        · exact ⟨2, rfl, by omega⟩
        · exact ⟨4, rfl, by omega⟩
      refine ⟨M, _, r, .int (j : Int), rfl, rfl, .inl (.inl (k4 _ _ nM eM)), hj, (j : Int), rfl, by omega, by omega, ?_⟩
      rw [Int.toNat_natCast]
      intro D hD
      refine lcFeedX (m := j) (fun a => ∀ z, a = some z → TOk z) hD F4 (by omega) (fun v => rfl) (fun i H lt k => lt) (fun H k => Nat.le_refl _) (fun i x H8 H9 lt k8 F8 y => ?_) (fun H8 row e8 l8 hv8 k8 F8 => ?_)
      · obtain ⟨rfl, rfl⟩ := y
        exact ⟨rfl, fun R hR => ⟨.ref a, rfl, a, rfl, F8, fun z H10 tz k10 F10 => hR (some z) H10 (fun y e => by cases e; exact tz) k10 F10⟩⟩
      · refine ⟨D, row.map vA, rfl, .inl ⟨.inl (.inl e8), fun T hT => ?_⟩⟩
        have sT := sameUpd (o := .tup (row.map vA)) hT
        exact ⟨T, rfl, (((Kp.same sM).trans k4).trans k8).trans (Kp.same sT), F8.same sT⟩
    rintro σ3 H3 ⟨T, rfl, k3, F3⟩
    have fin : ∀ {H' : Hp} {v : V}, Kp a H2 H' → Fd H' a → Q v H' := fun {H' v} k F' => q v kvs' L' H' (k _ _ nd' ed2) (rk2.ts (tsKp F2 k)) rok2 rca2 lL2 (k2.trans (Kd.kp k)) F'
    have en3 : H3 nr = some (.lst (nms.map V.str)) := k3 _ _ nn (k2 _ _ nn (fun z => by rw [z, ed] at en; cases en) en)
    refine ⟨.ref a, rfl, a, 6, rfl, F3, by decide, by decide, fun r H4 r0 r1 k4 F4 => ⟨rfl, _, rfl, ite2 (fun _ => ?_) (fun _ => ?_)⟩⟩
    · refine ⟨.ref a, rfl, .ref nr, rfl, a, nr, _, rfl, F4, .inl (.inl (k4 _ _ nn en3)), nn, by rw [List.length_map]; omega, by rw [List.length_map]; omega, fun i v H5 hv k5 F5 => ?_⟩
      refine ⟨.ref a, rfl, rfl, fun O hO => ?_⟩
      have sO := sameUpd (o := .lst (outsL.map V.str)) hO
      refine ⟨a, O, _, rfl, F5.same sO, .inl (.inl upd_same), fdNe F5 hO, by decide, by decide, fun i6 v6 H6 hv6 k6 F6 => ⟨(by show 2 ≤ sizeLine; decide), fun p7 hp7 => ?_⟩⟩
      have s7 := sameUpd (o := .tup [v, v6]) hp7
      refine ⟨.ref T, rfl, (by show 3 ≤ sizeLine; decide), fun p8 hp8 => ?_⟩
      have s8 := sameUpd (o := .tup [.str "made", .ref p7, .ref T]) hp8
      exact fin ((((((k3.trans k4).trans k5).trans (Kp.same sO)).trans k6).trans (Kp.same s7)).trans (Kp.same s8)) ((F6.same s7).same s8)
    · refine ⟨.str c, rfl, .ref T, rfl, (by show 3 ≤ sizeLine; decide), fun p8 hp8 => ?_⟩
      have s8 := sameUpd (o := .tup [.str "made", .str c, .ref T]) hp8
      exact fin ((k3.trans k4).trans (Kp.same s8)) (F4.same s8)
end
end TRE

set_option Elab.async false
set_option linter.all false
set_option maxRecDepth 100000
set_option maxHeartbeats 8000000
/-! a drawn world -/
namespace TRE
open PySem PySem.Spec PyProof.Rows L2 ND KS KS.La PLC
abbrev lWorld : Stmt := top 49
theorem goneApart : ∀ i ∈ List.range 12, ("gone" : Str) ∉ opt i := by decide +kernel
theorem goneOk : okN "gone" = true ∧ TOk "gone" := by decide +kernel
theorem namesAll {nms : List Str} (hl : nms.length ≤ 12) (h : ∀ i (h : i < nms.length), nms[i] ∈ opt i) : nms.Nodup ∧ (∀ x ∈ nms, okN x = true ∧ TOk x) ∧ ("gone" : Str) ∉ nms := by
  refine ⟨namesNd (n := 0) hl (fun i hi => by rw [Nat.zero_add]; exact h i hi) (by omega), fun x hx => ?_, fun hx => ?_⟩
  · obtain ⟨i, hi, rfl⟩ := List.getElem_of_mem hx
    have := namesOk (by omega : i < 12) (h i hi)
    exact ⟨this.1, this.2.1⟩
  · obtain ⟨i, hi, e⟩ := List.getElem_of_mem hx
    exact goneApart i (List.mem_range.mpr (by omega)) (e ▸ h i hi)
theorem putLen (kvs : List (Key × V)) (k : Key) (v : V) : (putK kvs k v).length ≤ kvs.length + 1 := by
  unfold putK
  split
  · rw [List.length_map]; omega
  · rw [List.length_append]; exact Nat.le_refl _
def spWorld (K : PySem.W.Frag) : Sp := fun vs H Q _ => ∃ (f : Addr) (m : Nat), vs = [.ref f, .int m, .bl false] ∧ Fd H f ∧ 1 ≤ m ∧ m ≤ 11 ∧
  ∀ p d tg kvs L H', SqT K H' p [.ref d, .ref tg] → H d = none → H' d = some (.dK kvs) → RK K H' kvs L → RecOk L → (∀ q ∈ L, q.1 ∈ callsL) → L.length ≤ 12 → Kp f H H' → Fd H' f → Q (.ref p) H'
abbrev nWorld : List Str := ["_law_feed", "_law_many", "_law_has_knots", "_law_names", "_law_recipes", "_law_targets", "_law_k", "_law_name", "_law_near"]
abbrev tW (a : Addr) (m : Nat) (N R G : Addr) (x6 x7 x8 : Option V) : L2.St := [some (.ref a), some (.int m), some (.bl false), some (.ref N), some (.ref R), some (.ref G), x6, x7, x8]
section
variable {P : Program} {w : World} {K : PySem.W.Frag} {mg : Str → Option Value} {base : Heap} {f : Addr} {fd : FuncData}
theorem scWorld : FnScope nWorld ["_law_feed", "_law_many", "_law_has_knots"] (defScope lWorld) := ⟨rfl, rfl, rfl, by decide +kernel, rfl, by decide +kernel, by decide +kernel⟩
theorem okWorld {k : Nat} (F : FunD K "_law_world" "_law_world" (defArgs lWorld) (defBody lWorld) (defScope lWorld) [.bl false] [] f fd) (B : Bn mg) (me : mg "enumerate" = none) (D : Has P w K mg base (k + 1) "_law_draw" ["_law_feed", "_law_many"] spDraw) (Nm : Has P w K mg base (k + 2) "_law_some_names" ["_law_feed", "_law_many"] spNames)
    (Ot : Has P w K mg base (k + 4) "_law_some_outputs" ["_law_feed"] spOutputs) (Md : Has P w K mg base (k + 12) "_law_drawn_made" ["_law_feed", "_law_near", "_law_recipes"] (spMade K)) :
    FnOk P w K mg base CX0 (k + 13) f fd ["_law_feed", "_law_many", "_law_has_knots"] (spWorld K) := by
  obtain ⟨fD, fdD, gD, kD, bD, GD⟩ := D.ex
  obtain ⟨fN, fdN, gN, kN, bN, GN⟩ := Nm.ex
  obtain ⟨fO, fdO, gO, kO, bO, GO⟩ := Ot.ex
  obtain ⟨fM, fdM, gM, kM, bM, GM⟩ := Md.ex
  refine F.ok scWorld (fun vs H Q E h => ?_) (fun cdv A outer s H vs Q E hr h => ?_)
  · obtain ⟨a, m, rfl, _⟩ := h
    rfl
  · obtain ⟨a, m, rfl, hF, m1, m2, q⟩ := h
    have hr1 : Room (k + 1) _ := hr.mono (by omega)
    have hr2 : Room (k + 2) _ := hr.mono (by omega)
    have hr4 : Room (k + 4) _ := hr.mono (by omega)
    have hu1 : (A.deeper (envOfC "_law_world" (defScope lWorld) s.heap.objs.size f cdv)).units + 1 < cLine := by
      have := hr.units
      omega
    refine ⟨_, PSs.nox (C8.pss_cut (ps_par3 (i := 3) (j := 4) (l := 5) (by rfl) scWorld.nd rfl rfl rfl (by decide) (by decide) (by decide) rfl rfl rfl (pa_cons (pe_call GN hr2 (by rfl) gN kN bN .nil pass0 (pa_cons (pv 0) (pa_cons (pv 1) pa_nil))) (pa_cons (pe_dnewK) (pa_cons (pe_dnewK) pa_nil))) (by rfl)) (C8.pss_cut (ps_for PassesOwn.never rfl (pi_enum (by rfl) me (pa_cons (pv 3) pa_nil)) (pg_tup rfl (pgs_cons (pg_name (i := 6) scWorld.nd rfl (.inl rfl)) (pgs_cons (pg_name (i := 7) scWorld.nd rfl (.inl rfl)) pgs_nil)))
        (pss_one (ps_if (PW.pt (pw_or (pt_cmpR op_eq (pv 6) pe_int (nomark _)) (pw_or (PW.pt (pw_and (pt_not (pt_val (pv 2))) (pw_and1 (pt_cmpR op_lt (pv 6) (pe_op op_add pe_int (pe_op op_fdiv (pv 1) pe_int)) (nomark _))))) (pw_or1 (pt_cmpR op_eq (pe_call GD hr1 (by rfl) gD kD bD .nil pass0 (pa_cons (pv 0) (pa_cons (pe_int) pa_nil))) pe_int (nomark _))))))
          (pss_one (ps_dput hu1 (pv 5) (pv 7) (pe_tup (pa_cons (pe_str) (pa_cons (pe_call GO hr4 (by rfl) gO kO bO .nil pass0 (pa_cons (pv 0) pa_nil)) pa_nil))) rfl))
          (pss_cons (ps_set (i := 8) scWorld.nd rfl (.inl rfl) (pe_ifExp (PW.pt (pw_or (pt_val (pv 2)) (pw_or1 (pt_cmpR op_eq (pe_call GD hr1 (by rfl) gD kD bD .nil pass0 (pa_cons (pv 0) (pa_cons (pe_int) pa_nil))) pe_int (nomark _))))) (pe_op op_cat (pv 3) (pe_lst (pa_cons (pe_str) pa_nil))) (pe_slice sl_list (pv 3) po_none (po_some (pv 6))))) (pss_one (ps_dput hu1 (pv 5) (pv 7) (pe_call GM hr (by rfl) gM kM bM .nil pass0 (pa_cons (pv 0) (pa_cons (pv 8) (pa_cons (pv 4) pa_nil)))) rfl)))))) (pss_one (ps_ret (pe_tup (pa_cons (pv 4) (pa_cons (pv 5) pa_nil))))))), ?_⟩
    refine ⟨fun σ' H' => ∃ (N R G : Addr) (nms : List Str), σ' = tW a m N R G none none none ∧ H' N = some (.lst (nms.map V.str)) ∧ H' R = some (.dK []) ∧ H' G = some (.dK []) ∧ H N = none ∧ H R = none ∧ H G = none ∧ R ≠ G ∧ nms.length = m ∧ (∀ i (h : i < nms.length), nms[i] ∈ opt i) ∧ Kp a H H' ∧ Fd H' a, ?_, ?_⟩
    · refine ⟨.ref a, rfl, .int m, rfl, a, m, rfl, by omega, hF, fun N nms H1 nN eN ln hn k1 F1 => ?_⟩
      intro R hR
      have s1 := sameUpd (o := .dK []) hR
      intro G hG
      have s2 := sameUpd (o := .dK []) hG
      have back : ∀ {b : Addr}, H1 b = none → b ≠ a → H b = none := fun {b} hb nb => by
        cases e : H b with
        | none => rfl
        | some o => rw [k1 b o nb e] at hb; cases hb
      have F2 := F1.same s1
      have hG1 : H1 G = none := by
        cases e : H1 G with
        | none => rfl
        | some o => rw [s1 _ _ e] at hG; cases hG
      exact ⟨_, _, _, rfl, N, R, G, nms, rfl, s2 _ _ (s1 _ _ eN), s2 _ _ upd_same, upd_same, nN, back hR (fdNe F1 hR), back hG1 (fdNe F1 hG1), fun z => (by rw [← z, upd_same] at hG; cases hG), ln, hn, (k1.trans (Kp.same s1)).trans (Kp.same s2), F2.same s2⟩
    rintro _ H1 ⟨N, R, G, nms, rfl, eN, eR, eG, nN, nR, nG, nRG, ln, hn, k1, F1⟩
    have Na := fdNe hF nN
    have Ra := fdNe hF nR
    have Ga := fdNe hF nG
    obtain ⟨nnd, nok, ngone⟩ := namesAll (by omega) hn
    refine ⟨fun σ' H' => (∃ x6 x7 x8, σ' = tW a m N R G x6 x7 x8) ∧ ∃ kvs L, H' R = some (.dK kvs) ∧ RK K H' kvs L ∧ RecOk L ∧ (∀ q ∈ L, q.1 ∈ callsL) ∧ L.length ≤ 12 ∧ Kp a H H' ∧ Fd H' a, ?_, ?_⟩
    · refine ⟨.ref N, rfl, N, _, rfl, .inl (.inl eN), ?_⟩
      refine forJ (n := m) (fun i σ' H' => (∃ x6 x7 x8, σ' = tW a m N R G x6 x7 x8) ∧ H' N = some (.lst (nms.map V.str)) ∧ (∃ tk, H' G = some (.dK tk) ∧ tk.length ≤ i) ∧ ∃ kvs L, H' R = some (.dK kvs) ∧ RK K H' kvs L ∧ RecOk L ∧ (∀ q ∈ L, q.1 ∈ callsL) ∧ L.length ≤ i ∧ Kp a H H' ∧ Fd H' a)
        ⟨⟨none, none, none, rfl⟩, eN, ⟨[], eG, Nat.le_refl _⟩, [], [], eR, .nil, ⟨List.nodup_nil, fun p hp => absurd hp (by simp)⟩, fun p hp => absurd hp (by simp), Nat.le_refl _, k1, F1⟩
        (fun i σ' H' lt h => ⟨nms.map V.str, V.str (nms[i]'(by omega)), .inl (.inl h.2.1), by rw [List.getElem?_map, List.getElem?_eq_getElem (by omega)]; rfl⟩) (fun σ' H' h => ⟨nms.map V.str, .inl (.inl h.2.1), by rw [List.length_map]; omega⟩) (fun i σ' H2 x H3 lt h y => ?_) (fun σ' H' h => ?_)
      · obtain ⟨⟨x6, x7, x8, rfl⟩, eN2, ⟨tk, eG2, ltk⟩, kvs, L, eR2, rk, rok, rca, lL, k2, F2⟩ := h
        obtain ⟨T, x, rfl, hT, rfl, y⟩ := y
        have ex := y _ (.inl (.inl eN2))
        have lt2 : i < nms.length := by omega
        rw [List.getElem?_map, List.getElem?_eq_getElem lt2] at ex
        obtain rfl : V.str nms[i] = x := Option.some.inj ex
        have sT := sameUpd (o := .tup [.int (i : Nat), .str nms[i]]) hT
        have eT : upd H2 T (.tup [.int (i : Nat), .str nms[i]]) T = some (.tup [.int (i : Nat), .str nms[i]]) := upd_same
        have F3 := F2.same sT
        have eN3 := sT _ _ eN2
        have eG3 := sT _ _ eG2
        have eR3 := sT _ _ eR2
        have rk3 := rk.ts (TS.same sT)
        have k3 := k2.trans (Kp.same sT)
        generalize upd H2 T (.tup [.int (i : Nat), .str nms[i]]) = H3 at *
        refine ⟨T, _, rfl, .inl (.inl eT), rfl, _, _, rfl, _, _, rfl, rfl, ?_⟩
        -- a target is put in
        have put : ∀ {H4 : Hp} {v : V} {kvs' : List (Key × V)} {L' : List (Str × Tr)} {x8' : Option V}, H4 N = some (.lst (nms.map V.str)) → H4 G = some (.dK tk) → H4 R = some (.dK kvs') → RK K H4 kvs' L' → RecOk L' → (∀ q ∈ L', q.1 ∈ callsL) → L'.length ≤ i + 1 → Kp a H H4 → Fd H4 a →
            ∃ b H5, V.ref G = V.ref b ∧ DPut H4 b (.str nms[i]) v H5 ∧ ((∃ x6 x7 x8, tW a m N R G (some (.int i)) (some (.str nms[i])) x8' = tW a m N R G x6 x7 x8) ∧ H5 N = some (.lst (nms.map V.str)) ∧ (∃ tk, H5 G = some (.dK tk) ∧ tk.length ≤ i + 1) ∧ ∃ kvs L, H5 R = some (.dK kvs) ∧ RK K H5 kvs L ∧ RecOk L ∧ (∀ q ∈ L, q.1 ∈ callsL) ∧ L.length ≤ i + 1 ∧ Kp a H H5 ∧ Fd H5 a) := fun {H4 v kvs' L' x8'} n4 g4 r4 rk4 ok4 ca4 l4 k4 F4 => by
          have ll := putLen tk (Sum.inr nms[i]) v
          refine ⟨G, _, rfl, DPut.k (k := Sum.inr nms[i]) g4 (by rw [sizeLine_eq]; omega), ⟨_, _, _, rfl⟩, ?_, ⟨_, upd_same, by omega⟩, kvs', L', ?_, rk4.ts (tsDict g4), ok4, ca4, l4, fun b o nb hb => ?_, fdOther F4 Ga⟩
          · rw [upd_ne fun z => by rw [z, g4] at n4; cases n4]
            exact n4
          · rw [upd_ne nRG]
            exact r4
          · rw [upd_ne (ne_of_none hb nG)]
            exact k4 _ _ nb hb
        have src : ∀ {H4 : Hp}, Kp a H3 H4 → Fd H4 a → sDPut (tVar 5) (tVar 7) (tTup (tCons (tC (V.str "source")) (tCons (tCall spOutputs [] E0 (tCons (tVar 0) tNil)) tNil))) { nx := fun σ' H' => (∃ x6 x7 x8, σ' = tW a m N R G x6 x7 x8) ∧ H' N = some (.lst (nms.map V.str)) ∧ (∃ tk, H' G = some (.dK tk) ∧ tk.length ≤ i + 1) ∧ ∃ kvs L, H' R = some (.dK kvs) ∧ RK K H' kvs L ∧ RecOk L ∧ (∀ q ∈ L, q.1 ∈ callsL) ∧ L.length ≤ i + 1 ∧ Kp a H H' ∧ Fd H' a, rt := Q } (tW a m N R G (some (.int i)) (some (.str nms[i])) x8) H4 := fun {H4} k4 F4 => by
          refine ⟨.ref a, rfl, a, rfl, F4, fun p os H5 hos hp ep k5 F5 => ⟨(by show 2 ≤ sizeLine; decide), fun U hU => ⟨.ref G, rfl, .str nms[i], rfl, ?_⟩⟩⟩
          have sU := sameUpd (o := .tup [.str "source", .ref p]) hU
          have k6 := (k4.trans k5).trans (Kp.same sU)
          exact put (k6 _ _ Na eN3) (k6 _ _ Ga eG3) (k6 _ _ Ra eR3) (rk3.ts (tsKp F3 k6)) rok rca (by omega) (k3.trans k6) (F5.same sU)
        -- a made target
        have made : ∀ {H4 : Hp} {Nr : Addr} {near : List Str}, Kp a H3 H4 → Fd H4 a → H4 Nr = some (.lst (near.map V.str)) → Nr ≠ a → 1 ≤ near.length → near.length ≤ 12 → near.Nodup → (∀ x ∈ near, okN x = true ∧ TOk x) → sDPut (tVar 5) (tVar 7) (tCall (spMade K) [] E0 (tCons (tVar 0) (tCons (tVar 8) (tCons (tVar 4) tNil)))) { nx := fun σ' H' => (∃ x6 x7 x8, σ' = tW a m N R G x6 x7 x8) ∧ H' N = some (.lst (nms.map V.str)) ∧ (∃ tk, H' G = some (.dK tk) ∧ tk.length ≤ i + 1) ∧ ∃ kvs L, H' R = some (.dK kvs) ∧ RK K H' kvs L ∧ RecOk L ∧ (∀ q ∈ L, q.1 ∈ callsL) ∧ L.length ≤ i + 1 ∧ Kp a H H' ∧ Fd H' a, rt := Q } (tW a m N R G (some (.int i)) (some (.str nms[i])) (some (.ref Nr))) H4 := fun {H4 Nr near} k4 F4 en hna l1 l2 nd nok => by
          refine ⟨.ref a, rfl, .ref Nr, rfl, .ref R, rfl, a, Nr, R, near, kvs, L, rfl, F4, en, hna, l1, l2, nd, nok, k4 _ _ Ra eR3, rk3.ts (tsKp F3 k4), rok, rca, by omega, fun v kvs' L' H5 eR5 rk5 rok5 rca5 lL5 k5 F5 => ⟨.ref G, rfl, .str nms[i], rfl, ?_⟩⟩
          refine put (k5 _ _ Na (fun z => ?_) (k4 _ _ Na eN3)) (k5 _ _ Ga (fun z => nRG z.symm) (k4 _ _ Ga eG3)) eR5 rk5 rok5 rca5 (by omega) (fun b o nb hb => k5 _ _ nb (fun z => ?_) (k4 _ _ nb (k3 _ _ nb hb))) F5
          · rw [z, eR3] at eN3
            cases eN3
          · rw [z, nR] at hb
            cases hb
        have other : ∀ {H4 : Hp}, Kp a H3 H4 → Fd H4 a → 1 ≤ i → tSeq (tAsg (tIf (tOr (tB (tVar 2)) (tTest (tOp rEq (tCall spDraw [] E0 (tCons (tVar 0) (tCons (tC (V.int 5)) tNil))) (tC (V.int 0))))) (tOp rCat (tVar 3) (tLst (tCons (tC (V.str "gone")) tNil))) (tSl (rSlL K) (tVar 3) tNoPart (tPart (tVar 6)))) (gName 8))
            (sDPut (tVar 5) (tVar 7) (tCall (spMade K) [] E0 (tCons (tVar 0) (tCons (tVar 8) (tCons (tVar 4) tNil))))) { nx := fun σ' H' => (∃ x6 x7 x8, σ' = tW a m N R G x6 x7 x8) ∧ H' N = some (.lst (nms.map V.str)) ∧ (∃ tk, H' G = some (.dK tk) ∧ tk.length ≤ i + 1) ∧ ∃ kvs L, H' R = some (.dK kvs) ∧ RK K H' kvs L ∧ RecOk L ∧ (∀ q ∈ L, q.1 ∈ callsL) ∧ L.length ≤ i + 1 ∧ Kp a H H' ∧ Fd H' a, rt := Q } (tW a m N R G (some (.int i)) (some (.str nms[i])) x8) H4 := fun {H4} k4 F4 hi => by
          refine ⟨.bl false, rfl, false, rfl, iteF ⟨.ref a, rfl, a, 5, rfl, F4, by decide, by decide, fun r H5 r0 r1 k5 F5 => ⟨rfl, _, rfl, ite2 (fun _ => ?_) (fun _ => ?_)⟩⟩⟩
          · have k45 := k4.trans k5
            refine ⟨.ref N, rfl, (by show 1 ≤ sizeLine; decide), fun g hg => ?_⟩
            have sg := sameUpd (o := .lst [.str "gone"]) hg
            refine ⟨N, g, _, [.str "gone"], rfl, rfl, sg _ _ (k45 _ _ Na eN3), upd_same, by rw [List.length_map, sizeLine_eq]; show nms.length + 1 ≤ _; omega, fun p6 hp6 => ?_⟩
            have s6 := sameUpd (o := .lst (nms.map V.str ++ [.str "gone"])) hp6
            have F6 := (F5.same sg)
            refine made (near := nms ++ [("gone" : Str)]) ((k45.trans (Kp.same sg)).trans (Kp.same s6)) (F6.same s6) (by rw [List.map_append]; exact upd_same) (fdNe F6 hp6) (by rw [List.length_append]; show 1 ≤ nms.length + 1; omega) (by rw [List.length_append]; show nms.length + 1 ≤ 12; omega) ?_ fun x hx => ?_
            · refine List.nodup_append.mpr ⟨nnd, by simp, fun u hu v hv e => ?_⟩
              rw [List.mem_singleton.mp hv] at e
              exact ngone (e ▸ hu)
            · rcases List.mem_append.mp hx with z | z
              · exact nok x z
              · rw [List.mem_singleton.mp z]
                exact goneOk
          · have k45 := k4.trans k5
            refine ⟨.ref N, rfl, .int i, rfl, (i : Int), rfl, N, _, rfl, .inl (.inl (k45 _ _ Na eN3)), fun p6 hp6 => ?_⟩
            rw [cutTake, ← List.map_take] at *
            have s6 := sameUpd (o := .lst ((nms.take i).map V.str)) hp6
            exact made (near := nms.take i) (k45.trans (Kp.same s6)) (F5.same s6) upd_same (fdNe F5 hp6) (by rw [List.length_take]; omega) (by rw [List.length_take]; omega) (nnd.sublist (List.take_sublist _ _)) fun x hx => nok x (List.mem_of_mem_take hx)
        -- which one
        refine ⟨.int i, rfl, rfl, _, rfl, ite2 (fun e => ?_) (fun e => ?_)⟩
        · exact iteT (src (Kp.refl _ _) F3)
        have hi : 1 ≤ i := by
          have : ¬ i = 0 := fun z => e (by rw [z]; rfl)
          omega
        refine ⟨.bl false, rfl, false, rfl, iteT ⟨.int i, rfl, .int m, rfl, m, 5, rfl, rfl, ⟨by decide, by decide⟩, 1, _, rfl, rfl, i, _, rfl, rfl, _, rfl, ite2 (fun e2 => ?_) (fun e2 => ?_)⟩⟩
        · exact iteT (src (Kp.refl _ _) F3)
        refine ⟨.ref a, rfl, a, 7, rfl, F3, by decide, by decide, fun r H4 r0 r1 k4 F4 => ⟨rfl, _, rfl, ite2 (fun _ => ?_) (fun _ => ?_)⟩⟩
        · exact src k4 F4
        · exact other k4 F4 hi
      · obtain ⟨⟨x6, x7, x8, rfl⟩, eN2, _, kvs, L, eR2, rk, rok, rca, lL, k2, F2⟩ := h
        exact ⟨⟨x6, x7, x8, rfl⟩, kvs, L, eR2, rk, rok, rca, by omega, k2, F2⟩
    rintro _ H2 ⟨⟨x6, x7, x8, rfl⟩, kvs, L, eR2, rk, rok, rca, lL, k2, F2⟩
    refine ⟨.ref R, rfl, .ref G, rfl, (by show 2 ≤ sizeLine; decide), fun p hp => ?_⟩
    have sp := sameUpd (o := .tup [.ref R, .ref G]) hp
    exact q p R G kvs L _ (.inl (.inl upd_same)) nR (sp _ _ eR2) (rk.ts (TS.same sp)) rok rca lL (k2.trans (Kp.same sp)) (F2.same sp)
end
end TRE

set_option Elab.async false
set_option linter.all false
set_option maxRecDepth 100000
set_option maxHeartbeats 4000000
/-! C() without an own __init__; x == y by an own __eq__ that answers either way -/
namespace OW
open PySem PySem.Spec PyProof.Rows L2
structure Bare (K : PySem.W.Frag) (C : Addr) : Prop where
  makes : PySem.W.makesIn K C = true
  init : PySem.W.findIn K (.ref C) "__init__" = some (some (.builtin "object.__init__"))
  top : PySem.W.mroIn K C (.type "object") = some true
  kp : PySem.W.keepIn K (.ref C) = true
def tBare (C : Addr) : TE := fun _ H Q => ∀ x dx, H x = none → H dx = none → dx ≠ x → Q (.ref x) (upd (upd H dx (.own x)) x (.ins C dx []))
section
variable {X : Cx} {C : Addr} {x : Str} {p pos : Pos}
theorem pe_bare (M : Bare X.K C) (hg : Gl X x) (hm : X.mg x = some (.ref C)) (hdb : (x == ("__debug__" : Str)) = false := by decide) : PE X (.Call (.Name x p) [] [] pos) (tBare C) := by
  refine ⟨fun pins s σ H Q I h => ?_⟩
  refine wpAny_Call_Name_kw (ld_glob I hg hm ?_ hdb)
  refine PySem.W.callWith_K0 I.kIn M.kp ?_
  refine wpAny_call (make_map0 I.kIn M.makes M.init (fun self => PySem.W.Looks.of_pure (PySem.W.oi_bind _)) ?_)
  have I2 := Inv.made (C := C) I
  have ho : ((s.heap.push PySem.W.emptyDict).push (PySem.W.instObj C s.heap.objs.size)).get? (s.heap.objs.size + 1) = some (PySem.W.instObj C s.heap.objs.size) := by
    have := Heap.get?_push_size (s.heap.push PySem.W.emptyDict) (o := PySem.W.instObj C s.heap.objs.size) rfl
    rwa [Heap.size_push] at this
  have t2 : PySem.W.Looks (model X.prog X.w) _ (isInstance (.ref (s.heap.objs.size + 1)) (.type "object")) true := (NwA.type_at ho rfl).andThen (PySem.W.looks_mroIn I2.kIn M.top)
  refine codeAny_call_builtin PySem.W.oi_plain PySem.W.entry_oi (@PySem.W.check_slot (model X.prog X.w) _ _ _ "object.__init__" "object" "__init__" (.ref (s.heap.objs.size + 1)) [] [] _ PySem.W.oi_kind PySem.W.oi_split t2 (NwA.oi_args_any _ _ _) ?_)
  rw [PySem.W.oi_run]
  exact wpAny_pure ⟨rfl, V.ref (s.heap.objs.size + 1), _, I2, rfl, h _ _ (I.hok.fresh (Nat.le_succ _)) (I.hok.fresh (Nat.le_refl _)) (Nat.ne_of_lt (Nat.lt_succ_self _))⟩
/-! ### == -/
def rEqOwn (K : PySem.W.Frag) (C : Addr) (sp : Sp) (E : XK) : R2 := fun x y H Q => ∃ a b dx fs, x = .ref a ∧ y = .ref b ∧ H a = some (.ins C dx fs) ∧ ((∃ dy gs, H b = some (.ins C dy gs)) ∨ ∃ ys, SqT K H b ys) ∧ sp [x, y] H (fun v H' => ∃ c, v = .bl c ∧ Q v H') E
theorem op_eqOwn {CX : CXT} {n : Nat} {f : Addr} {fd : FuncData} {ps : List Str} {sp : Sp} {E : XK} (F : FnOk X.prog X.w X.K X.mg X.base CX n f fd ps sp) (hr : Room n X.A)
    (hs : PySem.W.findIn X.K (.ref C) "__eq__" = some (some (.ref f))) (hf : PySem.W.isFn X.K (.ref f) = true) (hb : Binds X.K fd ps []) (hx : Passes CX X E) (hT : PySem.W.subIn X.K (.type "tuple") (.ref C) = some false) : OpR X (compareOp .Eq) (rEqOwn X.K C sp E) := by
  intro pins s σ H x y v u Q I rx ry h
  obtain ⟨a, b, dx, fs, rfl, rfl, ha, hy, hsp⟩ := h
  cases rx
  cases ry
  obtain ⟨mA, J, _⟩ := ins_get I.hok ha
  obtain ⟨od, J, _⟩ := J.look
  obtain ⟨m, hF⟩ := I.fr
  show wpAny (model X.prog X.w) X.A (richCompare .Eq (.ref a) (.ref b)) (EP X pins σ Q) X.xe s
  have go : ∀ {tb : Value}, PySem.W.Looks (model X.prog X.w) s.heap (typeOf (.ref b)) tb → PySem.W.notFirst X.K C tb = true → wpAny (model X.prog X.w) X.A (richCompare .Eq (.ref a) (.ref b)) (EP X pins σ Q) X.xe s := fun {tb} lk nf => by
    refine PySem.W.cmp_K (op := .Eq) (tb := tb) hr.units0 hF I.ok.mod.kin J lk nf hs hf ?_
    have hl := F.len _ _ _ _ hsp
    have r2 : Vals [V.ref a, V.ref b] [Value.ref a, Value.ref b] := .cons rfl (.cons rfl .nil)
    refine wpAny_call (codeAny_mono (F.run X.A X.stack s H ⟨[.ref a, .ref b], []⟩ [.ref a, .ref b] [.ref a, .ref b] _ E hr I.env0 (by
      have := hb s [.ref a, .ref b] I.kIn (by simpa using hl)
      simpa using this) r2 hsp) fun r s' hq => ?_)
    cases r with
    | error e => exact hx pins σ H s e s' I hq
    | ok fl =>
      cases fl with
      | ret w =>
        obtain ⟨z, H', I', rz, c, ez, q⟩ := I.after hq
        subst ez
        cases rz
        exact ⟨.bl c, H', I', rfl, q⟩
      | next => exact False.elim hq
      | brk => exact False.elim hq
      | cont => exact False.elim hq
  rcases hy with ⟨dy, gs, hb'⟩ | ⟨ys, hT2⟩
  · obtain ⟨mB, J', _⟩ := ins_get I.hok hb'
    obtain ⟨od', J', _⟩ := J'.look
    exact go J'.type (by simp [PySem.W.notFirst])
  · obtain ⟨its, r, ⟨o, ho, hc, _⟩, _⟩ := I.tuple hT2
    exact go (tb := .type "tuple") ((PySem.W.Looks.ld ho).andThen (by rw [hc]; exact .now)) (by simp [PySem.W.notFirst, hT])
end
end OW

set_option Elab.async false
set_option linter.all false
set_option maxRecDepth 100000
set_option maxHeartbeats 4000000
/-! the classes: Recipe, TreeRecipe -/
namespace TRE
open PySem PySem.Spec PyProof.Rows L2 ND KS KS.La PLC
abbrev sInit : Stmt := inClass (top 20) 0
abbrev sEqM : Stmt := inClass (top 20) 1
abbrev sNodeP : Stmt := inClass (top 20) 2
abbrev sStopAt : Stmt := inClass (top 18) 0
abbrev FnM (K : PySem.W.Frag) (x q : Str) (st : Stmt) (f : Addr) (fd : FuncData) : Prop := FunD K x q (defArgs st) (defBody st) (defScope st) [] [] f fd
def spInit0 (K : PySem.W.Frag) (C : Addr) : Sp := fun vs H Q _ => ∃ x dx v t, vs = [.ref x, v] ∧ H x = some (.ins C dx []) ∧ Dp K H v (trD t) ∧ goodT t ∧ ∀ H', (∀ b o, b ≠ x → H b = some o → H' b = some o) → H' x = some (.ins C dx [("_node", v)]) → Q .non H'
def spTEq (K : PySem.W.Frag) (C : Addr) : Sp := fun vs H Q _ => ∃ a dx v d1 y, vs = [.ref a, y] ∧ H a = some (.ins C dx [("_node", v)]) ∧ Dp K H v d1 ∧ SeqAt.shaped d1 = true ∧
  ((∃ b dy v2 d2, y = .ref b ∧ H b = some (.ins C dy [("_node", v2)]) ∧ Dp K H v2 d2 ∧ SeqAt.shaped d2 = true ∧ Q (.bl (PyData.eqv d1 d2)) H) ∨ ∃ d2, Dp K H y (.tuple d2) ∧ Q (.bl false) H)
theorem ffGood {t : Tr} (h : goodT t) : ff 50 [] [] (trD t) = none := by
  obtain ⟨⟨zs, hz, tz⟩, od⟩ := h
  exact zFF (fun z hz2 => ⟨hz z hz2, by simp⟩) od tz
/-- a class's instances in isinstance -/
structure IsC (K : PySem.W.Frag) (C : Addr) : Prop where
  cl : Cls K C
  ha : PySem.W.findIn K (.ref C) "__class__" = some (some (.builtin "object.__class__"))
  hn : PySem.W.specialIn K (.builtin "object.__class__") "__get__" = some (some (.builtin "getset_descriptor.__get__"))
  ht : PySem.W.takesIn K (.builtin "object.__class__") = some true
  hm : PySem.W.mroIn K C (.type "object") = some true
section
variable {P : Program} {w : World} {K : PySem.W.Frag} {mg : Str → Option Value} {base : Heap} {f : Addr} {fd : FuncData}
theorem scInit : FnScope ["self", "node"] ["self", "node"] (defScope sInit) := ⟨rfl, rfl, rfl, by decide +kernel, rfl, by decide +kernel, by decide +kernel⟩
theorem okInit0 {k : Nat} {C : Addr} (F : FnM K "__init__" "TreeRecipe.__init__" sInit f fd) (cl : Cls K C) (nf : NoAttr K C "_node") (Ck : Has P w K mg base (k + 1) "_check_tree" ["top"] (spCheck0 K 50)) : FnOk P w K mg base CX0 (k + 2) f fd ["self", "node"] (spInit0 K C) := by
  obtain ⟨fC, fdC, gC, kC, bC, GC⟩ := Ck.ex
  refine F.ok scInit (fun vs H Q E h => ?_) (fun cdv A outer s H vs Q E hr h => ?_)
  · obtain ⟨x, dx, v, t, rfl, _⟩ := h
    rfl
  · obtain ⟨x, dx, v, t, rfl, hx, hd, g, q⟩ := h
    refine ⟨_, PSs.nox (pss_cons (ps_expr (pe_call GC hr (by rfl) gC kC bC .nil pass0 (pa_cons (pv 1) pa_nil))) (pss_one (ps_fld (pv 0) (pv 1) rfl))), ?_⟩
    refine ⟨v, rfl, v, trD t, rfl, hd, g.2, ffGood g, fun H' s' => ?_⟩
    refine ⟨v, rfl, .ref x, rfl, x, C, dx, [], rfl, s' _ _ hx, cl, nf, by decide, ?_⟩
    refine q _ (fun b o ne hb => ?_) upd_same
    rw [upd_ne ne]
    exact s' _ _ hb
theorem scNodeP : FnScope ["self"] ["self"] (defScope sNodeP) := ⟨rfl, rfl, rfl, by decide +kernel, rfl, by decide +kernel, by decide +kernel⟩
theorem okNodeP {k : Nat} {C : Addr} (F : FnM K "node" "TreeRecipe.node" sNodeP f fd) (cl : Cls K C) (nf : NoAttr K C "_node") : FnOk P w K mg base CX0 (k + 1) f fd ["self"] (getSp C "_node") := by
  refine F.ok scNodeP (fun vs H Q E h => ?_) (fun cdv A outer s H vs Q E hr h => ?_)
  · obtain ⟨a, dx, fs, v, rfl, _⟩ := h
    rfl
  · obtain ⟨a, dx, fs, v, rfl, ha, hl, q⟩ := h
    exact ⟨_, PSs.nox (pss_one (ps_ret (pe_fld (pv 0) rfl))), .ref a, rfl, a, C, dx, fs, v, rfl, ha, cl, nf, hl, q⟩
theorem scEqM : FnScope ["self", "other"] ["self", "other"] (defScope sEqM) := ⟨rfl, rfl, rfl, by decide +kernel, rfl, by decide +kernel, by decide +kernel⟩
theorem okEqM {k : Nat} {C : Addr} (F : FnM K "__eq__" "TreeRecipe.__eq__" sEqM f fd) (B : Bn mg) (gC : mg "TreeRecipe" = some (.ref C)) (ic : IsC K C) (nf : NoAttr K C "_node") (k1 : PySem.W.kitOne K (.ref C) (.ref C) = some true) (k2 : PySem.W.kitOne K (.type "tuple") (.ref C) = some false) :
    FnOk P w K mg base CX0 (k + 1) f fd ["self", "other"] (spTEq K C) := by
  refine F.ok scEqM (fun vs H Q E h => ?_) (fun cdv A outer s H vs Q E hr h => ?_)
  · obtain ⟨a, dx, v, d1, y, rfl, _⟩ := h
    rfl
  · obtain ⟨a, dx, v, d1, y, rfl, ha, hd, sd, h⟩ := h
    refine ⟨_, PSs.nox (pss_one (ps_ret (pe_and (pe_callB call_isi (by rfl) B.isi (by decide +kernel) (pa_cons (pv 1) (pa_cons (pe_glob (v := .ref C) (by rfl) gC rfl) pa_nil))) (pe_one (pe_cmpR (r := rEqD K) (op_eqD hr.units) (pe_fld (pv 0) rfl) (pe_fld (pv 1) rfl) (nomark _)))))), ?_⟩
    rcases h with ⟨b, dy, v2, d2, rfl, hb, hd2, sd2, q⟩ | ⟨d2, hd2, q⟩
    · refine ⟨.ref b, rfl, .ref b, .ref C, .ref C, .ref C, true, rfl, .own C, .base (.ins hb ic.cl ic.ha ic.hn ic.ht ic.hm), k1, true, rfl, iteT ?_⟩
      exact ⟨.ref a, rfl, a, C, dx, _, v, rfl, ha, ic.cl, nf, rfl, .ref b, rfl, b, C, dy, _, v2, rfl, hb, ic.cl, nf, rfl, d1, d2, hd, hd2, sd, sd2, q⟩
    · refine ⟨y, rfl, y, .ref C, _, .ref C, false, rfl, .own C, dpTy hd2, k2, false, rfl, iteF q⟩
def spStop (K : PySem.W.Frag) (S : Addr) : Sp := fun vs H Q _ => ∃ x y z u, vs = [x, y, z, u] ∧ Q (.ref S) H
theorem scStopAt : FnScope ["self", "arguments", "answers", "count"] ["self", "arguments", "answers", "count"] (defScope sStopAt) := ⟨rfl, rfl, rfl, by decide +kernel, rfl, by decide +kernel, by decide +kernel⟩
theorem okStopAt {k : Nat} {S : Addr} (F : FnM K "step_at" "Recipe.step_at" sStopAt f fd) (gS : mg "STOP" = some (.ref S)) : FnOk P w K mg base CX0 (k + 1) f fd ["self", "arguments", "answers", "count"] (spStop K S) := by
  refine F.ok scStopAt (fun vs H Q E h => ?_) (fun cdv A outer s H vs Q E hr h => ?_)
  · obtain ⟨x, y, z, u, rfl, _⟩ := h
    rfl
  · obtain ⟨x, y, z, u, rfl, q⟩ := h
    exact ⟨_, PSs.nox (pss_one (ps_ret (pe_glob (v := .ref S) (by rfl) gS rfl))), q⟩
end
end TRE

set_option Elab.async false
set_option linter.all false
set_option maxRecDepth 100000
set_option maxHeartbeats 4000000
/-! x in o, len(o), o[k], o(), o(k = v) by the methods of an own class -/
namespace OC
open PySem PySem.Spec PyProof.Rows L2 StX
def rInOwn (C : Addr) (sp : Sp) (E : XK) (g : Bool → Bool) : R2 := fun x y H Q => ∃ a dx fs, y = .ref a ∧ H a = some (.ins C dx fs) ∧ sp [y, x] H (fun v H' => ∃ c, v = .bl c ∧ Q (.bl (g c)) H') E
def rLenOwn (C : Addr) (sp : Sp) (E : XK) : List V → Hp → VK → Prop := fun xs H Q => ∃ a dx fs, xs = [.ref a] ∧ H a = some (.ins C dx fs) ∧ sp [.ref a] H (fun v H' => ∃ n : Int, v = .int n ∧ 0 ≤ n ∧ n < 2 ^ 63 ∧ Q (.int n) H') E
section
variable {X : Cx} {CX : CXT} {n : Nat} {C f : Addr} {sp : Sp} {E : XK}
theorem op_inOwn (F : FnR X.prog X.w X.K X.mg X.base CX n f sp) (hr : Room n X.A) (hs : PySem.W.findIn X.K (.ref C) "__contains__" = some (some (.ref f))) (hf : PySem.W.isFn X.K (.ref f) = true) (hx : Passes CX X E) : OpR X (compareOp .In) (rInOwn C sp E id) := by
  intro pins s σ H x y v u Q I rx ry h
  obtain ⟨a, dx, fs, rfl, ha, hsp⟩ := h
  cases ry
  obtain ⟨mA, J, _⟩ := ins_get I.hok ha
  obtain ⟨od, J, _⟩ := J.look
  obtain ⟨m, hF⟩ := I.fr
  refine PySem.W.in_K hF I.ok.mod.kin J hs hf ?_
  refine thn (wpAny_call (run_fnR (us := [.ref a, v]) (vs := [V.ref a, x]) F hr hx I (.cons rfl (.cons rx .nil)) hsp)) fun r s' ⟨z, H', I', rz, c, ez, q⟩ => ?_
  subst ez
  cases rz
  exact wpAny_truthy_bool ⟨.bl c, H', I', rfl, q⟩
theorem op_notInOwn (F : FnR X.prog X.w X.K X.mg X.base CX n f sp) (hr : Room n X.A) (hs : PySem.W.findIn X.K (.ref C) "__contains__" = some (some (.ref f))) (hf : PySem.W.isFn X.K (.ref f) = true) (hx : Passes CX X E) : OpR X (compareOp .NotIn) (rInOwn C sp E not) := by
  intro pins s σ H x y v u Q I rx ry h
  obtain ⟨a, dx, fs, rfl, ha, hsp⟩ := h
  cases ry
  obtain ⟨mA, J, _⟩ := ins_get I.hok ha
  obtain ⟨od, J, _⟩ := J.look
  obtain ⟨m, hF⟩ := I.fr
  refine PySem.W.notIn_K hF I.ok.mod.kin J hs hf ?_
  refine thn (wpAny_call (run_fnR (us := [.ref a, v]) (vs := [V.ref a, x]) F hr hx I (.cons rfl (.cons rx .nil)) hsp)) fun r s' ⟨z, H', I', rz, c, ez, q⟩ => ?_
  subst ez
  cases rz
  exact wpAny_truthy_bool ⟨.bl (!c), H', I', rfl, q⟩
theorem call_lenOwn (F : FnR X.prog X.w X.K X.mg X.base CX n f sp) (hr : Room (n + 1) X.A) (hs : PySem.W.findIn X.K (.ref C) "__len__" = some (some (.ref f))) (hf : PySem.W.isFn X.K (.ref f) = true) (hx : Passes CX X E) : CallR X (.builtin "len") (rLenOwn C sp E) := by
  intro pins s σ H xs us Q I r h
  obtain ⟨a, dx, fs, rfl, ha, hsp⟩ := h
  obtain ⟨u, rfl, ru⟩ := vals1 r
  cases ru
  obtain ⟨mA, J, _⟩ := ins_get I.hok ha
  obtain ⟨od, J, _⟩ := J.look
  obtain ⟨m, hF⟩ := I.fr
  refine PySem.W.len_K hF I.ok.mod.kin J hs hf ?_
  refine wpAny_call (codeAny_mono (F X.A.in1 X.stack s H [.ref a] [V.ref a] _ E hr.in1 I.env0.in1 (.cons rfl .nil) hsp) fun r s' hq => ?_)
  cases r with
  | error e => exact hx pins σ H s e s' I hq
  | ok fl =>
    cases fl with
    | ret u =>
      obtain ⟨z, H', I', rz, k, ez, h0, h1, q⟩ := I.after hq
      subst ez
      obtain ⟨t, rfl⟩ := rz
      exact ⟨⟨h0, h1⟩, .int k, H', I'.tok _, ⟨_, rfl⟩, q⟩
    | next => exact False.elim hq
    | brk => exact False.elim hq
    | cont => exact False.elim hq
end
section
variable {M : Model} {A : Around} {E : Value → Shared → Prop} {s : Shared} {a : Addr} {pos : Pos} {Q : Value → Shared → Prop} {args : List (Bool × Sem Value)} {kws : List (Option Str × Sem Value)}
theorem callsOwn (hplain : (args.any (·.1) || kws.any (·.1.isNone)) = false)
    (h : wpAny M A (evalArgs (.ref a) true args kws) (fun z t => (∃ C ox od, PySem.W.InstAt t.heap a ox C od ∧ ox.data = .plain) ∧ wpAny M A (call (.ref a) ([] ++ z.pos) z.kw) Q E t) E s) : wpAny M A (callWith pos (.ref a) [] args kws) Q E s := by
  unfold callWith
  refine wpAny_bind (wpAny_holding (thn h fun z t ⟨⟨C, ox, od, J, hd⟩, hq⟩ => wpAny_bind (wpAny_standAt ?_)))
  have L := PySem.W.kco_keeper (M := M) J hd
  simp only [hplain]
  refine wpAny_bind (L.here ?_)
  have last : ∀ {m : Sem Value}, wpAny M A m Q E t → wpAny M A (do let r ← m; holding [r] point; pure r) Q E t := fun hm => wpAny_bind (thn hm fun r t2 hr => wpAny_bind (wpAny_holding (wpAny_point (wpAny_pure hr))))
  exact last (wpAny_operateT hq)
end
section
variable {X : Cx} {CX : CXT} {k : Nat} {C g : Addr} {fd : FuncData} {ps ks : List Str} {sp : Sp} {E : XK} {fe : Expr} {tf : TE} {tk : TA} {pos : Pos} {kws : List Keyword} {gg : List Value → List Value → List Value} {gV : List V → List V → List V}
/-- o() -/
theorem pe_callO0 (hf : PE X fe tf) (c : CallO X.K C g) (F : FnR X.prog X.w X.K X.mg X.base CX k g sp) (hr : Room k X.A) (hx : Passes CX X E)
    (ht : eval (.Call fe [] [] pos) X.env = (do callWith pos (← eval fe X.env) [] (backTo pos (starEach [] X.env)) (backToKw pos (keywordEach [] X.env))) := by rfl) : PE X (.Call fe [] [] pos) (tCallO X C sp E tf tNil) := by
  refine ⟨fun pins s σ H Q I h => ?_⟩
  refine Call_ (thn (hf.run pins s σ H _ I h) fun u s1 ⟨y, H1, I1, ry, a, ey, hi, q⟩ => ?_) ht
  subst ey
  obtain rfl : u = Value.ref a := ry
  obtain ⟨ox, od, J, hd⟩ := insC_at I1 hi
  exact callsOwn rfl (evalArgs_nil3 ⟨⟨C, ox, od, J, hd⟩, run_callO c F hr hx I1 hi .nil q⟩)
/-- o(x = e, ..) -/
def tCallOK (X : Cx) (C : Addr) (sp : Sp) (gV : List V → List V → List V) (E : XK) (tf : TE) (tk : TA) : TE := fun σ H Q => tf σ H fun y H1 => ∃ a, y = V.ref a ∧ tk σ H1 fun zs H2 => InsC X H2 a C ∧ sp (gV [.ref a] zs) H2 Q E
theorem pe_callOK (hf : PE X fe tf) (c : CallO X.K C g) (F : FnOk X.prog X.w X.K X.mg X.base CX k g fd ps sp) (hr : Room k X.A) (hb : KBinds X.K fd ps ks gg gV) (hx : Passes CX X E) (hkw : PK X kws tk)
    (ht : eval (.Call fe [] kws pos) X.env = (do callWith pos (← eval fe X.env) [] (backTo pos (starEach [] X.env)) (backToKw pos (keywordEach kws X.env))) := by rfl)
    (hall : (backToKw pos (keywordEach kws X.env)).all (·.1.isSome) = true := by rfl) (hnone : (backToKw pos (keywordEach kws X.env)).any (·.1.isNone) = false := by rfl) (hks : (backToKw pos (keywordEach kws X.env)).filterMap (·.1) = ks := by rfl) :
    PE X (.Call fe [] kws pos) (tCallOK X C sp gV E tf tk) := by
  refine ⟨fun pins s σ H Q I h => ?_⟩
  rw [ht]
  refine wpAny_bind (thn (hf.run pins s σ H _ I h) fun u s1 ⟨y, H1, I1, ry, a, ey, q⟩ => ?_)
  subst ey
  obtain rfl : u = Value.ref a := ry
  refine callsOwn hnone (evalArgs_kw_nil hall (thn (hkw.run pos pins s1 σ H1 _ I1 q) fun ws s2 ⟨zs, H2, I2, rz, hi, q2⟩ => ?_))
  obtain ⟨ox, od, J, hd⟩ := insC_at I2 hi
  refine ⟨⟨C, ox, od, J, hd⟩, ?_⟩
  rw [hks]
  have r2 := hb.rel (us := [.ref a]) (vs := [.ref a]) (.cons rfl .nil) rz
  have hl : (gg [.ref a] ws).length = ps.length := by rw [← r2.length]; exact F.len _ _ _ _ q2
  refine wpAny_call (PySem.W.kco_code I2.kIn J hd c.at_ c.fn c.fi (codeAny_mono (F.run X.A X.stack s2 H2 ⟨[.ref a], ks.zip ws⟩ (gg [.ref a] ws) (gV [.ref a] zs) Q E hr I2.env0 (hb.to s2 [.ref a] ws I2.kIn hl) r2 q2) fun r s' hq => ?_))
  cases r with
  | error e => exact hx pins σ H2 s2 e s' I2 hq
  | ok fl =>
    cases fl with
    | ret u => exact I2.after hq
    | next => exact False.elim hq
    | brk => exact False.elim hq
    | cont => exact False.elim hq
end
end OC

set_option Elab.async false
set_option linter.all false
set_option maxRecDepth 100000
set_option maxHeartbeats 8000000
/-! a recipe's course, asked step by step -/
namespace CO
open PySem PySem.Spec PyProof.Rows L2 ND KS KS.La PLC TRE
abbrev sBegun : Stmt := inClass (top 18) 1
abbrev sCoInit : Stmt := inClass (top 19) 0
abbrev sCoStand : Stmt := inClass (top 19) 1
abbrev sCoStep : Stmt := inClass (top 19) 2
abbrev sCoCall : Stmt := inClass (top 19) 3
abbrev sCoCopied : Stmt := inClass (top 19) 4
theorem pe_or {X : Cx} {e : Expr} {t1 t2 : TE} (h1 : PE X e t1) (h2 : PE X e t2) : PE X e (fun σ H Q => t1 σ H Q ∨ t2 σ H Q) := ⟨fun pins s σ H Q I h => h.elim (h1.run pins s σ H Q I) (h2.run pins s σ H Q I)⟩
/-- a recipe: one of a tree, or the one that stops -/
def RcAt (K : PySem.W.Frag) (C CR : Addr) (H : Hp) (rc : V) (t : Tr) : Prop := ∃ x dx, rc = .ref x ∧ ((∃ v, H x = some (.ins C dx [("_node", v)]) ∧ Dp K H v (trD t)) ∨ (H x = some (.ins CR dx []) ∧ t = .stop))
def fsC (rc va vr : V) (n : V) (sv : V) : List (Str × V) := [("_recipe", rc), ("_arguments", va), ("_answers", vr), ("_count", n), ("_step", sv)]
def Fs0 (fs : List (Str × V)) (rc va : V) : Prop := fs = ([("_recipe", rc), ("_arguments", va)] : List (Str × V)) ∨ ∃ vr n sv, fs = fsC rc va vr n sv
theorem Fs0.get {fs : List (Str × V)} {rc va : V} (h : Fs0 fs rc va) (vr n : V) : (putF "_count" n (putF "_answers" vr fs)).lookup ("_recipe" : Str) = some rc ∧ (putF "_count" n (putF "_answers" vr fs)).lookup ("_arguments" : Str) = some va ∧ (∀ sv, putF "_step" sv (putF "_count" n (putF "_answers" vr fs)) = fsC rc va vr n sv) ∧ fs.length ≤ 5 ∧
    (putF "_answers" vr fs).length ≤ 5 ∧ (putF "_count" n (putF "_answers" vr fs)).length ≤ 5 ∧ fs.lookup ("_recipe" : Str) = some rc := by
  rcases h with rfl | ⟨a, b, c, rfl⟩
  · exact ⟨rfl, rfl, fun _ => rfl, by show 2 ≤ 5; decide, by show 3 ≤ 5; decide, by show 4 ≤ 5; decide, rfl⟩
  · exact ⟨rfl, rfl, fun _ => rfl, by show 5 ≤ 5; decide, by show 5 ≤ 5; decide, by show 5 ≤ 5; decide, rfl⟩
theorem tsIns {c D d : Addr} {fs : List (Str × V)} {H H' : Hp} (h : H c = some (.ins D d fs)) (k : Kp c H H') : TS H H' := fun a o e t => by
  refine k a o (fun z => ?_) e
  subst z
  have e2 := Option.some.inj (h.symm.trans e)
  rcases t with ⟨xs, rfl⟩ | ⟨p, xs, rfl⟩ <;> cases e2
theorem RcAt.ne {K : PySem.W.Frag} {C CR : Addr} {H : Hp} {x c D d : Addr} {t : Tr} {fs : List (Str × V)} {rc : V} (h : RcAt K C CR H (.ref x) t) (hc : H c = some (.ins D d fs)) (hl : fs.lookup ("_recipe" : Str) = some rc) : x ≠ c := fun z => by
  subst z
  obtain ⟨y, dx, ey, h⟩ := h
  cases ey
  rcases h with ⟨v, h, _⟩ | ⟨h, _⟩
  · have e := Option.some.inj (hc.symm.trans h)
    injection e with e1 e2 e3
    rw [e3] at hl
    exact absurd hl (by show (none : Option V) ≠ _; exact fun q => nomatch q)
  · have e := Option.some.inj (hc.symm.trans h)
    injection e with e1 e2 e3
    rw [e3] at hl
    exact absurd hl (by show (none : Option V) ≠ _; exact fun q => nomatch q)
theorem RcAt.keep {K : PySem.W.Frag} {C CR : Addr} {H H' : Hp} {rc : V} {t : Tr} (h : RcAt K C CR H rc t) (ts : TS H H') (k : ∀ x o, rc = .ref x → H x = some o → H' x = some o) : RcAt K C CR H' rc t := by
  obtain ⟨x, dx, e, h⟩ := h
  rcases h with ⟨v, hx, hv⟩ | ⟨hx, et⟩
  · exact ⟨x, dx, e, .inl ⟨v, k _ _ e hx, trTS ts _ _ hv⟩⟩
  · exact ⟨x, dx, e, .inr ⟨k _ _ e hx, et⟩⟩
theorem RcAt.same {K : PySem.W.Frag} {C CR : Addr} {H H' : Hp} {rc : V} {t : Tr} (h : RcAt K C CR H rc t) (s : Same H H') : RcAt K C CR H' rc t := h.keep (TS.same s) fun x o _ e => s _ _ e
theorem plStep (rows : List (List (Option Str))) (t : Tr) : Pl 3 (stepD rows t) := by
  have st : Pl 3 (.tuple [.str "stop"]) := .tup fun d hd => by rw [List.mem_singleton.mp hd]; exact .str _ _
  cases t with
  | stop => exact st
  | rd ks cs l =>
    refine .tup fun d hd => ?_
    simp only [List.mem_cons, List.not_mem_nil, or_false] at hd
    rcases hd with rfl | rfl
    · exact .str _ _
    · refine .tup fun d hd => ?_
      obtain ⟨k, _, rfl⟩ := List.mem_map.mp hd
      exact .tup fun e he => by
        simp only [List.mem_cons, List.not_mem_nil, or_false] at he
        rcases he with rfl | rfl <;> exact .str _ _
  | wr o ps m =>
    show Pl 3 (if (Txt.join "" (ps.map (pieceS rows))).length ≤ 400 then .tuple [.str "write", .str o, .str (Txt.join "" (ps.map (pieceS rows)))] else .tuple [.str "stop"])
    split
    · refine .tup fun d hd => ?_
      simp only [List.mem_cons, List.not_mem_nil, or_false] at hd
      rcases hd with rfl | rfl | rfl <;> exact .str _ _
    · exact st
/-- what the courses rest on: the classes -/
structure CoC (P : Program) (w : World) (K : PySem.W.Frag) (mg : Str → Option Value) (base : Heap) (m : Nat) (C CR CC S : Addr) : Prop where
  clC : Cls K C
  clR : Cls K CR
  clO : Cls K CC
  n1 : NoAttr K CC "_recipe"
  n2 : NoAttr K CC "_arguments"
  n3 : NoAttr K CC "_answers"
  n4 : NoAttr K CC "_count"
  n5 : NoAttr K CC "_step"
  hS : ∀ H, SqT K H S [.str "stop"]
  sa : ∃ (f : Addr) (fd : FuncData), Meth K C "step_at" f ∧ Binds K fd ["self", "arguments", "answers", "count"] [] ∧ FnOk P w K mg base CX0 m f fd ["self", "arguments", "answers", "count"] (spStepAt K C)
  st : ∃ (f : Addr) (fd : FuncData), Meth K CR "step_at" f ∧ Binds K fd ["self", "arguments", "answers", "count"] [] ∧ FnOk P w K mg base CX0 m f fd ["self", "arguments", "answers", "count"] (spStop K S)
/-- what is asked of a place -/
def Rt (t : Tr) (as : List Str) (rs : List (List (Option Str))) (n : Nat) : Prop := TrOk t ∧ (∀ z ∈ as, TOk z) ∧ (∀ r ∈ rs, RowOk r) ∧ rs.length ≤ 1000 ∧ CanW t rs ∧ CanD (walk t rs) n ∧ n ≤ 1000
def stD (t : Tr) (as : List Str) (rs : List (List (Option Str))) (n : Nat) : PyData := stepD (as.map some :: rs) (down (walk t rs) n)
section
variable {P : Program} {w : World} {K : PySem.W.Frag} {mg : Str → Option Value} {base : Heap} {f : Addr} {fd : FuncData} {m : Nat} {C CR CC S : Addr}
def spStand (K : PySem.W.Frag) (C CR CC : Addr) : Sp := fun vs H Q _ => ∃ c dc fs rc va vr t as rs, ∃ n : Nat, vs = [.ref c, vr, .int n] ∧ H c = some (.ins CC dc fs) ∧ Fs0 fs rc va ∧ RcAt K C CR H rc t ∧ Dp K H va (argsD as) ∧ Dp K H vr (rowsD rs) ∧ Rt t as rs n ∧
  ∀ H' sv, Kp c H H' → H' c = some (.ins CC dc (fsC rc va vr (.int n) sv)) → Dp K H' sv (stD t as rs n) → Q .non H'
theorem scStand : FnScope ["self", "answers", "count"] ["self", "answers", "count"] (defScope sCoStand) := ⟨rfl, rfl, rfl, by decide +kernel, rfl, by decide +kernel, by decide +kernel⟩
theorem okStand (W : CoC P w K mg base m C CR CC S) (hm : 1 ≤ m) (F : FunD K "_stand_at" "Course._stand_at" (defArgs sCoStand) (defBody sCoStand) (defScope sCoStand) [] [] f fd) : FnOk P w K mg base CX0 (m + 1) f fd ["self", "answers", "count"] (spStand K C CR CC) := by
  obtain ⟨fA, dA, hA, bA, GA⟩ := W.sa
  obtain ⟨fT, dT, hT, bT, GT⟩ := W.st
  refine F.ok scStand (fun vs H Q E h => ?_) (fun cdv A outer s H vs Q E hr h => ?_)
  · obtain ⟨c, dc, fs, rc, va, vr, t, as, rs, n, rfl, _⟩ := h
    rfl
  · obtain ⟨c, dc, fs, rc, va, vr, t, as, rs, n, rfl, hc, hfs, hrc, hva, hvr, ⟨g1, g2, g3, g4, g5, g6, g7⟩, q⟩ := h
    refine ⟨_, PSs.nox (pss_cons (ps_fld (pv 0) (pv 1) rfl) (pss_cons (ps_fld (pv 0) (pv 2) rfl) (pss_one (ps_fld (pv 0) (pe_or (pe_meth (pe_fld (pv 0) rfl) W.clC hA GA hr bA .nil pass0 (pa_cons (pe_fld (pv 0) rfl) (pa_cons (pv 1) (pa_cons (pv 2) pa_nil)))) (pe_meth (pe_fld (pv 0) rfl) W.clR hT GT hr bT .nil pass0 (pa_cons (pe_fld (pv 0) rfl) (pa_cons (pv 1) (pa_cons (pv 2) pa_nil))))) rfl)))), ?_⟩
    obtain ⟨e1, e2, e3, l0, l1, l2, e0⟩ := hfs.get vr (.int n)
    refine ⟨vr, rfl, .ref c, rfl, c, CC, dc, fs, rfl, hc, W.clO, W.n3, by omega, ?_⟩
    refine ⟨.int n, rfl, .ref c, rfl, c, CC, dc, _, rfl, upd_same, W.clO, W.n4, by omega, ?_⟩
    have hc2 : (upd (upd H c (.ins CC dc (putF "_answers" vr fs))) c (.ins CC dc (putF "_count" (.int n) (putF "_answers" vr fs)))) c = some (.ins CC dc (putF "_count" (.int n) (putF "_answers" vr fs))) := upd_same
    have kp : Kp c H (upd (upd H c (.ins CC dc (putF "_answers" vr fs))) c (.ins CC dc (putF "_count" (.int n) (putF "_answers" vr fs)))) := Kp.put.trans Kp.put
    generalize upd (upd H c (.ins CC dc (putF "_answers" vr fs))) c (.ins CC dc (putF "_count" (.int n) (putF "_answers" vr fs))) = H2 at hc2 kp ⊢
    have ts := tsIns hc kp
    have hva2 := dpTS ts (plArgs as) _ hva
    have hvr2 := dpTS ts (plRows rs) _ hvr
    obtain ⟨x, dx, ex, hx⟩ := hrc
    subst ex
    have nx : x ≠ c := RcAt.ne ⟨x, dx, rfl, hx⟩ hc e0
    have fin : ∀ sv H', Same H2 H' → Dp K H' sv (stD t as rs n) → ∃ a C' dx' fs', (V.ref c) = .ref a ∧ H' a = some (.ins C' dx' fs') ∧ Cls K C' ∧ NoAttr K C' "_step" ∧ fs'.length < 1000 ∧ Q .non (upd H' a (.ins C' dx' (putF "_step" sv fs'))) := fun sv H' s3 hd => by
      refine ⟨c, CC, dc, _, rfl, s3 _ _ hc2, W.clO, W.n5, by omega, ?_⟩
      rw [e3 sv]
      refine q _ sv ((kp.trans (Kp.same s3)).trans Kp.put) upd_same (dpTS (tsIns (s3 _ _ hc2) Kp.put) (plStep _ _) _ hd)
    rcases hx with ⟨v, hx, hv⟩ | ⟨hx, rfl⟩
    · refine .inl ⟨.ref c, rfl, c, CC, dc, _, _, rfl, hc2, W.clO, W.n1, e1, x, dx, _, rfl, kp _ _ nx hx, rfl, .ref c, rfl, c, CC, dc, _, _, rfl, hc2, W.clO, W.n2, e2, vr, rfl, .int n, rfl, ?_⟩
      exact ⟨x, dx, v, va, vr, t, as, rs, n, rfl, kp _ _ nx hx, trTS ts _ _ hv, g1, hva2, g2, hvr2, g3, g4, g5, g6, g7, fun r H' s3 hd => ⟨.ref c, rfl, fin r H' s3 hd⟩⟩
    · refine .inr ⟨.ref c, rfl, c, CC, dc, _, _, rfl, hc2, W.clO, W.n1, e1, x, dx, _, rfl, kp _ _ nx hx, rfl, .ref c, rfl, c, CC, dc, _, _, rfl, hc2, W.clO, W.n2, e2, vr, rfl, .int n, rfl, ?_⟩
      refine ⟨.ref x, va, vr, .int n, rfl, .ref c, rfl, fin (.ref S) H2 (Same.refl _) ?_⟩
      have er : rs = [] := by
        cases rs with
        | nil => rfl
        | cons r rs => obtain ⟨⟨_, _, _, e⟩, _⟩ := g5; cases e
      subst er
      have en : n = 0 := by
        cases n with
        | zero => rfl
        | succ n => exact g6.elim
      subst en
      exact .tup (W.hS _) (.cons (.str _) .nil)
end
end CO

set_option Elab.async false
set_option linter.all false
set_option maxRecDepth 100000
set_option maxHeartbeats 4000000
/-! o(), o(e), o(k = e), where __call__ may raise -/
namespace OC
open PySem PySem.Spec PyProof.Rows L2 StX
/-- an instance of C -/
def InsP (H : Hp) (a C : Addr) : Prop := ∃ dx fs, H a = some (.ins C dx fs)
section
variable {X : Cx} {CX : CXT} {k : Nat} {C g : Addr} {fd : FuncData} {ps ks : List Str} {ds : List Value} {dvs : List V} {sp : Sp} {E : L2.St → XK} {fe e : Expr} {es : List Expr} {tf : TE} {t tk : TA} {pos : Pos} {kws : List Keyword} {gg : List Value → List Value → List Value} {gV : List V → List V → List V}
theorem runS {pins : List (Addr × Obj)} {σ : L2.St} {H : Hp} {s : Shared} {Q : VK} {a : Addr} {us : List Value} {kv : List (Str × Value)} {zs : List Value} {vs : List V} (c : CallO X.K C g) (F : FnOk X.prog X.w X.K X.mg X.base CX k g fd ps sp) (hr : Room k X.A) (hx : PassesAt CX X σ (E σ))
    (I : Inv X pins σ H s) (hi : InsC X H a C) (hb : BindsTo s fd ⟨.ref a :: us, kv⟩ (ps.zip zs)) (r : Vals vs zs) (h : sp vs H Q (E σ)) : wpAny (model X.prog X.w) X.A (call (.ref a) us kv) (EP X pins σ Q) X.xe s := by
  obtain ⟨ox, od, J, hd⟩ := insC_at I hi
  refine wpAny_call (PySem.W.kco_code I.kIn J hd c.at_ c.fn c.fi (codeAny_mono (F.run X.A X.stack s H ⟨.ref a :: us, kv⟩ zs vs Q (E σ) hr I.env0 hb r h) fun r s' hq => ?_))
  cases r with
  | error e => exact hx pins H s e s' I hq
  | ok fl =>
    cases fl with
    | ret u => exact I.after hq
    | next => exact False.elim hq
    | brk => exact False.elim hq
    | cont => exact False.elim hq
/-- o() -/
def tS0 (C : Addr) (sp : Sp) (dvs : List V) (E : L2.St → XK) (tf : TE) : TE := fun σ H Q => tf σ H fun y H1 => ∃ a, y = V.ref a ∧ InsP H1 a C ∧ sp (V.ref a :: dvs) H1 Q (E σ)
theorem pe_S0 (hf : PE X fe tf) (c : CallO X.K C g) (F : FnOk X.prog X.w X.K X.mg X.base CX k g fd ps sp) (hr : Room k X.A) (hb : Binds X.K fd ps ds) (hd : Vals dvs ds) (hx : ∀ σ, PassesAt CX X σ (E σ))
    (ht : eval (.Call fe [] [] pos) X.env = (do callWith pos (← eval fe X.env) [] (backTo pos (starEach [] X.env)) (backToKw pos (keywordEach [] X.env))) := by rfl) : PE X (.Call fe [] [] pos) (tS0 C sp dvs E tf) := by
  refine ⟨fun pins s σ H Q I h => ?_⟩
  refine Call_ (thn (hf.run pins s σ H _ I h) fun u s1 ⟨y, H1, I1, ry, a, ey, hi, q⟩ => ?_) ht
  subst ey
  obtain rfl : u = Value.ref a := ry
  obtain ⟨ox, od, J, hdd⟩ := insC_at I1 (.inr hi)
  refine callsOwn rfl (evalArgs_nil3 ⟨⟨C, ox, od, J, hdd⟩, ?_⟩)
  have r2 : Vals (V.ref a :: dvs) (Value.ref a :: ds) := .cons rfl hd
  have hl : ([Value.ref a] ++ ds).length = ps.length := by
    show (Value.ref a :: ds).length = _
    rw [← r2.length]
    exact F.len _ _ _ _ q
  exact runS (us := []) (kv := []) c F hr (hx σ) I1 (.inr hi) (hb s1 [.ref a] I1.kIn hl) r2 q
/-- o(e, ..) -/
def tS1 (C : Addr) (sp : Sp) (E : L2.St → XK) (tf : TE) (t : TA) : TE := fun σ H Q => tf σ H fun y H1 => ∃ a, y = V.ref a ∧ t σ H1 fun vs H2 => InsP H2 a C ∧ sp (V.ref a :: vs) H2 Q (E σ)
theorem pe_S1 (hf : PE X fe tf) (c : CallO X.K C g) (F : FnOk X.prog X.w X.K X.mg X.base CX k g fd ps sp) (hr : Room k X.A) (hb : Binds X.K fd ps []) (hx : ∀ σ, PassesAt CX X σ (E σ)) (ha : PA X (e :: es) t)
    (ht : eval (.Call fe (e :: es) [] pos) X.env = (do callWith pos (← eval fe X.env) [] (backTo pos (starEach (e :: es) X.env)) (backToKw pos (keywordEach [] X.env))) := by rfl)
    (he : starEach (e :: es) X.env = (false, eval e X.env) :: starEach es X.env := by rfl) (hpl : (backTo pos (starEach es X.env)).any (·.1) = false := by rfl) : PE X (.Call fe (e :: es) [] pos) (tS1 C sp E tf t) := by
  refine ⟨fun pins s σ H Q I h => ?_⟩
  refine Call_ (thn (hf.run pins s σ H _ I h) fun u s1 ⟨y, H1, I1, ry, a, ey, q⟩ => ?_) ht
  subst ey
  obtain rfl : u = Value.ref a := ry
  refine callO_with (thn (ha.run pos pins s1 σ H1 _ I1 q) fun us s2 ⟨vs, H2, I2, r, hi, q2⟩ => ?_) he hpl
  obtain ⟨ox, od, J, hdd⟩ := insC_at I2 (.inr hi)
  refine ⟨⟨C, ox, od, J, hdd⟩, ?_⟩
  have r2 : Vals (V.ref a :: vs) (Value.ref a :: us) := .cons rfl r
  have b2 := hb s2 (.ref a :: us) I2.kIn (by rw [List.append_nil, ← r2.length]; exact F.len _ _ _ _ q2)
  rw [List.append_nil] at b2
  exact runS (kv := []) c F hr (hx σ) I2 (.inr hi) b2 r2 q2
/-- o(x = e, ..) -/
def tSK (C : Addr) (n : Nat) (sp : Sp) (gV : List V → List V → List V) (E : L2.St → XK) (tf : TE) (tk : TA) : TE := fun σ H Q => tf σ H fun y H1 => ∃ a, y = V.ref a ∧ tk σ H1 fun zs H2 => zs.length = n ∧ InsP H2 a C ∧ sp (gV [.ref a] zs) H2 Q (E σ)
theorem pe_SK (hf : PE X fe tf) (c : CallO X.K C g) (F : FnOk X.prog X.w X.K X.mg X.base CX k g fd ps sp) (hr : Room k X.A) (hb : KBn X.K fd ps 1 ks gg gV) (hx : ∀ σ, PassesAt CX X σ (E σ)) (hkw : PK X kws tk)
    (ht : eval (.Call fe [] kws pos) X.env = (do callWith pos (← eval fe X.env) [] (backTo pos (starEach [] X.env)) (backToKw pos (keywordEach kws X.env))) := by rfl)
    (hall : (backToKw pos (keywordEach kws X.env)).all (·.1.isSome) = true := by rfl) (hnone : (backToKw pos (keywordEach kws X.env)).any (·.1.isNone) = false := by rfl) (hks : (backToKw pos (keywordEach kws X.env)).filterMap (·.1) = ks := by rfl) :
    PE X (.Call fe [] kws pos) (tSK C ks.length sp gV E tf tk) := by
  refine ⟨fun pins s σ H Q I h => ?_⟩
  rw [ht]
  refine wpAny_bind (thn (hf.run pins s σ H _ I h) fun u s1 ⟨y, H1, I1, ry, a, ey, q⟩ => ?_)
  subst ey
  obtain rfl : u = Value.ref a := ry
  refine callsOwn hnone (evalArgs_kw_nil hall (thn (hkw.run pos pins s1 σ H1 _ I1 q) fun ws s2 ⟨zs, H2, I2, rz, lz, hi, q2⟩ => ?_))
  obtain ⟨ox, od, J, hdd⟩ := insC_at I2 (.inr hi)
  refine ⟨⟨C, ox, od, J, hdd⟩, ?_⟩
  rw [hks]
  have r2 := hb.rel (us := [.ref a]) (vs := [.ref a]) (.cons rfl .nil) rz
  exact runS (us := []) c F hr (hx σ) I2 (.inr hi) (hb.to s2 [.ref a] ws I2.kIn rfl (rz.length.symm.trans lz)) r2 q2
end
end OC

set_option Elab.async false
set_option linter.all false
set_option maxRecDepth 100000
set_option maxHeartbeats 8000000
namespace CO
open PySem PySem.Spec PyProof.Rows L2 ND KS KS.La PLC TRE OC
open KX hiding sameUpd
/-- a course at a place -/
def CoAt (K : PySem.W.Frag) (C CR CC : Addr) (H : Hp) (c : Addr) (rc : V) (t : Tr) (as : List Str) (rs : List (List (Option Str))) (n : Nat) : Prop :=
  ∃ dc va vr sv, H c = some (.ins CC dc (fsC rc va vr (.int n) sv)) ∧ RcAt K C CR H rc t ∧ Dp K H va (argsD as) ∧ Dp K H vr (rowsD rs) ∧ Dp K H sv (stD t as rs n) ∧ Rt t as rs n
theorem CoAt.keep {K : PySem.W.Frag} {C CR CC : Addr} {H H' : Hp} {c : Addr} {rc : V} {t : Tr} {as : List Str} {rs : List (List (Option Str))} {n : Nat} (h : CoAt K C CR CC H c rc t as rs n) (ts : TS H H') (kc : ∀ o, H c = some o → H' c = some o) (kx : ∀ x o, rc = .ref x → H x = some o → H' x = some o) :
    CoAt K C CR CC H' c rc t as rs n := by
  obtain ⟨dc, va, vr, sv, h1, h2, h3, h4, h5, h6⟩ := h
  exact ⟨dc, va, vr, sv, kc _ h1, h2.keep ts kx, dpTS ts (plArgs _) _ h3, dpTS ts (plRows _) _ h4, dpTS ts (plStep _ _) _ h5, h6⟩
theorem CoAt.same {K : PySem.W.Frag} {C CR CC : Addr} {H H' : Hp} {c : Addr} {rc : V} {t : Tr} {as : List Str} {rs : List (List (Option Str))} {n : Nat} (h : CoAt K C CR CC H c rc t as rs n) (s : Same H H') : CoAt K C CR CC H' c rc t as rs n := h.keep (TS.same s) (fun o e => s _ _ e) fun x o _ e => s _ _ e
/-- a step's word -/
def stW (rows : List (List (Option Str))) : Tr → Str
  | .stop => "stop"
  | .rd _ _ _ => "read"
  | .wr _ ps _ => if (Txt.join "" (ps.map (pieceS rows))).length ≤ 400 then "write" else "stop"
theorem stHead {K : PySem.W.Frag} {H : Hp} {v : V} {rows : List (List (Option Str))} {T : Tr} (h : Dp K H v (stepD rows T)) : ∃ a xs, v = .ref a ∧ SqT K H a xs ∧ atI xs 0 = some (.str (stW rows T)) := by
  have one : ∀ {z : Str} {r : List PyData}, Dp K H v (.tuple (.str z :: r)) → ∃ a xs, v = .ref a ∧ SqT K H a xs ∧ atI xs 0 = some (.str z) := fun h => by
    obtain ⟨a, xs, rfl, hs, hx⟩ := TRE.dpTup h
    cases hx with
    | cons h1 h2 =>
      cases h1
      exact ⟨a, _, rfl, hs, atI_nat (j := 0) rfl⟩
  cases T with
  | stop => exact one h
  | rd ks cs l => exact one h
  | wr o ps m =>
    have h2 : Dp K H v (if (Txt.join "" (ps.map (pieceS rows))).length ≤ 400 then .tuple [.str "write", .str o, .str (Txt.join "" (ps.map (pieceS rows)))] else .tuple [.str "stop"]) := h
    show ∃ a xs, v = .ref a ∧ SqT K H a xs ∧ atI xs 0 = some (.str (if (Txt.join "" (ps.map (pieceS rows))).length ≤ 400 then "write" else "stop"))
    split at h2
    · rename_i hl
      rw [if_pos hl]
      exact one h2
    · rename_i hl
      rw [if_neg hl]
      exact one h2
theorem stThree (rows : List (List (Option Str))) (T : Tr) : stW rows T = "stop" ∨ (stW rows T = "read" ∧ ∃ ks cs l, T = .rd ks cs l) ∨ (stW rows T = "write" ∧ ∃ o ps m, T = .wr o ps m) := by
  cases T with
  | stop => exact .inl rfl
  | rd ks cs l => exact .inr (.inl ⟨rfl, _, _, _, rfl⟩)
  | wr o ps m =>
    show (if (Txt.join "" (ps.map (pieceS rows))).length ≤ 400 then ("write" : Str) else "stop") = "stop" ∨ _ ∨ ((if (Txt.join "" (ps.map (pieceS rows))).length ≤ 400 then ("write" : Str) else "stop") = "write" ∧ _)
    split
    · exact .inr (.inr ⟨rfl, _, _, _, rfl⟩)
    · exact .inl rfl
theorem rs' : (decide (("read" : Str) = "stop")) = false := by decide +kernel
section
variable {P : Program} {w : World} {K : PySem.W.Frag} {mg : Str → Option Value} {base : Heap} {f : Addr} {fd : FuncData} {m : Nat} {C CR CC CH S : Addr}
def spCoInit (K : PySem.W.Frag) (C CR CC : Addr) : Sp := fun vs H Q _ => ∃ c dc rc va t as, vs = [.ref c, rc, va] ∧ H c = some (.ins CC dc []) ∧ RcAt K C CR H rc t ∧ (∀ x, rc = .ref x → x ≠ c) ∧ Dp K H va (argsD as) ∧ TrOk t ∧ (∀ z ∈ as, TOk z) ∧ ∀ H', Kp c H H' → CoAt K C CR CC H' c rc t as [] 0 → Q .non H'
theorem scCoInit : FnScope ["self", "recipe", "arguments"] ["self", "recipe", "arguments"] (defScope sCoInit) := ⟨rfl, rfl, rfl, by decide +kernel, rfl, by decide +kernel, by decide +kernel⟩
theorem okCoInit (W : CoC P w K mg base m C CR CC S) (Sd : ∃ (f : Addr) (fd : FuncData), Meth K CC "_stand_at" f ∧ Binds K fd ["self", "answers", "count"] [] ∧ FnOk P w K mg base CX0 (m + 1) f fd ["self", "answers", "count"] (spStand K C CR CC))
    (F : FunD K "__init__" "Course.__init__" (defArgs sCoInit) (defBody sCoInit) (defScope sCoInit) [] [] f fd) : FnOk P w K mg base CX0 (m + 2) f fd ["self", "recipe", "arguments"] (spCoInit K C CR CC) := by
  obtain ⟨fS, dS, hS, bS, GS⟩ := Sd
  refine F.ok scCoInit (fun vs H Q E h => ?_) (fun cdv A outer s H vs Q E hr h => ?_)
  · obtain ⟨c, dc, rc, va, t, as, rfl, _⟩ := h
    rfl
  · obtain ⟨c, dc, rc, va, t, as, rfl, hc, hrc, nx, hva, ht, hta, q⟩ := h
    refine ⟨_, PSs.nox (pss_cons (ps_fld (pv 0) (pv 1) rfl) (pss_cons (ps_fld (pv 0) (pv 2) rfl) (pss_one (ps_expr (pe_meth (pv 0) W.clO hS GS hr bS .nil pass0 (pa_cons (pe_tup pa_nil) (pa_cons (pe_int) pa_nil))))))), ?_⟩
    refine ⟨rc, rfl, .ref c, rfl, c, CC, dc, [], rfl, hc, W.clO, W.n1, by decide, ?_⟩
    refine ⟨va, rfl, .ref c, rfl, c, CC, dc, _, rfl, upd_same, W.clO, W.n2, by show 1 < 1000; decide, ?_⟩
    have hc2 : (upd (upd H c (.ins CC dc (putF "_recipe" rc []))) c (.ins CC dc (putF "_arguments" va (putF "_recipe" rc [])))) c = some (.ins CC dc [("_recipe", rc), ("_arguments", va)]) := upd_same
    have kp : Kp c H (upd (upd H c (.ins CC dc (putF "_recipe" rc []))) c (.ins CC dc (putF "_arguments" va (putF "_recipe" rc [])))) := Kp.put.trans Kp.put
    generalize upd (upd H c (.ins CC dc (putF "_recipe" rc []))) c (.ins CC dc (putF "_arguments" va (putF "_recipe" rc []))) = H2 at hc2 kp ⊢
    have ts := tsIns hc kp
    refine ⟨.ref c, rfl, c, dc, _, rfl, hc2, rfl, Nat.zero_le _, fun p hp => ?_⟩
    have s3 := sameUpd (o := .tup []) hp
    have hc3 := s3 _ _ hc2
    have kp3 := kp.trans (Kp.same (f := c) s3)
    have ts3 := ts.trans (TS.same s3)
    have hvr : Dp K (upd H2 p (.tup [])) (.ref p) (rowsD []) := .tup (.inl (.inl upd_same)) .nil
    have hrc3 : RcAt K C CR (upd H2 p (.tup [])) rc t := hrc.keep ts3 fun x o e hx => kp3 _ _ (nx x e) hx
    have rt : Rt t as [] 0 := ⟨ht, hta, fun r hr => absurd hr (by simp), Nat.zero_le _, trivial, by cases t <;> trivial, Nat.zero_le _⟩
    have hva3 := dpTS ts3 (plArgs as) _ hva
    refine ⟨c, dc, _, rc, va, .ref p, t, as, [], 0, rfl, hc3, .inl rfl, hrc3, hva3, hvr, rt, fun H' sv k' hc' hsv => q H' (kp3.trans k') ?_⟩
    have ts' := tsIns hc3 k'
    exact ⟨dc, va, .ref p, sv, hc', hrc3.keep ts' fun x o e hx => k' _ _ (nx x e) hx, dpTS ts' (plArgs _) _ hva3, dpTS ts' (plRows _) _ hvr, hsv, rt⟩
def spBegun (K : PySem.W.Frag) (C CR CC : Addr) : Sp := fun vs H Q _ => ∃ rc va t as, vs = [rc, va] ∧ RcAt K C CR H rc t ∧ Dp K H va (argsD as) ∧ TrOk t ∧ (∀ z ∈ as, TOk z) ∧ ∀ c H', H c = none → Same H H' → CoAt K C CR CC H' c rc t as [] 0 → Q (.ref c) H'
theorem scBegun : FnScope ["self", "arguments"] ["self", "arguments"] (defScope sBegun) := ⟨rfl, rfl, rfl, by decide +kernel, rfl, by decide +kernel, by decide +kernel⟩
/-- what a made course asks -/
theorem coMade {H : Hp} {x dx : Addr} {rc va : V} {t : Tr} {as : List Str} {R : Hp → Prop} {E : XK} (hx : H x = none) (hdx : H dx = none) (ne : dx ≠ x) (hrc : RcAt K C CR H rc t) (hva : Dp K H va (argsD as)) (ht : TrOk t) (hta : ∀ z ∈ as, TOk z) (q : ∀ H', Same H H' → CoAt K C CR CC H' x rc t as [] 0 → R H') :
    spCoInit K C CR CC [.ref x, rc, va] (upd (upd H dx (.own x)) x (.ins CC dx [])) (fun v H2 => v = .non ∧ R H2) E := by
  have s1 : Same H (upd (upd H dx (.own x)) x (.ins CC dx [])) := fun b o hb => by
    rw [upd_ne (ne_of_none hb hx), upd_ne (ne_of_none hb hdx)]
    exact hb
  refine ⟨x, dx, rc, va, t, as, rfl, upd_same, hrc.same s1, fun y e z => ?_, dpSame s1 _ _ hva, ht, hta, fun H' k h => ⟨rfl, q H' (fun b o hb => k _ _ (ne_of_none hb hx) (s1 _ _ hb)) h⟩⟩
  obtain ⟨y', dy, e', hy⟩ := hrc
  rw [e] at e'
  cases e'
  subst z
  rcases hy with ⟨v, hy, _⟩ | ⟨hy, _⟩ <;> (rw [hx] at hy; cases hy)
theorem okBegun {fI : Addr} {dI : FuncData} (W : CoC P w K mg base m C CR CC S) (gC : mg "Course" = some (.ref CC)) (M : Mk K CC fI) (bI : Binds K dI ["self", "recipe", "arguments"] []) (GI : FnOk P w K mg base CX0 (m + 2) fI dI ["self", "recipe", "arguments"] (spCoInit K C CR CC))
    (F : FunD K "begun" "Recipe.begun" (defArgs sBegun) (defBody sBegun) (defScope sBegun) [] [] f fd) : FnOk P w K mg base CX0 (m + 4) f fd ["self", "arguments"] (spBegun K C CR CC) := by
  refine F.ok scBegun (fun vs H Q E h => ?_) (fun cdv A outer s H vs Q E hr h => ?_)
  · obtain ⟨rc, va, t, as, rfl, _⟩ := h
    rfl
  · obtain ⟨rc, va, t, as, rfl, hrc, hva, ht, hta, q⟩ := h
    refine ⟨_, PSs.nox (pss_one (ps_ret (pe_make M GI hr (by rfl) gC bI .nil pass0 (pa_cons (pv 0) (pa_cons (pv 1) pa_nil))))), ?_⟩
    exact ⟨rc, rfl, va, rfl, fun x dx hx hdx ne => coMade hx hdx ne hrc hva ht hta fun H' s' h => q x H' hx s' h⟩
theorem scCoStep : FnScope ["self"] ["self"] (defScope sCoStep) := ⟨rfl, rfl, rfl, by decide +kernel, rfl, by decide +kernel, by decide +kernel⟩
theorem okCoStep {k : Nat} (W : CoC P w K mg base m C CR CC S) (F : FunD K "step" "Course.step" (defArgs sCoStep) (defBody sCoStep) (defScope sCoStep) [] [] f fd) : FnOk P w K mg base CX0 (k + 1) f fd ["self"] (getSp CC "_step") := by
  refine F.ok scCoStep (fun vs H Q E h => ?_) (fun cdv A outer s H vs Q E hr h => ?_)
  · obtain ⟨a, dx, fs, v, rfl, _⟩ := h
    rfl
  · obtain ⟨a, dx, fs, v, rfl, ha, hl, q⟩ := h
    exact ⟨_, PSs.nox (pss_one (ps_ret (pe_fld (pv 0) rfl))), .ref a, rfl, a, CC, dx, fs, v, rfl, ha, W.clO, W.n5, hl, q⟩
def spCoCall (K : PySem.W.Frag) (C CR CC CH : Addr) : Sp := fun vs H Q E => ∃ c u rc t as rs row, ∃ n : Nat, vs = [.ref c, u] ∧ CoAt K C CR CC H c rc t as rs n ∧ Dp K H u (rowD row) ∧ rs.length < 1000 ∧ n < 1000 ∧
  (stW (as.map some :: rs) (down (walk t rs) n) = "stop" → E (.ref CH) none H) ∧
  (stW (as.map some :: rs) (down (walk t rs) n) = "read" → RowOk row ∧ ∀ H', Kp c H H' → CoAt K C CR CC H' c rc t as (rs ++ [row]) 0 → Q .non H') ∧
  (stW (as.map some :: rs) (down (walk t rs) n) = "write" → ∀ H', Kp c H H' → CoAt K C CR CC H' c rc t as rs (n + 1) → Q .non H')
theorem scCoCall : FnScope ["self", "answers"] ["self", "answers"] (defScope sCoCall) := ⟨rfl, rfl, rfl, by decide +kernel, rfl, by decide +kernel, by decide +kernel⟩
theorem okCoCall {dvs : List V} (W : CoC P w K mg base m C CR CC S) (B : Bn mg) (C0 : Cl0 K mg "Halted" CH) (Sd : ∃ (f : Addr) (fd : FuncData), Meth K CC "_stand_at" f ∧ Binds K fd ["self", "answers", "count"] [] ∧ FnOk P w K mg base CX0 (m + 1) f fd ["self", "answers", "count"] (spStand K C CR CC))
    (F : FunD K "__call__" "Course.__call__" (defArgs sCoCall) (defBody sCoCall) (defScope sCoCall) dvs [] f fd) : FnOk P w K mg base (L2.CX P w) (m + 2) f fd ["self", "answers"] (spCoCall K C CR CC CH) := by
  obtain ⟨fS, dS, hS, bS, GS⟩ := Sd
  refine F.ok scCoCall (fun vs H Q E h => ?_) (fun cdv A outer s H vs Q E hr h => ?_)
  · obtain ⟨c, u, rc, t, as, rs, row, n, rfl, _⟩ := h
    rfl
  · obtain ⟨c, u, rc, t, as, rs, row, n, rfl, ⟨dc, va, vr, sv, hc, hrc, hva, hvr, hsv, rt⟩, hu, lr, ln, q1, q2, q3⟩ := h
    refine ⟨_, (pss_cons (ps_if (pt_cmpR op_eq (pe_ix ix_tup (pe_fld (pv 0) rfl) pe_int (fun _ _ => rfl)) pe_str (nomark _)) (pss_one (ps_raise rfl (takes_of rfl rfl rfl rfl) (pmk0 C0 (by rfl)))) pss_nil) (pss_one (ps_if (pt_cmpR op_eq (pe_ix ix_tup (pe_fld (pv 0) rfl) pe_int (fun _ _ => rfl)) pe_str (nomark _))
        (pss_one (ps_expr (pe_meth (pv 0) W.clO hS GS hr bS .nil pass0 (pa_cons (pe_tup (StX.pa_star (pe_fld (pv 0) rfl) (pa_cons (pv 1) pa_nil))) (pa_cons (pe_int) pa_nil)))))
        (pss_one (ps_expr (pe_meth (pv 0) W.clO hS GS hr bS .nil pass0 (pa_cons (pe_fld (pv 0) rfl) (pa_cons (pe_op op_add (pe_fld (pv 0) rfl) pe_int) pa_nil)))))))), ?_⟩
    obtain ⟨a0, xs0, rfl, hs0, h0⟩ := stHead hsv
    have nx : ∀ x, rc = .ref x → x ≠ c := fun x e => RcAt.ne (e ▸ hrc) hc rfl
    refine ⟨.ref c, rfl, c, CC, dc, _, .ref a0, rfl, hc, W.clO, W.n5, rfl, a0, xs0, 0, .str _, rfl, rfl, hs0, h0, rfl, _, rfl, ?_⟩
    rw [wordEq]
    have second : ∀ {Q2 : Prop}, (stW (as.map some :: rs) (down (walk t rs) n) ≠ "stop" → Q2) → stW (as.map some :: rs) (down (walk t rs) n) ≠ "stop" → Q2 := fun a b => a b
    rcases stThree (as.map some :: rs) (down (walk t rs) n) with e | ⟨e, ks, cs, l, eT⟩ | ⟨e, o, ps, mm, eT⟩
    · rw [e, ss]
      exact iteT (q1 e)
    · rw [e, rs']
      refine iteF ⟨.ref c, rfl, c, CC, dc, _, .ref a0, rfl, hc, W.clO, W.n5, rfl, a0, xs0, 0, .str _, rfl, rfl, hs0, h0, rfl, _, rfl, ?_⟩
      rw [wordEq, e, rr]
      obtain ⟨hrow, q2⟩ := q2 e
      obtain ⟨b, ys, rfl, hb, hy⟩ := rowsAt hvr
      refine iteT ⟨.ref c, rfl, c, dc, _, rfl, hc, rfl, .ref c, rfl, c, CC, dc, _, .ref b, rfl, hc, W.clO, W.n3, rfl, b, ys, rfl, .inl hb, u, rfl, ?_, fun p hp => ?_⟩
      · have := dpLen hy
        rw [List.length_map] at this
        rw [List.length_append, sizeLine_eq]
        show ys.length + 1 ≤ _
        omega
      have s3 := sameUpd (o := .tup (ys ++ [u])) hp
      have hvr3 : Dp K (upd H p (.tup (ys ++ [u]))) (.ref p) (rowsD (rs ++ [row])) := by
        refine .tup (.inl (.inl upd_same)) ?_
        rw [List.map_append]
        exact dpSnoc (dpSame s3 _ _ hu) (dpAllSame s3 _ _ hy)
      obtain ⟨g1, g2, g3, g4, g5, g6, g7⟩ := rt
      have nxr : nextRead (walk t rs) = .rd ks cs l := nextDown g6 eT
      have rt2 : Rt t as (rs ++ [row]) 0 := by
        refine ⟨g1, g2, fun r hr => ?_, by rw [List.length_append]; show rs.length + 1 ≤ 1000; omega, canWSnoc g5 ⟨_, _, _, nxr⟩, by generalize walk t (rs ++ [row]) = T2; cases T2 <;> trivial, Nat.zero_le _⟩
        rcases List.mem_append.mp hr with z | z
        · exact g3 r z
        · rw [List.mem_singleton.mp z]
          exact hrow
      refine ⟨c, dc, _, rc, va, .ref p, t, as, rs ++ [row], 0, rfl, s3 _ _ hc, .inr ⟨_, _, _, rfl⟩, hrc.same s3, dpSame s3 _ _ hva, hvr3, rt2, fun H' sv' k' hc' hsv' => q2 H' ((Kp.same s3).trans k') ?_⟩
      have ts' := tsIns (s3 _ _ hc) k'
      exact ⟨dc, va, .ref p, sv', hc', (hrc.same s3).keep ts' fun x o e hx => k' _ _ (nx x e) hx, dpTS ts' (plArgs _) _ (dpSame s3 _ _ hva), dpTS ts' (plRows _) _ hvr3, hsv', rt2⟩
    · rw [e, ws]
      refine iteF ⟨.ref c, rfl, c, CC, dc, _, .ref a0, rfl, hc, W.clO, W.n5, rfl, a0, xs0, 0, .str _, rfl, rfl, hs0, h0, rfl, _, rfl, ?_⟩
      rw [wordEq, e, wr']
      obtain ⟨g1, g2, g3, g4, g5, g6, g7⟩ := rt
      have rt2 : Rt t as rs (n + 1) := ⟨g1, g2, g3, g4, g5, canDSnoc g6 eT, by omega⟩
      refine iteF ⟨.ref c, rfl, c, dc, _, rfl, hc, rfl, .ref c, rfl, c, CC, dc, _, vr, rfl, hc, W.clO, W.n3, rfl, .ref c, rfl, c, CC, dc, _, .int n, rfl, hc, W.clO, W.n4, rfl, n, 1, rfl, rfl, ?_⟩
      refine ⟨c, dc, _, rc, va, vr, t, as, rs, n + 1, rfl, hc, .inr ⟨_, _, _, rfl⟩, hrc, hva, hvr, rt2, fun H' sv' k' hc' hsv' => q3 e H' k' ?_⟩
      have ts' := tsIns hc k'
      exact ⟨dc, va, vr, sv', hc', hrc.keep ts' fun x o e hx => k' _ _ (nx x e) hx, dpTS ts' (plArgs _) _ hva, dpTS ts' (plRows _) _ hvr, hsv', rt2⟩
def spCoCopied (K : PySem.W.Frag) (C CR CC : Addr) : Sp := fun vs H Q _ => ∃ c rc t as rs, ∃ n : Nat, vs = [.ref c] ∧ CoAt K C CR CC H c rc t as rs n ∧ ∀ c' H', H c' = none → Same H H' → CoAt K C CR CC H' c' rc t as rs n → Q (.ref c') H'
theorem scCoCopied : FnScope ["self", "course"] ["self"] (defScope sCoCopied) := ⟨rfl, rfl, rfl, by decide +kernel, rfl, by decide +kernel, by decide +kernel⟩
theorem okCoCopied {fI : Addr} {dI : FuncData} (W : CoC P w K mg base m C CR CC S) (gC : mg "Course" = some (.ref CC)) (M : Mk K CC fI) (bI : Binds K dI ["self", "recipe", "arguments"] []) (GI : FnOk P w K mg base CX0 (m + 2) fI dI ["self", "recipe", "arguments"] (spCoInit K C CR CC))
    (Sd : ∃ (f : Addr) (fd : FuncData), Meth K CC "_stand_at" f ∧ Binds K fd ["self", "answers", "count"] [] ∧ FnOk P w K mg base CX0 (m + 1) f fd ["self", "answers", "count"] (spStand K C CR CC))
    (F : FunD K "copied" "Course.copied" (defArgs sCoCopied) (defBody sCoCopied) (defScope sCoCopied) [] [] f fd) : FnOk P w K mg base CX0 (m + 4) f fd ["self"] (spCoCopied K C CR CC) := by
  obtain ⟨fS, dS, hS, bS, GS⟩ := Sd
  refine F.ok scCoCopied (fun vs H Q E h => ?_) (fun cdv A outer s H vs Q E hr h => ?_)
  · obtain ⟨c, rc, t, as, rs, n, rfl, _⟩ := h
    rfl
  · obtain ⟨c, rc, t, as, rs, n, rfl, ⟨dc, va, vr, sv, hc, hrc, hva, hvr, hsv, rt⟩, q⟩ := h
    have hr1 : Room (m + 1) _ := hr.mono (by omega)
    refine ⟨_, PSs.nox (pss_cons (ps_set (i := 1) scCoCopied.nd rfl (.inl rfl) (pe_make M GI hr (by rfl) gC bI .nil pass0 (pa_cons (pe_fld (pv 0) rfl) (pa_cons (pe_fld (pv 0) rfl) pa_nil)))) (pss_cons (ps_expr (pe_meth (pv 1) W.clO hS GS hr1 bS .nil pass0 (pa_cons (pe_fld (pv 0) rfl) (pa_cons (pe_fld (pv 0) rfl) pa_nil)))) (pss_one (ps_ret (pv 1))))), ?_⟩
    refine ⟨.ref c, rfl, c, CC, dc, _, rc, rfl, hc, W.clO, W.n1, rfl, .ref c, rfl, c, CC, dc, _, va, rfl, hc, W.clO, W.n2, rfl, fun x dx hx hdx ne => ?_⟩
    refine coMade hx hdx ne hrc hva rt.1 rt.2.1 fun H1 s1 h1 => ?_
    obtain ⟨c', rfl⟩ : ∃ c', c' = x := ⟨x, rfl⟩
    have n1 := hx
    obtain ⟨dc1, va1, vr1, sv1, hc1, hrc1, hva1, hvr1, hsv1, rt1⟩ := h1
    have hcc := s1 _ _ hc
    refine ⟨.ref c', rfl, c', dc1, _, rfl, hc1, rfl, .ref c, rfl, c, CC, dc, _, vr, rfl, hcc, W.clO, W.n3, rfl, .ref c, rfl, c, CC, dc, _, .int n, rfl, hcc, W.clO, W.n4, rfl, ?_⟩
    have nx : ∀ x, rc = .ref x → x ≠ c' := fun x e => RcAt.ne (e ▸ hrc1) hc1 rfl
    refine ⟨c', dc1, _, rc, va1, vr, t, as, rs, n, rfl, hc1, .inr ⟨_, _, _, rfl⟩, hrc1, hva1, dpSame s1 _ _ hvr, rt, fun H' sv' k' hc' hsv' => ⟨.ref c', rfl, q c' H' n1 (fun b o hb => k' _ _ (ne_of_none hb n1) (s1 _ _ hb)) ?_⟩⟩
    have ts' := tsIns hc1 k'
    exact ⟨dc1, va1, vr, sv', hc', hrc1.keep ts' fun x o e hx => k' _ _ (nx x e) hx, dpTS ts' (plArgs _) _ hva1, dpTS ts' (plRows _) _ (dpSame s1 _ _ hvr), hsv', rt⟩
end
end CO

set_option Elab.async false
set_option linter.all false
set_option maxRecDepth 100000
set_option maxHeartbeats 8000000
/-! runs -/
namespace CO
open PySem PySem.Spec PyProof.Rows L2 ND KS KS.La PLC TRE OC
open KX hiding sameUpd
abbrev sRnInit : Stmt := inClass (top 31) 0
abbrev sRnPlace : Stmt := inClass (top 31) 1
abbrev sRnStep : Stmt := inClass (top 31) 2
abbrev sRnTrail : Stmt := inClass (top 31) 3
abbrev sRnCall : Stmt := inClass (top 31) 4
abbrev sRnCopied : Stmt := inClass (top 31) 5
abbrev sRnNew : Stmt := inClass (top 31) 6
def fsR (rc pv co sv tl : V) : List (Str × V) := [("_recipe", rc), ("_place", pv), ("_course", co), ("_step", sv), ("_trail", tl)]
/-- an entry of a trail -/
def enD (p : Pc) (d : PyData) : PyData := .tuple [pcD p, d]
/-- a run at a place, with its trail -/
structure RunAt (K : PySem.W.Frag) (C CR CC CN : Addr) (H : Hp) (r c tl : Addr) (rc : V) (t : Tr) (nm : Str) (as : List Str) (rs : List (List (Option Str))) (n : Nat) (tr : List PyData) : Prop where
  ex : ∃ dr pv sv ts, H r = some (.ins CN dr (fsR rc pv (.ref c) sv (.ref tl))) ∧ Dp K H pv (pcD ⟨nm, as, rs, (n : Int)⟩) ∧ Dp K H sv (stD t as rs n) ∧ H tl = some (.lst ts) ∧ DpAll K H ts tr
  co : CoAt K C CR CC H c rc t as rs n
  pl : ∀ d ∈ tr, Pl 6 d
theorem RunAt.keep {K : PySem.W.Frag} {C CR CC CN : Addr} {H H' : Hp} {r c tl : Addr} {rc : V} {t : Tr} {nm : Str} {as : List Str} {rs : List (List (Option Str))} {n : Nat} {tr : List PyData} (h : RunAt K C CR CC CN H r c tl rc t nm as rs n tr) (ts : TS H H') (kr : ∀ o, H r = some o → H' r = some o) (kc : ∀ o, H c = some o → H' c = some o) (kt : ∀ o, H tl = some o → H' tl = some o)
    (kx : ∀ x o, rc = .ref x → H x = some o → H' x = some o) : RunAt K C CR CC CN H' r c tl rc t nm as rs n tr := by
  obtain ⟨⟨dr, pv, sv, us, h1, h2, h3, h4, h5⟩, hc, hp⟩ := h
  exact ⟨⟨dr, pv, sv, us, kr _ h1, dpTS ts (plPc _) _ h2, dpTS ts (plStep _ _) _ h3, kt _ h4, allPl hp ts h5⟩, hc.keep ts kc kx, hp⟩
theorem RunAt.same {K : PySem.W.Frag} {C CR CC CN : Addr} {H H' : Hp} {r c tl : Addr} {rc : V} {t : Tr} {nm : Str} {as : List Str} {rs : List (List (Option Str))} {n : Nat} {tr : List PyData} (h : RunAt K C CR CC CN H r c tl rc t nm as rs n tr) (s : Same H H') : RunAt K C CR CC CN H' r c tl rc t nm as rs n tr :=
  h.keep (TS.same s) (fun o e => s _ _ e) (fun o e => s _ _ e) (fun o e => s _ _ e) fun x o _ e => s _ _ e
theorem neField {H : Hp} {a b C D d e : Addr} {fs gs : List (Str × V)} {f : Str} {v : V} (ha : H a = some (.ins C d fs)) (hb : H b = some (.ins D e gs)) (h1 : fs.lookup f = some v) (h2 : gs.lookup f = none) : a ≠ b := fun z => by
  subst z
  have e1 := Option.some.inj (ha.symm.trans hb)
  injection e1 with _ _ e2
  rw [e2, h2] at h1
  cases h1
theorem neKind {H : Hp} {a b C d : Addr} {fs : List (Str × V)} {xs : List V} (ha : H a = some (.ins C d fs)) (hb : H b = some (.lst xs)) : a ≠ b := fun z => by
  subst z
  have e1 := Option.some.inj (ha.symm.trans hb)
  cases e1
theorem RcAt.neL {K : PySem.W.Frag} {C CR : Addr} {H : Hp} {x b : Addr} {t : Tr} {xs : List V} (h : RcAt K C CR H (.ref x) t) (hb : H b = some (.lst xs)) : x ≠ b := by
  obtain ⟨y, dx, ey, h⟩ := h
  cases ey
  rcases h with ⟨v, h, _⟩ | ⟨h, _⟩
  · exact neKind h hb
  · exact neKind h hb
def Kp3 (r c tl : Addr) (H H' : Hp) : Prop := ∀ b o, b ≠ r → b ≠ c → b ≠ tl → H b = some o → H' b = some o
structure RnC (P : Program) (w : World) (K : PySem.W.Frag) (mg : Str → Option Value) (base : Heap) (m : Nat) (C CR CC CN CH : Addr) : Prop where
  clC : Cls K C
  clR : Cls K CR
  clO : Cls K CC
  clN : Cls K CN
  n1 : NoAttr K CN "_recipe"
  n2 : NoAttr K CN "_place"
  n3 : NoAttr K CN "_course"
  n4 : NoAttr K CN "_step"
  n5 : NoAttr K CN "_trail"
  bg : ∃ (f : Addr) (fd : FuncData), Meth K C "begun" f ∧ Meth K CR "begun" f ∧ Binds K fd ["self", "arguments"] [] ∧ FnOk P w K mg base CX0 m f fd ["self", "arguments"] (spBegun K C CR CC)
  st : ∃ (p g : Addr) (fd : FuncData), PropOf K CC "step" p g ∧ Binds K fd ["self"] [] ∧ FnOk P w K mg base CX0 1 g fd ["self"] (getSp CC "_step")
  ca : ∃ (f : Addr) (fd : FuncData), StX.CallO K CC f ∧ Binds K fd ["self", "answers"] [] ∧ FnOk P w K mg base (L2.CX P w) m f fd ["self", "answers"] (spCoCall K C CR CC CH)
  cp : ∃ (f : Addr) (fd : FuncData), Meth K CC "copied" f ∧ Binds K fd ["self"] [] ∧ FnOk P w K mg base CX0 m f fd ["self"] (spCoCopied K C CR CC)
section
variable {P : Program} {w : World} {K : PySem.W.Frag} {mg : Str → Option Value} {base : Heap} {f : Addr} {fd : FuncData} {m : Nat} {C CR CC CN CH : Addr}
def spRnInit (K : PySem.W.Frag) (C CR CC CN : Addr) : Sp := fun vs H Q _ => ∃ r dr nm rc va t as, vs = [.ref r, .str nm, rc, va] ∧ H r = some (.ins CN dr []) ∧ RcAt K C CR H rc t ∧ (∀ x, rc = .ref x → x ≠ r) ∧ Dp K H va (argsD as) ∧ TrOk t ∧ (∀ z ∈ as, TOk z) ∧
  ∀ H' c tl, Kp r H H' → H c = none → H tl = none → RunAt K C CR CC CN H' r c tl rc t nm as [] 0 [] → Q .non H'
theorem scRnInit : FnScope ["self", "name", "recipe", "arguments"] ["self", "name", "recipe", "arguments"] (defScope sRnInit) := ⟨rfl, rfl, rfl, by decide +kernel, rfl, by decide +kernel, by decide +kernel⟩
theorem okRnInit {dvs : List V} (W : RnC P w K mg base m C CR CC CN CH) (hm : 2 ≤ m) (F : FunD K "__init__" "Run.__init__" (defArgs sRnInit) (defBody sRnInit) (defScope sRnInit) dvs [] f fd) : FnOk P w K mg base CX0 (m + 1) f fd ["self", "name", "recipe", "arguments"] (spRnInit K C CR CC CN) := by
  obtain ⟨fB, dB, hB1, hB2, bB, GB⟩ := W.bg
  obtain ⟨pS, gS, dS, hS, bS, GS⟩ := W.st
  refine F.ok scRnInit (fun vs H Q E h => ?_) (fun cdv A outer s H vs Q E hr h => ?_)
  · obtain ⟨r, dr, nm, rc, va, t, as, rfl, _⟩ := h
    rfl
  · obtain ⟨r, dr, nm, rc, va, t, as, rfl, hR, hrc, nx, hva, ht, hta, q⟩ := h
    have hr2 : Room (1 + 1) _ := hr.mono (by omega)
    have hrB : Room m _ := hr
    refine ⟨_, PSs.nox (pss_cons (ps_fld (pv 0) (pv 2) rfl) (C8.pss_cut (ps_fld (pv 0) (pe_tup (pa_cons (pv 1) (pa_cons (pv 3) (pa_cons (pe_tup pa_nil) (pa_cons (pe_int) pa_nil))))) rfl) (C8.pss_cut (ps_fld (pv 0) (pe_or (pe_meth (pv 2) W.clC hB1 GB hrB bB .nil pass0 (pa_cons (pv 3) pa_nil)) (pe_meth (pv 2) W.clR hB2 GB hrB bB .nil pass0 (pa_cons (pv 3) pa_nil))) rfl) (pss_cons (ps_fld (pv 0) (pe_prop (pe_fld (pv 0) rfl) W.clO hS GS hr2 bS .nil pass0 rfl) rfl) (pss_one (ps_fld (pv 0) (pe_lst pa_nil) rfl)))))), ?_⟩
    refine ⟨rc, rfl, .ref r, rfl, r, CN, dr, [], rfl, hR, W.clN, W.n1, by decide, ?_⟩
    have k0 : Kp r H (upd H r (.ins CN dr (putF "_recipe" rc []))) := Kp.put
    have hR0 : upd H r (.ins CN dr (putF "_recipe" rc [])) r = some (.ins CN dr [("_recipe", rc)]) := upd_same
    generalize upd H r (.ins CN dr (putF "_recipe" rc [])) = H0 at *
    have ts0 := tsIns hR k0
    -- the place
    refine ⟨fun σ' H' => ∃ pv, σ' = [some (.ref r), some (.str nm), some rc, some va] ∧ H' r = some (.ins CN dr [("_recipe", rc), ("_place", pv)]) ∧ Kp r H H' ∧ Dp K H' pv (pcD ⟨nm, as, [], 0⟩), ?_, ?_⟩
    · refine ⟨.str nm, rfl, va, rfl, Nat.zero_le _, fun p1 h1 => ⟨(by show 4 ≤ sizeLine; decide), fun p2 h2 => ⟨.ref r, rfl, r, CN, dr, [("_recipe", rc)], rfl, ?_, W.clN, W.n2, by show 1 < 1000; decide, .ref p2, rfl, upd_same, ?_, ?_⟩⟩⟩
      · exact ((KS.sameUpd h1).trans (KS.sameUpd h2)) _ _ hR0
      · exact (k0.trans (Kp.same ((KS.sameUpd h1).trans (KS.sameUpd h2)))).trans Kp.put
      · have s1 := KS.sameUpd (o := .tup []) h1
        have s2 := KS.sameUpd (o := .tup [.str nm, va, .ref p1, .int 0]) h2
        refine dpTS (tsIns (s2 _ _ (s1 _ _ hR0)) Kp.put) (plPc _) _ ?_
        exact pcMk (p := ⟨nm, as, [], 0⟩) (.inl (.inl upd_same)) (dpSame (s1.trans s2) _ _ (dpTS ts0 (plArgs _) _ hva)) (.tup (sameTup s2 (.inl (.inl upd_same))) .nil)
    rintro _ H1 ⟨pv, rfl, hR1, k1, hpv⟩
    have ts1 := tsIns hR k1
    -- the course
    refine ⟨fun σ' H' => ∃ c, σ' = [some (.ref r), some (.str nm), some rc, some va] ∧ H' r = some (.ins CN dr [("_recipe", rc), ("_place", pv), ("_course", .ref c)]) ∧ Kp r H H' ∧ H c = none ∧ Dp K H' pv (pcD ⟨nm, as, [], 0⟩) ∧ CoAt K C CR CC H' c rc t as [] 0, ?_, ?_⟩
    · have hrc1 := hrc.keep ts1 fun x o e hx => k1 _ _ (nx x e) hx
      have body : ∃ v u, [rc, va] = [v, u] ∧ RcAt K C CR H1 rc t := ⟨_, _, rfl, hrc1⟩
      have go : ∀ c H', H1 c = none → Same H1 H' → CoAt K C CR CC H' c rc t as [] 0 → ∃ v, (some (some (V.ref r)) : Option (Option V)) = some (some v) ∧ ∃ a C' dx' fs', v = .ref a ∧ H' a = some (.ins C' dx' fs') ∧ Cls K C' ∧ NoAttr K C' "_course" ∧ fs'.length < 1000 ∧
          ∃ c2, ([some (.ref r), some (.str nm), some rc, some va] : L2.St) = [some (.ref r), some (.str nm), some rc, some va] ∧ upd H' a (.ins C' dx' (putF "_course" (.ref c) fs')) r = some (.ins CN dr [("_recipe", rc), ("_place", pv), ("_course", .ref c2)]) ∧ Kp r H (upd H' a (.ins C' dx' (putF "_course" (.ref c) fs'))) ∧ H c2 = none ∧
            Dp K (upd H' a (.ins C' dx' (putF "_course" (.ref c) fs'))) pv (pcD ⟨nm, as, [], 0⟩) ∧ CoAt K C CR CC (upd H' a (.ins C' dx' (putF "_course" (.ref c) fs'))) c2 rc t as [] 0 := fun c H' n1 s1 hco => by
        have hR2 := s1 _ _ hR1
        have ts2 := tsIns hR2 (Kp.put (o := .ins CN dr (putF "_course" (.ref c) [("_recipe", rc), ("_place", pv)])))
        have n0 : H c = none := by
          cases e : H c with
          | none => rfl
          | some o =>
            by_cases z : c = r
            · rw [z, hR1] at n1; cases n1
            · rw [k1 _ _ z e] at n1; cases n1
        refine ⟨.ref r, rfl, r, CN, dr, _, rfl, hR2, W.clN, W.n3, by show 2 < 1000; decide, c, rfl, upd_same, ((k1.trans (Kp.same s1)).trans Kp.put), n0, dpTS ts2 (plPc _) _ (dpSame s1 _ _ hpv), ?_⟩
        have ncr : c ≠ r := fun z => by rw [z, hR1] at n1; cases n1
        exact hco.keep ts2 (fun o e => by rw [upd_ne ncr]; exact e) fun x o e hx => by rw [upd_ne (nx x e)]; exact hx
      obtain ⟨x, dx, ex, hx⟩ := id hrc1
      subst ex
      rcases hx with ⟨v, hx, hv⟩ | ⟨hx, et⟩
      · exact .inl ⟨.ref x, rfl, x, dx, _, rfl, hx, rfl, va, rfl, .ref x, va, t, as, rfl, hrc1, dpTS ts1 (plArgs _) _ hva, ht, hta, go⟩
      · exact .inr ⟨.ref x, rfl, x, dx, _, rfl, hx, rfl, va, rfl, .ref x, va, t, as, rfl, hrc1, dpTS ts1 (plArgs _) _ hva, ht, hta, go⟩
    rintro _ H2 ⟨c, rfl, hR2, k2, nc, hpv2, hco⟩
    obtain ⟨dc, va2, vr2, sv2, hc2, e2, e3, e4, e5, e6⟩ := id hco
    refine ⟨.ref r, rfl, r, CN, dr, _, .ref c, rfl, hR2, W.clN, W.n3, rfl, c, dc, _, rfl, hc2, c, dc, _, sv2, rfl, hc2, rfl, ?_⟩
    refine ⟨.ref r, rfl, r, CN, dr, _, rfl, hR2, W.clN, W.n4, by show 3 < 1000; decide, ?_⟩
    have k3 : Kp r H2 (upd H2 r (.ins CN dr (putF "_step" sv2 [("_recipe", rc), ("_place", pv), ("_course", .ref c)]))) := Kp.put
    have hR3 : upd H2 r (.ins CN dr (putF "_step" sv2 [("_recipe", rc), ("_place", pv), ("_course", .ref c)])) r = some (.ins CN dr [("_recipe", rc), ("_place", pv), ("_course", .ref c), ("_step", sv2)]) := upd_same
    generalize upd H2 r (.ins CN dr (putF "_step" sv2 [("_recipe", rc), ("_place", pv), ("_course", .ref c)])) = H3 at *
    refine ⟨Nat.zero_le _, fun tl htl => ⟨.ref r, rfl, r, CN, dr, _, rfl, KS.sameUpd htl _ _ hR3, W.clN, W.n5, by show 4 < 1000; decide, ?_⟩⟩
    have ncr : c ≠ r := fun z => by rw [z, hR] at nc; cases nc
    have ntr : tl ≠ r := fun z => by rw [z, hR3] at htl; cases htl
    have s4 := KS.sameUpd (o := .lst []) htl
    have kA : Kp r H2 (upd (upd H3 tl (.lst [])) r (.ins CN dr (putF "_trail" (.ref tl) [("_recipe", rc), ("_place", pv), ("_course", .ref c), ("_step", sv2)]))) := (k3.trans (Kp.same s4)).trans Kp.put
    have tsA := tsIns hR2 kA
    have ntl : H tl = none := by
      cases e : H tl with
      | none => rfl
      | some o => rw [k3 _ _ ntr (k2 _ _ ntr e)] at htl; cases htl
    refine q _ c tl (k2.trans kA) nc ntl ⟨⟨dr, pv, sv2, [], upd_same, dpTS tsA (plPc _) _ hpv2, dpTS tsA (plStep _ _) _ e5, by rw [upd_ne ntr]; exact upd_same, .nil⟩, ?_, fun d hd => absurd hd (by simp)⟩
    exact hco.keep tsA (fun o e => kA _ _ ncr e) fun x o e hx => kA _ _ (nx x e) hx
end
end CO

set_option Elab.async false
set_option linter.all false
set_option maxRecDepth 100000
set_option maxHeartbeats 4000000
/-! o.f(e, ..), o.f(): what stands in the instance's field is called -/
namespace OC
open PySem PySem.Spec PyProof.Rows L2 StX
section
variable {X : Cx} {CX : CXT} {k : Nat} {C D g : Addr} {fd : FuncData} {ps ks : List Str} {ds : List Value} {dvs : List V} {sp : Sp} {E : L2.St → XK} {o e : Expr} {es : List Expr} {ta : TE} {t tk : TA} {pos apos : Pos} {m : Str}
theorem getfld_ok {pins : List (Addr × Obj)} {σ : L2.St} {H : Hp} {s : Shared} {A : Around} {E : Value → Shared → Prop} {a dx : Addr} {fs : List (Str × V)} {v : V} {pl : Sem Bool} {Q : Value × List Value → Shared → Prop} (I : Inv X pins σ H s) (ea : H a = some (.ins C dx fs)) (c : Cls X.K C) (n : NoAttr X.K C m)
    (l : fs.lookup m = some v) (h : ∀ u s', Inv X pins σ H s' → RelV v u → Q (u, []) s') : wpAny (model X.prog X.w) A (getMethod (.ref a) m pl) Q E s := by
  obtain ⟨mA, O, r, _⟩ := ins_get I.hok ea
  obtain ⟨od, J, hl⟩ := O.look
  have two := PySem.W.plainGet_of (c.get m)
  have canon := PySem.F.canon_object_ga
  unfold getMethod specialOf
  refine wpAny_bind (wpAny_bind (J.type.here ((PySem.W.looks_findIn I.kIn two.1).here ?_)))
  dsimp only
  rw [canon, if_neg (by decide)]
  refine wpAny_bind (wpAny_bind (J.type.here ((PySem.W.looks_findIn I.kIn two.2).here ?_)))
  refine wpAny_bind (wpAny_bind (J.type.here ((PySem.W.looks_findIn I.kIn n).here ?_)))
  exact wpAny_bind (getattr_ok I ea c n l fun u s' I' ru => wpAny_pure (h u s' I' ru))
/-- o.f(e, ..) -/
def tF1 (D C : Addr) (m : Str) (sp : Sp) (E : L2.St → XK) (ta : TE) (t : TA) : TE := fun σ H Q => ta σ H fun x H1 => ∃ a dx fs b, x = .ref a ∧ H1 a = some (.ins D dx fs) ∧ fs.lookup m = some (.ref b) ∧ t σ H1 fun vs H2 => InsP H2 b C ∧ sp (V.ref b :: vs) H2 Q (E σ)
theorem pe_F1 {pl : Sem Bool} (ho : PE X o ta) (cD : Cls X.K D) (n : NoAttr X.K D m) (c : CallO X.K C g) (F : FnOk X.prog X.w X.K X.mg X.base CX k g fd ps sp) (hr : Room k X.A) (hb : Binds X.K fd ps []) (hx : ∀ σ, PassesAt CX X σ (E σ)) (ha : PA X (e :: es) t)
    (he : starEach (e :: es) X.env = (false, eval e X.env) :: starEach es X.env := by rfl) (hpl : (backTo pos (starEach es X.env)).any (·.1) = false := by rfl)
    (ht : eval (.Call (.Attribute o m apos) (e :: es) [] pos) X.env = (do
      let ov ← eval o X.env
      standAt apos.atName
      let (f, first) ← holding [ov] (getMethod ov m pl)
      callWith pos f first (backTo pos (starEach (e :: es) X.env)) (backToKw pos (keywordEach [] X.env))) := by rfl) : PE X (.Call (.Attribute o m apos) (e :: es) [] pos) (tF1 D C m sp E ta t) := by
  refine ⟨fun pins s σ H Q I h => ?_⟩
  refine PySem.W.methodCall_KW (pl := pl) (thn (ho.run pins s σ H _ I h) fun u s1 ⟨x, H1, I1, rx, a, dx, fs, b, ex, ea, l, q⟩ => ?_) ht
  subst ex
  obtain rfl : u = Value.ref a := rx
  refine getfld_ok I1 ea cD n l fun u2 s2 I2 ru => ?_
  obtain rfl : u2 = Value.ref b := ru
  refine callO_with (thn (ha.run pos pins s2 σ H1 _ I2 q) fun us s3 ⟨vs, H3, I3, r, hi, q2⟩ => ?_) he hpl
  obtain ⟨ox, od, J, hdd⟩ := insC_at I3 (.inr hi)
  refine ⟨⟨C, ox, od, J, hdd⟩, ?_⟩
  have r2 : Vals (V.ref b :: vs) (Value.ref b :: us) := .cons rfl r
  have b2 := hb s3 (.ref b :: us) I3.kIn (by rw [List.append_nil, ← r2.length]; exact F.len _ _ _ _ q2)
  rw [List.append_nil] at b2
  exact runS (kv := []) c F hr (hx σ) I3 (.inr hi) b2 r2 q2
end
end OC

set_option Elab.async false
set_option linter.all false
set_option maxRecDepth 100000
set_option maxHeartbeats 8000000
namespace CO
open PySem PySem.Spec PyProof.Rows L2 ND KS KS.La PLC TRE OC
open KX hiding sameUpd
theorem ts3 {H H' : Hp} {r c tl D d D2 d2 : Addr} {fs gs : List (Str × V)} {xs : List V} (hr : H r = some (.ins D d fs)) (hc : H c = some (.ins D2 d2 gs)) (ht : H tl = some (.lst xs)) (k : Kp3 r c tl H H') : TS H H' := fun a o e t => by
  refine k a o (fun z => ?_) (fun z => ?_) (fun z => ?_) e <;> subst z
  · have e2 := Option.some.inj (hr.symm.trans e)
    rcases t with ⟨xs, rfl⟩ | ⟨p, xs, rfl⟩ <;> cases e2
  · have e2 := Option.some.inj (hc.symm.trans e)
    rcases t with ⟨xs, rfl⟩ | ⟨p, xs, rfl⟩ <;> cases e2
  · have e2 := Option.some.inj (ht.symm.trans e)
    rcases t with ⟨xs, rfl⟩ | ⟨p, xs, rfl⟩ <;> cases e2
section
variable {P : Program} {w : World} {K : PySem.W.Frag} {mg : Str → Option Value} {base : Heap} {f : Addr} {fd : FuncData} {m : Nat} {C CR CC CN CH : Addr}
theorem scRnPlace : FnScope ["self"] ["self"] (defScope sRnPlace) := ⟨rfl, rfl, rfl, by decide +kernel, rfl, by decide +kernel, by decide +kernel⟩
theorem okRnPlace {k : Nat} (W : RnC P w K mg base m C CR CC CN CH) (F : FunD K "place" "Run.place" (defArgs sRnPlace) (defBody sRnPlace) (defScope sRnPlace) [] [] f fd) : FnOk P w K mg base CX0 (k + 1) f fd ["self"] (getSp CN "_place") := by
  refine F.ok scRnPlace (fun vs H Q E h => ?_) (fun cdv A outer s H vs Q E hr h => ?_)
  · obtain ⟨a, dx, fs, v, rfl, _⟩ := h
    rfl
  · obtain ⟨a, dx, fs, v, rfl, ha, hl, q⟩ := h
    exact ⟨_, PSs.nox (pss_one (ps_ret (pe_fld (pv 0) rfl))), .ref a, rfl, a, CN, dx, fs, v, rfl, ha, W.clN, W.n2, hl, q⟩
theorem scRnStep : FnScope ["self"] ["self"] (defScope sRnStep) := ⟨rfl, rfl, rfl, by decide +kernel, rfl, by decide +kernel, by decide +kernel⟩
theorem okRnStep {k : Nat} (W : RnC P w K mg base m C CR CC CN CH) (F : FunD K "step" "Run.step" (defArgs sRnStep) (defBody sRnStep) (defScope sRnStep) [] [] f fd) : FnOk P w K mg base CX0 (k + 1) f fd ["self"] (getSp CN "_step") := by
  refine F.ok scRnStep (fun vs H Q E h => ?_) (fun cdv A outer s H vs Q E hr h => ?_)
  · obtain ⟨a, dx, fs, v, rfl, _⟩ := h
    rfl
  · obtain ⟨a, dx, fs, v, rfl, ha, hl, q⟩ := h
    exact ⟨_, PSs.nox (pss_one (ps_ret (pe_fld (pv 0) rfl))), .ref a, rfl, a, CN, dx, fs, v, rfl, ha, W.clN, W.n4, hl, q⟩
def spRnTrail (K : PySem.W.Frag) (CN : Addr) : Sp := fun vs H Q _ => ∃ a dx fs tl ts tr, vs = [.ref a] ∧ H a = some (.ins CN dx fs) ∧ fs.lookup ("_trail" : Str) = some (.ref tl) ∧ H tl = some (.lst ts) ∧ DpAll K H ts tr ∧ ∀ v H', Same H H' → Dp K H' v (.tuple tr) → Q v H'
theorem scRnTrail : FnScope ["self"] ["self"] (defScope sRnTrail) := ⟨rfl, rfl, rfl, by decide +kernel, rfl, by decide +kernel, by decide +kernel⟩
theorem okRnTrail {k : Nat} (W : RnC P w K mg base m C CR CC CN CH) (B : Bn mg) (F : FunD K "trail" "Run.trail" (defArgs sRnTrail) (defBody sRnTrail) (defScope sRnTrail) [] [] f fd) : FnOk P w K mg base CX0 (k + 1) f fd ["self"] (spRnTrail K CN) := by
  refine F.ok scRnTrail (fun vs H Q E h => ?_) (fun cdv A outer s H vs Q E hr h => ?_)
  · obtain ⟨a, dx, fs, tl, ts, tr, rfl, _⟩ := h
    rfl
  · obtain ⟨a, dx, fs, tl, ts, tr, rfl, ha, hl, ht, hts, q⟩ := h
    refine ⟨_, PSs.nox (pss_one (ps_ret (pe_callTy (r := rTup K) (T := "tuple") call_tuple_of (by rfl) B.tuple (by decide +kernel) (pa_cons (pe_fld (pv 0) rfl) pa_nil)))), ?_⟩
    refine ⟨.ref a, rfl, a, CN, dx, fs, .ref tl, rfl, ha, W.clN, W.n5, hl, tl, ts, rfl, .inl ⟨.inl (.inl ht), fun l hn => ?_⟩⟩
    have s1 := KS.sameUpd (o := .tup ts) hn
    exact q _ _ s1 (.tup (.inl (.inl upd_same)) (dpAllSame s1 _ _ hts))
def spRnCall (K : PySem.W.Frag) (C CR CC CN CH : Addr) : Sp := fun vs H Q E => ∃ r c tl u rc t nm as rs tr row, ∃ n : Nat, vs = [.ref r, u] ∧ RunAt K C CR CC CN H r c tl rc t nm as rs n tr ∧ Dp K H u (rowD row) ∧ rs.length ≤ 100 ∧ n ≤ 100 ∧ tr.length ≤ 1000 ∧
  (stW (as.map some :: rs) (down (walk t rs) n) = "stop" → E (.ref CH) none H) ∧
  (stW (as.map some :: rs) (down (walk t rs) n) = "read" → RowOk row ∧ ∀ H', Kp3 r c tl H H' → RunAt K C CR CC CN H' r c tl rc t nm as (rs ++ [row]) 0 (tr ++ [enD ⟨nm, as, rs, n⟩ (stD t as rs n)]) → Q .non H') ∧
  (stW (as.map some :: rs) (down (walk t rs) n) = "write" → ∀ H', Kp3 r c tl H H' → RunAt K C CR CC CN H' r c tl rc t nm as rs (n + 1) (tr ++ [enD ⟨nm, as, rs, n⟩ (stD t as rs n)]) → Q .non H')
abbrev nRC : List Str := ["self", "answers", "place", "step"]
theorem scRnCall : FnScope nRC ["self", "answers"] (defScope sRnCall) := ⟨rfl, rfl, rfl, by decide +kernel, rfl, by decide +kernel, by decide +kernel⟩
theorem plEn (p : Pc) (t : Tr) (as : List Str) (rs : List (List (Option Str))) (n : Nat) : Pl 6 (enD p (stD t as rs n)) := .tup fun d hd => by
  simp only [List.mem_cons, List.not_mem_nil, or_false] at hd
  rcases hd with rfl | rfl
  · exact (plPc p).up (by omega)
  · exact (plStep _ _).up (by omega)
theorem okRnCall {dvs : List V} (W : RnC P w K mg base m C CR CC CN CH) (hm : 2 ≤ m) (AW : Has P w K mg base m "after_write" ["place"] (spAW K)) (AR : Has P w K mg base m "after_read" ["place", "answers"] (spAR K))
    (F : FunD K "__call__" "Run.__call__" (defArgs sRnCall) (defBody sRnCall) (defScope sRnCall) dvs [] f fd) : FnOk P w K mg base (L2.CX P w) (m + 1) f fd ["self", "answers"] (spRnCall K C CR CC CN CH) := by
  obtain ⟨pS, gS, dS, hS, bS, GS⟩ := W.st
  obtain ⟨fC, dC, hC, bC, GC⟩ := W.ca
  obtain ⟨fW, dW, gW, kW, bW, GW⟩ := AW.ex
  obtain ⟨fR, dR, gR, kR, bR, GR⟩ := AR.ex
  refine F.ok scRnCall (fun vs H Q E h => ?_) (fun cdv A outer s H vs Q E hr h => ?_)
  · obtain ⟨r, c, tl, u, rc, t, nm, as, rs, tr, row, n, rfl, _⟩ := h
    rfl
  · obtain ⟨r, c, tl, u, rc, t, nm, as, rs, tr, row, n, rfl, ⟨⟨dr, pv0, sv, ts, hR, hpv, hsv, htl, hts⟩, hco, hpl⟩, hu, lr, ln, ltr, q1, q2, q3⟩ := h
    have hr2 : Room (1 + 1) _ := hr.mono (by omega)
    refine ⟨_, (C8.pss_cut (ps_par (i := 2) (j := 3) (by rfl) scRnCall.nd rfl rfl (by decide) rfl rfl (pa_cons (pe_fld (pv 0) rfl) (pa_cons (pe_fld (pv 0) rfl) pa_nil)) (by rfl)) (C8.pss_cut (ps_expr (pe_F1 (pv 0) W.clN W.n3 hC GC hr bC (fun σ => passAt (takes_of rfl rfl rfl rfl) σ) (pa_cons (pv 1) pa_nil))) (C8.pss_cut (ps_fld (pv 0) (pe_prop (pe_fld (pv 0) rfl) W.clO hS GS hr2 bS .nil pass0 rfl) rfl) (C8.pss_cut (ps_fld (pv 0) (pe_ifExp (pt_cmpR op_eq (pe_ix ix_tup (pv 3) pe_int (fun _ _ => rfl)) pe_str (nomark _)) (pe_call GR hr (by rfl) gR kR bR .nil pass0 (pa_cons (pv 2) (pa_cons (pv 1) pa_nil))) (pe_call GW hr (by rfl) gW kW bW .nil pass0 (pa_cons (pv 2) pa_nil))) rfl) (pss_one (ps_expr (pe_bm PySem.F.plainAttrs_list PySem.F.slot_list_append PySem.F.type_list_append mt_append (pe_fld (pv 0) rfl) (pa_cons (pe_tup (pa_cons (pv 2) (pa_cons (pv 3) pa_nil))) pa_nil)))))))), ?_⟩
    obtain ⟨dc, va, vr, sc0, hc, hrc, hva, hvr, hsc, rt⟩ := id hco
    have ncr : r ≠ c := neField hR hc (f := "_course") rfl rfl
    have nrt : r ≠ tl := neKind hR htl
    have nct : c ≠ tl := neKind hc htl
    have nxr : ∀ x, rc = .ref x → x ≠ r := fun x e => RcAt.ne (e ▸ hrc) hR rfl
    have nxc : ∀ x, rc = .ref x → x ≠ c := fun x e => RcAt.ne (e ▸ hrc) hc rfl
    have nxt : ∀ x, rc = .ref x → x ≠ tl := fun x e => RcAt.neL (e ▸ hrc) htl
    refine ⟨fun σ' H' => σ' = [some (.ref r), some u, some pv0, some sv] ∧ H = H', ⟨.ref r, rfl, r, CN, dr, _, pv0, rfl, hR, W.clN, W.n2, rfl, .ref r, rfl, r, CN, dr, _, sv, rfl, hR, W.clN, W.n4, rfl, pv0, sv, rfl, rfl, rfl⟩, ?_⟩
    rintro _ _ ⟨rfl, rfl⟩
    -- the course goes on
    refine ⟨fun σ' H' => σ' = [some (.ref r), some u, some pv0, some sv] ∧ Kp c H H' ∧ ∃ rs' n', CoAt K C CR CC H' c rc t as rs' n' ∧ (∀ H2, Kp3 r c tl H H2 → RunAt K C CR CC CN H2 r c tl rc t nm as rs' n' (tr ++ [enD ⟨nm, as, rs, n⟩ (stD t as rs n)]) → Q .non H2) ∧
      ((stW (as.map some :: rs) (down (walk t rs) n) = "read" ∧ rs' = rs ++ [row] ∧ n' = 0) ∨ (stW (as.map some :: rs) (down (walk t rs) n) = "write" ∧ rs' = rs ∧ n' = n + 1)), ?_, ?_⟩
    · refine ⟨.ref r, rfl, r, dr, _, c, rfl, hR, rfl, u, rfl, ⟨_, _, hc⟩, ?_⟩
      refine ⟨c, u, rc, t, as, rs, row, n, rfl, hco, hu, by omega, by omega, q1, fun e => ⟨(q2 e).1, fun H' k h => ?_⟩, fun e H' k h => ?_⟩
      · exact ⟨rfl, k, _, _, h, (q2 e).2, .inl ⟨e, rfl, rfl⟩⟩
      · exact ⟨rfl, k, _, _, h, q3 e, .inr ⟨e, rfl, rfl⟩⟩
    rintro _ H1 ⟨rfl, k1, rs', n', hco1, qf, hw⟩
    have hR1 := k1 _ _ ncr hR
    have htl1 := k1 _ _ (Ne.symm nct) htl
    have ts1 := tsIns hc k1
    obtain ⟨dc1, va1, vr1, sv1, hc1, hrc1, hva1, hvr1, hsv1, rt1⟩ := id hco1
    -- its step
    refine ⟨fun σ' H' => σ' = [some (.ref r), some u, some pv0, some sv] ∧ H' r = some (.ins CN dr (fsR rc pv0 (.ref c) sv1 (.ref tl))) ∧ Kp r H1 H', ⟨.ref r, rfl, r, CN, dr, _, .ref c, rfl, hR1, W.clN, W.n3, rfl, c, dc1, _, rfl, hc1, c, dc1, _, sv1, rfl, hc1, rfl, .ref r, rfl, r, CN, dr, _, rfl, hR1, W.clN, W.n4, by show 5 < 1000; decide, rfl, upd_same, Kp.put⟩, ?_⟩
    rintro _ H2 ⟨rfl, hR2, k2⟩
    have ts2 := ts1.trans (tsIns hR1 k2)
    have hpv2 := dpTS ts2 (plPc _) _ hpv
    have hsv2 := dpTS ts2 (plStep _ _) _ hsv
    -- its place
    refine ⟨fun σ' H' => ∃ y, σ' = [some (.ref r), some u, some pv0, some sv] ∧ H' r = some (.ins CN dr (fsR rc y (.ref c) sv1 (.ref tl))) ∧ Kp r H2 H' ∧ Dp K H' y (pcD ⟨nm, as, rs', (n' : Int)⟩), ?_, ?_⟩
    · obtain ⟨a0, xs0, rfl, hs0, h0⟩ := stHead hsv2
      refine ⟨.ref a0, rfl, a0, xs0, 0, .str _, rfl, rfl, hs0, h0, rfl, _, rfl, ?_⟩
      rw [wordEq]
      rcases hw with ⟨e, rfl, rfl⟩ | ⟨e, rfl, rfl⟩
      · rw [e, rr]
        refine iteT ⟨pv0, rfl, u, rfl, pv0, u, _, row, rfl, hpv2, by show rs.length ≤ 100; exact lr, dpTS ts2 (plRow _) _ hu, fun y H3 s3 hy => ⟨.ref r, rfl, r, CN, dr, _, rfl, s3 _ _ hR2, W.clN, W.n2, by show 5 < 1000; decide, y, rfl, upd_same, (Kp.same s3).trans Kp.put, dpTS (tsIns (s3 _ _ hR2) Kp.put) (plPc _) _ hy⟩⟩
      · rw [e, wr']
        refine iteF ⟨pv0, rfl, pv0, _, rfl, hpv2, fun y H3 s3 hy => ⟨.ref r, rfl, r, CN, dr, _, rfl, s3 _ _ hR2, W.clN, W.n2, by show 5 < 1000; decide, y, rfl, upd_same, (Kp.same s3).trans Kp.put, dpTS (tsIns (s3 _ _ hR2) Kp.put) (plPc _) _ ?_⟩⟩
        exact hy
    rintro _ H4 ⟨y, rfl, hR4, k4, hy⟩
    have kA : Kp r H1 H4 := k2.trans k4
    have htl4 := kA _ _ (Ne.symm nrt) htl1
    have ts4 := ts1.trans (tsIns hR1 kA)
    -- the trail
    refine ⟨.ref r, rfl, r, CN, dr, _, .ref tl, rfl, hR4, W.clN, W.n5, rfl, .inl ⟨rfl, _, .inl (.inl htl4)⟩, pv0, rfl, sv, rfl, (by show 2 ≤ sizeLine; decide), fun p hp => ?_⟩
    have s5 := KS.sameUpd (o := .tup [pv0, sv]) hp
    have lts := dpLen hts
    refine ⟨tl, ts, .ref p, rfl, rfl, s5 _ _ htl4, by rw [sizeLine_eq]; omega, ?_⟩
    have t6 := TS.lst (o := .lst (ts ++ [.ref p])) (s5 _ _ htl4)
    have tsA : TS H (upd (upd H4 p (.tup [pv0, sv])) tl (.lst (ts ++ [.ref p]))) := (ts4.trans (TS.same s5)).trans t6
    have ts14 : TS H1 (upd (upd H4 p (.tup [pv0, sv])) tl (.lst (ts ++ [.ref p]))) := ((tsIns hR1 kA).trans (TS.same s5)).trans t6
    refine qf _ (fun b o n1 n2 n3 hb => ?_) ⟨⟨dr, y, sv1, ts ++ [.ref p], ?_, ?_, dpTS ts14 (plStep _ _) _ hsv1, upd_same, ?_⟩, hco1.keep ts14 (fun o e => ?_) (fun x o e hx => ?_), fun d hd => ?_⟩
    · rw [upd_ne n3]
      exact s5 _ _ (kA _ _ n1 (k1 _ _ n2 hb))
    · rw [upd_ne nrt]
      exact s5 _ _ hR4
    · exact dpTS ((TS.same s5).trans t6) (plPc _) _ hy
    · refine dpSnoc (dpTS t6 (plEn _ _ _ _ _) _ (.tup (.inl (.inl upd_same)) (.cons ?_ (.cons ?_ .nil)))) (allPl hpl tsA hts)
      · exact dpSame s5 _ _ (dpTS ts4 (plPc _) _ hpv)
      · exact dpSame s5 _ _ (dpTS ts4 (plStep _ _) _ hsv)
    · rw [upd_ne nct]
      exact s5 _ _ (kA _ _ (Ne.symm ncr) e)
    · rw [upd_ne (nxt x e)]
      exact s5 _ _ (kA _ _ (nxr x e) hx)
    · rcases List.mem_append.mp hd with z | z
      · exact hpl d z
      · rw [List.mem_singleton.mp z]
        exact plEn _ _ _ _ _
def spRnNew (CN : Addr) : Sp := fun vs H Q _ => ∃ x, vs = [x] ∧ ∀ r dr a b c d e H', H r = none → Same H H' → H' r = some (.ins CN dr (fsR a b c d e)) → Q (.ref r) H'
theorem scRnNew : FnScope ["self"] ["self"] (defScope sRnNew) := ⟨rfl, rfl, rfl, by decide +kernel, rfl, by decide +kernel, by decide +kernel⟩
theorem okRnNew {fI e : Addr} {dI : FuncData} {ds : List Value} (W : RnC P w K mg base m C CR CC CN CH) (gN : mg "Run" = some (.ref CN)) (gR : mg "Recipe" = some (.ref CR)) (bare : OW.Bare K CR) (M : Mk K CN fI) (he : ∀ H, SqT K H e []) (bI : Binds K dI ["self", "name", "recipe", "arguments"] ds) (vI : Vals [V.ref e] ds)
    (GI : FnOk P w K mg base CX0 (m + 1) fI dI ["self", "name", "recipe", "arguments"] (spRnInit K C CR CC CN)) (F : FunD K "_new_run" "Run._new_run" (defArgs sRnNew) (defBody sRnNew) (defScope sRnNew) [] [] f fd) : FnOk P w K mg base CX0 (m + 3) f fd ["self"] (spRnNew CN) := by
  refine F.ok scRnNew (fun vs H Q E h => ?_) (fun cdv A outer s H vs Q E hr h => ?_)
  · obtain ⟨x, rfl, _⟩ := h
    rfl
  · obtain ⟨x0, rfl, q⟩ := h
    refine ⟨_, PSs.nox (pss_one (ps_ret (pe_make M GI hr (by rfl) gN bI vI pass0 (pa_cons (pe_str) (pa_cons (OW.pe_bare bare (by rfl) gR) pa_nil))))), ?_⟩
    refine fun x dx hx hdx nex => fun r dr hr0 hdr ner => ?_
    have s1 : Same H (upd (upd H dx (.own x)) x (.ins CR dx [])) := fun b o hb => by
      rw [upd_ne (ne_of_none hb hx), upd_ne (ne_of_none hb hdx)]
      exact hb
    have hx1 : upd (upd H dx (.own x)) x (.ins CR dx []) x = some (.ins CR dx []) := upd_same
    generalize upd (upd H dx (.own x)) x (.ins CR dx []) = H1 at *
    have s2 : Same H1 (upd (upd H1 dr (.own r)) r (.ins CN dr [])) := fun b o hb => by
      rw [upd_ne (ne_of_none hb hr0), upd_ne (ne_of_none hb hdr)]
      exact hb
    have n0 : H r = none := by
      cases e : H r with
      | none => rfl
      | some o => rw [s1 _ _ e] at hr0; cases hr0
    refine ⟨r, dr, "", .ref x, .ref e, .stop, [], rfl, upd_same, ⟨x, dx, rfl, .inr ⟨s2 _ _ hx1, rfl⟩⟩, fun y ey z => ?_, .tup (he _) .nil, by rw [TrOk]; trivial, fun z hz => absurd hz (by simp), fun H' c tl k hc htl h => ⟨rfl, ?_⟩⟩
    · cases ey
      rw [z, hr0] at hx1
      cases hx1
    · obtain ⟨⟨dr', a1, a2, a3, h1, _⟩, _, _⟩ := h
      exact q r dr' _ _ _ _ _ H' n0 (fun b o hb => k _ _ (ne_of_none (s1 _ _ hb) hr0) (s2 _ _ (s1 _ _ hb))) h1
end
end CO

set_option Elab.async false
set_option linter.all false
set_option maxRecDepth 100000
set_option maxHeartbeats 8000000
namespace CO
open PySem PySem.Spec PyProof.Rows L2 ND KS KS.La PLC TRE OC
open KX hiding sameUpd
section
variable {P : Program} {w : World} {K : PySem.W.Frag} {mg : Str → Option Value} {base : Heap} {f : Addr} {fd : FuncData} {m : Nat} {C CR CC CN CH : Addr}
def spRnCopied (K : PySem.W.Frag) (C CR CC CN : Addr) : Sp := fun vs H Q _ => ∃ r c tl rc t nm as rs tr, ∃ n : Nat, vs = [.ref r] ∧ RunAt K C CR CC CN H r c tl rc t nm as rs n tr ∧
  ∀ r' c' tl' H', H r' = none → H c' = none → H tl' = none → Same H H' → RunAt K C CR CC CN H' r' c' tl' rc t nm as rs n tr → Q (.ref r') H'
theorem scRnCopied : FnScope ["self", "run"] ["self"] (defScope sRnCopied) := ⟨rfl, rfl, rfl, by decide +kernel, rfl, by decide +kernel, by decide +kernel⟩
theorem okRnCopied (W : RnC P w K mg base m C CR CC CN CH) (B : Bn mg) (Nw : ∃ (f : Addr) (fd : FuncData), Meth K CN "_new_run" f ∧ Binds K fd ["self"] [] ∧ FnOk P w K mg base CX0 (m + 3) f fd ["self"] (spRnNew CN))
    (F : FunD K "copied" "Run.copied" (defArgs sRnCopied) (defBody sRnCopied) (defScope sRnCopied) [] [] f fd) : FnOk P w K mg base CX0 (m + 4) f fd ["self"] (spRnCopied K C CR CC CN) := by
  obtain ⟨fN, dN, hN, bN, GN⟩ := Nw
  obtain ⟨fC, dC, hC, bC, GC⟩ := W.cp
  refine F.ok scRnCopied (fun vs H Q E h => ?_) (fun cdv A outer s H vs Q E hr h => ?_)
  · obtain ⟨r, c, tl, rc, t, nm, as, rs, tr, n, rfl, _⟩ := h
    rfl
  · obtain ⟨r, c, tl, rc, t, nm, as, rs, tr, n, rfl, hrun, q⟩ := h
    have hrC : Room m _ := hr.mono (by omega)
    refine ⟨_, PSs.nox (C8.pss_cut (ps_set (i := 1) scRnCopied.nd rfl (.inl rfl) (pe_meth0 (pv 0) W.clN hN GN hr bN .nil pass0)) (C8.pss_cut (ps_fld (pv 1) (pe_fld (pv 0) rfl) rfl) (C8.pss_cut (ps_fld (pv 1) (pe_meth0 (pe_fld (pv 0) rfl) W.clO hC GC hrC bC .nil pass0) rfl) (pss_cons (ps_fld (pv 1) (pe_fld (pv 0) rfl) rfl) (C8.pss_cut (ps_fld (pv 1) (pe_fld (pv 0) rfl) rfl) (pss_cons (ps_fld (pv 1) (pe_callTy call_list_of (by rfl) B.list (by decide +kernel) (pa_cons (pe_fld (pv 0) rfl) pa_nil)) rfl) (pss_one (ps_ret (pv 1))))))))), ?_⟩
    obtain ⟨⟨dr, pv0, sv, ts, hR, hpv, hsv, htl, hts⟩, hco, hpl⟩ := id hrun
    obtain ⟨dc, va, vr, sc0, hc, hrc, hva, hvr, hsc, rt⟩ := id hco
    -- a new one
    refine ⟨fun σ' H' => ∃ r' dr' a b c0 d e, σ' = [some (.ref r), some (.ref r')] ∧ H r' = none ∧ Same H H' ∧ H' r' = some (.ins CN dr' (fsR a b c0 d e)), ⟨.ref r, rfl, r, dr, _, rfl, hR, rfl, .ref r, rfl, fun r' dr' a b c0 d e H' n0 s1 h1 => ⟨r', dr', a, b, c0, d, e, rfl, n0, s1, h1⟩⟩, ?_⟩
    rintro _ H1 ⟨r', dr', a, b, c0, d, e, rfl, n0, s1, h1⟩
    have ner : r ≠ r' := fun z => by rw [← z, hR] at n0; cases n0
    -- its recipe
    refine ⟨fun σ' H' => σ' = [some (.ref r), some (.ref r')] ∧ Kp r' H H' ∧ H' r' = some (.ins CN dr' (fsR rc b c0 d e)), ⟨.ref r, rfl, r, CN, dr, _, rc, rfl, s1 _ _ hR, W.clN, W.n1, rfl, .ref r', rfl, r', CN, dr', _, rfl, h1, W.clN, W.n1, by show 5 < 1000; decide, rfl, (Kp.same s1).trans Kp.put, upd_same⟩, ?_⟩
    rintro _ H2 ⟨rfl, k2, h2⟩
    have hS2 : Same H H2 := fun x o hx => k2 _ _ (ne_of_none hx n0) hx
    -- its course
    refine ⟨fun σ' H' => ∃ c', σ' = [some (.ref r), some (.ref r')] ∧ Same H H' ∧ H c' = none ∧ H' r' = some (.ins CN dr' (fsR rc b (.ref c') d e)) ∧ CoAt K C CR CC H' c' rc t as rs n, ?_, ?_⟩
    · refine ⟨.ref r, rfl, r, CN, dr, _, .ref c, rfl, hS2 _ _ hR, W.clN, W.n3, rfl, c, dc, _, rfl, hS2 _ _ hc, rfl, ?_⟩
      refine ⟨c, rc, t, as, rs, n, rfl, hco.same hS2, fun c' H3 n3 s3 h3 => ⟨.ref r', rfl, r', CN, dr', _, rfl, s3 _ _ h2, W.clN, W.n3, by show 5 < 1000; decide, c', rfl, fun x o hx => ?_, ?_, upd_same, ?_⟩⟩
      · rw [upd_ne (ne_of_none hx n0)]
        exact s3 _ _ (hS2 _ _ hx)
      · cases ec : H c' with
        | none => rfl
        | some o => rw [hS2 _ _ ec] at n3; cases n3
      · have nc : c' ≠ r' := fun z => by rw [z, h2] at n3; cases n3
        refine h3.keep (tsIns (s3 _ _ h2) Kp.put) (fun o eo => by rw [upd_ne nc]; exact eo) fun x o ex hx => ?_
        rw [upd_ne (fun z => ?_)]
        · exact hx
        · subst z
          subst ex
          exact (RcAt.ne (hrc.same hS2 |>.same s3) (s3 _ _ h2) (fs := fsR _ b c0 d e) rfl) rfl
    rintro _ H3 ⟨c', rfl, s3, nc', h3, hco3⟩
    refine ⟨.ref r, rfl, r, CN, dr, _, pv0, rfl, s3 _ _ hR, W.clN, W.n2, rfl, .ref r', rfl, r', CN, dr', _, rfl, h3, W.clN, W.n2, by show 5 < 1000; decide, ?_⟩
    refine ⟨fun σ' H' => σ' = [some (.ref r), some (.ref r')] ∧ Kp r' H3 H' ∧ H' r' = some (.ins CN dr' (fsR rc pv0 (.ref c') sv e)), ?_, ?_⟩
    · refine ⟨.ref r, rfl, r, CN, dr, fsR rc pv0 (.ref c) sv (.ref tl), sv, rfl, ?_, W.clN, W.n4, rfl, .ref r', rfl, r', CN, dr', _, rfl, upd_same, W.clN, W.n4, by show 5 < 1000; decide, rfl, Kp.put.trans Kp.put, upd_same⟩
      rw [upd_ne ner]
      exact s3 _ _ hR
    rintro _ H4 ⟨rfl, k4, h4⟩
    have hR4 := k4 _ _ ner (s3 _ _ hR)
    have ntl : tl ≠ r' := fun z => by rw [← z, htl] at n0; cases n0
    have htl4 := k4 _ _ ntl (s3 _ _ htl)
    refine ⟨.ref r, rfl, r, CN, dr, _, .ref tl, rfl, hR4, W.clN, W.n5, rfl, tl, ts, rfl, .inl (.inl (.inl htl4)), fun l hl => ?_⟩
    have s5 := KS.sameUpd (o := .lst ts) hl
    have nlr : l ≠ r' := fun z => by rw [z, h4] at hl; cases hl
    have nl : H l = none := by
      cases el : H l with
      | none => rfl
      | some o => rw [k4 _ _ nlr (s3 _ _ el)] at hl; cases hl
    refine ⟨.ref r', rfl, r', CN, dr', _, rfl, s5 _ _ h4, W.clN, W.n5, by show 5 < 1000; decide, .ref r', rfl, ?_⟩
    have kA : Kp r' H3 (upd (upd H4 l (.lst ts)) r' (.ins CN dr' (putF "_trail" (.ref l) (fsR rc pv0 (.ref c') sv e)))) := (k4.trans (Kp.same s5)).trans Kp.put
    have tsA := (TS.same s3).trans (tsIns h3 kA)
    have nc3 : c' ≠ r' := by
      obtain ⟨dc', va', vr', sc', hc', _⟩ := id hco3
      exact fun z => neField h3 hc' (f := "_course") rfl rfl z.symm
    have nx3 : ∀ x, rc = .ref x → x ≠ r' := fun x ex => RcAt.ne (ex ▸ hrc.same s3) h3 (fs := fsR rc b (.ref c') d e) (by rw [ex]; rfl)
    refine q r' c' l _ n0 nc' nl (fun x o hx => kA _ _ (ne_of_none hx n0) (s3 _ _ hx)) ⟨⟨dr', pv0, sv, ts, upd_same, dpTS tsA (plPc _) _ hpv, dpTS tsA (plStep _ _) _ hsv, ?_, allPl hpl tsA hts⟩, ?_, hpl⟩
    · rw [upd_ne nlr]
      exact upd_same
    · exact hco3.keep (tsIns h3 kA) (fun o eo => kA _ _ nc3 eo) fun x o ex hx => kA _ _ (nx3 x ex) hx
end
end CO

set_option Elab.async false
set_option linter.all false
set_option maxRecDepth 100000
set_option maxHeartbeats 4000000
/-! a dict's display with one more dict in it: {**d, k: v} -/
namespace MM
open PySem PySem.Spec PyProof.Rows L2
section
variable {prog : Program} {w : World} {K : Type} [DecidableEq K] {knd : KeyKind prog w K} {A : Around} {E : Value → Shared → Prop} {s : Shared}
theorem putAt {d : Addr} {kvs : List (K × Value)} {k : K} {key v : Value} {Q : Unit → Shared → Prop} (hkey : knd.is k key = true) (hm : s.heap.DictOf knd d kvs) (hsz : kvs.length ≤ sizeLine)
    (hQ : ∀ h', h'.DictOf knd d (stored kvs k v) → Heap.SameBut d s.heap h' → Q () { s with heap := h' }) : wpAny (model prog w) A (dictPut d (knd.hash k) key v) Q E s := by
  obtain ⟨o, es, ep, ho, hc, hd, hk, hp, hn⟩ := hm
  have hes : es.size ≤ sizeLine := by
    have e1 := hp.length
    rw [Array.length_toList] at e1
    omega
  have same : (es.findIdx? fun e => knd.is k e.key) = kvs.findIdx? fun kv => decide (kv.1 = k) := by
    rw [← hp.findIdx k]
    obtain ⟨l⟩ := es
    simp
  unfold dictPut
  refine wpAny_bind (wpAny_dictFind_of hkey ho hd hk ?_)
  rcases hi : es.findIdx? fun e => knd.is k e.key with _ | i
  · have no : k ∉ kvs.map (·.1) := not_mem_of_findIdx_none (same ▸ hi)
    have st : stored kvs k v = kvs ++ [(k, v)] := by
      unfold stored
      rw [if_neg]
      intro h
      obtain ⟨q, hq, e⟩ := List.any_eq_true.mp h
      exact no (List.mem_map.mpr ⟨q, hq, of_decide_eq_true e⟩)
    have hq := hQ
    rw [st] at hq
    rw [hi]
    refine wpAny_updateDictKeys (f := fun es => es.push ⟨knd.hash k, key, v⟩) (hz := hes) ho hd (hq _ ?_ (Heap.SameBut.update ..))
    refine ⟨_, _, ep + 1, Heap.get?_update_self _ ho (Obj.isFreed_of_dict (Obj.data_mapDictKeys hd _)), hc.mapDictKeys _, Obj.data_mapDictKeys hd _, hk.push hkey _, ?_, ?_⟩
    · have := hp.append hkey (knd.hash k) v
      obtain ⟨l⟩ := es
      simpa using this
    · rw [List.map_append, List.nodup_append]
      refine ⟨hn, by simp, fun a ha b hb e => no ?_⟩
      rw [List.map_cons, List.map_nil, List.mem_singleton] at hb
      have ea : a = k := e.trans hb
      exact ea ▸ ha
  · have st : stored kvs k v = kvs.map fun kv => if kv.1 = k then (kv.1, v) else kv := by
      unfold stored
      rw [if_pos (any_of_findIdx_some (same ▸ hi))]
    have hl : (es.toList.findIdx? fun e => knd.is k e.key) = some i := by
      rw [← hi]
      obtain ⟨l⟩ := es
      simp
    have hq := hQ
    rw [st] at hq
    rw [hi]
    refine wpAny_updateDict (f := fun es => es.modify i fun e => { e with val := v }) ho hd (hq _ ?_ (Heap.SameBut.update ..))
    refine ⟨_, _, ep, Heap.get?_update_self _ ho (Obj.isFreed_of_dict (Obj.data_mapDict hd _)), hc.mapDict _, Obj.data_mapDict hd _, hk.modify _ _, ?_, ?_⟩
    · have := hp.modify hn hl v
      obtain ⟨l⟩ := es
      simpa using this
    · rw [keys_map_store]
      exact hn
theorem merge_plain {d a : Addr} {kvs more : List (K × Value)} {Q : Unit → Shared → Prop} (hda : d ≠ a) (hoS : (a == sysModules) = false) (hd : s.heap.DictOf knd d kvs) (ha : s.heap.DictOf knd a more)
    (hsz : kvs.length + more.length ≤ sizeLine) (hQ : ∀ h', h'.DictOf knd d (merged kvs more) → Heap.SameBut d s.heap h' → Q () { s with heap := h' }) :
    wpAny (model prog w) A (mergeMapping d (.ref a) false) Q E s := by
  have tA := ha.typeIs (s := s)
  obtain ⟨od, esd, epd, hod, hcd, hdd, hkd, hpd, hnd⟩ := id hd
  obtain ⟨oo, eso, epo, hoo, hco, hdo, hko, hpo, hno⟩ := id ha
  have hlen : more.length = eso.size := by
    rw [← hpo.length, Array.length_toList]
  unfold mergeMapping
  refine wpAny_bind ?_
  refine wpAny_bind (wpAny_typeOf tA (wpAny_of_eq isSubtype_dict_dict ?_))
  rw [if_pos rfl]
  refine wpAny_bind (wpAny_specialOf tA F.slot_dict_iter.lookup ?_)
  refine wpAny_bind (wpAny_pure ?_)
  simp only [beq_self_eq_true]
  rw [if_neg (by rw [hoS]; exact Bool.false_ne_true)]
  have main : wpAny (model prog w) A (do
      let l ← dictEntries a
      let epoch ← dictEpoch a
      forIn (List.range l.size) PUnit.unit fun i (_ : PUnit) => (do
          let l' ← dictEntries a
          match l'[i]? with
            | some e => do
              holding [e.key, e.val] (dictPut d e.hash e.key e.val)
              let ep' ← dictEpoch a
              if (ep' != epoch) = true then do
                  (unsupported "dict.changed-during-merge" : Sem PUnit)
                  pure (ForInStep.yield PUnit.unit)
                else pure (ForInStep.yield PUnit.unit)
            | _ => do
              (unsupported "dict.changed-during-merge" : Sem PUnit)
              pure (ForInStep.yield PUnit.unit) : Sem (ForInStep PUnit))
      pure ()) Q E s := by
    refine wpAny_bind (wpAny_dictEntries hoo hdo ?_)
    refine wpAny_bind (wpAny_dictEpoch hoo hdo ?_)
    refine wpAny_bind ?_
    rw [List.range_eq_range']
    refine wpAny_forIn_list _ (fun l _ t => ∃ h' i, t = { s with heap := h' } ∧ l = List.range' i (eso.size - i) ∧ i ≤ eso.size ∧ h'.DictOf knd d (merged kvs (more.take i)) ∧ h'.get? a = some oo ∧ Heap.SameBut d s.heap h') _ ?_ ?_ _ _
      ⟨s.heap, 0, rfl, by simp, Nat.zero_le _, by simpa [merged] using hd, hoo, Heap.SameBut.refl _ _⟩
    · rintro x l b t ⟨h', i, rfl, hr, hi, hd', ha', hs'⟩
      have lt : i < eso.size := by
        refine Nat.lt_of_not_le fun h => ?_
        rw [Nat.sub_eq_zero_of_le h] at hr
        cases hr
      rw [show eso.size - i = (eso.size - (i + 1)) + 1 by omega, List.range'_succ] at hr
      injection hr with e1 e2
      subst e1
      refine wpAny_bind (wpAny_dictEntries ha' hdo ?_)
      rw [Array.getElem?_eq_getElem lt]
      have hm : ∃ k v, more[x]? = some (k, v) := by
        have hx : x < more.length := hlen ▸ lt
        exact ⟨_, _, List.getElem?_eq_getElem hx⟩
      obtain ⟨k, v, hkv⟩ := hm
      obtain ⟨hk1, hv1⟩ := hpo.get? (e := eso[x]) (by simp [lt]) hkv
      obtain ⟨k2, hk2, hh⟩ := hko eso[x] (Array.getElem_mem lt)
      obtain rfl : k2 = k := knd.inj _ _ _ hk2 hk1
      show wpAny _ _ (holding [eso[x].key, eso[x].val] (dictPut d eso[x].hash eso[x].key eso[x].val) >>= _) _ _ _
      rw [hh, hv1]
      have small : (merged kvs (more.take x)).length ≤ sizeLine := by
        have q1 := merged_length_le kvs (more.take x)
        have q2 := List.length_take_le x more
        omega
      refine wpAny_bind (wpAny_holding (putAt hk1 hd' small fun h2 hd2 hs2 => ?_))
      have ha2 : h2.get? a = some oo := (hs2.2 a (Ne.symm hda)).trans ha'
      refine wpAny_bind (wpAny_dictEpoch ha2 hdo ?_)
      rw [if_neg (by simp)]
      exact wpAny_pure ⟨h2, x + 1, rfl, e2, lt, by rw [merged_take_succ kvs more x _ hkv]; exact hd2, ha2, hs'.trans hs2⟩
    · rintro b t ⟨h', i, rfl, hr, hi, hd', ha', hs'⟩
      have ei : i = more.length := by
        refine hlen ▸ Nat.le_antisymm hi (Nat.le_of_not_lt fun h => ?_)
        rw [show eso.size - i = (eso.size - (i + 1)) + 1 by omega, List.range'_succ] at hr
        cases hr
      rw [ei, List.take_length] at hd'
      exact wpAny_pure (hQ h' hd' hs')
  refine wpAny_bind (wpAny_dictEntries hod hdd ?_)
  split
  · refine wpAny_bind (wpAny_dictEntries hoo hdo ?_)
    refine wpAny_bind ?_
    rw [← Array.forIn_toList]
    refine wpAny_forIn_list _ (fun l _ t => t = s ∧ ∀ e ∈ l, ∃ k, knd.is k e.key = true) _ ?_ ?_ _ _ ⟨rfl, fun e he => ?_⟩
    · rintro x l b t ⟨rfl, hl⟩
      obtain ⟨k, hk⟩ := hl x List.mem_cons_self
      have bv := knd.byValue _ _ hk
      split
      · rename_i r er
        rw [er] at bv
        cases bv
      · exact wpAny_pure ⟨rfl, fun e he => hl e (List.mem_cons_of_mem _ he)⟩
    · rintro b t ⟨rfl, _⟩
      exact main
    · obtain ⟨k, hk, _⟩ := hko e (by simpa using he)
      exact ⟨k, hk⟩
  · exact main
end
end MM

set_option Elab.async false
set_option linter.all false
set_option maxRecDepth 100000
set_option maxHeartbeats 4000000
namespace MM
open PySem PySem.Spec PyProof.Rows L2
def tStarPut (tm tk tv : TE) : TE := fun σ H Q => ∀ d, H d = none → tm σ (upd H d (.dK [])) fun x H1 => ∃ a kvs, x = .ref a ∧ Rd H1 a (.dK kvs) ∧ d ≠ a ∧ H1 d = some (.dK []) ∧ kvs.length < sizeLine ∧
  ∀ u, upd H1 d (.dK kvs) u = none → tk σ (upd (upd H1 d (.dK kvs)) u (.dK [])) fun y H2 => tv σ H2 fun z H3 => ∃ key : Key, y = kV key ∧ H3 u = some (.dK []) ∧ H3 d = some (.dK kvs) ∧ Q (.ref d) (upd (upd H3 u (.dK [(key, z)])) d (.dK (putK kvs key z)))
section
variable {X : Cx} {em k ev : Expr} {pos : Pos} {tm tk tv : TE}
theorem pe_starPut (hm : PE X em tm) (hk : PE X k tk) (hv : PE X ev tv) : PE X (.Dict [none, some k] [em, ev] pos) (tStarPut tm tk tv) := by
  refine ⟨fun pins s σ H Q I q => ?_⟩
  rw [arm_eval_Dict]
  refine wpAny_bind (wpAny_standAt ?_)
  show wpAny _ _ (dictDisplay [(none, (do let x ← eval em X.env; standAt pos; pure x)), (some (eval k X.env), (do let x ← eval ev X.env; standAt pos; pure x))]) _ _ _
  unfold dictDisplay
  dsimp only
  refine wpAny_bind ?_
  rw [List.forIn_cons]
  refine wpAny_bind ?_
  dsimp only
  refine wpAny_bind (wpAny_pure ?_)
  dsimp only
  refine wpAny_bind (wpAny_alloc ?_)
  have hn := I.hok.fresh (Nat.le_refl s.heap.objs.size)
  have I1 := I.laid (a := s.heap.objs.size) (o := .dK []) (h' := s.heap.push { cls := .type "dict", data := .dict #[] }) (t' := s.toks) (fun _ _ q => Heap.get?_push_of_some _ q) (Nat.le_refl _) (dk_empty s.heap I.big)
  refine wpAny_bind (wpAny_holding (wpAny_bind (thn (hm.run pins _ σ _ _ I1 (q _ hn)) fun m s2 ⟨x, H2, I2, rx, a, kvs, ex, ha, ne, hd0, hz, q2⟩ => wpAny_bind (wpAny_standAt (wpAny_pure ?_)))))
  subst ex
  cases rx
  obtain ⟨z0, hd1, vs0, r0, dd0⟩ := dk_of I2.hok hd0
  cases r0
  obtain ⟨z1, ha1, vs1, r1, dd1⟩ := dk_rd I2.hok ha
  have nod : (vs1.map (·.1)).Nodup := let ⟨_, _, _, _, _, _, _, _, h⟩ := dd1; h
  refine wpAny_bind (wpAny_onRaise (wpAny_tryCatch (wpAny_onRaise (wpAny_holding (merge_plain ne ha1 dd0 dd1 (by rw [List.length_nil, Nat.zero_add, ← r1.length]; exact z1) fun h3 d3 hs3 => ?_)))))
  rw [merged_nil_of_nodup vs1 nod] at d3
  have he3 : ∃ q, h3.get? s.heap.objs.size = some q := let ⟨q, _, _, hq, _⟩ := d3; ⟨q, hq⟩
  have I3 := d_write (ob := .dK kvs) (t' := s2.toks) I2 (by rw [hd0]; exact True.intro) hs3 he3 (dk_new z1 hd1 r1 d3)
  refine wpAny_pure ?_
  dsimp only
  rw [List.forIn_cons]
  refine wpAny_bind ?_
  dsimp only
  rw [if_neg (by simp)]
  refine wpAny_pure ?_
  dsimp only
  rw [List.forIn_nil]
  refine wpAny_pure ?_
  dsimp only
  rw [if_neg (by simp)]
  refine wpAny_bind ?_
  refine wpAny_bind (wpAny_holding (wpAny_subDict (knd := mixKind X.prog X.w) (by simp) ?_))
  have hn3 := I3.hok.fresh (Nat.le_refl h3.objs.size)
  have I4 := I3.laid (a := h3.objs.size) (o := .dK []) (h' := h3.push { cls := .type "dict", data := .dict #[] }) (t' := s2.toks) (fun _ _ q => Heap.get?_push_of_some _ q) (Nat.le_refl _) (dk_empty h3 I3.big)
  show wpAny _ _ (evalPairs [(eval k X.env, (do let x ← eval ev X.env; standAt pos; pure x))]) _ _ _
  unfold evalPairs evalPairs
  refine wpAny_bind (thn (hk.run pins _ σ _ _ I4 (q2 _ hn3)) fun kv s5 ⟨y, H5, I5, ry, q5⟩ => ?_)
  refine wpAny_bind (wpAny_holding (wpAny_bind (thn (hv.run pins s5 σ _ _ I5 q5) fun vv s6 ⟨z, H6, I6, rz, key, ey, eu, ed, q6⟩ => wpAny_bind (wpAny_standAt (wpAny_pure ?_)))))
  refine wpAny_bind (wpAny_holding (wpAny_pure (wpAny_pure ?_)))
  subst ey
  obtain ⟨rs, c, rk⟩ := carries_of (P := X.prog) (w := X.w) (kvs := [(key, z)]) (ws := [(kv, vv)]) (.cons ⟨ry, rz⟩ .nil)
  obtain ⟨z6, hu6, vs6, r6, dd6⟩ := dk_of I6.hok eu
  cases r6
  refine ⟨rs, c, dd6, fun h7 dd7 hs7 => ?_⟩
  have he7 : ∃ q, h7.get? h3.objs.size = some q := let ⟨q, _, _, hq, _⟩ := dd7; ⟨q, hq⟩
  have rk1 : KV [(key, z)] (merged [] rs) := rk.merge .nil
  have I7 := d_write (ob := .dK [(key, z)]) (t' := s6.toks + [(kv, vv)].length) I6 (by rw [eu]; exact True.intro) hs7 he7 (dk_new (by rw [sizeLine_eq]; simp) hu6 rk1 dd7)
  have nud : h3.objs.size ≠ s.heap.objs.size := fun e => by
    rw [e, upd_same] at hn3
    cases hn3
  have ed7 : upd H6 h3.objs.size (.dK [(key, z)]) s.heap.objs.size = some (.dK kvs) := by rw [upd_ne (Ne.symm nud)]; exact ed
  obtain ⟨z8, hd8, vs8, r8, dd8⟩ := dk_of I7.hok ed7
  refine wpAny_bind (wpAny_onRaise (wpAny_holding (merge_plain (Ne.symm nud) hu6 dd8 dd7 ?_ fun h9 d9 hs9 => ?_)))
  · have e1 := rk1.length
    have e2 := r8.length
    rw [← e1, ← e2, List.length_singleton]
    omega
  · have he9 : ∃ q, h9.get? s.heap.objs.size = some q := let ⟨q, _, _, hq, _⟩ := d9; ⟨q, hq⟩
    have rk9 : KV (mergeK kvs [(key, z)]) (merged vs8 (merged [] rs)) := rk1.merge r8
    have z9 : (mergeK kvs [(key, z)]).length ≤ sizeLine := by
      have := length_mergeK [(key, z)] kvs
      rw [List.length_singleton] at this
      omega
    have I9 := d_write (ob := .dK (mergeK kvs [(key, z)])) (t' := s6.toks + [(kv, vv)].length) I7 (by rw [ed7]; exact True.intro) hs9 he9 (dk_new z9 hd8 rk9 d9)
    exact wpAny_pure (wpAny_pure ⟨.ref s.heap.objs.size, _, I9, rfl, q6⟩)
end
end MM

set_option Elab.async false
set_option linter.all false
set_option maxRecDepth 100000
set_option maxHeartbeats 8000000
/-! workshops -/
namespace CO
open PySem PySem.Spec PyProof.Rows L2 ND KS KS.La PLC TRE OC
open KX hiding sameUpd
abbrev sWInit : Stmt := inClass (top 33) 0
abbrev sWHas : Stmt := inClass (top 33) 1
abbrev sWLen : Stmt := inClass (top 33) 2
abbrev sWRecipe : Stmt := inClass (top 33) 3
abbrev sWStep : Stmt := inClass (top 33) 4
abbrev sWBegin : Stmt := inClass (top 33) 5
abbrev sWChanged : Stmt := inClass (top 33) 6
def RcT (K : PySem.W.Frag) (C : Addr) (H : Hp) (rc : V) (t : Tr) : Prop := ∃ x dx v, rc = .ref x ∧ H x = some (.ins C dx [("_node", v)]) ∧ Dp K H v (trD t)
def RcN (CR : Addr) (H : Hp) (rc : V) : Prop := ∃ x dx, rc = .ref x ∧ H x = some (.ins CR dx [])
theorem RcT.rc {K : PySem.W.Frag} {C CR : Addr} {H : Hp} {rc : V} {t : Tr} (h : RcT K C H rc t) : RcAt K C CR H rc t := let ⟨x, dx, v, e, h1, h2⟩ := h; ⟨x, dx, e, .inl ⟨v, h1, h2⟩⟩
theorem RcN.rc {K : PySem.W.Frag} {C CR : Addr} {H : Hp} {rc : V} (h : RcN CR H rc) : RcAt K C CR H rc .stop := let ⟨x, dx, e, h1⟩ := h; ⟨x, dx, e, .inr ⟨h1, rfl⟩⟩
/-- what never changes: tuples, recipes, workshops -/
def Stl (H H' : Hp) : Prop := ∀ b o, H b = some o → ((∃ xs, o = .tup xs) ∨ (∃ p xs, o = .frz p (.tup xs)) ∨ (∃ D d v, o = .ins D d [("_node", v)]) ∨ (∃ D d, o = .ins D d []) ∨ ∃ D d v, o = .ins D d [("_recipes", v)]) → H' b = some o
theorem Stl.ts {H H' : Hp} (h : Stl H H') : TS H H' := fun a o e t => h a o e (t.elim .inl fun z => .inr (.inl z))
theorem Stl.trans {H H1 H2 : Hp} (a : Stl H H1) (b : Stl H1 H2) : Stl H H2 := fun x o e t => b x o (a x o e t) t
theorem Stl.same {H H' : Hp} (s : Same H H') : Stl H H' := fun a o e _ => s a o e
theorem Stl.refl (H : Hp) : Stl H H := fun _ _ e _ => e
theorem Stl.lst {H H' : Hp} {a : Addr} {xs : List V} (h : H a = some (.lst xs)) (k : Kp a H H') : Stl H H' := fun b o e t => by
  refine k b o (fun z => ?_) e
  subst z
  have e2 := Option.some.inj (h.symm.trans e)
  rcases t with ⟨xs, rfl⟩ | ⟨p, xs, rfl⟩ | ⟨D, d, v, rfl⟩ | ⟨D, d, rfl⟩ | ⟨D, d, v, rfl⟩ <;> cases e2
theorem Stl.dct {H H' : Hp} {a : Addr} {kvs : List (Key × V)} (h : H a = some (.dK kvs)) (k : Kp a H H') : Stl H H' := fun b o e t => by
  refine k b o (fun z => ?_) e
  subst z
  have e2 := Option.some.inj (h.symm.trans e)
  rcases t with ⟨xs, rfl⟩ | ⟨p, xs, rfl⟩ | ⟨D, d, v, rfl⟩ | ⟨D, d, rfl⟩ | ⟨D, d, v, rfl⟩ <;> cases e2
theorem Stl.fd {H H' : Hp} {a : Addr} (h : Fd H a) (k : Kp a H H') : Stl H H' := by
  obtain ⟨x, y, e, _⟩ := h
  exact Stl.lst e k
theorem Stl.run {K : PySem.W.Frag} {C CR CC CN : Addr} {H H' : Hp} {r c tl : Addr} {rc : V} {t : Tr} {nm : Str} {as : List Str} {rs : List (List (Option Str))} {n : Nat} {tr : List PyData} (h : RunAt K C CR CC CN H r c tl rc t nm as rs n tr) (k : Kp3 r c tl H H') : Stl H H' := fun b o e tt => by
  obtain ⟨⟨dr, pv, sv, us, h1, h2, h3, h4, h5⟩, ⟨dc, va, vr, sc, c1, _⟩, hp⟩ := h
  refine k b o (fun z => ?_) (fun z => ?_) (fun z => ?_) e <;> subst z
  · have e2 := Option.some.inj (h1.symm.trans e)
    rcases tt with ⟨xs, rfl⟩ | ⟨p, xs, rfl⟩ | ⟨D, d, v, rfl⟩ | ⟨D, d, rfl⟩ | ⟨D, d, v, rfl⟩ <;> first | (cases e2; done) | (injection e2 with _ _ e3; cases e3)
  · have e2 := Option.some.inj (c1.symm.trans e)
    rcases tt with ⟨xs, rfl⟩ | ⟨p, xs, rfl⟩ | ⟨D, d, v, rfl⟩ | ⟨D, d, rfl⟩ | ⟨D, d, v, rfl⟩ <;> first | (cases e2; done) | (injection e2 with _ _ e3; cases e3)
  · have e2 := Option.some.inj (h4.symm.trans e)
    rcases tt with ⟨xs, rfl⟩ | ⟨p, xs, rfl⟩ | ⟨D, d, v, rfl⟩ | ⟨D, d, rfl⟩ | ⟨D, d, v, rfl⟩ <;> cases e2
theorem RcT.stl {K : PySem.W.Frag} {C : Addr} {H H' : Hp} {rc : V} {t : Tr} (h : RcT K C H rc t) (s : Stl H H') : RcT K C H' rc t := by
  obtain ⟨x, dx, v, e, h1, h2⟩ := h
  exact ⟨x, dx, v, e, s _ _ h1 (.inr (.inr (.inl ⟨_, _, _, rfl⟩))), trTS s.ts _ _ h2⟩
theorem RcN.stl {CR : Addr} {H H' : Hp} {rc : V} (h : RcN CR H rc) (s : Stl H H') : RcN CR H' rc := by
  obtain ⟨x, dx, e, h1⟩ := h
  exact ⟨x, dx, e, s _ _ h1 (.inr (.inr (.inr (.inl ⟨_, _, rfl⟩))))⟩
theorem RcAt.stl {K : PySem.W.Frag} {C CR : Addr} {H H' : Hp} {rc : V} {t : Tr} (h : RcAt K C CR H rc t) (s : Stl H H') : RcAt K C CR H' rc t := by
  obtain ⟨x, dx, e, h⟩ := h
  rcases h with ⟨v, h1, h2⟩ | ⟨h1, rfl⟩
  · exact RcT.rc (RcT.stl ⟨x, dx, v, e, h1, h2⟩ s)
  · exact RcN.rc (RcN.stl ⟨x, dx, e, h1⟩ s)
theorem RcAt.kx {K : PySem.W.Frag} {C CR : Addr} {H H' : Hp} {rc : V} {t : Tr} (h : RcAt K C CR H rc t) (s : Stl H H') : ∀ x o, rc = .ref x → H x = some o → H' x = some o := fun x o ex e => by
  obtain ⟨y, dx, ey, h⟩ := h
  rw [ex] at ey
  cases ey
  rcases h with ⟨v, h1, h2⟩ | ⟨h1, rfl⟩
  · exact s _ _ e (by rw [h1] at e; cases e; exact .inr (.inr (.inl ⟨_, _, _, rfl⟩)))
  · exact s _ _ e (by rw [h1] at e; cases e; exact .inr (.inr (.inr (.inl ⟨_, _, rfl⟩))))
theorem RunAt.stl {K : PySem.W.Frag} {C CR CC CN : Addr} {H H' : Hp} {r c tl : Addr} {rc : V} {t : Tr} {nm : Str} {as : List Str} {rs : List (List (Option Str))} {n : Nat} {tr : List PyData} (h : RunAt K C CR CC CN H r c tl rc t nm as rs n tr) (s : Stl H H') (kr : ∀ o, H r = some o → H' r = some o) (kc : ∀ o, H c = some o → H' c = some o) (kt : ∀ o, H tl = some o → H' tl = some o) :
    RunAt K C CR CC CN H' r c tl rc t nm as rs n tr := by
  obtain ⟨dc, va, vr, sc, c1, c2, _⟩ := id h.co
  exact h.keep s.ts kr kc kt (c2.kx s)
/-- what a workshop's dict says -/
def ShT (K : PySem.W.Frag) (C : Addr) (H : Hp) (mvs : List (Key × V)) (T : Str → Option Tr) : Prop := ∀ nm, (valV mvs (.inr nm) = none ∧ T nm = none) ∨ ∃ v t, valV mvs (.inr nm) = some v ∧ T nm = some t ∧ RcT K C H v t
theorem ShT.stl {K : PySem.W.Frag} {C : Addr} {H H' : Hp} {mvs : List (Key × V)} {T : Str → Option Tr} (h : ShT K C H mvs T) (s : Stl H H') : ShT K C H' mvs T := fun nm => (h nm).imp id fun ⟨v, t, a, b, c⟩ => ⟨v, t, a, b, c.stl s⟩
theorem ShT.put {K : PySem.W.Frag} {C : Addr} {H : Hp} {mvs : List (Key × V)} {T : Str → Option Tr} {z : Str} {v : V} {t : Tr} (h : ShT K C H mvs T) (hv : RcT K C H v t) : ShT K C H (putK mvs (.inr z) v) (fun nm => if nm = z then some t else T nm) := fun nm => by
  rw [valV_put]
  dsimp only
  by_cases e : nm = z
  · subst e
    rw [if_pos rfl, if_pos rfl]
    exact .inr ⟨v, t, rfl, rfl, hv⟩
  · rw [if_neg fun q => e (Sum.inr.inj q), if_neg e]
    exact h nm
def ShAt (K : PySem.W.Frag) (C CW : Addr) (H : Hp) (s D : Addr) (mvs : List (Key × V)) (T : Str → Option Tr) : Prop := (∃ ds, H s = some (.ins CW ds [("_recipes", .ref D)])) ∧ H D = some (.dK mvs) ∧ ShT K C H mvs T
theorem ShAt.stl {K : PySem.W.Frag} {C CW : Addr} {H H' : Hp} {s D : Addr} {mvs : List (Key × V)} {T : Str → Option Tr} (h : ShAt K C CW H s D mvs T) (st : Stl H H') (kd : ∀ o, H D = some o → H' D = some o) : ShAt K C CW H' s D mvs T := by
  obtain ⟨⟨ds, a⟩, b, c⟩ := h
  exact ⟨⟨ds, st _ _ a (.inr (.inr (.inr (.inr ⟨_, _, _, rfl⟩))))⟩, kd _ b, c.stl st⟩
theorem ShAt.same {K : PySem.W.Frag} {C CW : Addr} {H H' : Hp} {s D : Addr} {mvs : List (Key × V)} {T : Str → Option Tr} (h : ShAt K C CW H s D mvs T) (st : Same H H') : ShAt K C CW H' s D mvs T := h.stl (Stl.same st) fun o e => st _ _ e
theorem call_dictD {X : Cx} : CallR X (.type "dict") (fun xs H Q => ∃ a kvs, xs = [V.ref a] ∧ H a = some (.dK kvs) ∧ ∀ p, H p = none → Q (.ref p) (upd H p (.dK kvs))) := by
  intro pins s σ H xs us Q I r h
  obtain ⟨a, kvs, rfl, ha, q⟩ := h
  obtain ⟨u, rfl, ru⟩ := vals1 r
  cases ru
  exact d_copyOf I (.inl ha) fun p s' n I' => ⟨.ref p, _, I', rfl, q p n⟩
structure WsC (P : Program) (w : World) (K : PySem.W.Frag) (mg : Str → Option Value) (base : Heap) (m : Nat) (C CR CC CN CW S : Addr) : Prop where
  clC : Cls K C
  clR : Cls K CR
  clW : Cls K CW
  n1 : NoAttr K CW "_recipes"
  gR : mg "Recipe" = some (.ref CR)
  gN : mg "Run" = some (.ref CN)
  gW : mg "Workshop" = some (.ref CW)
  bare : OW.Bare K CR
  hS : ∀ H, SqT K H S [.str "stop"]
  sa : ∃ (f : Addr) (fd : FuncData), Meth K C "step_at" f ∧ Binds K fd ["self", "arguments", "answers", "count"] [] ∧ FnOk P w K mg base CX0 m f fd ["self", "arguments", "answers", "count"] (spStepAt K C)
  st : ∃ (f : Addr) (fd : FuncData), Meth K CR "step_at" f ∧ Binds K fd ["self", "arguments", "answers", "count"] [] ∧ FnOk P w K mg base CX0 m f fd ["self", "arguments", "answers", "count"] (spStop K S)
  rn : ∃ (f : Addr) (fd : FuncData), Mk K CN f ∧ Binds K fd ["self", "name", "recipe", "arguments"] [] ∧ FnOk P w K mg base CX0 m f fd ["self", "name", "recipe", "arguments"] (spRnInit K C CR CC CN)
section
variable {P : Program} {w : World} {K : PySem.W.Frag} {mg : Str → Option Value} {base : Heap} {f : Addr} {fd : FuncData} {m : Nat} {C CR CC CN CW S : Addr}
def spWInit (CW : Addr) : Sp := fun vs H Q _ => ∃ s ds M mvs, vs = [.ref s, .ref M] ∧ H s = some (.ins CW ds []) ∧ H M = some (.dK mvs) ∧ ∀ H' D, Kp s H H' → H D = none → H' s = some (.ins CW ds [("_recipes", .ref D)]) → H' D = some (.dK mvs) → Q .non H'
theorem scWInit : FnScope ["self", "recipes"] ["self", "recipes"] (defScope sWInit) := ⟨rfl, rfl, rfl, by decide +kernel, rfl, by decide +kernel, by decide +kernel⟩
theorem okWInit {k : Nat} (cW : Cls K CW) (n1 : NoAttr K CW "_recipes") (md : mg "dict" = none) (F : FunD K "__init__" "Workshop.__init__" (defArgs sWInit) (defBody sWInit) (defScope sWInit) [] [] f fd) : FnOk P w K mg base CX0 (k + 1) f fd ["self", "recipes"] (spWInit CW) := by
  refine F.ok scWInit (fun vs H Q E h => ?_) (fun cdv A outer s H vs Q E hr h => ?_)
  · obtain ⟨a, ds, M, mvs, rfl, _⟩ := h
    rfl
  · obtain ⟨a, ds, M, mvs, rfl, ha, hM, q⟩ := h
    refine ⟨_, PSs.nox (pss_one (ps_fld (pv 0) (pe_callTy call_dictD (by rfl) md (by decide +kernel) (pa_cons (pv 1) pa_nil)) rfl)), ?_⟩
    refine ⟨.ref M, rfl, M, mvs, rfl, hM, fun D hD => ⟨.ref a, rfl, a, CW, ds, _, rfl, KS.sameUpd hD _ _ ha, cW, n1, by decide, ?_⟩⟩
    refine q _ D ((Kp.same (KS.sameUpd hD)).trans Kp.put) hD upd_same ?_
    rw [upd_ne fun z => by rw [z, ha] at hD; cases hD]
    exact upd_same
def spWHas (CW : Addr) : Sp := fun vs H Q _ => ∃ s ds D mvs z, vs = [.ref s, .str z] ∧ H s = some (.ins CW ds [("_recipes", .ref D)]) ∧ H D = some (.dK mvs) ∧ Q (.bl (valV mvs (.inr z)).isSome) H
theorem scWHas : FnScope ["self", "x"] ["self", "x"] (defScope sWHas) := ⟨rfl, rfl, rfl, by decide +kernel, rfl, by decide +kernel, by decide +kernel⟩
theorem okWHas {k : Nat} (cW : Cls K CW) (n1 : NoAttr K CW "_recipes") (F : FunD K "__contains__" "Workshop.__contains__" (defArgs sWHas) (defBody sWHas) (defScope sWHas) [] [] f fd) : FnOk P w K mg base CX0 (k + 1) f fd ["self", "x"] (spWHas CW) := by
  refine F.ok scWHas (fun vs H Q E h => ?_) (fun cdv A outer s H vs Q E hr h => ?_)
  · obtain ⟨a, ds, D, mvs, z, rfl, _⟩ := h
    rfl
  · obtain ⟨a, ds, D, mvs, z, rfl, ha, hD, q⟩ := h
    have hu1 : (A.deeper (envOfC "Workshop.__contains__" (defScope sWHas) s.heap.objs.size f cdv)).units + 1 < cLine := by
      have := hr.units
      omega
    refine ⟨_, PSs.nox (pss_one (ps_ret (pe_cmp (pc_din hu1 (pv 1) (pe_fld (pv 0) rfl)) rfl))), ?_⟩
    exact ⟨.str z, rfl, .ref a, rfl, a, CW, ds, _, .ref D, rfl, ha, cW, n1, rfl, D, _, rfl, DGet.k (k := Sum.inr z) hD, q⟩
def spWLen (CW : Addr) : Sp := fun vs H Q _ => ∃ s ds D mvs, vs = [.ref s] ∧ H s = some (.ins CW ds [("_recipes", .ref D)]) ∧ H D = some (.dK mvs) ∧ Q (.int mvs.length) H
theorem scWLen : FnScope ["self"] ["self"] (defScope sWLen) := ⟨rfl, rfl, rfl, by decide +kernel, rfl, by decide +kernel, by decide +kernel⟩
theorem okWLen {k : Nat} (B : Bn mg) (cW : Cls K CW) (n1 : NoAttr K CW "_recipes") (F : FunD K "__len__" "Workshop.__len__" (defArgs sWLen) (defBody sWLen) (defScope sWLen) [] [] f fd) : FnOk P w K mg base CX0 (k + 1) f fd ["self"] (spWLen CW) := by
  refine F.ok scWLen (fun vs H Q E h => ?_) (fun cdv A outer s H vs Q E hr h => ?_)
  · obtain ⟨a, ds, D, mvs, rfl, _⟩ := h
    rfl
  · obtain ⟨a, ds, D, mvs, rfl, ha, hD, q⟩ := h
    refine ⟨_, PSs.nox (pss_one (ps_ret (pe_callB call_lenD (by rfl) B.len PySem.boot_len (pa_cons (pe_fld (pv 0) rfl) pa_nil)))), ?_⟩
    exact ⟨.ref a, rfl, a, CW, ds, _, .ref D, rfl, ha, cW, n1, rfl, D, _, rfl, hD, q⟩
def spWRecipe (K : PySem.W.Frag) (C CR CW : Addr) : Sp := fun vs H Q _ => ∃ s D mvs T nm, vs = [.ref s, .str nm] ∧ ShAt K C CW H s D mvs T ∧ (∀ t rc H', T nm = some t → Same H H' → RcT K C H' rc t → Q rc H') ∧ (∀ rc H', T nm = none → Same H H' → RcN CR H' rc → Q rc H')
theorem scWRecipe : FnScope ["self", "name"] ["self", "name"] (defScope sWRecipe) := ⟨rfl, rfl, rfl, by decide +kernel, rfl, by decide +kernel, by decide +kernel⟩
theorem okWRecipe {k : Nat} (W : WsC P w K mg base m C CR CC CN CW S) (F : FunD K "_recipe_of" "Workshop._recipe_of" (defArgs sWRecipe) (defBody sWRecipe) (defScope sWRecipe) [] [] f fd) : FnOk P w K mg base CX0 (k + 1) f fd ["self", "name"] (spWRecipe K C CR CW) := by
  refine F.ok scWRecipe (fun vs H Q E h => ?_) (fun cdv A outer s H vs Q E hr h => ?_)
  · obtain ⟨a, D, mvs, T, nm, rfl, _⟩ := h
    rfl
  · obtain ⟨a, D, mvs, T, nm, rfl, ⟨⟨ds, ha⟩, hD, hT⟩, q1, q2⟩ := h
    have hu1 : (A.deeper (envOfC "Workshop._recipe_of" (defScope sWRecipe) s.heap.objs.size f cdv)).units + 1 < cLine := by
      have := hr.units
      omega
    refine ⟨_, PSs.nox (pss_one (ps_ret (pe_dget2 hu1 (pe_fld (pv 0) rfl) (pv 1) (OW.pe_bare W.bare (by rfl) W.gR) ⟨rfl, rfl, rfl, rfl⟩))), ?_⟩
    refine ⟨.ref a, rfl, a, CW, ds, _, .ref D, rfl, ha, W.clW, W.n1, rfl, D, rfl, .inl ⟨mvs, .inl hD⟩, .str nm, rfl, fun x dx hx hdx ne => ?_⟩
    have s1 : Same H (upd (upd H dx (.own x)) x (.ins CR dx [])) := fun b o hb => by
      rw [upd_ne (ne_of_none hb hx), upd_ne (ne_of_none hb hdx)]
      exact hb
    refine ⟨_, DGet.k (k := Sum.inr nm) (s1 _ _ hD), ?_⟩
    rcases hT nm with ⟨e1, e2⟩ | ⟨v, t, e1, e2, e3⟩
    · rw [e1]
      exact q2 _ _ e2 s1 ⟨x, dx, rfl, upd_same⟩
    · rw [e1]
      exact q1 t _ _ e2 s1 (e3.stl (Stl.same s1))
end
end CO

set_option Elab.async false
set_option linter.all false
set_option maxRecDepth 100000
set_option maxHeartbeats 8000000
namespace CO
open PySem PySem.Spec PyProof.Rows L2 ND KS KS.La PLC TRE OC
open KX hiding sameUpd
section
variable {P : Program} {w : World} {K : PySem.W.Frag} {mg : Str → Option Value} {base : Heap} {f : Addr} {fd : FuncData} {m : Nat} {C CR CC CN CW S : Addr}
def trOf (T : Str → Option Tr) (nm : Str) : Tr := (T nm).getD .stop
def spWStep (K : PySem.W.Frag) (C CW : Addr) : Sp := fun vs H Q _ => ∃ s D mvs T pl nm as rs, ∃ n : Nat, vs = [.ref s, pl] ∧ ShAt K C CW H s D mvs T ∧ Dp K H pl (pcD ⟨nm, as, rs, n⟩) ∧ Rt (trOf T nm) as rs n ∧ ∀ v H', Same H H' → Dp K H' v (stD (trOf T nm) as rs n) → Q v H'
abbrev nWS : List Str := ["self", "place", "name", "arguments", "answers", "count"]
theorem scWStep : FnScope nWS ["self", "place"] (defScope sWStep) := ⟨rfl, rfl, rfl, by decide +kernel, rfl, by decide +kernel, by decide +kernel⟩
theorem okWStep (W : WsC P w K mg base m C CR CC CN CW S) (hm : 1 ≤ m) (Ro : ∃ (f : Addr) (fd : FuncData), Meth K CW "_recipe_of" f ∧ Binds K fd ["self", "name"] [] ∧ FnOk P w K mg base CX0 1 f fd ["self", "name"] (spWRecipe K C CR CW))
    (F : FunD K "step_at" "Workshop.step_at" (defArgs sWStep) (defBody sWStep) (defScope sWStep) [] [] f fd) : FnOk P w K mg base CX0 (m + 1) f fd ["self", "place"] (spWStep K C CW) := by
  obtain ⟨fR, dR, hR, bR, GR⟩ := Ro
  obtain ⟨fA, dA, hA, bA, GA⟩ := W.sa
  obtain ⟨fT, dT, hT, bT, GT⟩ := W.st
  refine F.ok scWStep (fun vs H Q E h => ?_) (fun cdv A outer s H vs Q E hr h => ?_)
  · obtain ⟨a, D, mvs, T, pl, nm, as, rs, n, rfl, _⟩ := h
    rfl
  · obtain ⟨a, D, mvs, T, pl, nm, as, rs, n, rfl, hsh, hpl, rt, q⟩ := h
    have hr1 : Room 1 _ := hr.mono (by omega)
    refine ⟨_, PSs.nox (pss_cons (ps_asg (pv 1) (pg_tup rfl (pgs_cons (pg_name (i := 2) scWStep.nd rfl (.inl rfl)) (pgs_cons (pg_name (i := 3) scWStep.nd rfl (.inl rfl)) (pgs_cons (pg_name (i := 4) scWStep.nd rfl (.inl rfl)) (pgs_cons (pg_name (i := 5) scWStep.nd rfl (.inl rfl)) pgs_nil)))))) (pss_one (ps_ret (pe_or (pe_meth (pe_meth (pv 0) W.clW hR GR hr1 bR .nil pass0 (pa_cons (pv 2) pa_nil)) W.clC hA GA hr bA .nil pass0 (pa_cons (pv 3) (pa_cons (pv 4) (pa_cons (pv 5) pa_nil)))) (pe_meth (pe_meth (pv 0) W.clW hR GR hr1 bR .nil pass0 (pa_cons (pv 2) pa_nil)) W.clR hT GT hr bT .nil pass0 (pa_cons (pv 3) (pa_cons (pv 4) (pa_cons (pv 5) pa_nil)))))))), ?_⟩
    obtain ⟨b, va, vr, rfl, hs, hva, hvr⟩ := pcAt hpl
    refine ⟨.ref b, rfl, b, _, rfl, hs, rfl, _, _, rfl, _, _, rfl, _, _, rfl, _, _, rfl, rfl, ?_⟩
    obtain ⟨ds, ha⟩ := hsh.1
    obtain ⟨g1, g2, g3, g4, g5, g6, g7⟩ := rt
    cases eT : T nm with
    | some t =>
      have et : trOf T nm = t := by unfold trOf; rw [eT]; rfl
      rw [et] at g1 g5 g6 q
      refine .inl ⟨.ref a, rfl, a, ds, _, rfl, ha, rfl, .str nm, rfl, a, D, mvs, T, nm, rfl, hsh, fun t' rc H' e' s1 hrc => ?_, fun rc H' e' => by rw [eT] at e'; cases e'⟩
      rw [eT] at e'
      cases e'
      obtain ⟨x, dx, v, rfl, hx, hv⟩ := hrc
      refine ⟨x, dx, _, rfl, hx, rfl, va, rfl, vr, rfl, .int n, rfl, ?_⟩
      exact ⟨x, dx, v, va, vr, t, as, rs, n, rfl, hx, hv, g1, dpSame s1 _ _ hva, g2, dpSame s1 _ _ hvr, g3, g4, g5, g6, g7, fun r H2 s2 hd => q r H2 (s1.trans s2) hd⟩
    | none =>
      have et : trOf T nm = .stop := by unfold trOf; rw [eT]; rfl
      rw [et] at g1 g5 g6 q
      refine .inr ⟨.ref a, rfl, a, ds, _, rfl, ha, rfl, .str nm, rfl, a, D, mvs, T, nm, rfl, hsh, (fun t' rc H' e' => by rw [eT] at e'; cases e'), fun rc H' e' s1 hrc => ?_⟩
      obtain ⟨x, dx, rfl, hx⟩ := hrc
      refine ⟨x, dx, _, rfl, hx, rfl, va, rfl, vr, rfl, .int n, rfl, ?_⟩
      refine ⟨.ref x, va, vr, .int n, rfl, q (.ref S) H' s1 ?_⟩
      have er : rs = [] := by
        cases rs with
        | nil => rfl
        | cons r rs => obtain ⟨⟨_, _, _, e⟩, _⟩ := g5; cases e
      subst er
      have en : n = 0 := by
        cases n with
        | zero => rfl
        | succ n => exact g6.elim
      subst en
      exact .tup (W.hS _) (.cons (.str _) .nil)
def spWBegin (K : PySem.W.Frag) (C CR CC CN CW : Addr) : Sp := fun vs H Q _ => ∃ s D mvs T nm va as, vs = [.ref s, .str nm, va] ∧ ShAt K C CW H s D mvs T ∧ Dp K H va (argsD as) ∧ TrOk (trOf T nm) ∧ (∀ z ∈ as, TOk z) ∧
  ∀ r c tl rc H', H r = none → H c = none → H tl = none → Same H H' → RunAt K C CR CC CN H' r c tl rc (trOf T nm) nm as [] 0 [] → Q (.ref r) H'
theorem scWBegin : FnScope ["self", "name", "arguments"] ["self", "name", "arguments"] (defScope sWBegin) := ⟨rfl, rfl, rfl, by decide +kernel, rfl, by decide +kernel, by decide +kernel⟩
theorem rnMade {H : Hp} {x dx : Addr} {nm : Str} {rc va : V} {t : Tr} {as : List Str} {R : Hp → Prop} {E : XK} (hx : H x = none) (hdx : H dx = none) (ne : dx ≠ x) (hrc : RcAt K C CR H rc t) (hva : Dp K H va (argsD as)) (ht : TrOk t) (hta : ∀ z ∈ as, TOk z) (q : ∀ H' c tl, H c = none → H tl = none → Same H H' → RunAt K C CR CC CN H' x c tl rc t nm as [] 0 [] → R H') :
    spRnInit K C CR CC CN [.ref x, .str nm, rc, va] (upd (upd H dx (.own x)) x (.ins CN dx [])) (fun v H2 => v = .non ∧ R H2) E := by
  have s1 : Same H (upd (upd H dx (.own x)) x (.ins CN dx [])) := fun b o hb => by
    rw [upd_ne (ne_of_none hb hx), upd_ne (ne_of_none hb hdx)]
    exact hb
  refine ⟨x, dx, nm, rc, va, t, as, rfl, upd_same, hrc.same s1, fun y e z => ?_, dpSame s1 _ _ hva, ht, hta, fun H' c tl k nc nt h => ⟨rfl, q H' c tl ?_ ?_ (fun b o hb => k _ _ (ne_of_none hb hx) (s1 _ _ hb)) h⟩⟩
  · obtain ⟨y', dy, e', hy⟩ := hrc
    rw [e] at e'
    cases e'
    subst z
    rcases hy with ⟨v, hy, _⟩ | ⟨hy, _⟩ <;> (rw [hx] at hy; cases hy)
  · cases e : H c with
    | none => rfl
    | some o => rw [s1 _ _ e] at nc; cases nc
  · cases e : H tl with
    | none => rfl
    | some o => rw [s1 _ _ e] at nt; cases nt
theorem noneSame {H H' : Hp} {a : Addr} (s : Same H H') (h : H' a = none) : H a = none := by
  cases e : H a with
  | none => rfl
  | some o => rw [s _ _ e] at h; cases h
theorem okWBegin {dvs : List V} (W : WsC P w K mg base m C CR CC CN CW S) (Ro : ∃ (f : Addr) (fd : FuncData), Meth K CW "_recipe_of" f ∧ Binds K fd ["self", "name"] [] ∧ FnOk P w K mg base CX0 1 f fd ["self", "name"] (spWRecipe K C CR CW))
    (F : FunD K "begin" "Workshop.begin" (defArgs sWBegin) (defBody sWBegin) (defScope sWBegin) dvs [] f fd) : FnOk P w K mg base CX0 (m + 2) f fd ["self", "name", "arguments"] (spWBegin K C CR CC CN CW) := by
  obtain ⟨fR, dR, hR, bR, GR⟩ := Ro
  obtain ⟨fI, dI, M, bI, GI⟩ := W.rn
  refine F.ok scWBegin (fun vs H Q E h => ?_) (fun cdv A outer s H vs Q E hr h => ?_)
  · obtain ⟨a, D, mvs, T, nm, va, as, rfl, _⟩ := h
    rfl
  · obtain ⟨a, D, mvs, T, nm, va, as, rfl, hsh, hva, ht, hta, q⟩ := h
    have hr1 : Room 1 _ := hr.mono (by omega)
    refine ⟨_, PSs.nox (pss_one (ps_ret (pe_make M GI hr (by rfl) W.gN bI .nil pass0 (pa_cons (pv 1) (pa_cons (pe_meth (pv 0) W.clW hR GR hr1 bR .nil pass0 (pa_cons (pv 1) pa_nil)) (pa_cons (pv 2) pa_nil)))))), ?_⟩
    obtain ⟨ds, ha⟩ := hsh.1
    have go : ∀ rc H', Same H H' → RcAt K C CR H' rc (trOf T nm) → ∃ v, (some (some va) : Option (Option V)) = some (some v) ∧ ∀ x dx, H' x = none → H' dx = none → dx ≠ x → spRnInit K C CR CC CN [.ref x, .str nm, rc, v] (upd (upd H' dx (.own x)) x (.ins CN dx [])) (fun v H2 => v = .non ∧ Q (.ref x) H2) E0 := fun rc H' s1 hrc =>
      ⟨va, rfl, fun x dx hx hdx ne => rnMade hx hdx ne hrc (dpSame s1 _ _ hva) ht hta fun H2 c tl nc nt s2 h => q x c tl rc H2 (noneSame s1 hx) (noneSame s1 nc) (noneSame s1 nt) (s1.trans s2) h⟩
    refine ⟨.str nm, rfl, .ref a, rfl, a, ds, _, rfl, ha, rfl, .str nm, rfl, a, D, mvs, T, nm, rfl, hsh, fun t rc H' e s1 hrc => go rc H' s1 ?_, fun rc H' e s1 hrc => go rc H' s1 ?_⟩
    · unfold trOf
      rw [e]
      exact hrc.rc
    · unfold trOf
      rw [e]
      exact hrc.rc
def spWChanged (K : PySem.W.Frag) (C CW : Addr) : Sp := fun vs H Q _ => ∃ s D mvs T nm rc t, vs = [.ref s, .str nm, rc] ∧ ShAt K C CW H s D mvs T ∧ RcT K C H rc t ∧ mvs.length < 1000 ∧
  ∀ s' D' H', H s' = none → H D' = none → Same H H' → ShAt K C CW H' s' D' (putK mvs (.inr nm) rc) (fun z => if z = nm then some t else T z) → Q (.ref s') H'
theorem scWChanged : FnScope ["self", "name", "recipe"] ["self", "name", "recipe"] (defScope sWChanged) := ⟨rfl, rfl, rfl, by decide +kernel, rfl, by decide +kernel, by decide +kernel⟩
theorem wsMade {H : Hp} {x dx M : Addr} {mvs : List (Key × V)} {T : Str → Option Tr} {R : Hp → Prop} {E : XK} (hx : H x = none) (hdx : H dx = none) (ne : dx ≠ x) (hM : H M = some (.dK mvs)) (hT : ShT K C H mvs T) (q : ∀ H' D, H D = none → Same H H' → ShAt K C CW H' x D mvs T → R H') :
    spWInit CW [.ref x, .ref M] (upd (upd H dx (.own x)) x (.ins CW dx [])) (fun v H2 => v = .non ∧ R H2) E := by
  have s1 : Same H (upd (upd H dx (.own x)) x (.ins CW dx [])) := fun b o hb => by
    rw [upd_ne (ne_of_none hb hx), upd_ne (ne_of_none hb hdx)]
    exact hb
  refine ⟨x, dx, M, mvs, rfl, upd_same, s1 _ _ hM, fun H' D k nD h1 h2 => ⟨rfl, q H' D (noneSame s1 nD) ?_ ?_⟩⟩
  · exact fun b o hb => k _ _ (ne_of_none hb hx) (s1 _ _ hb)
  · exact ⟨⟨dx, h1⟩, h2, hT.stl (Stl.same fun b o hb => k _ _ (ne_of_none hb hx) (s1 _ _ hb))⟩
theorem okWChanged {k : Nat} (W : WsC P w K mg base m C CR CC CN CW S) (In : ∃ (f : Addr) (fd : FuncData), Mk K CW f ∧ Binds K fd ["self", "recipes"] [] ∧ FnOk P w K mg base CX0 1 f fd ["self", "recipes"] (spWInit CW))
    (F : FunD K "changed" "Workshop.changed" (defArgs sWChanged) (defBody sWChanged) (defScope sWChanged) [] [] f fd) : FnOk P w K mg base CX0 (k + 3) f fd ["self", "name", "recipe"] (spWChanged K C CW) := by
  obtain ⟨fI, dI, M, bI, GI⟩ := In
  refine F.ok scWChanged (fun vs H Q E h => ?_) (fun cdv A outer s H vs Q E hr h => ?_)
  · obtain ⟨a, D, mvs, T, nm, rc, t, rfl, _⟩ := h
    rfl
  · obtain ⟨a, D, mvs, T, nm, rc, t, rfl, hsh, hrc, lm, q⟩ := h
    have hr2 : Room (1 + 1) _ := hr.mono (by omega)
    refine ⟨_, PSs.nox (pss_one (ps_ret (pe_make M GI hr2 (by rfl) W.gW bI .nil pass0 (pa_cons (MM.pe_starPut (pe_fld (pv 0) rfl) (pv 1) (pv 2)) pa_nil)))), ?_⟩
    obtain ⟨⟨ds, ha⟩, hD, hT⟩ := id hsh
    refine fun d hd => ?_
    have s1 := KS.sameUpd (o := .dK []) hd
    have nDd : d ≠ D := fun z => by rw [z, hD] at hd; cases hd
    refine ⟨.ref a, rfl, a, CW, ds, _, .ref D, rfl, s1 _ _ ha, W.clW, W.n1, rfl, D, mvs, rfl, .inl (s1 _ _ hD), nDd, upd_same, by rw [sizeLine_eq]; omega, fun u hu => ?_⟩
    refine ⟨.str nm, rfl, rc, rfl, .inr nm, rfl, upd_same, ?_, fun x dx hx hdx nex => ?_⟩
    · rw [upd_ne fun z => by rw [← z, upd_same] at hu; cases hu]
      exact upd_same
    have nu : H u = none := by
      cases e : H u with
      | none => rfl
      | some o =>
        have nud : u ≠ d := fun z => by rw [z] at e; rw [e] at hd; cases hd
        rw [upd_ne nud, s1 _ _ e] at hu
        cases hu
    have sA : Same H (upd (upd (upd (upd (upd H d (.dK [])) d (.dK mvs)) u (.dK [])) u (.dK [(.inr nm, rc)])) d (.dK (putK mvs (.inr nm) rc))) := fun b o hb => by
      rw [upd_ne (ne_of_none hb hd), upd_ne (ne_of_none hb nu), upd_ne (ne_of_none hb nu), upd_ne (ne_of_none hb hd), upd_ne (ne_of_none hb hd)]
      exact hb
    have hT2 := (hT.put (z := nm) hrc).stl (Stl.same sA)
    refine wsMade hx hdx nex upd_same hT2 fun H' D' nD' s2 h => q x D' H' (noneSame sA hx) (noneSame sA nD') (sA.trans s2) h
end
end CO

set_option Elab.async false
set_option linter.all false
set_option maxRecDepth 100000
set_option maxHeartbeats 8000000
namespace IX
open PySem PySem.Spec PyProof.Rows L2 KX
/-- isinstance(e, c), e the error that the suite holds -/
def rIsS (K : PySem.W.Frag) (a : Addr) (cls : Value) (d : Option Addr) : List V → Hp → VK → Prop := fun xs H Q => ∃ (D : Addr) (c : V) (cv : Value) (b : Bool), xs = [.ref a, c] ∧ cls = .ref D ∧ d = none ∧ XC K D ∧ ClsV c cv ∧ PySem.W.kitOne K (.ref D) cv = some b ∧ Q (.bl b) H
theorem callIsS {X : Cx} {a : Addr} {oe : Obj} {pn : List (Addr × Obj)} {cls : Value} {d : Option Addr} (hz : Zc cls d oe) (hf : ∃ vs, oe.data = .fields vs) : CallR (X.suite a ((a, oe) :: pn)) (.builtin "isinstance") (rIsS X.K a cls d) := by
  intro pins s σ H xs us Q I r h
  obtain ⟨D, c, cv, b, rfl, rfl, rfl, T, hc, ans, q⟩ := h
  obtain ⟨u1, u2, rfl, r1, r2⟩ := vals2 r
  have e2 := hc.eq r2
  subst e2
  cases (show u1 = Value.ref a from r1)
  obtain ⟨hget, _⟩ := I.pin (a, oe) (List.mem_append.mpr (.inl List.mem_cons_self))
  obtain ⟨vs, hv⟩ := hf
  have J : PySem.W.InstAt s.heap a oe D none := by
    refine ⟨hget, hz.1, ?_, ?_⟩
    · unfold PySem.W.notCls
      rw [hv]
    · rw [hz.2]
      trivial
  have hcl : (PySem.W.clsIn X.K D).isSome = true := by
    obtain ⟨cd, hcd, _⟩ := PySem.W.any_some T.hd
    rw [hcd]
    rfl
  exact PySem.W.kia_one (PySem.W.kitx_exc hcl T.ga T.gg T.ex T.cl T.gt T.st T.ob) I.kIn J ans (fun z => nomatch z) fun tk => ⟨.bl b, H, I.tok tk, rfl, q⟩
end IX

set_option Elab.async false
set_option linter.all false
set_option maxRecDepth 100000
set_option maxHeartbeats 8000000
/-! the recipes and what is made of them; the law's facts -/
namespace TRE
open PySem PySem.Spec PyProof.Rows L2 ND KS KS.La PLC
/-- the recipes, the objects made of them, and what they are -/
inductive RM (K : PySem.W.Frag) (C : Addr) (H : Hp) : List (Key × V) → List (Key × V) → List (Str × Tr) → Prop
  | nil : RM K C H [] [] []
  | cons {z : Str} {v v2 : V} {x dx : Addr} {t : Tr} {kvs mvs : List (Key × V)} {L : List (Str × Tr)} (h : Dp K H v (trD t)) (hx : H x = some (.ins C dx [("_node", v2)])) (h2 : Dp K H v2 (trD t)) (r : RM K C H kvs mvs L) : RM K C H ((.inr z, v) :: kvs) ((.inr z, .ref x) :: mvs) ((z, t) :: L)
theorem RM.kp {K : PySem.W.Frag} {C a : Addr} {H H' : Hp} (hF : Fd H a) (k : Kp a H H') {kvs mvs : List (Key × V)} {L : List (Str × Tr)} (h : RM K C H kvs mvs L) : RM K C H' kvs mvs L := by
  induction h with
  | nil => exact .nil
  | cons h hx h2 _ ih =>
    refine .cons (trTS (tsKp hF k) _ _ h) (k _ _ (fun z => ?_) hx) (trTS (tsKp hF k) _ _ h2) ih
    obtain ⟨u, v, e, _⟩ := hF
    rw [z, e] at hx
    cases hx
/-- all but the dict of recipes stands -/
theorem RM.but {K : PySem.W.Frag} {C R : Addr} {H H' : Hp} (t : TS H H') (k : ∀ b o, b ≠ R → H b = some o → H' b = some o) (hR : ∀ D dx fs, H R ≠ some (.ins D dx fs)) {kvs mvs : List (Key × V)} {L : List (Str × Tr)} (h : RM K C H kvs mvs L) : RM K C H' kvs mvs L := by
  induction h with
  | nil => exact .nil
  | cons h hx h2 _ ih => exact .cons (trTS t _ _ h) (k _ _ (fun z => hR _ _ _ (z ▸ hx)) hx) (trTS t _ _ h2) ih
theorem RM.snoc {K : PySem.W.Frag} {C : Addr} {H : Hp} {kvs mvs : List (Key × V)} {L : List (Str × Tr)} {z : Str} {v v2 : V} {x dx : Addr} {t : Tr} (h : RM K C H kvs mvs L) (hv : Dp K H v (trD t)) (hx : H x = some (.ins C dx [("_node", v2)])) (h2 : Dp K H v2 (trD t)) :
    RM K C H (kvs ++ [(.inr z, v)]) (mvs ++ [(.inr z, .ref x)]) (L ++ [(z, t)]) := by
  induction h with
  | nil => exact .cons hv hx h2 .nil
  | cons h hx h2 _ ih => exact .cons h hx h2 ih
theorem RM.names {K : PySem.W.Frag} {C : Addr} {H : Hp} {kvs mvs : List (Key × V)} {L : List (Str × Tr)} (h : RM K C H kvs mvs L) : kvs.map (fun p => kV p.1) = (L.map (·.1)).map V.str ∧ mvs.map (·.1) = kvs.map (·.1) ∧ kvs.length = L.length ∧ kvs.map (·.1) = (L.map (·.1)).map Sum.inr := by
  induction h with
  | nil => exact ⟨rfl, rfl, rfl, rfl⟩
  | cons _ _ _ _ ih =>
    obtain ⟨a, b, c, d⟩ := ih
    refine ⟨?_, ?_, ?_, ?_⟩
    · rw [List.map_cons, List.map_cons, List.map_cons, a]
      rfl
    · rw [List.map_cons, List.map_cons, b]
    · rw [List.length_cons, List.length_cons, c]
    · rw [List.map_cons, List.map_cons, List.map_cons, d]
theorem RM.get {K : PySem.W.Frag} {C : Addr} {H : Hp} {kvs mvs : List (Key × V)} {L : List (Str × Tr)} {z : Str} (h : RM K C H kvs mvs L) (hz : z ∈ L.map (·.1)) :
    ∃ v t x dx v2, valV kvs (.inr z) = some v ∧ valV mvs (.inr z) = some (.ref x) ∧ Dp K H v (trD t) ∧ H x = some (.ins C dx [("_node", v2)]) ∧ Dp K H v2 (trD t) ∧ (z, t) ∈ L := by
  induction h with
  | nil => exact absurd hz (by simp)
  | @cons y v v2 x dx t kvs mvs L h hx h2 _ ih =>
    by_cases e : y = z
    · subst e
      exact ⟨v, t, x, dx, v2, valV_pos rfl, valV_pos rfl, h, hx, h2, List.mem_cons_self⟩
    · rw [valV_neg fun e2 => e (Sum.inr.inj e2), valV_neg fun e2 => e (Sum.inr.inj e2)]
      have : z ∈ L.map (·.1) := by
        rcases List.mem_cons.mp hz with y2 | y2
        · exact absurd y2.symm e
        · exact y2
      obtain ⟨v', t', x', dx', v2', a, b, c, d, e', f⟩ := ih this
      exact ⟨v', t', x', dx', v2', a, b, c, d, e', List.mem_cons_of_mem _ f⟩
theorem RK.atK {K : PySem.W.Frag} {H : Hp} {kvs : List (Key × V)} {L : List (Str × Tr)} (h : RK K H kvs L) : ∀ {i : Nat} {k : Key} {v : V}, kvs[i]? = Option.some (k, v) → ∃ z t, k = .inr z ∧ L[i]? = Option.some (z, t) ∧ Dp K H v (trD t) := by
  induction h with
  | nil => intro i k v e; simp at e
  | cons h _ ih =>
    intro i k v e
    cases i with
    | zero =>
      have e2 := Option.some.inj e
      injection e2 with e3 e4
      subst e3 e4
      exact ⟨_, _, rfl, rfl, h⟩
    | succ i => exact ih (by simpa using e)
theorem onlyOne {L : List (Str × Tr)} (h : (L.map (·.1)).Nodup) {z : Str} {t u : Tr} (h1 : (z, t) ∈ L) (h2 : (z, u) ∈ L) : t = u := by
  induction L with
  | nil => exact absurd h1 (by simp)
  | cons p L ih =>
    rw [List.map_cons, List.nodup_cons] at h
    rcases List.mem_cons.mp h1 with e1 | e1 <;> rcases List.mem_cons.mp h2 with e2 | e2
    · have := e1.trans e2.symm
      injection this
    · exact absurd (List.mem_map_of_mem (f := (·.1)) e2) (by rw [← e1] at h; exact h.1)
    · exact absurd (List.mem_map_of_mem (f := (·.1)) e1) (by rw [← e2] at h; exact h.1)
    · exact ih h.2 e1 e2
theorem mergeAll : ∀ (l acc : List (Key × V)), ((acc ++ l).map (·.1)).Nodup → mergeK acc l = acc ++ l
  | [], acc, _ => by rw [List.append_nil]; rfl
  | p :: l, acc, h => by
    have hn : valV acc p.1 = none := by
      unfold valV
      rw [Option.map_eq_none_iff, List.find?_eq_none]
      intro q hq e
      rw [List.map_append, List.map_cons, List.nodup_append] at h
      exact h.2.2 q.1 (List.mem_map_of_mem hq) p.1 List.mem_cons_self (of_decide_eq_true e)
    show mergeK (putK acc p.1 p.2) l = _
    rw [putNew hn, mergeAll l (acc ++ [(p.1, p.2)]) (by rw [List.append_assoc]; exact h), List.append_assoc]
    rfl
theorem odDown {n : Nat} : ∀ {c : Nat} {t : Tr}, Od n (trD t) → CanD t c → c ≤ n
  | 0, _, _, _ => Nat.zero_le _
  | c + 1, .wr o ps m, h, k => by
    rw [trD] at h
    cases h with
    | @tup n _ _ h2 => exact Nat.succ_le_succ (odDown (c := c) (h2 (trD m) (by simp)) k)
  | c + 1, .stop, _, k => k.elim
  | c + 1, .rd _ _ _, _, k => k.elim
theorem odDownT {n : Nat} : ∀ {c : Nat} {t : Tr}, Od n (trD t) → Od n (trD (down t c))
  | 0, t, h => by cases t <;> exact h
  | c + 1, .wr o ps m, h => odDownT (c := c) (odWr h)
  | c + 1, .stop, h => h
  | c + 1, .rd _ _ _, h => h
theorem dpRev {K : PySem.W.Frag} {H : Hp} : ∀ {xs : List V} {ds : List PyData}, DpAll K H xs ds → DpAll K H xs.reverse ds.reverse
  | _, _, .nil => .nil
  | _, _, .cons h r => by
    rw [List.reverse_cons, List.reverse_cons]
    exact dpSnoc h (dpRev r)
theorem RM.rk {K : PySem.W.Frag} {C : Addr} {H : Hp} {kvs mvs : List (Key × V)} {L : List (Str × Tr)} (h : RM K C H kvs mvs L) : RK K H kvs L := by
  induction h with
  | nil => exact .nil
  | cons h _ _ _ ih => exact .cons h ih
theorem trTup (t : Tr) : ∃ ds, trD t = .tuple ds := by
  cases t <;> (rw [trD]; exact ⟨_, rfl⟩)
end TRE

set_option Elab.async false
set_option linter.all false
set_option maxRecDepth 100000
set_option maxHeartbeats 8000000
/-! the law's looks at a run -/
namespace CO
open PySem PySem.Spec PyProof.Rows L2 ND KS KS.La PLC TRE OC
open KX hiding sameUpd
abbrev lHalts : Stmt := top 53
abbrev lGoes : Stmt := top 54
abbrev lStands : Stmt := top 55
/-- runs, as the law has them -/
structure RnL (P : Program) (w : World) (K : PySem.W.Frag) (mg : Str → Option Value) (base : Heap) (m : Nat) (C CR CC CN CH : Addr) : Prop where
  clN : Cls K CN
  ca : ∃ (f : Addr) (fd : FuncData) (ds : List Value) (e : Addr), StX.CallO K CN f ∧ (∀ H, SqT K H e []) ∧ Binds K fd ["self", "answers"] ds ∧ Vals [V.ref e] ds ∧ Binds K fd ["self", "answers"] [] ∧ KBn K fd ["self", "answers"] 1 ["answers"] (fun us ws => us ++ ws) (fun vs zs => vs ++ zs) ∧
    FnOk P w K mg base (L2.CX P w) m f fd ["self", "answers"] (spRnCall K C CR CC CN CH)
  pl : ∃ (p g : Addr) (fd : FuncData), PropOf K CN "place" p g ∧ Binds K fd ["self"] [] ∧ FnOk P w K mg base CX0 1 g fd ["self"] (getSp CN "_place")
  sp : ∃ (p g : Addr) (fd : FuncData), PropOf K CN "step" p g ∧ Binds K fd ["self"] [] ∧ FnOk P w K mg base CX0 1 g fd ["self"] (getSp CN "_step")
  tr : ∃ (p g : Addr) (fd : FuncData), PropOf K CN "trail" p g ∧ Binds K fd ["self"] [] ∧ FnOk P w K mg base CX0 1 g fd ["self"] (spRnTrail K CN)
  cp : ∃ (f : Addr) (fd : FuncData), Meth K CN "copied" f ∧ Binds K fd ["self"] [] ∧ FnOk P w K mg base CX0 m f fd ["self"] (spRnCopied K C CR CC CN)
theorem sNr : ¬ (("stop" : Str) = "read") := by decide +kernel
theorem sNw : ¬ (("stop" : Str) = "write") := by decide +kernel
section
variable {P : Program} {w : World} {K : PySem.W.Frag} {mg : Str → Option Value} {base : Heap} {f : Addr} {fd : FuncData} {m : Nat} {C CR CC CN CH : Addr}
def spHalts (K : PySem.W.Frag) (C CR CC CN : Addr) : Sp := fun vs H Q _ => ∃ r c tl rc t nm as rs tr, ∃ n : Nat, vs = [.ref r] ∧ RunAt K C CR CC CN H r c tl rc t nm as rs n tr ∧ rs.length ≤ 100 ∧ n ≤ 100 ∧ tr.length ≤ 1000 ∧ stW (as.map some :: rs) (down (walk t rs) n) = "stop" ∧ Q (.bl true) H
abbrev nHalts : List Str := ["_law_run", "_law_found", "e"]
theorem scHalts : FnScope nHalts ["_law_run"] (defScope lHalts) := ⟨rfl, rfl, rfl, by decide +kernel, rfl, by decide +kernel, by decide +kernel⟩
theorem okHalts (W : RnL P w K mg base m C CR CC CN CH) (B : Bn mg) (C0 : Cl0 K mg "Halted" CH) (mV : mg "ValueError" = none) (e1 : PySem.W.exmOne K (.ref CH) (.ref CH) = some true) (k1 : PySem.W.kitOne K (.ref CH) (.type "ValueError") = some true)
    (F : FnP K "_law_halts" lHalts f fd) : FnOk P w K mg base CX0 (m + 1) f fd ["_law_run"] (spHalts K C CR CC CN) := by
  obtain ⟨fC, dC, dsC, eC, hC, hE, bC, vC, bC1, kC, GC⟩ := W.ca
  refine F.ok scHalts (fun vs H Q E h => ?_) (fun cdv A outer s H vs Q E hr h => ?_)
  · obtain ⟨r, c, tl, rc, t, nm, as, rs, tr, n, rfl, _⟩ := h
    rfl
  · obtain ⟨r, c, tl, rc, t, nm, as, rs, tr, n, rfl, hrun, lr, ln, lt, hst, q⟩ := h
    refine ⟨_, PSs.nox (pss_cons (ps_set (i := 1) scHalts.nd rfl (.inl rfl) pe_bl) (pss_cons (ps_try_as (i := 2) rfl rfl scHalts.nd rfl rfl ⟨rfl, by decide, .inl C0.gm⟩ takes0 (fun W pn xe tk _ => (pss_one (ps_expr (pe_S0 (pv 0) hC GC hr bC vC (fun σ => passAt tk σ)))))
        (fun a oe cls d pn hz hf => (pss_one (ps_set (i := 1) scHalts.nd rfl (.inl rfl) (pe_callB (IX.callIsS hz hf) (by rfl) B.isi (by decide +kernel) (pa_cons (pv 2) (pa_cons (pe_bltn (v := .ty "ValueError") (by rfl) mV (by decide +kernel) rfl) pa_nil))))))) (pss_one (ps_ret (pv 1))))), ?_⟩
    obtain ⟨dr, pv0, sv, ts, hR, _⟩ := hrun.ex
    refine ⟨.ref r, rfl, r, rfl, ⟨_, _, hR⟩, r, c, tl, .ref eC, rc, t, nm, as, rs, tr, [], n, rfl, hrun, .tup (hE H) .nil, lr, ln, lt, fun _ => ⟨true, e1, fun _ a0 na => ?_, fun z => Bool.noConfusion z⟩, fun e => absurd (hst.symm.trans e) sNr, fun e => absurd (hst.symm.trans e) sNw⟩
    refine ⟨.ref a0, rfl, CH, .ty "ValueError", .type "ValueError", true, rfl, rfl, rfl, C0.xc, .ty _, k1, ?_⟩
    exact ⟨.bl true, rfl, q⟩
def spStands (K : PySem.W.Frag) (C CR CC CN : Addr) : Sp := fun vs H Q _ => ∃ d kvs r c tl pl ut rc t nm as rs tr us, ∃ n : Nat, vs = [.ref d, .ref r, pl, .ref ut] ∧ H d = some (.dK kvs) ∧ RunAt K C CR CC CN H r c tl rc t nm as rs n tr ∧ Dp K H pl (pcD ⟨nm, as, rs, n⟩) ∧ Ok ⟨nm, as, rs, n⟩ ∧
  ((∃ v, valV kvs (.inr nm) = some v ∧ Dp K H v (trD t)) ∨ (valV kvs (.inr nm) = none ∧ t = .stop)) ∧ Od 58 (trD t) ∧ n ≤ 100 ∧ H ut = some (.lst us) ∧ DpAll K H us tr ∧ tr.length ≤ 100 ∧ (∀ d ∈ tr, Od 59 d) ∧ ∀ H', Same H H' → Q (.bl true) H'
abbrev nStands : List Str := ["_law_recipes", "_law_run", "_law_place", "_law_trail", "_law_found"]
theorem scStands : FnScope nStands ["_law_recipes", "_law_run", "_law_place", "_law_trail"] (defScope lStands) := ⟨rfl, rfl, rfl, by decide +kernel, rfl, by decide +kernel, by decide +kernel⟩
theorem okStands (W : RnL P w K mg base m C CR CC CN CH) (B : Bn mg) (hm : 2 ≤ m) (St : Has P w K mg base m "_law_step_at" ["_law_recipes", "_law_place"] (spLStep K)) (Sm : Has P w K mg base m "_law_same" ["_law_found", "_law_due"] (spSame K 61))
    (F : FnP K "_law_stands" lStands f fd) : FnOk P w K mg base CX0 (m + 1) f fd ["_law_recipes", "_law_run", "_law_place", "_law_trail"] (spStands K C CR CC CN) := by
  obtain ⟨pP, gP, dP, hP, bP, GP⟩ := W.pl
  obtain ⟨pS, gS, dS, hS, bS, GS⟩ := W.sp
  obtain ⟨pT, gT, dT, hT, bT, GT⟩ := W.tr
  obtain ⟨fL, dL, gL, kL, bL, GL⟩ := St.ex
  obtain ⟨fE, dE, gE, kE, bE, GE⟩ := Sm.ex
  refine F.ok scStands (fun vs H Q E h => ?_) (fun cdv A outer s H vs Q E hr h => ?_)
  · obtain ⟨d, kvs, r, c, tl, pl, ut, rc, t, nm, as, rs, tr, us, n, rfl, _⟩ := h
    rfl
  · obtain ⟨d, kvs, r, c, tl, pl, ut, rc, t, nm, as, rs, tr, us, n, rfl, ed, hrun, dpl, okp, htree, od, ln, hut, hus, ltr, odt, q⟩ := h
    have hr2 : Room (1 + 1) _ := hr.mono (by omega)
    refine ⟨_, PSs.nox (C8.pss_cut (ps_set (i := 4) scStands.nd rfl (.inl rfl) (pe_lst (pa_cons (pe_prop (pv 1) W.clN hP GP hr2 bP .nil pass0 rfl) (pa_cons (pe_prop (pv 1) W.clN hS GS hr2 bS .nil pass0 rfl) (pa_cons (pe_prop (pv 1) W.clN hT GT hr2 bT .nil pass0 rfl) pa_nil))))) (pss_one (ps_ret (pe_call GE hr (by rfl) gE kE bE .nil pass0 (pa_cons (pv 4) (pa_cons (pe_lst (pa_cons (pv 2) (pa_cons (pe_call GL hr (by rfl) gL kL bL .nil pass0 (pa_cons (pv 0) (pa_cons (pv 2) pa_nil))) (pa_cons (pe_callTy (r := rTup K) (T := "tuple") call_tuple_of (by rfl) B.tuple (by decide +kernel) (pa_cons (pv 3) pa_nil)) pa_nil)))) pa_nil)))))), ?_⟩
    obtain ⟨⟨dr, pv0, sv, ts, hR, hpv, hsv, htl, hts⟩, hco, hpl⟩ := id hrun
    obtain ⟨dc, va, vr, sc0, hc, hrc, hva, hvr, hsc, rt⟩ := id hco
    obtain ⟨g1, g2, g3, g4, g5, g6, g7⟩ := rt
    refine ⟨fun σ' H' => ∃ D tv, σ' = [some (.ref d), some (.ref r), some pl, some (.ref ut), some (.ref D)] ∧ Same H H' ∧ H' D = some (.lst [pv0, sv, tv]) ∧ Dp K H' tv (.tuple tr), ?_, ?_⟩
    · refine ⟨.ref r, rfl, r, dr, _, rfl, hR, r, dr, _, pv0, rfl, hR, rfl, .ref r, rfl, r, dr, _, rfl, hR, r, dr, _, sv, rfl, hR, rfl, .ref r, rfl, r, dr, _, rfl, hR, r, dr, _, tl, ts, tr, rfl, hR, rfl, htl, hts, fun tv H1 s1 htv => ⟨(by show 3 ≤ sizeLine; decide), fun D hD => ?_⟩⟩
      have s2 := KS.sameUpd (o := .lst [pv0, sv, tv]) hD
      exact ⟨D, tv, rfl, s1.trans s2, upd_same, dpSame s2 _ _ htv⟩
    rintro _ H1 ⟨D, tv, rfl, s1, hD, htv⟩
    refine ⟨.ref D, rfl, pl, rfl, .ref d, rfl, pl, rfl, d, kvs, pl, ⟨nm, as, rs, n⟩, t, rfl, s1 _ _ ed, dpSame s1 _ _ dpl, okp, ?_, g1, od, g5, n, rfl, g6, by omega, fun lv H2 s2 hlv => ?_⟩
    · rcases htree with ⟨v, e, hv⟩ | ⟨e, et⟩
      · exact .inl ⟨v, e, dpSame s1 _ _ hv⟩
      · exact .inr ⟨e, et⟩
    refine ⟨.ref ut, rfl, ut, us, rfl, .inl ⟨.inl (.inl (s2 _ _ (s1 _ _ hut))), fun U hU => ⟨(by show 3 ≤ sizeLine; decide), fun D2 hD2 => ?_⟩⟩⟩
    have s3 := KS.sameUpd (o := .tup us) hU
    have hU2 : Dp K (upd H2 U (.tup us)) (.ref U) (.tuple tr) := .tup (.inl (.inl upd_same)) (dpAllSame s3 _ _ (dpAllSame s2 _ _ (dpAllSame s1 _ _ hus)))
    have s4 := KS.sameUpd (o := .lst [pl, lv, .ref U]) hD2
    have sA := ((s1.trans s2).trans s3).trans s4
    have sB := (s2.trans s3).trans s4
    have rows : RowsOk (as.map some :: rs) := fun x hx z hz => by
      rcases List.mem_cons.mp hx with rfl | hx
      · obtain ⟨y, hy, e⟩ := List.mem_map.mp hz
        cases e
        exact g2 _ hy
      · exact (g3 x hx).2 z hz
    have o1 : Od 60 (pcD ⟨nm, as, rs, (n : Int)⟩) := (odPc okp).up (by omega)
    have o2 : Od 60 (stD t as rs n) := (odStep (n := 57) (odDownT (odWalk od)) (okDown (okWalk g1)) rows).up (by omega)
    have o3 : Od 60 (.tuple tr) := .tup ltr odt
    refine ⟨.ref D, .ref D2, rfl, ?_, fun H9 s9 => q _ (sA.trans s9)⟩
    refine svLst (n := 60) (ds := [pcD ⟨nm, as, rs, n⟩, stD t as rs n, .tuple tr]) (fun d hd => ?_) (by show 3 ≤ 1000; decide) (sB _ _ hD) upd_same (.cons (dpSame sA _ _ hpv) (.cons (dpSame sA _ _ hsv) (.cons (dpSame sB _ _ htv) .nil))) (.cons (dpSame sA _ _ dpl) (.cons (dpSame (s3.trans s4) _ _ hlv) (.cons (dpSame s4 _ _ hU2) .nil)))
    simp only [List.mem_cons, List.not_mem_nil, or_false] at hd
    rcases hd with rfl | rfl | rfl
    · exact o1
    · exact o2
    · exact o3
end
end CO

set_option Elab.async false
set_option linter.all false
set_option maxRecDepth 100000
set_option maxHeartbeats 8000000
/-! a run goes on -/
namespace CO
open PySem PySem.Spec PyProof.Rows L2 ND KS KS.La PLC TRE OC
open KX hiding sameUpd
def Kp4 (f r c tl : Addr) (H H' : Hp) : Prop := ∀ b o, b ≠ f → b ≠ r → b ≠ c → b ≠ tl → H b = some o → H' b = some o
section
variable {P : Program} {w : World} {K : PySem.W.Frag} {mg : Str → Option Value} {base : Heap} {f : Addr} {fd : FuncData} {m : Nat} {C CR CC CN CH : Addr}
def spGoes (K : PySem.W.Frag) (C CR CC CN : Addr) : Sp := fun vs H Q _ => ∃ a d kvs r c tl pl rc t nm as rs tr, ∃ n : Nat, vs = [.ref a, .ref d, .ref r, pl] ∧ Fd H a ∧ H d = some (.dK kvs) ∧ RunAt K C CR CC CN H r c tl rc t nm as rs n tr ∧ tl ≠ a ∧ Dp K H pl (pcD ⟨nm, as, rs, n⟩) ∧ Ok ⟨nm, as, rs, n⟩ ∧
  ((∃ v, valV kvs (.inr nm) = some v ∧ Dp K H v (trD t)) ∨ (valV kvs (.inr nm) = none ∧ t = .stop)) ∧ Od 58 (trD t) ∧ n ≤ 100 ∧ tr.length ≤ 1000 ∧ (∀ rs ks cs l, nextRead (walk t rs) = .rd ks cs l → ks.length ≤ 4) ∧ stW (as.map some :: rs) (down (walk t rs) n) ≠ "stop" ∧
  ∀ v H' rs', ∀ n' : Nat, Kp4 a r c tl H H' → Fd H' a → Dp K H' v (pcD ⟨nm, as, rs', n'⟩) → RunAt K C CR CC CN H' r c tl rc t nm as rs' n' (tr ++ [enD ⟨nm, as, rs, n⟩ (stD t as rs n)]) → rs'.length ≤ rs.length + 1 → n' ≤ n + 1 → Q v H'
abbrev nGoes : List Str := ["_law_feed", "_law_recipes", "_law_run", "_law_place", "_law_step", "_law_row", "_law_found", "_law_key"]
theorem scGoes : FnScope nGoes ["_law_feed", "_law_recipes", "_law_run", "_law_place"] (defScope lGoes) := ⟨rfl, rfl, rfl, by decide +kernel, rfl, by decide +kernel, by decide +kernel⟩
theorem okGoes (W : RnL P w K mg base m C CR CC CN CH) (B : Bn mg) (hm : 2 ≤ m) (St : Has P w K mg base m "_law_step_at" ["_law_recipes", "_law_place"] (spLStep K)) (D : Has P w K mg base m "_law_draw" ["_law_feed", "_law_many"] spDraw) (An : Has P w K mg base m "_law_some_answer" ["_law_feed"] spAns)
    (F : FnP K "_law_goes" lGoes f fd) : FnOk P w K mg base CX0 (m + 1) f fd ["_law_feed", "_law_recipes", "_law_run", "_law_place"] (spGoes K C CR CC CN) := by
  obtain ⟨fC, dC, dsC, eC, hC, hE, bC, vC, bC1, kC, GC⟩ := W.ca
  obtain ⟨fL, dL, gL, kL, bL, GL⟩ := St.ex
  obtain ⟨fD, dD, gD, kD, bD, GD⟩ := D.ex
  obtain ⟨fA, dA, gA, kA, bA, GA⟩ := An.ex
  refine F.ok scGoes (fun vs H Q E h => ?_) (fun cdv A outer s H vs Q E hr h => ?_)
  · obtain ⟨a, d, kvs, r, c, tl, pl, rc, t, nm, as, rs, tr, n, rfl, _⟩ := h
    rfl
  · obtain ⟨a, d, kvs, r, c, tl, pl, rc, t, nm, as, rs, tr, n, rfl, hF, ed, hrun, nta, dpl, okp, htree, od, ln, ltr, hks, hst, q⟩ := h
    refine ⟨_, PSs.nox (C8.pss_cut (ps_set (i := 4) scGoes.nd rfl (.inl rfl) (pe_call GL hr (by rfl) gL kL bL .nil pass0 (pa_cons (pv 1) (pa_cons (pv 3) pa_nil)))) (pss_cons (ps_if (pt_cmpR op_eq (pe_ix ix_tup (pv 4) pe_int (fun _ _ => rfl)) pe_str (nomark _))
        (pss_cons (ps_if (pt_cmpR op_notN (pe_S0 (pv 2) hC GC hr bC vC (fun σ => passAt takes0 σ)) pe_non (nomark _)) (pss_one (ps_ret pe_non)) pss_nil) (pss_one (ps_ret (pe_tup (pa_cons (pe_ix ix_tup (pv 3) pe_int (fun _ _ => rfl)) (pa_cons (pe_ix ix_tup (pv 3) pe_int (fun _ _ => rfl)) (pa_cons (pe_ix ix_tup (pv 3) pe_int (fun _ _ => rfl)) (pa_cons (pe_op op_add (pe_ix ix_tup (pv 3) pe_int (fun _ _ => rfl)) pe_int) pa_nil)))))))) pss_nil) (C8.pss_cut (ps_set (i := 5) scGoes.nd rfl (.inl rfl) (pe_callTy (r := rTup K) (T := "tuple") call_tuple_of (by rfl) B.tuple (by decide +kernel) (pa_cons (pe_lc (own := [("_law_key", 7)]) (g := gName 7) rfl scGoes.nd (pi_tup (pe_ix ix_tup (pv 4) pe_int (fun _ _ => rfl))) (blkOk_by (N := nGoes) (sc := defScope lGoes) (by decide +kernel))
        (fun _ _ _ _ _ => pg_name (i := 7) scGoes.nd rfl (.inl rfl) (hf := .inr rfl)) (fun _ _ _ _ _ => pts_nil) (fun _ _ _ _ _ => pe_call GA hr (by rfl) gA kA bA .nil pass0 (pa_cons (pv 0) pa_nil))) pa_nil))) (C8.pss_cut (ps_set (i := 6) scGoes.nd rfl (.inl rfl) (pe_ifExp (pt_cmpR op_eq (pe_call GD hr (by rfl) gD kD bD .nil pass0 (pa_cons (pv 0) (pa_cons (pe_int) pa_nil))) pe_int (nomark _)) (pe_S1 (pv 2) hC GC hr bC1 (fun σ => passAt takes0 σ) (pa_cons (pv 5) pa_nil)) (pe_SK (pv 2) hC GC hr kC (fun σ => passAt takes0 σ) (pk_cons (pv 5) pk_nil)))) (pss_one (ps_ret (pe_ifExp (pt_cmpR op_isN (pv 6) pe_non (nomark _)) (pe_tup (pa_cons (pe_ix ix_tup (pv 3) pe_int (fun _ _ => rfl)) (pa_cons (pe_ix ix_tup (pv 3) pe_int (fun _ _ => rfl)) (pa_cons (pe_op op_catA (pe_ix ix_tup (pv 3) pe_int (fun _ _ => rfl)) (pe_tup (pa_cons (pv 5) pa_nil))) (pa_cons (pe_int) pa_nil))))) pe_non))))))), ?_⟩
    obtain ⟨⟨dr, pv0, sv, ts, hR, hpv, hsv, htl, hts⟩, hco, hpl⟩ := id hrun
    obtain ⟨dc, va0, vr0, sc0, hc, hrc, hva0, hvr0, hsc, rt⟩ := id hco
    obtain ⟨g1, g2, g3, g4, g5, g6, g7⟩ := rt
    have nra : r ≠ a := by
      obtain ⟨x, y, e, _⟩ := id hF
      exact neKind hR e
    have nca : c ≠ a := by
      obtain ⟨x, y, e, _⟩ := id hF
      exact neKind hc e
    have lrs : rs.length ≤ 100 := okp.rl
    -- the step
    refine ⟨fun σ' H' => ∃ st, σ' = [some (.ref a), some (.ref d), some (.ref r), some pl, some st, none, none, none] ∧ Same H H' ∧ Dp K H' st (stD t as rs n), ?_, ?_⟩
    · exact ⟨.ref d, rfl, pl, rfl, d, kvs, pl, ⟨nm, as, rs, n⟩, t, rfl, ed, dpl, okp, htree, g1, od, g5, n, rfl, g6, by omega, fun lv H2 s2 hlv => ⟨lv, rfl, s2, hlv⟩⟩
    rintro _ H1 ⟨st, rfl, s1, dst⟩
    have hrun1 := hrun.same s1
    have F1 := hF.same s1
    have dpl1 := dpSame s1 _ _ dpl
    obtain ⟨ap, va, vr, rfl, hsp, hap, hvr⟩ := pcAt dpl1
    obtain ⟨a9, xs9, rfl, hs9, h90⟩ := stHead dst
    refine ⟨.ref a9, rfl, a9, xs9, 0, .str _, rfl, rfl, hs9, h90, rfl, _, rfl, ?_⟩
    rw [wordEq]
    rcases stThree (as.map some :: rs) (down (walk t rs) n) with e | ⟨e, ks, cs, l, eT⟩ | ⟨e, o, ps, mm, eT⟩
    · exact absurd e hst
    · rw [e, rw']
      refine iteF ?_
      -- a read
      have nxr : nextRead (walk t rs) = .rd ks cs l := nextDown g6 eT
      have lk4 := hks _ _ _ _ nxr
      have dst2 : Dp K H1 (.ref a9) (.tuple [.str "read", .tuple (ks.map kyD)]) := by
        have := dst
        unfold stD at this
        rw [eT] at this
        exact this
      obtain ⟨a10, ys10, e10, hs10, hy10⟩ := TRE.dpTup dst2
      cases e10
      obtain ⟨y1, vk, rfl, hy1, hvk⟩ := TRE.dpTwo hy10
      obtain ⟨bk, kz, rfl, hbk, hkz⟩ := TRE.dpTup hvk
      have lk := dpLen hkz
      rw [List.length_map] at lk
      refine ⟨fun σ' H' => ∃ u row, σ' = [some (.ref a), some (.ref d), some (.ref r), some (.ref ap), some (.ref a9), some u, none, none] ∧ RowOk row ∧ Dp K H' u (rowD row) ∧ Kp a H H' ∧ Fd H' a, ?_, ?_⟩
      · refine ⟨.ref a9, rfl, a9, _, 1, .ref bk, rfl, rfl, hs10, atI_nat (j := 1) rfl, bk, rfl, ⟨kz, hbk⟩, fun D2 hD2 => ?_⟩
        refine lcFeedX (m := ks.length) (fun o => ∀ z, o = some z → TOk z) hD2 F1 (by omega) (fun v => rfl) (fun i H' lt k => ⟨kz, kz[i], TS.tup (tsKp F1 k) hbk, List.getElem?_eq_getElem (by omega)⟩) (fun H' k => ⟨kz, TS.tup (tsKp F1 k) hbk, by omega⟩) (fun i x H6 H7 lt k6 F6 y => ?_) (fun H6 rw6 e6 el hpr k6 F6 => ?_)
        · obtain ⟨rfl, y⟩ := y
          refine ⟨rfl, fun R hR2 => ⟨.ref a, rfl, a, rfl, F6, fun v H8 hv8 k8 F8 => ?_⟩⟩
          rcases hv8 with rfl | ⟨z, rfl, hz⟩
          · exact hR2 none H8 (fun z e => by cases e) k8 F8
          · exact hR2 (some z) H8 (fun z' e => by cases e; exact hz) k8 F8
        · refine ⟨D2, rw6.map vA, rfl, .inl ⟨.inl (.inl e6), fun U hU => ?_⟩⟩
          have s9 := KS.sameUpd (o := .tup (rw6.map vA)) hU
          exact ⟨.ref U, rw6, rfl, ⟨by omega, fun z hz => hpr _ hz z rfl⟩, rowDp (.inl (.inl upd_same)), ((Kp.same s1).trans k6).trans (Kp.same s9), F6.same s9⟩
      rintro _ H2 ⟨u, row, rfl, rok, du, k2, F2⟩
      refine ⟨fun σ' H' => σ' = [some (.ref a), some (.ref d), some (.ref r), some (.ref ap), some (.ref a9), some u, some .non, none] ∧ Kp4 a r c tl H H' ∧ Fd H' a ∧ Dp K H' u (rowD row) ∧ RunAt K C CR CC CN H' r c tl rc t nm as (rs ++ [row]) 0 (tr ++ [enD ⟨nm, as, rs, n⟩ (stD t as rs n)]), ?_, ?_⟩
      · refine ⟨.ref a, rfl, a, 2, rfl, F2, by decide, by decide, fun dz H3 d0 d1 k3 F3 => ⟨rfl, _, rfl, ?_⟩⟩
        have kA : Kp a H H3 := k2.trans k3
        have hrun3 := hrun.stl (Stl.fd hF kA) (fun o e => kA _ _ nra e) (fun o e => kA _ _ nca e) (fun o e => kA _ _ nta e)
        have du3 := dpTS (tsKp F2 k3) (plRow _) _ du
        obtain ⟨dr3, pv3, sv3, ts3', hR3, _⟩ := id hrun3.ex
        have fin : ∀ H4, Kp3 r c tl H3 H4 → RunAt K C CR CC CN H4 r c tl rc t nm as (rs ++ [row]) 0 (tr ++ [enD ⟨nm, as, rs, n⟩ (stD t as rs n)]) → Kp4 a r c tl H H4 ∧ Fd H4 a ∧ Dp K H4 u (rowD row) ∧ RunAt K C CR CC CN H4 r c tl rc t nm as (rs ++ [row]) 0 (tr ++ [enD ⟨nm, as, rs, n⟩ (stD t as rs n)]) := fun H4 k4 h4 => by
          refine ⟨fun b o n1 n2 n3 n4 hb => k4 _ _ n2 n3 n4 (kA _ _ n1 hb), ?_, dpTS (Stl.run hrun3 k4).ts (plRow _) _ du3, h4⟩
          obtain ⟨x, y, e', b1, b2⟩ := F3
          exact ⟨x, y, k4 _ _ (Ne.symm nra) (Ne.symm nca) (Ne.symm nta) e', b1, b2⟩
        refine ite2 (fun _ => ?_) (fun _ => ?_)
        · refine ⟨.ref r, rfl, r, rfl, u, rfl, ⟨_, _, hR3⟩, r, c, tl, u, rc, t, nm, as, rs, tr, row, n, rfl, hrun3, du3, lrs, ln, ltr, fun e' => absurd e' hst, fun _ => ⟨rok, fun H4 k4 h4 => ?_⟩, fun e' => ?_⟩
          · exact ⟨rfl, fin H4 k4 h4⟩
          · rw [e] at e'
            exact absurd e' (by decide +kernel)
        · refine ⟨.ref r, rfl, r, rfl, u, rfl, rfl, ⟨_, _, hR3⟩, r, c, tl, u, rc, t, nm, as, rs, tr, row, n, rfl, hrun3, du3, lrs, ln, ltr, fun e' => absurd e' hst, fun _ => ⟨rok, fun H4 k4 h4 => ?_⟩, fun e' => ?_⟩
          · exact ⟨rfl, fin H4 k4 h4⟩
          · rw [e] at e'
            exact absurd e' (by decide +kernel)
      rintro _ H5 ⟨rfl, k5, F5, du5, h5⟩
      have st5 : TS H H5 := fun b o e' t' => by
        refine k5 b o (fun z => ?_) (fun z => ?_) (fun z => ?_) (fun z => ?_) e' <;> subst z
        · obtain ⟨x, y, e2, _⟩ := hF
          have e3 := Option.some.inj (e2.symm.trans e')
          rcases t' with ⟨xs, rfl⟩ | ⟨p, xs, rfl⟩ <;> cases e3
        · have e3 := Option.some.inj (hR.symm.trans e')
          rcases t' with ⟨xs, rfl⟩ | ⟨p, xs, rfl⟩ <;> cases e3
        · have e3 := Option.some.inj (hc.symm.trans e')
          rcases t' with ⟨xs, rfl⟩ | ⟨p, xs, rfl⟩ <;> cases e3
        · have e3 := Option.some.inj (htl.symm.trans e')
          rcases t' with ⟨xs, rfl⟩ | ⟨p, xs, rfl⟩ <;> cases e3
      have dpl5 := dpTS st5 (plPc _) _ dpl
      obtain ⟨ap5, va5, vr5, e5, hsp5, hap5, hvr5⟩ := pcAt dpl5
      cases e5
      refine ⟨.non, rfl, rfl, _, rfl, iteT ?_⟩
      refine ⟨.ref ap, rfl, ap, _, 0, .str nm, rfl, rfl, hsp5, atI_nat (j := 0) rfl, .ref ap, rfl, ap, _, 1, va5, rfl, rfl, hsp5, atI_nat (j := 1) rfl, .ref ap, rfl, ap, _, 2, vr5, rfl, rfl, hsp5, atI_nat (j := 2) rfl, u, rfl, (by show 1 ≤ sizeLine; decide), fun T1 hT1 => ?_⟩
      have s8 := KS.sameUpd (o := .tup [u]) hT1
      have d1 : Dp K (upd H5 T1 (.tup [u])) (.ref T1) (.tuple [rowD row]) := .tup (.inl (.inl upd_same)) (.cons (dpSame s8 _ _ du5) .nil)
      refine catD (dpSame s8 _ _ hvr5) d1 (by rw [List.length_map]; show rs.length + 1 ≤ 1000; omega) fun y H9 s9 dz => ⟨(by show 4 ≤ sizeLine; decide), fun U hU => ?_⟩
      have sU := KS.sameUpd (o := .tup [.str nm, va5, y, .int 0]) hU
      have sA := (s8.trans s9).trans sU
      have dz2 : Dp K H9 y (rowsD (rs ++ [row])) := by
        unfold rowsD
        rw [List.map_append]
        exact dz
      refine q (.ref U) _ (rs ++ [row]) 0 (fun b o n1 n2 n3 n4 hb => sA _ _ (k5 _ _ n1 n2 n3 n4 hb)) (F5.same sA) (pcMk (p := ⟨nm, as, rs ++ [row], 0⟩) (.inl (.inl upd_same)) (dpSame sA _ _ hap5) (dpSame sU _ _ dz2)) (h5.same sA) (by rw [List.length_append]; exact Nat.le_refl _) (Nat.zero_le _)
    · rw [e, ww]
      -- a write
      obtain ⟨dr1, pv1, sv1, ts1', hR1, hpv1, hsv1, htl1, hts1⟩ := id hrun1.ex
      refine iteT ⟨.ref r, rfl, r, rfl, ⟨_, _, hR1⟩, r, c, tl, .ref eC, rc, t, nm, as, rs, tr, [], n, rfl, hrun1, .tup (hE H1) .nil, lrs, ln, ltr, fun e' => absurd e' hst, fun e' => ?_, fun _ H4 k4 h4 => ⟨rfl, _, rfl, iteF ?_⟩⟩
      · rw [e] at e'
        exact absurd e' (by decide +kernel)
      have ts4 := (Stl.run hrun1 k4).ts
      have dpl4 := dpTS ts4 (plPc _) _ dpl1
      obtain ⟨ap4, va4, vr4, e4, hsp4, hap4, hvr4⟩ := pcAt dpl4
      cases e4
      refine ⟨.ref ap, rfl, ap, _, 0, .str nm, rfl, rfl, hsp4, atI_nat (j := 0) rfl, .ref ap, rfl, ap, _, 1, va4, rfl, rfl, hsp4, atI_nat (j := 1) rfl, .ref ap, rfl, ap, _, 2, vr4, rfl, rfl, hsp4, atI_nat (j := 2) rfl, .ref ap, rfl, ap, _, 3, .int n, rfl, rfl, hsp4, atI_nat (j := 3) rfl, n, 1, rfl, rfl, (by show 4 ≤ sizeLine; decide), fun U hU => ?_⟩
      have sU := KS.sameUpd (o := .tup [.str nm, va4, vr4, .int (n + 1)]) hU
      refine q (.ref U) _ rs (n + 1) (fun b o n1 n2 n3 n4 hb => sU _ _ (k4 _ _ n2 n3 n4 (s1 _ _ hb))) ?_ (pcMk (p := ⟨nm, as, rs, ((n + 1 : Nat) : Int)⟩) (.inl (.inl upd_same)) (dpSame sU _ _ hap4) (dpSame sU _ _ hvr4)) (h4.same sU) (Nat.le_succ _) (Nat.le_refl _)
      obtain ⟨x, y, e', b1, b2⟩ := F1
      exact ⟨x, y, sU _ _ (k4 _ _ (Ne.symm nra) (Ne.symm nca) (Ne.symm nta) e'), b1, b2⟩
end
end CO

set_option Elab.async false
set_option linter.all false
set_option maxRecDepth 100000
set_option maxHeartbeats 16000000
/-! the law's look at workshops -/
namespace CO
open PySem PySem.Spec PyProof.Rows L2 ND KS KS.La PLC TRE OC
open KX hiding sameUpd
abbrev lShops : Stmt := top 56
abbrev tw : Tr := .wr "o" [] .stop
abbrev dW : PyData := .tuple [.str "write", .str "o", .str ""]
abbrev dSt : PyData := .tuple [.str "stop"]
theorem stTw : stD tw [] [] 0 = dW := by
  show (if (Txt.join "" []).length ≤ 400 then PyData.tuple [.str "write", .str "o", .str (Txt.join "" [])] else .tuple [.str "stop"]) = dW
  have e : Txt.join "" [] = "" := by decide +kernel
  rw [e, if_pos (by decide +kernel)]
theorem twOk : TrOk tw := by
  rw [TrOk]
  exact ⟨⟨Nat.zero_le _, fun p hp => absurd hp (by simp)⟩, by rw [TrOk]; trivial⟩
theorem rt0 {t : Tr} (h : TrOk t) : Rt t [] [] 0 := ⟨h, fun z hz => absurd hz (by simp), fun z hz => absurd hz (by simp), Nat.zero_le _, trivial, by cases t <;> trivial, Nat.zero_le _⟩
theorem okStop : TrOk .stop := by rw [TrOk]; trivial
theorem sk1 : SOk "write" ∧ ("write" : Str).length ≤ 2000 := by unfold SOk; decide +kernel
theorem sk2 : SOk "o" ∧ ("o" : Str).length ≤ 2000 := by unfold SOk; decide +kernel
theorem sk3 : SOk "" ∧ ("" : Str).length ≤ 2000 := by unfold SOk; decide +kernel
theorem sk4 : SOk "stop" ∧ ("stop" : Str).length ≤ 2000 := by unfold SOk; decide +kernel
theorem odW : Od 60 dW := .tup (by show 3 ≤ 100; omega) fun d hd => by
  simp only [List.mem_cons, List.not_mem_nil, or_false] at hd
  rcases hd with rfl | rfl | rfl
  · exact .str _ sk1.1 sk1.2
  · exact .str _ sk2.1 sk2.2
  · exact .str _ sk3.1 sk3.2
theorem odSt : Od 60 dSt := .tup (by show 1 ≤ 100; omega) fun d hd => by
  rw [List.mem_singleton.mp hd]
  exact .str _ sk4.1 sk4.2
theorem putLn (kvs : List (Key × V)) (k : Key) (v : V) : (putK kvs k v).length = kvs.length + (if (valV kvs k).isSome = true then 0 else 1) := by
  unfold putK
  rw [valV_any]
  split
  · rw [List.length_map]; rfl
  · rw [List.length_append]; rfl
theorem trIf {T : Str → Option Tr} {z : Str} {t : Tr} : trOf (fun y => if y = z then some t else T y) z = t := by simp [trOf]
theorem trIfNe {T : Str → Option Tr} {z u : Str} {t : Tr} (h : u ≠ z) : trOf (fun y => if y = z then some t else T y) u = trOf T u := by simp [trOf, h]
structure ShC (P : Program) (w : World) (K : PySem.W.Frag) (mg : Str → Option Value) (base : Heap) (m : Nat) (C CR CC CN CW : Addr) : Prop where
  clW : Cls K CW
  clN : Cls K CN
  gN : mg "Run" = some (.ref CN)
  gT : mg "TreeRecipe" = some (.ref C)
  gW : mg "Workshop" = some (.ref CW)
  st : ∃ (f : Addr) (fd : FuncData), Meth K CW "step_at" f ∧ Binds K fd ["self", "place"] [] ∧ FnOk P w K mg base CX0 m f fd ["self", "place"] (spWStep K C CW)
  bg : ∃ (f : Addr) (fd : FuncData) (ds : List Value) (e : Addr), Meth K CW "begin" f ∧ (∀ H, SqT K H e []) ∧ Binds K fd ["self", "name", "arguments"] ds ∧ Vals [V.ref e] ds ∧ Binds K fd ["self", "name", "arguments"] [] ∧ FnOk P w K mg base CX0 m f fd ["self", "name", "arguments"] (spWBegin K C CR CC CN CW)
  ch : ∃ (f : Addr) (fd : FuncData), Meth K CW "changed" f ∧ Binds K fd ["self", "name", "recipe"] [] ∧ FnOk P w K mg base CX0 m f fd ["self", "name", "recipe"] (spWChanged K C CW)
  hs : ∃ (f : Addr) (fd : FuncData), PySem.W.findIn K (.ref CW) "__contains__" = some (some (.ref f)) ∧ PySem.W.isFn K (.ref f) = true ∧ Binds K fd ["self", "x"] [] ∧ FnOk P w K mg base CX0 1 f fd ["self", "x"] (spWHas CW)
  ln : ∃ (f : Addr) (fd : FuncData), PySem.W.findIn K (.ref CW) "__len__" = some (some (.ref f)) ∧ PySem.W.isFn K (.ref f) = true ∧ Binds K fd ["self"] [] ∧ FnOk P w K mg base CX0 1 f fd ["self"] (spWLen CW)
  pl : ∃ (p g : Addr) (fd : FuncData), PropOf K CN "place" p g ∧ Binds K fd ["self"] [] ∧ FnOk P w K mg base CX0 1 g fd ["self"] (getSp CN "_place")
  sp : ∃ (p g : Addr) (fd : FuncData), PropOf K CN "step" p g ∧ Binds K fd ["self"] [] ∧ FnOk P w K mg base CX0 1 g fd ["self"] (getSp CN "_step")
  ri : ∃ (f : Addr) (fd : FuncData) (ds : List Value) (e : Addr), Mk K CN f ∧ (∀ H, SqT K H e []) ∧ Binds K fd ["self", "name", "recipe", "arguments"] ds ∧ Vals [V.ref e] ds ∧ Binds K fd ["self", "name", "recipe", "arguments"] [] ∧ FnOk P w K mg base CX0 m f fd ["self", "name", "recipe", "arguments"] (spRnInit K C CR CC CN)
  ti : ∃ (f : Addr) (fd : FuncData), Mk K C f ∧ Binds K fd ["self", "node"] [] ∧ FnOk P w K mg base CX0 m f fd ["self", "node"] (spInit0 K C)
  wi : ∃ (f : Addr) (fd : FuncData), Mk K CW f ∧ Binds K fd ["self", "recipes"] [] ∧ FnOk P w K mg base CX0 m f fd ["self", "recipes"] (spWInit CW)
theorem goodStop : goodT .stop := ⟨⟨[], fun z hz => absurd hz (by simp), by rw [TrZ]; trivial⟩, by
  rw [trD]
  refine .tup (by show 1 ≤ 100; omega) fun d hd => ?_
  rw [List.mem_singleton.mp hd]
  exact .str _ sk4.1 sk4.2⟩
theorem trMade {K : PySem.W.Frag} {C : Addr} {H : Hp} {x dx : Addr} {v : V} {t : Tr} {R : Hp → Prop} {E : XK} (hx : H x = none) (hdx : H dx = none) (ne : dx ≠ x) (hv : Dp K H v (trD t)) (g : goodT t) (q : ∀ H', Same H H' → RcT K C H' (.ref x) t → R H') :
    spInit0 K C [.ref x, v] (upd (upd H dx (.own x)) x (.ins C dx [])) (fun v2 H2 => v2 = .non ∧ R H2) E := by
  have s1 : Same H (upd (upd H dx (.own x)) x (.ins C dx [])) := fun b o hb => by
    rw [upd_ne (ne_of_none hb hx), upd_ne (ne_of_none hb hdx)]
    exact hb
  refine ⟨x, dx, v, t, rfl, upd_same, dpSame s1 _ _ hv, g, fun H' k h => ?_⟩
  have s2 : Same H H' := fun b o hb => k _ _ (ne_of_none hb hx) (s1 _ _ hb)
  exact ⟨rfl, q H' s2 ⟨x, dx, v, rfl, h, dpSame s2 _ _ hv⟩⟩
theorem dStop {K : PySem.W.Frag} {H : Hp} {p : Addr} (h : SqT K H p [.str "stop"]) : Dp K H (.ref p) (trD .stop) := by
  rw [trD]
  exact .tup h (.cons (.str _) .nil)
section
variable {P : Program} {w : World} {K : PySem.W.Frag} {mg : Str → Option Value} {base : Heap} {f : Addr} {fd : FuncData} {m : Nat} {C CR CC CN CW : Addr}
def spShops (K : PySem.W.Frag) (C CW : Addr) : Sp := fun vs H Q _ => ∃ s s2 D D2 R Kd mvs mvs2 kR kK T nm, vs = [.ref s, .ref s2, .ref R, .ref Kd, .str nm] ∧ ShAt K C CW H s D mvs T ∧ ShAt K C CW H s2 D2 mvs2 (fun z => if z = nm then some tw else T z) ∧ mvs.length ≤ 100 ∧ mvs2.length = mvs.length + (if (valV mvs (.inr nm)).isSome = true then 0 else 1) ∧
  H R = some (.dK kR) ∧ ((∃ v, valV kR (.inr nm) = some v ∧ Dp K H v (trD (trOf T nm))) ∨ (valV kR (.inr nm) = none ∧ trOf T nm = .stop)) ∧ H Kd = some (.dK kK) ∧ (valV kK (.inr nm)).isSome = (valV mvs (.inr nm)).isSome ∧ kK.length = mvs.length ∧
  TOk nm ∧ nm ≠ "newest" ∧ T "newest" = none ∧ T "another" = none ∧ TrOk (trOf T nm) ∧ Od 58 (trD (trOf T nm)) ∧ ∀ H', Same H H' → Q (.bl true) H'
abbrev nShops : List Str := ["_law_shop", "_law_other", "_law_recipes", "_law_kept", "_law_call", "_law_first", "_law_found", "_law_due", "_law_bare", "_law_begun", "_law_third", "_law_last", "_law_more"]
theorem scShops : FnScope nShops ["_law_shop", "_law_other", "_law_recipes", "_law_kept", "_law_call"] (defScope lShops) := ⟨rfl, rfl, rfl, by decide +kernel, rfl, by decide +kernel, by decide +kernel⟩
abbrev sg (s s2 R Kd : Addr) (nm : Str) (x5 x6 x7 x8 x9 x10 x11 x12 : Option V) : L2.St := [some (.ref s), some (.ref s2), some (.ref R), some (.ref Kd), some (.str nm), x5, x6, x7, x8, x9, x10, x11, x12]
theorem notIn {K : PySem.W.Frag} {H : Hp} {mvs : List (Key × V)} {T : Str → Option Tr} {z : Str} (h : ShT K C H mvs T) (e : T z = none) : (valV mvs (.inr z)).isSome = false := by
  rcases h z with ⟨e1, _⟩ | ⟨v, t, _, e2, _⟩
  · rw [e1]; rfl
  · rw [e] at e2; cases e2
theorem isIn {K : PySem.W.Frag} {H : Hp} {mvs : List (Key × V)} {T : Str → Option Tr} {z : Str} {t : Tr} (h : ShT K C H mvs T) (e : T z = some t) : (valV mvs (.inr z)).isSome = true := by
  rcases h z with ⟨_, e1⟩ | ⟨v, t, e2, _, _⟩
  · rw [e] at e1; cases e1
  · rw [e2]; rfl
theorem okShops (W : ShC P w K mg base m C CR CC CN CW) (B : Bn mg) (hm : 2 ≤ m) (St : Has P w K mg base m "_law_step_at" ["_law_recipes", "_law_place"] (spLStep K)) (Sm : Has P w K mg base m "_law_same" ["_law_found", "_law_due"] (spSame K 61))
    (F : FnP K "_law_shops_right" lShops f fd) : FnOk P w K mg base CX0 (m + 2) f fd ["_law_shop", "_law_other", "_law_recipes", "_law_kept", "_law_call"] (spShops K C CW) := by
  obtain ⟨fS, dS, hS, bS, GS⟩ := W.st
  obtain ⟨fB, dB, dsB, eB, hB, hE, bB, vB, bB1, GB⟩ := W.bg
  obtain ⟨fC, dC, hC, bC, GC⟩ := W.ch
  obtain ⟨fH, dH, hH, iH, bH, GH⟩ := W.hs
  obtain ⟨fN, dN, hN, iN, bN, GN⟩ := W.ln
  obtain ⟨pP, gP, dP, hP, bP, GP⟩ := W.pl
  obtain ⟨pT, gT, dT, hT, bT, GT⟩ := W.sp
  obtain ⟨fI, dI, dsI, eI, MI, hEI, bI, vI, bI1, GI⟩ := W.ri
  obtain ⟨fJ, dJ, MJ, bJ, GJ⟩ := W.ti
  obtain ⟨fL, dL, gL, kL, bL, GL⟩ := St.ex
  obtain ⟨fE, dE, gE, kE, bE, GE⟩ := Sm.ex
  refine F.ok scShops (fun vs H Q E h => ?_) (fun cdv A outer s H vs Q E hr h => ?_)
  · obtain ⟨s, s2, D, D2, R, Kd, mvs, mvs2, kR, kK, T, nm, rfl, _⟩ := h
    rfl
  · obtain ⟨sh, s2, D, D2, R, Kd, mvs, mvs2, kR, kK, T, nm, rfl, h1, h2, lm, l2, eR, htree, eK, inK, lK, tnm, nnew, Tn, Ta, okt, odt, q⟩ := h
    have hrm : Room m _ := hr.mono (by omega)
    have hr2 : Room (1 + 1) _ := hr.mono (by omega)
    have hr1 : Room 1 _ := hr.mono (by omega)
    have hu1 : (A.deeper (envOfC "_law_shops_right" (defScope lShops) s.heap.objs.size f cdv)).units + 1 < cLine := by
      have := hr.units
      omega
    refine ⟨_, PSs.nox (C8.pss_cut (ps_set (i := 5) scShops.nd rfl (.inl rfl) (pe_tup (pa_cons (pv 4) (pa_cons (pe_tup pa_nil) (pa_cons (pe_tup pa_nil) (pa_cons (pe_int) pa_nil)))))) (C8.pss_cut (ps_set (i := 6) scShops.nd rfl (.inl rfl) (pe_lst (pa_cons (pe_meth (pv 1) W.clW hS GS hrm bS .nil pass0 (pa_cons (pv 5) pa_nil)) (pa_cons (pe_meth (pv 0) W.clW hS GS hrm bS .nil pass0 (pa_cons (pv 5) pa_nil)) (pa_cons (pe_cmpR (op_inOwn (GH.raw bH .nil) hr1 hH iH pass0) (pv 4) (pv 0) rfl) (pa_cons (pe_cmpR (op_inOwn (GH.raw bH .nil) hr1 hH iH pass0) (pv 4) (pv 1) rfl) (pa_cons (pe_callB (call_lenOwn (GN.raw bN .nil) hr2 hN iN pass0) (by rfl) B.len PySem.boot_len (pa_cons (pv 0) pa_nil)) (pa_cons (pe_callB (call_lenOwn (GN.raw bN .nil) hr2 hN iN pass0) (by rfl) B.len PySem.boot_len (pa_cons (pv 1) pa_nil)) pa_nil)))))))) (C8.pss_cut (ps_set (i := 7) scShops.nd rfl (.inl rfl) (pe_lst (pa_cons (pe_tup (pa_cons (pe_str) (pa_cons (pe_str) (pa_cons (pe_str) pa_nil)))) (pa_cons (pe_call GL hrm (by rfl) gL kL bL .nil pass0 (pa_cons (pv 2) (pa_cons (pv 5) pa_nil))) (pa_cons (pe_cmp (pc_din hu1 (pv 4) (pv 3)) rfl) (pa_cons (pe_bl) (pa_cons (pe_callB call_lenD (by rfl) B.len PySem.boot_len (pa_cons (pv 3) pa_nil)) pa_nil))))))) (C8.pss_cut (ps_set (i := 8) scShops.nd rfl (.inl rfl) (pe_lst (pa_cons (pe_prop (pe_meth (pv 0) W.clW hB GB hrm bB vB pass0 (pa_cons (pv 4) pa_nil)) W.clN hP GP hr2 bP .nil pass0 rfl) (pa_cons (pe_prop (pe_make MI GI hr (by rfl) W.gN bI vI pass0 (pa_cons (pv 4) (pa_cons (pe_make MJ GJ hr (by rfl) W.gT bJ .nil pass0 (pa_cons (pe_tup (pa_cons (pe_str) pa_nil)) pa_nil)) pa_nil))) W.clN hP GP hr2 bP .nil pass0 rfl) pa_nil)))) (C8.pss_cut (ps_set (i := 9) scShops.nd rfl (.inl rfl) (pe_lst (pa_cons (pe_prop (pe_meth (pv 1) W.clW hB GB hrm bB vB pass0 (pa_cons (pv 4) pa_nil)) W.clN hT GT hr2 bT .nil pass0 rfl) (pa_cons (pe_prop (pe_meth (pv 1) W.clW hB GB hrm bB1 .nil pass0 (pa_cons (pv 4) (pa_cons (pe_tup pa_nil) pa_nil))) W.clN hP GP hr2 bP .nil pass0 rfl) (pa_cons (pe_prop (pe_meth (pv 0) W.clW hB GB hrm bB vB pass0 (pa_cons (pv 4) pa_nil)) W.clN hT GT hr2 bT .nil pass0 rfl) pa_nil))))) (C8.pss_cut (ps_if (PW.pt (pw_or (pt_not (pt_val (pe_call GE hrm (by rfl) gE kE bE .nil pass0 (pa_cons (pv 8) (pa_cons (pe_lst (pa_cons (pv 5) (pa_cons (pv 5) pa_nil))) pa_nil))))) (pw_or1 (pt_not (pt_val (pe_call GE hrm (by rfl) gE kE bE .nil pass0 (pa_cons (pv 9) (pa_cons (pe_lst (pa_cons (pe_tup (pa_cons (pe_str) (pa_cons (pe_str) (pa_cons (pe_str) pa_nil)))) (pa_cons (pv 5) (pa_cons (pe_ix ix_list (pv 6) pe_int (fun _ _ => rfl)) pa_nil)))) pa_nil)))))))) (pss_one (ps_ret pe_bl)) pss_nil) (C8.pss_cut (ps_par (i := 10) (j := 11) (by rfl) scShops.nd rfl rfl (by decide) rfl rfl (pa_cons (pe_meth (pv 0) W.clW hC GC hrm bC .nil pass0 (pa_cons (pv 4) (pa_cons (pe_make MJ GJ hr (by rfl) W.gT bJ .nil pass0 (pa_cons (pe_tup (pa_cons (pe_str) pa_nil)) pa_nil)) pa_nil))) (pa_cons (pe_meth (pv 0) W.clW hC GC hrm bC .nil pass0 (pa_cons (pe_str) (pa_cons (pe_make MJ GJ hr (by rfl) W.gT bJ .nil pass0 (pa_cons (pe_tup (pa_cons (pe_str) pa_nil)) pa_nil)) pa_nil))) pa_nil)) (by rfl)) (C8.pss_cut (ps_set (i := 12) scShops.nd rfl (.inl rfl) (pe_lst (pa_cons (pe_meth (pv 10) W.clW hS GS hrm bS .nil pass0 (pa_cons (pv 5) pa_nil)) (pa_cons (pe_meth (pv 1) W.clW hS GS hrm bS .nil pass0 (pa_cons (pv 5) pa_nil)) (pa_cons (pe_cmpR (op_inOwn (GH.raw bH .nil) hr1 hH iH pass0) pe_str (pv 11) rfl) (pa_cons (pe_cmpR (op_inOwn (GH.raw bH .nil) hr1 hH iH pass0) pe_str (pv 0) rfl) (pa_cons (pe_meth (pv 11) W.clW hS GS hrm bS .nil pass0 (pa_cons (pv 5) pa_nil)) pa_nil))))))) (C8.pss_cut (ps_if (pt_not (pt_val (pe_call GE hrm (by rfl) gE kE bE .nil pass0 (pa_cons (pv 12) (pa_cons (pe_lst (pa_cons (pe_tup (pa_cons (pe_str) pa_nil)) (pa_cons (pe_tup (pa_cons (pe_str) (pa_cons (pe_str) (pa_cons (pe_str) pa_nil)))) (pa_cons (pe_bl) (pa_cons (pe_bl) (pa_cons (pe_ix ix_list (pv 6) pe_int (fun _ _ => rfl)) pa_nil)))))) pa_nil))))) (pss_one (ps_ret pe_bl)) pss_nil) (pss_one (ps_ret (pe_and (pe_call GE hrm (by rfl) gE kE bE .nil pass0 (pa_cons (pv 6) (pa_cons (pe_op op_cat (pv 7) (pe_lst (pa_cons (pe_op op_add (pe_callB call_lenD (by rfl) B.len PySem.boot_len (pa_cons (pv 3) pa_nil)) (pe_callTy call_int1 (by rfl) B.int (by decide +kernel) (pa_cons (pe_cmp (pc_dnotin hu1 (pv 4) (pv 3)) rfl) pa_nil))) pa_nil))) pa_nil))) (pe_one (pe_cmpR (op_notInOwn (GH.raw bH .nil) hr1 hH iH pass0) pe_str (pv 0) rfl)))))))))))))), ?_⟩
    have h1' := h1
    have h2' := h2
    obtain ⟨⟨ds, hs⟩, hD, hT⟩ := h1
    obtain ⟨⟨ds2, hs2⟩, hD2, hT2⟩ := h2
    have et2 : trOf (fun z => if z = nm then some tw else T z) nm = tw := trIf
    have okp : Ok ⟨nm, [], [], ((0 : Nat) : Int)⟩ := ⟨tnm, fun z hz => absurd hz (by simp), Nat.zero_le _, fun z hz => absurd hz (by simp), Nat.zero_le _⟩
    have noA : ∀ z ∈ ([] : List Str), TOk z := fun z hz => absurd hz (by simp)
    have rows0 : RowsOk (([] : List Str).map some :: []) := fun x hx z hz => by
      rw [List.mem_singleton.mp hx] at hz
      exact absurd hz (by simp)
    have odC : Od 60 (stD (trOf T nm) [] [] 0) := (odStep (n := 57) (t := down (walk (trOf T nm) []) 0) (odDownT (odWalk odt)) (okDown (okWalk okt)) rows0).up (by omega)
    have odP : Od 60 (pcD ⟨nm, [], [], ((0 : Nat) : Int)⟩) := (odPc okp).up (by omega)
    have in2 : (valV mvs2 (.inr nm)).isSome = true := isIn hT2 (if_pos rfl)
    generalize eb : (valV mvs (.inr nm)).isSome = b at *
    -- the first place
    refine ⟨fun σ' H' => ∃ f1, σ' = sg sh s2 R Kd nm (some f1) none none none none none none none ∧ Same H H' ∧ Dp K H' f1 (pcD ⟨nm, [], [], ((0 : Nat) : Int)⟩), ?_, ?_⟩
    · refine ⟨.str nm, rfl, Nat.zero_le _, fun p1 n1 => ⟨Nat.zero_le _, fun p2 n2 => ⟨(by show 4 ≤ sizeLine; decide), fun p3 n3 => ?_⟩⟩⟩
      have s1 := KS.sameUpd (o := .tup []) n1
      have s2' := KS.sameUpd (o := .tup []) n2
      have s3 := KS.sameUpd (o := .tup [.str nm, .ref p1, .ref p2, .int 0]) n3
      exact ⟨.ref p3, rfl, (s1.trans s2').trans s3, pcMk (p := ⟨nm, [], [], ((0 : Nat) : Int)⟩) (.inl (.inl upd_same)) (.tup (sameTup (s2'.trans s3) (.inl (.inl upd_same))) .nil) (.tup (sameTup s3 (.inl (.inl upd_same))) .nil)⟩
    rintro _ H1 ⟨f1, rfl, S1, df1⟩
    -- what is found
    refine ⟨fun σ' H' => ∃ Fo v1 v2, σ' = sg sh s2 R Kd nm (some f1) (some (.ref Fo)) none none none none none none ∧ Same H1 H' ∧ H' Fo = some (.lst [v1, v2, .bl b, .bl true, .int mvs.length, .int mvs2.length]) ∧ Dp K H' v1 dW ∧ Dp K H' v2 (stD (trOf T nm) [] [] 0), ?_, ?_⟩
    · refine ⟨.ref s2, rfl, s2, ds2, _, rfl, S1 _ _ hs2, rfl, f1, rfl, s2, D2, mvs2, _, f1, nm, [], [], 0, rfl, h2'.same S1, df1, by rw [et2]; exact rt0 twOk, fun v1 Ha sa hv1 => ?_⟩
      rw [et2, stTw] at hv1
      refine ⟨.ref sh, rfl, sh, ds, _, rfl, sa _ _ (S1 _ _ hs), rfl, f1, rfl, sh, D, mvs, T, f1, nm, [], [], 0, rfl, h1'.same (S1.trans sa), dpSame sa _ _ df1, rt0 okt, fun v2 Hb sb hv2 => ?_⟩
      have SB := S1.trans (sa.trans sb)
      refine ⟨.str nm, rfl, .ref sh, rfl, sh, ds, _, rfl, SB _ _ hs, sh, ds, D, mvs, nm, rfl, SB _ _ hs, SB _ _ hD, b, by rw [eb], ?_⟩
      refine ⟨.str nm, rfl, .ref s2, rfl, s2, ds2, _, rfl, SB _ _ hs2, s2, ds2, D2, mvs2, nm, rfl, SB _ _ hs2, SB _ _ hD2, true, by rw [in2], ?_⟩
      refine ⟨.ref sh, rfl, sh, ds, _, rfl, SB _ _ hs, sh, ds, D, mvs, rfl, SB _ _ hs, SB _ _ hD, mvs.length, rfl, by omega, by omega, ?_⟩
      refine ⟨.ref s2, rfl, s2, ds2, _, rfl, SB _ _ hs2, s2, ds2, D2, mvs2, rfl, SB _ _ hs2, SB _ _ hD2, mvs2.length, rfl, by omega, by rw [l2]; split <;> omega, ?_⟩
      refine ⟨(by show 6 ≤ sizeLine; decide), fun Fo hFo => ?_⟩
      have s9 := KS.sameUpd (o := .lst [v1, v2, .bl b, .bl true, .int mvs.length, .int mvs2.length]) hFo
      exact ⟨Fo, v1, v2, rfl, (sa.trans sb).trans s9, upd_same, dpSame (sb.trans s9) _ _ hv1, dpSame s9 _ _ hv2⟩
    rintro _ H2 ⟨Fo, v1, v2, rfl, S12, hFo, dv1, dv2⟩
    have S2 := S1.trans S12
    -- what is due
    refine ⟨fun σ' H' => ∃ U w1 w2, σ' = sg sh s2 R Kd nm (some f1) (some (.ref Fo)) (some (.ref U)) none none none none none ∧ Same H2 H' ∧ H' U = some (.lst [w1, w2, .bl b, .bl true, .int mvs.length]) ∧ Dp K H' w1 dW ∧ Dp K H' w2 (stD (trOf T nm) [] [] 0), ?_, ?_⟩
    · refine ⟨(by show 3 ≤ sizeLine; decide), fun pT nT => ?_⟩
      have sT := KS.sameUpd (o := .tup [.str "write", .str "o", .str ""]) nT
      have ST := S2.trans sT
      have htree' : (∃ v, valV kR (.inr nm) = some v ∧ Dp K (upd H2 pT (.tup [.str "write", .str "o", .str ""])) v (trD (trOf T nm))) ∨ (valV kR (.inr nm) = none ∧ trOf T nm = .stop) := by
        rcases htree with ⟨v, e, hv⟩ | ⟨e, et⟩
        · exact .inl ⟨v, e, dpSame ST _ _ hv⟩
        · exact .inr ⟨e, et⟩
      refine ⟨.ref R, rfl, f1, rfl, R, kR, f1, ⟨nm, [], [], ((0 : Nat) : Int)⟩, trOf T nm, rfl, ST _ _ eR, dpSame (S12.trans sT) _ _ df1, okp, htree', okt, odt, trivial, 0, rfl, (by generalize walk (trOf T nm) [] = T9; cases T9 <;> trivial), Nat.zero_le _, fun w2 Hc sc hw2 => ?_⟩
      have SC := ST.trans sc
      have d1 : DGet Hc Kd (.str nm) (valV kK (.inr nm)) := DGet.k (k := Sum.inr nm) (SC _ _ eK)
      refine ⟨.str nm, rfl, .ref Kd, rfl, Kd, _, rfl, d1, .ref Kd, rfl, Kd, kK, rfl, SC _ _ eK, (by show 5 ≤ sizeLine; decide), fun U hU => ?_⟩
      rw [inK, lK]
      have sU := KS.sameUpd (o := .lst [.ref pT, w2, .bl b, .bl true, .int mvs.length]) hU
      exact ⟨U, .ref pT, w2, rfl, (sT.trans sc).trans sU, upd_same, .tup (sameTup (sc.trans sU) (.inl (.inl upd_same))) (.cons (.str _) (.cons (.str _) (.cons (.str _) .nil))), dpSame sU _ _ hw2⟩
    rintro _ H3 ⟨U, w1, w2, rfl, S23, hU, dw1, dw2⟩
    have S3 := S2.trans S23
    -- runs that are begun
    refine ⟨fun σ' H' => ∃ Ba pa pb, σ' = sg sh s2 R Kd nm (some f1) (some (.ref Fo)) (some (.ref U)) (some (.ref Ba)) none none none none ∧ Same H3 H' ∧ H' Ba = some (.lst [pa, pb]) ∧ Dp K H' pa (pcD ⟨nm, [], [], ((0 : Nat) : Int)⟩) ∧ Dp K H' pb (pcD ⟨nm, [], [], ((0 : Nat) : Int)⟩), ?_, ?_⟩
    · refine ⟨.ref sh, rfl, sh, ds, _, rfl, S3 _ _ hs, rfl, .str nm, rfl, sh, D, mvs, T, nm, .ref eB, [], rfl, h1'.same S3, .tup (hE _) .nil, okt, noA, fun r c tl rc Ha n1 n2 n3 sa hrun => ?_⟩
      obtain ⟨dr, pa, sa', ua, hRa, hpa, hsa, _⟩ := id hrun.ex
      refine ⟨r, dr, _, rfl, hRa, r, dr, _, pa, rfl, hRa, rfl, .str nm, rfl, (by show 1 ≤ sizeLine; decide), fun p hp => fun x dx hx hdx ne => ?_⟩
      have sp := KS.sameUpd (o := .tup [.str "stop"]) hp
      refine trMade hx hdx ne (dStop (.inl (.inl upd_same))) goodStop fun Hb sb hrc => ?_
      refine fun r2 dr2 hr2 hdr2 ner2 => rnMade hr2 hdr2 ner2 hrc.rc (.tup (hEI _) .nil) okStop noA fun Hc c2 tl2 nc2 nt2 sc hrun2 => ?_
      obtain ⟨dr3, pb, sb', ub, hRb, hpb, hsb, _⟩ := id hrun2.ex
      refine ⟨r2, dr3, _, rfl, hRb, r2, dr3, _, pb, rfl, hRb, rfl, (by show 2 ≤ sizeLine; decide), fun Ba hBa => ?_⟩
      have s9 := KS.sameUpd (o := .lst [pa, pb]) hBa
      exact ⟨Ba, pa, pb, rfl, (((sa.trans sp).trans sb).trans sc).trans s9, upd_same, dpSame (((sp.trans sb).trans sc).trans s9) _ _ hpa, dpSame s9 _ _ hpb⟩
    rintro _ H4 ⟨Ba, pa, pb, rfl, S34, hBa, dpa, dpb⟩
    have S4 := S3.trans S34
    refine ⟨fun σ' H' => ∃ Be qa qb qc, σ' = sg sh s2 R Kd nm (some f1) (some (.ref Fo)) (some (.ref U)) (some (.ref Ba)) (some (.ref Be)) none none none ∧ Same H4 H' ∧ H' Be = some (.lst [qa, qb, qc]) ∧ Dp K H' qa dW ∧ Dp K H' qb (pcD ⟨nm, [], [], ((0 : Nat) : Int)⟩) ∧ Dp K H' qc (stD (trOf T nm) [] [] 0), ?_, ?_⟩
    · refine ⟨.ref s2, rfl, s2, ds2, _, rfl, S4 _ _ hs2, rfl, .str nm, rfl, s2, D2, mvs2, _, nm, .ref eB, [], rfl, h2'.same S4, .tup (hE _) .nil, by rw [et2]; exact twOk, noA, fun r c tl rc Ha n1 n2 n3 sa hrun => ?_⟩
      rw [et2] at hrun
      obtain ⟨dr, pa', qa, ua, hRa, hpa, hqa, _⟩ := id hrun.ex
      rw [stTw] at hqa
      refine ⟨r, dr, _, rfl, hRa, r, dr, _, qa, rfl, hRa, rfl, ?_⟩
      have SA := S4.trans sa
      refine ⟨.ref s2, rfl, s2, ds2, _, rfl, SA _ _ hs2, rfl, .str nm, rfl, Nat.zero_le _, fun p hp => ?_⟩
      have sp := KS.sameUpd (o := .tup []) hp
      refine ⟨s2, D2, mvs2, _, nm, .ref p, [], rfl, h2'.same (SA.trans sp), .tup (.inl (.inl upd_same)) .nil, by rw [et2]; exact twOk, noA, fun r2 c2 tl2 rc2 Hb m1 m2 m3 sb hrun2 => ?_⟩
      obtain ⟨dr2, qb, sv2, ub, hRb, hqb, _⟩ := id hrun2.ex
      refine ⟨r2, dr2, _, rfl, hRb, r2, dr2, _, qb, rfl, hRb, rfl, ?_⟩
      have SB := (SA.trans sp).trans sb
      refine ⟨.ref sh, rfl, sh, ds, _, rfl, SB _ _ hs, rfl, .str nm, rfl, sh, D, mvs, T, nm, .ref eB, [], rfl, h1'.same SB, .tup (hE _) .nil, okt, noA, fun r3 c3 tl3 rc3 Hc k1 k2 k3 sc hrun3 => ?_⟩
      obtain ⟨dr3, pc', qc, uc, hRc, hpc, hqc, _⟩ := id hrun3.ex
      refine ⟨r3, dr3, _, rfl, hRc, r3, dr3, _, qc, rfl, hRc, rfl, (by show 3 ≤ sizeLine; decide), fun Be hBe => ?_⟩
      have s9 := KS.sameUpd (o := .lst [qa, qb, qc]) hBe
      exact ⟨Be, qa, qb, qc, rfl, (((sa.trans sp).trans sb).trans sc).trans s9, upd_same, dpSame (((sp.trans sb).trans sc).trans s9) _ _ hqa, dpSame (sc.trans s9) _ _ hqb, dpSame s9 _ _ hqc⟩
    rintro _ H5 ⟨Be, qa, qb, qc, rfl, S45, hBe, dqa, dqb, dqc⟩
    have S5 := S4.trans S45
    have S15 := ((S12.trans S23).trans S34).trans S45
    have S25 := (S23.trans S34).trans S45
    -- both are as they should be
    refine ⟨fun σ' H' => σ' = sg sh s2 R Kd nm (some f1) (some (.ref Fo)) (some (.ref U)) (some (.ref Ba)) (some (.ref Be)) none none none ∧ Same H5 H', ?_, ?_⟩
    · refine ⟨.ref Ba, rfl, f1, rfl, f1, rfl, (by show 2 ≤ sizeLine; decide), fun L1 hL1 => ?_⟩
      have s6 := KS.sameUpd (o := .lst [f1, f1]) hL1
      have df6 := dpSame (S15.trans s6) _ _ df1
      refine ⟨.ref Ba, .ref L1, rfl, svLst (n := 60) (ds := [pcD ⟨nm, [], [], ((0 : Nat) : Int)⟩, pcD ⟨nm, [], [], ((0 : Nat) : Int)⟩]) (fun d hd => ?_) (by show 2 ≤ 1000; decide) (s6 _ _ (S45 _ _ hBa)) upd_same (.cons (dpSame (S45.trans s6) _ _ dpa) (.cons (dpSame (S45.trans s6) _ _ dpb) .nil)) (.cons df6 (.cons df6 .nil)), fun H6 sa => ⟨true, rfl, iteF ?_⟩⟩
      · simp only [List.mem_cons, List.not_mem_nil, or_false] at hd
        rcases hd with rfl | rfl <;> exact odP
      have S6 := s6.trans sa
      refine ⟨.ref Be, rfl, (by show 3 ≤ sizeLine; decide), fun p hp => ?_⟩
      have sp := KS.sameUpd (o := .tup [.str "write", .str "o", .str ""]) hp
      refine ⟨f1, rfl, .ref Fo, rfl, Fo, _, 1, v2, rfl, rfl, .inl (.inl (sp _ _ (S6 _ _ (S25 _ _ hFo)))), atI_nat (j := 1) rfl, (by show 3 ≤ sizeLine; decide), fun L2 hL2 => ?_⟩
      have s7 := KS.sameUpd (o := .lst [.ref p, f1, v2]) hL2
      have S7 := (S6.trans sp).trans s7
      refine ⟨.ref Be, .ref L2, rfl, svLst (n := 60) (ds := [dW, pcD ⟨nm, [], [], ((0 : Nat) : Int)⟩, stD (trOf T nm) [] [] 0]) (fun d hd => ?_) (by show 3 ≤ 1000; decide) (S7 _ _ hBe) upd_same (.cons (dpSame S7 _ _ dqa) (.cons (dpSame S7 _ _ dqb) (.cons (dpSame S7 _ _ dqc) .nil)))
        (.cons (.tup (sameTup s7 (.inl (.inl upd_same))) (.cons (.str _) (.cons (.str _) (.cons (.str _) .nil)))) (.cons (dpSame (S15.trans S7) _ _ df1) (.cons (dpSame (S25.trans S7) _ _ dv2) .nil))), fun H8 sb => ⟨true, rfl, iteF ⟨rfl, S7.trans sb⟩⟩⟩
      simp only [List.mem_cons, List.not_mem_nil, or_false] at hd
      rcases hd with rfl | rfl | rfl
      · exact odW
      · exact odP
      · exact odC
    rintro _ H6 ⟨rfl, S56⟩
    have S6 := S5.trans S56
    -- two more
    refine ⟨fun σ' H' => ∃ t1 D3 m3 t2 D4 m4, σ' = sg sh s2 R Kd nm (some f1) (some (.ref Fo)) (some (.ref U)) (some (.ref Ba)) (some (.ref Be)) (some (.ref t1)) (some (.ref t2)) none ∧ Same H6 H' ∧ ShAt K C CW H' t1 D3 m3 (fun z => if z = nm then some .stop else T z) ∧ ShAt K C CW H' t2 D4 m4 (fun z => if z = "newest" then some .stop else T z), ?_, ?_⟩
    · refine ⟨.ref sh, rfl, sh, ds, _, rfl, S6 _ _ hs, rfl, .str nm, rfl, (by show 1 ≤ sizeLine; decide), fun p hp => fun x dx hx hdx ne => ?_⟩
      have sp := KS.sameUpd (o := .tup [.str "stop"]) hp
      refine trMade hx hdx ne (dStop (.inl (.inl upd_same))) goodStop fun Ha sa hrc => ?_
      have SA := (S6.trans sp).trans sa
      refine ⟨sh, D, mvs, T, nm, .ref x, .stop, rfl, h1'.same SA, hrc, by omega, fun t1 D3 Hb n1 n2 sb h3 => ?_⟩
      have SB := SA.trans sb
      refine ⟨.ref sh, rfl, sh, ds, _, rfl, SB _ _ hs, rfl, (by show 1 ≤ sizeLine; decide), fun p2 hp2 => fun x2 dx2 hx2 hdx2 ne2 => ?_⟩
      have sp2 := KS.sameUpd (o := .tup [.str "stop"]) hp2
      refine trMade hx2 hdx2 ne2 (dStop (.inl (.inl upd_same))) goodStop fun Hc sc hrc2 => ?_
      have SC := (SB.trans sp2).trans sc
      refine ⟨sh, D, mvs, T, "newest", .ref x2, .stop, rfl, h1'.same SC, hrc2, by omega, fun t2 D4 Hd m1 m2 sd h4 => ?_⟩
      exact ⟨_, _, rfl, t1, D3, _, t2, D4, _, rfl, ((((sp.trans sa).trans sb).trans sp2).trans sc).trans sd, h3.same ((sp2.trans sc).trans sd), h4⟩
    rintro _ H7 ⟨t1, D3, m3, t2, D4, m4, rfl, S67, h3, h4⟩
    have S7 := S6.trans S67
    have S17 := S15.trans (S56.trans S67)
    have S27 := S25.trans (S56.trans S67)
    obtain ⟨⟨ds3, hs3⟩, hD3, hT3⟩ := id h3
    obtain ⟨⟨ds4, hs4⟩, hD4, hT4⟩ := id h4
    have et3 : trOf (fun z => if z = nm then some .stop else T z) nm = .stop := trIf
    have et4 : trOf (fun z => if z = "newest" then some .stop else T z) nm = trOf T nm := trIfNe nnew
    have df7 := dpSame S17 _ _ df1
    refine ⟨fun σ' H' => ∃ Mo m1 m2 m5, σ' = sg sh s2 R Kd nm (some f1) (some (.ref Fo)) (some (.ref U)) (some (.ref Ba)) (some (.ref Be)) (some (.ref t1)) (some (.ref t2)) (some (.ref Mo)) ∧ Same H7 H' ∧ H' Mo = some (.lst [m1, m2, .bl true, .bl false, m5]) ∧ Dp K H' m1 dSt ∧ Dp K H' m2 dW ∧ Dp K H' m5 (stD (trOf T nm) [] [] 0), ?_, ?_⟩
    · refine ⟨.ref t1, rfl, t1, ds3, _, rfl, hs3, rfl, f1, rfl, t1, D3, m3, _, f1, nm, [], [], 0, rfl, h3, df7, by rw [et3]; exact rt0 okStop, fun m1 Ha sa hm1 => ?_⟩
      rw [et3] at hm1
      have SA := S7.trans sa
      refine ⟨.ref s2, rfl, s2, ds2, _, rfl, SA _ _ hs2, rfl, f1, rfl, s2, D2, mvs2, _, f1, nm, [], [], 0, rfl, h2'.same SA, dpSame sa _ _ df7, by rw [et2]; exact rt0 twOk, fun m2 Hb sb hm2 => ?_⟩
      rw [et2, stTw] at hm2
      have SB := SA.trans sb
      have sab := sa.trans sb
      have i4 : (valV m4 (.inr "newest")).isSome = true := isIn hT4 (if_pos rfl)
      have i0 : (valV mvs (.inr "newest")).isSome = false := notIn hT Tn
      refine ⟨.ref t2, rfl, t2, ds4, _, rfl, sab _ _ hs4, t2, ds4, D4, m4, "newest", rfl, sab _ _ hs4, sab _ _ hD4, true, by rw [i4], ?_⟩
      refine ⟨.ref sh, rfl, sh, ds, _, rfl, SB _ _ hs, sh, ds, D, mvs, "newest", rfl, SB _ _ hs, SB _ _ hD, false, by rw [i0], ?_⟩
      refine ⟨.ref t2, rfl, t2, ds4, _, rfl, sab _ _ hs4, rfl, f1, rfl, t2, D4, m4, _, f1, nm, [], [], 0, rfl, h4.same sab, dpSame sab _ _ df7, by rw [et4]; exact rt0 okt, fun m5 Hc sc hm5 => ?_⟩
      rw [et4] at hm5
      refine ⟨(by show 5 ≤ sizeLine; decide), fun Mo hMo => ?_⟩
      have s9 := KS.sameUpd (o := .lst [m1, m2, .bl true, .bl false, m5]) hMo
      exact ⟨Mo, m1, m2, m5, rfl, (sab.trans sc).trans s9, upd_same, dpSame ((sb.trans sc).trans s9) _ _ hm1, dpSame (sc.trans s9) _ _ hm2, dpSame s9 _ _ hm5⟩
    rintro _ H8 ⟨Mo, m1, m2, m5, rfl, S78, hMo, dm1, dm2, dm5⟩
    have S8 := S7.trans S78
    have S28 := S27.trans S78
    refine ⟨fun σ' H' => σ' = sg sh s2 R Kd nm (some f1) (some (.ref Fo)) (some (.ref U)) (some (.ref Ba)) (some (.ref Be)) (some (.ref t1)) (some (.ref t2)) (some (.ref Mo)) ∧ Same H8 H', ?_, ?_⟩
    · refine ⟨.ref Mo, rfl, (by show 1 ≤ sizeLine; decide), fun p hp => ⟨(by show 3 ≤ sizeLine; decide), fun p2 hp2 => ?_⟩⟩
      have sp := KS.sameUpd (o := .tup [.str "stop"]) hp
      have sp2 := KS.sameUpd (o := .tup [.str "write", .str "o", .str ""]) hp2
      refine ⟨.ref Fo, rfl, Fo, _, 1, v2, rfl, rfl, .inl (.inl (sp2 _ _ (sp _ _ (S28 _ _ hFo)))), atI_nat (j := 1) rfl, (by show 5 ≤ sizeLine; decide), fun L hL => ?_⟩
      have s7 := KS.sameUpd (o := .lst [.ref p, .ref p2, .bl true, .bl false, v2]) hL
      have S9 := (sp.trans sp2).trans s7
      refine ⟨.ref Mo, .ref L, rfl, svLst (n := 60) (ds := [dSt, dW, .bool true, .bool false, stD (trOf T nm) [] [] 0]) (fun d hd => ?_) (by show 5 ≤ 1000; decide) (S9 _ _ hMo) upd_same (.cons (dpSame S9 _ _ dm1) (.cons (dpSame S9 _ _ dm2) (.cons (.bl _) (.cons (.bl _) (.cons (dpSame S9 _ _ dm5) .nil)))))
        (.cons (.tup (sameTup (sp2.trans s7) (.inl (.inl upd_same))) (.cons (.str _) .nil)) (.cons (.tup (sameTup s7 (.inl (.inl upd_same))) (.cons (.str _) (.cons (.str _) (.cons (.str _) .nil)))) (.cons (.bl _) (.cons (.bl _) (.cons (dpSame (S28.trans S9) _ _ dv2) .nil))))), fun H9 sb => ⟨true, rfl, iteF ⟨rfl, S9.trans sb⟩⟩⟩
      simp only [List.mem_cons, List.not_mem_nil, or_false] at hd
      rcases hd with rfl | rfl | rfl | rfl | rfl
      · exact odSt
      · exact odW
      · exact .bl _ _
      · exact .bl _ _
      · exact odC
    rintro _ H9 ⟨rfl, S89⟩
    have S9 := S8.trans S89
    have S29 := S28.trans S89
    have S39 := ((S34.trans S45).trans (S56.trans S67)).trans (S78.trans S89)
    have d9 : DGet H9 Kd (.str nm) (valV kK (.inr nm)) := DGet.k (k := Sum.inr nm) (S9 _ _ eK)
    refine ⟨.ref Fo, rfl, .ref U, rfl, .ref Kd, rfl, Kd, kK, rfl, S9 _ _ eK, .str nm, rfl, .ref Kd, rfl, Kd, _, rfl, d9, .inr ⟨_, rfl, ?_⟩⟩
    refine ⟨_, _, rfl, rfl, (by show 1 ≤ sizeLine; decide), fun Pp hPp => ?_⟩
    have s1 := KS.sameUpd (o := .lst [.int (kK.length + if (!(valV kK (.inr nm)).isSome) = true then 1 else 0)]) hPp
    refine ⟨U, Pp, _, _, rfl, rfl, s1 _ _ (S39 _ _ hU), upd_same, (by show 6 ≤ sizeLine; decide), fun Z hZ => ?_⟩
    have s2' := KS.sameUpd (o := .lst ([w1, w2, .bl b, .bl true, .int mvs.length] ++ [.int (kK.length + if (!(valV kK (.inr nm)).isSome) = true then 1 else 0)])) hZ
    have sA := s1.trans s2'
    have en : ((kK.length : Int) + if (!(valV kK (.inr nm)).isSome) = true then 1 else 0) = (mvs2.length : Int) := by
      rw [inK, lK, l2]
      cases b <;> simp
    refine ⟨.ref Fo, .ref Z, rfl, svLst (n := 60) (ds := [dW, stD (trOf T nm) [] [] 0, .bool b, .bool true, .int mvs.length, .int mvs2.length]) (fun d hd => ?_) (by show 6 ≤ 1000; decide) (sA _ _ (S29 _ _ hFo)) upd_same (.cons (dpSame (S29.trans sA) _ _ dv1) (.cons (dpSame (S29.trans sA) _ _ dv2) (.cons (.bl _) (.cons (.bl _) (.cons (.int _) (.cons (.int _) .nil))))))
      (.cons (dpSame (S39.trans sA) _ _ dw1) (.cons (dpSame (S39.trans sA) _ _ dw2) (.cons (.bl _) (.cons (.bl _) (.cons (.int _) (.cons (show Dp K _ (V.int ((kK.length : Int) + if (!(valV kK (.inr nm)).isSome) = true then 1 else 0)) (.int mvs2.length) from en ▸ Dp.int _) .nil)))))), fun Hz sz => ⟨true, rfl, iteT ?_⟩⟩
    · simp only [List.mem_cons, List.not_mem_nil, or_false] at hd
      rcases hd with rfl | rfl | rfl | rfl | rfl | rfl
      · exact odW
      · exact odC
      · exact .bl _ _
      · exact .bl _ _
      · exact .int _ _
      · exact .int _ _
    have ia : (valV mvs (.inr "another")).isSome = false := notIn hT Ta
    have SZ := (S9.trans sA).trans sz
    exact ⟨.ref sh, rfl, sh, ds, _, rfl, SZ _ _ hs, sh, ds, D, mvs, "another", rfl, SZ _ _ hs, SZ _ _ hD, false, by rw [ia], q _ SZ⟩
end
end CO

set_option autoImplicit false
namespace SU
open PySem PySem.Spec PyProof.Rows
theorem pwRising : ∀ (l : List Str) (p : Str), risingS p l = true → (p :: l).Pairwise (fun a b => a.cps.toList ≤ b.cps.toList)
  | [], p, _ => List.pairwise_singleton _ _
  | x :: r, p, h => by
    have h2 : (!ltCps x.cps.toList p.cps.toList && risingS x r) = true := h
    rw [Bool.and_eq_true, Bool.not_eq_true', ltCps_eq] at h2
    have le : p.cps.toList ≤ x.cps.toList := List.not_lt.mp (of_decide_eq_false h2.1)
    have ih := pwRising r x h2.2
    refine List.pairwise_cons.mpr ⟨fun y hy => ?_, ih⟩
    rcases List.mem_cons.mp hy with rfl | hy
    · exact le
    · exact List.le_trans le ((List.pairwise_cons.mp ih).1 y hy)
theorem pwSorted (l : List Str) (h : sortedS l = true) : l.Pairwise (fun a b => a.cps.toList ≤ b.cps.toList) := by
  cases l with
  | nil => exact .nil
  | cons x r => exact pwRising r x h
theorem uniq {a b : List Str} (h : a.Perm b) (s1 : sortedS a = true) (s2 : sortedS b = true) : a = b := by
  refine List.Perm.eq_of_pairwise (le := fun a b : Str => a.cps.toList ≤ b.cps.toList) (fun x y _ _ h1 h2 => ?_) (pwSorted a s1) (pwSorted b s2) h
  have e := List.le_antisymm h1 h2
  cases x; cases y
  simpa using e
end SU

set_option Elab.async false
set_option linter.all false
set_option maxRecDepth 100000
set_option maxHeartbeats 8000000
/-! what the law rests on -/
namespace CO
open PySem PySem.Spec PyProof.Rows L2 ND KS KS.La PLC TRE OC
open KX hiding sameUpd
def lk (L : List (Str × Tr)) (z : Str) : Option Tr := (L.find? fun p => decide (p.1 = z)).map (·.2)
theorem lk_pos {p : Str × Tr} {L : List (Str × Tr)} {z : Str} (e : p.1 = z) : lk (p :: L) z = some p.2 := by simp [lk, List.find?_cons, e]
theorem lk_neg {p : Str × Tr} {L : List (Str × Tr)} {z : Str} (e : ¬ p.1 = z) : lk (p :: L) z = lk L z := by simp [lk, List.find?_cons, e]
theorem lk_mem {L : List (Str × Tr)} {z : Str} {t : Tr} (h : lk L z = some t) : (z, t) ∈ L := by
  induction L with
  | nil => exact absurd h (by simp [lk])
  | cons p L ih =>
    by_cases e : p.1 = z
    · rw [lk_pos e] at h
      have e2 := Option.some.inj h
      subst e e2
      exact List.mem_cons_self
    · rw [lk_neg e] at h
      exact List.mem_cons_of_mem _ (ih h)
theorem lk_none {L : List (Str × Tr)} {z : Str} (h : z ∉ L.map (·.1)) : lk L z = none := by
  cases e : lk L z with
  | none => rfl
  | some t => exact absurd (List.mem_map_of_mem (f := (·.1)) (lk_mem e)) h
theorem lk_some {L : List (Str × Tr)} {z : Str} (h : z ∈ L.map (·.1)) : ∃ t, lk L z = some t := by
  induction L with
  | nil => exact absurd h (by simp)
  | cons p L ih =>
    by_cases e : p.1 = z
    · exact ⟨_, lk_pos e⟩
    · rw [lk_neg e]
      refine ih ?_
      rcases List.mem_cons.mp h with y | y
      · exact absurd y.symm e
      · exact y
theorem RM.sh {K : PySem.W.Frag} {C : Addr} {H : Hp} {kvs mvs : List (Key × V)} {L : List (Str × Tr)} (h : RM K C H kvs mvs L) : ShT K C H mvs (lk L) := fun nm => by
  induction h with
  | nil => exact .inl ⟨rfl, rfl⟩
  | @cons z v v2 x dx t kvs mvs L hv hx h2 _ ih =>
    by_cases e : z = nm
    · subst e
      exact .inr ⟨.ref x, t, valV_pos rfl, lk_pos rfl, x, dx, v2, rfl, hx, h2⟩
    · rw [valV_neg fun e2 => e (Sum.inr.inj e2), lk_neg e]
      exact ih
theorem RM.tree {K : PySem.W.Frag} {C : Addr} {H : Hp} {kvs mvs : List (Key × V)} {L : List (Str × Tr)} (h : RM K C H kvs mvs L) (nm : Str) : (valV kvs (.inr nm) = none ∧ lk L nm = none) ∨ ∃ v t, valV kvs (.inr nm) = some v ∧ lk L nm = some t ∧ Dp K H v (trD t) := by
  induction h with
  | nil => exact .inl ⟨rfl, rfl⟩
  | @cons z v v2 x dx t kvs mvs L hv hx h2 _ ih =>
    by_cases e : z = nm
    · subst e
      exact .inr ⟨v, t, valV_pos rfl, lk_pos rfl, hv⟩
    · rw [valV_neg fun e2 => e (Sum.inr.inj e2), lk_neg e]
      exact ih
theorem RM.ln {K : PySem.W.Frag} {C : Addr} {H : Hp} {kvs mvs : List (Key × V)} {L : List (Str × Tr)} (h : RM K C H kvs mvs L) : mvs.length = L.length := by
  induction h with
  | nil => rfl
  | cons _ _ _ _ ih => rw [List.length_cons, List.length_cons, ih]
theorem apart : ("none" : Str) ∉ callsL ∧ ("newest" : Str) ∉ callsL ∧ ("another" : Str) ∉ callsL ∧ ("no such" : Str) ∉ callsL ∧ ("none" : Str) ≠ "newest" := by unfold callsL; decide +kernel
theorem tokWords : TOk "none" ∧ TOk "1" := by decide +kernel
theorem fewStop : ∀ rs ks cs l, nextRead (walk .stop rs) = .rd ks cs l → ks.length ≤ 4 := fun rs ks cs l e => by
  have : ∀ rs, walk .stop rs = .stop := fun rs => by
    induction rs with
    | nil => rfl
    | cons r rs ih => exact ih
  rw [this] at e
  cases e
/-- a run, as the law keeps it -/
structure RR where
  r : Addr
  c : Addr
  tl : Addr
  e : Addr
  tv : Addr
  rc : V
  pl : V
  rs : List (List (Option Str))
  n : Nat
  tr : List PyData
structure RunOk (K : PySem.W.Frag) (C CR CC CN : Addr) (HB H : Hp) (U : Addr) (t : Tr) (nm : Str) (as : List Str) (k : Nat) (x : RR) : Prop where
  run : RunAt K C CR CC CN H x.r x.c x.tl x.rc t nm as x.rs x.n x.tr
  n1 : HB x.r = none
  n2 : HB x.c = none
  n3 : HB x.tl = none
  n4 : HB x.e = none
  n5 : HB x.tv = none
  le : H x.e = some (.lst [.ref x.r, x.pl, .ref x.tv])
  dp : Dp K H x.pl (pcD ⟨nm, as, x.rs, x.n⟩)
  lt : ∃ us, H x.tv = some (.lst us) ∧ DpAll K H us x.tr
  b1 : x.rs.length ≤ k
  b2 : x.n ≤ k
  b3 : x.tr.length ≤ k
  od : ∀ d ∈ x.tr, Od 59 d
  nU : x.tl ≠ U
theorem RunOk.up {K : PySem.W.Frag} {C CR CC CN : Addr} {HB H : Hp} {U : Addr} {t : Tr} {nm : Str} {as : List Str} {k k' : Nat} {x : RR} (h : RunOk K C CR CC CN HB H U t nm as k x) (le : k ≤ k') : RunOk K C CR CC CN HB H U t nm as k' x :=
  { h with b1 := Nat.le_trans h.b1 le, b2 := Nat.le_trans h.b2 le, b3 := Nat.le_trans h.b3 le }
/-- all that a run is stands -/
theorem RunOk.keep {K : PySem.W.Frag} {C CR CC CN : Addr} {HB H H' : Hp} {U : Addr} {t : Tr} {nm : Str} {as : List Str} {k : Nat} {x : RR} (h : RunOk K C CR CC CN HB H U t nm as k x) (s : Stl H H') (kr : ∀ o, H x.r = some o → H' x.r = some o) (kc : ∀ o, H x.c = some o → H' x.c = some o) (kt : ∀ o, H x.tl = some o → H' x.tl = some o)
    (ke : ∀ o, H x.e = some o → H' x.e = some o) (kv : ∀ o, H x.tv = some o → H' x.tv = some o) : RunOk K C CR CC CN HB H' U t nm as k x :=
  { h with run := h.run.stl s kr kc kt, le := ke _ h.le, dp := dpTS s.ts (plPc _) _ h.dp, lt := let ⟨us, a, b⟩ := h.lt; ⟨us, kv _ a, allPl h.run.pl s.ts b⟩ }
theorem RunOk.same {K : PySem.W.Frag} {C CR CC CN : Addr} {HB H H' : Hp} {U : Addr} {t : Tr} {nm : Str} {as : List Str} {k : Nat} {x : RR} (h : RunOk K C CR CC CN HB H U t nm as k x) (s : Same H H') : RunOk K C CR CC CN HB H' U t nm as k x := h.keep (Stl.same s) (fun o e => s _ _ e) (fun o e => s _ _ e) (fun o e => s _ _ e) (fun o e => s _ _ e) (fun o e => s _ _ e)
/-- two runs don't touch each other -/
def Ap (x y : RR) : Prop := x.r ≠ y.r ∧ x.c ≠ y.c ∧ x.tl ≠ y.tl
def Tl (x y : RR) : Prop := x.tl ≠ y.e ∧ x.tl ≠ y.tv
structure Runs (K : PySem.W.Frag) (C CR CC CN : Addr) (HB H : Hp) (U : Addr) (t : Tr) (nm : Str) (as : List Str) (k : Nat) (xs : List RR) : Prop where
  all : ∀ x ∈ xs, RunOk K C CR CC CN HB H U t nm as k x
  ap : ∀ i j (hi : i < xs.length) (hj : j < xs.length), i ≠ j → Ap xs[i] xs[j]
  tl : ∀ x ∈ xs, ∀ y ∈ xs, Tl x y
  hU : H U = some (.lst (xs.map fun x => V.ref x.e))
  nB : HB U = none
  len : xs.length ≤ 6
  pos : 0 < xs.length
  uE : ∀ x ∈ xs, x.e ≠ U ∧ x.tv ≠ U
section
variable {K : PySem.W.Frag} {C CR CC CN : Addr} {HB H H' : Hp} {U a : Addr} {t : Tr} {nm : Str} {as : List Str} {k k' : Nat} {x y : RR} {xs : List RR}
theorem rcNe (h : RunOk K C CR CC CN HB H U t nm as k x) (g : RunOk K C CR CC CN HB H U t nm as k y) : x.r ≠ y.c ∧ x.r ≠ y.tl ∧ x.c ≠ y.tl ∧ x.r ≠ y.e ∧ x.r ≠ y.tv ∧ x.c ≠ y.e ∧ x.c ≠ y.tv := by
  obtain ⟨⟨dr, pv, sv, ts, a1, a2, a3, a4, a5⟩, ⟨dc, va, vr, sc, a6, _⟩, _⟩ := h.run
  obtain ⟨⟨dr', pv', sv', ts', b1, b2, b3, b4, b5⟩, ⟨dc', va', vr', sc', b6, _⟩, _⟩ := g.run
  obtain ⟨us, u1, u2⟩ := g.lt
  exact ⟨neField a1 b6 (f := "_course") rfl rfl, neKind a1 b4, neKind a6 b4, neKind a1 g.le, neKind a1 u1, neKind a6 g.le, neKind a6 u1⟩
theorem fresh {p : Addr} (kb : Kp a HB H) (F : Fd H a) (h : H p = none) : HB p = none := by
  cases e : HB p with
  | none => rfl
  | some o => rw [kb p o (fdNe F h) e] at h; cases h
theorem apart' {p : Addr} (F : Fd HB a) (h : HB p = none) : p ≠ a := fdNe F h
theorem Runs.same (h : Runs K C CR CC CN HB H U t nm as k xs) (s : Same H H') : Runs K C CR CC CN HB H' U t nm as k xs := { h with all := fun x hx => (h.all x hx).same s, hU := s _ _ h.hU }
theorem Runs.up (h : Runs K C CR CC CN HB H U t nm as k xs) (le : k ≤ k') : Runs K C CR CC CN HB H U t nm as k' xs := { h with all := fun x hx => (h.all x hx).up le }
theorem Runs.feed (h : Runs K C CR CC CN HB H U t nm as k xs) (FB : Fd HB a) (F : Fd H a) (kp : Kp a H H') : Runs K C CR CC CN HB H' U t nm as k xs :=
  { h with all := fun x hx => (h.all x hx).keep (Stl.fd F kp) (fun o e => kp _ _ (apart' FB (h.all x hx).n1) e) (fun o e => kp _ _ (apart' FB (h.all x hx).n2) e) (fun o e => kp _ _ (apart' FB (h.all x hx).n3) e) (fun o e => kp _ _ (apart' FB (h.all x hx).n4) e) (fun o e => kp _ _ (apart' FB (h.all x hx).n5) e), hU := kp _ _ (apart' FB h.nB) h.hU }
theorem Stl.k4 {r c tl : Addr} {rc : V} {rs : List (List (Option Str))} {n : Nat} {tr : List PyData} (F : Fd H a) (h : RunAt K C CR CC CN H r c tl rc t nm as rs n tr) (k : Kp4 a r c tl H H') : Stl H H' := fun b o e tt => by
  obtain ⟨⟨dr, pv, sv, us, h1, h2, h3, h4, h5⟩, ⟨dc, va, vr, sc, c1, _⟩, hp⟩ := h
  obtain ⟨x, y, ea, _⟩ := F
  refine k b o (fun z => ?_) (fun z => ?_) (fun z => ?_) (fun z => ?_) e <;> subst z
  · have e2 := Option.some.inj (ea.symm.trans e)
    rcases tt with ⟨xs, rfl⟩ | ⟨p, xs, rfl⟩ | ⟨D, d, v, rfl⟩ | ⟨D, d, rfl⟩ | ⟨D, d, v, rfl⟩ <;> cases e2
  · have e2 := Option.some.inj (h1.symm.trans e)
    rcases tt with ⟨xs, rfl⟩ | ⟨p, xs, rfl⟩ | ⟨D, d, v, rfl⟩ | ⟨D, d, rfl⟩ | ⟨D, d, v, rfl⟩ <;> first | (cases e2; done) | (injection e2 with _ _ e3; cases e3)
  · have e2 := Option.some.inj (c1.symm.trans e)
    rcases tt with ⟨xs, rfl⟩ | ⟨p, xs, rfl⟩ | ⟨D, d, v, rfl⟩ | ⟨D, d, rfl⟩ | ⟨D, d, v, rfl⟩ <;> first | (cases e2; done) | (injection e2 with _ _ e3; cases e3)
  · have e2 := Option.some.inj (h4.symm.trans e)
    rcases tt with ⟨xs, rfl⟩ | ⟨p, xs, rfl⟩ | ⟨D, d, v, rfl⟩ | ⟨D, d, rfl⟩ | ⟨D, d, v, rfl⟩ <;> cases e2
theorem RunOk.k4 (FB : Fd HB a) (F : Fd H a) (hx : RunOk K C CR CC CN HB H U t nm as k x) (hy : RunOk K C CR CC CN HB H U t nm as k y) (ap : Ap x y) (t1 : Tl y x) (kp : Kp4 a y.r y.c y.tl H H') : RunOk K C CR CC CN HB H' U t nm as k x := by
  obtain ⟨p1, p2, p3, p4, p5, p6, p7⟩ := rcNe hx hy
  obtain ⟨q1, q2, q3, q4, q5, q6, q7⟩ := rcNe hy hx
  exact hx.keep (Stl.k4 F hy.run kp) (fun o e => kp _ _ (apart' FB hx.n1) ap.1 p1 p2 e) (fun o e => kp _ _ (apart' FB hx.n2) (Ne.symm q1) ap.2.1 p3 e) (fun o e => kp _ _ (apart' FB hx.n3) (Ne.symm q2) (Ne.symm q3) ap.2.2 e)
    (fun o e => kp _ _ (apart' FB hx.n4) (Ne.symm q4) (Ne.symm q6) (Ne.symm t1.1) e) (fun o e => kp _ _ (apart' FB hx.n5) (Ne.symm q5) (Ne.symm q7) (Ne.symm t1.2) e)
/-- a list cell of the law's is written: the runs stand -/
theorem RunOk.put {L : List V} {ys : List V} (hx : RunOk K C CR CC CN HB H U t nm as k x) (hU : H U = some (.lst L)) (u : x.e ≠ U ∧ x.tv ≠ U) : RunOk K C CR CC CN HB (upd H U (.lst ys)) U t nm as k x := by
  have kp : Kp U H (upd H U (.lst ys)) := Kp.put
  obtain ⟨⟨dr, pv, sv, ts, a1, a2, a3, a4, a5⟩, ⟨dc, va, vr, sc, a6, _⟩, _⟩ := hx.run
  exact hx.keep (Stl.lst hU kp) (fun o e => kp _ _ (neKind a1 hU) e) (fun o e => kp _ _ (neKind a6 hU) e) (fun o e => kp _ _ hx.nU e) (fun o e => kp _ _ u.1 e) (fun o e => kp _ _ u.2 e)
/-- one more -/
theorem Runs.add {y : RR} (h : Runs K C CR CC CN HB H U t nm as k xs) (hl : xs.length < 6) (hy : RunOk K C CR CC CN HB H U t nm as k y) (ap : ∀ x ∈ xs, Ap x y ∧ Ap y x) (tl : ∀ x ∈ xs, Tl x y ∧ Tl y x) (ty : Tl y y) (uy : y.e ≠ U ∧ y.tv ≠ U) :
    Runs K C CR CC CN HB (upd H U (.lst (xs.map (fun x => V.ref x.e) ++ [.ref y.e]))) U t nm as k (xs ++ [y]) := by
  refine ⟨fun x hx => ?_, fun i j hi hj ne => ?_, fun x hx z hz => ?_, by rw [upd_same, List.map_append]; rfl, h.nB, by rw [List.length_append]; show xs.length + 1 ≤ 6; omega, by rw [List.length_append]; show 0 < xs.length + 1; omega, fun x hx => ?_⟩
  · rcases List.mem_append.mp hx with q | q
    · exact (h.all x q).put h.hU (h.uE x q)
    · rw [List.mem_singleton.mp q]
      exact hy.put h.hU uy
  · rw [List.length_append] at hi hj
    have hi2 : i < xs.length + 1 := hi
    have hj2 : j < xs.length + 1 := hj
    by_cases ei : i < xs.length
    · rw [List.getElem_append_left ei]
      by_cases ej : j < xs.length
      · rw [List.getElem_append_left ej]
        exact h.ap i j ei ej ne
      · rw [List.getElem_append_right (by omega), List.getElem_singleton]
        exact (ap _ (List.getElem_mem ei)).1
    · rw [List.getElem_append_right (by omega), List.getElem_singleton]
      have ej : j < xs.length := by omega
      rw [List.getElem_append_left ej]
      exact (ap _ (List.getElem_mem ej)).2
  · rcases List.mem_append.mp hx with q | q <;> rcases List.mem_append.mp hz with r | r
    · exact h.tl x q z r
    · rw [List.mem_singleton.mp r]
      exact (tl x q).1
    · rw [List.mem_singleton.mp q]
      exact (tl z r).2
    · rw [List.mem_singleton.mp q, List.mem_singleton.mp r]
      exact ty
  · rcases List.mem_append.mp hx with q | q
    · exact h.uE x q
    · rw [List.mem_singleton.mp q]
      exact uy
/-- one in another's place, with the same objects of the program -/
theorem Runs.set {y : RR} {q : Nat} (hq : q < xs.length) (h : Runs K C CR CC CN HB H U t nm as k xs) (h' : ∀ i (hi : i < xs.length), i ≠ q → RunOk K C CR CC CN HB H' U t nm as k' xs[i]) (hU : H' U = some (.lst (xs.map fun x => V.ref x.e))) (hy : RunOk K C CR CC CN HB H' U t nm as k' y) (er : y.r = xs[q].r) (ec : y.c = xs[q].c) (et : y.tl = xs[q].tl)
    (tl : ∀ x ∈ xs, Tl x y) (uy : y.e ≠ U ∧ y.tv ≠ U) : Runs K C CR CC CN HB (upd H' U (.lst ((xs.map fun x => V.ref x.e).set q (.ref y.e)))) U t nm as k' (xs.set q y) := by
  have mem : ∀ x ∈ xs.set q y, x = y ∨ ∃ i, ∃ hi : i < xs.length, i ≠ q ∧ x = xs[i] := fun x hx => by
    obtain ⟨i, hi, e⟩ := List.getElem_of_mem hx
    rw [List.length_set] at hi
    by_cases z : i = q
    · subst z
      rw [List.getElem_set_self] at e
      exact .inl e.symm
    · rw [List.getElem_set_ne (Ne.symm z)] at e
      exact .inr ⟨i, hi, z, e.symm⟩
  have tlq := h.tl
  refine ⟨fun x hx => ?_, fun i j hi hj ne => ?_, fun x hx z hz => ?_, ?_, h.nB, by rw [List.length_set]; exact h.len, by rw [List.length_set]; exact h.pos, fun x hx => ?_⟩
  · rcases mem x hx with rfl | ⟨i, hi, z, rfl⟩
    · exact hy.put hU uy
    · exact (h' i hi z).put hU (h.uE _ (List.getElem_mem hi))
  · rw [List.length_set] at hi hj
    have a := h.ap i j hi hj ne
    by_cases zi : i = q
    · subst zi
      rw [List.getElem_set_self, List.getElem_set_ne ne]
      exact ⟨er ▸ a.1, ec ▸ a.2.1, et ▸ a.2.2⟩
    · by_cases zj : j = q
      · subst zj
        rw [List.getElem_set_self, List.getElem_set_ne (Ne.symm zi)]
        exact ⟨er ▸ a.1, ec ▸ a.2.1, et ▸ a.2.2⟩
      · rw [List.getElem_set_ne (Ne.symm zi), List.getElem_set_ne (Ne.symm zj)]
        exact a
  · have yx : ∀ z ∈ xs, Tl y z := fun z hz => by
      have := h.tl xs[q] (List.getElem_mem hq) z hz
      exact ⟨et ▸ this.1, et ▸ this.2⟩
    rcases mem x hx with rfl | ⟨i, hi, zi, rfl⟩ <;> rcases mem z hz with rfl | ⟨j, hj, zj, rfl⟩
    · have := tl xs[q] (List.getElem_mem hq)
      exact ⟨et ▸ this.1, et ▸ this.2⟩
    · exact yx _ (List.getElem_mem hj)
    · exact tl _ (List.getElem_mem hi)
    · exact h.tl _ (List.getElem_mem hi) _ (List.getElem_mem hj)
  · rw [upd_same, List.map_set]
  · rcases mem x hx with rfl | ⟨i, hi, z, rfl⟩
    · exact uy
    · exact h.uE _ (List.getElem_mem hi)
end
end CO

set_option Elab.async false
set_option linter.all false
set_option maxRecDepth 100000
set_option maxHeartbeats 16000000
/-! the law -/
namespace CO
open PySem PySem.Spec PyProof.Rows L2 ND KS KS.La PLC TRE OC
open KX hiding sameUpd
abbrev lLaw : Stmt := top 57
def spLaw (K : PySem.W.Frag) : Sp := fun vs H Q _ => ∃ (a : Addr) (ns : List Int), vs = [.ref a] ∧ SqL K H a (ns.map V.int) ∧ ns.length ≤ 63 ∧ ∀ H', Q (.bl true) H'
abbrev nLaw : List Str := ["_law_script", "_law_k", "_law_feed", "_law_recipes", "_law_targets", "_law_trees", "_law_shop", "_law_again", "_law_call", "_law_arguments", "_law_kept", "_law_hand", "_law_runs", "_law_turn", "_law_run", "_law_place", "_law_trail", "_law_at", "_law_step", "_law_one", "_law_other"]
abbrev sl (s : Addr) (x1 x2 x3 x4 x5 x6 x7 x8 x9 x10 x11 x12 x13 x14 x15 x16 x17 x18 x19 x20 : Option V) : L2.St := [some (.ref s), x1, x2, x3, x4, x5, x6, x7, x8, x9, x10, x11, x12, x13, x14, x15, x16, x17, x18, x19, x20]
theorem scLaw : FnScope nLaw ["_law_script"] (defScope lLaw) := ⟨rfl, rfl, rfl, by decide +kernel, rfl, by decide +kernel, by decide +kernel⟩
theorem goodTw : goodT tw := ⟨⟨["o"], fun z hz => by rw [List.mem_singleton.mp hz]; decide +kernel, by rw [TrZ]; exact ⟨⟨by simp, Nat.zero_le _, fun p hp => absurd hp (by simp)⟩, by rw [TrZ]; trivial⟩⟩, by
  rw [trD]
  refine .tup (by show 4 ≤ 100; omega) fun d hd => ?_
  simp only [List.mem_cons, List.not_mem_nil, or_false] at hd
  rcases hd with rfl | rfl | rfl | rfl
  · exact .str _ sk1.1 sk1.2
  · exact .str _ sk2.1 sk2.2
  · exact .tup (Nat.zero_le _) fun d hd => absurd hd (by simp)
  · rw [trD]
    refine .tup (by show 1 ≤ 100; omega) fun d hd => ?_
    rw [List.mem_singleton.mp hd]
    exact .str _ sk4.1 sk4.2⟩
theorem ixN_nat {n g : Nat} (h : g < n) : ixN n (g : Int) = some g := by
  unfold ixN
  rw [if_pos (by omega), if_pos (by omega)]
  rfl
theorem sqlDct {K : PySem.W.Frag} {H H' : Hp} {b M : Addr} {xs : List V} {kvs : List (Key × V)} (h : SqL K H b xs) (hM : H M = some (.dK kvs)) (k : Kp M H H') : SqL K H' b xs := by
  refine h.imp (fun r => ?_) id
  have ne : b ≠ M := fun z => by
    subst z
    rcases r with r | ⟨o, r⟩ <;> (rw [hM] at r; cases r)
  exact r.imp (k _ _ ne) fun ⟨o, r⟩ => ⟨o, k _ _ ne r⟩
section
variable {P : Program} {w : World} {K : PySem.W.Frag} {mg : Str → Option Value} {base : Heap} {f : Addr} {fd : FuncData} {m : Nat} {C CR CC CN CW CH : Addr}
theorem okLaw (hm : 2 ≤ m) (F : FnP K "law" lLaw f fd) (B : Bn mg) (md : mg "dict" = none) (ms : mg "sorted" = none) (W : ShC P w K mg base m C CR CC CN CW) (RL : RnL P w K mg base m C CR CC CN CH) (Fe : Has P w K mg base (m + 1) "_law_feed_of" ["_law_script", "_law_k"] (spFeed K)) (Dr : Has P w K mg base (m + 1) "_law_draw" ["_law_feed", "_law_many"] spDraw)
    (Pk : Has P w K mg base (m + 1) "_law_pick" ["_law_feed", "_law_items"] (spPick K)) (Tx : Has P w K mg base (m + 1) "_law_some_text" ["_law_feed"] spText)
    (Wo : ∃ (f : Addr) (fd : FuncData) (ds : List Value), mg "_law_world" = some (.ref f) ∧ PySem.W.keepIn K (.ref f) = true ∧ Vals [V.bl false] ds ∧ Binds K fd ["_law_feed", "_law_many", "_law_has_knots"] ds ∧ FnOk P w K mg base CX0 (m + 1) f fd ["_law_feed", "_law_many", "_law_has_knots"] (spWorld K))
    (Ls : Has P w K mg base (m + 1) "_law_step_at" ["_law_recipes", "_law_place"] (spLStep K)) (Ha : Has P w K mg base (m + 1) "_law_halts" ["_law_run"] (spHalts K C CR CC CN)) (Go : Has P w K mg base (m + 1) "_law_goes" ["_law_feed", "_law_recipes", "_law_run", "_law_place"] (spGoes K C CR CC CN))
    (Sa : Has P w K mg base (m + 1) "_law_stands" ["_law_recipes", "_law_run", "_law_place", "_law_trail"] (spStands K C CR CC CN)) (Sh : Has P w K mg base (m + 2) "_law_shops_right" ["_law_shop", "_law_other", "_law_recipes", "_law_kept", "_law_call"] (spShops K C CW)) :
    FnOk P w K mg base CX0 (m + 3) f fd ["_law_script"] (spLaw K) := by
  obtain ⟨f1, d1, g1, k1, b1, G1⟩ := Fe.ex
  obtain ⟨f2, d2, g2, k2, b2, G2⟩ := Dr.ex
  obtain ⟨fP, dP, gP, kP, bP, GP⟩ := Pk.ex
  obtain ⟨fX, dX, gX, kX, bX, GX⟩ := Tx.ex
  obtain ⟨fW, dW', dsW, gW, kW, vW, bW, GW⟩ := Wo
  obtain ⟨fS, dS, gS, kS, bS, GS⟩ := Ls.ex
  obtain ⟨fH, dH, gH, kH, bH, GH⟩ := Ha.ex
  obtain ⟨fG, dG, gG, kG, bG, GG⟩ := Go.ex
  obtain ⟨fA, dA, gA, kA, bA, GA⟩ := Sa.ex
  obtain ⟨fZ, dZ, gZ, kZ, bZ, GZ⟩ := Sh.ex
  obtain ⟨fB, dB, dsB, eB, hB, hE, bB, vB, bB1, GB⟩ := W.bg
  obtain ⟨fC, dC, hC, bC, GC⟩ := W.ch
  obtain ⟨fN, dN, hN, iN, bN, GN⟩ := W.ln
  obtain ⟨fI, dI, dsI, eI, MI, hEI, bI, vI, bI1, GI⟩ := W.ri
  obtain ⟨fJ, dJ, MJ, bJ, GJ⟩ := W.ti
  obtain ⟨fK, dK, MK, bK, GK⟩ := W.wi
  obtain ⟨pT, gT, dT, hT, bT, GT⟩ := RL.tr
  obtain ⟨fO, dO, hO, bO, GO⟩ := RL.cp
  refine F.ok scLaw (fun vs H Q E h => ?_) (fun cdv A outer s H vs Q E hr h => ?_)
  · obtain ⟨a, ns, rfl, _⟩ := h
    rfl
  · obtain ⟨sc, ns, rfl, hSc, hlen, q⟩ := h
    have hu1 : (A.deeper (envOfC "law" (defScope lLaw) s.heap.objs.size f cdv)).units + 1 < cLine := by
      have := hr.units
      omega
    have hrm : Room m _ := hr.mono (by omega)
    have hrm1 : Room (m + 1) _ := hr.mono (by omega)
    have hr2 : Room (1 + 1) _ := hr.mono (by omega)
    refine ⟨_, PSs.nox (C8.pss_cut (ps_for PassesOwn.never rfl (pi_range1 (by rfl) B.range (pa_cons (pe_callB (call_max2 rfl) (by rfl) B.max (by decide +kernel) (pa_cons (pe_int) (pa_cons (pe_callB (call_min2 rfl) (by rfl) B.min (by decide +kernel) (pa_cons (pe_int) (pa_cons (pe_callB call_len_seq (by rfl) B.len PySem.boot_len (pa_cons (pv 0) pa_nil)) pa_nil))) pa_nil))) pa_nil)) (pg_name (i := 1) scLaw.nd rfl (.inl rfl))
      (C8.pss_cut (ps_set (i := 2) scLaw.nd rfl (.inl rfl) (pe_call G1 hrm1 (by rfl) g1 k1 b1 .nil pass0 (pa_cons (pv 0) (pa_cons (pv 1) pa_nil)))) (C8.pss_cut (ps_asg (pe_call GW hrm1 (by rfl) gW kW bW vW pass0 (pa_cons (pv 2) (pa_cons (pe_int) pa_nil))) (pg_tup rfl (pgs_cons (pg_name (i := 3) scLaw.nd rfl (.inr rfl)) (pgs_cons (pg_name (i := 4) scLaw.nd rfl (.inl rfl)) pgs_nil)))) (C8.pss_cut (ps_set (i := 5) scLaw.nd rfl (.inl rfl) (pe_callTy (T := "dict") (call_dictP rfl) (by rfl) md (by decide +kernel) (pa_cons (pe_lock (pe_lc (own := [("_law_call", 8)]) (g := gName 8) rfl scLaw.nd (pi_keys (pv 3)) (blkOk_by (N := nLaw) (sc := defScope lLaw) (by decide +kernel))
            (fun _ _ _ _ _ => pg_name (i := 8) scLaw.nd rfl (.inl rfl) (hf := .inr rfl)) (fun _ _ _ _ _ => pts_nil) (fun _ _ _ _ _ => pe_tup (pa_cons (pv 8) (pa_cons (pe_make MJ GJ hrm1 (by rfl) W.gT bJ .nil pass0 (pa_cons (pe_dget hu1 (pv 3) (pv 8) (fun _ _ => rfl)) pa_nil)) pa_nil))))) pa_nil))) (C8.pss_cut (ps_par (i := 6) (j := 7) (by rfl) scLaw.nd rfl rfl (by decide) rfl rfl (pa_cons (pe_make MK GK hrm1 (by rfl) W.gW bK .nil pass0 (pa_cons (pv 5) pa_nil)) (pa_cons (pe_make MK GK hrm1 (by rfl) W.gW bK .nil pass0 (pa_cons (pv 5) pa_nil)) pa_nil)) (by rfl)) (C8.pss_cut (ps_if (PW.pt (pw_or (pt_cmpR (r := rNeD K) (op_neD hr.units) (pe_callB cr_sortedS (by rfl) ms (by decide +kernel) (pa_cons (pe_callTy (call_listD rfl) (by rfl) B.list (by decide +kernel) (pa_cons (pv 5) pa_nil)) pa_nil)) (pe_callB cr_sortedS (by rfl) ms (by decide +kernel) (pa_cons (pe_callTy (call_listD rfl) (by rfl) B.list (by decide +kernel) (pa_cons (pv 3) pa_nil)) pa_nil)) (nomark _))
          (pw_or1 (pt_cmpR op_ne (pe_callB (call_lenOwn (GN.raw bN .nil) hr2 hN iN pass0) (by rfl) B.len PySem.boot_len (pa_cons (pv 7) pa_nil)) (pe_callB (call_lenOwn (GN.raw bN .nil) hr2 hN iN pass0) (by rfl) B.len PySem.boot_len (pa_cons (pv 6) pa_nil)) (nomark _))))) (pss_one (ps_ret pe_bl)) pss_nil) (C8.pss_cut (ps_dput hu1 (pv 5) pe_str (pe_make MJ GJ hrm1 (by rfl) W.gT bJ .nil pass0 (pa_cons (pe_tup (pa_cons (pe_str) pa_nil)) pa_nil)) rfl) (C8.pss_cut (ps_par (i := 8) (j := 9) (by rfl) scLaw.nd rfl rfl (by decide) rfl rfl (pa_cons (pe_call GP hrm1 (by rfl) gP kP bP .nil pass0 (pa_cons (pv 2) (pa_cons (pe_op op_cat (pe_callTy (call_listD rfl) (by rfl) B.list (by decide +kernel) (pa_cons (pv 3) pa_nil)) (pe_lst (pa_cons (pe_str) pa_nil))) pa_nil))) (pa_cons (pe_tup (pa_cons (pe_call GX hrm1 (by rfl) gX kX bX .nil pass0 (pa_cons (pv 2) pa_nil)) (pa_cons (pe_str) pa_nil))) pa_nil)) (by rfl)) (C8.pss_cut (ps_set (i := 10) scLaw.nd rfl (.inl rfl) (pe_callTy call_dictD (by rfl) md (by decide +kernel) (pa_cons (pv 3) pa_nil))) (C8.pss_cut (ps_dput hu1 (pv 3) pe_str (pe_tup (pa_cons (pe_str) pa_nil)) rfl) (C8.pss_cut (ps_set (i := 11) scLaw.nd rfl (.inl rfl) (pe_make MI GI hrm1 (by rfl) W.gN bI1 .nil pass0 (pa_cons (pv 8) (pa_cons (pe_make MJ GJ hrm1 (by rfl) W.gT bJ .nil pass0 (pa_cons (pe_dget hu1 (pv 3) (pv 8) (fun _ _ => rfl)) pa_nil)) (pa_cons (pv 9) pa_nil))))) (C8.pss_cut (ps_set (i := 12) scLaw.nd rfl (.inr rfl) (pe_lst (pa_cons (pe_lst (pa_cons (pv 11) (pa_cons (pe_tup (pa_cons (pv 8) (pa_cons (pv 9) (pa_cons (pe_tup pa_nil) (pa_cons (pe_int) pa_nil))))) (pa_cons (pe_lst pa_nil) pa_nil)))) (pa_cons (pe_lst (pa_cons (pe_meth (pv 6) W.clW hB GB hrm bB1 .nil pass0 (pa_cons (pv 8) (pa_cons (pv 9) pa_nil))) (pa_cons (pe_tup (pa_cons (pv 8) (pa_cons (pv 9) (pa_cons (pe_tup pa_nil) (pa_cons (pe_int) pa_nil))))) (pa_cons (pe_lst pa_nil) pa_nil)))) pa_nil)))) (C8.pss_cut (ps_for PassesOwn.never rfl (pi_range1 (by rfl) B.range (pa_cons (pe_int) pa_nil)) (pg_name (i := 13) scLaw.nd rfl (.inl rfl))
          (C8.pss_cut (ps_asg (pe_call GP hrm1 (by rfl) gP kP bP .nil pass0 (pa_cons (pv 2) (pa_cons (pv 12) pa_nil))) (pg_lst rfl (pgs_cons (pg_name (i := 14) scLaw.nd rfl (.inr rfl)) (pgs_cons (pg_name (i := 15) scLaw.nd rfl (.inr rfl)) (pgs_cons (pg_name (i := 16) scLaw.nd rfl (.inl rfl)) pgs_nil))))) (C8.pss_cut (ps_set (i := 17) scLaw.nd rfl (.inl rfl) (pe_ix ix_list (pe_lc (own := [("_law_k", 1)]) (g := gName 1) rfl scLaw.nd (pi_range1 (by rfl) B.range (pa_cons (pe_callB call_len_seq (by rfl) B.len PySem.boot_len (pa_cons (pv 12) pa_nil)) pa_nil)) (blkOk_by (N := nLaw) (sc := defScope lLaw) (by decide +kernel))
              (fun _ _ _ _ _ => pg_name (i := 1) scLaw.nd rfl (.inl rfl) (hf := .inr rfl))
              (fun _ _ _ _ _ => pts_one (PW.pt (pw_and (pt_cmpR (r := rEqD K) (op_eqD hr.units) (pe_prop (pe_ix (r := rIxL K) ix_list (pe_ix (r := rIxL K) ix_list (pv 12) (pv 1) (fun _ _ => rfl)) pe_int (fun _ _ => rfl)) RL.clN hT GT hr2 bT .nil pass0 rfl) (pe_prop (pv 14) RL.clN hT GT hr2 bT .nil pass0 rfl) (nomark _)) (pw_and1 (pt_cmpR (r := rEqD K) (op_eqD hr.units) (pe_ix (r := rIxL K) ix_list (pe_ix (r := rIxL K) ix_list (pv 12) (pv 1) (fun _ _ => rfl)) pe_int (fun _ _ => rfl)) (pv 15) (nomark _))))))
              (fun _ _ _ _ _ => pv 1)) pe_int (fun _ _ => rfl))) (C8.pss_cut (ps_set (i := 18) scLaw.nd rfl (.inl rfl) (pe_call GS hrm1 (by rfl) gS kS bS .nil pass0 (pa_cons (pv 3) (pa_cons (pv 15) pa_nil)))) (C8.pss_cut (ps_if (PW.pt (pw_and (pt_cmpR op_eq (pe_call G2 hrm1 (by rfl) g2 k2 b2 .nil pass0 (pa_cons (pv 2) (pa_cons (pe_int) pa_nil))) pe_int (nomark _)) (pw_and1 (pt_cmpR op_lt (pe_callB call_len_seq (by rfl) B.len PySem.boot_len (pa_cons (pv 12) pa_nil)) pe_int (nomark _)))))
              (pss_one (ps_expr (pe_bm PySem.F.plainAttrs_list PySem.F.slot_list_append PySem.F.type_list_append mt_append (pv 12) (pa_cons (pe_lst (pa_cons (pe_meth0 (pv 14) RL.clN hO GO hrm bO .nil pass0) (pa_cons (pv 15) (pa_cons (pe_callTy call_list_of (by rfl) B.list (by decide +kernel) (pa_cons (pv 16) pa_nil)) pa_nil)))) pa_nil))))
              (pss_one (ps_if (pt_cmpR op_eq (pe_ix ix_tup (pv 18) pe_int (fun _ _ => rfl)) pe_str (nomark _)) (pss_one (ps_if (pt_not (pt_val (pe_call GH hrm1 (by rfl) gH kH bH .nil pass0 (pa_cons (pv 14) pa_nil)))) (pss_one (ps_ret pe_bl)) pss_nil))
                (C8.pss_cut (ps_set (i := 15) scLaw.nd rfl (.inr rfl) (pe_call GG hrm1 (by rfl) gG kG bG .nil pass0 (pa_cons (pv 2) (pa_cons (pv 3) (pa_cons (pe_ix ix_list (pe_ix ix_list (pv 12) (pv 17) (fun _ _ => rfl)) pe_int (fun _ _ => rfl)) (pa_cons (pe_ix ix_list (pe_ix ix_list (pv 12) (pv 17) (fun _ _ => rfl)) pe_int (fun _ _ => rfl)) pa_nil)))))) (pss_one (ps_asg (pe_lst (pa_cons (pe_ix ix_list (pe_ix ix_list (pv 12) (pv 17) (fun _ _ => rfl)) pe_int (fun _ _ => rfl)) (pa_cons (pv 15) (pa_cons (pe_op op_cat (pv 16) (pe_lst (pa_cons (pe_tup (pa_cons (pe_ix ix_list (pe_ix ix_list (pv 12) (pv 17) (fun _ _ => rfl)) pe_int (fun _ _ => rfl)) (pa_cons (pv 18) pa_nil))) pa_nil))) pa_nil)))) (pg_sub (pv 12) (pv 17) set_list))))))) (pss_one (ps_if (pt_cmpR (r := rNeD K) (op_neD hr.units) (pe_lc (own := [("_law_one", 19)]) (g := gName 19) rfl scLaw.nd (pi_list (pv 12)) (blkOk_by (N := nLaw) (sc := defScope lLaw) (by decide +kernel))
              (fun _ _ _ _ _ => pg_name (i := 19) scLaw.nd rfl (.inl rfl) (hf := .inr rfl))
              (fun _ _ _ _ _ => pts_one (PW.pt (pw_or (pt_cmpR op_isN (pe_ix (r := rIxL K) ix_list (pv 19) pe_int (fun _ _ => rfl)) pe_non (nomark _)) (pw_or1 (pt_not (pt_val (pe_call GA hrm1 (by rfl) gA kA bA .nil pass0 (pa_cons (pv 3) (pa_cons (pe_ix (r := rIxL K) ix_list (pv 19) pe_int (fun _ _ => rfl)) (pa_cons (pe_ix (r := rIxL K) ix_list (pv 19) pe_int (fun _ _ => rfl)) (pa_cons (pe_ix (r := rIxL K) ix_list (pv 19) pe_int (fun _ _ => rfl)) pa_nil)))))))))))
              (fun _ _ _ _ _ => pe_int)) (pe_lst pa_nil) (nomark _)) (pss_one (ps_ret pe_bl)) pss_nil))))))) (C8.pss_cut (ps_set (i := 20) scLaw.nd rfl (.inl rfl) (pe_meth (pv 6) W.clW hC GC hrm bC .nil pass0 (pa_cons (pv 8) (pa_cons (pe_make MJ GJ hrm1 (by rfl) W.gT bJ .nil pass0 (pa_cons (pe_tup (pa_cons (pe_str) (pa_cons (pe_str) (pa_cons (pe_tup pa_nil) (pa_cons (pe_tup (pa_cons (pe_str) pa_nil)) pa_nil))))) pa_nil)) pa_nil)))) (C8.pss_cut (ps_expr (pe_dclear (pv 5))) (pss_one (ps_if (PW.pt (pw_or (pt_not (pt_val (pe_call GZ hr (by rfl) gZ kZ bZ .nil pass0 (pa_cons (pv 6) (pa_cons (pv 20) (pa_cons (pv 3) (pa_cons (pv 10) (pa_cons (pv 8) pa_nil)))))))) (pw_or1 (pt_not (pt_val (pe_call GH hrm1 (by rfl) gH kH bH .nil pass0 (pa_cons (pe_meth (pv 6) W.clW hB GB hrm bB vB pass0 (pa_cons (pe_str) pa_nil)) pa_nil))))))) (pss_one (ps_ret pe_bl)) pss_nil))))))))))))))))) (pss_one (ps_ret pe_bl))), ?_⟩
    refine ⟨fun σ' H' => True, ?_, ?_⟩
    · refine ⟨.ref sc, rfl, sc, _, rfl, .inl hSc, 4, _, rfl, 2, _, rfl, _, rfl, ?b1, ?b2, ?main⟩
      case b1 => split <;> (try split) <;> omega
      case b2 => split <;> (try split) <;> omega
      case main =>
      have hN : ∀ L : Int, 0 ≤ L → (if (if L < 4 then L else 4) > 2 then (if L < 4 then L else 4) else 2).toNat ≤ 4 := fun L hL => by split <;> (try split) <;> omega
      refine forJ (n := _) (fun i σ' H' => (∃ x1 x2 x3 x4 x5 x6 x7 x8 x9 x10 x11 x12 x13 x14 x15 x16 x17 x18 x19 x20, σ' = sl sc x1 x2 x3 x4 x5 x6 x7 x8 x9 x10 x11 x12 x13 x14 x15 x16 x17 x18 x19 x20) ∧ SqL K H' sc (ns.map V.int)) ⟨⟨none, none, none, none, none, none, none, none, none, none, none, none, none, none, none, none, none, none, none, none, rfl⟩, hSc⟩ (fun i σ' H' lt _ => lt) (fun σ' H' _ => Nat.le_refl _) (fun i σ' H0 x H1 lt h y => ?_) (fun σ' H' h => trivial)
      obtain ⟨rfl, rfl⟩ := y
      obtain ⟨⟨x1, x2, x3, x4, x5, x6, x7, x8, x9, x10, x11, x12, x13, x14, x15, x16, x17, x18, x19, x20, rfl⟩, hT1⟩ := h
      have li : i < 4 := Nat.lt_of_lt_of_le lt (hN _ (Int.natCast_nonneg _))
      -- the feed
      refine ⟨fun σ' H2 => ∃ a, σ' = sl sc (some (.int (0 + i))) (some (.ref a)) x3 x4 x5 x6 x7 x8 x9 x10 x11 x12 x13 x14 x15 x16 x17 x18 x19 x20 ∧ Same H1 H2 ∧ Fd H2 a ∧ H1 a = none, ?_, ?_⟩
      · exact ⟨.ref sc, rfl, .int (0 + i), rfl, sc, ns, 0 + i, rfl, hT1, hlen, by omega, by omega, fun p Hp sm np fd => ⟨p, rfl, sm, fd, np⟩⟩
      rintro _ H2 ⟨a, rfl, s2, F2, na⟩
      have script : ∀ {H' : Hp}, Kp a H2 H' → SqL K H' sc (ns.map V.int) := fun k => Same.seq (fun b o hb => k b o (ne_of_none hb na) (s2 b o hb)) hT1
      -- the world
      refine ⟨fun σ' H3 => ∃ R G kvs L, σ' = sl sc (some (.int (0 + i))) (some (.ref a)) (some (.ref R)) (some (.ref G)) x5 x6 x7 x8 x9 x10 x11 x12 x13 x14 x15 x16 x17 x18 x19 x20 ∧ H3 R = some (.dK kvs) ∧ H2 R = none ∧ RK K H3 kvs L ∧ RecOk L ∧ (∀ p ∈ L, p.1 ∈ callsL) ∧ L.length ≤ 12 ∧ Kp a H2 H3 ∧ Fd H3 a, ?_, ?_⟩
      · refine ⟨.ref a, rfl, a, 5, rfl, F2, by decide, by decide, fun p R G kvs L H4 hp nR eR rk ok ca lL k4 F4 => ?_⟩
        exact ⟨p, _, rfl, hp, rfl, _, _, rfl, _, _, rfl, rfl, R, G, kvs, L, rfl, eR, nR, rk, ok, ca, lL, k4, F4⟩
      rintro _ H4 ⟨R, G, kvs, L, rfl, eR4, nR, rk4, rok, ca3, lL, k4, F4⟩
      have lkv := rk4.len
      -- what is made of them
      refine ⟨fun σ' H5 => ∃ M mvs, σ' = sl sc (some (.int (0 + i))) (some (.ref a)) (some (.ref R)) (some (.ref G)) (some (.ref M)) x6 x7 x8 x9 x10 x11 x12 x13 x14 x15 x16 x17 x18 x19 x20 ∧ H5 R = some (.dK kvs) ∧ H5 M = some (.dK mvs) ∧ M ≠ R ∧ RM K C H5 kvs mvs L ∧ Kp a H2 H5 ∧ Fd H5 a, ?_, ?_⟩
      · refine ⟨R, .dK kvs, eR4, trivial, fun od => ⟨.ref R, rfl, R, od, rfl, .inl ⟨kvs, upd_same, fun D hD => ?_⟩⟩⟩
        have RD : R ≠ D := fun z => by rw [← z, upd_same] at hD; cases hD
        have nD4 : H4 D = none := by
          rw [upd_ne (Ne.symm RD)] at hD
          exact hD
        refine lcJ (n := kvs.length) (vs := [8]) (fun j T => ∃ (ps : List Addr) (mvs : List (Key × V)), T D = some (.lst (ps.map V.ref)) ∧ Paired (fun p (kv : Key × V) => SqT K T p [kV kv.1, kv.2]) ps mvs ∧ RM K C T (kvs.take j) mvs (L.take j) ∧ T R = some (.frz od (.dK kvs)) ∧ (∀ b o, b ≠ R → H4 b = some o → T b = some o) ∧ ps.length = j)
          ⟨[], [], upd_same, .nil, .nil, by rw [upd_ne RD]; exact upd_same, fun b o nb hb => ?_, rfl⟩ (fun j T lt h => ⟨h.choose_spec.choose_spec.2.2.2.1, lt⟩) (fun T h => ⟨h.choose_spec.choose_spec.2.2.2.1, Nat.le_refl _⟩) (fun j T x T2 lt h y => ?_) (fun T h => ?_)
        · rw [upd_ne (ne_of_none hb nD4), upd_ne nb]
          exact hb
        · obtain ⟨rfl, k, v, ek, rfl⟩ := y
          obtain ⟨ps, mvs, eD, pr, rm, eRT, kT, lps⟩ := h
          obtain ⟨z, t, rfl, eL, hv⟩ := rk4.atK ek
          have hzL : (z, t) ∈ L := List.mem_of_getElem? eL
          obtain ⟨v', t', ev', hv', hzL'⟩ := rk4.some (List.mem_map_of_mem (f := (·.1)) hzL)
          obtain rfl := onlyOne rok.1 hzL hzL'
          have tT : TS H4 T2 := fun b o hb tt => kT b o (fun e => by
            rw [e, eR4] at hb
            have e2 := Option.some.inj hb
            rcases tt with ⟨xs, rfl⟩ | ⟨p, xs, rfl⟩ <;> cases e2) hb
          refine ⟨rfl, ?_⟩
          unfold tYes
          dsimp only
          rw [if_pos rfl]
          refine ⟨.str z, rfl, .ref R, rfl, .str z, rfl, R, v', rfl, .inl ⟨kvs, .inr z, .inr ⟨od, eRT⟩, rfl, ev'.symm⟩, fun x dx nx ndx nex => ?_⟩
          have sI : Same T2 (upd (upd T2 dx (.own x)) x (.ins C dx [])) := fun b o hb => by
            rw [upd_ne (ne_of_none hb nx), upd_ne (ne_of_none hb ndx)]
            exact hb
          refine ⟨x, dx, v', t, rfl, upd_same, trTS (tT.trans (TS.same sI)) _ _ hv', (rok.2 _ hzL).2, fun T5 k5 eX => ⟨rfl, (by show 2 ≤ sizeLine; decide), fun p hp => ?_⟩⟩
          have s5 : Same T2 T5 := fun b o hb => k5 b o (ne_of_none hb nx) (sI _ _ hb)
          have sp := KS.sameUpd (o := .tup [.str z, .ref x]) hp
          have eD6 := sp _ _ (s5 _ _ eD)
          have s6 := s5.trans sp
          have eX6 := sp _ _ eX
          have eP : SqT K (upd T5 p (.tup [.str z, .ref x])) p [.str z, .ref x] := .inl (.inl upd_same)
          generalize upd T5 p (.tup [.str z, .ref x]) = T6 at *
          refine ⟨_, eD6, by rw [List.length_map, lps, sizeLine_eq]; omega, ?_⟩
          have t7 := TS.lst (o := .lst (ps.map V.ref ++ [.ref p])) eD6
          have k7 : ∀ b o, b ≠ D → T6 b = some o → upd T6 D (.lst (ps.map V.ref ++ [.ref p])) b = some o := fun b o nb hb => by rw [upd_ne nb]; exact hb
          have lj : j < L.length := by omega
          have eL2 : L[j] = (z, t) := by
            have := List.getElem?_eq_getElem lj
            rw [eL] at this
            exact (Option.some.inj this).symm
          have ek2 : kvs[j] = (Sum.inr z, v) := by
            have := List.getElem?_eq_getElem lt
            rw [ek] at this
            exact (Option.some.inj this).symm
          refine ⟨ps ++ [p], mvs ++ [(.inr z, .ref x)], by rw [List.map_append]; exact upd_same, ?_, ?_, ?_, fun b o nb hb => ?_, by rw [List.length_append, lps]; rfl⟩
          · have up : ∀ {ps : List Addr} {mvs : List (Key × V)} {H H' : Hp}, TS H H' → Paired (fun p (kv : Key × V) => SqT K H p [kV kv.1, kv.2]) ps mvs → Paired (fun p (kv : Key × V) => SqT K H' p [kV kv.1, kv.2]) ps mvs := fun t h => by
              induction h with
              | nil => exact .nil
              | cons h _ ih => exact .cons (TS.tup t h) ih
            exact (up ((TS.same s6).trans t7) pr).snoc (TS.tup t7 eP)
          · rw [List.take_succ_eq_append_getElem lt, List.take_succ_eq_append_getElem lj, ek2, eL2]
            have noD : ∀ E dx' fs, T6 D ≠ some (.ins E dx' fs) := fun E dx' fs e => by rw [eD6] at e; cases e
            have rm6 : RM K C T6 (kvs.take j) mvs (L.take j) := RM.but (R := D) (TS.same s6) (fun b o _ hb => s6 b o hb) (fun E dx' fs e => by rw [eD] at e; cases e) rm
            refine (RM.but t7 k7 noD rm6).snoc (trTS (tT.trans ((TS.same s6).trans t7)) _ _ hv) (k7 _ _ (fun e => ?_) eX6) (trTS (tT.trans ((TS.same s6).trans t7)) _ _ hv')
            exact noD _ _ _ (e ▸ eX6)
          · rw [upd_ne RD]
            exact s6 _ _ eRT
          · rw [upd_ne (ne_of_none hb nD4)]
            exact s6 _ _ (kT b o nb hb)
        · obtain ⟨ps, mvs, eD, pr, rm, eRT, kT, lps⟩ := h
          rw [List.take_length, show L.take kvs.length = L from List.take_of_length_le (by omega)] at rm
          have noR : ∀ E dx' fs, T R ≠ some (.ins E dx' fs) := fun E dx' fs e => by rw [eRT] at e; cases e
          have tR : TS T (upd T R (.dK kvs)) := fun b o hb tt => by
            rw [upd_ne fun e => ?_]
            · exact hb
            · rw [e, eRT] at hb
              have e2 := Option.some.inj hb
              rcases tt with ⟨xs, rfl⟩ | ⟨p, xs, rfl⟩ <;> cases e2
          have k8 : ∀ b o, b ≠ R → T b = some o → upd T R (.dK kvs) b = some o := fun b o nb hb => by rw [upd_ne nb]; exact hb
          have rm8 := RM.but tR k8 noR rm
          have eD8 := k8 _ _ (Ne.symm RD) eD
          have pr8 : Paired (fun p (kv : Key × V) => SqT K (upd T R (.dK kvs)) p [kV kv.1, kv.2]) ps mvs := by
            clear eD eD8 lps rm rm8
            induction pr with
            | nil => exact .nil
            | cons h _ ih => exact .cons (TS.tup tR h) ih
          have s8 : Same H4 (upd T R (.dK kvs)) := fun b o hb => by
            by_cases e : b = R
            · subst e
              rw [upd_same, ← hb, eR4]
            · exact k8 _ _ e (kT b o e hb)
          have eR8 : upd T R (.dK kvs) R = some (.dK kvs) := upd_same
          generalize upd T R (.dK kvs) = T8 at *
          obtain ⟨_, nm2, _, nm4⟩ := rm8.names
          have ndm : ((([] : List (Key × V)) ++ mvs).map (·.1)).Nodup := by
            rw [List.nil_append, nm2, nm4, List.nodup_iff_pairwise_ne, List.pairwise_map]
            have := List.nodup_iff_pairwise_ne.mp rok.1
            exact this.imp fun {a b} n e => n (Sum.inr.inj e)
          refine ⟨eRT, D, ps, mvs, rfl, .inl (.inl eD8), pr8, fun p hp => ?_⟩
          rw [mergeAll mvs [] ndm, List.nil_append]
          have sp := KS.sameUpd (o := .dK mvs) hp
          exact ⟨p, mvs, rfl, sp _ _ eR8, upd_same, (fun z => by rw [z, eR8] at hp; cases hp), RM.but (R := p) (TS.same sp) (fun b o _ hb => sp b o hb) (fun E dx' fs e => by rw [e] at hp; cases hp) rm8, k4.trans (Kp.same (s8.trans sp)), F4.same (s8.trans sp)⟩
      rintro _ H5 ⟨M, mvs, rfl, eR5, eM5, MR, rm5, k5, F5⟩
      have Ma := dNe F5 eM5
      have Ra5 := dNe F5 eR5
      obtain ⟨nm1, nm2, nm3, nm4⟩ := rm5.names
      have tokN : ∀ z ∈ L.map (·.1), TOk z := fun z hz => by
        obtain ⟨p, hp, rfl⟩ := List.mem_map.mp hz
        exact (rok.2 p hp).1
      have notN : ∀ z : Str, z ∉ callsL → z ∉ L.map (·.1) := fun z hz hm => by
        obtain ⟨p, hp, e⟩ := List.mem_map.mp hm
        exact hz (e ▸ ca3 p hp)
      -- two workshops
      refine ⟨fun σ' H' => ∃ s1 D1 s2 D2, σ' = sl sc (some (.int (0 + i))) (some (.ref a)) (some (.ref R)) (some (.ref G)) (some (.ref M)) (some (.ref s1)) (some (.ref s2)) x8 x9 x10 x11 x12 x13 x14 x15 x16 x17 x18 x19 x20 ∧ Same H5 H' ∧ ShAt K C CW H' s1 D1 mvs (lk L) ∧ ShAt K C CW H' s2 D2 mvs (lk L) ∧ H5 D1 = none ∧ H5 D2 = none, ?_, ?_⟩
      · refine ⟨.ref M, rfl, fun y dy hy hdy ney => wsMade hy hdy ney eM5 (CO.RM.sh rm5) fun Hb D1 nD1 sb h1 => ⟨.ref M, rfl, fun y2 dy2 hy2 hdy2 ney2 => wsMade hy2 hdy2 ney2 (sb _ _ eM5) ((CO.RM.sh rm5).stl (Stl.same sb)) fun Hc D2 nD2 sc2 h2 => ?_⟩⟩
        exact ⟨_, _, rfl, y, D1, y2, D2, rfl, sb.trans sc2, h1.same sc2, h2, nD1, noneSame sb nD2⟩
      rintro _ H6 ⟨s1, D1, s2', D2, rfl, S56, hw1, hw2, nD1, nD2⟩
      have lmv : mvs.length = L.length := CO.RM.ln rm5
      -- they have what was handed in
      refine ⟨fun σ' H' => σ' = sl sc (some (.int (0 + i))) (some (.ref a)) (some (.ref R)) (some (.ref G)) (some (.ref M)) (some (.ref s1)) (some (.ref s2')) x8 x9 x10 x11 x12 x13 x14 x15 x16 x17 x18 x19 x20 ∧ Same H6 H', ?_, ?_⟩
      · refine ⟨.ref M, rfl, M, mvs, rfl, .inl (S56 _ _ eM5), fun l1 hl1 => ?_⟩
        have em : mvs.map (fun kv => kV kv.1) = (L.map (·.1)).map V.str := by
          have e1 : mvs.map (fun kv => kV kv.1) = (mvs.map (·.1)).map kV := by rw [List.map_map]; rfl
          have e2 : kvs.map (fun kv => kV kv.1) = (kvs.map (·.1)).map kV := by rw [List.map_map]; rfl
          rw [e1, nm2, ← e2, nm1]
        rw [em]
        have sA := KS.sameUpd (o := .lst ((L.map (·.1)).map V.str)) hl1
        refine ⟨l1, L.map (·.1), rfl, .inl (.inl upd_same), by rw [List.length_map]; omega, fun ys p pm st hp => ?_⟩
        have sB := KS.sameUpd (o := .lst (ys.map V.str)) hp
        refine ⟨.ref R, rfl, R, kvs, rfl, .inl (sB _ _ (sA _ _ (S56 _ _ eR5))), fun l2 hl2 => ?_⟩
        rw [nm1]
        have sC := KS.sameUpd (o := .lst ((L.map (·.1)).map V.str)) hl2
        refine ⟨l2, L.map (·.1), rfl, .inl (.inl upd_same), by rw [List.length_map]; omega, fun ys2 p2 pm2 st2 hp2 => ?_⟩
        have sD := KS.sameUpd (o := .lst (ys2.map V.str)) hp2
        have ey : ys2 = ys := SU.uniq (pm2.trans pm.symm) st2 st
        subst ey
        have ody : ∀ d ∈ ys2.map PyData.str, Od 0 d := fun d hd => by
          obtain ⟨z, hz, rfl⟩ := List.mem_map.mp hd
          have t := tokN z (pm.mem_iff.mp hz)
          exact .str _ (TOk.odS t).1 (TOk.odS t).2
        obtain ⟨c1, c2⟩ := allLay (ds := ys2.map PyData.str) (n := 0) fun d hd => (ody d hd).lay
        have shp : SeqAt.shaped (PyData.list (ys2.map PyData.str)) = true := by
          have e1 : (PyData.list (ys2.map PyData.str)).canLay0 = true := c1
          unfold SeqAt.shaped
          rw [e1, Bool.true_and]
          refine decide_eq_true ?_
          simp only [PyData.depth]
          omega
        refine ⟨.list (ys2.map PyData.str), .list (ys2.map PyData.str), .lst (.inl (.inl (sD _ _ (sC _ _ upd_same)))) (TRE.strsDp _), .lst (.inl (.inl upd_same)) (TRE.strsDp _), shp, shp, ?_⟩
        rw [show PyData.eqv (PyData.list (ys2.map PyData.str)) (PyData.list (ys2.map PyData.str)) = true from by
          rw [SeqAt.eqv_refl]
          exact c1]
        have S6 := ((sA.trans sB).trans sC).trans sD
        obtain ⟨⟨ds1, hs1⟩, hD1, hT1'⟩ := hw1.same S6
        obtain ⟨⟨ds2, hs2⟩, hD2, hT2'⟩ := hw2.same S6
        refine ⟨_, rfl, iteF ?_⟩
        refine ⟨.ref s2', rfl, s2', ds2, _, rfl, hs2, s2', ds2, D2, mvs, rfl, hs2, hD2, mvs.length, rfl, by omega, by omega, .ref s1, rfl, s1, ds1, _, rfl, hs1, s1, ds1, D1, mvs, rfl, hs1, hD1, mvs.length, rfl, by omega, by omega, rfl, _, rfl, ?_⟩
        refine iteNS rfl ⟨rfl, S6⟩
      rintro _ H7 ⟨rfl, S67⟩
      have S57 := S56.trans S67
      have F7 := F5.same S57
      have eM7 := S57 _ _ eM5
      have eR7 := S57 _ _ eR5
      have hw1_7 := hw1.same S67
      have tree7 : ∀ z, (valV kvs (.inr z) = none ∧ lk L z = none) ∨ ∃ v t, valV kvs (.inr z) = some v ∧ lk L z = some t ∧ Dp K H7 v (trD t) := fun z => (CO.RM.tree rm5 z).imp id fun ⟨v, t, p1, p2, p3⟩ => ⟨v, t, p1, p2, dpSame S57 _ _ p3⟩
      have scA : ∀ {Ha Hb : Hp}, SqL K Ha sc (ns.map V.int) → Kp a Ha Hb → SqL K Hb sc (ns.map V.int) := fun {Ha Hb} h k => by
        rcases hT1 with hr | hk
        · have nsa : sc ≠ a := by
            rcases hr with hr | ⟨o, hr⟩ <;> exact ne_of_none hr na
          exact h.imp (fun r => r.imp (k _ _ nsa) fun ⟨o, r⟩ => ⟨o, k _ _ nsa r⟩) id
        · exact .inr hk
      have hsc7 : SqL K H7 sc (ns.map V.int) := script (k5.trans (Kp.same S57))
      -- one more tree
      refine ⟨fun σ' H' => ∃ mvsA, σ' = sl sc (some (.int (0 + i))) (some (.ref a)) (some (.ref R)) (some (.ref G)) (some (.ref M)) (some (.ref s1)) (some (.ref s2')) x8 x9 x10 x11 x12 x13 x14 x15 x16 x17 x18 x19 x20 ∧ H' M = some (.dK mvsA) ∧ Kp M H7 H', ?_, ?_⟩
      · refine ⟨(by show 1 ≤ sizeLine; decide), fun p hp => fun y dy hy hdy ney => ?_⟩
        have sp := KS.sameUpd (o := .tup [.str "stop"]) hp
        refine trMade hy hdy ney (dStop (.inl (.inl upd_same))) goodStop fun Ha sa hrc => ⟨.ref M, rfl, M, _, rfl, DPut.k (k := Sum.inr ("another" : Str)) (sa _ _ (sp _ _ eM7)) (by rw [sizeLine_eq]; omega), ?_⟩
        exact ⟨_, rfl, upd_same, (Kp.same (sp.trans sa)).trans Kp.put⟩
      rintro _ H8 ⟨mvsA, rfl, eM8, k78⟩
      have eR8 := k78 _ _ (Ne.symm MR) eR7
      have st78 : Stl H7 H8 := Stl.dct eM7 k78
      have D1M : D1 ≠ M := fun z => by rw [z, eM5] at nD1; cases nD1
      have F8 : Fd H8 a := by
        obtain ⟨u, v, e, b1, b2⟩ := F7
        exact ⟨u, v, k78 _ _ (Ne.symm Ma) e, b1, b2⟩
      have hw8 := hw1_7.stl st78 fun o e => k78 _ _ D1M e
      have hsc8 : SqL K H8 sc (ns.map V.int) := sqlDct hsc7 eM7 k78
      have tree8 : ∀ z, (valV kvs (.inr z) = none ∧ lk L z = none) ∨ ∃ v t, valV kvs (.inr z) = some v ∧ lk L z = some t ∧ Dp K H8 v (trD t) := fun z => (tree7 z).imp id fun ⟨v, t, p1, p2, p3⟩ => ⟨v, t, p1, p2, trTS st78.ts _ _ p3⟩
      -- the name and the arguments
      refine ⟨fun σ' H' => ∃ nm va z, σ' = sl sc (some (.int (0 + i))) (some (.ref a)) (some (.ref R)) (some (.ref G)) (some (.ref M)) (some (.ref s1)) (some (.ref s2')) (some (.str nm)) (some va) x10 x11 x12 x13 x14 x15 x16 x17 x18 x19 x20 ∧ (nm ∈ L.map (·.1) ∨ nm = "none") ∧ TOk z ∧ Dp K H' va (argsD [z, "1"]) ∧ Kp a H8 H' ∧ Fd H' a, ?_, ?_⟩
      · refine ⟨.ref a, rfl, .ref R, rfl, R, kvs, rfl, .inl eR8, fun l hl => ⟨(by show 1 ≤ sizeLine; decide), fun l2 hl2 => ?_⟩⟩
        rw [nm1]
        have sA := KS.sameUpd (o := .lst (kvs.map fun kv => kV kv.1)) hl
        rw [nm1] at sA hl2
        have sB := KS.sameUpd (o := .lst [.str "none"]) hl2
        refine ⟨l, l2, _, _, rfl, rfl, sB _ _ upd_same, upd_same, by rw [List.length_map, List.length_map, sizeLine_eq]; show L.length + 1 ≤ _; omega, fun l3 hl3 => ?_⟩
        have sC := KS.sameUpd (o := .lst ((L.map (·.1)).map V.str ++ [.str "none"])) hl3
        have S8 := (sA.trans sB).trans sC
        refine ⟨a, l3, _, rfl, F8.same S8, .inl (.inl upd_same), fdNe (F8.same (sA.trans sB)) hl3, by rw [List.length_append]; show 0 < _ + 1; omega, by rw [List.length_append, List.length_map, List.length_map]; show L.length + 1 < 1000; omega, fun i' v H9 ev k9 F9 => ?_⟩
        have hv : ∃ nm, v = .str nm ∧ (nm ∈ L.map (·.1) ∨ nm = "none") := by
          rcases List.mem_append.mp (List.mem_of_getElem? ev) with y | y
          · obtain ⟨z, hz, rfl⟩ := List.mem_map.mp y
            exact ⟨z, rfl, .inl hz⟩
          · exact ⟨_, List.mem_singleton.mp y, .inr rfl⟩
        obtain ⟨nm, rfl, hnm⟩ := hv
        refine ⟨.ref a, rfl, a, rfl, F9, fun z Hb tz kb Fb => ⟨(by show 2 ≤ sizeLine; decide), fun p hp => ?_⟩⟩
        have sp := KS.sameUpd (o := .tup [.str z, .str "1"]) hp
        exact ⟨_, _, rfl, nm, .ref p, z, rfl, hnm, tz, .tup (.inl (.inl upd_same)) (.cons (.str _) (.cons (.str _) .nil)), (((Kp.same S8).trans k9).trans kb).trans (Kp.same sp), Fb.same sp⟩
      rintro _ H9 ⟨nm, va, z1, rfl, hnm, tz1, dva9, k89, F9⟩
      have Ra := dNe F8 eR8
      have eR9 := k89 _ _ Ra eR8
      -- what is kept
      refine ⟨fun σ' H' => ∃ Kd, σ' = sl sc (some (.int (0 + i))) (some (.ref a)) (some (.ref R)) (some (.ref G)) (some (.ref M)) (some (.ref s1)) (some (.ref s2')) (some (.str nm)) (some va) (some (.ref Kd)) x11 x12 x13 x14 x15 x16 x17 x18 x19 x20 ∧ Same H9 H' ∧ H9 Kd = none ∧ H' Kd = some (.dK kvs), ⟨.ref R, rfl, R, kvs, rfl, eR9, fun p hp => ⟨p, rfl, KS.sameUpd hp, hp, upd_same⟩⟩, ?_⟩
      rintro _ H10 ⟨Kd, rfl, S910, nKd, eK10⟩
      have KdR : Kd ≠ R := fun z => by rw [z, eR9] at nKd; cases nKd
      have none0 : valV kvs (.inr ("none" : Str)) = none := by
        rcases tree8 "none" with ⟨e, _⟩ | ⟨v, t, _, e, _⟩
        · exact e
        · exact absurd (List.mem_map_of_mem (f := (·.1)) (lk_mem e)) (notN _ apart.1)
      refine ⟨fun σ' H' => ∃ vS, σ' = sl sc (some (.int (0 + i))) (some (.ref a)) (some (.ref R)) (some (.ref G)) (some (.ref M)) (some (.ref s1)) (some (.ref s2')) (some (.str nm)) (some va) (some (.ref Kd)) x11 x12 x13 x14 x15 x16 x17 x18 x19 x20 ∧ H' R = some (.dK (kvs ++ [(.inr "none", vS)])) ∧ Dp K H' vS (trD .stop) ∧ Kp R H10 H', ?_, ?_⟩
      · refine ⟨(by show 1 ≤ sizeLine; decide), fun p hp => ?_⟩
        have sp := KS.sameUpd (o := .tup [.str "stop"]) hp
        refine ⟨.ref R, rfl, R, _, rfl, DPut.k (k := Sum.inr ("none" : Str)) (sp _ _ (S910 _ _ eR9)) (by rw [sizeLine_eq]; omega), ?_⟩
        rw [putNew none0]
        have eR' := sp _ _ (S910 _ _ eR9)
        exact ⟨.ref p, rfl, upd_same, trTS (tsDict eR') _ _ (dStop (.inl (.inl upd_same))), (Kp.same sp).trans Kp.put⟩
      rintro _ HB ⟨vS, rfl, eRB, dS, k10B⟩
      have eR10 := S910 _ _ eR9
      have st10B : Stl H10 HB := Stl.dct eR10 k10B
      have FB : Fd HB a := by
        obtain ⟨u, v, e, b1, b2⟩ := F9.same S910
        exact ⟨u, v, k10B _ _ (Ne.symm Ra) e, b1, b2⟩
      have D1a : D1 ≠ a := dNe F8 hw8.2.1
      have D1R : D1 ≠ R := fun z => by rw [z, eR5] at nD1; cases nD1
      have st8B : Stl H8 HB := ((Stl.fd F8 k89).trans (Stl.same S910)).trans st10B
      have hwB : ShAt K C CW HB s1 D1 mvs (lk L) := hw8.stl st8B fun o e => k10B _ _ D1R (S910 _ _ (k89 _ _ D1a e))
      have eKB := k10B _ _ KdR eK10
      have eMB : HB M = some (.dK mvsA) := k10B _ _ MR (S910 _ _ (k89 _ _ Ma eM8))
      have hscB : SqL K HB sc (ns.map V.int) := sqlDct (Same.seq S910 (scA hsc8 k89)) eR10 k10B
      have dvaB : Dp K HB va (argsD [z1, "1"]) := dpTS st10B.ts (plArgs _) _ (dpSame S910 _ _ dva9)
      have toks : ∀ z ∈ [z1, ("1" : Str)], TOk z := fun z hz => by
        simp only [List.mem_cons, List.not_mem_nil, or_false] at hz
        rcases hz with rfl | rfl
        · exact tz1
        · exact tokWords.2
      -- the tree of that name
      have treeB : ∃ v, valV (kvs ++ [((Sum.inr ("none" : Str) : Key), vS)]) (Sum.inr nm) = some v ∧ Dp K HB v (trD (trOf (lk L) nm)) ∧ goodT (trOf (lk L) nm) := by
        rcases hnm with hm2 | rfl
        · obtain ⟨t, et⟩ := lk_some hm2
          rcases tree8 nm with ⟨_, e2⟩ | ⟨v, t', e1, e2, e3⟩
          · rw [et] at e2; cases e2
          · have ett : trOf (lk L) nm = t' := by unfold trOf; rw [e2]; rfl
            rw [ett]
            refine ⟨v, ?_, trTS st8B.ts _ _ e3, (rok.2 _ (lk_mem e2)).2⟩
            have nn : nm ≠ "none" := fun z => notN _ apart.1 (z ▸ hm2)
            rw [← putNew none0, valV_put, if_neg fun z => nn (Sum.inr.inj z)]
            exact e1
        · have ett : trOf (lk L) "none" = .stop := by unfold trOf; rw [lk_none (notN _ apart.1)]; rfl
          rw [ett]
          refine ⟨vS, ?_, dS, goodStop⟩
          rw [← putNew none0, valV_put, if_pos rfl]
      obtain ⟨vt, evt, dvt, good⟩ := treeB
      have tnm : TOk nm := by
        rcases hnm with hm2 | rfl
        · exact tokN _ hm2
        · exact tokWords.1
      generalize eT : trOf (lk L) nm = T at *
      obtain ⟨⟨zs, _, tzs⟩, od50⟩ := id good
      have trok : TrOk T := zOk tzs
      have od58 : Od 58 (trD T) := od50.up (by omega)
      have few := fun rs ks cs l (e : nextRead (walk T rs) = .rd ks cs l) => zFew tzs rs e
      -- a run made by hand
      refine ⟨fun σ' H' => ∃ hd c tl rc, σ' = sl sc (some (.int (0 + i))) (some (.ref a)) (some (.ref R)) (some (.ref G)) (some (.ref M)) (some (.ref s1)) (some (.ref s2')) (some (.str nm)) (some va) (some (.ref Kd)) (some (.ref hd)) x12 x13 x14 x15 x16 x17 x18 x19 x20 ∧ Same HB H' ∧ RunAt K C CR CC CN H' hd c tl rc T nm [z1, "1"] [] 0 [] ∧ HB hd = none ∧ HB c = none ∧ HB tl = none, ?_, ?_⟩
      · refine ⟨.str nm, rfl, .ref R, rfl, .str nm, rfl, R, vt, rfl, evt ▸ DGet.k (k := Sum.inr nm) eRB, fun y dy hy hdy ney => trMade hy hdy ney dvt good fun Ha sa hrc => ⟨va, rfl, fun r dr hr0 hdr ner => rnMade hr0 hdr ner hrc.rc (dpSame sa _ _ dvaB) trok toks fun Hb c tl nc nt sb hrun => ?_⟩⟩
        exact ⟨r, c, tl, _, rfl, sa.trans sb, hrun, noneSame sa hr0, noneSame sa nc, noneSame sa nt⟩
      rintro _ H12 ⟨hd, c1, tl1, rc1, rfl, SB12, hrun1, nh1, nh2, nh3⟩
      -- two runs
      have FB12 := FB.same SB12
      refine ⟨fun σ' H' => ∃ U xs, σ' = sl sc (some (.int (0 + i))) (some (.ref a)) (some (.ref R)) (some (.ref G)) (some (.ref M)) (some (.ref s1)) (some (.ref s2')) (some (.str nm)) (some va) (some (.ref Kd)) (some (.ref hd)) (some (.ref U)) x13 x14 x15 x16 x17 x18 x19 x20 ∧ Same HB H' ∧ Runs K C CR CC CN HB H' U T nm [z1, "1"] 0 xs, ?_, ?_⟩
      · refine ⟨.ref hd, rfl, .str nm, rfl, va, rfl, Nat.zero_le _, fun p1 n1 => ⟨(by show 4 ≤ sizeLine; decide), fun p2 n2 => ⟨Nat.zero_le _, fun tv1 n3 => ⟨(by show 3 ≤ sizeLine; decide), fun e1 n4 => ?_⟩⟩⟩⟩
        have q1 := KS.sameUpd (o := .tup []) n1
        have q2 := KS.sameUpd (o := .tup [.str nm, va, .ref p1, .int 0]) n2
        have q3 := KS.sameUpd (o := .lst []) n3
        have q4 := KS.sameUpd (o := .lst [.ref hd, .ref p2, .ref tv1]) n4
        have Q4 := ((q1.trans q2).trans q3).trans q4
        have SE := SB12.trans Q4
        obtain ⟨⟨ds1, hs1⟩, hD1, hT1'⟩ := id (hwB.same SE)
        refine ⟨.ref s1, rfl, s1, ds1, _, rfl, hs1, rfl, .str nm, rfl, va, rfl, ?_⟩
        refine ⟨s1, D1, mvs, lk L, nm, va, [z1, "1"], rfl, hwB.same SE, dpSame SE _ _ dvaB, by rw [eT]; exact trok, toks, fun r2 c2 tl2 rc2 Hc m1 m2 m3 sc2 hrun2 => ?_⟩
        rw [eT] at hrun2
        refine ⟨.str nm, rfl, va, rfl, Nat.zero_le _, fun p3 n5 => ⟨(by show 4 ≤ sizeLine; decide), fun p4 n6 => ⟨Nat.zero_le _, fun tv2 n7 => ⟨(by show 3 ≤ sizeLine; decide), fun e2 n8 => ⟨(by show 2 ≤ sizeLine; decide), fun U n9 => ?_⟩⟩⟩⟩⟩
        have q5 := KS.sameUpd (o := .tup []) n5
        have q6 := KS.sameUpd (o := .tup [.str nm, va, .ref p3, .int 0]) n6
        have q7 := KS.sameUpd (o := .lst []) n7
        have q8 := KS.sameUpd (o := .lst [.ref r2, .ref p4, .ref tv2]) n8
        have q9 := KS.sameUpd (o := .lst [.ref e1, .ref e2]) n9
        have Q9 := (((q5.trans q6).trans q7).trans q8).trans q9
        have SC9 := sc2.trans Q9
        have SF := SE.trans SC9
        have d2 : Dp K (upd (upd H12 p1 (.tup [])) p2 (.tup [.str nm, va, .ref p1, .int 0])) (.ref p2) (pcD ⟨nm, [z1, "1"], [], ((0 : Nat) : Int)⟩) := pcMk (p := ⟨nm, [z1, "1"], [], ((0 : Nat) : Int)⟩) (.inl (.inl upd_same)) (dpSame (SB12.trans (q1.trans q2)) _ _ dvaB) (.tup (sameTup q2 (.inl (.inl upd_same))) .nil)
        have d4 : Dp K (upd (upd Hc p3 (.tup [])) p4 (.tup [.str nm, va, .ref p3, .int 0])) (.ref p4) (pcD ⟨nm, [z1, "1"], [], ((0 : Nat) : Int)⟩) := pcMk (p := ⟨nm, [z1, "1"], [], ((0 : Nat) : Int)⟩) (.inl (.inl upd_same)) (dpSame (SE.trans (sc2.trans (q5.trans q6))) _ _ dvaB) (.tup (sameTup q6 (.inl (.inl upd_same))) .nil)
        have ne1 : HB e1 = none := noneSame (SB12.trans ((q1.trans q2).trans q3)) n4
        have nt1 : HB tv1 = none := noneSame (SB12.trans (q1.trans q2)) n3
        have ne2 : HB e2 = none := noneSame (SE.trans (sc2.trans ((q5.trans q6).trans q7))) n8
        have nt2 : HB tv2 = none := noneSame (SE.trans (sc2.trans (q5.trans q6))) n7
        have nU : HB U = none := noneSame (SE.trans (sc2.trans (((q5.trans q6).trans q7).trans q8))) n9
        obtain ⟨⟨dr1, pv1, sv1, ts1, a1, a2, a3, a4, a5⟩, ⟨dc1, va1, vr1, sc1, a6, _⟩, _⟩ := id hrun1
        obtain ⟨⟨dr2, pv2, sv2, ts2, c1', c2', c3', c4', c5'⟩, ⟨dc2, va2, vr2, sc2', c6', _⟩, _⟩ := id hrun2
        have live1 : ∀ {p o}, H12 p = some o → p ≠ e1 ∧ p ≠ tv1 ∧ p ≠ r2 ∧ p ≠ c2 ∧ p ≠ tl2 ∧ p ≠ e2 ∧ p ≠ tv2 ∧ p ≠ U := fun {p o} hp =>
          ⟨ne_of_none (((q1.trans q2).trans q3) _ _ hp) n4, ne_of_none ((q1.trans q2) _ _ hp) n3, ne_of_none (Q4 _ _ hp) m1, ne_of_none (Q4 _ _ hp) m2, ne_of_none (Q4 _ _ hp) m3, ne_of_none (((q5.trans q6).trans q7) _ _ (sc2 _ _ (Q4 _ _ hp))) n8, ne_of_none ((q5.trans q6) _ _ (sc2 _ _ (Q4 _ _ hp))) n7, ne_of_none ((((q5.trans q6).trans q7).trans q8) _ _ (sc2 _ _ (Q4 _ _ hp))) n9⟩
        have live2 : ∀ {p o}, Hc p = some o → p ≠ e2 ∧ p ≠ tv2 ∧ p ≠ U := fun {p o} hp => ⟨ne_of_none (((q5.trans q6).trans q7) _ _ hp) n8, ne_of_none ((q5.trans q6) _ _ hp) n7, ne_of_none ((((q5.trans q6).trans q7).trans q8) _ _ hp) n9⟩
        have he1 : (upd (upd (upd (upd H12 p1 (.tup [])) p2 (.tup [.str nm, va, .ref p1, .int 0])) tv1 (.lst [])) e1 (.lst [.ref hd, .ref p2, .ref tv1])) e1 = some (.lst [.ref hd, .ref p2, .ref tv1]) := upd_same
        have ht1 : (upd (upd (upd (upd H12 p1 (.tup [])) p2 (.tup [.str nm, va, .ref p1, .int 0])) tv1 (.lst [])) e1 (.lst [.ref hd, .ref p2, .ref tv1])) tv1 = some (.lst []) := q4 _ _ upd_same
        have tt1 : tl2 ≠ e1 := fun z => by rw [z, he1] at m3; cases m3
        have tt2 : tl2 ≠ tv1 := fun z => by rw [z, ht1] at m3; cases m3
        have e1U : e1 ≠ U := (live2 (sc2 _ _ he1)).2.2
        have t1U : tv1 ≠ U := (live2 (sc2 _ _ ht1)).2.2
        have e2U : e2 ≠ U := fun z => by rw [← z, upd_same] at n9; cases n9
        have t2U : tv2 ≠ U := fun z => by rw [← z, q8 _ _ upd_same] at n9; cases n9
        refine ⟨U, [⟨hd, c1, tl1, e1, tv1, rc1, .ref p2, [], 0, []⟩, ⟨r2, c2, tl2, e2, tv2, rc2, .ref p4, [], 0, []⟩], rfl, SF, ⟨fun x hx => ?_, fun i j hi hj ne => ?_, fun x hx y hy => ?_, upd_same, nU, by show 2 ≤ 6; omega, by show 0 < 2; omega, fun x hx => ?_⟩⟩
        · simp only [List.mem_cons, List.not_mem_nil, or_false] at hx
          rcases hx with rfl | rfl
          · exact ⟨hrun1.same (Q4.trans SC9), nh1, nh2, nh3, ne1, nt1, SC9 _ _ he1, dpSame ((q3.trans q4).trans SC9) _ _ d2, ⟨[], SC9 _ _ ht1, .nil⟩, Nat.le_refl _, Nat.le_refl _, Nat.le_refl _, fun d hd => absurd hd (by simp), (live1 a4).2.2.2.2.2.2.2⟩
          · exact ⟨hrun2.same Q9, noneSame SE m1, noneSame SE m2, noneSame SE m3, ne2, nt2, q9 _ _ upd_same, dpSame ((q7.trans q8).trans q9) _ _ d4, ⟨[], (q8.trans q9) _ _ upd_same, .nil⟩, Nat.le_refl _, Nat.le_refl _, Nat.le_refl _, fun d hd => absurd hd (by simp), (live2 c4').2.2⟩
        · have hi2 : i < 2 := hi
          have hj2 : j < 2 := hj
          have A : Ap ⟨hd, c1, tl1, e1, tv1, rc1, .ref p2, [], 0, []⟩ ⟨r2, c2, tl2, e2, tv2, rc2, .ref p4, [], 0, []⟩ := ⟨(live1 a1).2.2.1, (live1 a6).2.2.2.1, (live1 a4).2.2.2.2.1⟩
          have A' : Ap ⟨r2, c2, tl2, e2, tv2, rc2, .ref p4, [], 0, []⟩ ⟨hd, c1, tl1, e1, tv1, rc1, .ref p2, [], 0, []⟩ := ⟨Ne.symm A.1, Ne.symm A.2.1, Ne.symm A.2.2⟩
          match i, j, hi2, hj2, ne with
          | 0, 1, _, _, _ => exact A
          | 1, 0, _, _, _ => exact A'
          | 0, 0, _, _, ne => exact absurd rfl ne
          | 1, 1, _, _, ne => exact absurd rfl ne
        · simp only [List.mem_cons, List.not_mem_nil, or_false] at hx hy
          rcases hx with rfl | rfl <;> rcases hy with rfl | rfl
          · exact ⟨(live1 a4).1, (live1 a4).2.1⟩
          · exact ⟨(live1 a4).2.2.2.2.2.1, (live1 a4).2.2.2.2.2.2.1⟩
          · exact ⟨tt1, tt2⟩
          · exact ⟨(live2 c4').1, (live2 c4').2.1⟩
        · simp only [List.mem_cons, List.not_mem_nil, or_false] at hx
          rcases hx with rfl | rfl
          · exact ⟨e1U, t1U⟩
          · exact ⟨e2U, t2U⟩
      rintro _ H13 ⟨U, xs0, rfl, SB13, hruns0⟩
      -- the turns
      refine ⟨fun σ' H' => ∃ x13 x14 x15 x16 x17 x18 x19 x20, σ' = sl sc (some (.int (0 + i))) (some (.ref a)) (some (.ref R)) (some (.ref G)) (some (.ref M)) (some (.ref s1)) (some (.ref s2')) (some (.str nm)) (some va) (some (.ref Kd)) (some (.ref hd)) (some (.ref U)) x13 x14 x15 x16 x17 x18 x19 x20 ∧ Kp a HB H' ∧ Fd H' a, ?_, ?_⟩
      · have sl0 : ∀ {H' : Hp}, Kp a HB H' → Stl HB H' := fun k => Stl.fd FB k
        have rtx : ∀ {H' : Hp} {k : Nat} {x : RR}, RunOk K C CR CC CN HB H' U T nm [z1, "1"] k x → Rt T [z1, "1"] x.rs x.n := fun {H' k x} h => by
          obtain ⟨_, _, _, _, _, _, _, _, _, r⟩ := h.run.co
          exact r
        have okx : ∀ {H' : Hp} {k : Nat} {x : RR}, k ≤ 19 → RunOk K C CR CC CN HB H' U T nm [z1, "1"] k x → Ok ⟨nm, [z1, "1"], x.rs, (x.n : Int)⟩ := fun {H' k x} le h => by
          obtain ⟨_, _, g3, _⟩ := rtx h
          have := h.b1
          exact ⟨tnm, toks, by show 2 ≤ 4; omega, g3, by show x.rs.length ≤ 100; omega⟩
        refine ⟨18, rfl, by omega, by omega, ?_⟩
        refine forJ (n := 18) (fun j σ' H' => ∃ x13 x14 x15 x16 x17 x18 x19 x20 xs, σ' = sl sc (some (.int (0 + i))) (some (.ref a)) (some (.ref R)) (some (.ref G)) (some (.ref M)) (some (.ref s1)) (some (.ref s2')) (some (.str nm)) (some va) (some (.ref Kd)) (some (.ref hd)) (some (.ref U)) x13 x14 x15 x16 x17 x18 x19 x20 ∧ Kp a HB H' ∧ Fd H' a ∧ Runs K C CR CC CN HB H' U T nm [z1, "1"] j xs)
          ⟨_, _, _, _, _, _, _, _, xs0, rfl, Kp.same SB13, FB.same SB13, hruns0⟩ (fun j σ' H' lt _ => lt) (fun σ' H' _ => Nat.le_refl _) (fun j σ' H14 x H15 ltj h y => ?_) (fun σ' H' h => ?_)
        · obtain ⟨rfl, rfl⟩ := y
          obtain ⟨x13, x14, x15, x16, x17, x18, x19, x20, xs, rfl, kB, Fa, hruns⟩ := h
          have lx := hruns.len
          -- one of the runs
          refine ⟨fun σ' H' => ∃ q, ∃ hq : q < xs.length, σ' = sl sc (some (.int (0 + i))) (some (.ref a)) (some (.ref R)) (some (.ref G)) (some (.ref M)) (some (.ref s1)) (some (.ref s2')) (some (.str nm)) (some va) (some (.ref Kd)) (some (.ref hd)) (some (.ref U)) (some (.int (0 + j))) (some (.ref xs[q].r)) (some xs[q].pl) (some (.ref xs[q].tv)) x17 x18 x19 x20 ∧ Kp a HB H' ∧ Fd H' a ∧ Runs K C CR CC CN HB H' U T nm [z1, "1"] j xs, ?_, ?_⟩
          · refine ⟨.ref a, rfl, .ref U, rfl, a, U, _, rfl, Fa, .inl (.inl hruns.hU), apart' FB hruns.nB, by rw [List.length_map]; exact hruns.pos, by rw [List.length_map]; omega, fun q v H' ev k F' => ?_⟩
            have hq : q < xs.length := by
              have := (List.getElem?_eq_some_iff.mp ev).1
              rwa [List.length_map] at this
            rw [List.getElem?_map, List.getElem?_eq_getElem hq] at ev
            cases ev
            have hr' := hruns.feed FB Fa k
            have ok := hr'.all xs[q] (List.getElem_mem hq)
            exact ⟨_, _, rfl, .inl (.inl ok.le), rfl, _, _, rfl, _, _, rfl, _, _, rfl, rfl, q, hq, rfl, kB.trans k, F', hr'⟩
          rintro _ H1' ⟨q, hq, rfl, kB1, F1, hr1⟩
          have okq := hr1.all xs[q] (List.getElem_mem hq)
          -- where it stands
          refine ⟨fun σ' H' => ∃ g, ∃ hg : g < xs.length, σ' = sl sc (some (.int (0 + i))) (some (.ref a)) (some (.ref R)) (some (.ref G)) (some (.ref M)) (some (.ref s1)) (some (.ref s2')) (some (.str nm)) (some va) (some (.ref Kd)) (some (.ref hd)) (some (.ref U)) (some (.int (0 + j))) (some (.ref xs[q].r)) (some xs[q].pl) (some (.ref xs[q].tv)) (some (.int g)) x18 x19 x20 ∧ Same H1' H' ∧ xs[g].tr = xs[q].tr ∧ xs[g].rs = xs[q].rs ∧ xs[g].n = xs[q].n, ?_, ?_⟩
          · refine ⟨.ref U, rfl, U, _, rfl, .inl (.inl (.inl hr1.hU)), _, rfl, by rw [List.length_map]; omega, by rw [List.length_map]; omega, fun D hD => ?_⟩
            rw [List.length_map]
            refine lcJ (n := xs.length) (vs := [1]) (fun mm H' => ∃ js : List Nat, At H1' D (js.map fun (q : Nat) => V.int (q : Int)) H' ∧ js.length ≤ mm ∧ (∀ g ∈ js, ∃ hg : g < xs.length, xs[g].tr = xs[q].tr ∧ xs[g].rs = xs[q].rs ∧ xs[g].n = xs[q].n) ∧ (q < mm → q ∈ js))
              ⟨[], ⟨KS.sameUpd hD, upd_same⟩, Nat.le_refl _, fun g hg => absurd hg (by simp), fun h => absurd h (Nat.not_lt_zero _)⟩ (fun mm H' lt h => lt) (fun H' h => Nat.le_refl _) (fun mm H' x H5 ltm h y => ?_) (fun H' h => ?_)
            · obtain ⟨rfl, rfl⟩ := y
              obtain ⟨js, hat, ljs, hjs, hin⟩ := h
              have okm := hr1.all xs[mm] (List.getElem_mem ltm)
              obtain ⟨⟨drm, pvm, svm, tsm, rm1, rm2, rm3, rm4, rm5'⟩, com, plm⟩ := okm.run
              obtain ⟨⟨drq, pvq, svq, tsq, rq1, rq2, rq3, rq4, rq5⟩, coq, plq⟩ := okq.run
              have hU' := hat.1 _ _ hr1.hU
              have eM : atI (xs.map fun x => V.ref x.e) (0 + (mm : Int)) = some (.ref xs[mm].e) := by
                rw [Int.zero_add]
                refine atI_nat (j := mm) ?_
                rw [List.getElem?_map, List.getElem?_eq_getElem ltm]
                rfl
              refine ⟨rfl, ?_⟩
              refine ⟨.ref U, rfl, .int (0 + mm), rfl, U, _, _, _, rfl, rfl, .inl (.inl hU'), eM, xs[mm].e, _, 0, _, rfl, rfl, .inl (.inl (hat.1 _ _ okm.le)), atI_nat (j := 0) rfl, xs[mm].r, drm, _, rfl, hat.1 _ _ rm1, ?_⟩
              refine ⟨xs[mm].r, drm, _, xs[mm].tl, tsm, xs[mm].tr, rfl, hat.1 _ _ rm1, rfl, hat.1 _ _ rm4, dpAllSame hat.1 _ _ rm5', fun v1 Hv1 sv1 dv1 => ?_⟩
              have S1 := hat.1.trans sv1
              refine ⟨.ref xs[q].r, rfl, xs[q].r, drq, _, rfl, S1 _ _ rq1, xs[q].r, drq, _, xs[q].tl, tsq, xs[q].tr, rfl, S1 _ _ rq1, rfl, S1 _ _ rq4, dpAllSame S1 _ _ rq5, fun v2 Hv2 sv2 dv2 => ?_⟩
              have S2 := S1.trans sv2
              have bm := okm.b3
              have bq := okq.b3
              refine ⟨.tuple xs[mm].tr, .tuple xs[q].tr, dpSame sv2 _ _ dv1, dv2, (Od.tup (n := 59) (by omega) okm.od).shaped (by omega), (Od.tup (n := 59) (by omega) okq.od).shaped (by omega), _, rfl, ?_⟩
              have p1 : Pl 7 (.tuple xs[mm].tr) := .tup plm
              have p2 : Pl 7 (.tuple xs[q].tr) := .tup plq
              have e1 : PyData.eqv (.tuple xs[mm].tr) (.tuple xs[q].tr) = true ↔ xs[mm].tr = xs[q].tr := by
                rw [eqvPl p1 p2]
                exact ⟨fun h => PyData.tuple.inj h, fun h => by rw [h]⟩
              cases hb : PyData.eqv (.tuple xs[mm].tr) (.tuple xs[q].tr) with
              | true =>
                have h1 := e1.mp hb
                refine iteT ⟨.ref U, rfl, .int (0 + mm), rfl, U, _, _, _, rfl, rfl, .inl (.inl (S2 _ _ hr1.hU)), eM, xs[mm].e, _, 1, _, rfl, rfl, .inl (.inl (S2 _ _ okm.le)), atI_nat (j := 1) rfl, xs[q].pl, rfl, ?_⟩
                refine ⟨_, _, dpSame S2 _ _ okm.dp, dpSame S2 _ _ okq.dp, (odPc (okx (by omega) okm)).shaped (by omega), (odPc (okx (by omega) okq)).shaped (by omega), _, rfl, ?_⟩
                have e2 : PyData.eqv (pcD ⟨nm, [z1, "1"], xs[mm].rs, (xs[mm].n : Int)⟩) (pcD ⟨nm, [z1, "1"], xs[q].rs, (xs[q].n : Int)⟩) = decide (xs[mm].rs = xs[q].rs ∧ xs[mm].n = xs[q].n) := by
                  rw [Bool.eq_iff_iff, eqPc, decide_eq_true_eq]
                  refine ⟨fun h => ?_, fun h => by rw [h.1, h.2]⟩
                  injection h with _ _ h3 h4
                  exact ⟨h3, by omega⟩
                rw [e2]
                by_cases h2 : xs[mm].rs = xs[q].rs ∧ xs[mm].n = xs[q].n
                · rw [decide_eq_true h2]
                  obtain ⟨e6, e7⟩ := hat.put (ys := (js ++ [mm]).map fun (q : Nat) => V.int (q : Int)) hD (sv1.trans sv2)
                  refine iteT ⟨.int (0 + mm), rfl, _, e6, by rw [List.length_map, sizeLine_eq]; omega, js ++ [mm], ?_, by rw [List.length_append]; show js.length + 1 ≤ mm + 1; omega, fun g hg => ?_, fun h => ?_⟩
                  · have ez : (js.map fun (q : Nat) => V.int (q : Int)) ++ [V.int (0 + (mm : Int))] = (js ++ [mm]).map fun (q : Nat) => V.int (q : Int) := by
                      rw [List.map_append, Int.zero_add]
                      rfl
                    rw [ez]
                    exact e7
                  · rcases List.mem_append.mp hg with z | z
                    · exact hjs g z
                    · rw [List.mem_singleton] at z
                      subst z
                      exact ⟨ltm, h1, h2.1, h2.2⟩
                  · by_cases z : q < mm
                    · exact List.mem_append_left _ (hin z)
                    · exact List.mem_append_right _ (List.mem_singleton.mpr (by omega))
                · rw [decide_eq_false h2]
                  refine iteF ⟨js, ⟨S2, (sv1.trans sv2) _ _ hat.2⟩, by omega, hjs, fun h => ?_⟩
                  by_cases z : q < mm
                  · exact hin z
                  · have : q = mm := by omega
                    subst this
                    exact absurd ⟨rfl, rfl⟩ h2
              | false =>
                have h1 : ¬ xs[mm].tr = xs[q].tr := fun h => by rw [e1.mpr h] at hb; cases hb
                refine iteF (iteF ⟨js, ⟨S2, (sv1.trans sv2) _ _ hat.2⟩, by omega, hjs, fun h => ?_⟩)
                by_cases z : q < mm
                · exact hin z
                · have : q = mm := by omega
                  subst this
                  exact absurd rfl h1
            · obtain ⟨js, hat, ljs, hjs, hin⟩ := h
              have hne := hin hq
              cases js with
              | nil => exact absurd hne (by simp)
              | cons g js =>
                obtain ⟨hg, m1, m2, m3⟩ := hjs g List.mem_cons_self
                exact ⟨D, _, 0, .int g, rfl, rfl, .inl (.inl hat.2), atI_nat (j := 0) rfl, g, hg, rfl, hat.1, m1, m2, m3⟩
          rintro _ H2' ⟨g, hg, rfl, S12, etr, ers, en⟩
          have kB2 := kB1.trans (Kp.same S12)
          have F2' := F1.same S12
          have hr2' := hr1.same S12
          -- the step
          refine ⟨fun σ' H' => ∃ st, σ' = sl sc (some (.int (0 + i))) (some (.ref a)) (some (.ref R)) (some (.ref G)) (some (.ref M)) (some (.ref s1)) (some (.ref s2')) (some (.str nm)) (some va) (some (.ref Kd)) (some (.ref hd)) (some (.ref U)) (some (.int (0 + j))) (some (.ref xs[q].r)) (some xs[q].pl) (some (.ref xs[q].tv)) (some (.int g)) (some st) x19 x20 ∧ Same H2' H' ∧ Dp K H' st (stD T [z1, "1"] xs[q].rs xs[q].n), ?_, ?_⟩
          · have okq2 := hr2'.all xs[q] (List.getElem_mem hq)
            obtain ⟨t1, t2, t3, t4, t5, t6, t7⟩ := rtx okq2
            have bn := okq2.b2
            exact ⟨.ref R, rfl, xs[q].pl, rfl, R, _, xs[q].pl, ⟨nm, [z1, "1"], xs[q].rs, (xs[q].n : Int)⟩, T, rfl, kB2 _ _ Ra eRB, okq2.dp, okx (by omega) okq2, .inl ⟨vt, evt, trTS (sl0 kB2).ts _ _ dvt⟩, trok, od58, t5, xs[q].n, rfl, t6, by omega, fun lv H3 s3 hlv => ⟨lv, rfl, s3, hlv⟩⟩
          rintro _ H3' ⟨st, rfl, S23, dst⟩
          have kB3 := kB2.trans (Kp.same S23)
          have F3' := F2'.same S23
          have hr3 := hr2'.same S23
          -- what is done
          refine ⟨fun σ' H' => ∃ x15 xs', σ' = sl sc (some (.int (0 + i))) (some (.ref a)) (some (.ref R)) (some (.ref G)) (some (.ref M)) (some (.ref s1)) (some (.ref s2')) (some (.str nm)) (some va) (some (.ref Kd)) (some (.ref hd)) (some (.ref U)) (some (.int (0 + j))) (some (.ref xs[q].r)) x15 (some (.ref xs[q].tv)) (some (.int g)) (some st) x19 x20 ∧ Kp a HB H' ∧ Fd H' a ∧ Runs K C CR CC CN HB H' U T nm [z1, "1"] (j + 1) xs', ?_, ?_⟩
          · refine ⟨.ref a, rfl, a, 5, rfl, F3', by decide, by decide, fun dz H4' d0 d1 k34 F4' => ⟨rfl, _, rfl, ite2 (fun _ => ⟨.ref U, rfl, U, _, rfl, .inl (.inl (.inl (k34 _ _ (apart' FB hr3.nB) hr3.hU))), _, _, rfl, rfl, _, rfl, ite2 (fun h6 => ?app) (fun _ => ?els1)⟩) (fun _ => iteF ?els2)⟩⟩
            case app =>
              have hx6 : xs.length < 6 := by
                have h7 := of_decide_eq_true h6
                rw [List.length_map] at h7
                omega
              have kB4 := kB3.trans k34
              have hr4 := hr3.feed FB F3' k34
              have okq4 := hr4.all xs[q] (List.getElem_mem hq)
              obtain ⟨drq, pvq, svq, tsq, rq1, rq2, rq3, rq4, rq5⟩ := id okq4.run.ex
              obtain ⟨us, hus, dus⟩ := okq4.lt
              refine ⟨.ref U, rfl, .inl ⟨rfl, _, .inl (.inl hr4.hU)⟩, .ref xs[q].r, rfl, xs[q].r, drq, _, rfl, rq1, rfl, ?_⟩
              refine ⟨xs[q].r, xs[q].c, xs[q].tl, xs[q].rc, T, nm, [z1, "1"], xs[q].rs, xs[q].tr, xs[q].n, rfl, okq4.run, fun r' c' tl' H5' n1 n2 n3 s5 h' => ?_⟩
              refine ⟨xs[q].pl, rfl, .ref xs[q].tv, rfl, xs[q].tv, us, rfl, .inl (.inl (.inl (s5 _ _ hus))), fun l hl => ⟨(by show 3 ≤ sizeLine; decide), fun e he => ?_⟩⟩
              have sL := KS.sameUpd (o := .lst us) hl
              have sE := KS.sameUpd (o := .lst [.ref r', xs[q].pl, .ref l]) he
              have S8 := (s5.trans sL).trans sE
              have el : (upd (upd H5' l (.lst us)) e (.lst [.ref r', xs[q].pl, .ref l])) l = some (.lst us) := sE _ _ upd_same
              have ee : (upd (upd H5' l (.lst us)) e (.lst [.ref r', xs[q].pl, .ref l])) e = some (.lst [.ref r', xs[q].pl, .ref l]) := upd_same
              have hr8 := (hr4.same S8).up (Nat.le_succ j)
              refine ⟨U, _, .ref e, rfl, rfl, hr8.hU, by rw [List.length_map, sizeLine_eq]; omega, ?_⟩
              obtain ⟨⟨dr', pv', sv', ts', b1, b2, b3, b4, b5⟩, co', pl'⟩ := id h'
              have live : ∀ {p o}, H4' p = some o → p ≠ r' ∧ p ≠ c' ∧ p ≠ tl' ∧ p ≠ l ∧ p ≠ e := fun {p o} hp => ⟨ne_of_none hp n1, ne_of_none hp n2, ne_of_none hp n3, ne_of_none (s5 _ _ hp) hl, ne_of_none ((s5.trans sL) _ _ hp) he⟩
              have hy : RunOk K C CR CC CN HB (upd (upd H5' l (.lst us)) e (.lst [.ref r', xs[q].pl, .ref l])) U T nm [z1, "1"] (j + 1) ⟨r', c', tl', e, l, xs[q].rc, xs[q].pl, xs[q].rs, xs[q].n, xs[q].tr⟩ :=
                ⟨h'.same (sL.trans sE), fresh kB4 F4' n1, fresh kB4 F4' n2, fresh kB4 F4' n3, fresh (kB4.trans (Kp.same (s5.trans sL))) (F4'.same (s5.trans sL)) he, fresh (kB4.trans (Kp.same s5)) (F4'.same s5) hl, ee, dpSame S8 _ _ okq4.dp, ⟨us, el, dpAllSame S8 _ _ dus⟩, Nat.le_succ_of_le okq4.b1, Nat.le_succ_of_le okq4.b2, Nat.le_succ_of_le okq4.b3, okq4.od, Ne.symm (live hr4.hU).2.2.1⟩
              have add := hr8.add hx6 hy (fun x hx => ?_) (fun x hx => ?_) ⟨ne_of_none (sL _ _ b4) he, ne_of_none b4 hl⟩ ⟨Ne.symm (live hr4.hU).2.2.2.2, Ne.symm (live hr4.hU).2.2.2.1⟩
              · refine ⟨_, _, rfl, fun b o nb hb => ?_, fdOther (F4'.same S8) (apart' FB hr4.nB), add⟩
                rw [upd_ne (ne_of_none hb hr4.nB)]
                exact S8 _ _ (kB4 _ _ nb hb)
              · obtain ⟨⟨dx', px', sx', tx', c1', c2', c3', c4', c5'⟩, ⟨dcx, _, _, _, cc1, _⟩, _⟩ := (hr4.all x hx).run
                exact ⟨⟨(live c1').1, (live cc1).2.1, (live c4').2.2.1⟩, ⟨Ne.symm (live c1').1, Ne.symm (live cc1).2.1, Ne.symm (live c4').2.2.1⟩⟩
              · obtain ⟨⟨dx', px', sx', tx', c1', c2', c3', c4', c5'⟩, _, _⟩ := (hr4.all x hx).run
                obtain ⟨ux, hux, _⟩ := (hr4.all x hx).lt
                exact ⟨⟨(live c4').2.2.2.2, (live c4').2.2.2.1⟩, ⟨Ne.symm (live (hr4.all x hx).le).2.2.1, Ne.symm (live hux).2.2.1⟩⟩
            case els1 | els2 =>
              have kB4 := kB3.trans k34
              have hr4 := hr3.feed FB F3' k34
              have okq4 := hr4.all xs[q] (List.getElem_mem hq)
              have okg4 := hr4.all xs[g] (List.getElem_mem hg)
              have dst4 := dpTS (Stl.fd F3' k34).ts (plStep _ _) _ dst
              have bq1 := okq4.b1
              have bq2 := okq4.b2
              have bq3 := okq4.b3
              have bg1 := okg4.b1
              have bg2 := okg4.b2
              have bg3 := okg4.b3
              obtain ⟨a0, xs0', rfl, hs0, h0⟩ := stHead dst4
              refine ⟨.ref a0, rfl, a0, xs0', 0, .str _, rfl, rfl, hs0, h0, rfl, _, rfl, ?_⟩
              rw [wordEq]
              by_cases hst : stW (([z1, "1"] : List Str).map some :: xs[q].rs) (down (walk T xs[q].rs) xs[q].n) = "stop"
              · rw [decide_eq_true hst]
                refine iteT ⟨.ref xs[q].r, rfl, xs[q].r, xs[q].c, xs[q].tl, xs[q].rc, T, nm, [z1, "1"], xs[q].rs, xs[q].tr, xs[q].n, rfl, okq4.run, by omega, by omega, by omega, hst, true, rfl, iteF ⟨_, xs, rfl, kB4, F4', hr4.up (Nat.le_succ j)⟩⟩
              · rw [decide_eq_false hst]
                have hU4 := hr4.hU
                have eG : atI (xs.map fun x => V.ref x.e) (g : Int) = some (.ref xs[g].e) := by
                  refine atI_nat (j := g) ?_
                  rw [List.getElem?_map, List.getElem?_eq_getElem hg]
                  rfl
                refine iteF ⟨fun σ' H' => ∃ v rs' n', σ' = sl sc (some (.int (0 + i))) (some (.ref a)) (some (.ref R)) (some (.ref G)) (some (.ref M)) (some (.ref s1)) (some (.ref s2')) (some (.str nm)) (some va) (some (.ref Kd)) (some (.ref hd)) (some (.ref U)) (some (.int (0 + j))) (some (.ref xs[q].r)) (some v) (some (.ref xs[q].tv)) (some (.int g)) (some (.ref a0)) x19 x20 ∧ Kp4 a xs[g].r xs[g].c xs[g].tl H4' H' ∧ Fd H' a ∧ Dp K H' v (pcD ⟨nm, [z1, "1"], rs', ((n' : Nat) : Int)⟩) ∧
                  RunAt K C CR CC CN H' xs[g].r xs[g].c xs[g].tl xs[g].rc T nm [z1, "1"] rs' n' (xs[g].tr ++ [enD ⟨nm, [z1, "1"], xs[g].rs, xs[g].n⟩ (stD T [z1, "1"] xs[g].rs xs[g].n)]) ∧ rs'.length ≤ xs[g].rs.length + 1 ∧ n' ≤ xs[g].n + 1, ?_, ?_⟩
                · refine ⟨.ref a, rfl, .ref R, rfl, .ref U, rfl, .int g, rfl, U, _, _, _, rfl, rfl, .inl (.inl hU4), eG, xs[g].e, _, 0, _, rfl, rfl, .inl (.inl okg4.le), atI_nat (j := 0) rfl, .ref U, rfl, .int g, rfl, U, _, _, _, rfl, rfl, .inl (.inl hU4), eG, xs[g].e, _, 1, _, rfl, rfl, .inl (.inl okg4.le), atI_nat (j := 1) rfl, ?_⟩
                  refine ⟨a, R, _, xs[g].r, xs[g].c, xs[g].tl, xs[g].pl, xs[g].rc, T, nm, [z1, "1"], xs[g].rs, xs[g].tr, xs[g].n, rfl, F4', kB4 _ _ Ra eRB, okg4.run, apart' FB okg4.n3, okg4.dp, okx (by omega) okg4, .inl ⟨vt, evt, trTS (sl0 kB4).ts _ _ dvt⟩, od58, by omega, by omega, few, by rw [ers, en]; exact hst, fun v H5' rs' n' k5' F5' dv' h5' l1 l2 => ?_⟩
                  exact ⟨v, rs', n', rfl, k5', F5', dv', h5', l1, l2⟩
                rintro _ H5' ⟨v, rs', n', rfl, k45, F5', dv', h5', l1, l2⟩
                have st45 : Stl H4' H5' := Stl.k4 F4' okg4.run k45
                obtain ⟨gq1, gq2, gq3, gq4, gq5, gq6, gq7⟩ := rcNe okg4 okg4
                obtain ⟨us, hus, dus⟩ := okq4.lt
                obtain ⟨ug, hug, dug⟩ := okg4.lt
                have tGq := hr4.tl xs[g] (List.getElem_mem hg) xs[q] (List.getElem_mem hq)
                have tGg := hr4.tl xs[g] (List.getElem_mem hg) xs[g] (List.getElem_mem hg)
                obtain ⟨p1, p2, p3, p4, p5, p6, p7⟩ := rcNe okg4 okq4
                have kB5 : Kp a HB H5' := fun b o nb hb => k45 b o nb (ne_of_none hb okg4.n1) (ne_of_none hb okg4.n2) (ne_of_none hb okg4.n3) (kB4 _ _ nb hb)
                obtain ⟨drg, pvg, svg, tsg, rg1, rg2, rg3, rg4, rg5⟩ := id okg4.run.ex
                obtain ⟨dcg, vag, vrg, scg, cg1, _⟩ := id okg4.run.co
                have nUa := apart' FB hr4.nB
                have hU5 : H5' U = some (.lst (xs.map fun x => V.ref x.e)) := k45 _ _ nUa (Ne.symm (neKind rg1 hU4)) (Ne.symm (neKind cg1 hU4)) (Ne.symm okg4.nU) hU4
                have he5 : H5' xs[g].e = some (.lst [.ref xs[g].r, xs[g].pl, .ref xs[g].tv]) := k45 _ _ (apart' FB okg4.n4) (Ne.symm gq4) (Ne.symm gq6) (Ne.symm tGg.1) okg4.le
                have ht5 : H5' xs[q].tv = some (.lst us) := k45 _ _ (apart' FB okq4.n5) (Ne.symm p5) (Ne.symm p7) (Ne.symm tGq.2) hus
                have dpg5 := dpTS st45.ts (plPc _) _ okg4.dp
                have dst5 := dpTS st45.ts (plStep _ _) _ dst4
                have dus5 : DpAll K H5' us xs[q].tr := allPl okq4.run.pl st45.ts dus
                refine ⟨.ref U, rfl, .int g, rfl, U, _, _, _, rfl, rfl, .inl (.inl hU5), eG, xs[g].e, _, 0, _, rfl, rfl, .inl (.inl he5), atI_nat (j := 0) rfl, v, rfl, .ref xs[q].tv, rfl, .ref U, rfl, .int g, rfl, U, _, _, _, rfl, rfl, .inl (.inl hU5), eG, xs[g].e, _, 1, _, rfl, rfl, .inl (.inl he5), atI_nat (j := 1) rfl, .ref a0, rfl, (by show 2 ≤ sizeLine; decide), fun pT hT => ⟨(by show 1 ≤ sizeLine; decide), fun lL hL => ?_⟩⟩
                have sT := KS.sameUpd (o := .tup [xs[g].pl, .ref a0]) hT
                have sL := KS.sameUpd (o := .lst [.ref pT]) hL
                have lus := dpLen dus5
                refine ⟨xs[q].tv, lL, us, _, rfl, rfl, (sT.trans sL) _ _ ht5, upd_same, by show us.length + 1 ≤ sizeLine; rw [sizeLine_eq]; omega, fun tvN hN => ⟨(by show 3 ≤ sizeLine; decide), fun eN hE => ?_⟩⟩
                have sN := KS.sameUpd (o := .lst (us ++ [.ref pT])) hN
                have sE := KS.sameUpd (o := .lst [.ref xs[g].r, v, .ref tvN]) hE
                have S8 := ((sT.trans sL).trans sN).trans sE
                have hE2 : (upd (upd (upd (upd H5' pT (.tup [xs[g].pl, .ref a0])) lL (.lst [.ref pT])) tvN (.lst (us ++ [.ref pT]))) eN (.lst [.ref xs[g].r, v, .ref tvN])) eN = some (.lst [.ref xs[g].r, v, .ref tvN]) := upd_same
                have hN2 : (upd (upd (upd (upd H5' pT (.tup [xs[g].pl, .ref a0])) lL (.lst [.ref pT])) tvN (.lst (us ++ [.ref pT]))) eN (.lst [.ref xs[g].r, v, .ref tvN])) tvN = some (.lst (us ++ [.ref pT])) := sE _ _ upd_same
                have dT : Dp K (upd H5' pT (.tup [xs[g].pl, .ref a0])) (.ref pT) (enD ⟨nm, [z1, "1"], xs[g].rs, xs[g].n⟩ (stD T [z1, "1"] xs[g].rs xs[g].n)) := by
                  rw [ers, en] at dpg5 ⊢
                  exact .tup (.inl (.inl upd_same)) (.cons (dpSame sT _ _ dpg5) (.cons (dpSame sT _ _ dst5) .nil))
                have live : ∀ {p o}, H5' p = some o → p ≠ tvN ∧ p ≠ eN := fun {p o} hp => ⟨ne_of_none ((sT.trans sL) _ _ hp) hN, ne_of_none (((sT.trans sL).trans sN) _ _ hp) hE⟩
                refine ⟨.ref U, rfl, .int g, rfl, U, _, g, g, rfl, rfl, S8 _ _ hU5, by rw [List.length_map]; exact ixN_nat hg, ?_⟩
                have odg : Od 59 (enD ⟨nm, [z1, "1"], xs[g].rs, xs[g].n⟩ (stD T [z1, "1"] xs[g].rs xs[g].n)) := by
                  obtain ⟨t1, t2, t3, t4, t5, t6, t7⟩ := rtx okg4
                  have rows : RowsOk (([z1, "1"] : List Str).map some :: xs[g].rs) := fun x hx z hz => by
                    rcases List.mem_cons.mp hx with rfl | hx
                    · obtain ⟨y, hy, e⟩ := List.mem_map.mp hz
                      cases e
                      exact t2 _ hy
                    · exact (t3 x hx).2 z hz
                  refine .tup (by show 2 ≤ 100; omega) fun d hd => ?_
                  simp only [List.mem_cons, List.not_mem_nil, or_false] at hd
                  rcases hd with rfl | rfl
                  · exact (odPc (okx (by omega) okg4)).up (by omega)
                  · exact (odStep (n := 57) (odDownT (odWalk od58)) (okDown (okWalk t1)) rows).up (by omega)
                have hy : RunOk K C CR CC CN HB (upd (upd (upd (upd H5' pT (.tup [xs[g].pl, .ref a0])) lL (.lst [.ref pT])) tvN (.lst (us ++ [.ref pT]))) eN (.lst [.ref xs[g].r, v, .ref tvN])) U T nm [z1, "1"] (j + 1) ⟨xs[g].r, xs[g].c, xs[g].tl, eN, tvN, xs[g].rc, v, rs', n', xs[g].tr ++ [enD ⟨nm, [z1, "1"], xs[g].rs, xs[g].n⟩ (stD T [z1, "1"] xs[g].rs xs[g].n)]⟩ := by
                  refine ⟨h5'.same S8, okg4.n1, okg4.n2, okg4.n3, fresh (kB5.trans (Kp.same ((sT.trans sL).trans sN))) (F5'.same ((sT.trans sL).trans sN)) hE, fresh (kB5.trans (Kp.same (sT.trans sL))) (F5'.same (sT.trans sL)) hN, hE2, dpSame S8 _ _ dv', ⟨_, hN2, ?_⟩, by show rs'.length ≤ j + 1; omega, by show n' ≤ j + 1; omega, by show (xs[g].tr ++ [_]).length ≤ j + 1; rw [List.length_append]; show xs[g].tr.length + 1 ≤ j + 1; omega, fun d hd => ?_, okg4.nU⟩
                  · rw [etr]
                    exact dpSnoc (dpSame ((sL.trans sN).trans sE) _ _ dT) (dpAllSame S8 _ _ dus5)
                  · rcases List.mem_append.mp hd with z | z
                    · exact okg4.od d z
                    · rw [List.mem_singleton.mp z]
                      exact odg
                have fin := Runs.set hg hr4 (k' := j + 1) (y := ⟨xs[g].r, xs[g].c, xs[g].tl, eN, tvN, xs[g].rc, v, rs', n', xs[g].tr ++ [enD ⟨nm, [z1, "1"], xs[g].rs, xs[g].n⟩ (stD T [z1, "1"] xs[g].rs xs[g].n)]⟩) (fun i hi ne => ?_) (S8 _ _ hU5) hy rfl rfl rfl (fun x hx => ?_) ⟨Ne.symm (live hU5).2, Ne.symm (live hU5).1⟩
                · refine ⟨_, _, rfl, fun b o nb hb => ?_, fdOther (F5'.same S8) nUa, fin⟩
                  rw [upd_ne (ne_of_none hb hr4.nB)]
                  exact S8 _ _ (kB5 _ _ nb hb)
                · exact ((RunOk.k4 FB F4' (hr4.all xs[i] (List.getElem_mem hi)) okg4 (hr4.ap i g hi hg ne) (hr4.tl _ (List.getElem_mem hg) _ (List.getElem_mem hi)) k45).same S8).up (Nat.le_succ j)
                · by_cases z : x.tl = xs[g].tl
                  · obtain ⟨⟨_, _, _, tsy, _, _, _, y4, _⟩, _, _⟩ := id h5'
                    exact ⟨z ▸ (live y4).2, z ▸ (live y4).1⟩
                  · have okx4 := hr4.all x hx
                    obtain ⟨⟨_, _, _, tsx, _, _, _, x4', _⟩, _, _⟩ := id okx4.run
                    have x5 := k45 _ _ (apart' FB okx4.n3) (Ne.symm (neKind rg1 x4')) (Ne.symm (neKind cg1 x4')) z x4'
                    exact ⟨(live x5).2, (live x5).1⟩
          rintro _ H5' ⟨x15', xs', rfl, kB5, F5', hr5⟩
          -- all runs stand
          have lx' := hr5.len
          refine ⟨.ref U, rfl, U, rfl, ⟨_, .inl (.inl hr5.hU)⟩, fun D hD => ?_⟩
          refine lcJ (n := xs'.length) (vs := [19]) (fun mm H' => At H5' D [] H') ⟨KS.sameUpd hD, upd_same⟩
            (fun mm H' lt h => ⟨_, (xs'.map fun x => V.ref x.e)[mm]'(by rw [List.length_map]; exact lt), .inl (.inl (h.1 _ _ hr5.hU)), List.getElem?_eq_getElem _⟩) (fun H' h => ⟨_, .inl (.inl (h.1 _ _ hr5.hU)), by rw [List.length_map]; exact Nat.le_refl _⟩) (fun mm H' x H6' ltm h y => ?_) (fun H' h => ?_)
          · obtain ⟨rfl, y⟩ := y
            have ex := y _ (.inl (.inl (h.1 _ _ hr5.hU)))
            rw [List.getElem?_map, List.getElem?_eq_getElem ltm] at ex
            cases ex
            have okm := (hr5.all xs'[mm] (List.getElem_mem ltm)).same h.1
            obtain ⟨us, hus, dus⟩ := okm.lt
            have b2' := okm.b2
            have b3' := okm.b3
            obtain ⟨ap', _, _, epl, _⟩ := pcAt okm.dp
            refine ⟨rfl, ?_⟩
            refine ⟨.ref xs'[mm].e, rfl, xs'[mm].e, _, 1, _, rfl, rfl, .inl (.inl okm.le), atI_nat (j := 1) rfl, rfl, _, rfl, ?_⟩
            rw [decide_eq_false (by rw [epl]; exact fun z => by cases z)]
            refine iteF ⟨.ref R, rfl, .ref xs'[mm].e, rfl, xs'[mm].e, _, 0, _, rfl, rfl, .inl (.inl okm.le), atI_nat (j := 0) rfl, .ref xs'[mm].e, rfl, xs'[mm].e, _, 1, _, rfl, rfl, .inl (.inl okm.le), atI_nat (j := 1) rfl, .ref xs'[mm].e, rfl, xs'[mm].e, _, 2, _, rfl, rfl, .inl (.inl okm.le), atI_nat (j := 2) rfl, ?_⟩
            have kB6 := kB5.trans (Kp.same h.1)
            refine ⟨R, _, xs'[mm].r, xs'[mm].c, xs'[mm].tl, xs'[mm].pl, xs'[mm].tv, xs'[mm].rc, T, nm, [z1, "1"], xs'[mm].rs, xs'[mm].tr, us, xs'[mm].n, rfl, kB6 _ _ Ra eRB, okm.run, okm.dp, okx (by omega) okm, .inl ⟨vt, evt, trTS (sl0 kB6).ts _ _ dvt⟩, od58, by omega, hus, dus, by omega, okm.od, fun H7' s7 => ⟨true, rfl, iteF ⟨h.1.trans s7, s7 _ _ h.2⟩⟩⟩
          · refine ⟨Nat.zero_le _, fun E hE => ?_⟩
            have sE := KS.sameUpd (o := .lst []) hE
            refine ⟨.list [], .list [], .lst (.inl (.inl (sE _ _ h.2))) .nil, .lst (.inl (.inl upd_same)) .nil, rfl, rfl, _, rfl, iteF ?_⟩
            exact ⟨_, _, _, _, _, _, _, _, xs', rfl, kB5.trans (Kp.same (h.1.trans sE)), F5'.same (h.1.trans sE), hr5.same (h.1.trans sE)⟩
        · obtain ⟨x13, x14, x15, x16, x17, x18, x19, x20, xs, rfl, kB, Fa, _⟩ := h
          exact ⟨_, _, _, _, _, _, _, _, rfl, kB, Fa⟩
      rintro _ H14 ⟨x13, x14, x15, x16, x17, x18, x19, x20, rfl, kB14, F14⟩
      have Kda : Kd ≠ a := dNe FB eKB
      have stB14 : Stl HB H14 := Stl.fd FB kB14
      have hw14 : ShAt K C CW H14 s1 D1 mvs (lk L) := hwB.stl stB14 fun o e => kB14 _ _ D1a e
      have eR14 := kB14 _ _ Ra eRB
      have eK14 := kB14 _ _ Kda eKB
      have eM14 := kB14 _ _ Ma eMB
      have hsc14 := scA hscB kB14
      -- a changed one
      refine ⟨fun σ' H' => ∃ ot Do mo, σ' = sl sc (some (.int (0 + i))) (some (.ref a)) (some (.ref R)) (some (.ref G)) (some (.ref M)) (some (.ref s1)) (some (.ref s2')) (some (.str nm)) (some va) (some (.ref Kd)) (some (.ref hd)) (some (.ref U)) x13 x14 x15 x16 x17 x18 x19 (some (.ref ot)) ∧ Same H14 H' ∧ ShAt K C CW H' ot Do mo (fun z => if z = nm then some tw else lk L z) ∧ mo.length = mvs.length + (if (valV mvs (.inr nm)).isSome = true then 0 else 1) ∧ H14 Do = none, ?_, ?_⟩
      · obtain ⟨⟨ds, hs⟩, _, _⟩ := id hw14
        refine ⟨.ref s1, rfl, s1, ds, _, rfl, hs, rfl, .str nm, rfl, Nat.zero_le _, fun p1 n1 => ⟨(by show 1 ≤ sizeLine; decide), fun p2 n2 => ⟨(by show 4 ≤ sizeLine; decide), fun p3 n3 => fun y dy hy hdy ney => ?_⟩⟩⟩
        have q1 := KS.sameUpd (o := .tup []) n1
        have q2 := KS.sameUpd (o := .tup [.str "stop"]) n2
        have q3 := KS.sameUpd (o := .tup [.str "write", .str "o", .ref p1, .ref p2]) n3
        have dtw : Dp K (upd (upd (upd H14 p1 (.tup [])) p2 (.tup [.str "stop"])) p3 (.tup [.str "write", .str "o", .ref p1, .ref p2])) (.ref p3) (trD tw) := by
          rw [trD]
          exact .tup (.inl (.inl upd_same)) (.cons (.str _) (.cons (.str _) (.cons (.tup (sameTup (q2.trans q3) (.inl (.inl upd_same))) .nil) (.cons (dStop (sameTup q3 (.inl (.inl upd_same)))) .nil))))
        refine trMade hy hdy ney dtw goodTw fun Ha sa hrc => ?_
        refine ⟨s1, D1, mvs, lk L, nm, .ref y, tw, rfl, hw14.same (((q1.trans q2).trans q3).trans sa), hrc, by omega, fun ot Do Hb m1 m2 sb h => ?_⟩
        exact ⟨ot, Do, _, rfl, (((q1.trans q2).trans q3).trans sa).trans sb, h, putLn _ _ _, noneSame (((q1.trans q2).trans q3).trans sa) m2⟩
      rintro _ H15 ⟨ot, Do, mo, rfl, S145, hot, lmo, nDo⟩
      have eM15 := S145 _ _ eM14
      have DoM : Do ≠ M := fun z => by rw [z, eM14] at nDo; cases nDo
      -- the first dict is emptied
      refine ⟨fun σ' H' => σ' = sl sc (some (.int (0 + i))) (some (.ref a)) (some (.ref R)) (some (.ref G)) (some (.ref M)) (some (.ref s1)) (some (.ref s2')) (some (.str nm)) (some va) (some (.ref Kd)) (some (.ref hd)) (some (.ref U)) x13 x14 x15 x16 x17 x18 x19 (some (.ref ot)) ∧ Kp M H15 H', ⟨.ref M, rfl, .inr (.inr (.inl ⟨rfl, .inl ⟨_, eM15⟩⟩)), M, _, rfl, rfl, eM15, rfl, Kp.put⟩, ?_⟩
      rintro _ H16 ⟨rfl, k16⟩
      have st16 : Stl H15 H16 := Stl.dct eM15 k16
      have KdM : Kd ≠ M := fun z => by rw [z, k89 _ _ Ma eM8] at nKd; cases nKd
      have hw16 := (hw14.same S145).stl st16 fun o e => k16 _ _ D1M e
      have hot16 := hot.stl st16 fun o e => k16 _ _ DoM e
      have eR16 := k16 _ _ (Ne.symm MR) (S145 _ _ eR14)
      have eK16 := k16 _ _ KdM (S145 _ _ eK14)
      have hsc16 : SqL K H16 sc (ns.map V.int) := sqlDct (Same.seq S145 hsc14) eM15 k16
      have inK : (valV kvs (.inr nm)).isSome = (valV mvs (.inr nm)).isSome := by
        rcases tree8 nm with ⟨e1, e2⟩ | ⟨v, t, e1, e2, _⟩ <;> rcases hw8.2.2 nm with ⟨e3, e4⟩ | ⟨v', t', e3, e4, _⟩
        · rw [e1, e3]
        · rw [e2] at e4; cases e4
        · rw [e2] at e4; cases e4
        · rw [e1, e3]; rfl
      have nnew : nm ≠ "newest" := by
        rcases hnm with hm2 | rfl
        · exact fun z => notN _ apart.2.1 (z ▸ hm2)
        · exact apart.2.2.2.2
      have d16 : Dp K H16 vt (trD T) := trTS (stB14.trans ((Stl.same S145).trans st16)).ts _ _ dvt
      refine ⟨.ref s1, rfl, .ref ot, rfl, .ref R, rfl, .ref Kd, rfl, .str nm, rfl, s1, ot, D1, Do, R, Kd, mvs, mo, _, kvs, lk L, nm, rfl, hw16, hot16, by omega, lmo, eR16, .inl ⟨vt, evt, by rw [eT]; exact d16⟩, eK16, inK, by omega, tnm, nnew, lk_none (notN _ apart.2.1), lk_none (notN _ apart.2.2.1), by rw [eT]; exact trok, by rw [eT]; exact od58, fun H17 S17 => ⟨true, rfl, iteF ?_⟩⟩
      have ens : trOf (lk L) "no such" = .stop := by unfold trOf; rw [lk_none (notN _ apart.2.2.2.1)]; rfl
      obtain ⟨⟨ds, hs⟩, _, _⟩ := id (hw16.same S17)
      refine ⟨.ref s1, rfl, s1, ds, _, rfl, hs, rfl, s1, D1, mvs, lk L, "no such", .ref eB, [], rfl, hw16.same S17, .tup (hE _) .nil, by rw [ens]; exact okStop, fun z hz => absurd hz (by simp), fun r c tl rc H18 n1 n2 n3 S18 hrun => ?_⟩
      refine ⟨r, c, tl, rc, _, "no such", [], [], [], 0, rfl, hrun, Nat.zero_le _, Nat.zero_le _, Nat.zero_le _, by rw [ens]; rfl, true, rfl, iteF ?_⟩
      exact ⟨⟨_, _, _, _, _, _, _, _, _, _, _, _, _, _, _, _, _, _, _, _, rfl⟩, Same.seq (S17.trans S18) hsc16⟩
    · rintro _ H' _
      exact q H'
end
end CO

set_option Elab.async false
set_option linter.all false
set_option maxRecDepth 100000
set_option maxHeartbeats 0
namespace CO.HD
open PySem PySem.Spec PyProof.Rows L2 ND KS KS.La PLC TRE OC
open KX hiding sameUpd
open He (ga ma)
section
variable {P : Program} {w : World} {K : PySem.W.Frag} {mg : Str → Option Value} {base h : Heap}
theorem hasMono {j k : Nat} {x : Str} {ps : List Str} {sp : Sp} (A : Has P w K mg base j x ps sp) (h : j ≤ k) : Has P w K mg base k x ps sp := by
  obtain ⟨f, fd, a, b, c, F⟩ := A.ex
  exact ⟨f, fd, a, b, c, F.mono h⟩
theorem factM (c : He.SaysD fa fn K) {f : He.Fa} (hm : f ∈ fa) : f.ok K = true := by
  obtain ⟨i, hi, e⟩ := List.mem_iff_getElem.mp hm
  exact c.fact i (f := f) (by rw [List.getElem?_eq_getElem hi, e])
theorem factX (c : He.SaysD fa fn K) {f : He.Fa} (hm : f ∈ faC ++ (faN ++ faM)) : f.ok K = true := factM c (List.mem_append_right _ (List.mem_append_right _ (List.mem_append_right _ hm)))
theorem factC (c : He.SaysD fa fn K) {f : He.Fa} (hm : f ∈ faC) : f.ok K = true := factX c (List.mem_append_left _ hm)
theorem factN (c : He.SaysD fa fn K) {f : He.Fa} (hm : f ∈ faN) : f.ok K = true := factX c (List.mem_append_right _ (List.mem_append_left _ hm))
theorem factT (c : He.SaysD fa fn K) {f : He.Fa} (hm : f ∈ faM) : f.ok K = true := factX c (List.mem_append_right _ (List.mem_append_right _ hm))
theorem plStr : ∀ d : Str, ∃ n, Pl n (PyData.str d) := fun d => ⟨0, Pl.str 0 d⟩
theorem plKey : ∀ d : Str × Str, ∃ n, Pl n (kyD d) := fun d => ⟨1, plKy d⟩
theorem propOf {C p g : Addr} {m : Str} (h1 : PySem.W.findIn K (.ref C) m = some (some (.ref p))) (h2 : PySem.W.specialIn K (.ref p) "__get__" = some (some (.builtin "property.__get__"))) (h3 : PySem.W.takesIn K (.ref p) = some true)
    (h4 : (PySem.W.recIn K p "property").map (fun l => l.head?) = some (some (.ref g))) : PropOf K C m p g := by
  refine ⟨h1, h2, h3, ?_⟩
  cases hr : PySem.W.recIn K p "property" with
  | none =>
    rw [hr] at h4
    cases h4
  | some l =>
    rw [hr] at h4
    cases l with
    | nil => cases h4
    | cons v l =>
      have ev : some (some v) = some (some (Value.ref g)) := h4
      injection ev with ev
      injection ev with ev
      exact ⟨l, by rw [ev]⟩
theorem exB_parts (e : exB K = true) : He.tupB K "STOP" [.str "stop"] = true ∧
    ma K (ga K "TreeRecipe") "begun" = ma K (ga K "Recipe") "begun" ∧
    PySem.W.makesIn K (ga K "Recipe") = true ∧
    PySem.W.findIn K (.ref (ga K "Recipe")) "__init__" = some (some (.builtin "object.__init__")) ∧
    PySem.W.mroIn K (ga K "Recipe") (.type "object") = some true ∧
    PySem.W.keepIn K (.ref (ga K "Recipe")) = true ∧
    xcB K (ga K "Halted") veB "ValueError.__new__" = true ∧
    PySem.W.excIn K (ga K "Halted") veB "ValueError.__new__" = true ∧
    PySem.W.exmOne K (.ref (ga K "Halted")) (.ref (ga K "Halted")) = some true ∧
    PySem.W.kitOne K (.ref (ga K "Halted")) (.type "ValueError") = some true ∧
    PySem.W.fnIn K (ma K (ga K "Course") "__call__") = true ∧
    PySem.W.fnIn K (ma K (ga K "Run") "__call__") = true ∧
    emB K (He.dflAt ("Course", some "__call__") 0 K) = true ∧
    emB K (He.dflAt ("Run", some "__init__") 0 K) = true ∧
    emB K (He.dflAt ("Run", some "__call__") 0 K) = true ∧
    emB K (He.dflAt ("Workshop", some "begin") 0 K) = true ∧
    PySem.W.findIn K (.ref (ga K "Course")) "step" = some (some (.ref (pAd K "Course" "step"))) ∧
    PySem.W.specialIn K (.ref (pAd K "Course" "step")) "__get__" = some (some (.builtin "property.__get__")) ∧
    PySem.W.takesIn K (.ref (pAd K "Course" "step")) = some true ∧
    (PySem.W.recIn K (pAd K "Course" "step") "property").map (fun l => l.head?) = some (some (.ref (gAd K "Course" "step"))) ∧
    okAt K (gAd K "Course" "step") "Course.step" = true ∧
    PySem.W.findIn K (.ref (ga K "Run")) "place" = some (some (.ref (pAd K "Run" "place"))) ∧
    PySem.W.specialIn K (.ref (pAd K "Run" "place")) "__get__" = some (some (.builtin "property.__get__")) ∧
    PySem.W.takesIn K (.ref (pAd K "Run" "place")) = some true ∧
    (PySem.W.recIn K (pAd K "Run" "place") "property").map (fun l => l.head?) = some (some (.ref (gAd K "Run" "place"))) ∧
    okAt K (gAd K "Run" "place") "Run.place" = true ∧
    PySem.W.findIn K (.ref (ga K "Run")) "step" = some (some (.ref (pAd K "Run" "step"))) ∧
    PySem.W.specialIn K (.ref (pAd K "Run" "step")) "__get__" = some (some (.builtin "property.__get__")) ∧
    PySem.W.takesIn K (.ref (pAd K "Run" "step")) = some true ∧
    (PySem.W.recIn K (pAd K "Run" "step") "property").map (fun l => l.head?) = some (some (.ref (gAd K "Run" "step"))) ∧
    okAt K (gAd K "Run" "step") "Run.step" = true ∧
    PySem.W.findIn K (.ref (ga K "Run")) "trail" = some (some (.ref (pAd K "Run" "trail"))) ∧
    PySem.W.specialIn K (.ref (pAd K "Run" "trail")) "__get__" = some (some (.builtin "property.__get__")) ∧
    PySem.W.takesIn K (.ref (pAd K "Run" "trail")) = some true ∧
    (PySem.W.recIn K (pAd K "Run" "trail") "property").map (fun l => l.head?) = some (some (.ref (gAd K "Run" "trail"))) ∧
    okAt K (gAd K "Run" "trail") "Run.trail" = true := by
  unfold exB at e
  simp only [Bool.and_eq_true, decide_eq_true_eq] at e
  exact e
theorem facts {f : Addr} (X : K.In h) (G : h.Ns mainGlobals mg) (hfa : mg ("law" : Str) = some (.ref f)) (y : Says K) :
    ∃ fd : FuncData, (∀ (s : Shared) (v : Value), BindsTo s fd ⟨[v], []⟩ [("_law_script", v)]) ∧ ∀ base : Heap, K.In base → base.Ns mainGlobals mg → FnOk P w K mg base CX0 66 f fd ["_law_script"] (spLaw K) := by
  obtain ⟨c, e, eg⟩ := y
  obtain ⟨p1, p2, p3, p4, p5, p6, p7, p8, p9, p10, p11, p12, p13, p14, p15, p16, p17, p18, p19, p20, p21, p22, p23, p24, p25, p26, p27, p28, p29, p30, p31, p32, p33, p34, p35, p36⟩ := exB_parts e
  have glo : ∀ x ∈ glos ++ ([("law" : Str)] : List Str), mg x = some (.ref (ga K x)) := fun x hx => He.glo_ok X G (factM c (f := .glo x) (List.mem_append_left _ (List.mem_map_of_mem hx)))
  have fre : ∀ x ∈ frees, mg x = none := fun x hx => He.free_ok X G (factM c (f := .free x) (List.mem_append_right _ (List.mem_append_left _ (List.mem_map_of_mem hx))))
  have num : ∀ q ∈ numG, IntG mg q.1 q.2 := fun q hq => He.int_ok X G (factM c (f := .int q.1 q.2) (List.mem_append_right _ (List.mem_append_right _ (List.mem_append_left _ (List.mem_map.mpr ⟨q, hq, rfl⟩)))))
  have clTreeRecipe : Cls K (ga K "TreeRecipe") := He.cls_ok (factC c (f := .cls "TreeRecipe") (by simp [faC]))
  have clRecipe : Cls K (ga K "Recipe") := He.cls_ok (factC c (f := .cls "Recipe") (by simp [faC]))
  have clCourse : Cls K (ga K "Course") := He.cls_ok (factC c (f := .cls "Course") (by simp [faC]))
  have clRun : Cls K (ga K "Run") := He.cls_ok (factC c (f := .cls "Run") (by simp [faC]))
  have clWorkshop : Cls K (ga K "Workshop") := He.cls_ok (factC c (f := .cls "Workshop") (by simp [faC]))
  have mkTreeRecipe : Mk K (ga K "TreeRecipe") (ma K (ga K "TreeRecipe") "__init__") := He.mkr_ok (factC c (f := .mkr "TreeRecipe") (by simp [faC]))
  have mkCourse : Mk K (ga K "Course") (ma K (ga K "Course") "__init__") := He.mkr_ok (factC c (f := .mkr "Course") (by simp [faC]))
  have mkRun : Mk K (ga K "Run") (ma K (ga K "Run") "__init__") := He.mkr_ok (factC c (f := .mkr "Run") (by simp [faC]))
  have mkWorkshop : Mk K (ga K "Workshop") (ma K (ga K "Workshop") "__init__") := He.mkr_ok (factC c (f := .mkr "Workshop") (by simp [faC]))
  have naTreeRecipe_node : NoAttr K (ga K "TreeRecipe") "_node" := He.noat_ok (factN c (f := .noat "TreeRecipe" "_node") (by simp [faN]))
  have naCourse_recipe : NoAttr K (ga K "Course") "_recipe" := He.noat_ok (factN c (f := .noat "Course" "_recipe") (by simp [faN]))
  have naCourse_arguments : NoAttr K (ga K "Course") "_arguments" := He.noat_ok (factN c (f := .noat "Course" "_arguments") (by simp [faN]))
  have naCourse_answers : NoAttr K (ga K "Course") "_answers" := He.noat_ok (factN c (f := .noat "Course" "_answers") (by simp [faN]))
  have naCourse_count : NoAttr K (ga K "Course") "_count" := He.noat_ok (factN c (f := .noat "Course" "_count") (by simp [faN]))
  have naCourse_step : NoAttr K (ga K "Course") "_step" := He.noat_ok (factN c (f := .noat "Course" "_step") (by simp [faN]))
  have naRun_recipe : NoAttr K (ga K "Run") "_recipe" := He.noat_ok (factN c (f := .noat "Run" "_recipe") (by simp [faN]))
  have naRun_place : NoAttr K (ga K "Run") "_place" := He.noat_ok (factN c (f := .noat "Run" "_place") (by simp [faN]))
  have naRun_course : NoAttr K (ga K "Run") "_course" := He.noat_ok (factN c (f := .noat "Run" "_course") (by simp [faN]))
  have naRun_step : NoAttr K (ga K "Run") "_step" := He.noat_ok (factN c (f := .noat "Run" "_step") (by simp [faN]))
  have naRun_trail : NoAttr K (ga K "Run") "_trail" := He.noat_ok (factN c (f := .noat "Run" "_trail") (by simp [faN]))
  have naWorkshop_recipes : NoAttr K (ga K "Workshop") "_recipes" := He.noat_ok (factN c (f := .noat "Workshop" "_recipes") (by simp [faN]))
  have meTreeRecipestep_at : Meth K (ga K "TreeRecipe") "step_at" (ma K (ga K "TreeRecipe") "step_at") := He.meth_ok (factT c (f := .meth "TreeRecipe" "step_at") (by simp [faM]))
  have meTreeRecipebegun : Meth K (ga K "TreeRecipe") "begun" (ma K (ga K "TreeRecipe") "begun") := He.meth_ok (factT c (f := .meth "TreeRecipe" "begun") (by simp [faM]))
  have meRecipestep_at : Meth K (ga K "Recipe") "step_at" (ma K (ga K "Recipe") "step_at") := He.meth_ok (factT c (f := .meth "Recipe" "step_at") (by simp [faM]))
  have meRecipebegun : Meth K (ga K "Recipe") "begun" (ma K (ga K "Recipe") "begun") := He.meth_ok (factT c (f := .meth "Recipe" "begun") (by simp [faM]))
  have meCourse_stand_at : Meth K (ga K "Course") "_stand_at" (ma K (ga K "Course") "_stand_at") := He.meth_ok (factT c (f := .meth "Course" "_stand_at") (by simp [faM]))
  have meCoursecopied : Meth K (ga K "Course") "copied" (ma K (ga K "Course") "copied") := He.meth_ok (factT c (f := .meth "Course" "copied") (by simp [faM]))
  have meCourse__call__ : Meth K (ga K "Course") "__call__" (ma K (ga K "Course") "__call__") := He.meth_ok (factT c (f := .meth "Course" "__call__") (by simp [faM]))
  have meRuncopied : Meth K (ga K "Run") "copied" (ma K (ga K "Run") "copied") := He.meth_ok (factT c (f := .meth "Run" "copied") (by simp [faM]))
  have meRun_new_run : Meth K (ga K "Run") "_new_run" (ma K (ga K "Run") "_new_run") := He.meth_ok (factT c (f := .meth "Run" "_new_run") (by simp [faM]))
  have meRun__call__ : Meth K (ga K "Run") "__call__" (ma K (ga K "Run") "__call__") := He.meth_ok (factT c (f := .meth "Run" "__call__") (by simp [faM]))
  have meWorkshop__contains__ : Meth K (ga K "Workshop") "__contains__" (ma K (ga K "Workshop") "__contains__") := He.meth_ok (factT c (f := .meth "Workshop" "__contains__") (by simp [faM]))
  have meWorkshop__len__ : Meth K (ga K "Workshop") "__len__" (ma K (ga K "Workshop") "__len__") := He.meth_ok (factT c (f := .meth "Workshop" "__len__") (by simp [faM]))
  have meWorkshop_recipe_of : Meth K (ga K "Workshop") "_recipe_of" (ma K (ga K "Workshop") "_recipe_of") := He.meth_ok (factT c (f := .meth "Workshop" "_recipe_of") (by simp [faM]))
  have meWorkshopstep_at : Meth K (ga K "Workshop") "step_at" (ma K (ga K "Workshop") "step_at") := He.meth_ok (factT c (f := .meth "Workshop" "step_at") (by simp [faM]))
  have meWorkshopbegin : Meth K (ga K "Workshop") "begin" (ma K (ga K "Workshop") "begin") := He.meth_ok (factT c (f := .meth "Workshop" "begin") (by simp [faM]))
  have meWorkshopchanged : Meth K (ga K "Workshop") "changed" (ma K (ga K "Workshop") "changed") := He.meth_ok (factT c (f := .meth "Workshop" "changed") (by simp [faM]))
  have prCoursestep := propOf p17 p18 p19 p20
  obtain ⟨fdP0, FP0⟩ := funAt (congrArg (fun z : He.FnW × He.FnW × He.FnW × He.FnW => z.1) eg) p21
  have bP0 := FunD.bindsN (ps := ["self"]) FP0 (fun _ _ _ _ _ _ us hl => match us, hl with | [_], _ => rfl)
  have prRunplace := propOf p22 p23 p24 p25
  obtain ⟨fdP1, FP1⟩ := funAt (congrArg (fun z : He.FnW × He.FnW × He.FnW × He.FnW => z.2.1) eg) p26
  have bP1 := FunD.bindsN (ps := ["self"]) FP1 (fun _ _ _ _ _ _ us hl => match us, hl with | [_], _ => rfl)
  have prRunstep := propOf p27 p28 p29 p30
  obtain ⟨fdP2, FP2⟩ := funAt (congrArg (fun z : He.FnW × He.FnW × He.FnW × He.FnW => z.2.2.1) eg) p31
  have bP2 := FunD.bindsN (ps := ["self"]) FP2 (fun _ _ _ _ _ _ us hl => match us, hl with | [_], _ => rfl)
  have prRuntrail := propOf p32 p33 p34 p35
  obtain ⟨fdP3, FP3⟩ := funAt (congrArg (fun z : He.FnW × He.FnW × He.FnW × He.FnW => z.2.2.2) eg) p36
  have bP3 := FunD.bindsN (ps := ["self"]) FP3 (fun _ _ _ _ _ _ us hl => match us, hl with | [_], _ => rfl)
  have B : Bn mg := ⟨fre _ (by decide +kernel), fre _ (by decide +kernel), fre _ (by decide +kernel), fre _ (by decide +kernel), fre _ (by decide +kernel), fre _ (by decide +kernel), fre _ (by decide +kernel), fre _ (by decide +kernel), fre _ (by decide +kernel), fre _ (by decide +kernel), fre _ (by decide +kernel), fre _ (by decide +kernel), fre _ (by decide +kernel), fre _ (by decide +kernel)⟩
  have gT : IntG mg "LONGEST_TEXT" 400 := num ("LONGEST_TEXT", 400) (by decide +kernel)
  have gN : IntG mg "LONGEST_NAME" 8 := num ("LONGEST_NAME", 8) (by decide +kernel)
  have gK : IntG mg "MOST_KEYS" 4 := num ("MOST_KEYS", 4) (by decide +kernel)
  obtain ⟨fd, F⟩ := c.def_ 39 (d := dOf "law" 57) rfl
  have ef := hfa.symm.trans (glo "law" (by decide +kernel))
  cases ef
  have b := FunD.bindsA (ps := ["_law_script"]) F fun _ _ _ _ _ _ us hl => match us, hl with | [_], _ => rfl
  refine ⟨fd, fun s v => b s [v] rfl, fun base hb hg => ?_⟩
  obtain ⟨d0, F0⟩ := c.def_ 0 (d := dOf "is_integer" 8) rfl
  have g0 : mg "is_integer" = some (.ref (ga K "is_integer")) := glo _ (by decide +kernel)
  have b0 : Binds K d0 ["value"] [] := F0.bindsN (fun _ _ _ _ _ _ us hl => match us, hl with | [_], _ => rfl)
  obtain ⟨d1, F1⟩ := c.def_ 1 (d := dOf "is_text" 9) rfl
  have g1 : mg "is_text" = some (.ref (ga K "is_text")) := glo _ (by decide +kernel)
  have b1 : Binds K d1 ["value"] [] := F1.bindsN (fun _ _ _ _ _ _ us hl => match us, hl with | [_], _ => rfl)
  obtain ⟨d2, F2⟩ := c.def_ 2 (d := dOf "is_name" 10) rfl
  have g2 : mg "is_name" = some (.ref (ga K "is_name")) := glo _ (by decide +kernel)
  have b2 : Binds K d2 ["value"] [] := F2.bindsN (fun _ _ _ _ _ _ us hl => match us, hl with | [_], _ => rfl)
  obtain ⟨d3, F3⟩ := c.def_ 3 (d := dOf "is_key" 11) rfl
  have g3 : mg "is_key" = some (.ref (ga K "is_key")) := glo _ (by decide +kernel)
  have b3 : Binds K d3 ["value"] [] := F3.bindsN (fun _ _ _ _ _ _ us hl => match us, hl with | [_], _ => rfl)
  obtain ⟨d4, F4⟩ := c.def_ 4 (d := dOf "are_keys" 12) rfl
  have g4 : mg "are_keys" = some (.ref (ga K "are_keys")) := glo _ (by decide +kernel)
  have b4 : Binds K d4 ["value"] [] := F4.bindsN (fun _ _ _ _ _ _ us hl => match us, hl with | [_], _ => rfl)
  obtain ⟨d5, F5⟩ := c.def_ 5 (d := dOf "are_answers" 13) rfl
  have g5 : mg "are_answers" = some (.ref (ga K "are_answers")) := glo _ (by decide +kernel)
  have b5 : Binds K d5 ["value"] [] := F5.bindsN (fun _ _ _ _ _ _ us hl => match us, hl with | [_], _ => rfl)
  obtain ⟨d6, F6⟩ := c.def_ 6 (d := dOf "after_write" 14) rfl
  have g6 : mg "after_write" = some (.ref (ga K "after_write")) := glo _ (by decide +kernel)
  have b6 : Binds K d6 ["place"] [] := F6.bindsN (fun _ _ _ _ _ _ us hl => match us, hl with | [_], _ => rfl)
  obtain ⟨d7, F7⟩ := c.def_ 7 (d := dOf "after_read" 15) rfl
  have g7 : mg "after_read" = some (.ref (ga K "after_read")) := glo _ (by decide +kernel)
  have b7 : Binds K d7 ["place", "answers"] [] := F7.bindsN (fun _ _ _ _ _ _ us hl => match us, hl with | [_, _], _ => rfl)
  obtain ⟨d8, F8⟩ := c.def_ 8 (d := dOf "_step_of" 21) rfl
  have g8 : mg "_step_of" = some (.ref (ga K "_step_of")) := glo _ (by decide +kernel)
  have b8 : Binds K d8 ["node", "rows"] [] := F8.bindsN (fun _ _ _ _ _ _ us hl => match us, hl with | [_, _], _ => rfl)
  obtain ⟨d9, F9⟩ := c.def_ 9 (d := dOf "_piece" 22) rfl
  have g9 : mg "_piece" = some (.ref (ga K "_piece")) := glo _ (by decide +kernel)
  have b9 : Binds K d9 ["part", "rows"] [] := F9.bindsN (fun _ _ _ _ _ _ us hl => match us, hl with | [_, _], _ => rfl)
  obtain ⟨d10, F10⟩ := c.def_ 10 (d := dOf "_check_tree" 23) rfl
  have g10 : mg "_check_tree" = some (.ref (ga K "_check_tree")) := glo _ (by decide +kernel)
  have b10 : Binds K d10 ["top"] [] := F10.bindsN (fun _ _ _ _ _ _ us hl => match us, hl with | [_], _ => rfl)
  obtain ⟨d11, F11⟩ := c.def_ 11 (d := dOf "_inner_nodes" 24) rfl
  have g11 : mg "_inner_nodes" = some (.ref (ga K "_inner_nodes")) := glo _ (by decide +kernel)
  have b11 : Binds K d11 ["node"] [] := F11.bindsN (fun _ _ _ _ _ _ us hl => match us, hl with | [_], _ => rfl)
  obtain ⟨d12, F12⟩ := c.def_ 12 (d := dOf "_is_node" 25) rfl
  have g12 : mg "_is_node" = some (.ref (ga K "_is_node")) := glo _ (by decide +kernel)
  have b12 : Binds K d12 ["value", "written"] [] := F12.bindsN (fun _ _ _ _ _ _ us hl => match us, hl with | [_, _], _ => rfl)
  obtain ⟨d13, F13⟩ := c.def_ 13 (d := dOf "_are_parts" 26) rfl
  have g13 : mg "_are_parts" = some (.ref (ga K "_are_parts")) := glo _ (by decide +kernel)
  have b13 : Binds K d13 ["value"] [] := F13.bindsN (fun _ _ _ _ _ _ us hl => match us, hl with | [_], _ => rfl)
  obtain ⟨d14, F14⟩ := c.def_ 14 (d := dOf "_is_pair_of_integers" 27) rfl
  have g14 : mg "_is_pair_of_integers" = some (.ref (ga K "_is_pair_of_integers")) := glo _ (by decide +kernel)
  have b14 : Binds K d14 ["value"] [] := F14.bindsN (fun _ _ _ _ _ _ us hl => match us, hl with | [_], _ => rfl)
  obtain ⟨d15, F15⟩ := c.def_ 15 (d := dOf "_are_cases" 28) rfl
  have g15 : mg "_are_cases" = some (.ref (ga K "_are_cases")) := glo _ (by decide +kernel)
  have b15 : Binds K d15 ["value", "many"] [] := F15.bindsN (fun _ _ _ _ _ _ us hl => match us, hl with | [_, _], _ => rfl)
  obtain ⟨d16, F16⟩ := c.def_ 16 (d := dOf "_is_case" 29) rfl
  have g16 : mg "_is_case" = some (.ref (ga K "_is_case")) := glo _ (by decide +kernel)
  have b16 : Binds K d16 ["value", "many"] [] := F16.bindsN (fun _ _ _ _ _ _ us hl => match us, hl with | [_, _], _ => rfl)
  obtain ⟨d17, F17⟩ := c.def_ 17 (d := dOf "_law_feed_of" 35) rfl
  have g17 : mg "_law_feed_of" = some (.ref (ga K "_law_feed_of")) := glo _ (by decide +kernel)
  have b17 : Binds K d17 ["_law_script", "_law_k"] [] := F17.bindsN (fun _ _ _ _ _ _ us hl => match us, hl with | [_, _], _ => rfl)
  obtain ⟨d18, F18⟩ := c.def_ 18 (d := dOf "_law_draw" 36) rfl
  have g18 : mg "_law_draw" = some (.ref (ga K "_law_draw")) := glo _ (by decide +kernel)
  have b18 : Binds K d18 ["_law_feed", "_law_many"] [] := F18.bindsN (fun _ _ _ _ _ _ us hl => match us, hl with | [_, _], _ => rfl)
  obtain ⟨d19, F19⟩ := c.def_ 19 (d := dOf "_law_mixed" 37) rfl
  have g19 : mg "_law_mixed" = some (.ref (ga K "_law_mixed")) := glo _ (by decide +kernel)
  have b19 : Binds K d19 ["_law_feed", "_law_items"] [] := F19.bindsN (fun _ _ _ _ _ _ us hl => match us, hl with | [_, _], _ => rfl)
  obtain ⟨d20, F20⟩ := c.def_ 20 (d := dOf "_law_pick" 38) rfl
  have g20 : mg "_law_pick" = some (.ref (ga K "_law_pick")) := glo _ (by decide +kernel)
  have b20 : Binds K d20 ["_law_feed", "_law_items"] [] := F20.bindsN (fun _ _ _ _ _ _ us hl => match us, hl with | [_, _], _ => rfl)
  obtain ⟨d21, F21⟩ := c.def_ 21 (d := dOf "_law_outs" 39) rfl
  have g21 : mg "_law_outs" = some (.ref (ga K "_law_outs")) := glo _ (by decide +kernel)
  have b21 : Binds K d21 [] [] := F21.bindsN (fun _ _ _ _ _ _ us hl => match us, hl with | [], _ => rfl)
  obtain ⟨d22, F22⟩ := c.def_ 22 (d := dOf "_law_calls" 40) rfl
  have g22 : mg "_law_calls" = some (.ref (ga K "_law_calls")) := glo _ (by decide +kernel)
  have b22 : Binds K d22 [] [] := F22.bindsN (fun _ _ _ _ _ _ us hl => match us, hl with | [], _ => rfl)
  obtain ⟨d23, F23⟩ := c.def_ 23 (d := dOf "_law_some_names" 41) rfl
  have g23 : mg "_law_some_names" = some (.ref (ga K "_law_some_names")) := glo _ (by decide +kernel)
  have b23 : Binds K d23 ["_law_feed", "_law_many"] [] := F23.bindsN (fun _ _ _ _ _ _ us hl => match us, hl with | [_, _], _ => rfl)
  obtain ⟨d24, F24⟩ := c.def_ 24 (d := dOf "_law_some_text" 42) rfl
  have g24 : mg "_law_some_text" = some (.ref (ga K "_law_some_text")) := glo _ (by decide +kernel)
  have b24 : Binds K d24 ["_law_feed"] [] := F24.bindsN (fun _ _ _ _ _ _ us hl => match us, hl with | [_], _ => rfl)
  obtain ⟨d25, F25⟩ := c.def_ 25 (d := dOf "_law_some_answer" 43) rfl
  have g25 : mg "_law_some_answer" = some (.ref (ga K "_law_some_answer")) := glo _ (by decide +kernel)
  have b25 : Binds K d25 ["_law_feed"] [] := F25.bindsN (fun _ _ _ _ _ _ us hl => match us, hl with | [_], _ => rfl)
  obtain ⟨d26, F26⟩ := c.def_ 26 (d := dOf "_law_some_parts" 44) rfl
  have g26 : mg "_law_some_parts" = some (.ref (ga K "_law_some_parts")) := glo _ (by decide +kernel)
  have b26 : Binds K d26 ["_law_feed"] [] := F26.bindsN (fun _ _ _ _ _ _ us hl => match us, hl with | [_], _ => rfl)
  obtain ⟨d27, F27⟩ := c.def_ 27 (d := dOf "_law_some_tree" 45) rfl
  have g27 : mg "_law_some_tree" = some (.ref (ga K "_law_some_tree")) := glo _ (by decide +kernel)
  have b27 : Binds K d27 ["_law_feed", "_law_keys", "_law_outs_here", "_law_deep"] [] := F27.bindsN (fun _ _ _ _ _ _ us hl => match us, hl with | [_, _, _, _], _ => rfl)
  obtain ⟨d28, F28⟩ := c.def_ 28 (d := dOf "_law_some_keys" 46) rfl
  have g28 : mg "_law_some_keys" = some (.ref (ga K "_law_some_keys")) := glo _ (by decide +kernel)
  have b28 : Binds K d28 ["_law_feed", "_law_names"] [] := F28.bindsN (fun _ _ _ _ _ _ us hl => match us, hl with | [_, _], _ => rfl)
  obtain ⟨d29, F29⟩ := c.def_ 29 (d := dOf "_law_some_outputs" 47) rfl
  have g29 : mg "_law_some_outputs" = some (.ref (ga K "_law_some_outputs")) := glo _ (by decide +kernel)
  have b29 : Binds K d29 ["_law_feed"] [] := F29.bindsN (fun _ _ _ _ _ _ us hl => match us, hl with | [_], _ => rfl)
  obtain ⟨d30, F30⟩ := c.def_ 30 (d := dOf "_law_drawn_made" 48) rfl
  have g30 : mg "_law_drawn_made" = some (.ref (ga K "_law_drawn_made")) := glo _ (by decide +kernel)
  have b30 : Binds K d30 ["_law_feed", "_law_near", "_law_recipes"] [] := F30.bindsN (fun _ _ _ _ _ _ us hl => match us, hl with | [_, _, _], _ => rfl)
  obtain ⟨d31, F31⟩ := c.def_ 31 (d := dOf1 "_law_world" 49) rfl
  have g31 : mg "_law_world" = some (.ref (ga K "_law_world")) := glo _ (by decide +kernel)
  obtain ⟨d32, F32⟩ := c.def_ 32 (d := dOf "_law_part_text" 50) rfl
  have g32 : mg "_law_part_text" = some (.ref (ga K "_law_part_text")) := glo _ (by decide +kernel)
  have b32 : Binds K d32 ["_law_part", "_law_rows"] [] := F32.bindsN (fun _ _ _ _ _ _ us hl => match us, hl with | [_, _], _ => rfl)
  obtain ⟨d33, F33⟩ := c.def_ 33 (d := dOf "_law_step_at" 51) rfl
  have g33 : mg "_law_step_at" = some (.ref (ga K "_law_step_at")) := glo _ (by decide +kernel)
  have b33 : Binds K d33 ["_law_recipes", "_law_place"] [] := F33.bindsN (fun _ _ _ _ _ _ us hl => match us, hl with | [_, _], _ => rfl)
  obtain ⟨d34, F34⟩ := c.def_ 34 (d := dOf "_law_same" 52) rfl
  have g34 : mg "_law_same" = some (.ref (ga K "_law_same")) := glo _ (by decide +kernel)
  have b34 : Binds K d34 ["_law_found", "_law_due"] [] := F34.bindsN (fun _ _ _ _ _ _ us hl => match us, hl with | [_, _], _ => rfl)
  obtain ⟨d35, F35⟩ := c.def_ 35 (d := dOf "_law_halts" 53) rfl
  have g35 : mg "_law_halts" = some (.ref (ga K "_law_halts")) := glo _ (by decide +kernel)
  have b35 : Binds K d35 ["_law_run"] [] := F35.bindsN (fun _ _ _ _ _ _ us hl => match us, hl with | [_], _ => rfl)
  obtain ⟨d36, F36⟩ := c.def_ 36 (d := dOf "_law_goes" 54) rfl
  have g36 : mg "_law_goes" = some (.ref (ga K "_law_goes")) := glo _ (by decide +kernel)
  have b36 : Binds K d36 ["_law_feed", "_law_recipes", "_law_run", "_law_place"] [] := F36.bindsN (fun _ _ _ _ _ _ us hl => match us, hl with | [_, _, _, _], _ => rfl)
  obtain ⟨d37, F37⟩ := c.def_ 37 (d := dOf "_law_stands" 55) rfl
  have g37 : mg "_law_stands" = some (.ref (ga K "_law_stands")) := glo _ (by decide +kernel)
  have b37 : Binds K d37 ["_law_recipes", "_law_run", "_law_place", "_law_trail"] [] := F37.bindsN (fun _ _ _ _ _ _ us hl => match us, hl with | [_, _, _, _], _ => rfl)
  obtain ⟨d38, F38⟩ := c.def_ 38 (d := dOf "_law_shops_right" 56) rfl
  have g38 : mg "_law_shops_right" = some (.ref (ga K "_law_shops_right")) := glo _ (by decide +kernel)
  have b38 : Binds K d38 ["_law_shop", "_law_other", "_law_recipes", "_law_kept", "_law_call"] [] := F38.bindsN (fun _ _ _ _ _ _ us hl => match us, hl with | [_, _, _, _, _], _ => rfl)
  obtain ⟨eTreeRecipe__init__, FTreeRecipe__init__⟩ := c.def_ 40 (d := dIn "TreeRecipe" "__init__" "TreeRecipe.__init__" 20 0) rfl
  have bTreeRecipe__init__ : Binds K eTreeRecipe__init__ ["self", "node"] [] := FunD.bindsN FTreeRecipe__init__ (fun _ _ _ _ _ _ us hl => match us, hl with | [_, _], _ => rfl)
  obtain ⟨eTreeRecipestep_at, FTreeRecipestep_at⟩ := c.def_ 41 (d := dIn "TreeRecipe" "step_at" "TreeRecipe.step_at" 20 3) rfl
  have bTreeRecipestep_at : Binds K eTreeRecipestep_at ["self", "arguments", "answers", "count"] [] := FunD.bindsN FTreeRecipestep_at (fun _ _ _ _ _ _ us hl => match us, hl with | [_, _, _, _], _ => rfl)
  obtain ⟨eRecipestep_at, FRecipestep_at⟩ := c.def_ 42 (d := dIn "Recipe" "step_at" "Recipe.step_at" 18 0) rfl
  have bRecipestep_at : Binds K eRecipestep_at ["self", "arguments", "answers", "count"] [] := FunD.bindsN FRecipestep_at (fun _ _ _ _ _ _ us hl => match us, hl with | [_, _, _, _], _ => rfl)
  obtain ⟨eRecipebegun, FRecipebegun⟩ := c.def_ 43 (d := dIn "Recipe" "begun" "Recipe.begun" 18 1) rfl
  have bRecipebegun : Binds K eRecipebegun ["self", "arguments"] [] := FunD.bindsN FRecipebegun (fun _ _ _ _ _ _ us hl => match us, hl with | [_, _], _ => rfl)
  obtain ⟨eCourse__init__, FCourse__init__⟩ := c.def_ 44 (d := dIn "Course" "__init__" "Course.__init__" 19 0) rfl
  have bCourse__init__ : Binds K eCourse__init__ ["self", "recipe", "arguments"] [] := FunD.bindsN FCourse__init__ (fun _ _ _ _ _ _ us hl => match us, hl with | [_, _, _], _ => rfl)
  obtain ⟨eCourse_stand_at, FCourse_stand_at⟩ := c.def_ 45 (d := dIn "Course" "_stand_at" "Course._stand_at" 19 1) rfl
  have bCourse_stand_at : Binds K eCourse_stand_at ["self", "answers", "count"] [] := FunD.bindsN FCourse_stand_at (fun _ _ _ _ _ _ us hl => match us, hl with | [_, _, _], _ => rfl)
  obtain ⟨eCourse__call__, FCourse__call__⟩ := c.def_ 46 (d := dInD "Course" "__call__" "Course.__call__" 19 3) rfl
  obtain ⟨dsDCourse__call__, vDCourse__call__, bDCourse__call__⟩ := FCourse__call__.binds1 (ps := ["self", "answers"]) 1 0 (by simp [dInD, He.DefD.dvs]) rfl (fun _ _ _ _ _ _ _ us its hl hi => by
    rcases us with _ | ⟨u0, _ | ⟨u1, us⟩⟩ <;> first | (cases hl; done) | skip
    rcases its with _ | ⟨i0, _ | ⟨i1, its⟩⟩ <;> first | (cases hi; done) | skip
    exact ⟨_, rfl, rfl⟩)
  obtain ⟨dsACourse__call__, vACourse__call__, bACourse__call__⟩ := FCourse__call__.binds1 (ps := ["self", "answers"]) 2 1 (by simp [dInD, He.DefD.dvs]) rfl (fun _ _ _ _ _ _ _ us its hl hi => by
    rcases us with _ | ⟨u0, _ | ⟨u1, _ | ⟨u2, us⟩⟩⟩ <;> first | (cases hl; done) | skip
    rcases its with _ | ⟨i0, _ | ⟨i1, its⟩⟩ <;> first | (cases hi; done) | skip
    exact ⟨_, rfl, rfl⟩)
  cases vACourse__call__
  have emCourse__call__ := emB_ok p13
  obtain ⟨eCoursecopied, FCoursecopied⟩ := c.def_ 47 (d := dIn "Course" "copied" "Course.copied" 19 4) rfl
  have bCoursecopied : Binds K eCoursecopied ["self"] [] := FunD.bindsN FCoursecopied (fun _ _ _ _ _ _ us hl => match us, hl with | [_], _ => rfl)
  obtain ⟨eRun__init__, FRun__init__⟩ := c.def_ 48 (d := dInD "Run" "__init__" "Run.__init__" 31 0) rfl
  obtain ⟨dsDRun__init__, vDRun__init__, bDRun__init__⟩ := FRun__init__.binds1 (ps := ["self", "name", "recipe", "arguments"]) 3 0 (by simp [dInD, He.DefD.dvs]) rfl (fun _ _ _ _ _ _ _ us its hl hi => by
    rcases us with _ | ⟨u0, _ | ⟨u1, _ | ⟨u2, _ | ⟨u3, us⟩⟩⟩⟩ <;> first | (cases hl; done) | skip
    rcases its with _ | ⟨i0, _ | ⟨i1, its⟩⟩ <;> first | (cases hi; done) | skip
    exact ⟨_, rfl, rfl⟩)
  obtain ⟨dsARun__init__, vARun__init__, bARun__init__⟩ := FRun__init__.binds1 (ps := ["self", "name", "recipe", "arguments"]) 4 1 (by simp [dInD, He.DefD.dvs]) rfl (fun _ _ _ _ _ _ _ us its hl hi => by
    rcases us with _ | ⟨u0, _ | ⟨u1, _ | ⟨u2, _ | ⟨u3, _ | ⟨u4, us⟩⟩⟩⟩⟩ <;> first | (cases hl; done) | skip
    rcases its with _ | ⟨i0, _ | ⟨i1, its⟩⟩ <;> first | (cases hi; done) | skip
    exact ⟨_, rfl, rfl⟩)
  cases vARun__init__
  have emRun__init__ := emB_ok p14
  obtain ⟨eRun__call__, FRun__call__⟩ := c.def_ 49 (d := dInD "Run" "__call__" "Run.__call__" 31 4) rfl
  obtain ⟨dsDRun__call__, vDRun__call__, bDRun__call__⟩ := FRun__call__.binds1 (ps := ["self", "answers"]) 1 0 (by simp [dInD, He.DefD.dvs]) rfl (fun _ _ _ _ _ _ _ us its hl hi => by
    rcases us with _ | ⟨u0, _ | ⟨u1, us⟩⟩ <;> first | (cases hl; done) | skip
    rcases its with _ | ⟨i0, _ | ⟨i1, its⟩⟩ <;> first | (cases hi; done) | skip
    exact ⟨_, rfl, rfl⟩)
  obtain ⟨dsARun__call__, vARun__call__, bARun__call__⟩ := FRun__call__.binds1 (ps := ["self", "answers"]) 2 1 (by simp [dInD, He.DefD.dvs]) rfl (fun _ _ _ _ _ _ _ us its hl hi => by
    rcases us with _ | ⟨u0, _ | ⟨u1, _ | ⟨u2, us⟩⟩⟩ <;> first | (cases hl; done) | skip
    rcases its with _ | ⟨i0, _ | ⟨i1, its⟩⟩ <;> first | (cases hi; done) | skip
    exact ⟨_, rfl, rfl⟩)
  cases vARun__call__
  have emRun__call__ := emB_ok p15
  obtain ⟨eRuncopied, FRuncopied⟩ := c.def_ 50 (d := dIn "Run" "copied" "Run.copied" 31 5) rfl
  have bRuncopied : Binds K eRuncopied ["self"] [] := FunD.bindsN FRuncopied (fun _ _ _ _ _ _ us hl => match us, hl with | [_], _ => rfl)
  obtain ⟨eRun_new_run, FRun_new_run⟩ := c.def_ 51 (d := dIn "Run" "_new_run" "Run._new_run" 31 6) rfl
  have bRun_new_run : Binds K eRun_new_run ["self"] [] := FunD.bindsN FRun_new_run (fun _ _ _ _ _ _ us hl => match us, hl with | [_], _ => rfl)
  obtain ⟨eWorkshop__init__, FWorkshop__init__⟩ := c.def_ 52 (d := dIn "Workshop" "__init__" "Workshop.__init__" 33 0) rfl
  have bWorkshop__init__ : Binds K eWorkshop__init__ ["self", "recipes"] [] := FunD.bindsN FWorkshop__init__ (fun _ _ _ _ _ _ us hl => match us, hl with | [_, _], _ => rfl)
  obtain ⟨eWorkshop__contains__, FWorkshop__contains__⟩ := c.def_ 53 (d := dIn "Workshop" "__contains__" "Workshop.__contains__" 33 1) rfl
  have bWorkshop__contains__ : Binds K eWorkshop__contains__ ["self", "x"] [] := FunD.bindsN FWorkshop__contains__ (fun _ _ _ _ _ _ us hl => match us, hl with | [_, _], _ => rfl)
  obtain ⟨eWorkshop__len__, FWorkshop__len__⟩ := c.def_ 54 (d := dIn "Workshop" "__len__" "Workshop.__len__" 33 2) rfl
  have bWorkshop__len__ : Binds K eWorkshop__len__ ["self"] [] := FunD.bindsN FWorkshop__len__ (fun _ _ _ _ _ _ us hl => match us, hl with | [_], _ => rfl)
  obtain ⟨eWorkshop_recipe_of, FWorkshop_recipe_of⟩ := c.def_ 55 (d := dIn "Workshop" "_recipe_of" "Workshop._recipe_of" 33 3) rfl
  have bWorkshop_recipe_of : Binds K eWorkshop_recipe_of ["self", "name"] [] := FunD.bindsN FWorkshop_recipe_of (fun _ _ _ _ _ _ us hl => match us, hl with | [_, _], _ => rfl)
  obtain ⟨eWorkshopstep_at, FWorkshopstep_at⟩ := c.def_ 56 (d := dIn "Workshop" "step_at" "Workshop.step_at" 33 4) rfl
  have bWorkshopstep_at : Binds K eWorkshopstep_at ["self", "place"] [] := FunD.bindsN FWorkshopstep_at (fun _ _ _ _ _ _ us hl => match us, hl with | [_, _], _ => rfl)
  obtain ⟨eWorkshopbegin, FWorkshopbegin⟩ := c.def_ 57 (d := dInD "Workshop" "begin" "Workshop.begin" 33 5) rfl
  obtain ⟨dsDWorkshopbegin, vDWorkshopbegin, bDWorkshopbegin⟩ := FWorkshopbegin.binds1 (ps := ["self", "name", "arguments"]) 2 0 (by simp [dInD, He.DefD.dvs]) rfl (fun _ _ _ _ _ _ _ us its hl hi => by
    rcases us with _ | ⟨u0, _ | ⟨u1, _ | ⟨u2, us⟩⟩⟩ <;> first | (cases hl; done) | skip
    rcases its with _ | ⟨i0, _ | ⟨i1, its⟩⟩ <;> first | (cases hi; done) | skip
    exact ⟨_, rfl, rfl⟩)
  obtain ⟨dsAWorkshopbegin, vAWorkshopbegin, bAWorkshopbegin⟩ := FWorkshopbegin.binds1 (ps := ["self", "name", "arguments"]) 3 1 (by simp [dInD, He.DefD.dvs]) rfl (fun _ _ _ _ _ _ _ us its hl hi => by
    rcases us with _ | ⟨u0, _ | ⟨u1, _ | ⟨u2, _ | ⟨u3, us⟩⟩⟩⟩ <;> first | (cases hl; done) | skip
    rcases its with _ | ⟨i0, _ | ⟨i1, its⟩⟩ <;> first | (cases hi; done) | skip
    exact ⟨_, rfl, rfl⟩)
  cases vAWorkshopbegin
  have emWorkshopbegin := emB_ok p16
  obtain ⟨eWorkshopchanged, FWorkshopchanged⟩ := c.def_ 58 (d := dIn "Workshop" "changed" "Workshop.changed" 33 6) rfl
  have bWorkshopchanged : Binds K eWorkshopchanged ["self", "name", "recipe"] [] := FunD.bindsN FWorkshopchanged (fun _ _ _ _ _ _ us hl => match us, hl with | [_, _, _], _ => rfl)
  obtain ⟨itsK, kbRun⟩ := FRun__call__.kbindsD (ps := ["self", "answers"]) 1 ["answers"] (fun us its ws => us ++ ws) (by simp [dInD, He.DefD.dvs]) (fun a _ b => a.append b) (fun _ _ _ _ _ _ _ us its ws hl hi hw => by
    rcases us with _ | ⟨u0, _ | ⟨u1, us⟩⟩ <;> first | (cases hl; done) | skip
    rcases its with _ | ⟨i0, _ | ⟨i1, its⟩⟩ <;> first | (cases hi; done) | skip
    rcases ws with _ | ⟨w0, _ | ⟨w1, ws⟩⟩ <;> first | (cases hw; done) | skip
    exact ⟨_, rfl, rfl⟩)
  have pInt : ∀ n : Nat, Has P w K mg base 1 "is_integer" ["value"] (spIs K n KS.isIn) := fun n => ⟨_, d0, g0, F0.kp, b0, KS.okInt (k := 0) F0 B⟩
  have pText : ∀ n : Nat, Has P w K mg base 1 "is_text" ["value"] (spIs K n isTx) := fun n => ⟨_, d1, g1, F1.kp, b1, KS.okText (k := 0) F1 B gT⟩
  have pName : ∀ n : Nat, Has P w K mg base 2 "is_name" ["value"] (spIs K n isNm) := fun n => ⟨_, d2, g2, F2.kp, b2, (KS.okName (k := 0) F2 B gN).mono (by decide)⟩
  have pKey : ∀ n : Nat, Has P w K mg base 3 "is_key" ["value"] (spIs K n isKy) := fun n => ⟨_, d3, g3, F3.kp, b3, KS.okKey (k := 0) F3 B (pName n)⟩
  have pKeys : ∀ n : Nat, Has P w K mg base 4 "are_keys" ["value"] (spIs K n areKy) := fun n => ⟨_, d4, g4, F4.kp, b4, KS.okKeys (k := 0) F4 B gK (pKey n)⟩
  have pAns : ∀ n : Nat, Has P w K mg base 2 "are_answers" ["value"] (spIs K n areAn) := fun n => ⟨_, d5, g5, F5.kp, b5, KS.okAns (k := 0) F5 B gK (pText n)⟩
  have pPair : ∀ n : Nat, Has P w K mg base 2 "_is_pair_of_integers" ["value"] (spIs K n isPr) := fun n => ⟨_, d14, g14, F14.kp, b14, KS.okPair (k := 0) F14 B pInt⟩
  have pParts : ∀ n : Nat, Has P w K mg base 3 "_are_parts" ["value"] (spIs K n arePt) := fun n => ⟨_, d13, g13, F13.kp, b13, KS.okParts (k := 0) F13 B (fun n => hasMono (pText n) (by decide)) pPair⟩
  have pCase : ∀ n : Nat, Has P w K mg base 3 "_is_case" ["value", "many"] (spIs2 K n isCs) := fun n => ⟨_, d16, g16, F16.kp, b16, KS.okCase (k := 0) F16 B pAns⟩
  have pCases : ∀ n : Nat, Has P w K mg base 4 "_are_cases" ["value", "many"] (spIs2 K n areCs) := fun n => ⟨_, d15, g15, F15.kp, b15, KS.okCases (k := 0) F15 B pCase⟩
  have pNode : ∀ n : Nat, Has P w K mg base 5 "_is_node" ["value", "written"] (spNode K n) := fun n => ⟨_, d12, g12, F12.kp, b12, KS.okNode (k := 0) F12 B (glo "STOP" (by decide +kernel)) (fun H => He.tupB_ok p1 H) (fun n => hasMono (pName n) (by decide)) (fun n => hasMono (pParts n) (by decide)) pKeys pCases⟩
  have pInner : ∀ n : Nat, Has P w K mg base 1 "_inner_nodes" ["node"] (spInner K n) := fun n => ⟨_, d11, g11, F11.kp, b11, okInner (k := 0) F11⟩
  have pCheck : Has P w K mg base 6 "_check_tree" ["top"] (spCheck0 K 50) := ⟨_, d10, g10, F10.kp, b10, okCheck0 (k := 0) (by decide) F10 B (fre _ (by decide +kernel)) pNode (fun n => hasMono (pInner n) (by decide))⟩
  have pPiece : Has P w K mg base 1 "_piece" ["part", "rows"] (spPiece K) := ⟨_, d9, g9, F9.kp, b9, okPiece (k := 0) F9 B⟩
  have pStep : Has P w K mg base 2 "_step_of" ["node", "rows"] (spStepOf K) := ⟨_, d8, g8, F8.kp, b8, okStepOf (k := 0) F8 B gT (glo "STOP" (by decide +kernel)) (fun H => He.tupB_ok p1 H) pPiece⟩
  have pAW : Has P w K mg base 1 "after_write" ["place"] (spAW K) := ⟨_, d6, g6, F6.kp, b6, okAW (k := 0) F6⟩
  have pAR : Has P w K mg base 1 "after_read" ["place", "answers"] (spAR K) := ⟨_, d7, g7, F7.kp, b7, okAR (k := 0) F7⟩
  have C0 : Cl0 K mg "Halted" (ga K "Halted") := ⟨xcB_ok kdVe p7, glo _ (by decide +kernel), p8⟩
  have hS : ∀ H, SqT K H (ga K "STOP") [.str "stop"] := fun H => He.tupB_ok p1 H
  have oSA := okStepAt (P := P) (w := w) (mg := mg) (base := base) (k := 0) FTreeRecipestep_at B clTreeRecipe naTreeRecipe_node pStep
  have oST := okStopAt (P := P) (w := w) (mg := mg) (base := base) (k := 0) FRecipestep_at (glo "STOP" (by decide +kernel))
  have bare : OW.Bare K (ga K "Recipe") := ⟨p3, p4, p5, p6⟩
  have W0 : CoC P w K mg base 3 (ga K "TreeRecipe") (ga K "Recipe") (ga K "Course") (ga K "STOP") := ⟨clTreeRecipe, clRecipe, clCourse, naCourse_recipe, naCourse_arguments, naCourse_answers, naCourse_count, naCourse_step, hS,
    ⟨_, _, meTreeRecipestep_at, bTreeRecipestep_at, oSA⟩, ⟨_, _, meRecipestep_at, bRecipestep_at, oST.mono (by decide)⟩⟩
  have Sd : ∃ (f : Addr) (fd : FuncData), Meth K (ga K "Course") "_stand_at" f ∧ Binds K fd ["self", "answers", "count"] [] ∧ FnOk P w K mg base CX0 4 f fd ["self", "answers", "count"] (spStand K (ga K "TreeRecipe") (ga K "Recipe") (ga K "Course")) := ⟨_, _, meCourse_stand_at, bCourse_stand_at, okStand W0 (by decide) FCourse_stand_at⟩
  have oCI := okCoInit W0 Sd FCourse__init__
  have gC : mg "Course" = some (.ref (ga K "Course")) := glo _ (by decide +kernel)
  have oBg := okBegun W0 gC mkCourse bCourse__init__ oCI FRecipebegun
  have oCc := okCoCall W0 B C0 Sd FCourse__call__
  have oCp := okCoCopied W0 gC mkCourse bCourse__init__ oCI Sd FCoursecopied
  have callC : StX.CallO K (ga K "Course") (ma K (ga K "Course") "__call__") := ⟨meCourse__call__.at_, meCourse__call__.fn, p11⟩
  have callN : StX.CallO K (ga K "Run") (ma K (ga K "Run") "__call__") := ⟨meRun__call__.at_, meRun__call__.fn, p12⟩
  have W1 : RnC P w K mg base 7 (ga K "TreeRecipe") (ga K "Recipe") (ga K "Course") (ga K "Run") (ga K "Halted") := ⟨clTreeRecipe, clRecipe, clCourse, clRun, naRun_recipe, naRun_place, naRun_course, naRun_step, naRun_trail,
    ⟨_, _, p2 ▸ meTreeRecipebegun, meRecipebegun, bRecipebegun, oBg⟩, ⟨_, _, _, prCoursestep, bP0, okCoStep (k := 0) W0 FP0⟩, ⟨_, _, callC, bACourse__call__, oCc.mono (by decide)⟩, ⟨_, _, meCoursecopied, bCoursecopied, oCp⟩⟩
  have oRI := okRnInit W1 (by decide) FRun__init__
  have oRC := okRnCall W1 (by decide) (hasMono pAW (by decide)) (hasMono pAR (by decide)) FRun__call__
  have gRn : mg "Run" = some (.ref (ga K "Run")) := glo _ (by decide +kernel)
  have gRc : mg "Recipe" = some (.ref (ga K "Recipe")) := glo _ (by decide +kernel)
  have oRN := okRnNew W1 gRn gRc bare mkRun emRun__init__ bDRun__init__ vDRun__init__ oRI FRun_new_run
  have oRP := okRnCopied W1 B ⟨_, _, meRun_new_run, bRun_new_run, oRN⟩ FRuncopied
  have oPl := okRnPlace (k := 0) W1 FP1
  have oSp := okRnStep (k := 0) W1 FP2
  have oTr := okRnTrail (k := 0) W1 B FP3
  have W2 : WsC P w K mg base 8 (ga K "TreeRecipe") (ga K "Recipe") (ga K "Course") (ga K "Run") (ga K "Workshop") (ga K "STOP") := ⟨clTreeRecipe, clRecipe, clWorkshop, naWorkshop_recipes, gRc, gRn, glo _ (by decide +kernel), bare, hS,
    ⟨_, _, meTreeRecipestep_at, bTreeRecipestep_at, oSA.mono (by decide)⟩, ⟨_, _, meRecipestep_at, bRecipestep_at, oST.mono (by decide)⟩, ⟨_, _, mkRun, bARun__init__, oRI⟩⟩
  have Ro : ∃ (f : Addr) (fd : FuncData), Meth K (ga K "Workshop") "_recipe_of" f ∧ Binds K fd ["self", "name"] [] ∧ FnOk P w K mg base CX0 1 f fd ["self", "name"] (spWRecipe K (ga K "TreeRecipe") (ga K "Recipe") (ga K "Workshop")) := ⟨_, _, meWorkshop_recipe_of, bWorkshop_recipe_of, okWRecipe (k := 0) W2 FWorkshop_recipe_of⟩
  have oWI := okWInit (P := P) (w := w) (mg := mg) (base := base) (k := 0) clWorkshop naWorkshop_recipes (fre "dict" (by decide +kernel)) FWorkshop__init__
  have oIni := (okInit0 (P := P) (w := w) (mg := mg) (base := base) (k := 5) FTreeRecipe__init__ clTreeRecipe naTreeRecipe_node pCheck)
  have WS : ShC P w K mg base 62 (ga K "TreeRecipe") (ga K "Recipe") (ga K "Course") (ga K "Run") (ga K "Workshop") := ⟨clWorkshop, clRun, gRn, glo _ (by decide +kernel), glo _ (by decide +kernel),
    ⟨_, _, meWorkshopstep_at, bWorkshopstep_at, (okWStep W2 (by decide) Ro FWorkshopstep_at).mono (by decide)⟩,
    ⟨_, _, _, _, meWorkshopbegin, emWorkshopbegin, bDWorkshopbegin, vDWorkshopbegin, bAWorkshopbegin, (okWBegin W2 Ro FWorkshopbegin).mono (by decide)⟩,
    ⟨_, _, meWorkshopchanged, bWorkshopchanged, (okWChanged (k := 0) W2 ⟨_, _, mkWorkshop, bWorkshop__init__, oWI⟩ FWorkshopchanged).mono (by decide)⟩,
    ⟨_, _, meWorkshop__contains__.at_, meWorkshop__contains__.fn, bWorkshop__contains__, okWHas (k := 0) clWorkshop naWorkshop_recipes FWorkshop__contains__⟩,
    ⟨_, _, meWorkshop__len__.at_, meWorkshop__len__.fn, bWorkshop__len__, okWLen (k := 0) B clWorkshop naWorkshop_recipes FWorkshop__len__⟩,
    ⟨_, _, _, prRunplace, bP1, oPl⟩, ⟨_, _, _, prRunstep, bP2, oSp⟩,
    ⟨_, _, _, _, mkRun, emRun__init__, bDRun__init__, vDRun__init__, bARun__init__, oRI.mono (by decide)⟩,
    ⟨_, _, mkTreeRecipe, bTreeRecipe__init__, oIni.mono (by decide)⟩, ⟨_, _, mkWorkshop, bWorkshop__init__, oWI.mono (by decide)⟩⟩
  have WL : RnL P w K mg base 62 (ga K "TreeRecipe") (ga K "Recipe") (ga K "Course") (ga K "Run") (ga K "Halted") := ⟨clRun,
    ⟨_, _, _, _, callN, emRun__call__, bDRun__call__, vDRun__call__, bARun__call__, kbRun, oRC.mono (by decide)⟩,
    ⟨_, _, _, prRunplace, bP1, oPl⟩, ⟨_, _, _, prRunstep, bP2, oSp⟩, ⟨_, _, _, prRuntrail, bP3, oTr⟩, ⟨_, _, meRuncopied, bRuncopied, oRP.mono (by decide)⟩⟩
  have aFeed : Has P w K mg base 1 "_law_feed_of" ["_law_script", "_law_k"] (spFeed K) := ⟨_, d17, g17, F17.kp, b17, okFeed (k := 0) F17 B.len⟩
  have aDraw : Has P w K mg base 1 "_law_draw" ["_law_feed", "_law_many"] (spDraw) := ⟨_, d18, g18, F18.kp, b18, okDraw (k := 0) F18⟩
  have aMixK : Has P w K mg base 2 "_law_mixed" ["_law_feed", "_law_items"] (spMixG K kyD) := ⟨_, d19, g19, F19.kp, b19, okMixG (k := 0) kyD plKey F19 B aDraw⟩
  have aPick : Has P w K mg base 2 "_law_pick" ["_law_feed", "_law_items"] (spPick K) := ⟨_, d20, g20, F20.kp, b20, KS.La.okPick (k := 0) F20 B.len aDraw⟩
  have aOuts : Has P w K mg base 1 "_law_outs" [] (spOutsT) := ⟨_, d21, g21, F21.kp, b21, okOutsT (k := 0) F21⟩
  have aCalls : Has P w K mg base 1 "_law_calls" [] (spCalls) := ⟨_, d22, g22, F22.kp, b22, okCalls (k := 0) F22⟩
  have aText : Has P w K mg base 3 "_law_some_text" ["_law_feed"] (spText) := ⟨_, d24, g24, F24.kp, b24, okTxt (k := 0) F24 aDraw aPick aCalls⟩
  have aAns : Has P w K mg base 4 "_law_some_answer" ["_law_feed"] (spAns) := ⟨_, d25, g25, F25.kp, b25, KS.La.okAns (k := 0) F25 aDraw aText⟩
  have aParts : Has P w K mg base 4 "_law_some_parts" ["_law_feed"] (spParts K) := ⟨_, d26, g26, F26.kp, b26, okSomeParts (k := 0) F26 B aDraw aText⟩
  have aTree : Has P w K mg base 11 "_law_some_tree" ["_law_feed", "_law_keys", "_law_outs_here", "_law_deep"] (spTree K 6) := ⟨_, d27, g27, F27.kp, b27, okTree (k := 0) F27 g27 b27 B aDraw aPick aMixK aParts aAns 6 (by decide)⟩
  have aKeys : Has P w K mg base 2 "_law_some_keys" ["_law_feed", "_law_names"] (spKeys) := ⟨_, d28, g28, F28.kp, b28, okSomeKeys (k := 0) F28 B aDraw aOuts⟩
  have aNames : Has P w K mg base 2 "_law_some_names" ["_law_feed", "_law_many"] (spNames) := ⟨_, d23, g23, F23.kp, b23, okNames (k := 0) F23 B aDraw⟩
  have aOutp : Has P w K mg base 4 "_law_some_outputs" ["_law_feed"] (spOutputs) := ⟨_, d29, g29, F29.kp, b29, okOutputs (k := 0) F29 (fre _ (by decide +kernel)) aDraw aText aOuts⟩
  have aMade : Has P w K mg base 12 "_law_drawn_made" ["_law_feed", "_law_near", "_law_recipes"] (spMade K) := ⟨_, d30, g30, F30.kp, b30, okMade (k := 0) F30 B aDraw aPick aCalls aKeys aOuts aText aTree⟩
  obtain ⟨dsW, vW, bW⟩ := F31.binds1 (ps := ["_law_feed", "_law_many", "_law_has_knots"]) 2 0 (by simp [dOf1, He.DefD.dvs]) rfl (fun _ _ _ _ _ _ _ us its hl hi => by
    rcases us with _ | ⟨u1, _ | ⟨u2, _ | ⟨u3, us⟩⟩⟩ <;> first | (cases hl) | skip
    rcases its with _ | ⟨i1, _ | ⟨i2, its⟩⟩ <;> first | (cases hi) | skip
    exact ⟨_, rfl, rfl⟩)
  have aWorld := okWorld (P := P) (w := w) (mg := mg) (base := base) (k := 0) F31 B (fre _ (by decide +kernel)) aDraw aNames aOutp aMade
  have aSame : Has P w K mg base 62 "_law_same" ["_law_found", "_law_due"] (spSame K 61) := ⟨_, d34, g34, F34.kp, b34, okSame F34 g34 B 61 0⟩
  have aPart : Has P w K mg base 1 "_law_part_text" ["_law_part", "_law_rows"] (spPieceL K) := ⟨_, d32, g32, F32.kp, b32, okPartText (k := 0) F32 B⟩
  have aStep : Has P w K mg base 2 "_law_step_at" ["_law_recipes", "_law_place"] (spLStep K) := ⟨_, d33, g33, F33.kp, b33, okLStep (k := 0) F33 B aPart⟩
  have aHalts : Has P w K mg base 63 "_law_halts" ["_law_run"] (spHalts K (ga K "TreeRecipe") (ga K "Recipe") (ga K "Course") (ga K "Run")) := ⟨_, d35, g35, F35.kp, b35, okHalts WL B C0 (fre _ (by decide +kernel)) p9 p10 F35⟩
  have aGoes : Has P w K mg base 63 "_law_goes" ["_law_feed", "_law_recipes", "_law_run", "_law_place"] (spGoes K (ga K "TreeRecipe") (ga K "Recipe") (ga K "Course") (ga K "Run")) := ⟨_, d36, g36, F36.kp, b36, okGoes WL B (by decide) (hasMono aStep (by decide)) (hasMono aDraw (by decide)) (hasMono aAns (by decide)) F36⟩
  have aStands : Has P w K mg base 63 "_law_stands" ["_law_recipes", "_law_run", "_law_place", "_law_trail"] (spStands K (ga K "TreeRecipe") (ga K "Recipe") (ga K "Course") (ga K "Run")) := ⟨_, d37, g37, F37.kp, b37, okStands WL B (by decide) (hasMono aStep (by decide)) aSame F37⟩
  have aShops : Has P w K mg base 64 "_law_shops_right" ["_law_shop", "_law_other", "_law_recipes", "_law_kept", "_law_call"] (spShops K (ga K "TreeRecipe") (ga K "Workshop")) := ⟨_, d38, g38, F38.kp, b38, okShops WS B (by decide) (hasMono aStep (by decide)) aSame F38⟩
  exact (okLaw (m := 62) (by decide) F B (fre _ (by decide +kernel)) (fre _ (by decide +kernel)) WS WL (hasMono aFeed (by decide)) (hasMono aDraw (by decide)) (hasMono aPick (by decide)) (hasMono aText (by decide)) ⟨_, d31, dsW, g31, F31.kp, vW, bW, aWorld.mono (by decide)⟩ (hasMono aStep (by decide)) aHalts aGoes aStands aShops).mono (by decide)
end
end CO.HD

set_option Elab.async false
set_option linter.all false
set_option maxRecDepth 100000
set_option maxHeartbeats 0
open PySem PySem.W PySem.Calls PyProof.Rows
theorem PySem.Challenge.cw_farenough_k06_runs_half_done_holds : PySem.Challenge.rw_farenough_k06_runs_half_done.Holds := by
  w_on; o_law
  refine HandSHeadRun.head_any (r := OpenLaw.row PySem.Challenge.rw_farenough_k06_runs_half_done) (q := view (OpenLaw.row PySem.Challenge.rw_farenough_k06_runs_half_done).prog [57]) (H := CO.HD.hk) (ob := CO.HD.ob) (M := 20000) (loose := CO.HD.loose)
    (d := HandSHeadRun.topDef (OpenLaw.row PySem.Challenge.rw_farenough_k06_runs_half_done).prog 57) (kwd := []) CO.HD.ob_eq
    (by kernel_rfl) (fun s => by kernel_rfl) CO.HD.run (by kernel_rfl) (by kernel_rfl) (by kernel_rfl) (by rfl) (by first | assumption | decide +kernel) (by decide +kernel) ⟨rfl, rfl, rfl, rfl, rfl, by decide +kernel⟩ ?hw ?hc
  case hw => w_witness2
  case hc =>
    refine L2.walk_ofE (l := PySem.Challenge.rw_farenough_k06_runs_half_done) (n := 63) (k := 66) (x := "_law_script") (CX := L2.CX0) rfl (by decide) (by kernel_rfl) ⟨rfl, by decide, by decide⟩ ?F (fun _ _ _ _ z => z)
    intro w mg fa h Y G hmg0
    obtain ⟨K, KX, y⟩ := Y
    have hmg : mg ("law" : PySem.Str) = some (.ref fa) := by
      have e : (HandSHeadRun.topDef (OpenLaw.row PySem.Challenge.rw_farenough_k06_runs_half_done).prog 57).name = ("law" : PySem.Str) := by kernel_rfl
      rw [← e]
      exact hmg0
    obtain ⟨fd, hb, hF⟩ := CO.HD.facts (P := (PySem.Challenge.rw_farenough_k06_runs_half_done).prog) (w := w) KX G hmg y
    exact ⟨K, fd, CO.spLaw K, KX, hb, fun H a ns hl _ hS => ⟨a, ns, rfl, hS, hl, fun _ => rfl⟩, hF⟩


import PyProof.Rows.All
import HandS.ForMost
import HandS.Style
import HandS.IsInst
import HandS.Zip
import HandS.TupAny
import HandS.Codes
import HandS.Words
import HandS.Defaults
import HandS.Strs
import PySem.Challenge.RW_farenough_k11_records_made
import Wide.All
import OpenK.AllK
import Wide.FinOn
import HandS.ForExc
import HandS.ExcInit
import HandS.ExcField
import HandS.ExcIs
import HandS.ExcValue
import PyProof.ExcBaseAll.IndexError
import PyProof.ExcBaseAll.LookupError
import KE.KExcInit
import KE.KExcIs
import HandS.MakeKw
import KE.KStateDown
import HandS.More
import HandS.Head0
import HandS.Head1
import HandS.Head2
import HandS.HeadEnd
import HandS.HeadHook2
import HandS.Base
import HandS.Call
import HandS.List
import HandS.Comp
import HandS.Dict
import HandS.DictComp
import KE.KDictKeyed
import KE.KDictWalk
import KE.KDictSum
import KE.SortData
import KE.SortKeyHeap
import KE.KSortKey
import HandS.SortKw
import HandS.ExcOwn
import PyProof.Rows.StrJoinRep
import KE.SortLaws
import HandS.Star
import HandS.Flow
import HandS.Text
import HandS.Iter
import HandS.TupLen
import PyProof.DictRoadsH
import KE.KDictPairs
import KE.KEqDict
import HandS.TryMany
import HandS.GenList
import HandS.Property
import HandS.OwnEq
import OpenK.KMeth
import OpenK.KOps
set_option Elab.async false
set_option linter.all false
set_option maxRecDepth 100000
set_option maxHeartbeats 4000000
namespace KS
open PySem PySem.Spec PyProof.Rows L2
def top (i : Nat) : Stmt := PySem.Challenge.pw_farenough_k11_records_made.main.body.getD i (.Pass ⟨0, 0, 0, 0⟩)
abbrev FnP (K : PySem.W.Frag) (x : Str) (st : Stmt) (f : Addr) (fd : FuncData) : Prop := FunD K x x (defArgs st) (defBody st) (defScope st) [] [] f fd

abbrev lFeed : Stmt := top 24
abbrev lDraw : Stmt := top 25
abbrev lPick : Stmt := top 27
abbrev lCalls : Stmt := top 29
abbrev lText : Stmt := top 31
abbrev lAnswer : Stmt := top 32
abbrev lSame : Stmt := top 42
abbrev lPartText : Stmt := top 39
abbrev lStepAt : Stmt := top 40
end KS

set_option Elab.async false
set_option linter.all false
set_option maxRecDepth 100000
set_option maxHeartbeats 4000000
namespace KX
open PySem PySem.Spec PyProof.Rows
abbrev veB : List Value := [.type "ValueError", .type "Exception", .type "BaseException", .type "object"]
abbrev keB : List Value := [.type "KeyError", .type "LookupError", .type "Exception", .type "BaseException", .type "object"]
abbrev ieB : List Value := [.type "IndexError", .type "LookupError", .type "Exception", .type "BaseException", .type "object"]
theorem storeKey : StoreFacts "KeyError" keB "object.__setattr__" "object" where
  mro := by kernel_rfl
  slot := .of (owner := "object") (n := "__setattr__")
    (by rw [typeLookup_type, builtinLookup_eq_fast]; kernel_rfl)
    (by decide +kernel)
    (by decide +kernel) (by decide +kernel)
    (by first
      | exact .inl (by decide +kernel)
      | exact .inr (by decide +kernel))
    (by rw [isSubtype_type]; kernel_rfl)
  entry := F.entry_object_sa
  kind := by decide +kernel
  split := by decide +kernel
  hasOwner := by decide +kernel
  args := fun a b c => by unfold argsOk; kernel_rfl
  passes := fun self => by kernel_rfl
/-- a chain of classes over a built-in error, made by newId -/
structure Kd (bmB : List Value) (newId : String) : Prop where
  made : ∃ B initId bmF, ExcBaseFacts B newId initId bmF ∧ bmB.contains (.type B) = true ∧ bmB.contains (.type "AttributeError") = false ∧ bmB.contains (.type "NameError") = false
  st : ∃ S, StoreFacts S bmB "object.__setattr__" "object"
theorem kdVe : Kd veB "ValueError.__new__" := ⟨⟨_, _, _, F.excBase_ValueError, by decide +kernel, by decide +kernel, by decide +kernel⟩, ⟨_, F.store_ValueError⟩⟩
theorem kdKe : Kd keB "LookupError.__new__" := ⟨⟨_, _, _, F.excBase_LookupError, by decide +kernel, by decide +kernel, by decide +kernel⟩, ⟨_, storeKey⟩⟩
theorem kdIe : Kd ieB "IndexError.__new__" := ⟨⟨_, _, _, F.excBase_IndexError, by decide +kernel, by decide +kernel, by decide +kernel⟩, ⟨_, F.store_IndexError⟩⟩
section
variable {prog : Program} {w : World} {A : Around} {E : Value → Shared → Prop} {R : Result → Shared → Prop} {h : Heap} {g : Array GenState} {d : Drawn} {t : Nat} {os : OsState}
variable {nm q : Str} {C N : Addr} {bs bm bmF : List Value} {hdct : Bool} {sn : List Str} {sub : List Value} {ab : Bool} {col : Option Bool} {dd : Option Addr} {k0 k1 k2 k3 k5 : Option Value} {B newId initId : String}
abbrev Stands (h : Heap) (nm q : Str) (C N : Addr) (bs bm : List Value) (hdct : Bool) (sn : List Str) (sub : List Value) (ab : Bool) (col : Option Bool) (dd : Option Addr) (k0 k1 k2 k3 k5 : Option Value) (newId : String) : Prop :=
  h.get? C = some (excClassObj nm q C N bs bm hdct sn sub ab col dd k0 k1 k2 k3 k5 newId)
theorem chkNew {M : Model} (F : ExcBaseFacts B newId initId bmF) (hB : bm.contains (.type B) = true) {rest : List Value} {kw : List (Str × Value)} {Q : Unit → Shared → Prop}
    (hC : Stands h nm q C N bs bm hdct sn sub ab col dd k0 k1 k2 k3 k5 newId) (hq : Q () ⟨h, g, d, t, os⟩) :
    wpAny M A (checkBuiltinCall newId ⟨.ref C :: rest, kw⟩) Q E ⟨h, g, d, t, os⟩ := by
  have hin : (Value.ref C :: bm).contains (.type B) = true := by
    rw [List.contains_cons, hB, Bool.or_true]
  have star := F.noStar
  simp only [checkBuiltinCall, F.newKind, F.newSplit, F.newRow]
  repeat (first
    | refine wpAny_loadPart_at hC ?_
    | (refine wpAny_isSubtype_exc hC ?_; rw [hin])
    | refine wpAny_staticBase_exc hC ?_
    | refine wpAny_madeBy_exc hC ?_
    | simp only [bne_self_eq_false, Bool.false_eq_true, if_false]
    | wp_step)
  exact hq
theorem newG (F : ExcBaseFacts B newId initId bmF) (hB : bm.contains (.type B) = true) (hA : bm.contains (.type "AttributeError") = false) (hN : bm.contains (.type "NameError") = false)
    {rest : List Value} {kw : List (Str × Value)} (hC : Stands h nm q C N bs bm hdct sn sub ab col dd k0 k1 k2 k3 k5 newId)
    (hq : R (.ok (.ret (.ref (h.objs.size + 1)))) ⟨(h.push (W.kdv_tup rest)).push (HandSPX.excO C h.objs.size), g, d, t, os⟩) (hrest : rest.length ≤ sizeLine) :
    codeAny (model prog w) A (.builtin newId ⟨.ref C :: rest, kw⟩) R ⟨h, g, d, t, os⟩ := by
  have ends := F.ends
  have i1 : (Value.ref C :: bm).contains (.type B) = true := by
    rw [List.contains_cons, hB, Bool.or_true]
  have i2 : (Value.ref C :: bm).contains (.type "AttributeError") = false := by
    rw [List.contains_cons, hA]; rfl
  have i3 : (Value.ref C :: bm).contains (.type "NameError") = false := by
    rw [List.contains_cons, hN]; rfl
  refine codeAny_builtinAt F.entry ?_
  unfold Builtin.«BaseException.__new__»
  refine PySem.wpAt_bind ?_
  show PySem.wpAt _ _ _ (PySem.stack >>= _) _ _ _
  refine PySem.wpAt_bind (PySem.wpAt_stack fun p below => PySem.wpAt_of_wpAny ?_)
  wp_walk
  refine PySem.wpAt_of_wpAny ?_
  rw [F.owner]
  repeat (first
    | with_reducible refine wpAny_madeHere_exc F.canon hC ?_
    | with_reducible refine wpAny_loadPart_at hC ?_
    | (with_reducible refine wpAny_isSubtype_exc hC ?_
       first | rw [i1] | rw [i2] | rw [i3])
    | wp_step)
  show R _ _
  rw [Heap.size_push]
  exact hq
theorem tcallG (F : ExcBaseFacts B newId initId bmF) (hB : bm.contains (.type B) = true) (hA : bm.contains (.type "AttributeError") = false) (hN : bm.contains (.type "NameError") = false)
    {rest : List Value} {kw : List (Str × Value)} {fI : Addr} {Q : Fin → Shared → Prop} (hC : Stands h nm q C N bs bm hdct sn sub ab col dd k0 k1 k2 k3 k5 newId)
    (hi : W.Looks (model prog w) h (typeLookup (.ref C) "__init__") (some (.ref fI))) (hb : ∀ self, W.Looks (model prog w) h (bindSpecial (.ref fI) self) (.ref fI, [self])) (hrest : rest.length ≤ sizeLine)
    (hq : codeAny (model prog w) A (.call (.ref fI) ⟨.ref (h.objs.size + 1) :: rest, kw⟩)
      (fun r s' => match r with
        | .ok (.ret v) => v = .none ∧ Q (.done (.ret (.ref (h.objs.size + 1)))) s'
        | .ok _ => False
        | .error e => E e s')
      ⟨(h.push (W.kdv_tup rest)).push (HandSPX.excO C h.objs.size), g, d, t, os⟩) :
    wpAny (model prog w) A (Builtin.«type.__call__» ⟨.ref C :: rest, kw⟩) Q E ⟨h, g, d, t, os⟩ := by
  repeat (first
    | with_reducible refine wpAny_loadPart_at hC ?_
    | with_reducible refine wpAny_madeBy_exc hC ?_
    | wp_step)
  refine codeAny_call_builtin_code (Code.quiet_builtin _ F.quiet) (chkNew F hB hC ?_)
  refine newG F hB hA hN hC ?_ hrest
  show wpAny _ _ _ _ _ _
  have k : ∀ b o, h.get? b = some o → ((h.push (W.kdv_tup rest)).push (HandSPX.excO C h.objs.size)).get? b = some o := fun b o e =>
    Heap.get?_push_of_some _ (Heap.get?_push_of_some _ e)
  have hC1 := k _ _ hC
  have there : ((h.push (W.kdv_tup rest)).push (HandSPX.excO C h.objs.size)).get? (h.objs.size + 1) = some (HandSPX.excO C h.objs.size) := by
    heap_get
  have self : (Value.ref C :: bm).contains (.ref C) = true := by simp
  have j1 := hi.keeps k
  have j2 := (hb (.ref (h.objs.size + 1))).keeps k
  unfold isInstance
  repeat (first
    | with_reducible refine wpAny_loadPart_at there ?_
    | (with_reducible refine wpAny_isSubtype_exc hC1 ?_
       rw [self])
    | wp_step)
  show wpAny _ _ (typeLookup (.ref C) _) _ _ _
  refine j1.at ?_
  refine wpAny_holding (wpAny_bind (j2.at ?_))
  refine wpAny_bind (wpAny_call (codeAny_mono hq fun r s' z => ?_))
  rcases r with e | (v | _ | _ | _) <;> first | exact z | exact z.elim | skip
  obtain ⟨rfl, z⟩ := z
  first
    | exact wpAny_pure (wpAny_pure z)
    | (wp_walk; exact z)
theorem callG (F : ExcBaseFacts B newId initId bmF) (hB : bm.contains (.type B) = true) (hA : bm.contains (.type "AttributeError") = false) (hN : bm.contains (.type "NameError") = false)
    {rest : List Value} {kw : List (Str × Value)} {fI : Addr} (hC : Stands h nm q C N bs bm hdct sn sub ab col dd k0 k1 k2 k3 k5 newId)
    (hi : W.Looks (model prog w) h (typeLookup (.ref C) "__init__") (some (.ref fI))) (hb : ∀ self, W.Looks (model prog w) h (bindSpecial (.ref fI) self) (.ref fI, [self])) (hrest : rest.length ≤ sizeLine)
    (hq : codeAny (model prog w) (A.under (.builtin "type.__call__" ⟨.ref C :: rest, kw⟩)) (.call (.ref fI) ⟨.ref (h.objs.size + 1) :: rest, kw⟩) (W.InitBack (h.objs.size + 1) R)
      ⟨(h.push (W.kdv_tup rest)).push (HandSPX.excO C h.objs.size), g, d, t, os⟩) :
    codeAny (model prog w) A (.call (.ref C) ⟨rest, kw⟩) R ⟨h, g, d, t, os⟩ := by
  have f1 := tc_lookup
  have f2 := tc_bind (.ref C)
  have isT : (⟨h, g, d, t, os⟩ : Shared).TypeIs (.ref C) "type" := ⟨_, hC, rfl⟩
  refine codeAny_of_tree ?_
  show wpAny _ _ (callAny (.ref C) _) _ _ _
  repeat (any_goals (first
    | assumption
    | with_reducible refine wpAny_loadPart_at hC ?_
    | wp_step))
  refine ⟨rfl, ?_⟩
  refine codeAny_call_builtin_at (Code.quiet_builtin _ (by decide +kernel)) entry_typeCall (wpAny_check_type_call_sub hC (tcallG F hB hA hN hC hi hb hrest ?_))
  refine codeAny_mono hq fun r s' z => ?_
  rcases r with e | (v | _ | _ | _) <;> exact z
end
end KX

set_option Elab.async false
set_option linter.all false
set_option maxRecDepth 100000
set_option maxHeartbeats 4000000
namespace KX
open PySem PySem.Spec PyProof.Rows L2
open Builtin.ObjectAttr (storeInOwnDict ownDictForStores)
open PySem.W (Frag findIn subIn typeIn keepIn hasDictIn mroIn specialIn takesIn excInitIn excOver clsIn takerIn)
/-! ### a class of errors, as the written part has it -/
structure XC (K : Frag) (C : Addr) : Prop where
  kd : ∃ bmB newId, Kd bmB newId ∧ excInitIn K C bmB newId = true ∧ excOver K C bmB = true
  sa : findIn K (.ref C) "__setattr__" = some (some (.builtin "object.__setattr__"))
  ga : findIn K (.ref C) "__getattribute__" = some (some (.builtin "BaseException.__getattribute__"))
  gg : findIn K (.ref C) "__getattr__" = some none
  ex : subIn K (.ref C) (.type "BaseException") = some true
  ty : typeIn K (.ref C) = some (.type "type")
  kp : keepIn K (.ref C) = true
  hd : hasDictIn K C = true
  cl : findIn K (.ref C) "__class__" = some (some (.builtin "object.__class__"))
  gt : specialIn K (.builtin "object.__class__") "__get__" = some (some (.builtin "getset_descriptor.__get__"))
  st : takesIn K (.builtin "object.__class__") = some true
  ob : mroIn K C (.type "object") = some true
def xcB (K : Frag) (C : Addr) (bmB : List Value) (newId : String) : Bool :=
  excInitIn K C bmB newId && (excOver K C bmB && (decide (findIn K (.ref C) "__setattr__" = some (some (.builtin "object.__setattr__")))
    && (decide (findIn K (.ref C) "__getattribute__" = some (some (.builtin "BaseException.__getattribute__"))) && (decide (findIn K (.ref C) "__getattr__" = some none)
    && (decide (subIn K (.ref C) (.type "BaseException") = some true) && (decide (typeIn K (.ref C) = some (.type "type")) && (keepIn K (.ref C) && (hasDictIn K C
    && (decide (findIn K (.ref C) "__class__" = some (some (.builtin "object.__class__"))) && (decide (specialIn K (.builtin "object.__class__") "__get__" = some (some (.builtin "getset_descriptor.__get__")))
    && (decide (takesIn K (.builtin "object.__class__") = some true) && decide (mroIn K C (.type "object") = some true))))))))))))
theorem xcB_ok {K : Frag} {C : Addr} {bmB : List Value} {newId : String} (k : Kd bmB newId) (h : xcB K C bmB newId = true) : XC K C := by
  unfold xcB at h
  simp only [Bool.and_eq_true, decide_eq_true_eq] at h
  obtain ⟨h1, h2, h3, h4, h5, h6, h7, h8, h9, h10, h11, h12, h13⟩ := h
  exact ⟨⟨_, _, k, h1, h2⟩, h3, h4, h5, h6, h7, h8, h9, h10, h11, h12, h13⟩
/-! ### self.name = v -/
section
variable {prog : Program} {w : World} {A : Around} {R : Result → Shared → Prop} {hp : Heap} {g : Array GenState} {d : Drawn} {t : Nat} {os : OsState}
theorem osaNew {K : Frag} {name : Str} {tk : Tok} {v : Value} {x C : Addr} {fv : Array Value} {S : String} {bmB : List Value} (SF : StoreFacts S bmB "object.__setattr__" "object")
    (X : K.In hp) (hx : hp.get? x = some { cls := .ref C, data := .fields fv }) (ov : excOver K C bmB = true) (hh : hasDictIn K C = true) (ha : findIn K (.ref C) name = some none)
    (hq : ∀ h' tk' dx, (∀ b o, b ≠ x → hp.get? b = some o → h'.get? b = some o) → hp.objs.size ≤ dx → dx ≠ x →
      h'.get? x = some { cls := .ref C, dict := some dx, data := .fields fv } → h'.Ns1 dx (fun y => if y = name then some v else none) → R (.ok (.ret .none)) ⟨h', g, d, tk', os⟩) :
    codeAny (model prog w) A (.call (.builtin "object.__setattr__") ⟨[.ref x, .str name tk, v], []⟩) R ⟨hp, g, d, t, os⟩ := by
  have hxs : x ≠ hp.objs.size := Nat.ne_of_lt (Heap.lt_size hx)
  have tkr : takerIn K C name = some none := by
    unfold PySem.W.takerIn
    rw [ha]
    rfl
  refine PySem.W.osa_openX (s := ⟨hp, g, d, t, os⟩) (od := none) SF X ⟨hx, rfl, rfl, trivial⟩ ov tkr fun b => ?_
  obtain ⟨cd, hcd, hdd⟩ := PySem.W.any_some hh
  have hcls : PySem.W.Looks (model prog w) hp (classData C) cd := PySem.W.looks_clsIn X hcd
  show wpAny _ _ (storeInOwnDict (.ref x) (.ref C) (.str name tk) name v b) _ _ _
  obtain ⟨nm, bs, mro, ns, qn, hd, sn, sb, ab, col, del⟩ := cd
  dsimp only at hdd
  subst hdd
  unfold storeInOwnDict ownDictForStores
  repeat (first
    | with_reducible refine HandSPX.store_in_new ?_ ?_
    | with_reducible refine wpAny_loadPart_at hx ?_
    | with_reducible refine hcls.at ?_
    | wp_step)
  · exact ⟨_, #[], _, (Heap.get?_update_ne _ _ _ _ hxs.symm).trans (Heap.get?_push_at rfl rfl), rfl, fun e he => absurd he (by simp), fun _ => rfl⟩
  · intro h' tk' hn' hs
    have hx1 : (hp.push { cls := .type "dict", data := .dict #[] }).get? x = some { cls := .ref C, data := .fields fv } := Heap.get?_push_of_some _ hx
    refine hq h' tk' hp.objs.size (fun b o hb ho => ?_) (Nat.le_refl _) hxs.symm ?_ hn'
    · refine (hs.2 b (Nat.ne_of_lt (Heap.lt_size ho))).trans ?_
      exact (Heap.get?_update_ne _ _ _ _ hb).trans (Heap.get?_push_of_some _ ho)
    · exact (hs.2 x hxs).trans (Heap.get?_update_self _ hx1 rfl)
theorem osaOld {K : Frag} {name : Str} {tk : Tok} {v : Value} {x C dx : Addr} {fv : Array Value} {m0 : Str → Option Value} {nl : List Str} {S : String} {bmB : List Value} (SF : StoreFacts S bmB "object.__setattr__" "object")
    (X : K.In hp) (hx : hp.get? x = some { cls := .ref C, dict := some dx, data := .fields fv }) (hns : hp.Ns1 dx m0) (hw : Within m0 nl) (hz : nl.length ≤ 1000)
    (ov : excOver K C bmB = true) (hh : hasDictIn K C = true) (ha : findIn K (.ref C) name = some none)
    (hq : ∀ h' tk', (∀ b o, b ≠ dx → hp.get? b = some o → h'.get? b = some o) → h'.Ns1 dx (fun y => if y = name then some v else m0 y) → R (.ok (.ret .none)) ⟨h', g, d, tk', os⟩) :
    codeAny (model prog w) A (.call (.builtin "object.__setattr__") ⟨[.ref x, .str name tk, v], []⟩) R ⟨hp, g, d, t, os⟩ := by
  obtain ⟨oD, esD, epD, hoD, hdD, _⟩ := hns.count hw
  have tkr : takerIn K C name = some none := by
    unfold PySem.W.takerIn
    rw [ha]
    rfl
  refine PySem.W.osa_openX (s := ⟨hp, g, d, t, os⟩) (od := some oD) SF X ⟨hx, rfl, rfl, hoD⟩ ov tkr fun b => ?_
  obtain ⟨cd, hcd, hdd⟩ := PySem.W.any_some hh
  have hcls : PySem.W.Looks (model prog w) hp (classData C) cd := PySem.W.looks_clsIn X hcd
  show wpAny _ _ (storeInOwnDict (.ref x) (.ref C) (.str name tk) name v b) _ _ _
  obtain ⟨nm, bs, mro, ns, qn, hd, sn, sb, ab, col, del⟩ := cd
  dsimp only at hdd
  subst hdd
  unfold storeInOwnDict ownDictForStores
  repeat (first
    | with_reducible refine OEX.store_in_old hns hw hz ?_
    | with_reducible refine wpAny_loadPart_at hx ?_
    | with_reducible refine hcls.at ?_
    | wp_step)
  intro h' tk' hn' hs
  exact hq h' tk' (fun b o hb ho => (hs.2 b hb).trans ho) hn'
end
end KX

set_option Elab.async false
set_option linter.all false
set_option maxRecDepth 100000
set_option maxHeartbeats 4000000
namespace KX
open PySem PySem.Spec PyProof.Rows L2
open PySem.W (Frag findIn subIn typeIn keepIn hasDictIn mroIn specialIn takesIn excInitIn excOver clsIn takerIn)
/-! ### stores, reads, isinstance, over the abstract heap -/
section
variable {X : Cx} {pins : List (Addr × Obj)} {σ : L2.St} {H : Hp} {s : Shared} {a C dx : Addr} {f : Str} {y : V} {u : Value} {fs : List (Str × V)} {E : Value → Shared → Prop} {A : Around}
theorem unTwo {hp h' : Heap} {dx : Addr} (e : H a = some (exo a C none)) (hnd : H dx = none) (dn : hp.objs.size ≤ dx) (k : ∀ b o, b ≠ a → hp.get? b = some o → h'.get? b = some o)
    (hx : ∃ o, h'.get? a = some o) : Un X.fs [] H (upd (upd H dx (exd dx fs)) a (exo a C (some dx))) hp h' := by
  have fresh : ∀ {b : Addr} {o : Obj}, hp.get? b = some o → b ≠ dx := fun q => Nat.ne_of_lt (Nat.lt_of_lt_of_le (Heap.lt_size q) dn)
  have off : ∀ {b : Addr}, H b = none → b ≠ a := fun n z => by
    rw [z, e] at n
    cases n
  constructor
  · exact fun b o q n _ _ => k b o (off n) q
  · exact fun b o q n _ _ => ⟨o.slots, k b o (off n) q⟩
  · intro b o q n _
    rw [upd_ne (off n), upd_ne (fresh q)]
    exact n
  · intro b o q _
    by_cases hb : b = a
    · rw [hb]
      exact hx
    · exact ⟨o, k b o hb q⟩
  · intro b xs q
    rw [upd_ne (at_ne e q exo_tup), upd_ne (ne_of_none q hnd)]
    exact q
  · intro b o v q
    rw [upd_ne (at_ne e q exo_frz), upd_ne (ne_of_none q hnd)]
    exact q
  · intro b ps q
    refine ⟨#[], ?_⟩
    rw [upd_ne (at_ne e q exo_tbl), upd_ne (ne_of_none q hnd), q]
    simp
theorem ostNew {Q : Unit → Shared → Prop} (T : XC X.K C) (I : Inv X pins σ H s) (e : H a = some (exo a C none)) (hno : findIn X.K (.ref C) f = some none) (ry : RelV y u)
    (h : ∀ dx s', H dx = none → dx ≠ a → Inv X pins σ (upd (upd H dx (exd dx [(f, y)])) a (exo a C (some dx))) s' → Q () s') :
    wpAny (model X.prog X.w) A (setAttr (.ref a) f u) Q E s := by
  obtain ⟨bmB, newId, ⟨_, S, SF⟩, _, ov⟩ := T.kd
  obtain ⟨t1, ho⟩ := exo_at I.hok e
  obtain ⟨hp, gs, dr, tk, os⟩ := s
  refine PySem.W.set_plain I.kIn (ox := HandSPX.excO C t1) (od := none) ⟨ho, rfl, rfl, trivial⟩ T.sa ?_
  refine osaNew SF I.kIn ho ov T.hd hno (fun h' tk' dx k dn dne hx hn => ?_)
  have hnd : H dx = none := I.hok.fresh dn
  refine h dx _ hnd dne (I.un (t' := tk') (unTwo e hnd dn k ⟨_, hx⟩) fun b o q => ?_)
  by_cases hb : b = a
  · subst hb
    rw [upd_same] at q
    cases q
    exact exo_ok hx
  · rw [upd_ne hb] at q
    by_cases hd : b = dx
    · subst hd
      rw [upd_same] at q
      cases q
      exact exd_ok hn (relO_put (fs := []) ry fun _ => True.intro)
    · rw [upd_ne hd] at q
      refine (I.hok b o q).stay (fun c v hc z => k c v ?_ z) (fun c hc => ?_) fun c xs hc => ?_
      · rcases hc with hc | hc
        · rw [hc]
          exact hb
        · exact at_ne e hc exo_own
      · rw [upd_ne (at_ne e hc exo_own), upd_ne (ne_of_none hc hnd)]
        exact hc
      · rw [upd_ne (at_ne e hc exo_tup), upd_ne (ne_of_none hc hnd)]
        exact hc
theorem ostOld {Q : Unit → Shared → Prop} (T : XC X.K C) (I : Inv X pins σ H s) (e : H a = some (exo a C (some dx))) (ed : H dx = some (exd dx fs)) (hl : fs.length ≤ 900) (hno : findIn X.K (.ref C) f = some none) (ry : RelV y u)
    (h : ∀ s', Inv X pins σ (upd H dx (exd dx ((f, y) :: fs))) s' → Q () s') :
    wpAny (model X.prog X.w) A (setAttr (.ref a) f u) Q E s := by
  obtain ⟨bmB, newId, ⟨_, S, SF⟩, _, ov⟩ := T.kd
  obtain ⟨t1, ho⟩ := exo_at I.hok e
  obtain ⟨mA, hns, rel⟩ := exd_at I.hok ed
  have hw := within_of rel
  obtain ⟨hp, gs, dr, tk, os⟩ := s
  obtain ⟨oD, _, _, hoD, _, _⟩ := hns.count hw
  refine PySem.W.set_plain I.kIn (ox := { HandSPX.excO C t1 with dict := some dx }) (od := some oD) ⟨ho, rfl, rfl, hoD⟩ T.sa ?_
  refine osaOld SF I.kIn ho hns hw (by rw [List.length_map]; omega) ov T.hd hno (fun h' tk' k hn => ?_)
  have there : ∃ o, h'.get? dx = some o := by
    obtain ⟨o, _, _, e', _⟩ := hn
    exact ⟨o, e'⟩
  refine h _ (I.write (t' := tk') (x := dx) (e := dx) (o := exd dx ((f, y) :: fs)) ?_ (.inl rfl) k there (exd_ok hn (relO_put ry rel)))
  rw [ed]
  exact True.intro
/-- at e: an error of the class at C whose dict holds fs | that has no dict -/
def ErD (H : Hp) (e C : Addr) (fs : List (Str × V)) : Prop := ∃ d, H e = some (exo e C (some d)) ∧ H d = some (exd d fs)
def Er0 (H : Hp) (e C : Addr) : Prop := H e = some (exo e C none)
def Er (H : Hp) (e C : Addr) : Prop := Er0 H e C ∨ ∃ fs, ErD H e C fs
theorem ErD.same {H H' : Hp} {e C : Addr} {fs : List (Str × V)} (k : Same H H') : ErD H e C fs → ErD H' e C fs := fun ⟨d, h1, h2⟩ => ⟨d, k _ _ h1, k _ _ h2⟩
theorem Er0.same {H H' : Hp} {e C : Addr} (k : Same H H') : Er0 H e C → Er0 H' e C := fun h => k _ _ h
theorem Er.same {H H' : Hp} {e C : Addr} (k : Same H H') : Er H e C → Er H' e C
  | .inl h => .inl (h.same k)
  | .inr ⟨fs, h⟩ => .inr ⟨fs, h.same k⟩
/-- an error as an instance -/
theorem Er.inst (I : Inv X pins σ H s) {e C : Addr} (h : Er H e C) : ∃ ox od, PySem.W.InstAt s.heap e ox C od := by
  rcases h with h | ⟨fs, d, h1, h2⟩
  · obtain ⟨t1, ho⟩ := exo_at I.hok h
    exact ⟨_, none, ho, rfl, rfl, trivial⟩
  · obtain ⟨t1, ho⟩ := exo_at I.hok h1
    obtain ⟨mA, hns, rel⟩ := exd_at I.hok h2
    obtain ⟨oD, _, _, hoD, _, _⟩ := hns.count (within_of rel)
    exact ⟨_, some oD, ho, rfl, rfl, hoD⟩
/-- isinstance(e, c), c one class -/
def rIsX (K : Frag) : List V → Hp → VK → Prop := fun xs H Q => ∃ (e C : Addr) (c : V) (cv : Value) (b : Bool), xs = [.ref e, c] ∧ Er H e C ∧ XC K C ∧ ClsV c cv ∧ PySem.W.kitOne K (.ref C) cv = some b ∧ Q (.bl b) H
theorem callIsX : CallR X (.builtin "isinstance") (rIsX X.K) := by
  intro pins s σ H xs us Q I r h
  obtain ⟨e, C, c, cv, b, rfl, he, T, hc, ans, q⟩ := h
  obtain ⟨u1, u2, rfl, r1, r2⟩ := vals2 r
  have e2 := hc.eq r2
  subst e2
  cases (show u1 = Value.ref e from r1)
  obtain ⟨ox, od, J⟩ := he.inst I
  have hcl : (clsIn X.K C).isSome = true := by
    obtain ⟨cd, hcd, _⟩ := PySem.W.any_some T.hd
    rw [hcd]
    rfl
  exact PySem.W.kia_one (PySem.W.kitx_exc hcl T.ga T.gg T.ex T.cl T.gt T.st T.ob) I.kIn J ans (fun z => nomatch z) fun tk => ⟨.bl b, H, I.tok tk, rfl, q⟩
/-- e.f, e an error that is held -/
def tXfld (K : Frag) (f : Str) (te : TE) : TE := fun σ H Q => te σ H fun x H1 => ∃ (e C : Addr) (fs : List (Str × V)) (v : V), x = .ref e ∧ ErD H1 e C fs ∧ XC K C ∧ findIn K (.ref C) f = some none ∧ fs.lookup f = some v ∧ Q v H1
theorem peXfld {o : Expr} {te : TE} {pos : Pos} (ho : PE X o te) (hb : attributeBase o f X.env (eval o X.env) = eval o X.env := by rfl) : PE X (.Attribute o f pos) (tXfld X.K f te) := by
  refine ⟨fun pins s σ H Q I h => ?_⟩
  refine attr_of hb (thn (ho.run pins s σ H _ I h) fun w s1 hh => ?_)
  obtain ⟨x, H1, I1, rx, e, C, fs, v, ex, ⟨d, h1, h2⟩, T, hno, l, q⟩ := hh
  subst ex
  cases (show w = Value.ref e from rx)
  obtain ⟨t1, he⟩ := exo_at I1.hok h1
  obtain ⟨mA, hns, rel⟩ := exd_at I1.hok h2
  obtain ⟨od, hod, hl⟩ := lookIn_ns hns
  obtain ⟨u, hu, ru⟩ := RelO.some_of (v := v) (o := mA f) (by rw [← l]; exact rel f)
  have J : PySem.W.InstAt s1.heap e { HandSPX.excO C t1 with dict := some d } C (some od) := ⟨he, rfl, rfl, hod⟩
  exact HandSPX.exc_get I1.kIn J T.ga T.gg T.ex (PySem.W.findObj_own T.hd hno rfl (by rw [hl, hu])) (handed_of ru) ⟨v, H1, I1.tok _, ru, q⟩
/-- self.f = e -/
def tOstX (K : Frag) (f : Str) (to te : TE) : TS := fun D σ H => te σ H fun y H1 => to σ H1 fun x H2 => ∃ a C : Addr, x = .ref a ∧ XC K C ∧ findIn K (.ref C) f = some none ∧
  ((H2 a = some (exo a C none) ∧ ∀ dx, H2 dx = none → dx ≠ a → D.nx σ (upd (upd H2 dx (exd dx [(f, y)])) a (exo a C (some dx)))) ∨
    ∃ (dx : Addr) (fs : List (Str × V)), H2 a = some (exo a C (some dx)) ∧ H2 dx = some (exd dx fs) ∧ fs.length ≤ 900 ∧ D.nx σ (upd H2 dx (exd dx ((f, y) :: fs))))
theorem psOstX {o e : Expr} {to te : TE} {p' pos : Pos} (ho : PE X o to) (he : PE X e te) (hs : swapsWith e (some (.Attribute o f p')) pos.line X.env = pure false := by rfl) : PS X (.Assign [.Attribute o f p'] e pos) (tOstX X.K f to te) := by
  refine ⟨fun pins s σ H D I h => ?_⟩
  refine plainObj_wpAny_Assign_Attribute (thn (he.run pins s σ H _ I h) fun v s1 ⟨y, H1, I1, r1, q1⟩ => ?_) hs
  refine thn (ho.run pins s1 σ H1 _ I1 q1) fun u s2 ⟨x, H2, I2, r2, a, C, ex, T, hno, q⟩ => ?_
  subst ex
  cases (show u = Value.ref a from r2)
  rcases q with ⟨ea, q⟩ | ⟨dx, fs, ea, ed, hl, q⟩
  · exact ostNew T I2 ea hno r1 fun dx s' n ne J => ⟨σ, _, J, q dx n ne⟩
  · exact ostOld T I2 ea ed hl hno r1 fun s' J => ⟨σ, _, J, q⟩
end
end KX

set_option Elab.async false
set_option linter.all false
set_option maxRecDepth 100000
set_option maxHeartbeats 4000000
namespace KX
open PySem PySem.Spec PyProof.Rows L2
open PySem.W (Frag findIn subIn typeIn keepIn hasDictIn mroIn specialIn takesIn excInitIn excOver clsIn takerIn)
/-! ### C(e, ..), an error with an __init__ of its own -/
section
variable {X : Cx} {CX : CXT} {k n : Nat} {fI C : Addr} {fd : FuncData} {ps ks : List Str} {sp : Sp} {g : List Value → List Value → List Value} {gV : List V → List V → List V}
variable {pins : List (Addr × Obj)} {σ : L2.St} {H : Hp} {s : Shared} {us ws : List Value} {vs zs : List V}
/-- the making, down to the __init__: R what is wanted of its end -/
theorem mkRun {R : Value → Shared → Prop} {Er' : Value → Shared → Prop} {E : XK} {Qi : Addr → VK} (T : XC X.K C) (iC : findIn X.K (.ref C) "__init__" = some (some (.ref fI))) (tI : typeIn X.K (.ref fI) = some (.type "function"))
    (F : FnOk X.prog X.w X.K X.mg X.base CX k fI fd ps sp) (hr : Room (k + 1) X.A) (hb : KBn X.K fd ps (n + 1) ks g gV) (I : Inv X pins σ H s) (r : Vals vs us) (rz : Vals zs ws)
    (l1 : vs.length = n) (l2 : zs.length = ks.length) (small : n ≤ 1000)
    (h : ∀ a, H a = none → s.heap.objs.size ≤ a → sp (gV (.ref a :: vs) zs) (upd H a (exo a C none)) (Qi a) E)
    (q : ∀ a t' h0 r' s', H a = none → s.heap.objs.size ≤ a → (∀ b o, s.heap.get? b = some o → h0.get? b = some o) → Inv X pins σ (upd H a (exo a C none)) { s with heap := h0, toks := t' } →
      CR CX X.stack X.prog X.w (upd H a (exo a C none)) { s with heap := h0, toks := t' } (Qi a) E r' s' →
      W.InitBack a (fun r s' => match r with | .ok (.ret v) => R v s' | .ok _ => False | .error e => Er' e s') r' s') :
    wpAny (model X.prog X.w) X.A (call (.ref C) us (ks.zip ws)) R Er' s := by
  obtain ⟨bmB, newId, ⟨⟨B, initId, bmF, F0, hB, hA, hN⟩, _⟩, qI, _⟩ := T.kd
  obtain ⟨nm, N, qn, bs, bm, hdct, sn, sub, ab, col, dd, k0, k1, k2, k3, k5, hC, hT⟩ := PySem.W.excInit_of I.kIn qI
  obtain ⟨hp, gs, dr, tk, os⟩ := s
  have hsz : hp.objs.size ≤ hp.objs.size + 1 := Nat.le_succ _
  have free : H (hp.objs.size + 1) = none := I.hok.fresh hsz
  have hq := h (hp.objs.size + 1) free hsz
  have kk : ∀ b o, hp.get? b = some o → ((hp.push (PySem.W.kdv_tup us)).push (HandSPX.excO C hp.objs.size)).get? b = some o := fun b o e =>
    Heap.get?_push_of_some _ (Heap.get?_push_of_some _ e)
  have there : ((hp.push (PySem.W.kdv_tup us)).push (HandSPX.excO C hp.objs.size)).get? (hp.objs.size + 1) = some (HandSPX.excO C hp.objs.size) := by
    heap_get
  have I2 : Inv X pins σ (upd H (hp.objs.size + 1) (exo (hp.objs.size + 1) C none)) ⟨(hp.push (PySem.W.kdv_tup us)).push (HandSPX.excO C hp.objs.size), gs, dr, tk, os⟩ :=
    I.laid (t' := tk) (a := hp.objs.size + 1) (o := exo (hp.objs.size + 1) C none) kk hsz (exo_ok there)
  have r1 : Vals (V.ref (hp.objs.size + 1) :: vs) (Value.ref (hp.objs.size + 1) :: us) := .cons rfl r
  have r2 := hb.rel r1 rz
  have e1 : (Value.ref (hp.objs.size + 1) :: us).length = n + 1 := r1.length.symm.trans (congrArg Nat.succ l1)
  have e2 : ws.length = ks.length := rz.length.symm.trans l2
  have lus : us.length ≤ sizeLine := by
    rw [← Paired.length r, sizeLine_eq]
    omega
  refine wpAny_call (callG F0 (by rw [hT]; exact hB) (by rw [hT]; exact hA) (by rw [hT]; exact hN) hC (PySem.W.looks_findIn I.kIn iC) (fun self => PySem.W.bind_fn I.kIn self tI) lus ?_)
  refine codeAny_mono (F.run _ X.stack _ _ ⟨Value.ref (hp.objs.size + 1) :: us, ks.zip ws⟩ (g (Value.ref (hp.objs.size + 1) :: us) ws) _ _ E (hr.make C us (ks.zip ws)) (I2.env0.make C us (ks.zip ws)) (hb.to _ _ ws I2.kIn e1 e2) r2 hq) fun r' s' z => ?_
  exact q _ tk _ r' s' free hsz kk I2 z
theorem runMkX {Q : VK} {E : XK} (T : XC X.K C) (iC : findIn X.K (.ref C) "__init__" = some (some (.ref fI))) (tI : typeIn X.K (.ref fI) = some (.type "function"))
    (F : FnOk X.prog X.w X.K X.mg X.base CX k fI fd ps sp) (hr : Room (k + 1) X.A) (hb : KBn X.K fd ps (n + 1) ks g gV) (hx : Passes CX X E) (I : Inv X pins σ H s) (r : Vals vs us) (rz : Vals zs ws)
    (l1 : vs.length = n) (l2 : zs.length = ks.length) (small : n ≤ 1000)
    (h : ∀ a, H a = none → sp (gV (.ref a :: vs) zs) (upd H a (exo a C none)) (fun v H2 => v = .non ∧ Q (.ref a) H2) E) :
    wpAny (model X.prog X.w) X.A (call (.ref C) us (ks.zip ws)) (EP X pins σ Q) X.xe s := by
  refine mkRun (Qi := fun a v H2 => v = .non ∧ Q (.ref a) H2) T iC tI F hr hb I r rz l1 l2 small (E := E) (fun a ha _ => h a ha) ?_
  intro a t' h0 r' s' _ _ _ I2 z
  cases r' with
  | error e => exact hx pins σ _ _ e s' I2 z
  | ok fl =>
    cases fl with
    | ret u =>
      obtain ⟨v, H', I3, rv, ev, q3⟩ := I2.after z
      subst ev
      exact ⟨rv, ⟨V.ref a, H', I3, rfl, q3⟩⟩
    | next => exact False.elim z
    | brk => exact False.elim z
    | cont => exact False.elim z
theorem runMkE {Q : XK} (T : XC X.K C) (iC : findIn X.K (.ref C) "__init__" = some (some (.ref fI))) (tI : typeIn X.K (.ref fI) = some (.type "function"))
    (F : FnOk X.prog X.w X.K X.mg X.base CX k fI fd ps sp) (hr : Room (k + 1) X.A) (hb : KBn X.K fd ps (n + 1) ks g gV) (hx : Passes CX X (fun _ _ _ => False)) (I : Inv X pins σ H s) (r : Vals vs us) (rz : Vals zs ws)
    (l1 : vs.length = n) (l2 : zs.length = ks.length) (small : n ≤ 1000)
    (h : ∀ a, H a = none → sp (gV (.ref a :: vs) zs) (upd H a (exo a C none)) (fun v H2 => v = .non ∧ ∃ (d : Addr) (fs : List (Str × V)), H2 a = some (exo a C (some d)) ∧ H2 d = some (exd d fs) ∧ H d = none ∧ Q (.ref C) (some d) (upd (del H2 a) d (.xd fs))) (fun _ _ _ => False)) :
    wpAny (model X.prog X.w) X.A (call (.ref C) us (ks.zip ws)) (MkP X pins σ Q) X.xe s := by
  refine mkRun (Qi := fun a v H2 => v = .non ∧ ∃ (d : Addr) (fs : List (Str × V)), H2 a = some (exo a C (some d)) ∧ H2 d = some (exd d fs) ∧ H d = none ∧ Q (.ref C) (some d) (upd (del H2 a) d (.xd fs)))
    T iC tI F hr hb I r rz l1 l2 small (fun a ha _ => h a ha) ?_
  intro a t' h0 r' s' _ ge kk I2 z
  cases r' with
  | error e => exact hx pins σ _ _ e s' I2 z
  | ok fl =>
    cases fl with
    | ret u =>
      obtain ⟨v, H2, os2, bare2, un2, hok2, rv, ev, d, fs, ea, ed, hd1, q2⟩ := z
      subst ev
      obtain ⟨hp, g1, d1, t1, o1⟩ := s
      obtain ⟨h2, g2, d2, t2, os'⟩ := s'
      exact ⟨rv, mk_end (raises_own T.ex T.ty) I ge kk un2 hok2 os2 bare2 ea ed hd1 q2⟩
    | next => exact False.elim z
    | brk => exact False.elim z
    | cont => exact False.elim z
end
end KX

set_option Elab.async false
set_option linter.all false
set_option maxRecDepth 100000
set_option maxHeartbeats 4000000
namespace KX
open PySem PySem.Spec PyProof.Rows L2
open PySem.W (Frag findIn subIn typeIn keepIn hasDictIn mroIn specialIn takesIn excInitIn excOver clsIn takerIn)
theorem sameUpd {H : Hp} {p : Addr} {o : HO} (h : H p = none) : Same H (upd H p o) := fun b x e => by
  rw [upd_ne (ne_of_none e h)]
  exact e
/-- __init__(self, f): self.f = f -/
def spIni (K : Frag) (f : Str) : Sp := fun vs H Q _ => ∃ (a C : Addr) (v : V), vs = [.ref a, v] ∧ XC K C ∧ findIn K (.ref C) f = some none ∧ H a = some (exo a C none) ∧
  ∀ dx, H dx = none → dx ≠ a → Q .non (upd (upd H dx (exd dx [(f, v)])) a (exo a C (some dx)))
def spIni2 (K : Frag) (f f2 : Str) : Sp := fun vs H Q _ => ∃ (a C : Addr) (v v2 : V), vs = [.ref a, v, v2] ∧ XC K C ∧ findIn K (.ref C) f = some none ∧ findIn K (.ref C) f2 = some none ∧ H a = some (exo a C none) ∧
  ∀ dx H', Same H (upd H' a (exo a C none)) → H' a = some (exo a C (some dx)) → H' dx = some (exd dx [(f2, v2), (f, v)]) → H dx = none → Q .non H'
section
variable {P : Program} {w : World} {K : Frag} {mg : Str → Option Value} {base : Heap} {fI : Addr} {fd : FuncData} {q f f2 : Str} {params : Arguments} {scope : Scope}
theorem okIni {p1 p2 p3 p4 : Pos} (Fd : FunD K "__init__" q params [.Assign [.Attribute (.Name "self" p1) f p2] (.Name f p3) p4] scope [] [] fI fd) (S : FnScope ["self", f] ["self", f] scope)
    (v0 : scope.names.lookup ("self" : Str) = some .local) (v1 : scope.names.lookup f = some .local) (d1 : (f == ("__debug__" : Str)) = false) (d2 : (f == ("__classdict__" : Str)) = false) :
    FnOk P w K mg base CX0 1 fI fd ["self", f] (spIni K f) := by
  refine Fd.ok S (fun vs H Q E h => ?_) (fun cdv A outer s H vs Q E hr h => ?_)
  · obtain ⟨a, C, v, rfl, _⟩ := h
    rfl
  · refine ⟨_, PSs.nox (pss_one (psOstX (pe_var (i := 0) rfl (.inl v0)) (pe_var (i := 1) rfl (.inl v1) d1 d2))), ?_⟩
    obtain ⟨a, C, v, rfl, T, hno, ha, k⟩ := h
    exact ⟨v, rfl, .ref a, rfl, a, C, rfl, T, hno, .inl ⟨ha, fun dx n ne => k dx n ne⟩⟩
theorem okIni2 {p1 p2 p3 p4 q1 q2 q3 q4 : Pos} (Fd : FunD K "__init__" q params [.Assign [.Attribute (.Name "self" p1) f p2] (.Name f p3) p4, .Assign [.Attribute (.Name "self" q1) f2 q2] (.Name f2 q3) q4] scope [] [] fI fd)
    (S : FnScope ["self", f, f2] ["self", f, f2] scope)
    (v0 : scope.names.lookup ("self" : Str) = some .local) (v1 : scope.names.lookup f = some .local) (v2 : scope.names.lookup f2 = some .local) (d1 : (f == ("__debug__" : Str)) = false) (d2 : (f == ("__classdict__" : Str)) = false)
    (d3 : (f2 == ("__debug__" : Str)) = false) (d4 : (f2 == ("__classdict__" : Str)) = false) : FnOk P w K mg base CX0 1 fI fd ["self", f, f2] (spIni2 K f f2) := by
  refine Fd.ok S (fun vs H Q E h => ?_) (fun cdv A outer s H vs Q E hr h => ?_)
  · obtain ⟨a, C, v, w, rfl, _⟩ := h
    rfl
  · refine ⟨_, PSs.nox (pss_cons (psOstX (pe_var (i := 0) rfl (.inl v0)) (pe_var (i := 1) rfl (.inl v1) d1 d2)) (pss_one (psOstX (pe_var (i := 0) rfl (.inl v0)) (pe_var (i := 2) rfl (.inl v2) d3 d4)))), ?_⟩
    obtain ⟨a, C, v, w, rfl, T, hno, hno2, ha, k⟩ := h
    refine ⟨v, rfl, .ref a, rfl, a, C, rfl, T, hno, .inl ⟨ha, fun dx n ne => ?_⟩⟩
    refine ⟨w, rfl, .ref a, rfl, a, C, rfl, T, hno2, .inr ⟨dx, [(f, v)], upd_same, ?_, (by show 1 ≤ 900; decide), ?_⟩⟩
    · rw [upd_ne ne, upd_same]
    · refine k dx _ (fun b o e => ?_) ?_ upd_same n
      · by_cases hb : b = a
        · rw [hb, upd_same, ← ha, ← hb, e]
        · have hd : b ≠ dx := ne_of_none e n
          rw [upd_ne hb, upd_ne hd, upd_ne hb, upd_ne hd]
          exact e
      · rw [upd_ne (Ne.symm ne), upd_same]
end
/-- the class x of errors with one field f; with two | with none of its own -/
structure Cl1 (P : Program) (w : World) (K : Frag) (mg : Str → Option Value) (base : Heap) (x : Str) (C : Addr) (f : Str) : Prop where
  xc : XC K C
  gm : mg x = some (.ref C)
  no : findIn K (.ref C) f = some none
  ini : ∃ fI fd, findIn K (.ref C) "__init__" = some (some (.ref fI)) ∧ typeIn K (.ref fI) = some (.type "function") ∧ FnOk P w K mg base CX0 1 fI fd ["self", f] (spIni K f) ∧
    KBn K fd ["self", f] 2 [] (fun us _ => us) (fun vs _ => vs) ∧ KBn K fd ["self", f] 1 [f] (fun us ws => us ++ ws) (fun vs zs => vs ++ zs)
structure Cl2 (P : Program) (w : World) (K : Frag) (mg : Str → Option Value) (base : Heap) (x : Str) (C : Addr) (f f2 : Str) : Prop where
  xc : XC K C
  gm : mg x = some (.ref C)
  no : findIn K (.ref C) f = some none
  no2 : findIn K (.ref C) f2 = some none
  ini : ∃ fI fd, findIn K (.ref C) "__init__" = some (some (.ref fI)) ∧ typeIn K (.ref fI) = some (.type "function") ∧ FnOk P w K mg base CX0 1 fI fd ["self", f, f2] (spIni2 K f f2) ∧
    KBn K fd ["self", f, f2] 3 [] (fun us _ => us) (fun vs _ => vs) ∧ KBn K fd ["self", f, f2] 1 [f2, f] (fun us ws => us ++ ws.reverse) (fun vs zs => vs ++ zs.reverse)
structure Cl0 (K : Frag) (mg : Str → Option Value) (x : Str) (C : Addr) : Prop where
  xc : XC K C
  gm : mg x = some (.ref C)
  own : PySem.W.excIn K C veB "ValueError.__new__" = true
section
variable {X : Cx} {C : Addr} {x f f2 : Str} {p pos : Pos} {e e2 : Expr} {te : TE} {ta : TA} {k1 k2 : Pos}
/-- C(e) -/
def tMk1 (C : Addr) (f : Str) (ta : TA) : TE := fun σ H Q => ta σ H fun vs H1 => ∃ v, vs = [v] ∧ ∀ a H2, H1 a = none → Same H1 H2 → ErD H2 a C [(f, v)] → Q (.ref a) H2
theorem mk1_end {H1 : Hp} {Q : VK} {v : V} (T : XC X.K C) (no : findIn X.K (.ref C) f = some none) (q : ∀ a H2, H1 a = none → Same H1 H2 → ErD H2 a C [(f, v)] → Q (.ref a) H2) (a : Addr) (ha : H1 a = none) :
    spIni X.K f [.ref a, v] (upd H1 a (exo a C none)) (fun v H2 => v = .non ∧ Q (.ref a) H2) E0 := by
  refine ⟨a, C, v, rfl, T, no, upd_same, fun dx hdx hne => ⟨rfl, ?_⟩⟩
  have n1 : H1 dx = none := by
    rw [upd_ne hne] at hdx
    exact hdx
  refine q a _ ha (fun b o hb => ?_) ⟨dx, upd_same, ?_⟩
  · have b1 := ne_of_none hb ha
    have b2 := ne_of_none hb n1
    rw [upd_ne b1, upd_ne b2, upd_ne b1]
    exact hb
  · rw [upd_ne hne, upd_same]
theorem peMk1 (T : Cl1 X.prog X.w X.K X.mg X.base x C f) (hr : Room 2 X.A) (hg : Gl X x) (ha : PA X [e] ta) (hdb : (x == ("__debug__" : Str)) = false := by decide)
    (he : starEach [e] X.env = (false, eval e X.env) :: starEach [] X.env := by rfl) (hpl : (backTo pos (starEach [] X.env)).any (·.1) = false := by rfl) :
    PE X (.Call (.Name x p) [e] [] pos) (tMk1 C f ta) := by
  refine ⟨fun pins s σ H Q I h => ?_⟩
  obtain ⟨fI, fd, iC, tI, F, hb, _⟩ := T.ini
  refine wpAny_Call_Name_kw (ld_glob I hg T.gm ?_ hdb)
  refine PySem.W.callWith_K (h₀ := X.base) I.ok.mod.kin T.xc.kp (thn (ha.run pos pins s σ H _ I h) fun us s1 ⟨vs, H1, I1, r, v, ev, q⟩ => ⟨I1.kIn, ?_⟩) he hpl
  subst ev
  exact runMkX (n := 1) (ks := []) (ws := []) (zs := []) T.xc iC tI F hr hb pass0 I1 r .nil rfl rfl (by decide) (fun a ha => mk1_end T.xc T.no q a ha)
/-- C(f = e) -/
theorem peMk1K (T : Cl1 X.prog X.w X.K X.mg X.base x C f) (hr : Room 2 X.A) (hg : Gl X x) (ha : PK X [⟨some f, e, k1⟩] ta) (hdb : (x == ("__debug__" : Str)) = false := by decide)
    (hall : (backToKw pos (keywordEach [⟨some f, e, k1⟩] X.env)).all (·.1.isSome) = true := by rfl) (hks : (backToKw pos (keywordEach [⟨some f, e, k1⟩] X.env)).filterMap (·.1) = [f] := by rfl)
    (hpl : ((backTo pos (starEach [] X.env)).any (·.1) || (backToKw pos (keywordEach [⟨some f, e, k1⟩] X.env)).any (·.1.isNone)) = false := by rfl) :
    PE X (.Call (.Name x p) [] [⟨some f, e, k1⟩] pos) (tMk1 C f ta) := by
  refine ⟨fun pins s σ H Q I h => ?_⟩
  obtain ⟨fI, fd, iC, tI, F, _, hb⟩ := T.ini
  refine wpAny_Call_Name_kw (ld_glob I hg T.gm ?_ hdb)
  refine PySem.W.callWith_KW0 (h₀ := X.base) I.ok.mod.kin T.xc.kp hall (thn (ha.run pos pins s σ H _ I h) fun ws s1 ⟨zs, H1, I1, rz, v, ev, q⟩ => ⟨I1.kIn, ?_⟩) hpl
  subst ev
  rw [hks]
  exact runMkX (n := 0) (ks := [f]) (us := []) (vs := []) T.xc iC tI F hr hb pass0 I1 .nil rz rfl rfl (by decide) (fun a ha => mk1_end T.xc T.no q a ha)
/-- C(e, e2) -/
def tMk2 (C : Addr) (f f2 : Str) (ta : TA) : TE := fun σ H Q => ta σ H fun vs H1 => ∃ v v2, vs = [v, v2] ∧ ∀ a H2, H1 a = none → Same H1 H2 → ErD H2 a C [(f2, v2), (f, v)] → Q (.ref a) H2
theorem mk2_end {H1 : Hp} {Q : VK} {v v2 : V} (T : XC X.K C) (no : findIn X.K (.ref C) f = some none) (no2 : findIn X.K (.ref C) f2 = some none) (q : ∀ a H2, H1 a = none → Same H1 H2 → ErD H2 a C [(f2, v2), (f, v)] → Q (.ref a) H2) (a : Addr) (ha : H1 a = none) :
    spIni2 X.K f f2 [.ref a, v, v2] (upd H1 a (exo a C none)) (fun v H2 => v = .non ∧ Q (.ref a) H2) E0 := by
  refine ⟨a, C, v, v2, rfl, T, no, no2, upd_same, fun dx H' sm h1 h2 hdx => ⟨rfl, ?_⟩⟩
  refine q a _ ha (fun b o hb => ?_) ⟨dx, h1, h2⟩
  have b1 := ne_of_none hb ha
  have z := sm b o (by rw [upd_ne b1]; exact hb)
  rw [upd_ne b1] at z
  exact z
theorem peMk2 (T : Cl2 X.prog X.w X.K X.mg X.base x C f f2) (hr : Room 2 X.A) (hg : Gl X x) (ha : PA X [e, e2] ta) (hdb : (x == ("__debug__" : Str)) = false := by decide)
    (he : starEach [e, e2] X.env = (false, eval e X.env) :: starEach [e2] X.env := by rfl) (hpl : (backTo pos (starEach [e2] X.env)).any (·.1) = false := by rfl) :
    PE X (.Call (.Name x p) [e, e2] [] pos) (tMk2 C f f2 ta) := by
  refine ⟨fun pins s σ H Q I h => ?_⟩
  obtain ⟨fI, fd, iC, tI, F, hb, _⟩ := T.ini
  refine wpAny_Call_Name_kw (ld_glob I hg T.gm ?_ hdb)
  refine PySem.W.callWith_K (h₀ := X.base) I.ok.mod.kin T.xc.kp (thn (ha.run pos pins s σ H _ I h) fun us s1 ⟨vs, H1, I1, r, v, v2, ev, q⟩ => ⟨I1.kIn, ?_⟩) he hpl
  subst ev
  exact runMkX (n := 2) (ks := []) (ws := []) (zs := []) T.xc iC tI F hr hb pass0 I1 r .nil rfl rfl (by decide) (fun a ha => mk2_end T.xc T.no T.no2 q a ha)
/-- C(f2 = e, f = e2) -/
def tMk2K (C : Addr) (f f2 : Str) (ta : TA) : TE := fun σ H Q => ta σ H fun vs H1 => ∃ v v2, vs = [v2, v] ∧ ∀ a H2, H1 a = none → Same H1 H2 → ErD H2 a C [(f2, v2), (f, v)] → Q (.ref a) H2
theorem peMk2K (T : Cl2 X.prog X.w X.K X.mg X.base x C f f2) (hr : Room 2 X.A) (hg : Gl X x) (ha : PK X [⟨some f2, e, k1⟩, ⟨some f, e2, k2⟩] ta) (hdb : (x == ("__debug__" : Str)) = false := by decide)
    (hall : (backToKw pos (keywordEach [⟨some f2, e, k1⟩, ⟨some f, e2, k2⟩] X.env)).all (·.1.isSome) = true := by rfl) (hks : (backToKw pos (keywordEach [⟨some f2, e, k1⟩, ⟨some f, e2, k2⟩] X.env)).filterMap (·.1) = [f2, f] := by rfl)
    (hpl : ((backTo pos (starEach [] X.env)).any (·.1) || (backToKw pos (keywordEach [⟨some f2, e, k1⟩, ⟨some f, e2, k2⟩] X.env)).any (·.1.isNone)) = false := by rfl) :
    PE X (.Call (.Name x p) [] [⟨some f2, e, k1⟩, ⟨some f, e2, k2⟩] pos) (tMk2K C f f2 ta) := by
  refine ⟨fun pins s σ H Q I h => ?_⟩
  obtain ⟨fI, fd, iC, tI, F, _, hb⟩ := T.ini
  refine wpAny_Call_Name_kw (ld_glob I hg T.gm ?_ hdb)
  refine PySem.W.callWith_KW0 (h₀ := X.base) I.ok.mod.kin T.xc.kp hall (thn (ha.run pos pins s σ H _ I h) fun ws s1 ⟨zs, H1, I1, rz, v, v2, ev, q⟩ => ⟨I1.kIn, ?_⟩) hpl
  subst ev
  rw [hks]
  exact runMkX (n := 0) (ks := [f2, f]) (us := []) (vs := []) T.xc iC tI F hr hb pass0 I1 .nil rz rfl rfl (by decide) (fun a ha => mk2_end T.xc T.no T.no2 q a ha)
/-- C(), no __init__ of its own -/
def tMk0 (C : Addr) : TE := fun _ H Q => ∀ a, H a = none → Q (.ref a) (upd H a (exo a C none))
theorem peMk0 (T : Cl0 X.K X.mg x C) (hg : Gl X x) (hdb : (x == ("__debug__" : Str)) = false := by decide) : PE X (.Call (.Name x p) [] [] pos) (tMk0 C) := by
  refine ⟨fun pins s σ H Q I h => ?_⟩
  refine wpAny_Call_Name_kw (ld_glob I hg T.gm ?_ hdb)
  refine PySem.W.callWith_K0 I.kIn T.xc.kp ?_
  show wpAny _ _ (call (.ref C) []) _ _ _
  obtain ⟨bm, N, nm, qn, bs, hdct, sn, sub, ab, col, dd, k0, k1, k2, k3, k5, mN, hC, hN, hni, O⟩ := exc_obj I.kIn T.own
  refine wpAny_call_exc_subT F.excBase_ValueError O hC hN hni (fun h' a hm => ?_) (Nat.zero_le _)
  have hn : H a = none := I.hok.gone hm.new
  obtain ⟨t, ht, _, _⟩ := hm.there
  exact ⟨.ref a, upd H a (exo a C none), I.laidN hm.keeps hm.new hn (exo_ok ht), rfl, h a hn⟩
/-- raise C(e) | raise C() -/
def tMkE (C : Addr) (f : Str) (ta : TA) : L2.St → Hp → XK → Prop := fun σ H Q => ta σ H fun vs H1 => ∃ v, vs = [v] ∧ ∀ d H2, Same H1 H2 → H2 d = some (.xd [(f, v)]) → Q (.ref C) (some d) H2
theorem pmkX (T : Cl1 X.prog X.w X.K X.mg X.base x C f) (hr : Room 2 X.A) (hg : Gl X x) (ha : PA X [e] ta) (hdb : (x == ("__debug__" : Str)) = false := by decide)
    (he : starEach [e] X.env = (false, eval e X.env) :: starEach [] X.env := by rfl) (hpl : (backTo pos (starEach [] X.env)).any (·.1) = false := by rfl) :
    PMk X (.Call (.Name x p) [e] [] pos) (tMkE C f ta) := by
  intro pins s σ H Q I h
  obtain ⟨fI, fd, iC, tI, F, hb, _⟩ := T.ini
  refine wpAny_Call_Name_kw (ld_glob I hg T.gm ?_ hdb)
  refine PySem.W.callWith_K (h₀ := X.base) I.ok.mod.kin T.xc.kp (thn (ha.run pos pins s σ H _ I h) fun us s1 ⟨vs, H1, I1, r, v, ev, q⟩ => ⟨I1.kIn, ?_⟩) he hpl
  subst ev
  refine runMkE (n := 1) (ks := []) (ws := []) (zs := []) T.xc iC tI F hr hb pass0 I1 r .nil rfl rfl (by decide) (fun a ha => ?_)
  refine ⟨a, C, v, rfl, T.xc, T.no, upd_same, fun dx hdx hne => ⟨rfl, dx, [(f, v)], upd_same, ?_, ?_, ?_⟩⟩
  · rw [upd_ne hne, upd_same]
  · rw [upd_ne hne] at hdx
    exact hdx
  · have n1 : H1 dx = none := by
      rw [upd_ne hne] at hdx
      exact hdx
    refine q dx _ (fun b o hb => ?_) upd_same
    have b1 := ne_of_none hb ha
    have b2 := ne_of_none hb n1
    rw [upd_ne b2, del_ne b1, upd_ne b1, upd_ne b2, upd_ne b1]
    exact hb
theorem pmk0 (T : Cl0 X.K X.mg x C) (hg : Gl X x) (hdb : (x == ("__debug__" : Str)) = false := by decide) : PMk X (.Call (.Name x p) [] [] pos) (fun _ H Q => Q (.ref C) none H) := by
  intro pins s σ H Q I h
  refine wpAny_Call_Name_kw (ld_glob I hg T.gm ?_ hdb)
  refine PySem.W.callWith_K0 I.kIn T.xc.kp ?_
  show wpAny _ _ (call (.ref C) []) _ _ _
  obtain ⟨bm, N, nm, qn, bs, hdct, sn, sub, ab, col, dd, k0, k1, k2, k3, k5, mN, hC, hN, hni, O⟩ := exc_obj I.kIn T.own
  refine wpAny_call_exc_subT F.excBase_ValueError O hC hN hni (fun h' e hm => ?_) (Nat.zero_le _)
  exact mk_of I hm (raises_own T.xc.ex T.xc.ty) h (I.hok.gone hm.new)
end
end KX

set_option Elab.async false
set_option linter.all false
set_option maxRecDepth 100000
set_option maxHeartbeats 0
namespace REC.HD
open PySem PySem.Spec PyProof.Rows L2 KS
open KX hiding sameUpd
open He (ga ma)
abbrev R : PySem.W.OpenRow := PySem.W.OpenLaw.row PySem.Challenge.rw_farenough_k11_records_made
def dOf (x : Str) (i : Nat) : He.DefD := ⟨(x, none), x, x, defArgs (top i), defBody (top i), defScope (top i), [], []⟩
def dOf1 (x : Str) (i : Nat) : He.DefD := ⟨(x, none), x, x, defArgs (top i), defBody (top i), defScope (top i), [.bl false], []⟩
def dIn (x m q : Str) (i j : Nat) : He.DefD := ⟨(x, some m), m, q, defArgs (inClass (top i) j), defBody (inClass (top i) j), defScope (inClass (top i) j), [], []⟩
def dInD (x m q : Str) (i j : Nat) : He.DefD := ⟨(x, some m), m, q, defArgs (inClass (top i) j), defBody (inClass (top i) j), defScope (inClass (top i) j), [.adr (He.dflAt (x, some m) 0)], []⟩
def fn1 : List He.DefD := [
  dOf "in_order" 8,
  dOf "ordered" 9,
  dOf "_rank" 10,
  dOf "_rank_of_answers" 11,
  dOf "_table_of" 14,
  dOf "_check_ways" 15,
  dOf "in_growing_order" 16,
  dOf "_length" 17,
  dOf "reads_in" 18,
  dOf "is_first" 19,
  dOf "place_ahead" 21,
  dOf "leads_to" 22,
  dOf "_law_feed_of" 24,
  dOf "_law_draw" 25,
  dOf "_law_mixed" 26,
  dOf "_law_pick" 27,
  dOf "_law_outs" 28,
  dOf "_law_calls" 29,
  dOf "_law_some_names" 30,
  dOf "_law_some_text" 31,
  dOf "_law_some_answer" 32,
  dOf "_law_some_parts" 33,
  dOf "_law_some_tree" 34,
  dOf "_law_some_keys" 35,
  dOf "_law_some_outputs" 36,
  dOf "_law_drawn_made" 37,
  dOf1 "_law_world" 38,
  dOf "_law_part_text" 39,
  dOf "_law_step_at" 40,
  dOf "_law_ordered" 41,
  dOf "_law_same" 42,
  dOf "_law_rows_near" 43,
  dOf "_law_node_behind" 44,
  dOf "_law_next_place" 45,
  dOf "_law_walked" 46,
  dOf "_law_ahead_of" 47,
  dOf "_law_pairs_of" 48,
  dOf "_law_fault_of" 49,
  dOf "_law_refused_by" 50,
  dOf "_law_odd_step" 51,
  dOf "_law_odd_pairs" 52,
  dOf "law" 53]
def fn2 : List He.DefD := [
  dIn "Clash" "__init__" "Clash.__init__" 3 0,
  dIn "Gap" "__init__" "Gap.__init__" 4 0,
  dIn "Rewritten" "__init__" "Rewritten.__init__" 5 0,
  dInD "Record" "__init__" "Record.__init__" 13 0,
  dIn "Record" "__len__" "Record.__len__" 13 2,
  dIn "Record" "__eq__" "Record.__eq__" 13 4,
  dIn "Record" "steps" "Record.steps" 13 13]
def fn : List He.DefD := fn1 ++ fn2
def frees : List Str := ["isinstance", "len", "zip", "all", "list", "tuple", "bool", "int", "str", "range", "ord", "set", "max", "min", "dict", "sorted", "any", "enumerate", "ValueError"]
def looseC : List Str := ["_wall", "_first_of"]
def glos0 : List Str := ["BuildError", "Clash", "Gap", "Rewritten", "NoPlace", "Record", "in_order", "ordered", "_rank", "_rank_of_answers", "_table_of", "_check_ways", "in_growing_order", "_length", "reads_in", "is_first", "place_ahead", "leads_to"]
def glos1 : List Str := ["_law_feed_of", "_law_draw", "_law_mixed", "_law_pick", "_law_outs", "_law_calls", "_law_some_names", "_law_some_text", "_law_some_answer", "_law_some_parts", "_law_some_tree", "_law_some_keys", "_law_some_outputs", "_law_drawn_made", "_law_world", "_law_part_text", "_law_step_at", "_law_ordered"]
def glos2 : List Str := ["_law_same", "_law_rows_near", "_law_node_behind", "_law_next_place", "_law_walked", "_law_ahead_of", "_law_pairs_of", "_law_fault_of", "_law_refused_by", "_law_odd_step", "_law_odd_pairs"]
def glos : List Str := glos0 ++ glos1 ++ glos2
def loose : List Str := looseC ++ glos
def faC : List He.Fa := [He.Fa.cls "Record", He.Fa.mkr "Record"]
def faN : List He.Fa := [He.Fa.noat "Record" "_steps"]
def faM : List He.Fa := [He.Fa.meth "Record" "__len__", He.Fa.meth "Record" "__eq__", He.Fa.meth "Record" "steps"]
def fa : List He.Fa := (glos ++ ([("law" : Str)] : List Str)).map He.Fa.glo ++ (frees.map He.Fa.free ++ (faC ++ (faN ++ faM)))
def emB (K : PySem.W.Frag) (a : Addr) : Bool := match K.lookup a with
  | some ⟨.type c, _, .seq its _, _⟩ => decide (c = "tuple") && its.isEmpty
  | _ => false
theorem emB_ok {K : PySem.W.Frag} {a : Addr} (h : emB K a = true) (H : Hp) : SqT K H a [] := by
  unfold emB at h
  cases q : K.lookup a with
  | none =>
    rw [q] at h
    cases h
  | some o =>
    obtain ⟨oc, od, dt, osl⟩ := o
    rw [q] at h
    cases oc with
    | type c =>
      cases dt with
      | seq its n =>
        obtain ⟨h1, h2⟩ := He.ba (show (decide (c = "tuple") && its.isEmpty) = true from h)
        have e : its = #[] := Array.isEmpty_iff.mp h2
        subst e
        exact .inr ⟨_, #[], n, q, congrArg Value.type (of_decide_eq_true h1), rfl, Nat.zero_le _, .nil⟩
      | _ => cases h
    | _ => cases dt <;> cases h
/-- the other facts, as one Bool -/
def exB (K : PySem.W.Frag) : Bool :=
  xcB K (ga K "Clash") veB "ValueError.__new__"
  && (decide (PySem.W.findIn K (.ref (ga K "Clash")) "spot" = some none)
  && (decide (PySem.W.findIn K (.ref (ga K "Clash")) "__init__" = some (some (.ref (ma K (ga K "Clash") "__init__"))))
  && (decide (PySem.W.typeIn K (.ref (ma K (ga K "Clash") "__init__")) = some (.type "function"))
  && (xcB K (ga K "Gap") veB "ValueError.__new__"
  && (decide (PySem.W.findIn K (.ref (ga K "Gap")) "spot" = some none)
  && (decide (PySem.W.findIn K (.ref (ga K "Gap")) "__init__" = some (some (.ref (ma K (ga K "Gap") "__init__"))))
  && (decide (PySem.W.typeIn K (.ref (ma K (ga K "Gap") "__init__")) = some (.type "function"))
  && (xcB K (ga K "Rewritten") veB "ValueError.__new__"
  && (decide (PySem.W.findIn K (.ref (ga K "Rewritten")) "spot" = some none)
  && (decide (PySem.W.findIn K (.ref (ga K "Rewritten")) "__init__" = some (some (.ref (ma K (ga K "Rewritten") "__init__"))))
  && (decide (PySem.W.typeIn K (.ref (ma K (ga K "Rewritten") "__init__")) = some (.type "function"))
  && (decide (PySem.W.findIn K (.ref (ga K "Record")) "__class__" = some (some (.builtin "object.__class__")))
  && (decide (PySem.W.mroIn K (ga K "Record") (.type "object") = some true)
  && (decide (PySem.W.specialIn K (.builtin "object.__class__") "__get__" = some (some (.builtin "getset_descriptor.__get__")))
  && (decide (PySem.W.takesIn K (.builtin "object.__class__") = some true)
  && (decide (PySem.W.kitOne K (.ref (ga K "Record")) (.ref (ga K "Record")) = some true)
  && (decide (PySem.W.kitOne K (.ref (ga K "Clash")) (.ref (ga K "Clash")) = some true)
  && (decide (PySem.W.kitOne K (.ref (ga K "Clash")) (.ref (ga K "Gap")) = some false)
  && (decide (PySem.W.kitOne K (.ref (ga K "Clash")) (.ref (ga K "Rewritten")) = some false)
  && (decide (PySem.W.kitOne K (.ref (ga K "Gap")) (.ref (ga K "Clash")) = some false)
  && (decide (PySem.W.kitOne K (.ref (ga K "Gap")) (.ref (ga K "Gap")) = some true)
  && (decide (PySem.W.kitOne K (.ref (ga K "Gap")) (.ref (ga K "Rewritten")) = some false)
  && (decide (PySem.W.kitOne K (.ref (ga K "Rewritten")) (.ref (ga K "Clash")) = some false)
  && (decide (PySem.W.kitOne K (.ref (ga K "Rewritten")) (.ref (ga K "Gap")) = some false)
  && (decide (PySem.W.kitOne K (.ref (ga K "Rewritten")) (.ref (ga K "Rewritten")) = some true)
  && (decide (PySem.W.exmOne K (.ref (ga K "Clash")) (.ref (ga K "BuildError")) = some true)
  && (decide (PySem.W.exmOne K (.ref (ga K "Gap")) (.ref (ga K "BuildError")) = some true)
  && (decide (PySem.W.exmOne K (.ref (ga K "Rewritten")) (.ref (ga K "BuildError")) = some true)
  && (emB K (He.dflAt ("Record", some "__init__") 0 K))))))))))))))))))))))))))))))
/-- the head's look: defs, names, these -/
abbrev Al : Type := He.AlD × Bool
def obsK (K : PySem.W.Frag) : Al := (He.obsD fa fn K, exB K)
def obsM (n : Nat) (g : Addr → Option Obj) : Al := obsK (He.frG g (He.asD g n))
structure Says (K : PySem.W.Frag) : Prop where
  d : He.SaysD fa fn K
  e : exB K = true
def hk : PySem.W.Hook where
  α := Al
  obs := fun s => obsM 6 s.heap.get?
  val := fun _ => (He.valD fn, true)
  says := fun _ h => ∃ K : PySem.W.Frag, K.In h ∧ Says K
  of := fun _ _ e => ⟨_, He.frG_in, ⟨congrArg (fun z : Al => z.1) e, congrArg (fun z : Al => z.2) e⟩⟩
  keeps := fun _ _ _ ⟨K, hK, c⟩ k => ⟨K, PySem.W.Frag.In.keeps hK k, c⟩
def ob (s : PySem.W.SharedT) : Al := obsM 6 (HandSHeadRun.getT s)
theorem ob_eq (s : PySem.W.SharedT) : ob s = hk.obs s.abs := by
  have e : HandSHeadRun.getT s = s.abs.heap.get? := funext (HandSHeadRun.getT_eq s)
  unfold ob
  rw [e] <;> rfl
theorem run (w : World) : HandSHeadRun.RunEq R (PySem.W.view R.prog [53]) hk ob 20000 loose w := by
  intro os
  kernel_rfl
end REC.HD

set_option Elab.async false
set_option linter.all false
set_option maxRecDepth 100000
set_option maxHeartbeats 4000000
/-! dicts whose keys are data (tuples of None, numbers, texts and such tuples), over the layer: the dict is a thing told by its one object, the keys' tuples stand in the layer's heap -/
namespace ND
open PySem PySem.Spec PyProof.Rows L2
/-- None, numbers, texts, tuples of such, n deep -/
inductive Pl : Nat → PyData → Prop
  | non (n : Nat) : Pl n .none
  | int (n : Nat) (i : Int) : Pl n (.int i)
  | str (n : Nat) (z : Str) : Pl n (.str z)
  | tup {n : Nat} {ds : List PyData} (h : ∀ d ∈ ds, Pl n d) : Pl (n + 1) (.tuple ds)
theorem Pl.up {n : Nat} {d : PyData} (h : Pl n d) : ∀ {m : Nat}, n ≤ m → Pl m d := by
  induction h with
  | non => exact fun _ => .non _
  | int n i => exact fun _ => .int _ i
  | str n z => exact fun _ => .str _ z
  | tup h ih =>
    intro m hm
    obtain ⟨k, rfl⟩ : ∃ k, m = k + 1 := ⟨m - 1, by omega⟩
    exact .tup fun d hd => ih d hd (by omega)
mutual
def keyD : PyData → NestedKey
  | .int i => .num i
  | .str x => .text x
  | .tuple ds => .tup (keyDs ds)
  | .bool b => .num (if b = true then 1 else 0)
  | .none => .none
  | .list _ => .none
  | .dict _ => .none
def keyDs : List PyData → List NestedKey
  | [] => []
  | d :: ds => keyD d :: keyDs ds
end
theorem keyDepth {n : Nat} {d : PyData} (h : Pl n d) : (keyD d).depth ≤ n := by
  induction h with
  | non => simp [keyD, NestedKey.depth]
  | int => simp [keyD, NestedKey.depth]
  | str => simp [keyD, NestedKey.depth]
  | @tup n ds h ih =>
    have all : ∀ l : List PyData, (∀ d ∈ l, (keyD d).depth ≤ n) → NestedKey.depthAll (keyDs l) ≤ n := by
      intro l
      induction l with
      | nil => intro _; simp [keyDs, NestedKey.depthAll]
      | cons x l il =>
        intro hl
        have h1 := hl x List.mem_cons_self
        have h2 := il fun d hd => hl d (List.mem_cons_of_mem _ hd)
        simp only [keyDs, NestedKey.depthAll]
        omega
    have := all ds ih
    simp only [keyD, NestedKey.depth]
    omega
theorem keyInj {n : Nat} {d : PyData} (h : Pl n d) : ∀ {m : Nat} {e : PyData}, Pl m e → keyD d = keyD e → d = e := by
  induction h with
  | non => intro m e he q; cases he <;> simp [keyD] at q; rfl
  | int n i => intro m e he q; cases he <;> simp [keyD] at q; rw [q]
  | str n z => intro m e he q; cases he <;> simp [keyD] at q; rw [q]
  | @tup n ds h ih =>
    intro m e he q
    cases he with
    | @tup m es he =>
      have all : ∀ (l r : List PyData), (∀ d ∈ l, ∀ {m : Nat} {e : PyData}, Pl m e → keyD d = keyD e → d = e) → (∀ e ∈ r, Pl m e) → keyDs l = keyDs r → l = r := by
        intro l
        induction l with
        | nil =>
          intro r _ _ q
          cases r with
          | nil => rfl
          | cons => simp [keyDs] at q
        | cons x l il =>
          intro r hl hr q
          cases r with
          | nil => simp [keyDs] at q
          | cons y r =>
            simp only [keyDs, List.cons.injEq] at q
            rw [hl x List.mem_cons_self (hr y List.mem_cons_self) q.1, il r (fun d hd => hl d (List.mem_cons_of_mem _ hd)) (fun e he => hr e (List.mem_cons_of_mem _ he)) q.2]
      have q2 : keyDs ds = keyDs es := by simpa [keyD] using q
      rw [all ds es ih he q2]
    | non => simp [keyD] at q
    | int => simp [keyD] at q
    | str => simp [keyD] at q
/-- what stands in the layer's heap as data is such a key -/
theorem nestedIs {X : Cx} {pins : List (Addr × Obj)} {σ : L2.St} {H : Hp} {s : Shared} (I : Inv X pins σ H s) {n : Nat} {d : PyData} (h : Pl n d) : ∀ (v : V) (u : Value), Dp X.K H v d → RelV v u → NestedIs s.heap (keyD d) u := by
  induction h with
  | non => intro v u hd r; cases hd; cases r; exact .none
  | int n i => intro v u hd r; cases hd; obtain ⟨t, rfl⟩ := r; exact .int i t
  | str n z => intro v u hd r; cases hd; obtain ⟨t, rfl⟩ := r; exact .text z t
  | @tup n ds h ih =>
    intro v u hd r
    cases hd with
    | tup hs ha =>
      cases r
      obtain ⟨its, rv, ⟨o, ho, hc, n', hdt⟩, _⟩ := I.tuple hs
      have all : ∀ (l : List PyData) (vs : List V) (us : List Value), (∀ d ∈ l, ∀ (v : V) (u : Value), Dp X.K H v d → RelV v u → NestedIs s.heap (keyD d) u) → DpAll X.K H vs l → Vals vs us → NestedAll s.heap (keyDs l) us := by
        intro l
        induction l with
        | nil => intro vs us _ ha r; cases ha; cases r; exact .nil
        | cons x l il =>
          intro vs us hl ha r
          cases ha with
          | cons h1 h2 =>
            cases r with
            | cons r1 r2 => exact .cons (hl x List.mem_cons_self _ _ h1 r1) (il _ _ (fun d hd => hl d (List.mem_cons_of_mem _ hd)) h2 r2)
      exact .tup ho hc hdt (by simpa using all ds _ its ih ha rv)
/-! ### the dict -/
abbrev KvN := NestedKey × Addr × V
abbrev KvD := PyData × Addr × V
def kn (q : KvD) : KvN := (keyD q.1, q.2.1, q.2.2)
abbrev rKv (p : KvN) (q : NestedKey × Addr × Value) : Prop := p.1 = q.1 ∧ p.2.1 = q.2.1 ∧ RelV p.2.2 q.2.2
def NdR (P : Program) (w : World) (d : Addr) (ks : List KvN) (h : Heap) : Prop := ks.length ≤ sizeLine ∧ (d == sysModules) = false ∧ ∃ xs : List (NestedKey × Addr × Value), Paired rKv ks xs ∧
  ∃ o es ep, h.get? d = some o ∧ o.ExactDict ∧ o.data = .dict es ep ∧ es.toList = xs.map (entryOfKey (nestedKind P w)) ∧ (xs.map (·.1)).Nodup
def ndO (P : Program) (w : World) (d : Addr) (ks : List KvN) : HO := .ext (NdR P w d ks)
structure Nd (P : Program) (w : World) (K : PySem.W.Frag) (H : Hp) (d : Addr) (kvs : List KvD) : Prop where
  o : H d = some (ndO P w d (kvs.map kn))
  k : ∀ q ∈ kvs, Pl 8 q.1 ∧ Dp K H (.ref q.2.1) q.1
theorem ndOk {P : Program} {w : World} {H : Hp} {h : Heap} {d : Addr} {ks : List KvN} (r : NdR P w d ks h) : ObjOk P w H h d (ndO P w d ks) := by
  obtain ⟨z, hs, xs, pr, o, es, ep, ho, rest⟩ := r
  refine ⟨⟨z, hs, xs, pr, o, es, ep, ho, rest⟩, ⟨o, ho⟩, fun h1 h2 q keep => ?_⟩
  obtain ⟨z, hs, xs, pr, o, es, ep, ho, rest⟩ := q
  exact ⟨z, hs, xs, pr, o, es, ep, keep o ho, rest⟩
theorem ndNew {P : Program} {w : World} {H : Hp} (h : Heap) (hb : sysModules < h.objs.size) : ObjOk P w H (h.push { cls := .type "dict", data := .dict #[] }) h.objs.size (ndO P w h.objs.size []) := by
  refine ndOk ⟨Nat.zero_le _, ?_, [], .nil, ?_⟩
  · exact beq_eq_false_iff_ne.mpr (Nat.ne_of_gt hb)
  · obtain ⟨o, es, ep, h1, h2, h3, h4, _, h6⟩ := Heap.DictOfH.new (knd := nestedKind P w) h
    exact ⟨o, es, ep, h1, h2, h3, h4, h6⟩
section
variable {X : Cx} {pins : List (Addr × Obj)} {σ : L2.St} {H : Hp} {s : Shared}
theorem keyIs (I : Inv X pins σ H s) {a : Addr} {e : PyData} (he : Dp X.K H (.ref a) e) (pl : Pl 8 e) : (nestedKind X.prog X.w).is s.heap (keyD e) a := ⟨nestedIs I pl _ _ he rfl, keyDepth pl⟩
theorem pairedMem {α β : Type} {F : α → β → Prop} : ∀ {l : List α} {r : List β}, Paired F l r → ∀ y ∈ r, ∃ x ∈ l, F x y
  | _, _, .nil, y, hy => absurd hy (by simp)
  | _, _, .cons h t, y, hy => by
    rcases List.mem_cons.mp hy with z | z
    · subst z; exact ⟨_, List.mem_cons_self, h⟩
    · obtain ⟨x, hx, f⟩ := pairedMem t y z
      exact ⟨x, List.mem_cons_of_mem _ hx, f⟩
theorem pairedLen {α β : Type} {F : α → β → Prop} : ∀ {l : List α} {r : List β}, Paired F l r → l.length = r.length
  | _, _, .nil => rfl
  | _, _, .cons _ t => by simp [pairedLen t]
theorem Nd.heap {d : Addr} {kvs : List KvD} (n : Nd X.prog X.w X.K H d kvs) (I : Inv X pins σ H s) : kvs.length ≤ sizeLine ∧ (d == sysModules) = false ∧ ∃ xs, Paired rKv (kvs.map kn) xs ∧ s.heap.DictOfH (nestedKind X.prog X.w) d xs := by
  have ok : ObjOk X.prog X.w H s.heap d (ndO X.prog X.w d (kvs.map kn)) := I.hok d _ n.o
  obtain ⟨⟨z, hs, xs, pr, o, es, ep, ho, hx, hd, he, nd⟩, _⟩ := ok
  refine ⟨by simpa using z, hs, xs, pr, o, es, ep, ho, hx, hd, he, fun y hy => ?_, nd⟩
  obtain ⟨x, hx, e1, e2, _⟩ := pairedMem pr y hy
  obtain ⟨q, hq, rfl⟩ := List.mem_map.mp hx
  obtain ⟨pl, dp⟩ := n.k q hq
  have := keyIs I dp pl
  rw [← e1, ← e2]
  exact this
end
end ND

set_option Elab.async false
set_option linter.all false
set_option maxRecDepth 100000
set_option maxHeartbeats 4000000
namespace ND
open PySem PySem.Spec PyProof.Rows L2
/-- tuples stand -/
def TS (H H' : Hp) : Prop := ∀ a o, H a = some o → ((∃ xs, o = .tup xs) ∨ ∃ p xs, o = .frz p (.tup xs)) → H' a = some o
theorem TS.refl (H : Hp) : TS H H := fun _ _ e _ => e
theorem TS.trans {H H1 H2 : Hp} (a : TS H H1) (b : TS H1 H2) : TS H H2 := fun x o e t => b x o (a x o e t) t
theorem TS.same {H H' : Hp} (s : ∀ a o, H a = some o → H' a = some o) : TS H H' := fun a o e _ => s a o e
theorem TS.put {P : Program} {w : World} {H : Hp} {d : Addr} {ks : List KvN} {o : HO} (h : H d = some (ndO P w d ks)) : TS H (upd H d o) := fun a u e t => by
  rw [upd_ne fun z => ?_]
  · exact e
  · rw [z, h] at e
    have e2 := Option.some.inj e
    rcases t with ⟨xs, rfl⟩ | ⟨p, xs, rfl⟩ <;> cases e2
theorem TS.tup {K : PySem.W.Frag} {H H' : Hp} (k : TS H H') {a : Addr} {xs : List V} (h : SqT K H a xs) : SqT K H' a xs := by
  rcases h with (h | ⟨o, h⟩) | h
  · exact .inl (.inl (k _ _ h (.inl ⟨_, rfl⟩)))
  · exact .inl (.inr ⟨o, k _ _ h (.inr ⟨_, _, rfl⟩)⟩)
  · exact .inr h
theorem allTS {K : PySem.W.Frag} {H H' : Hp} : ∀ {ds : List PyData} {xs : List V}, (∀ d ∈ ds, ∀ v, Dp K H v d → Dp K H' v d) → DpAll K H xs ds → DpAll K H' xs ds
  | _, _, _, .nil => .nil
  | _, _, k, .cons h r => .cons (k _ List.mem_cons_self _ h) (allTS (fun d hd => k d (List.mem_cons_of_mem _ hd)) r)
theorem dpTS {K : PySem.W.Frag} {H H' : Hp} (k : TS H H') {n : Nat} {d : PyData} (o : Pl n d) : ∀ v, Dp K H v d → Dp K H' v d := by
  induction o with
  | non n => intro v h; cases h; exact .non
  | int n i => intro v h; cases h; exact .int _
  | str n z => intro v h; cases h; exact .str _
  | tup h ih =>
    intro v hv
    cases hv with
    | tup hx hd => exact .tup (k.tup hx) (allTS ih hd)
/-! ### storing -/
def storeN (ks : List KvN) (k : NestedKey) (a : Addr) (v : V) : List KvN := if (ks.any fun q => decide (q.1 = k)) = true then ks.map (fun q => if q.1 = k then (q.1, q.2.1, v) else q) else ks ++ [(k, a, v)]
def storeD (kvs : List KvD) (e : PyData) (a : Addr) (v : V) : List KvD := if (kvs.any fun q => decide (keyD q.1 = keyD e)) = true then kvs.map (fun q => if keyD q.1 = keyD e then (q.1, q.2.1, v) else q) else kvs ++ [(e, a, v)]
theorem store_kn (kvs : List KvD) (e : PyData) (a : Addr) (v : V) : (storeD kvs e a v).map kn = storeN (kvs.map kn) (keyD e) a v := by
  have h : ((kvs.map kn).any fun q => decide (q.1 = keyD e)) = kvs.any fun q => decide (keyD q.1 = keyD e) := by
    rw [List.any_map]
    rfl
  unfold storeD storeN
  rw [h]
  split
  · rw [List.map_map, List.map_map]
    refine List.map_congr_left fun q _ => ?_
    show kn (if keyD q.1 = keyD e then (q.1, q.2.1, v) else q) = if keyD q.1 = keyD e then (keyD q.1, q.2.1, v) else kn q
    split <;> rfl
  · rw [List.map_append]
    rfl
theorem storeLen (kvs : List KvD) (e : PyData) (a : Addr) (v : V) : (storeD kvs e a v).length ≤ kvs.length + 1 := by
  unfold storeD
  split
  · rw [List.length_map]; omega
  · rw [List.length_append]; exact Nat.le_refl _
theorem storeKeys {kvs : List KvD} {e : PyData} {a : Addr} {v : V} {q : KvD} (h : q ∈ storeD kvs e a v) : (∃ p ∈ kvs, p.1 = q.1 ∧ p.2.1 = q.2.1) ∨ (q.1 = e ∧ q.2.1 = a) := by
  unfold storeD at h
  split at h
  · obtain ⟨p, hp, rfl⟩ := List.mem_map.mp h
    refine .inl ⟨p, hp, ?_⟩
    split <;> exact ⟨rfl, rfl⟩
  · rcases List.mem_append.mp h with z | z
    · exact .inl ⟨q, z, rfl, rfl⟩
    · rw [List.mem_singleton.mp z]
      exact .inr ⟨rfl, rfl⟩
theorem atSome {ks : List KvN} {xs : List (NestedKey × Addr × Value)} (p : Paired rKv ks xs) (k : NestedKey) : (atKey xs k).isSome = ks.any fun q => decide (q.1 = k) := by
  induction p with
  | nil => rfl
  | @cons x y l r h t ih =>
    unfold atKey at ih ⊢
    rw [List.any_cons, List.find?_cons, ← h.1]
    cases hd : decide (x.1 = k) with
    | true => rfl
    | false => simpa using ih
theorem pairedStore {ks : List KvN} {xs : List (NestedKey × Addr × Value)} (p : Paired rKv ks xs) (k : NestedKey) (a : Addr) {v : V} {u : Value} (r : RelV v u) : Paired rKv (storeN ks k a v) (storedH xs k a u) := by
  have e := atSome p k
  unfold storeN storedH
  rw [e]
  split
  · have all : ∀ {ks : List KvN} {xs : List (NestedKey × Addr × Value)}, Paired rKv ks xs → Paired rKv (ks.map fun q => if q.1 = k then (q.1, q.2.1, v) else q) (xs.map (putAt k u)) := by
      intro ks xs p
      induction p with
      | nil => exact .nil
      | @cons x y l r' h t ih =>
        refine .cons ?_ ih
        show rKv (if x.1 = k then (x.1, x.2.1, v) else x) (if y.1 = k then (y.1, y.2.1, u) else y)
        rw [← h.1]
        split
        · exact ⟨rfl, h.2.1, r⟩
        · exact h
    exact all p
  · exact p.snoc ⟨rfl, rfl, r⟩
section
variable {X : Cx} {pins : List (Addr × Obj)} {σ : L2.St} {H : Hp} {s : Shared}
theorem ndStored {kvs : List KvD} {d a : Addr} {e : PyData} {v : V} {u : Value} {h' : Heap} {t' : Nat} (I : Inv X pins σ H s) (n : Nd X.prog X.w X.K H d kvs) (rv : RelV v u) (hl : kvs.length < sizeLine) {xs : List (NestedKey × Addr × Value)} (pr : Paired rKv (kvs.map kn) xs) (hs : (d == sysModules) = false)
    (dd : h'.DictOfH (nestedKind X.prog X.w) d (storedH xs (keyD e) a u)) (sb : Heap.SameBut d s.heap h') : Inv X pins σ (upd H d (ndO X.prog X.w d ((storeD kvs e a v).map kn))) { s with heap := h', toks := t' } := by
  obtain ⟨o, es, ep, h1, h2, h3, h4, _, h6⟩ := dd
  refine d_write I (by rw [n.o]; exact True.intro) sb ⟨o, h1⟩ (ndOk ⟨?_, hs, _, ?_, o, es, ep, h1, h2, h3, h4, h6⟩)
  · rw [List.length_map]
    have := storeLen kvs e a v
    omega
  · rw [store_kn]
    exact pairedStore pr _ _ rv
/-- d[k] = v within a comprehension -/
theorem nd_dictSet {E : Value → Shared → Prop} {kvs : List KvD} {d a : Addr} {e : PyData} {v : V} {u : Value} {Q : Unit → Shared → Prop} (hu : X.A.units + 8 < cLine) (I : Inv X pins σ H s) (n : Nd X.prog X.w X.K H d kvs) (he : Dp X.K H (.ref a) e) (pl : Pl 8 e) (rv : RelV v u) (hl : kvs.length < sizeLine)
    (h : ∀ s', Inv X pins σ (upd H d (ndO X.prog X.w d ((storeD kvs e a v).map kn))) s' → Q () s') : wpAny (model X.prog X.w) X.A (dictSet d (.ref a) u) Q E s := by
  obtain ⟨hz, hs, xs, pr, dd⟩ := n.heap I
  have hxl : xs.length ≤ sizeLine := by
    rw [← pairedLen pr, List.length_map]
    exact hz
  refine wpAny_dictSet_heap (knd := nestedKind X.prog X.w) hu (keyIs I he pl) dd (fun h' dd' sb => h _ (ndStored I n rv hl pr hs dd' sb)) hxl
/-- d[k] = v -/
def rSetN (P : Program) (w : World) (K : PySem.W.Frag) : TSet := fun o i v H Q => ∃ (d a : Addr) (e : PyData) (kvs : List KvD), o = .ref d ∧ i = .ref a ∧ Nd P w K H d kvs ∧ Dp K H (.ref a) e ∧ Pl 8 e ∧ kvs.length < sizeLine ∧ Q (upd H d (ndO P w d ((storeD kvs e a v).map kn)))
theorem set_nd (hu : X.A.units + 9 < cLine) : PSet X (rSetN X.prog X.w X.K) := by
  intro pins s σ H o i v ov iv u Q I ro ri rv h
  obtain ⟨d, a, e, kvs, rfl, rfl, n, he, pl, hl, q⟩ := h
  cases ro
  cases ri
  obtain ⟨hz, hs, xs, pr, dd⟩ := n.heap I
  have hxl : xs.length ≤ sizeLine := by
    rw [← pairedLen pr, List.length_map]
    exact hz
  refine wpAny_setItem_heap (knd := nestedKind X.prog X.w) (by show X.A.in1.units + 8 < cLine; rw [Around.in1_units]; omega) (keyIs I he pl) dd (fun h' dd' sb => ⟨_, ndStored I n rv hl pr hs dd' sb, q⟩) hxl
/-! ### looking up -/
def valN (ks : List KvN) (k : NestedKey) : Option V := (ks.find? fun q => decide (q.1 = k)).map fun q => q.2.2
theorem pairedFind {ks : List KvN} {xs : List (NestedKey × Addr × Value)} (p : Paired rKv ks xs) (k : NestedKey) {v : V} (h : valN ks k = some v) : ∃ q u, atKey xs k = some (q, u) ∧ RelV v u := by
  induction p with
  | nil => cases h
  | @cons x y l r hxy t ih =>
    unfold valN at h ih
    unfold atKey at ih ⊢
    rw [List.find?_cons] at h ⊢
    rw [← hxy.1]
    cases hd : decide (x.1 = k) with
    | true =>
      rw [hd] at h
      have h2 : some x.2.2 = some v := h
      rw [← Option.some.inj h2]
      exact ⟨y.2.1, y.2.2, rfl, hxy.2.2⟩
    | false =>
      rw [hd] at h
      exact ih h
def rIxN (P : Program) (w : World) (K : PySem.W.Frag) : R2 := fun x y H Q => ∃ (d a : Addr) (e : PyData) (kvs : List KvD) (v : V), x = .ref d ∧ y = .ref a ∧ Nd P w K H d kvs ∧ Dp K H (.ref a) e ∧ Pl 8 e ∧ valN (kvs.map kn) (keyD e) = some v ∧ Q v H
theorem ix_nd (hu : X.A.units + 9 < cLine) : IxR X (rIxN X.prog X.w X.K) := by
  intro value slice pins s σ H x y v u Q I rx ry h hs
  obtain ⟨d, a, e, kvs, z, rfl, rfl, n, he, pl, hv, q⟩ := h
  cases rx
  cases ry
  obtain ⟨_, _, xs, pr, dd⟩ := n.heap I
  obtain ⟨b, t, e1, r1⟩ := pairedFind pr _ hv
  have fin : ∀ tk, EP X pins σ Q t { s with toks := tk } := fun tk => ⟨z, H, I.tok tk, r1, q⟩
  exact subscriptTail_builtinR (x := t) (Q := fun r s' => EP X pins σ Q r s') dd.typeIs PySem.slot_dict_getitem.lookup (wpAny_getItem_heap (knd := nestedKind X.prog X.w) (by show X.A.in1.units + 8 < cLine; rw [Around.in1_units]; omega) (keyIs I he pl) dd e1 ⟨rfl, fin _⟩) hs
/-- {} -/
def tDNewN (P : Program) (w : World) : TE := fun _ H Q => ∀ p, H p = none → Q (.ref p) (upd H p (ndO P w p []))
theorem pe_dnewN {pos : Pos} : PE X (.Dict [] [] pos) (tDNewN X.prog X.w) := ⟨fun pins s σ H Q I h =>
  wpAny_Dict_empty ⟨.ref s.heap.objs.size, _, I.laid (a := s.heap.objs.size) (o := ndO X.prog X.w s.heap.objs.size []) (t' := s.toks) (fun _ _ q => Heap.get?_push_of_some _ q) (Nat.le_refl _) (ndNew s.heap I.big), rfl, h _ (I.hok.fresh (Nat.le_refl _))⟩⟩
end
end ND

set_option Elab.async false
set_option linter.all false
set_option maxRecDepth 100000
set_option maxHeartbeats 4000000
/-! {k: v for x in xs}, the keys data -/
namespace ND
open PySem PySem.Spec PyProof.Rows L2
/-- a promise that holds in each block of such a scope -/
def InBlk (X : Cx) (sc : Scope) (F : Cx → Prop) : Prop := ∀ (t : Shared) (G : Hp) (E : Addr) (ces : List (Str × Addr)) (ps : List Addr), F (X.blk t G sc (compEnvC sc ces E X.env) ps)
/-- one turn: what comes of it stands for the next one -/
def turnN (P : Program) (w : World) (K : PySem.W.Frag) (D : Addr) (g : TG) (tk tv : TE) (vs : List Nat) (σ : L2.St) (x : V) (Nx : Hp → Prop) : Hp → Prop := fun G => g x (wipe σ vs) G fun ρ G2 => wipe ρ vs = wipe σ vs ∧ tk ρ G2 fun y G3 => tv ρ G3 fun z G4 =>
  ∃ (kvs : List KvD) (a : Addr) (e : PyData), y = .ref a ∧ Nd P w K G4 D kvs ∧ Dp K G4 (.ref a) e ∧ Pl 8 e ∧ kvs.length < sizeLine ∧ Nx (upd G4 D (ndO P w D ((storeD kvs e a z).map kn)))
def tNdc (P : Program) (w : World) (K : PySem.W.Frag) (wi : TI) (g : TG) (tk tv : TE) (vs : List Nat) : TE := fun σ H Q => wi σ H fun J G => ∀ D, G D = none → ∃ W : Nat → Nat → Hp → Prop, (∃ m, W 0 m (upd G D (ndO P w D []))) ∧ ∀ i m T, W i m T →
  (J.stop i T ∧ Q (.ref D) T) ∨ (J.go i T ∧ ∃ Nx : Hp → Prop, (∀ T', Nx T' → ∃ m', m' < m ∧ W (i + 1) m' T') ∧ ∀ x T', J.yld i T x T' → turnN P w K D g tk tv vs σ x Nx T')
section
variable {X : Cx}
theorem ndc_core {pins : List (Addr × Obj)} {s : Shared} {σ : L2.St} {H : Hp} {Q : VK} {kx vx tg iter : Expr} {sc : Scope} {own : List (Str × Nat)} {pos pos' : Pos} {wi : TI} {g : TG} {tk tv : TE} {use : Option (Value → Sem Unit)} {Qf : Value → Shared → Prop}
    (hu : X.A.units + 8 < cLine) (calm : X.calm = true) (nd : X.N.Nodup) (I : Inv X pins σ H s) (it0 : PI X tg iter wi) (bk : BlkOk X.N X.env.scope sc own) (pG : InBlk X sc fun Y => PG Y tg g) (pK : InBlk X sc fun Y => PE Y kx tk) (pV : InBlk X sc fun Y => PE Y vx tv)
    (fold : ∀ x, foldedSetIterable iter X.env x = pure x) (hq : tNdc X.prog X.w X.K wi g tk tv (own.map (·.2)) σ H Q)
    (out : ∀ D C t m G, Inv X pins σ G t → Q (.ref D) G → t.heap.Ns C m → FpOk X pins G C → compPost (model X.prog X.w) X.A X.xe use Qf (.ref D) C (.ok .next) t) :
    wpAny (model X.prog X.w) X.A (comprehension (.DictComp kx vx [⟨tg, iter, [], 0⟩] sc pos) sc X.env pos' newDict false (eval iter X.env) use) Qf X.xe s := by
  have cells : ∀ y ∈ sc.names, y.2 = .free → ∃ c, X.env.cells.lookup y.1 = some c := by
    intro y hy e
    exact (bk.free y hy e).elim (fun z => I.ok.has _ (.inl z)) fun z => I.ok.has _ (.inr z)
  refine wpAny_comprehension_free (use := use) rfl fold (closure_ok cells) bk.kind (fun y hy e => by rw [bk.uniq y hy, e]) ?_
  refine thn (it0.run pins s σ H _ I hq) fun xv s1 hx => thn hx fun itv s2 ⟨it, fp, tn, J, G, eit, I2, T, st2, f2, q⟩ => ?_
  subst eit
  refine wpAny_newObj_type (newEnv_comp ?_)
  obtain ⟨D, hD⟩ : ∃ D, D = s2.heap.objs.size := ⟨_, rfl⟩
  rw [← hD]
  have free : G D = none := I2.hok.fresh (Nat.le_of_eq hD.symm)
  obtain ⟨W, ⟨m0, w0⟩, turn⟩ := q D free
  obtain ⟨s3, hs3⟩ : ∃ t : Shared, t = { s2 with heap := s2.heap.push { cls := .type "dict", data := .dict #[] } } := ⟨_, rfl⟩
  rw [← hs3]
  have I3 : Inv X pins σ (upd G D (ndO X.prog X.w D [])) s3 := by
    rw [hs3, hD]
    exact I2.laid (t' := s2.toks) (fun b o e => Heap.get?_push_of_some _ e) (Nat.le_refl _) (ndNew s2.heap I2.big)
  have grow : s3.heap = s2.heap.push { cls := .type "dict", data := .dict #[] } := by rw [hs3]
  have below : ∀ b ∈ fp, b < s2.heap.objs.size := fun b hb => (T.obj _ _ st2 b hb).elim fun o e => Heap.lt_size e.1
  have f3 : ∀ b ∈ fp, FpOk X pins (upd G D (ndO X.prog X.w D [])) b ∧ b < s3.heap.objs.size := by
    intro b hb
    have lt := below b hb
    constructor
    · exact ⟨by rw [upd_ne (by rw [hD]; exact Nat.ne_of_lt lt)]; exact (f2 b hb).1, (f2 b hb).2⟩
    · rw [grow, Heap.size_push]
      exact Nat.lt_succ_of_lt lt
  have st3 : tn 0 s3.heap := by
    refine T.keep _ _ _ st2 fun b _ o e => ?_
    rw [grow]
    exact Heap.get?_push_of_some _ e
  have I4 := block_start I3 bk nd f3
  obtain ⟨ce, hce⟩ : ∃ c, c = compEnvC sc (cellsFrom (s3.heap.objs.size + 1) sc.names (cloFrom X.env.cells sc.names [])) s3.heap.objs.size X.env := ⟨_, rfl⟩
  obtain ⟨G3, hG3⟩ : ∃ G3, G3 = upd G D (ndO X.prog X.w D []) := ⟨_, rfl⟩
  have qG : PG (X.blk s3 G3 sc ce fp) tg g := by rw [hce]; exact pG _ _ _ _ _
  have qK : PE (X.blk s3 G3 sc ce fp) kx tk := by rw [hce]; exact pK _ _ _ _ _
  have qV : PE (X.blk s3 G3 sc ce fp) vx tv := by rw [hce]; exact pV _ _ _ _ _
  have loc : ce.locals = s3.heap.objs.size := by rw [hce]; rfl
  obtain ⟨s4, hs4⟩ : ∃ t : Shared, t = { s3 with heap := pushCells (s3.heap.push { cls := .type "dict", data := .dict #[] }) sc.names } := ⟨_, rfl⟩
  rw [← hce, ← hG3, ← hs4] at I4
  rw [← hG3] at I3 w0 f3
  show codeAny _ _ (.compStart (.DictComp kx vx [⟨tg, iter, [], 0⟩] sc pos) 0 (.ref it) (.ref D) (compEnvC sc (cellsFrom (s3.heap.objs.size + 1) sc.names (cloFrom X.env.cells sc.names [])) s3.heap.objs.size X.env)) _ _
  rw [← hce, ← hs4]
  have none3 : ∀ b ∈ fp, G3 b = none := fun b hb => (f3 b hb).1.1
  have st4 : tn 0 s4.heap := by
    refine T.keep _ _ _ st3 fun b _ o e => ?_
    rw [hs4]
    exact pushCells_keeps _ _ _ _ (Heap.get?_push_of_some _ e)
  have fps : ∀ {ρ : L2.St} {G' : Hp} {t : Shared}, Inv (X.blk s3 G3 sc ce fp) [] ρ G' t → (∀ b ∈ fp, G' b = none) → ∀ b ∈ fp, FpOk (X.blk s3 G3 sc ce fp) [] G' b := by
    intro ρ G' t J' hn b hb
    refine ⟨hn b hb, (J'.ok.exf b hb).1, J'.ok.exfs b hb, .inl hb, fun x c e => (J'.ok.exf b hb).2 x c e, fun p hp => ?_⟩
    exact absurd (show p ∈ ([] : List (Addr × Obj)) ++ [] from hp) (by simp)
  suffices loop : codeAny (model X.prog X.w) X.A (.compLoop (.DictComp kx vx [⟨tg, iter, [], 0⟩] sc pos) 0 (.ref it) (.ref D) ce) (compPost (model X.prog X.w) X.A X.xe use Qf (.ref D) s3.heap.objs.size) s4 from codeAny_compStart_dict loop (T.self X.A 0 _ _ _ st4 loop)
  refine compLoop_anyD (fun n t => ∃ i G', Inv (X.blk s3 G3 sc ce fp) [] (wipe σ (own.map (·.2))) G' t ∧ tn i t.heap ∧ (∀ b ∈ fp, G' b = none) ∧ W i n G') (fun n s5 ⟨i, G5, I5, st5, n5, w5⟩ => ?_) m0 ⟨0, G3, I4, st4, none3, w0⟩
  rcases turn i n G5 w5 with ⟨stop, qq⟩ | ⟨go, Nx, hNx, step⟩
  · refine thnF (T.done (X.blk s3 G3 sc ce fp) rfl rfl rfl calm i [] s5 _ G5 (fun _ _ => False) I5 (fps I5 n5) st5 stop) fun r s6 ⟨er, I6⟩ => ?_
    subst er
    have I7 : Inv X pins σ G5 s6 := I3.call' (ch := fp) I6.os I6.base I6.hok I6.bare fun b hb => by
      obtain ⟨⟨_, a1, a2, a3, a4, a5⟩, _⟩ := f3 b hb
      exact ⟨a3, a1, a4, a5⟩
    have nC : G5 s3.heap.objs.size = none := by
      rw [← loc]
      exact I6.free
    obtain ⟨m, hm, _⟩ := I6.loc
    have hm : s6.heap.Ns ce.locals m := hm
    rw [loc] at hm
    exact out D _ s6 m G5 I7 qq hm (I3.fpOk (Nat.le_refl _) nC)
  · refine thnF (T.item (X.blk s3 G3 sc ce fp) rfl rfl rfl calm i [] s5 _ G5 (fun _ _ => False) I5 (fps I5 n5) st5 go) fun r s6 ⟨u, er, h6⟩ => ?_
    subst er
    refine thnF h6 fun _ s7 ⟨x, G7, I7, r7, y7, st7, n7⟩ => ?_
    refine thnF (qG.run _ s7 _ G7 x u _ (I7.pinned (fps I7 n7) (T.obj _ _ st7)) r7 (step x G7 y7)) fun _ s8 ⟨ρ, G8, I8, hw8, q8⟩ => ?_
    refine wpAny_pure ?_
    show wpAny _ _ _ _ _ _
    refine thnF (qK.run _ s8 ρ G8 _ I8 q8) fun kv s9 ⟨y, G9, I9, r9, q9⟩ => ?_
    refine thnF (qV.run _ s9 ρ G9 _ I9 q9) fun vv s10 h10 => ?_
    obtain ⟨z, G10, I10, r10, kvs, a, e, rfl, nN, he, pl, hl, nx⟩ := h10
    cases r9
    refine nd_dictSet (X := X.blk s3 G3 sc ce fp) hu I10 nN he pl r10 hl fun s11 I11 => ?_
    obtain ⟨m', hm, w'⟩ := hNx _ nx
    have pin' : ∀ b ∈ fp, ∀ o, s7.heap.get? b = some o → s11.heap.get? b = some o ∧ upd G10 D (ndO X.prog X.w D ((storeD kvs e a z).map kn)) b = none := fun b hb o e =>
      let c := I11.pin (b, o) (List.mem_append_right _ (List.mem_append_right _ (mem_pinsAt hb e)))
      ⟨c.1, c.2.1⟩
    refine ⟨m', hm, i + 1, _, (I11.unpinned (pins := [])).weak (by rw [← hw8, wipe_length]) (fun j v e => ?_), T.keep _ _ _ st7 fun b hb o e => (pin' b hb o e).1, fun b hb => ?_, w'⟩
    · rw [← hw8] at e
      exact (wipe_some e).1
    · obtain ⟨o, e, _⟩ := T.obj _ _ st7 b hb
      exact (pin' b hb o e).2
theorem pe_ndc {kx vx tg iter : Expr} {sc : Scope} {own : List (Str × Nat)} {pos : Pos} {wi : TI} {g : TG} {tk tv : TE} (hu : X.A.units + 8 < cLine) (calm : X.calm = true) (nd : X.N.Nodup) (it0 : PI X tg iter wi) (bk : BlkOk X.N X.env.scope sc own)
    (pG : InBlk X sc fun Y => PG Y tg g) (pK : InBlk X sc fun Y => PE Y kx tk) (pV : InBlk X sc fun Y => PE Y vx tv) (fold : ∀ x, foldedSetIterable iter X.env x = pure x := by intro _; rfl) :
    PE X (.DictComp kx vx [⟨tg, iter, [], 0⟩] sc pos) (tNdc X.prog X.w X.K wi g tk tv (own.map (·.2))) := by
  refine ⟨fun pins s σ H Q I h => ?_⟩
  rw [arm_eval_DictComp]
  refine ndc_core hu calm nd I it0 bk pG pK pV fold h fun D C t m G I' q hm f => ⟨m, hm, fun h2 sb => ?_⟩
  obtain ⟨f0, f1, f2, f3, f4, f5⟩ := f
  exact ⟨.ref D, G, I'.turned (t' := t.toks) (fun b o hb e => (sb.2 b hb).trans e) f0 f1 f3 f4 f5, rfl, q⟩
end
end ND

set_option Elab.async false
set_option linter.all false
set_option maxRecDepth 100000
set_option maxHeartbeats 4000000
/-! list(d), sorted(xs) of data -/
namespace ND
open PySem PySem.Spec PyProof.Rows L2
theorem rawSrc {prog : Program} {w : World} {d : Addr} {es : Array DictEntry} {ep : Nat} (lo : (d == sysModules) = false) : PySem.W.KdlSrc prog w "dict" d d es.size (fun i v => ∃ hi : i < es.size, v = es[i].key) (fun h => h.DictRaw d es ep) where
  type := fun _ m => m.typeIs
  there := fun h m => by
    obtain ⟨o, ho, _⟩ := m
    exact ⟨Heap.lt_size ho, Heap.lt_size ho⟩
  keep := fun h h' m k => m.at fun o e => k d (.inl rfl) o e
  notList := by decide
  notTuple := by decide
  hint := fun A E s Q m q => PySem.W.kdl_hint_dict m.typeIs q
  iter := fun A s hh m => by
    have lt : d < s.heap.objs.size := by
      obtain ⟨o, ho, _⟩ := m
      exact Heap.lt_size ho
    refine ⟨_, _, fun E Q q => wpAny_pyIter_dict_raw lo m q, Walks.rawKeys hh s.heap.objs.size d (Nat.ne_of_lt lt) es ep, ?_⟩
    exact ⟨⟨_, Heap.get?_push_size _ rfl, rfl, rfl⟩, m.at fun o e => Heap.get?_push_of_some _ e⟩
theorem refsVals : ∀ {l : List Addr} {us : List Value}, us.length = l.length → (∀ (j : Nat) (v : Value), us[j]? = some v → ∃ a, l[j]? = some a ∧ v = .ref a) → Vals (l.map V.ref) us
  | [], [], _, _ => .nil
  | a :: l, u :: us, hl, h => by
    obtain ⟨b, e, rfl⟩ := h 0 u rfl
    cases e
    exact .cons rfl (refsVals (by simpa using hl) fun j v e => by simpa using h (j + 1) v (by simpa using e))
  | [], _ :: _, hl, _ => by simp at hl
  | _ :: _, [], hl, _ => by simp at hl
section
variable {X : Cx}
/-- the keys that a walk over the dict gives -/
theorem keyVals {P : Program} {w : World} {kvs : List KvD} {h : Heap} {xs : List (NestedKey × Addr × Value)} {es : Array DictEntry} {acc : List Value} (pr : Paired rKv (kvs.map kn) xs) (hsz : es.size = xs.length) (hx : ∀ i (hi : i < es.size), ∃ y, xs[i]? = some y ∧ es[i].key = .ref y.2.1 ∧ es[i].val = y.2.2 ∧ (nestedKind P w).is h y.1 y.2.1)
    (hl : acc.length = es.size) (ha : ∀ (j : Nat) (v : Value), acc[j]? = some v → ∃ hi : j < es.size, v = es[j].key) : Vals (kvs.map fun q => V.ref q.2.1) acc := by
  have at1 : ∀ {ks : List KvN} {xs : List (NestedKey × Addr × Value)}, Paired rKv ks xs → ∀ (j : Nat) (y : NestedKey × Addr × Value), xs[j]? = some y → ∃ q, ks[j]? = some q ∧ q.2.1 = y.2.1 := by
    intro ks xs p
    induction p with
    | nil => intro j y e; cases j <;> cases e
    | cons h t ih =>
      intro j y e
      cases j with
      | zero => cases e; exact ⟨_, rfl, h.2.1⟩
      | succ j => exact ih j y (by simpa using e)
  have e : (kvs.map fun q => V.ref q.2.1) = (kvs.map fun q => q.2.1).map V.ref := by rw [List.map_map]; rfl
  rw [e]
  refine refsVals ?_ fun j v hv => ?_
  · have := pairedLen pr
    rw [List.length_map] at this ⊢
    omega
  · obtain ⟨hi, rfl⟩ := ha j v hv
    obtain ⟨y, e1, e2, _, _⟩ := hx j hi
    obtain ⟨q, e3, e4⟩ := at1 pr j y e1
    rw [List.getElem?_map] at e3
    cases e5 : kvs[j]? with
    | none => rw [e5] at e3; cases e3
    | some p =>
      rw [e5] at e3
      have e6 : kn p = q := Option.some.inj e3
      refine ⟨p.2.1, by rw [List.getElem?_map, e5]; rfl, ?_⟩
      rw [e2, ← e4, ← e6]
      rfl
theorem call_listN (calm : X.calm = true) : CallR X (.type "list") (fun xs H Q => ∃ (a : Addr) (kvs : List KvD), xs = [.ref a] ∧ Nd X.prog X.w X.K H a kvs ∧ ∀ p, H p = none → Q (.ref p) (upd H p (.lst (kvs.map fun q => .ref q.2.1)))) := by
  intro pins s σ H xs us Q I r q
  obtain ⟨a, kvs, rfl, n, q⟩ := q
  obtain ⟨u, rfl, rx⟩ := vals1 r
  cases rx
  obtain ⟨hz, lo, ys, pr, dd⟩ := n.heap I
  obtain ⟨es, ep, raw, hsz, hx⟩ := dd.raw
  have hy : ys.length = kvs.length := by
    have := pairedLen pr
    rw [List.length_map] at this
    omega
  refine PySem.W.kdl_call (rawSrc (es := es) (ep := ep) lo) (I.ok.hd calm) raw (by omega) fun h' tk acc c' hk hD hacc => ?_
  have hv := keyVals (acc := acc.toList) pr hsz hx (by rw [Array.length_toList]; exact hacc.1) fun j v e => hacc.2 j v (by rw [← Array.getElem?_toList]; exact e)
  refine ⟨.ref s.heap.objs.size, upd H s.heap.objs.size (.lst (kvs.map fun q => .ref q.2.1)), I.laid (t' := tk) hk (Nat.le_refl _) ?_, rfl, q _ (I.hok.fresh (Nat.le_refl _))⟩
  exact ⟨by rw [List.length_map]; exact hz, acc.toList, c', hv, by rw [Array.toArray_toList]; exact hD⟩
/-! ### sorted(xs), xs data -/
abbrev Bd := V × PyData
theorem valsEach : ∀ {bs : List Bd} {us : List Value}, Vals (bs.map (·.1)) us → PySem.W.EachIs (fun u (b : Bd) => RelV b.1 u) us bs
  | [], [], _ => .nil
  | b :: bs, u :: us, .cons r t => .cons r (valsEach t)
theorem eachVals : ∀ {bs : List Bd} {us : List Value}, PySem.W.EachIs (fun u (b : Bd) => RelV b.1 u) us bs → Vals (bs.map (·.1)) us
  | [], [], _ => .nil
  | b :: bs, u :: us, .cons r t => .cons r (eachVals t)
theorem eachReads {pins : List (Addr × Obj)} {σ : L2.St} {H : Hp} {s : Shared} (I : Inv X pins σ H s) : ∀ {bs : List Bd} {us : List Value}, (∀ b ∈ bs, Dp X.K H b.1 b.2) → Vals (bs.map (·.1)) us → PySem.W.EachIs (fun u (b : Bd) => ∃ as, Reads s.heap u b.2 as) us bs
  | [], [], _, _ => .nil
  | b :: bs, u :: us, h, .cons r t => .cons (Dp.reads I b.2 b.1 u (h b List.mem_cons_self) r) (eachReads I (fun c hc => h c (List.mem_cons_of_mem _ hc)) t)
def sortB (bs : List Bd) : List Bd := bs.mergeSort (PySem.W.dataLe false fun b : Bd => b.2)
def rSortedDt (K : PySem.W.Frag) : List V → Hp → VK → Prop := fun vs H Q => ∃ (a : Addr) (bs : List Bd), vs = [.ref a] ∧ SqL K H a (bs.map (·.1)) ∧ (∀ b ∈ bs, Dp K H b.1 b.2) ∧ PySem.W.AllAlike (bs.map (·.2)) ∧ PySem.W.Sortable (bs.map (·.2)) ∧ (∀ b ∈ bs, b.2.depth ≤ 8) ∧
  ∀ p, H p = none → Q (.ref p) (upd H p (.lst ((sortB bs).map (·.1))))
theorem cr_sortedDt (hu : X.A.units + 12 < cLine) : CallR X (.builtin "sorted") (rSortedDt X.K) := by
  intro pins s σ H vs us Q I r h
  obtain ⟨a, bs, rfl, hs, hd, al, so, dp, q⟩ := h
  obtain rfl := Vals.ref1 r
  obtain ⟨its, rv, hl, hz⟩ := I.list hs
  rw [List.length_map] at hz
  refine PySem.W.sorted_data (enc := fun b : Bd => b.2) (R := fun u (b : Bd) => RelV b.1 u) hl.isList (valsEach rv) (eachReads I hd rv) al so hz (fun b hb => by have := dp b hb; omega) fun out ol oe => ?_
  obtain ⟨ep, he⟩ := PyProof.Rows.sortedAll_at s.heap its (List.toArray out)
  refine ⟨.ref _, upd H (s.heap.objs.size + 1) (.lst ((sortB bs).map (·.1))), I.laid (t' := s.toks) (fun _ _ => PyProof.Rows.sortedAll_old) (Nat.le_succ _) ⟨?_, out, ep, eachVals oe, he⟩, rfl, q _ (I.hok.fresh (Nat.le_succ _))⟩
  rw [List.length_map]
  unfold sortB
  rw [List.length_mergeSort]
  exact hz
end
end ND

set_option Elab.async false
set_option linter.all false
set_option maxRecDepth 100000
set_option maxHeartbeats 4000000
/-! sorted(.., key=f), f a def of one's own: its calls may touch the slots of the frames that wait -/
namespace ND
open PySem PySem.W PySem.Calls PyProof.Rows
/-- all but a stands, of the frames fs all but the slots -/
def SkB (fs : List Addr) (a : Addr) (h h' : Heap) : Prop := ∀ b o, b ≠ a → h.get? b = some o → (b ∉ fs → h'.get? b = some o) ∧ ∃ sl, h'.get? b = some { o with slots := sl }
def Sk (fs : List Addr) (h h' : Heap) : Prop := ∀ b o, h.get? b = some o → (b ∉ fs → h'.get? b = some o) ∧ ∃ sl, h'.get? b = some { o with slots := sl }
theorem Sk.of {fs : List Addr} {h h' : Heap} (k : ∀ b o, h.get? b = some o → h'.get? b = some o) : Sk fs h h' := fun b o e => ⟨fun _ => k b o e, o.slots, k b o e⟩
theorem SkB.of {fs : List Addr} {a : Addr} {h h' : Heap} (k : ∀ b o, b ≠ a → h.get? b = some o → h'.get? b = some o) : SkB fs a h h' := fun b o n e => ⟨fun _ => k b o n e, o.slots, k b o n e⟩
theorem Sk.trans {fs : List Addr} {h h1 h2 : Heap} (x : Sk fs h h1) (y : Sk fs h1 h2) : Sk fs h h2 := fun b o e => by
  obtain ⟨k, sl, e1⟩ := x b o e
  obtain ⟨_, sl2, e2⟩ := y b _ e1
  exact ⟨fun nb => (y b o (k nb)).1 nb, sl2, e2⟩
theorem SkB.trans {fs : List Addr} {a : Addr} {h h1 h2 : Heap} (x : SkB fs a h h1) (y : Sk fs h1 h2) : SkB fs a h h2 := fun b o n e => by
  obtain ⟨k, sl, e1⟩ := x b o n e
  obtain ⟨_, sl2, e2⟩ := y b _ e1
  exact ⟨fun nb => (y b o (k nb)).1 nb, sl2, e2⟩
theorem SkB.but {fs : List Addr} {a c : Addr} {h h1 h2 : Heap} (x : SkB fs a h h1) (y : ∀ b o, b ≠ c → h1.get? b = some o → h2.get? b = some o) (hc : h.get? c = none ∨ c = a) : SkB fs a h h2 := fun b o n e => by
  have bc : b ≠ c := fun z => by
    rcases hc with hc | hc
    · rw [z, hc] at e; cases e
    · exact n (z.trans hc)
  obtain ⟨k, sl, e1⟩ := x b o n e
  exact ⟨fun nb => y b o bc (k nb), sl, y b _ bc e1⟩
/-- data without lists reads on while the tuples stand but for slots -/
theorem readsMv {h h' : Heap} (k : ∀ b o, h.get? b = some o → o.cls = .type "tuple" → ∃ sl, h'.get? b = some { o with slots := sl }) {n : Nat} {d : PyData} (pl : Pl n d) : ∀ (v : Value) (as : List Addr), Reads h v d as → Reads h' v d as := by
  induction pl with
  | non => intro v as r; cases r; exact .none
  | int => intro v as r; cases r; exact .int _ _
  | str => intro v as r; cases r; exact .str _ _
  | @tup n ds hd ih =>
    intro v as r
    cases r with
    | @tuple a o vs m xs as h1 h2 h3 h4 =>
      obtain ⟨sl, e⟩ := k _ _ h1 h2
      have all : ∀ (l : List PyData) (us : List Value) (as : List Addr), (∀ d ∈ l, ∀ (v : Value) (as : List Addr), Reads h v d as → Reads h' v d as) → ReadsAll h us l as → ReadsAll h' us l as := by
        intro l
        induction l with
        | nil => intro us as _ r; cases r; exact .nil
        | cons x l il =>
          intro us as hl r
          cases r with
          | cons r1 r2 => exact .cons (hl x List.mem_cons_self _ _ r1) (il _ _ (fun d hd => hl d (List.mem_cons_of_mem _ hd)) r2)
      exact .tuple e h2 h3 (all ds _ _ ih h4)
/-- a heap without the object at k -/
def gone (h : Heap) (k : Addr) : Heap := { h with objs := h.objs.setIfInBounds k { cls := .none, data := .freed } }
theorem gone_self (h : Heap) (k : Addr) : (gone h k).get? k = none := by
  unfold gone Heap.get?
  by_cases hk : k < h.objs.size
  · simp [hk]
  · simp [hk]
theorem gone_ne (h : Heap) {k b : Addr} (n : b ≠ k) : (gone h k).get? b = h.get? b := by
  unfold gone Heap.get?
  simp [Array.getElem?_setIfInBounds, Ne.symm n]
section
variable {prog : Program} {w : World} {A : Around} {E : Value → Shared → Prop} {s : Shared} {a kS : Addr} {vs : List Value} {kz : List PyData} {b : Bool} {f : Value} {e1 : Nat} {P : PySem.Fin → Shared → Prop} {fs : List Addr}
/-- what a call of f at k gives -/
def KeyAt (fs : List Addr) (s s0 : Shared) (k : PyData) (r : Value) (s1 : Shared) : Prop := s1.os = s.os ∧ AllBare s1.gens ∧ Sk fs s0.heap s1.heap ∧ Reads s1.heap r k []
theorem keyFold {h1 : Heap} (bare : AllBare s.gens) (sk : SkB fs a h1 s.heap) (hkS : h1.get? kS = none) (nk : s.heap.get? kS = some (seqObj "list" #[] 0)) (na : s.heap.get? a = some (seqObj "list" #[] e1)) (hka : kS ≠ a) (afs : a ∉ fs) (kfs : kS ∉ fs)
    (hlen : kz.length = vs.length) (hZ : vs.length ≤ sizeLine) (hal : AllAlike kz) (hsk : Sortable kz) (hpl : ∀ k ∈ kz, ∃ n, Pl n k) (hu : ∀ d, d ∈ kz → A.units + d.depth < cLine)
    (turn : ∀ (i : Nat) (v : Value) (k : PyData), vs[i]? = some v → kz[i]? = some k → ∀ s0 : Shared, s0.os = s.os → AllBare s0.gens → SkB fs a h1 s0.heap → wpAny (model prog w) A (call f [v]) (KeyAt fs s s0 k) (fun _ _ => False) s0)
    (fin : ∀ (s1 : Shared) (out : List Value) (c : Nat), s1.os = s.os → AllBare s1.gens → SkB fs a h1 s1.heap → s1.heap.get? a = some (seqObj "list" (List.toArray out) c) → KeyedOut b kz vs out → P (.done (.ret .none)) s1) :
    wpAny (model prog w) A (ksk_rest a f b vs.toArray e1 (.ref kS)) P E s := by
  unfold ksk_rest
  refine wpAny_bind (wpAny_rule ?_)
  first
    | rw [List.forIn_toArray]
    | (rw [← Array.forIn_toList]; simp only [List.toList_toArray])
  refine wpAny_bind (ksk_fold (fun i t => t.os = s.os ∧ AllBare t.gens ∧ SkB fs a h1 t.heap ∧ ∃ kA e, t.heap.get? kS = some (seqObj "list" kA e) ∧ t.heap.get? a = some (seqObj "list" #[] e1) ∧ EachIs (fun v k => Reads t.heap v k []) kA.toList (kz.take i)) vs 0 s
    ⟨rfl, bare, sk, #[], 0, nk, na, by rw [List.take_zero]; exact EachIs.nil⟩ (fun j x t hx inv => ?_) fun t inv => ?_)
  · obtain ⟨os, bg, kp, kA, e, nk', na', hk⟩ := inv
    simp only [Nat.zero_add] at hk ⊢
    have hj : j < vs.length := (List.getElem?_eq_some_iff.mp hx).1
    have hj2 : j < kz.length := by omega
    have hkj : kz[j]? = some kz[j] := List.getElem?_eq_getElem hj2
    have hz : kA.size ≤ vs.length := by
      have h1 := hk.length
      rw [Array.length_toList, List.length_take] at h1
      omega
    refine wpAny_bind (wpAny_attempt (wpAny_mono (turn j x kz[j] hx hkj t os bg kp) (fun v t2 he => ?_) fun _ _ hF => hF.elim))
    obtain ⟨os2, bg2, sk2, hr⟩ := he
    try dsimp only
    have nk2 : t2.heap.get? kS = some (seqObj "list" kA e) := (sk2 _ _ nk').1 kfs
    have na2 : t2.heap.get? a = some (seqObj "list" #[] e1) := (sk2 _ _ na').1 afs
    have sb := Heap.SameBut.update t2.heap kS (Obj.mapSeq (·.push v))
    obtain ⟨c2, hc2⟩ : ∃ c2, (t2.heap.update kS (Obj.mapSeq (·.push v))).get? kS = some (seqObj "list" (kA.push v) c2) := ⟨_, get?_update_seq nk2 (·.push v)⟩
    refine wpAny_bind (listUpdate_at nk2 rfl ?_ (Nat.le_trans hz hZ) (Nat.le_trans (Nat.le_of_eq (Array.size_push ..)) (Nat.succ_le_succ (Nat.le_trans hz hZ))))
    have stay : ∀ b o, b ≠ kS → t2.heap.get? b = some o → (t2.heap.update kS (Obj.mapSeq (·.push v))).get? b = some o := fun b o nb e => (sb.2 b nb).trans e
    have tupS : ∀ b o, t2.heap.get? b = some o → o.cls = .type "tuple" → ∃ sl, (t2.heap.update kS (Obj.mapSeq (·.push v))).get? b = some { o with slots := sl } := fun b o e ct => by
      refine ⟨o.slots, stay b o (fun z => ?_) e⟩
      rw [z, nk2] at e
      rw [← Option.some.inj e] at ct
      have c2 : Value.type "list" = Value.type "tuple" := ct
      injection c2 with c3
      exact absurd c3 (by decide)
    have all : ∀ k ∈ kz, ∀ u, Reads t2.heap u k [] → Reads (t2.heap.update kS (Obj.mapSeq (·.push v))) u k [] := fun k hk u r => (hpl k hk).elim fun n pl => readsMv tupS pl u [] r
    refine wpAny_pure ⟨rfl, os2, bg2, (kp.trans sk2).but stay (.inl hkS), kA.push v, c2, hc2, stay _ _ hka.symm na2, ?_⟩
    have ek : kz.take (j + 1) = kz.take j ++ [kz[j]] := by rw [List.take_add_one, hkj]; simp
    have ea : (kA.push v).toList = kA.toList ++ [v] := by simp
    rw [ea, ek]
    have old : ∀ {us : List Value} {ks : List PyData}, (∀ k ∈ ks, k ∈ kz) → EachIs (fun v k => Reads t.heap v k []) us ks → EachIs (fun u k => Reads (t2.heap.update kS (Obj.mapSeq (·.push v))) u k []) us ks := by
      intro us ks hm h
      induction h with
      | nil => exact .nil
      | cons r _ ih =>
        refine .cons ?_ (ih fun k hk => hm k (List.mem_cons_of_mem _ hk))
        have mk := hm _ List.mem_cons_self
        refine all _ mk _ ?_
        obtain ⟨n, pl⟩ := hpl _ mk
        exact readsMv (fun b o e _ => (sk2 b o e).2) pl _ [] r
    exact each_snoc (R := fun (u : Value) (d : PyData) => Reads (t2.heap.update kS (Obj.mapSeq (·.push v))) u d []) (all _ (List.getElem_mem hj2) _ hr) (old (fun k hk => List.mem_of_mem_take hk) hk)
  · obtain ⟨os, bg, kp, kA, e, nk', na', hk⟩ := inv
    have e3 : kz.take (0 + vs.length) = kz := List.take_of_length_le (by omega)
    rw [e3] at hk
    have hk2 : EachIs (fun v k => ∃ as, Reads t.heap v k as) kA.toList kz := hk.mono fun v k q => ⟨[], q⟩
    have hsz : kA.size = vs.length := by
      have h1 := hk2.length
      rw [Array.length_toList] at h1
      omega
    try dsimp only
    refine wpAny_bind (listItems_at nk' rfl ?_)
    refine keyH_end (s := t) (κ := dataKind t.heap kz) (h₁ := gone t.heap kS) (fun b o nb q => ?_) (gone_self _ _) nk' na' hka (SortsAt.data (s := t) hk2 hal hsk hu) hsz hZ fun h3 tk3 c k3 n3 => ?_
    · by_cases z : b = kS
      · rw [z, gone_self] at q; cases q
      · rw [gone_ne _ z] at q; exact q
    · refine fin { t with heap := h3, toks := tk3 } _ c os bg ?_ n3 ⟨t.heap, kA.toList, hal, rfl, hk2⟩
      intro b o nb q
      have nbk : b ≠ kS := fun z => by rw [z, hkS] at q; cases q
      obtain ⟨k, sl, q1⟩ := kp b o nb q
      refine ⟨fun nf => k3 b o nb (by rw [gone_ne _ nbk]; exact k nf), sl, k3 b _ nb (by rw [gone_ne _ nbk]; exact q1)⟩
theorem keyTree {n : Nat} (bare : AllBare s.gens) (ho : s.heap.get? a = some (seqObj "list" vs.toArray n)) (afs : a ∉ fs) (old : ∀ b ∈ fs, b < s.heap.objs.size) (hlen : kz.length = vs.length) (hZ : vs.length ≤ sizeLine) (hal : AllAlike kz) (hsk : Sortable kz) (hpl : ∀ k ∈ kz, ∃ n, Pl n k)
    (hu : ∀ d, d ∈ kz → A.units + d.depth < cLine)
    (turn : ∀ (i : Nat) (v : Value) (k : PyData), vs[i]? = some v → kz[i]? = some k → ∀ s0 : Shared, s0.os = s.os → AllBare s0.gens → SkB fs a s.heap s0.heap → wpAny (model prog w) A (call f [v]) (KeyAt fs s s0 k) (fun _ _ => False) s0)
    (fin : ∀ (s1 : Shared) (out : List Value) (c : Nat), s1.os = s.os → AllBare s1.gens → SkB fs a s.heap s1.heap → s1.heap.get? a = some (seqObj "list" (List.toArray out) c) → KeyedOut b kz vs out → P (.done (.ret .none)) s1) :
    wpAny (model prog w) A (ksk_tree a f b) P E s := by
  have lt : a < s.heap.objs.size := Heap.lt_size ho
  obtain ⟨e1, ho1⟩ : ∃ e1, (s.heap.update a (Obj.mapSeq fun _ => (#[] : Array Value))).get? a = some (seqObj "list" #[] e1) := ⟨_, get?_update_seq ho fun _ => #[]⟩
  have big : ((s.heap.update a (Obj.mapSeq fun _ => (#[] : Array Value))).push (seqObj "tuple" vs.toArray 0)).objs.size = s.heap.objs.size + 1 := by rw [size_push', Heap.size_update]
  unfold ksk_tree
  refine wpAny_bind (listItems_at ho rfl (wpAny_bind (listUpdate_at ho rfl ?_ (by rw [List.size_toArray]; exact hZ) (Nat.zero_le _))))
  refine wpAny_bind (seqEpoch_at ho1 rfl (wpAny_bind (wpAny_newTuple ?_ (by show vs.length ≤ _; exact hZ))))
  refine wpAny_bind (wpAny_newList (wpAny_holding ?_) (Nat.zero_le _))
  refine keyFold (s := { s with heap := sortingHeap s.heap a vs }) (h1 := s.heap) bare (SkB.of fun b o nb q => sortingHeap_old nb q) ?_ (Heap.get?_push_size _ rfl) (Heap.get?_push_of_some _ (Heap.get?_push_of_some _ ho1)) ?_ afs ?_ hlen hZ hal hsk hpl hu turn fin
  · exact Heap.get?_none_of_le (by rw [big]; exact Nat.le_succ _)
  · rw [big]; exact Nat.ne_of_gt (Nat.lt_succ_of_lt lt)
  · intro z
    have := old _ z
    rw [big] at this
    exact absurd (Nat.lt_of_succ_lt this) (Nat.lt_irrefl _)
end
end ND

set_option Elab.async false
set_option linter.all false
set_option maxRecDepth 100000
set_option maxHeartbeats 4000000
/-! sorted(d, key=f) over the layer: d a dict whose keys are data, f a def of one's own that looks at a key and gives data -/
namespace ND
open PySem PySem.Spec PyProof.Rows L2
/-- the tuples of H as they stand, all else unknown -/
def frzT (H : Hp) (h : Heap) : Hp := fun b => match H b with
  | some (.tup xs) => (h.get? b).map fun o => .frz o (.tup xs)
  | some (.frz o (.tup xs)) => some (.frz o (.tup xs))
  | _ => none
theorem frzT_some {H : Hp} {h : Heap} {b : Addr} {u : HO} (e : frzT H h b = some u) : ∃ o xs, u = .frz o (.tup xs) ∧ ((H b = some (.tup xs) ∧ h.get? b = some o) ∨ H b = some (.frz o (.tup xs))) := by
  unfold frzT at e
  split at e
  · next xs hb =>
    cases hg : h.get? b with
    | none => rw [hg] at e; cases e
    | some o =>
      rw [hg] at e
      exact ⟨o, xs, (Option.some.inj e).symm, .inl ⟨hb, rfl⟩⟩
  · next o xs hb => exact ⟨o, xs, (Option.some.inj e).symm, .inr hb⟩
  · cases e
theorem frzT_none {H : Hp} {h : Heap} {b : Addr} (e : H b = none) : frzT H h b = none := by
  unfold frzT
  rw [e]
section
variable {P : Program} {w : World} {H : Hp} {h : Heap}
theorem frzT_ok (hok : HOk P w H h) : HOk P w (frzT H h) h := fun b u e => by
  obtain ⟨o, xs, rfl, ⟨e1, e2⟩ | e1⟩ := frzT_some e
  · exact ⟨e2, hok b _ e1⟩
  · obtain ⟨q1, q2⟩ := hok b _ e1
    exact ⟨q1, q2⟩
theorem frzT_sq {K : PySem.W.Frag} (hok : HOk P w H h) {a : Addr} {xs : List V} (q : SqT K H a xs) : SqT K (frzT H h) a xs := by
  rcases q with (q | ⟨o, q⟩) | q
  · obtain ⟨_, _, _, o, ho, _⟩ := hok a _ q
    refine .inl (.inr ⟨o, ?_⟩)
    unfold frzT
    rw [q, ho]
    rfl
  · refine .inl (.inr ⟨o, ?_⟩)
    unfold frzT
    rw [q]
  · exact .inr q
end
theorem allSq {K : PySem.W.Frag} {H H' : Hp} : ∀ {ds : List PyData} {xs : List V}, (∀ d ∈ ds, ∀ v, Dp K H v d → Dp K H' v d) → DpAll K H xs ds → DpAll K H' xs ds
  | _, _, _, .nil => .nil
  | _, _, k, .cons h r => .cons (k _ List.mem_cons_self _ h) (allSq (fun d hd => k d (List.mem_cons_of_mem _ hd)) r)
theorem dpSq {K : PySem.W.Frag} {H H' : Hp} (k : ∀ a xs, SqT K H a xs → SqT K H' a xs) {n : Nat} {d : PyData} (o : Pl n d) : ∀ v, Dp K H v d → Dp K H' v d := by
  induction o with
  | non n => intro v h; cases h; exact .non
  | int n i => intro v h; cases h; exact .int _
  | str n z => intro v h; cases h; exact .str _
  | tup h ih =>
    intro v hv
    cases hv with
    | tup hx hd => exact .tup (k _ _ hx) (allSq ih hd)
/-- data of the layer reads, without an Inv -/
theorem readsOf {P : Program} {w : World} {K : PySem.W.Frag} {H : Hp} {h : Heap} (kin : K.In h) (hok : HOk P w H h) {n : Nat} {d : PyData} (pl : Pl n d) : ∀ (v : V) (u : Value), Dp K H v d → RelV v u → Reads h u d [] := by
  induction pl with
  | non => intro v u hd r; cases hd; cases r; exact .none
  | int n i => intro v u hd r; cases hd; obtain ⟨t, rfl⟩ := r; exact .int i t
  | str n z => intro v u hd r; cases hd; obtain ⟨t, rfl⟩ := r; exact .str z t
  | @tup n ds hl ih =>
    intro v u hd r
    cases hd with
    | @tup a xs _ hs ha =>
      cases r
      have tup : ∃ its : List Value, Vals xs its ∧ ∃ o n, h.get? a = some o ∧ o.cls = .type "tuple" ∧ o.data = .seq its.toArray n := by
        rcases hs with q | ⟨o, its, n, hk, hc, hs, hz, r⟩
        · obtain ⟨z, its, r, o, ho, hc, n, hd⟩ := q.ok hok
          exact ⟨its, r, o, n, ho, hc, hd⟩
        · exact ⟨its.toList, r, o, n, kin a o hk, hc, by simpa using hs⟩
      obtain ⟨its, rv, o, m, ho, hc, hdt⟩ := tup
      have all : ∀ (l : List PyData) (vs : List V) (us : List Value), (∀ d ∈ l, ∀ (v : V) (u : Value), Dp K H v d → RelV v u → Reads h u d []) → DpAll K H vs l → Vals vs us → ReadsAll h us l [] := by
        intro l
        induction l with
        | nil => intro vs us _ ha r; cases ha; cases r; exact .nil
        | cons x l il =>
          intro vs us hl ha r
          cases ha with
          | cons h1 h2 =>
            cases r with
            | cons r1 r2 => exact ReadsAll.cons (as := []) (bs := []) (hl x List.mem_cons_self _ _ h1 r1) (il _ _ (fun d hd => hl d (List.mem_cons_of_mem _ hd)) h2 r2)
      exact .tuple ho hc hdt (by simpa using all ds _ its ih ha rv)
/-- a look at data that gives data -/
def spKey (K : PySem.W.Frag) (p : PyData → Prop) (k : PyData → PyData) : Sp := fun vs H Q _ => ∃ v d, vs = [v] ∧ Dp K H v d ∧ p d ∧ ∀ r H', (∀ a o, H a = some o → H' a = some o) → Dp K H' r (k d) → Q r H'
section
variable {X : Cx} {pins : List (Addr × Obj)} {σ : L2.St} {H : Hp} {s : Shared}
/-- the frames that wait are no part of the base, the layer's heap -/
theorem baseFree (I : Inv X pins σ H s) {b : Addr} {o : Obj} (e : X.base.get? b = some o) : b ∉ frs X.stack := fun hb => by
  have := (I.stack.mem hb).1
  rw [e] at this
  cases this
theorem invAt (I : Inv X pins σ H s) {s0 : Shared} (os : s0.os = s.os) (bare : AllBare s0.gens) (sk : Sk (frs X.stack) s.heap s0.heap) : Inv X pins σ H s0 := by
  refine I.call' (ch := []) os ⟨fun b o e n nf _ => (sk b o e).1 nf, fun b o e n hf _ => (sk b o e).2, fun b o e n _ => n, fun b o e _ => ?_, fun _ _ e => e, fun _ _ _ e => e, fun b ps e => ⟨#[], by rw [Array.append_empty]; exact e⟩⟩ (fun a u e => ?_) bare (fun b z => absurd z (by simp))
  · obtain ⟨sl, q⟩ := (sk b o e).2
    exact ⟨_, q⟩
  · refine (I.hok a u e).stay (fun b q hb eb => (sk b q eb).1 fun z => ?_) (fun _ q => q) fun _ _ q => q
    have nb := I.stkFree b z
    rcases hb with rfl | hb
    · rw [e] at nb; cases nb
    · rw [hb] at nb; cases nb
theorem keyCall {P0 : Shared} {n m : Nat} {f : Addr} {fd : FuncData} {x : Str} {p : PyData → Prop} {k : PyData → PyData} (F : FnOk X.prog X.w X.K X.mg X.base CX0 n f fd [x] (spKey X.K p k)) (hr : Room n X.A.in1.in1) (hb : Binds X.K fd [x] []) (I : Inv X pins σ H s) (os : s.os = P0.os)
    {v : V} {u : Value} {d : PyData} (dp : Dp X.K H v d) (pl : Pl 8 d) (hp : p d) (pk : Pl m (k d)) (r : RelV v u) : wpAny (model X.prog X.w) X.A.in1.in1 (call (.ref f) [u]) (KeyAt (frs X.stack) P0 s (k d)) (fun _ _ => False) s := by
  have e0 := I.env0
  have ok := frzT_ok I.hok
  have env : Env0 X.prog X.w X.K X.mg X.base X.A.in1.in1 X.stack s (frzT H s.heap) := ⟨e0.frames, e0.mod, fun b o e => ⟨(e0.bs b o e).1, frzT_none (e0.bs b o e).2⟩, e0.bsz, e0.funs, fun b hb => frzT_none (e0.frf b hb), ok, e0.bare⟩
  have dp2 := dpSq (fun a xs q => frzT_sq (K := X.K) I.hok q) pl _ dp
  have run := F.run X.A.in1.in1 X.stack s (frzT H s.heap) ⟨[u], []⟩ [u] [v] (fun r H' => (∀ a o, frzT H s.heap a = some o → H' a = some o) ∧ Dp X.K H' r (k d)) (fun _ _ _ => False) hr env (hb s [u] I.kIn rfl) (.cons r .nil) ⟨v, d, rfl, dp2, hp, fun r H' same dr => ⟨same, dr⟩⟩
  refine wpAny_call (codeAny_mono run fun res s1 hq => ?_)
  cases res with
  | error e => exact False.elim hq
  | ok fl =>
    cases fl with
    | ret y =>
      obtain ⟨z, H', os1, bare, un, hok, rz, same, dz⟩ := hq
      have sk : Sk (frs X.stack) s.heap s1.heap := fun b o e => by
        cases hf : frzT H s.heap b with
        | none =>
          refine ⟨fun nf => un.keep b o e hf nf (by simp), ?_⟩
          by_cases hb : b ∈ frs X.stack
          · exact un.slot b o e hf hb (by simp)
          · exact ⟨o.slots, un.keep b o e hf hb (by simp)⟩
        | some q =>
          obtain ⟨o', xs, rfl, _⟩ := frzT_some hf
          have e1 := (hok b _ (un.frzs _ _ _ hf)).1
          have e2 := (ok b _ hf).1
          rw [e] at e2
          have e3 := Option.some.inj e2
          subst e3
          exact ⟨fun _ => e1, o.slots, e1⟩
      have kin : X.K.In s1.heap := fun a o hk => by
        have hbase := I.ok.mod.kin a o hk
        exact (sk a o (I.kIn a o hk)).1 (baseFree I hbase)
      exact ⟨os1.trans os, bare, sk, readsOf kin hok pk z y dz rz⟩
    | next => exact False.elim hq
    | brk => exact False.elim hq
    | cont => exact False.elim hq
end
end ND

set_option Elab.async false
set_option linter.all false
set_option maxRecDepth 100000
set_option maxHeartbeats 4000000
namespace ND
open PySem PySem.Spec PyProof.Rows L2
def sortK (k : PyData → PyData) (kvs : List KvD) : List KvD := kvs.mergeSort (PySem.W.dataLe false fun q : KvD => k q.1)
def rSortNK (P : Program) (w : World) (K : PySem.W.Frag) (f : Addr) (p : PyData → Prop) (k : PyData → PyData) : List V → List V → Hp → VK → Prop := fun vs zs H Q => ∃ (d : Addr) (kvs : List KvD), vs = [.ref d] ∧ zs = [.ref f] ∧ Nd P w K H d kvs ∧ (∀ q ∈ kvs, p q.1) ∧ (∀ q ∈ kvs, Pl 8 (k q.1)) ∧
  PySem.W.AllAlike (kvs.map fun q => k q.1) ∧ PySem.W.Sortable (kvs.map fun q => k q.1) ∧ ∀ l, H l = none → Q (.ref l) (upd H l (.lst ((sortK k kvs).map fun q => .ref q.2.1)))
theorem plDepth {n : Nat} {d : PyData} (h : Pl n d) : d.depth ≤ n := by
  induction h with
  | non => simp [PyData.depth]
  | int => simp [PyData.depth]
  | str => simp [PyData.depth]
  | @tup n ds h ih =>
    have all : ∀ l : List PyData, (∀ d ∈ l, d.depth ≤ n) → PyData.depthAll l ≤ n := by
      intro l
      induction l with
      | nil => intro _; simp [PyData.depthAll]
      | cons x l il =>
        intro hl
        have h1 := hl x List.mem_cons_self
        have h2 := il fun d hd => hl d (List.mem_cons_of_mem _ hd)
        simp only [PyData.depthAll]
        omega
    have := all ds ih
    simp only [PyData.depth]
    omega
theorem eachKv : ∀ {kvs : List KvD} {us : List Value}, Vals (kvs.map fun q => V.ref q.2.1) us → PySem.W.EachIs (fun u (q : KvD) => RelV (.ref q.2.1) u) us kvs
  | [], [], _ => .nil
  | q :: kvs, u :: us, .cons r t => .cons r (eachKv t)
theorem kvEach : ∀ {kvs : List KvD} {us : List Value}, PySem.W.EachIs (fun u (q : KvD) => RelV (.ref q.2.1) u) us kvs → Vals (kvs.map fun q => V.ref q.2.1) us
  | [], [], _ => .nil
  | q :: kvs, u :: us, .cons r t => .cons r (kvEach t)
theorem valsAt {α : Type} {g : α → V} : ∀ {l : List α} {us : List Value}, Vals (l.map g) us → ∀ (i : Nat) (v : Value), us[i]? = some v → ∃ q, l[i]? = some q ∧ RelV (g q) v
  | [], [], _, i, v, e => by cases i <;> cases e
  | q :: l, u :: us, .cons r t, 0, v, e => by cases e; exact ⟨q, rfl, r⟩
  | q :: l, u :: us, .cons r t, i + 1, v, e => valsAt t i v (by simpa using e)
theorem HOk_get {P : Program} {w : World} {H : Hp} {h : Heap} (hok : HOk P w H h) {a : Addr} {u : HO} (e : H a = some u) : ∃ o, h.get? a = some o := by
  have lt := hok.lt e
  by_cases hn : h.get? a = none
  · exact absurd (L2.HOk.gone hok hn) (by rw [e]; simp)
  · exact Option.ne_none_iff_exists'.mp hn
section
variable {X : Cx}
/-- a thing that came to be while all else stood -/
theorem layAt {pins : List (Addr × Obj)} {σ : L2.St} {H : Hp} {s s1 : Shared} {L : Addr} {o : HO} (I : Inv X pins σ H s) (os : s1.os = s.os) (bare : AllBare s1.gens) (sk : Sk (frs X.stack) s.heap s1.heap) (hn : s.heap.get? L = none) (Hn : H L = none) (new : ObjOk X.prog X.w (upd H L o) s1.heap L o) :
    Inv X pins σ (upd H L o) s1 := by
  have I1 := invAt I os bare sk
  have ne : ∀ {b : Addr} {u : HO}, H b = some u → b ≠ L := fun e z => by rw [z, Hn] at e; cases e
  refine I.call' (ch := []) os ⟨fun b q e n nf _ => (sk b q e).1 nf, fun b q e n hf _ => (sk b q e).2, fun b q e n _ => ?_, fun b q e _ => ?_, fun b xs e => by rw [upd_ne (ne e)]; exact e, fun b q u e => by rw [upd_ne (ne e)]; exact e, fun b ps e => ⟨#[], by rw [upd_ne (ne e), Array.append_empty]; exact e⟩⟩ (fun a u e => ?_) bare (fun b z => absurd z (by simp))
  · rw [upd_ne fun z => by rw [z, hn] at e; cases e]
    exact n
  · obtain ⟨sl, q1⟩ := (sk b q e).2
    exact ⟨_, q1⟩
  · by_cases z : a = L
    · subst z
      rw [upd_same] at e
      rw [← Option.some.inj e]
      exact new
    · rw [upd_ne z] at e
      exact (I1.hok a u e).stay (fun _ _ _ q => q) (fun b q => by rw [upd_ne (ne q)]; exact q) fun b xs q => by rw [upd_ne (ne q)]; exact q
theorem cr_sortedNK {n : Nat} {f : Addr} {fd : FuncData} {x : Str} {p : PyData → Prop} {k : PyData → PyData} (F : FnOk X.prog X.w X.K X.mg X.base CX0 n f fd [x] (spKey X.K p k)) (hr : Room (n + 2) X.A) (hb : Binds X.K fd [x] []) (hu : X.A.units + 12 < cLine) (calm : X.calm = true) :
    CallRK X (.builtin "sorted") [Str.ofString "key"] (rSortNK X.prog X.w X.K f p k) := by
  intro pins s σ H vs zs us ws Q I r rz h
  obtain ⟨d, kvs, rfl, rfl, nn, hp, pk, al, so, q⟩ := h
  obtain rfl := Vals.ref1 r
  obtain rfl := Vals.ref1 rz
  obtain ⟨hz, lo, ys, pr, dd⟩ := nn.heap I
  obtain ⟨es, ep, raw, hsz, hx⟩ := dd.raw
  have hy : ys.length = kvs.length := by
    have := pairedLen pr
    rw [List.length_map] at this
    omega
  show wpAny _ _ (call (.builtin "sorted") [.ref d] [(Str.ofString "key", .ref f)]) _ _ s
  refine PyProof.Rows.call_function_entry_kw PyProof.Rows.kind_sorted PyProof.Rows.plain_sorted PyProof.Rows.entry_sorted (PyProof.Rows.ksk_s1 _ _) ?_
  unfold Builtin.«sorted»
  refine wpAny_bind (m := checkCount "sorted" 1 1 _) (wpAny_pure ?_)
  refine wpAny_bind (PySem.W.kdu_collect (A := X.A.in1) (rawSrc (es := es) (ep := ep) lo) (I.ok.hd calm) raw (by omega) fun h' tk acc hk hacc => ?_)
  have hv := keyVals (acc := acc.toList) pr hsz hx (by rw [Array.length_toList]; exact hacc.1) fun j v e => hacc.2 j v (by rw [← Array.getElem?_toList]; exact e)
  have hal : acc.toList.length = kvs.length := by
    have := hv.length
    rw [List.length_map] at this
    exact this.symm
  refine wpAny_bind (wpAny_newList ?_ (by rw [hal]; exact hz))
  obtain ⟨L, hL⟩ : ∃ L, L = h'.objs.size := ⟨_, rfl⟩
  have hoL : (h'.push (seqObj "list" acc.toList.toArray 0)).get? L = some (seqObj "list" acc.toList.toArray 0) := by
    rw [hL]
    exact Heap.get?_push_size _ rfl
  have hLn : s.heap.get? L = none := by
    cases e : s.heap.get? L with
    | none => rfl
    | some o =>
      have := Heap.lt_size (hk _ _ e)
      exact absurd this (by rw [hL]; exact Nat.lt_irrefl _)
  have old : ∀ b ∈ frs X.stack, ∃ o, s.heap.get? b = some o := fun b hb => by
    obtain ⟨_, o, ho, _⟩ := I.stack.mem hb
    exact ⟨o, ho⟩
  have keepL : ∀ b o, s.heap.get? b = some o → (h'.push (seqObj "list" acc.toList.toArray 0)).get? b = some o := fun b o e => Heap.get?_push_of_some _ (hk b o e)
  show wpAny _ _ _ _ _ { s with heap := h'.push (seqObj "list" acc.toList.toArray 0), toks := tk }
  rw [← hL]
  refine wpAny_bind (wpAny_holding (PyProof.Rows.wpAny_call_entry_kw PyProof.Rows.slot_list_sort ⟨_, hoL, rfl⟩ PyProof.Rows.entry_list_sort ?_ (PyProof.Rows.ksk_l1 _ _)))
  show wpAny (model X.prog X.w) X.A.in1.in1 (Builtin.«list.sort» ⟨[.ref L], [(Str.ofString "key", .ref f)]⟩) _ _ _
  rw [PyProof.Rows.ksk_t1]
  refine keyTree (fs := frs X.stack) (kz := kvs.map fun q => k q.1) (s := { s with heap := h'.push (seqObj "list" acc.toList.toArray 0), toks := tk }) I.bare hoL (fun z => ?_) (fun b hb => ?_) (by rw [List.length_map]; exact hal.symm) (by rw [hal]; exact hz) al so (fun y hy => ?_) (fun y hy => ?_)
    (fun i v y hv1 hy1 s0 os bare sk => ?_) fun s1 out c os bare sk ho ko => ?_
  · obtain ⟨o, ho⟩ := old _ z
    rw [hLn] at ho
    cases ho
  · obtain ⟨o, ho⟩ := old _ hb
    exact Heap.lt_size (keepL _ _ ho)
  · obtain ⟨z, hz, rfl⟩ := List.mem_map.mp hy
    exact ⟨8, pk z hz⟩
  · obtain ⟨z, hz, rfl⟩ := List.mem_map.mp hy
    have := plDepth (pk z hz)
    show X.A.units + 1 + 1 + _ < _
    omega
  · obtain ⟨z, e1, rv⟩ := valsAt hv i v hv1
    rw [List.getElem?_map, e1] at hy1
    obtain rfl := Option.some.inj hy1
    have hm := List.mem_of_getElem? e1
    obtain ⟨pl, dp⟩ := nn.k z hm
    have I0 : Inv X pins σ H s0 := invAt I os bare fun b o e => sk b o (fun y => by rw [y, hLn] at e; cases e) (keepL b o e)
    exact keyCall F hr.in1.in1 hb I0 os dp pl (hp z hm) (pk z hm) rv
  · refine ⟨.none, rfl, wpAny_pure ⟨_, rfl, ?_⟩⟩
    have sk2 : Sk (frs X.stack) s.heap s1.heap := fun b o e => sk b o (fun y => by rw [y, hLn] at e; cases e) (keepL b o e)
    have I1 : Inv X pins σ H s1 := invAt I os bare sk2
    have each := PySem.W.keyedOut_each (bs := kvs) (R := fun u (q : KvD) => RelV (.ref q.2.1) u) (fun q => k q.1) ko (eachKv hv)
    have hv2 := kvEach each
    have HLn : H L = none := by
      cases e : H L with
      | none => rfl
      | some o =>
        obtain ⟨u, hu⟩ := HOk_get I.hok e
        rw [hLn] at hu
        cases hu
    refine ⟨.ref L, upd H L (.lst ((sortK k kvs).map fun q => .ref q.2.1)), layAt I os bare sk2 hLn HLn ⟨?_, out, c, hv2, ho⟩, rfl, q L HLn⟩
    rw [List.length_map]
    unfold sortK
    rw [List.length_mergeSort]
    exact hz
end
end ND

set_option Elab.async false
set_option linter.all false
set_option maxRecDepth 100000
set_option maxHeartbeats 4000000
namespace KS
open PySem PySem.Spec PyProof.Rows L2
theorem sameUpd {H : Hp} {p : Addr} {o : HO} (h : H p = none) : Same H (upd H p o) := fun b u e => by
  rw [upd_ne (ne_of_none e h)]
  exact e
theorem sameTup {K : PySem.W.Frag} {H H' : Hp} {a : Addr} {xs : List V} (e : Same H H') (h : SqT K H a xs) : SqT K H' a xs := by
  rcases h with (h | ⟨o, h⟩) | h
  · exact .inl (.inl (e _ _ h))
  · exact .inl (.inr ⟨o, e _ _ h⟩)
  · exact .inr h
mutual
theorem dpSame {K : PySem.W.Frag} {H H' : Hp} (e : Same H H') : ∀ (d : PyData) (v : V), Dp K H v d → Dp K H' v d
  | .none, _, h => by cases h; exact .non
  | .bool b, _, h => by cases h; exact .bl b
  | .int i, _, h => by cases h; exact .int i
  | .str x, _, h => by cases h; exact .str x
  | .list ds, _, h => by
    cases h with
    | lst ha hd => exact .lst (e.seq ha) (dpAllSame e ds _ hd)
  | .tuple ds, _, h => by
    cases h with
    | tup ha hd => exact .tup (sameTup e ha) (dpAllSame e ds _ hd)
  | .dict _, _, h => nomatch h
theorem dpAllSame {K : PySem.W.Frag} {H H' : Hp} (e : Same H H') : ∀ (ds : List PyData) (vs : List V), DpAll K H vs ds → DpAll K H' vs ds
  | [], _, h => by cases h; exact .nil
  | d :: ds, _, h => by
    cases h with
    | cons h1 h2 => exact .cons (dpSame e d _ h1) (dpAllSame e ds _ h2)
end
theorem dpLen {K : PySem.W.Frag} {H : Hp} : ∀ {vs : List V} {ds : List PyData}, DpAll K H vs ds → vs.length = ds.length
  | _, _, .nil => rfl
  | _, _, .cons _ r => by rw [List.length_cons, List.length_cons, dpLen r]
theorem dpAt {K : PySem.W.Frag} {H : Hp} : ∀ {vs : List V} {ds : List PyData}, DpAll K H vs ds → ∀ {i : Nat} {d : PyData}, ds[i]? = some d → ∃ v, vs[i]? = some v ∧ Dp K H v d
  | _, _, .nil, _, _, h => by simp at h
  | _, _, .cons h1 r, 0, _, h => by
    cases h
    exact ⟨_, rfl, h1⟩
  | _, _, .cons h1 r, i + 1, _, h => dpAt r (by simpa using h)
def SOk (z : Str) : Prop := z.cps.all (· < 0x110000) = true
/-- data down to the depth n: texts not too long, tuples not too wide, no lists -/
inductive Od : Nat → PyData → Prop
  | non (n : Nat) : Od n .none
  | bl (n : Nat) (b : Bool) : Od n (.bool b)
  | int (n : Nat) (i : Int) : Od n (.int i)
  | str (n : Nat) {z : Str} (h : SOk z) (h2 : z.length ≤ 2000) : Od n (.str z)
  | tup {n : Nat} {ds : List PyData} (h : ds.length ≤ 100) (h2 : ∀ d ∈ ds, Od n d) : Od (n + 1) (.tuple ds)
theorem Od.up {n : Nat} {d : PyData} (h : Od n d) : ∀ {m : Nat}, n ≤ m → Od m d := by
  induction h with
  | non n => exact fun _ => .non _
  | bl n b => exact fun _ => .bl _ b
  | int n i => exact fun _ => .int _ i
  | str n h h2 => exact fun _ => .str _ h h2
  | @tup n ds h h2 ih =>
    intro m hm
    obtain ⟨k, rfl⟩ : ∃ k, m = k + 1 := ⟨m - 1, by omega⟩
    exact .tup h fun d hd => ih d hd (by omega)
theorem allLay : ∀ {ds : List PyData} {n : Nat}, (∀ d ∈ ds, d.canLay0 = true ∧ d.depth ≤ n) → PyData.canLayAll0 ds = true ∧ PyData.depthAll ds ≤ n
  | [], n, _ => ⟨rfl, Nat.zero_le _⟩
  | d :: ds, n, h => by
    obtain ⟨h1, h2⟩ := h d List.mem_cons_self
    obtain ⟨h3, h4⟩ := allLay (n := n) fun x hx => h x (List.mem_cons_of_mem _ hx)
    constructor
    · simp only [PyData.canLayAll0, h1, h3, Bool.and_self]
    · simp only [PyData.depthAll]
      exact Nat.max_le.mpr ⟨h2, h4⟩
theorem Od.lay {n : Nat} {d : PyData} (h : Od n d) : d.canLay0 = true ∧ d.depth ≤ n := by
  induction h with
  | non n => exact ⟨rfl, Nat.zero_le _⟩
  | bl n b => exact ⟨rfl, Nat.zero_le _⟩
  | int n i => exact ⟨rfl, Nat.zero_le _⟩
  | str n h h2 => exact ⟨h, Nat.zero_le _⟩
  | @tup n ds h h2 ih =>
    obtain ⟨a, b⟩ := allLay (n := n) ih
    refine ⟨a, ?_⟩
    simp only [PyData.depth]
    omega
theorem Od.shaped {n : Nat} {d : PyData} (h : Od n d) (hn : n ≤ 64) : SeqAt.shaped d = true := by
  obtain ⟨a, b⟩ := h.lay
  unfold SeqAt.shaped
  rw [a, Bool.true_and]
  exact decide_eq_true (by omega)
/-! kinds -/
def tyD : PyData → String
  | .none => "NoneType" | .bool _ => "bool" | .int _ => "int" | .str _ => "str" | .list _ => "list" | .tuple _ => "tuple" | .dict _ => "dict"
def isT (t c : String) : Bool := t == c || (t == "bool" && c == "int")
def isD (d : PyData) (c : String) : Bool := isT (tyD d) c
theorem kitAll : ∀ t ∈ ["NoneType", "bool", "int", "str", "list", "tuple"], ∀ c ∈ ["tuple", "str", "int", "bool", "list"], kitB t c = some (isT t c) := by decide +kernel
theorem dpTy {K : PySem.W.Frag} {H : Hp} {v : V} {d : PyData} (h : Dp K H v d) : TyX K H v (.type (tyD d)) := by
  cases h with
  | non => exact .base .non
  | bl b => exact .base (.bl b)
  | int i => exact .base (.int i)
  | str x => exact .base (.str x)
  | lst h _ =>
    rcases h with (h | ⟨o, h⟩) | ⟨o, its, n, h, c, _⟩
    · exact .base (.lst h)
    · exact .base (.frz h)
    · exact .kList h c
  | tup h _ =>
    rcases h with (h | ⟨o, h⟩) | ⟨o, its, n, h, c, _⟩
    · exact .base (.tup h)
    · exact .fTuple h
    · exact .kTuple h c
theorem dpKit {K : PySem.W.Frag} {H : Hp} {v : V} {d : PyData} (h : Dp K H v d) {c : String} (hc : c = "tuple" ∨ c = "str" ∨ c = "int" ∨ c = "bool" ∨ c = "list") : PySem.W.kitOne K (.type (tyD d)) (.type c) = some (isD d c) := by
  have hc' : c ∈ ["tuple", "str", "int", "bool", "list"] := by rcases hc with rfl | rfl | rfl | rfl | rfl <;> simp
  refine kit_ty (kitAll _ ?_ _ hc')
  cases h <;> simp [tyD]
theorem isi {K : PySem.W.Frag} {H : Hp} {v : V} {d : PyData} (h : Dp K H v d) {c : String} (hc : c = "tuple" ∨ c = "str" ∨ c = "int" ∨ c = "bool" ∨ c = "list") {Q : VK} (q : Q (.bl (isD d c)) H) : rIsi K [v, .ty c] H Q :=
  ⟨v, .ty c, _, _, _, rfl, .ty c, dpTy h, dpKit h hc, q⟩
/-- the built-in names that are read -/
structure Bn (mg : Str → Option Value) : Prop where
  isi : mg "isinstance" = none
  len : mg "len" = none
  zip : mg "zip" = none
  all : mg "all" = none
  list : mg "list" = none
  tuple : mg "tuple" = none
  bool : mg "bool" = none
  int : mg "int" = none
  str : mg "str" = none
  range : mg "range" = none
  ord : mg "ord" = none
  set : mg "set" = none
  max : mg "max" = none
  min : mg "min" = none
/-! comprehensions with one name -/
theorem lcJ {J : It} {n : Nat} {g : TG} {tt : TT} {te : TE} {vs : List Nat} {σ : L2.St} {H1 : Hp} {D : Addr} {Qd : Hp → Prop} (Pv : Nat → Hp → Prop) (h0 : Pv 0 (upd H1 D (.lst [])))
    (hgo : ∀ i H, i < n → Pv i H → J.go i H) (hst : ∀ H, Pv n H → J.stop n H)
    (hs : ∀ i H x H', i < n → Pv i H → J.yld i H x H' → g x (wipe σ vs) H' fun σ2 H2 => wipe σ2 vs = wipe σ vs ∧ tt σ2 H2 fun b H3 =>
      if b = true then te σ2 H3 fun y H4 => ∃ acc, H4 D = some (.lst acc) ∧ acc.length < sizeLine ∧ Pv (i + 1) (upd H4 D (.lst (acc ++ [y]))) else Pv (i + 1) H3)
    (hd : ∀ H, Pv n H → Qd H) :
    ∃ W : Nat → Nat → Hp → Prop, (∃ m, W 0 m (upd H1 D (.lst []))) ∧ ∀ i m H, W i m H →
      (J.stop i H ∧ Qd H) ∨ (J.go i H ∧ ∃ Nx : Hp → Prop, (∀ H', Nx H' → ∃ m', m' < m ∧ W (i + 1) m' H') ∧ ∀ x H', J.yld i H x H' → g x (wipe σ vs) H' fun σ2 H2 => wipe σ2 vs = wipe σ vs ∧ tt σ2 H2 fun b H3 =>
        if b = true then te σ2 H3 fun y H4 => ∃ acc, H4 D = some (.lst acc) ∧ acc.length < sizeLine ∧ Nx (upd H4 D (.lst (acc ++ [y]))) else Nx H3) := by
  refine ⟨fun i m H => m = n - i ∧ i ≤ n ∧ Pv i H, ⟨n, by simp, Nat.zero_le _, h0⟩, fun i m H hW => ?_⟩
  obtain ⟨rfl, hi, p⟩ := hW
  by_cases lt : i < n
  · refine .inr ⟨hgo i H lt p, Pv (i + 1), fun H' p' => ⟨n - (i + 1), by omega, rfl, lt, p'⟩, fun x H' y => ?_⟩
    exact hs i H x H' lt p y
  · have e : i = n := by omega
    subst e
    exact .inl ⟨hst H p, hd H p⟩
/-- the list at D, all else as it was -/
def At (H1 : Hp) (D : Addr) (xs : List V) (H : Hp) : Prop := Same H1 H ∧ H D = some (.lst xs)
theorem At.put {H1 H H' : Hp} {D : Addr} {xs ys : List V} (hD : H1 D = none) (h : At H1 D xs H) (s : Same H H') : H' D = some (.lst xs) ∧ At H1 D ys (upd H' D (.lst ys)) := by
  obtain ⟨a, b⟩ := h
  refine ⟨s _ _ b, fun c o e => ?_, upd_same⟩
  rw [upd_ne (ne_of_none e hD)]
  exact s _ _ (a _ _ e)
theorem dpSnoc {K : PySem.W.Frag} {H : Hp} {y : V} {e : PyData} (hy : Dp K H y e) : ∀ {xs : List V} {ds : List PyData}, DpAll K H xs ds → DpAll K H (xs ++ [y]) (ds ++ [e])
  | _, _, .nil => .cons hy .nil
  | _, _, .cons h r => .cons h (dpSnoc hy r)
/-- every item answers a Bool -/
theorem lcAll {J : It} {n j : Nat} {te : TE} {σ : L2.St} {H1 : Hp} {D : Addr} {Qd : Hp → Prop} (b : Nat → Bool) (hD : H1 D = none) (hn : n ≤ 1000000) (hw : ∀ v, wipe ((wipe σ [j]).set j (some v)) [j] = wipe σ [j])
    (hgo : ∀ i H, i < n → Same H1 H → J.go i H) (hst : ∀ H, Same H1 H → J.stop n H)
    (hs : ∀ i H x H', i < n → Same H1 H → J.yld i H x H' → Same H H' ∧ ∀ (R : VK), (∀ H2, Same H' H2 → R (.bl (b i)) H2) → te ((wipe σ [j]).set j (some x)) H' R)
    (hd : ∀ H, Same H1 H → H D = some (.lst (((List.range n).map b).map V.bl)) → Qd H) :
    ∃ W : Nat → Nat → Hp → Prop, (∃ m, W 0 m (upd H1 D (.lst []))) ∧ ∀ i m H, W i m H →
      (J.stop i H ∧ Qd H) ∨ (J.go i H ∧ ∃ Nx : Hp → Prop, (∀ H', Nx H' → ∃ m', m' < m ∧ W (i + 1) m' H') ∧ ∀ x H', J.yld i H x H' → gName j x (wipe σ [j]) H' fun σ2 H2 => wipe σ2 [j] = wipe σ [j] ∧ tYes σ2 H2 fun b H3 =>
        if b = true then te σ2 H3 fun y H4 => ∃ acc, H4 D = some (.lst acc) ∧ acc.length < sizeLine ∧ Nx (upd H4 D (.lst (acc ++ [y]))) else Nx H3) := by
  refine lcJ (n := n) (fun i H => At H1 D (((List.range i).map b).map V.bl) H) ⟨sameUpd hD, upd_same⟩ (fun i H lt h => hgo i H lt h.1) (fun H h => hst H h.1) (fun i H x H' lt h y => ?_) (fun H h => hd H h.1 h.2)
  obtain ⟨s1, s2⟩ := hs i H x H' lt h.1 y
  refine ⟨hw x, ?_⟩
  unfold tYes
  dsimp only
  rw [if_pos rfl]
  refine s2 _ fun H2 s3 => ?_
  obtain ⟨e1, e2⟩ := h.put (ys := ((List.range (i + 1)).map b).map V.bl) hD (s1.trans s3)
  refine ⟨_, e1, ?_, ?_⟩
  · rw [List.length_map, List.length_map, List.length_range, sizeLine_eq]
    omega
  · have e3 : ((List.range (i + 1)).map b).map V.bl = ((List.range i).map b).map V.bl ++ [V.bl (b i)] := by
      rw [List.range_succ, List.map_append, List.map_append]
      rfl
    rw [← e3]
    exact e2
/-- the ones that answer true are kept -/
theorem lcSome {K : PySem.W.Frag} {J : It} {n j : Nat} {tt : TT} {te : TE} {σ : L2.St} {H1 : Hp} {D : Addr} {Qd : Hp → Prop} (b : Nat → Bool) (hD : H1 D = none) (hn : n ≤ 1000000) (hw : ∀ v, wipe ((wipe σ [j]).set j (some v)) [j] = wipe σ [j])
    (hgo : ∀ i H, i < n → Same H1 H → J.go i H) (hst : ∀ H, Same H1 H → J.stop n H)
    (hs : ∀ i H x H', i < n → Same H1 H → J.yld i H x H' → Same H H' ∧ (∀ (F : Bool → Hp → Prop), (∀ H2, Same H' H2 → F (b i) H2) → tt ((wipe σ [j]).set j (some x)) H' F) ∧ ∃ y d, (∀ H, Dp K H y d) ∧ Od 0 d ∧ ∀ (R : VK) H2, R y H2 → te ((wipe σ [j]).set j (some x)) H2 R)
    (hd : ∀ H xs, Same H1 H → H D = some (.lst xs) → (xs = [] ↔ ∀ i, i < n → b i = false) → (∃ ds, (∀ H, DpAll K H xs ds) ∧ (∀ d ∈ ds, Od 0 d) ∧ ds.length ≤ n) → Qd H) :
    ∃ W : Nat → Nat → Hp → Prop, (∃ m, W 0 m (upd H1 D (.lst []))) ∧ ∀ i m H, W i m H →
      (J.stop i H ∧ Qd H) ∨ (J.go i H ∧ ∃ Nx : Hp → Prop, (∀ H', Nx H' → ∃ m', m' < m ∧ W (i + 1) m' H') ∧ ∀ x H', J.yld i H x H' → gName j x (wipe σ [j]) H' fun σ2 H2 => wipe σ2 [j] = wipe σ [j] ∧ tt σ2 H2 fun b H3 =>
        if b = true then te σ2 H3 fun y H4 => ∃ acc, H4 D = some (.lst acc) ∧ acc.length < sizeLine ∧ Nx (upd H4 D (.lst (acc ++ [y]))) else Nx H3) := by
  refine lcJ (n := n) (fun i H => ∃ xs, At H1 D xs H ∧ (xs = [] ↔ ∀ k, k < i → b k = false) ∧ xs.length ≤ i ∧ ∃ ds, (∀ H, DpAll K H xs ds) ∧ ∀ d ∈ ds, Od 0 d) ⟨[], ⟨sameUpd hD, upd_same⟩, ⟨fun _ k hk => absurd hk (Nat.not_lt_zero _), fun _ => rfl⟩, Nat.le_refl _, [], fun _ => .nil, fun d hd => absurd hd (by simp)⟩ (fun i H lt h => hgo i H lt h.choose_spec.1.1) (fun H h => hst H h.choose_spec.1.1) (fun i H x H' lt h y => ?_)
    (fun H h => by obtain ⟨xs, h1, h2, h3, h4⟩ := h; obtain ⟨ds, g1, g2⟩ := h4; exact hd H xs h1.1 h1.2 h2 ⟨ds, g1, g2, by have := dpLen (g1 H); omega⟩)
  obtain ⟨xs, h, e0, hl, ds, hda, hod⟩ := h
  obtain ⟨s1, s2, z, zd, z1, z2, s4⟩ := hs i H x H' lt h.1 y
  refine ⟨hw x, s2 _ fun H2 s3 => ?_⟩
  cases hb : b i with
  | true =>
    refine iteT (s4 _ _ ?_)
    obtain ⟨e1, e2⟩ := h.put (ys := xs ++ [z]) hD (s1.trans s3)
    refine ⟨_, e1, by rw [sizeLine_eq]; omega, _, e2, ⟨fun q => absurd q (by simp), fun q => ?_⟩, by rw [List.length_append]; exact Nat.succ_le_succ hl, ds ++ [zd], fun H => dpSnoc (z1 H) (hda H), fun d hd => ?_⟩
    · rw [q i (Nat.lt_succ_self _)] at hb
      cases hb
    · rcases List.mem_append.mp hd with y | y
      · exact hod d y
      · rw [List.mem_singleton.mp y]
        exact z2
  | false =>
    refine iteF ⟨xs, ⟨(h.1.trans s1).trans s3, s3 _ _ (s1 _ _ h.2)⟩, ⟨fun q k hk => ?_, fun q => e0.mpr fun k hk => q k (by omega)⟩, by omega, ds, hda, hod⟩
    rcases Nat.lt_succ_iff_lt_or_eq.mp hk with c | c
    · exact e0.mp q k c
    · rw [c]
      exact hb
/-- all(..) over a tuple -/
theorem lcAllT {K : PySem.W.Frag} {a : Addr} {xs : List V} {ds : List PyData} {j : Nat} {te : TE} {σ : L2.St} {H1 : Hp} {D : Addr} {Qd : Hp → Prop} (p : PyData → Bool) (ha : SqT K H1 a xs) (hx : DpAll K H1 xs ds) (hn : ds.length ≤ 1000) (hD : H1 D = none) (hw : ∀ v, wipe ((wipe σ [j]).set j (some v)) [j] = wipe σ [j])
    (hs : ∀ v d H, d ∈ ds → Same H1 H → Dp K H v d → ∀ (R : VK), (∀ H2, Same H H2 → R (.bl (p d)) H2) → te ((wipe σ [j]).set j (some v)) H R)
    (hd : ∀ H, Same H1 H → H D = some (.lst ((ds.map p).map V.bl)) → Qd H) :
    ∃ W : Nat → Nat → Hp → Prop, (∃ m, W 0 m (upd H1 D (.lst []))) ∧ ∀ i m H, W i m H →
      ((Itt K a).stop i H ∧ Qd H) ∨ ((Itt K a).go i H ∧ ∃ Nx : Hp → Prop, (∀ H', Nx H' → ∃ m', m' < m ∧ W (i + 1) m' H') ∧ ∀ x H', (Itt K a).yld i H x H' → gName j x (wipe σ [j]) H' fun σ2 H2 => wipe σ2 [j] = wipe σ [j] ∧ tYes σ2 H2 fun b H3 =>
        if b = true then te σ2 H3 fun y H4 => ∃ acc, H4 D = some (.lst acc) ∧ acc.length < sizeLine ∧ Nx (upd H4 D (.lst (acc ++ [y]))) else Nx H3) := by
  have hl := dpLen hx
  refine lcAll (n := ds.length) (fun i => p (ds.getD i .none)) hD (by omega) hw (fun i H lt s => ?_) (fun H s => ⟨xs, sameTup s ha, by omega⟩) (fun i H x H' lt s y => ?_) (fun H s e => hd H s ?_)
  · exact ⟨xs, xs[i], sameTup s ha, List.getElem?_eq_getElem (by omega)⟩
  · obtain ⟨rfl, y⟩ := y
    refine ⟨Same.refl _, fun R hR => ?_⟩
    have e := y xs (sameTup s ha)
    have e2 : ds[i]? = some ds[i] := List.getElem?_eq_getElem lt
    obtain ⟨v, h1, h2⟩ := dpAt hx e2
    obtain rfl : v = x := Option.some.inj (h1.symm.trans e)
    rw [List.getD_eq_getElem?_getD, e2] at hR
    exact hs v ds[i] _ (List.getElem_mem lt) s (dpSame s _ _ h2) R hR
  · rw [e]
    have : (List.range ds.length).map (fun i => p (ds.getD i .none)) = ds.map p := by
      refine List.ext_getElem (by simp) fun i h1 h2 => ?_
      simp only [List.getElem_map, List.getElem_range]
      rw [List.getD_eq_getElem?_getD, List.getElem?_eq_getElem (by simpa using h1)]
      rfl
    rw [this]
/-- the kept ones of a tuple -/
theorem lcSomeT {K : PySem.W.Frag} {a : Addr} {xs : List V} {ds : List PyData} {j : Nat} {tt : TT} {te : TE} {σ : L2.St} {H1 : Hp} {D : Addr} {Qd : Hp → Prop} (p : PyData → Bool) (ha : SqT K H1 a xs) (hx : DpAll K H1 xs ds) (hn : ds.length ≤ 1000) (hD : H1 D = none) (hw : ∀ v, wipe ((wipe σ [j]).set j (some v)) [j] = wipe σ [j])
    (hs : ∀ v d H, d ∈ ds → Same H1 H → Dp K H v d → (∀ (F : Bool → Hp → Prop), (∀ H2, Same H H2 → F (p d) H2) → tt ((wipe σ [j]).set j (some v)) H F) ∧ ∃ y d, (∀ H, Dp K H y d) ∧ Od 0 d ∧ ∀ (R : VK) H2, R y H2 → te ((wipe σ [j]).set j (some v)) H2 R)
    (hd : ∀ H zs, Same H1 H → H D = some (.lst zs) → (zs = [] ↔ ∀ d ∈ ds, p d = false) → (∃ es, (∀ H, DpAll K H zs es) ∧ (∀ d ∈ es, Od 0 d) ∧ es.length ≤ ds.length) → Qd H) :
    ∃ W : Nat → Nat → Hp → Prop, (∃ m, W 0 m (upd H1 D (.lst []))) ∧ ∀ i m H, W i m H →
      ((Itt K a).stop i H ∧ Qd H) ∨ ((Itt K a).go i H ∧ ∃ Nx : Hp → Prop, (∀ H', Nx H' → ∃ m', m' < m ∧ W (i + 1) m' H') ∧ ∀ x H', (Itt K a).yld i H x H' → gName j x (wipe σ [j]) H' fun σ2 H2 => wipe σ2 [j] = wipe σ [j] ∧ tt σ2 H2 fun b H3 =>
        if b = true then te σ2 H3 fun y H4 => ∃ acc, H4 D = some (.lst acc) ∧ acc.length < sizeLine ∧ Nx (upd H4 D (.lst (acc ++ [y]))) else Nx H3) := by
  have hl := dpLen hx
  refine lcSome (K := K) (n := ds.length) (fun i => p (ds.getD i .none)) hD (by omega) hw (fun i H lt s => ?_) (fun H s => ⟨xs, sameTup s ha, by omega⟩) (fun i H x H' lt s y => ?_) (fun H zs s e e0 es => hd H zs s e (e0.trans ?_) es)
  · exact ⟨xs, xs[i], sameTup s ha, List.getElem?_eq_getElem (by omega)⟩
  · obtain ⟨rfl, y⟩ := y
    have e := y xs (sameTup s ha)
    have e2 : ds[i]? = some ds[i] := List.getElem?_eq_getElem lt
    obtain ⟨v, h1, h2⟩ := dpAt hx e2
    obtain rfl : v = x := Option.some.inj (h1.symm.trans e)
    rw [List.getD_eq_getElem?_getD, e2]
    exact ⟨Same.refl _, hs v ds[i] _ (List.getElem_mem lt) s (dpSame s _ _ h2)⟩
  · constructor
    · intro h d hd
      obtain ⟨i, hi, e⟩ := List.getElem_of_mem hd
      have := h i hi
      rw [List.getD_eq_getElem?_getD, List.getElem?_eq_getElem hi] at this
      rw [← e]
      exact this
    · intro h i hi
      rw [List.getD_eq_getElem?_getD, List.getElem?_eq_getElem hi]
      exact h _ (List.getElem_mem hi)
/-- a kept list against [] -/
theorem eqNil {K : PySem.W.Frag} {H : Hp} {D e : Addr} {zs : List V} {Q : VK} {n : Nat} (hD : H D = some (.lst zs)) (he : H e = some (.lst [])) (es : ∃ es, (∀ H, DpAll K H zs es) ∧ (∀ d ∈ es, Od 0 d) ∧ es.length ≤ n) (h : Q (.bl (decide (zs = []))) H) : rEqD K (.ref D) (.ref e) H Q := by
  obtain ⟨ds, h1, h2, _⟩ := es
  refine ⟨.list ds, .list [], .lst (.inl (.inl hD)) (h1 H), .lst (.inl (.inl he)) .nil, ?_, rfl, ?_⟩
  · obtain ⟨a, b⟩ := allLay (ds := ds) (n := 0) fun d hd => (h2 d hd).lay
    have e1 : (PyData.list ds).canLay0 = true := a
    unfold SeqAt.shaped
    rw [e1, Bool.true_and]
    refine decide_eq_true ?_
    simp only [PyData.depth]
    omega
  · have hl := dpLen (h1 H)
    cases ds with
    | nil =>
      have : zs = [] := List.eq_nil_of_length_eq_zero hl
      subst this
      exact h
    | cons d ds =>
      have : ¬ zs = [] := fun z => by rw [z] at hl; cases hl
      rw [decide_eq_false this] at h
      exact h
theorem neNil {K : PySem.W.Frag} {H : Hp} {D e : Addr} {zs : List V} {Q : VK} {n : Nat} (hD : H D = some (.lst zs)) (he : H e = some (.lst [])) (es : ∃ es, (∀ H, DpAll K H zs es) ∧ (∀ d ∈ es, Od 0 d) ∧ es.length ≤ n) (h : Q (.bl (!decide (zs = []))) H) : rNeD K (.ref D) (.ref e) H Q := by
  obtain ⟨d, e, h1, h2, h3, h4, h5⟩ := eqNil (Q := fun x H => Q (match x with | .bl b => .bl (!b) | _ => x) H) hD he es h
  exact ⟨d, e, h1, h2, h3, h4, h5⟩
end KS

set_option Elab.async false
set_option linter.all false
set_option maxRecDepth 100000
set_option maxHeartbeats 4000000
namespace KS
open PySem PySem.Spec PyProof.Rows L2
/-! ### what the words mean -/
def signOk (c : Nat) : Bool := decide (32 ≤ c) && (decide (c ≤ 126) && decide (c ≠ 37))
def okT (z : Str) : Bool := decide (z.length ≤ 400) && z.cps.toList.all signOk
def letter (c : Nat) : Bool := decide (97 ≤ c) && decide (c ≤ 122)
def nameSign (c : Nat) : Bool := letter c || (decide (48 ≤ c) && decide (c ≤ 57))
def okN (z : Str) : Bool := decide (1 ≤ z.length) && (decide (z.length ≤ 8) && (letter (z.cps.getD 0 0) && z.cps.toList.all nameSign))
def isTx : PyData → Bool
  | .str z => okT z
  | _ => false
def isNm : PyData → Bool
  | .str z => okN z
  | _ => false
def isKy : PyData → Bool
  | .tuple [a, b] => isNm a && isNm b
  | _ => false
/-- a promise: the answer to a question about one value -/
def spIs (K : PySem.W.Frag) (n : Nat) (p : PyData → Bool) : Sp := fun vs H Q _ => ∃ v d, vs = [v] ∧ Dp K H v d ∧ Od n d ∧ ∀ H', Same H H' → Q (.bl (p d)) H'
/-- a def's bundle -/
structure Has (P : Program) (w : World) (K : PySem.W.Frag) (mg : Str → Option Value) (base : Heap) (k : Nat) (x : Str) (ps : List Str) (sp : Sp) : Prop where
  ex : ∃ (f : Addr) (fd : FuncData), mg x = some (.ref f) ∧ PySem.W.keepIn K (.ref f) = true ∧ Binds K fd ps [] ∧ FnOk P w K mg base CX0 k f fd ps sp
abbrev IntG (mg : Str → Option Value) (x : Str) (i : Int) : Prop := ∃ t, mg x = some (.int i t)
theorem IntG.gc {mg : Str → Option Value} {x : Str} {i : Int} (h : IntG mg x i) : ∃ u, mg x = some u ∧ RelV (.int i) u := let ⟨t, e⟩ := h; ⟨_, e, t, rfl⟩
section
variable {P : Program} {w : World} {K : PySem.W.Frag} {mg : Str → Option Value} {base : Heap} {f : Addr} {fd : FuncData}
theorem leOne (a c : Nat) : (!decide ([c] < [a])) = decide (a ≤ c) := by
  have e : ([c] < [a]) ↔ c < a := by
    rw [List.cons_lt_cons_iff]
    constructor
    · rintro (h | ⟨_, h⟩)
      · exact h
      · exact absurd h (by simp)
    · exact fun h => .inl h
  by_cases h : a ≤ c
  · rw [decide_eq_true h, decide_eq_false (fun z => absurd (e.mp z) (by omega))]
    rfl
  · rw [decide_eq_false h, decide_eq_true (e.mpr (by omega))]
    rfl
theorem allRange (l : List Nat) (p : Nat → Bool) : (((List.range l.length).map fun i => p (l.getD i 0)).all id) = l.all p := by
  rw [Bool.eq_iff_iff, List.all_eq_true, List.all_eq_true]
  constructor
  · intro h x hx
    obtain ⟨i, hi, e⟩ := List.getElem_of_mem hx
    have := h (p (l.getD i 0)) (List.mem_map.mpr ⟨i, List.mem_range.mpr hi, rfl⟩)
    rw [List.getD_eq_getElem?_getD, List.getElem?_eq_getElem hi] at this
    rw [← e]
    exact this
  · intro h b hb
    obtain ⟨i, hi, e⟩ := List.mem_map.mp hb
    rw [← e]
    have hi' := List.mem_range.mp hi
    rw [List.getD_eq_getElem?_getD, List.getElem?_eq_getElem hi']
    exact h _ (List.getElem_mem hi')
end
end KS

set_option Elab.async false
set_option linter.all false
set_option maxRecDepth 100000
set_option maxHeartbeats 4000000
namespace KS
open PySem PySem.Spec PyProof.Rows L2
section
variable {P : Program} {w : World} {K : PySem.W.Frag} {mg : Str → Option Value} {base : Heap} {f : Addr} {fd : FuncData}
theorem dInt {i j : Int} : decide (V.int i = V.int j) = decide (i = j) := by
  rw [decide_eq_decide]
  exact ⟨fun h => by injection h, fun h => by rw [h]⟩
end
end KS

set_option Elab.async false
set_option linter.all false
set_option maxRecDepth 100000
set_option maxHeartbeats 4000000
namespace KS
open PySem PySem.Spec PyProof.Rows L2
def namesOf : PyData → List Str
  | .tuple [.str a, .str b] => [a, b]
  | _ => []
def areKy : PyData → Bool
  | .tuple ds => decide (1 ≤ ds.length) && (decide (ds.length ≤ 4) && (ds.all isKy && decide ((ds.map namesOf).Nodup)))
  | _ => false
def orNone : PyData → Bool
  | .none => true
  | d => isTx d
def areAn : PyData → Bool
  | .tuple ds => decide (1 ≤ ds.length) && (decide (ds.length ≤ 4) && ds.all orNone)
  | _ => false
def areAr : PyData → Bool
  | .tuple ds => decide (ds.length ≤ 4) && ds.all isTx
  | _ => false
def isIn : PyData → Bool
  | .int _ => true
  | _ => false
def isWord (z : Str) (d : PyData) : Bool := PyData.eqv d (.str z)
def isSt : PyData → Bool
  | .tuple [a, b] => isWord "read" a && areKy b
  | .tuple [a, b, c] => isWord "write" a && (isNm b && isTx c)
  | .tuple ds => PyData.eqv (.tuple ds) (.tuple [.str "stop"])
  | _ => false
def rowsOk : PyData → Bool
  | .tuple ds => ds.all areAn
  | _ => false
def posI : PyData → Bool
  | .int i => decide (0 ≤ i)
  | _ => false
def isPl : PyData → Bool
  | .tuple [r, a, s, c] => isTx r && (areAr a && (rowsOk s && posI c))
  | _ => false
section
variable {P : Program} {w : World} {K : PySem.W.Frag} {mg : Str → Option Value} {base : Heap} {f : Addr} {fd : FuncData}
end
end KS

set_option Elab.async false
set_option linter.all false
set_option maxRecDepth 100000
set_option maxHeartbeats 4000000
namespace KS.La
open PySem PySem.Spec PyProof.Rows L2
/-! ### the feed -/
/-- all but the list at f stands -/
def Kp (f : Addr) (H H' : Hp) : Prop := ∀ b o, b ≠ f → H b = some o → H' b = some o
def Fd (H : Hp) (f : Addr) : Prop := ∃ x y : Int, H f = some (.lst [.int x, .int y]) ∧ 0 ≤ x ∧ 0 ≤ y
theorem Kp.refl (f : Addr) (H : Hp) : Kp f H H := fun _ _ _ h => h
theorem Kp.trans {f : Addr} {H H1 H2 : Hp} (a : Kp f H H1) (b : Kp f H1 H2) : Kp f H H2 := fun c o n h => b c o n (a c o n h)
theorem Kp.put {f : Addr} {H : Hp} {o : HO} : Kp f H (upd H f o) := fun b u n h => by
  rw [upd_ne n]
  exact h
theorem Kp.new {f p : Addr} {H : Hp} {o : HO} (h : H p = none) : Kp f H (upd H p o) := fun b u _ e => by
  rw [upd_ne (ne_of_none e h)]
  exact e
theorem Kp.same {f : Addr} {H H' : Hp} (s : Same H H') : Kp f H H' := fun b o _ h => s b o h
theorem Fd.same {f : Addr} {H H' : Hp} (s : Same H H') : Fd H f → Fd H' f := fun ⟨x, y, h, a, b⟩ => ⟨x, y, s _ _ h, a, b⟩
theorem Fd.new {f p : Addr} {H : Hp} {o : HO} (h : H p = none) (e : Fd H f) : Fd (upd H p o) f := e.same (sameUpd h)
theorem Fd.put {f : Addr} {H : Hp} {x y : Int} (hx : 0 ≤ x) (hy : 0 ≤ y) : Fd (upd H f (.lst [.int x, .int y])) f := ⟨x, y, upd_same, hx, hy⟩
/-! ### promises -/
def spFeed (K : PySem.W.Frag) : Sp := fun vs H Q _ => ∃ (a : Addr) (ns : List Int) (k : Int), vs = [.ref a, .int k] ∧ SqL K H a (ns.map V.int) ∧ ns.length ≤ 63 ∧ 0 ≤ k ∧ k < 1000 ∧ ∀ p H', Same H H' → H p = none → Fd H' p → Q (.ref p) H'
def spDraw : Sp := fun vs H Q _ => ∃ (f : Addr) (n : Int), vs = [.ref f, .int n] ∧ Fd H f ∧ 0 < n ∧ n < 1000000 ∧ ∀ (r : Int) H', 0 ≤ r → r < n → Kp f H H' → Fd H' f → Q (.int r) H'
def spPick (K : PySem.W.Frag) : Sp := fun vs H Q _ => ∃ (f l : Addr) (xs : List V), vs = [.ref f, .ref l] ∧ Fd H f ∧ SqL K H l xs ∧ l ≠ f ∧ 0 < xs.length ∧ xs.length < 1000 ∧ ∀ (i : Nat) (v : V) H', xs[i]? = some v → Kp f H H' → Fd H' f → Q v H'
def spCalls : Sp := fun vs H Q _ => vs = [] ∧ ∀ p, H p = none → Q (.ref p) (upd H p (.lst [.str "make", .str "", .str "r 2", .str "Mend!", .str "m"]))
/-- what the law calls a line -/
def lineOk (z : Str) : Bool := decide (z.length ≤ 400) && !decide (10 ∈ z.cps.toList)
/-- drawn texts are texts -/
def TOk (z : Str) : Prop := SOk z ∧ z.length ≤ 1000 ∧ okT z = true
instance (z : Str) : Decidable (TOk z) := by unfold TOk SOk; infer_instance
theorem lineOfT {z : Str} (h : okT z = true) : lineOk z = true := by
  unfold okT at h
  unfold lineOk
  rw [Bool.and_eq_true] at h ⊢
  refine ⟨h.1, ?_⟩
  rw [Bool.not_eq_true', decide_eq_false_iff_not]
  intro hm
  have := List.all_eq_true.mp h.2 10 hm
  exact absurd this (by decide)
theorem sokFold : ∀ (l : List (Array Nat)) (a : Array Nat), a.all (· < 0x110000) = true → (∀ b ∈ l, b.all (· < 0x110000) = true) → (l.foldl (· ++ ·) a).all (· < 0x110000) = true
  | [], _, h, _ => h
  | b :: l, a, h, k => sokFold l (a ++ b) (by rw [Array.all_append, h, k b (List.mem_cons_self ..)]; rfl) fun c hc => k c (List.mem_cons_of_mem _ hc)
theorem sokMul {z : Str} {n : Int} (h : SOk z) : SOk (Txt.mul z n) := by
  unfold Txt.mul
  split
  · (show Str.empty.cps.all (· < 0x110000) = true; decide +kernel)
  · split
    · exact h
    · exact sokFold _ #[] (by simp) fun b hb => by rw [List.eq_of_mem_replicate hb]; exact h
theorem allFold (p : Nat → Bool) : ∀ (l : List (Array Nat)) (a : Array Nat), a.all p = true → (∀ b ∈ l, b.all p = true) → (l.foldl (· ++ ·) a).all p = true
  | [], _, h, _ => h
  | b :: l, a, h, k => allFold p l (a ++ b) (by rw [Array.all_append, h, k b (List.mem_cons_self ..)]; rfl) fun c hc => k c (List.mem_cons_of_mem _ hc)
theorem allMul (p : Nat → Bool) {z : Str} {n : Int} (h : z.cps.all p = true) : (Txt.mul z n).cps.all p = true := by
  unfold Txt.mul
  split
  · show (#[] : Array Nat).all p = true
    simp
  · split
    · exact h
    · exact allFold p _ #[] (by simp) fun b hb => by rw [List.eq_of_mem_replicate hb]; exact h
theorem tokMul {z : Str} {n : Int} {c : Nat} (h : SOk z) (e : z = ⟨#[c]⟩) (m : n ≤ 400) (hc : signOk c = true) : TOk (Txt.mul z n) := by
  have hl := len_mul_one (N := 400) e m
  have ht : okT (Txt.mul z n) = true := by
    unfold okT
    rw [Bool.and_eq_true]
    refine ⟨decide_eq_true hl, ?_⟩
    have := allMul signOk (z := z) (n := n) (by rw [e]; simpa using hc)
    rw [← Array.all_toList] at this
    exact this
  exact ⟨sokMul h, by omega, ht⟩
def spText : Sp := fun vs H Q _ => ∃ f : Addr, vs = [.ref f] ∧ Fd H f ∧ ∀ (z : Str) H', TOk z → Kp f H H' → Fd H' f → Q (.str z) H'
section
variable {P : Program} {w : World} {K : PySem.W.Frag} {mg : Str → Option Value} {base : Heap} {f : Addr} {fd : FuncData}
theorem scFeed : FnScope ["_law_script", "_law_k", "_law_cell", "_law_great"] ["_law_script", "_law_k"] (defScope lFeed) := ⟨rfl, rfl, rfl, by decide +kernel, rfl, by decide +kernel, by decide +kernel⟩
theorem seqNat {ns : List Int} {k : Int} (h0 : 0 ≤ k) (h : k < (ns.length : Int)) : ∃ n : Int, atI (ns.map V.int) k = some (.int n) := by
  obtain ⟨j, rfl⟩ : ∃ j : Nat, k = (j : Int) := ⟨k.toNat, by omega⟩
  have hj : j < ns.length := by omega
  refine ⟨ns[j], atI_nat ?_⟩
  rw [List.getElem?_map, List.getElem?_eq_getElem hj]
  rfl
theorem okFeed {k : Nat} (F : FnP K "_law_feed_of" lFeed f fd) (ml : mg "len" = none) : FnOk P w K mg base CX0 (k + 1) f fd ["_law_script", "_law_k"] (spFeed K) := by
  refine F.ok scFeed (fun vs H Q E h => ?_) (fun cdv A outer s H vs Q E hr h => ?_)
  · obtain ⟨a, ns, k, rfl, _⟩ := h
    rfl
  · obtain ⟨a, ns, n, rfl, hS, hlen, hn0, hn1, q⟩ := h
    refine ⟨_, PSs.nox (pss_cons (ps_set (i := 2) scFeed.nd rfl (.inl rfl) (pe_op op_add (pe_op op_mul pe_int (pv 1)) pe_int))
      (C8.pss_cut (ps_if (pt_cmpR op_lt (pv 1) (pe_callB call_len_seq (by rfl) ml PySem.boot_len (pa_cons (pv 0) pa_nil)) (nomark _)) (pss_one (ps_set (i := 2) scFeed.nd rfl (.inl rfl) (pe_ix ix_list (pv 0) (pv 1) (fun _ _ => rfl)))) pss_nil)
      (C8.pss_cut (ps_if (pt_cmpR op_lt (pv 2) pe_int (nomark _)) (pss_one (ps_set (i := 2) scFeed.nd rfl (.inl rfl) (pe_op op_sub pe_int (pe_op op_mul pe_int (pv 2))))) pss_nil)
      (C8.pss_cut (ps_set (i := 3) scFeed.nd rfl (.inl rfl) (pe_ifExp (pt_cmpR op_ge (pv 2) (pe_op op_pow pe_int pe_int) (nomark _)) (pv 2) pe_int))
      (pss_one (ps_ret (pe_lst (pa_cons (pv 3) (pa_cons (pe_op op_add (pe_op op_add (pe_op op_mod (pv 2) pe_int) (pe_op op_mul pe_int (pv 1))) pe_int) pa_nil))))))))), ?_⟩
    refine ⟨.int n, rfl, 9029, n, rfl, rfl, .inl ⟨by decide, by decide⟩, 9029 * n, 31, rfl, rfl, ?_⟩
    refine ⟨fun σ' H' => H' = H ∧ ∃ c : Int, σ' = [some (.ref a), some (.int n), some (.int c), none], ?_, ?_⟩
    · refine ⟨.int n, rfl, .ref a, rfl, a, _, rfl, .inl hS, n, _, rfl, rfl, _, rfl, ite2 (fun e => ?_) (fun _ => ?_)⟩
      · have e1 : n < ((ns.map V.int).length : Int) := of_decide_eq_true e
        rw [List.length_map] at e1
        obtain ⟨c, hc⟩ := seqNat hn0 e1
        exact ⟨.ref a, rfl, .int n, rfl, a, _, n, _, rfl, rfl, hS, hc, rfl, c, rfl⟩
      · exact ⟨rfl, _, rfl⟩
    rintro σ' H' ⟨rfl, c, rfl⟩
    refine ⟨fun σ' H2 => H2 = H' ∧ ∃ c : Int, 0 ≤ c ∧ σ' = [some (.ref a), some (.int n), some (.int c), none], ?_, ?_⟩
    · refine ⟨.int c, rfl, c, 0, rfl, rfl, _, rfl, ite2 (fun e => ?_) (fun e => ?_)⟩
      · have e1 : c < 0 := of_decide_eq_true e
        exact ⟨.int c, rfl, 7, c, rfl, rfl, .inl ⟨by decide, by decide⟩, 5, 7 * c, rfl, rfl, rfl, 5 - 7 * c, by omega, rfl⟩
      · have e1 : ¬ c < 0 := fun z => e (decide_eq_true z)
        exact ⟨rfl, c, by omega, rfl⟩
    rintro σ' H2 ⟨rfl, d, hd, rfl⟩
    refine ⟨fun σ' H3 => H3 = H2 ∧ ∃ g : Int, 0 ≤ g ∧ σ' = [some (.ref a), some (.int n), some (.int d), some (.int g)], ?_, ?_⟩
    · refine ⟨.int d, rfl, 10, 18, rfl, rfl, ⟨by decide, by decide, by decide⟩, d, _, rfl, rfl, _, rfl, ite2 (fun _ => ?_) (fun _ => ?_)⟩
      · exact ⟨.int d, rfl, rfl, d, hd, rfl⟩
      · exact ⟨rfl, 0, by decide, rfl⟩
    rintro σ' H3 ⟨rfl, g, hg, rfl⟩
    refine ⟨.int g, rfl, .int d, rfl, d, 1000003, rfl, rfl, (by show (0 : Int) < 1000003; decide), .int n, rfl, 11, n, rfl, rfl, .inl ⟨by decide, by decide⟩, _, _, rfl, rfl, _, _, rfl, rfl, (by show 2 ≤ sizeLine; decide), fun p hp => ?_⟩
    refine q p _ (sameUpd hp) hp ⟨_, _, upd_same, hg, ?_⟩
    have := Int.emod_nonneg d (show (1000003 : Int) ≠ 0 by decide)
    omega
theorem scDraw : FnScope ["_law_feed", "_law_many", "_law_digit"] ["_law_feed", "_law_many"] (defScope lDraw) := ⟨rfl, rfl, rfl, by decide +kernel, rfl, by decide +kernel, by decide +kernel⟩
theorem okDraw {k : Nat} (F : FnP K "_law_draw" lDraw f fd) : FnOk P w K mg base CX0 (k + 1) f fd ["_law_feed", "_law_many"] spDraw := by
  refine F.ok scDraw (fun vs H Q E h => ?_) (fun cdv A outer s H vs Q E hr h => ?_)
  · obtain ⟨a, n, rfl, _⟩ := h
    rfl
  · obtain ⟨a, n, rfl, ⟨x, y, hf, hx, hy⟩, hn0, hn1, q⟩ := h
    have hS : ∀ {x y : Int} {H : Hp}, H a = some (.lst [.int x, .int y]) → SqL K H a [.int x, .int y] := fun h => .inl (.inl h)
    refine ⟨_, PSs.nox (pss_cons (ps_if (pt_cmpR op_gt (pe_ix ix_list (pv 0) pe_int (fun _ _ => rfl)) pe_int (nomark _))
        (pss_cons (ps_set (i := 2) scDraw.nd rfl (.inl rfl) (pe_op op_modN (pe_ix ix_list (pv 0) pe_int (fun _ _ => rfl)) (pv 1)))
        (pss_cons (ps_asg (pe_op op_fdivN (pe_ix ix_list (pv 0) pe_int (fun _ _ => rfl)) (pv 1)) (pg_sub (pv 0) pe_int set_list))
        (pss_one (ps_ret (pv 2))))) pss_nil)
      (pss_cons (ps_asg (pe_op op_mod (pe_op op_add (pe_op op_mul (pe_ix ix_list (pv 0) pe_int (fun _ _ => rfl)) pe_int) pe_int) pe_int) (pg_sub (pv 0) pe_int set_list))
      (pss_one (ps_ret (pe_op op_modN (pe_op op_fdiv (pe_ix ix_list (pv 0) pe_int (fun _ _ => rfl)) pe_int) (pv 1)))))), ?_⟩
    refine ⟨.ref a, rfl, a, _, 0, .int x, rfl, rfl, hS hf, atI_nat (j := 0) rfl, x, 0, rfl, rfl, _, rfl, ite2 (fun e => ?_) (fun e => ?_)⟩
    · refine ⟨.ref a, rfl, a, _, 0, .int x, rfl, rfl, hS hf, atI_nat (j := 0) rfl, .int n, rfl, x, n, rfl, rfl, (by show n ≠ 0; omega), ?_⟩
      refine ⟨.ref a, rfl, a, _, 0, .int x, rfl, rfl, hS hf, atI_nat (j := 0) rfl, .int n, rfl, x, n, rfl, rfl, ⟨(by omega), (by omega)⟩, ?_⟩
      refine ⟨.ref a, rfl, a, _, _, 0, rfl, rfl, hf, rfl, ?_⟩
      refine ⟨_, rfl, ?_⟩
      show Q (.int (x.fmod n)) (upd H a (.lst [.int (x.fdiv n), .int y]))
      rw [Int.fmod_eq_emod_of_nonneg x (by omega), Int.fdiv_eq_ediv_of_nonneg x (by omega)]
      exact q (x % n) _ (Int.emod_nonneg x (by omega)) (Int.emod_lt_of_pos x hn0) Kp.put (Fd.put (Int.ediv_nonneg hx (by omega)) hy)
    · refine ⟨.ref a, rfl, a, _, 1, .int y, rfl, rfl, hS hf, atI_nat (j := 1) rfl, y, 48271, rfl, rfl, .inr ⟨by decide, by decide⟩, _, 11, rfl, rfl, _, 2147483647, rfl, rfl, (by show (0 : Int) < 2147483647; decide), ?_⟩
      refine ⟨.ref a, rfl, a, _, _, 1, rfl, rfl, hf, rfl, ?_⟩
      have hm := Int.emod_nonneg (y * 48271 + 11) (show (2147483647 : Int) ≠ 0 by decide)
      refine ⟨.ref a, rfl, a, [.int x, .int ((y * 48271 + 11) % 2147483647)], 1, .int ((y * 48271 + 11) % 2147483647), rfl, rfl, hS upd_same, atI_nat (j := 1) rfl, (y * 48271 + 11) % 2147483647, 127, rfl, rfl, ⟨by decide, by decide⟩, ?_⟩
      refine ⟨.int n, rfl, _, n, rfl, rfl, (by show n ≠ 0; omega), ?_⟩
      show Q (.int (((y * 48271 + 11) % 2147483647 / 127).fmod n)) (upd H a (.lst [.int x, .int ((y * 48271 + 11) % 2147483647)]))
      rw [Int.fmod_eq_emod_of_nonneg _ (by omega)]
      exact q _ _ (Int.emod_nonneg _ (by omega)) (Int.emod_lt_of_pos _ hn0) Kp.put (Fd.put hx hm)
theorem scPick : FnScope ["_law_feed", "_law_items"] ["_law_feed", "_law_items"] (defScope lPick) := ⟨rfl, rfl, rfl, by decide +kernel, rfl, by decide +kernel, by decide +kernel⟩
theorem okPick {k : Nat} (F : FnP K "_law_pick" lPick f fd) (ml : mg "len" = none) (D : Has P w K mg base (k + 1) "_law_draw" ["_law_feed", "_law_many"] spDraw) : FnOk P w K mg base CX0 (k + 2) f fd ["_law_feed", "_law_items"] (spPick K) := by
  obtain ⟨fD, fdD, gD, kD, bD, GD⟩ := D.ex
  refine F.ok scPick (fun vs H Q E h => ?_) (fun cdv A outer s H vs Q E hr h => ?_)
  · obtain ⟨a, l, xs, rfl, _⟩ := h
    rfl
  · obtain ⟨a, l, xs, rfl, hF, hL, ne, h0, h1, q⟩ := h
    refine ⟨_, PSs.nox (pss_one (ps_ret (pe_ix ix_list (pv 1) (pe_call GD hr (by rfl) gD kD bD .nil pass0 (pa_cons (pv 0) (pa_cons (pe_callB call_len_seq (by rfl) ml PySem.boot_len (pa_cons (pv 1) pa_nil)) pa_nil))) (fun _ _ => rfl)))), ?_⟩
    refine ⟨.ref l, rfl, .ref a, rfl, .ref l, rfl, l, xs, rfl, .inl hL, ?_⟩
    refine ⟨a, (xs.length : Int), rfl, hF, by omega, by omega, fun r H' r0 r1 kp fd' => ?_⟩
    obtain ⟨j, rfl⟩ : ∃ j : Nat, r = (j : Int) := ⟨r.toNat, by omega⟩
    have hj : j < xs.length := by omega
    have hv : xs[j]? = some xs[j] := List.getElem?_eq_getElem hj
    have hL' : SqL K H' l xs := by
      rcases hL with (h | ⟨o, h⟩) | h
      · exact .inl (.inl (kp _ _ ne h))
      · exact .inl (.inr ⟨o, kp _ _ ne h⟩)
      · exact .inr h
    exact ⟨l, xs, _, _, rfl, rfl, hL', atI_nat hv, q j _ H' hv kp fd'⟩
theorem scCalls : FnScope [] [] (defScope lCalls) := ⟨rfl, rfl, rfl, by decide +kernel, rfl, by decide +kernel, by decide +kernel⟩
theorem okCalls {k : Nat} (F : FnP K "_law_calls" lCalls f fd) : FnOk P w K mg base CX0 (k + 1) f fd [] spCalls := by
  refine F.ok scCalls (fun vs H Q E h => ?_) (fun cdv A outer s H vs Q E hr h => ?_)
  · obtain ⟨rfl, _⟩ := h
    rfl
  · obtain ⟨rfl, q⟩ := h
    refine ⟨_, PSs.nox (pss_one (ps_ret (pe_lst (pa_cons pe_str (pa_cons pe_str (pa_cons pe_str (pa_cons pe_str (pa_cons pe_str pa_nil)))))))), ?_⟩
    exact ⟨(by show 5 ≤ sizeLine; decide), fun p hp => q p hp⟩
/-- z * n, z one sign -/
def rRepX : R2 := fun x y H Q => ∃ (z : Str) (n : Int), x = .str z ∧ y = .int n ∧ z.length = 1 ∧ 0 ≤ n ∧ n ≤ 1000 ∧ Q (.str (Txt.mul z n)) H
theorem opRepX {X : Cx} : OpR X (binaryOp .Mult) rRepX := by
  intro pins s σ H x y v u Q I rx ry h
  obtain ⟨z, n, rfl, rfl, hz, h0, h1, q⟩ := h
  obtain ⟨t, rfl⟩ := rx
  obtain ⟨t', rfl⟩ := ry
  refine SB.mul ⟨?_, fun g _ => ?_, fun _ _ => ?_⟩ fun t2 k => ⟨.str (Txt.mul z n), H, I.tok k, ⟨t2, rfl⟩, q⟩
  · simp
    omega
  · rw [hz]
    have hn : 0 < n := by omega
    have hle : (1 : Int) ≤ (2 ^ 63 - 1) / n := by
      rw [Int.le_ediv_iff_mul_le hn]
      omega
    show ¬ ((1 : Nat) : Int) > (2 ^ 63 - 1) / n
    omega
  · rw [hz]
    unfold Builtin.Str.tooLong
    rw [decide_eq_false_iff_not, sizeLine_eq]
    omega
theorem scTxt : FnScope ["_law_feed", "_law_form", "_law_many"] ["_law_feed"] (defScope lText) := ⟨rfl, rfl, rfl, by decide +kernel, rfl, by decide +kernel, by decide +kernel⟩
theorem okTxt {k : Nat} (F : FnP K "_law_some_text" lText f fd) (D : Has P w K mg base (k + 1) "_law_draw" ["_law_feed", "_law_many"] spDraw) (Pk : Has P w K mg base (k + 2) "_law_pick" ["_law_feed", "_law_items"] (spPick K))
    (Ca : Has P w K mg base (k + 1) "_law_calls" [] spCalls) : FnOk P w K mg base CX0 (k + 3) f fd ["_law_feed"] spText := by
  obtain ⟨fD, fdD, gD, kD, bD, GD⟩ := D.ex
  obtain ⟨fP, fdP, gP, kP, bP, GP⟩ := Pk.ex
  obtain ⟨fC, fdC, gC, kC, bC, GC⟩ := Ca.ex
  refine F.ok scTxt (fun vs H Q E h => ?_) (fun cdv A outer s H vs Q E hr h => ?_)
  · obtain ⟨a, rfl, _⟩ := h
    rfl
  · obtain ⟨a, rfl, hF, q⟩ := h
    have hr1 : Room (k + 1) _ := hr.mono (by omega)
    refine ⟨_, PSs.nox (pss_cons (ps_set (i := 1) scTxt.nd rfl (.inl rfl) (pe_call GD hr1 (by rfl) gD kD bD .nil pass0 (pa_cons (pv 0) (pa_cons (pe_int) pa_nil)))) (pss_cons (ps_if (pt_cmpR op_eq (pv 1) pe_int (nomark _)) (pss_one (ps_ret (pe_call GP hr (by rfl) gP kP bP .nil pass0 (pa_cons (pv 0) (pa_cons (pe_call0 GC hr1 (by rfl) gC kC bC .nil pass0) pa_nil))))) pss_nil) (pss_cons (ps_if (pt_cmpR op_eq (pv 1) pe_int (nomark _))
        (pss_cons (ps_set (i := 2) scTxt.nd rfl (.inl rfl) (pe_ix ix_list (pe_lst (pa_cons (pe_op op_add pe_int (pe_call GD hr1 (by rfl) gD kD bD .nil pass0 (pa_cons (pv 0) (pa_cons (pe_int) pa_nil)))) (pa_cons (pe_int) pa_nil)))
          (pe_op op_fdiv (pe_call GD hr1 (by rfl) gD kD bD .nil pass0 (pa_cons (pv 0) (pa_cons (pe_int) pa_nil))) pe_int) (fun _ _ => rfl))) (pss_one (ps_ret (pe_call GP hr (by rfl) gP kP bP .nil pass0 (pa_cons (pv 0) (pa_cons (pe_lst (pa_cons (pe_str) (pa_cons (pe_str) (pa_cons (pe_str) (pa_cons (pe_str) (pa_cons (pe_str) (pa_cons (pe_op opRepX pe_str (pv 2)) (pa_cons (pe_str) (pa_cons (pe_str) (pa_cons (pe_str) (pa_cons (pe_str) pa_nil))))))))))) pa_nil)))))) pss_nil) (pss_one (ps_ret (pe_ix ix_list (pe_lst (pa_cons (pe_str) (pa_cons (pe_str) (pa_cons (pe_str) (pa_cons (pe_str) (pa_cons (pe_str) (pa_cons (pe_str) pa_nil))))))) (pv 1) (fun _ _ => rfl))))))), ?_⟩
    have neF : ∀ {H : Hp} {p : Addr}, Fd H a → H p = none → p ≠ a := fun ⟨x, y, e, _⟩ hp z => by
      rw [z, e] at hp
      cases hp
    refine ⟨.ref a, rfl, a, 8, rfl, hF, by decide, by decide, fun r H1 r0 r1 k1 F1 => ?_⟩
    refine ⟨.int r, rfl, rfl, _, rfl, ite2 (fun e => ?_) (fun e7 => ?_)⟩
    · -- the names of calls
      refine ⟨.ref a, rfl, rfl, fun p hp => ?_⟩
      refine ⟨a, p, _, rfl, F1.new hp, .inl (.inl upd_same), neF F1 hp, by decide, by decide, fun i v H2 hv k2 F2 => ?_⟩
      have kk : Kp a H H2 := (k1.trans (Kp.new hp)).trans k2
      match i, hv with
      | 0, hv => cases hv; exact q _ H2 (by decide +kernel) kk F2
      | 1, hv => cases hv; exact q _ H2 (by decide +kernel) kk F2
      | 2, hv => cases hv; exact q _ H2 (by decide +kernel) kk F2
      | 3, hv => cases hv; exact q _ H2 (by decide +kernel) kk F2
      | 4, hv => cases hv; exact q _ H2 (by decide +kernel) kk F2
    refine ⟨.int r, rfl, rfl, _, rfl, ite2 (fun e => ?_) (fun e6 => ?_)⟩
    · -- one of ten
      refine ⟨.ref a, rfl, a, 90, rfl, F1, by decide, by decide, fun r2 H2 r20 r21 k2 F2 => ⟨1, r2, rfl, rfl, ?_⟩⟩
      refine ⟨(by show 2 ≤ sizeLine; decide), fun p hp => ?_⟩
      refine ⟨.ref a, rfl, a, 7, rfl, F2.new hp, by decide, by decide, fun r3 H3 r30 r31 k3 F3 => ⟨r3, 6, rfl, rfl, ⟨by decide, by decide⟩, ?_⟩⟩
      have hp3 : H3 p = some (.lst [.int (1 + r2), .int 400]) := k3 _ _ (neF F2 hp) upd_same
      obtain ⟨m, hm, m0, m1⟩ : ∃ m : Int, atI [V.int (1 + r2), .int 400] (r3 / 6) = some (.int m) ∧ 0 ≤ m ∧ m ≤ 400 := by
        by_cases hz : r3 < 6
        · have e0 : r3 / 6 = 0 := by omega
          rw [e0]
          exact ⟨1 + r2, rfl, by omega, by omega⟩
        · have e0 : r3 / 6 = 1 := by omega
          rw [e0]
          exact ⟨400, rfl, by decide, by decide⟩
      refine ⟨p, _, _, .int m, rfl, rfl, .inl (.inl hp3), hm, ?_⟩
      refine ⟨.ref a, rfl, .int m, rfl, _, m, rfl, rfl, rfl, m0, (by omega), (by show 10 ≤ sizeLine; decide), fun p2 hp2 => ?_⟩
      refine ⟨a, p2, _, rfl, F3.new hp2, .inl (.inl upd_same), neF F3 hp2, (by show 0 < 10; decide), (by show 10 < 1000; decide), fun i v H4 hv k4 F4 => ?_⟩
      have kk : Kp a H H4 := ((((k1.trans k2).trans (Kp.new hp)).trans k3).trans (Kp.new hp2)).trans k4
      match i, hv with
      | 0, hv => cases hv; exact q _ H4 (by decide +kernel) kk F4
      | 1, hv => cases hv; exact q _ H4 (by decide +kernel) kk F4
      | 2, hv => cases hv; exact q _ H4 (by decide +kernel) kk F4
      | 3, hv => cases hv; exact q _ H4 (by decide +kernel) kk F4
      | 4, hv => cases hv; exact q _ H4 (by decide +kernel) kk F4
      | 5, hv => cases hv; exact q _ H4 (tokMul (c := 120) (by unfold SOk; decide +kernel) (by decide +kernel) m1 (by decide +kernel)) kk F4
      | 6, hv => cases hv; exact q _ H4 (by decide +kernel) kk F4
      | 7, hv => cases hv; exact q _ H4 (by decide +kernel) kk F4
      | 8, hv => cases hv; exact q _ H4 (by decide +kernel) kk F4
      | 9, hv => cases hv; exact q _ H4 (by decide +kernel) kk F4
    · have n7 : r ≠ 7 := fun z => e7 (by rw [z]; rfl)
      have n6 : r ≠ 6 := fun z => e6 (by rw [z]; rfl)
      refine ⟨(by show 6 ≤ sizeLine; decide), fun p hp => ?_⟩
      obtain ⟨z, sz, hz⟩ : ∃ z : Str, TOk z ∧ atI [V.str "0", .str "1", .str "0", .str "1", .str "", .str "10"] r = some (.str z) := by
        have hc : r = 0 ∨ r = 1 ∨ r = 2 ∨ r = 3 ∨ r = 4 ∨ r = 5 := by omega
        rcases hc with h | h | h | h | h | h <;> (rw [h]; first | exact ⟨"0", by decide +kernel, rfl⟩ | exact ⟨"1", by decide +kernel, rfl⟩ | exact ⟨"", by decide +kernel, rfl⟩ | exact ⟨"10", by decide +kernel, rfl⟩)
      exact ⟨.int r, rfl, p, _, _, .str z, rfl, rfl, .inl (.inl upd_same), hz, q z _ sz (k1.trans (Kp.new hp)) (F1.new hp)⟩
end
/-! ### values that are alike -/
inductive Fl : V → String → Prop
  | non : Fl .non "NoneType"
  | bl (b : Bool) : Fl (.bl b) "bool"
  | int (i : Int) : Fl (.int i) "int"
  | str (z : Str) : Fl (.str z) "str"
section
variable {K : PySem.W.Frag} {H : Hp}
theorem Fl.tyX {v : V} {t : String} (h : Fl v t) : TyX K H v (.type t) := by
  cases h
  · exact .base .non
  · exact .base (.bl _)
  · exact .base (.int _)
  · exact .base (.str _)
theorem Fl.noSeq {v : V} {t : String} (h : Fl v t) : PySem.W.kitAny K (.type t) [.type "list", .type "tuple"] = some false := by
  cases h <;> exact kitAny_cons (b := false) (kit_ty (by decide +kernel)) (fun _ => kitAny_cons (b := false) (kit_ty (by decide +kernel)) (fun _ => kitAny_nil) (fun z => z)) (fun z => z)
theorem Fl.kit {v : V} {t : String} (h : Fl v t) (c : String) (hc : c = "bool" ∨ c = "int" ∨ c = "str") : ∃ b, PySem.W.kitOne K (.type t) (.type c) = some b := by
  rcases hc with rfl | rfl | rfl <;> cases h <;> first | exact ⟨true, kit_ty (by decide +kernel)⟩ | exact ⟨false, kit_ty (by decide +kernel)⟩
theorem Fl.scal {v : V} {t : String} (h : Fl v t) : L2.scal v v = true := by
  cases h <;> rfl
theorem kitSeqL : PySem.W.kitAny K (.type "list") [.type "list", .type "tuple"] = some true := kitAny_cons (b := true) (kit_ty (by decide +kernel)) (fun z => by cases z) (fun _ => rfl)
theorem kitSeqT : PySem.W.kitAny K (.type "tuple") [.type "list", .type "tuple"] = some true := kitAny_cons (b := false) (kit_ty (by decide +kernel)) (fun _ => kitAny_cons (b := true) (kit_ty (by decide +kernel)) (fun z => by cases z) (fun _ => rfl)) (fun _ => rfl)
theorem SqL.tyX {a : Addr} {xs : List V} (h : SqL K H a xs) : TyX K H (.ref a) (.type "list") := by
  rcases h with (h | ⟨o, h⟩) | ⟨o, its, n, h, c, _⟩
  · exact .base (.lst h)
  · exact .base (.frz h)
  · exact .kList h c
theorem SqT.tyX {a : Addr} {xs : List V} (h : SqT K H a xs) : TyX K H (.ref a) (.type "tuple") := by
  rcases h with (h | ⟨o, h⟩) | ⟨o, its, n, h, c, _⟩
  · exact .base (.tup h)
  · exact .fTuple h
  · exact .kTuple h c
end
/-- alike down to the depth n -/
inductive Sv (K : PySem.W.Frag) (H : Hp) : Nat → V → V → Prop
  | flat {n : Nat} {v : V} {t : String} (h : Fl v t) : Sv K H n v v
  | lst {n : Nat} {a b : Addr} {xs ys : List V} (ha : SqL K H a xs) (hb : SqL K H b ys) (hl : xs.length = ys.length) (hz : xs.length ≤ 1000) (h : ∀ (i : Nat) v w, xs[i]? = some v → ys[i]? = some w → Sv K H n v w) : Sv K H (n + 1) (.ref a) (.ref b)
  | tup {n : Nat} {a b : Addr} {xs ys : List V} (ha : SqT K H a xs) (hb : SqT K H b ys) (hl : xs.length = ys.length) (hz : xs.length ≤ 1000) (h : ∀ (i : Nat) v w, xs[i]? = some v → ys[i]? = some w → Sv K H n v w) : Sv K H (n + 1) (.ref a) (.ref b)
theorem Sv.same {K : PySem.W.Frag} {H H' : Hp} (e : Same H H') {n : Nat} {v w : V} (h : Sv K H n v w) : Sv K H' n v w := by
  induction h with
  | flat h => exact .flat h
  | lst ha hb hl hz _ ih => exact .lst (e.seq ha) (e.seq hb) hl hz ih
  | tup ha hb hl hz _ ih => exact .tup (sameTup e ha) (sameTup e hb) hl hz ih
def spSame (K : PySem.W.Frag) (n : Nat) : Sp := fun vs H Q _ => ∃ v w : V, vs = [v, w] ∧ Sv K H n v w ∧ ∀ H', Same H H' → Q (.bl true) H'
section
variable {P : Program} {w : World} {K : PySem.W.Frag} {mg : Str → Option Value} {base : Heap} {f : Addr} {fd : FuncData}
theorem scSame : FnScope ["_law_found", "_law_due", "_law_a", "_law_b"] ["_law_found", "_law_due"] (defScope lSame) := ⟨rfl, rfl, rfl, by decide +kernel, rfl, by decide +kernel, by decide +kernel⟩
theorem okSame (F : FnP K "_law_same" lSame f fd) (gS : mg "_law_same" = some (.ref f)) (B : Bn mg) : ∀ (n k : Nat), FnOk P w K mg base CX0 (k + n + 1) f fd ["_law_found", "_law_due"] (spSame K n) := by
  have bS : Binds K fd ["_law_found", "_law_due"] [] := F.bindsN fun _ _ _ _ _ _ us hl => match us, hl with | [_, _], _ => rfl
  intro n
  induction n with
  | zero =>
    intro k
    refine F.ok scSame (fun vs H Q E h => ?_) (fun cdv A outer s H vs Q E hr h => ?_)
    · obtain ⟨v, w, rfl, _⟩ := h
      rfl
    · obtain ⟨v, w', rfl, hv, q⟩ := h
      obtain ⟨t, hf, rfl⟩ : ∃ t, Fl v t ∧ v = w' := by
        cases hv with
        | flat h => exact ⟨_, h, rfl⟩
      refine ⟨_, PSs.nox (pss_cons (ps_if (pt_val (pe_callB call_isiT (by rfl) B.isi (by decide +kernel) (pa_cons (pv 1) (pa_cons (pe_tup (pa_cons (pe_bltn (v := .ty "list") (by rfl) B.list (by decide +kernel) rfl) (pa_cons (pe_bltn (v := .ty "tuple") (by rfl) B.tuple (by decide +kernel) rfl) pa_nil))) pa_nil))))
        (pss_cons (ps_never) (pss_one (ps_never))) pss_nil) (pss_cons (ps_if (PW.pt (pw_or (pt_cmpR op_ne (pe_callB call_isi (by rfl) B.isi (by decide +kernel) (pa_cons (pv 0) (pa_cons (pe_bltn (v := .ty "bool") (by rfl) B.bool (by decide +kernel) rfl) pa_nil))) (pe_callB call_isi (by rfl) B.isi (by decide +kernel) (pa_cons (pv 1) (pa_cons (pe_bltn (v := .ty "bool") (by rfl) B.bool (by decide +kernel) rfl) pa_nil))) (nomark _))
            (pw_or1 (pt_cmpR op_ne (pe_callB call_isi (by rfl) B.isi (by decide +kernel) (pa_cons (pv 0) (pa_cons (pe_bltn (v := .ty "int") (by rfl) B.int (by decide +kernel) rfl) pa_nil))) (pe_callB call_isi (by rfl) B.isi (by decide +kernel) (pa_cons (pv 1) (pa_cons (pe_bltn (v := .ty "int") (by rfl) B.int (by decide +kernel) rfl) pa_nil))) (nomark _)))))
          (pss_one (ps_ret pe_bl)) pss_nil) (pss_one (ps_ret (pe_and (pe_cmpR op_eq (pe_callB call_isi (by rfl) B.isi (by decide +kernel) (pa_cons (pv 0) (pa_cons (pe_bltn (v := .ty "str") (by rfl) B.str (by decide +kernel) rfl) pa_nil))) (pe_callB call_isi (by rfl) B.isi (by decide +kernel) (pa_cons (pv 1) (pa_cons (pe_bltn (v := .ty "str") (by rfl) B.str (by decide +kernel) rfl) pa_nil))) (nomark _))
          (pe_one (pe_cmpR op_eq (pv 0) (pv 1) (nomark _)))))))), ?_⟩
      obtain ⟨b1, e1⟩ := hf.kit (K := K) "bool" (.inl rfl)
      obtain ⟨b2, e2⟩ := hf.kit (K := K) "int" (.inr (.inl rfl))
      obtain ⟨b3, e3⟩ := hf.kit (K := K) "str" (.inr (.inr rfl))
      refine ⟨v, rfl, (by show 2 ≤ sizeLine; decide), fun p hp => ⟨v, p, [.ty "list", .ty "tuple"], .type t, [.type "list", .type "tuple"], false, rfl, upd_same, .cons (.ty _) (.cons (.ty _) .nil), hf.tyX, hf.noSeq, false, rfl, iteF ?_⟩⟩
      refine ⟨v, rfl, v, .ty "bool", .type t, .type "bool", b1, rfl, .ty _, hf.tyX, e1, v, rfl, v, .ty "bool", .type t, .type "bool", b1, rfl, .ty _, hf.tyX, e1, rfl, _, rfl, iteNS rfl ?_⟩
      refine ⟨v, rfl, v, .ty "int", .type t, .type "int", b2, rfl, .ty _, hf.tyX, e2, v, rfl, v, .ty "int", .type t, .type "int", b2, rfl, .ty _, hf.tyX, e2, rfl, _, rfl, iteNS rfl ?_⟩
      refine ⟨v, rfl, v, .ty "str", .type t, .type "str", b3, rfl, .ty _, hf.tyX, e3, v, rfl, v, .ty "str", .type t, .type "str", b3, rfl, .ty _, hf.tyX, e3, rfl, _, rfl, ?_⟩
      rw [if_pos (decide_eq_true rfl)]
      refine ⟨v, rfl, v, rfl, hf.scal, ?_⟩
      rw [decide_eq_true (rfl : v = v)]
      exact q _ (sameUpd hp)
  | succ n ih =>
    intro k
    have G := ih k
    refine F.ok scSame (fun vs H Q E h => ?_) (fun cdv A outer s H vs Q E hr h => ?_)
    · obtain ⟨v, w, rfl, _⟩ := h
      rfl
    · have hr1 : Room (k + n + 1) _ := hr.mono (by omega)
      refine ⟨_, PSs.nox (pss_cons (ps_if (pt_val (pe_callB call_isiT (by rfl) B.isi (by decide +kernel) (pa_cons (pv 1) (pa_cons (pe_tup (pa_cons (pe_bltn (v := .ty "list") (by rfl) B.list (by decide +kernel) rfl) (pa_cons (pe_bltn (v := .ty "tuple") (by rfl) B.tuple (by decide +kernel) rfl) pa_nil))) pa_nil))))
        (pss_cons (ps_if (PW.pt (pw_or (pt_cmpR op_ne (pe_callB call_isi (by rfl) B.isi (by decide +kernel) (pa_cons (pv 0) (pa_cons (pe_bltn (v := .ty "list") (by rfl) B.list (by decide +kernel) rfl) pa_nil))) (pe_callB call_isi (by rfl) B.isi (by decide +kernel) (pa_cons (pv 1) (pa_cons (pe_bltn (v := .ty "list") (by rfl) B.list (by decide +kernel) rfl) pa_nil))) (nomark _))
            (pw_or1 (pt_not (pt_val (pe_callB call_isiT (by rfl) B.isi (by decide +kernel) (pa_cons (pv 0) (pa_cons (pe_tup (pa_cons (pe_bltn (v := .ty "list") (by rfl) B.list (by decide +kernel) rfl) (pa_cons (pe_bltn (v := .ty "tuple") (by rfl) B.tuple (by decide +kernel) rfl) pa_nil))) pa_nil))))))))
            (pss_one (ps_ret pe_bl)) pss_nil) (pss_one (ps_ret (pe_and (pe_cmpR op_eq (pe_callB call_len_seq (by rfl) B.len PySem.boot_len (pa_cons (pv 0) pa_nil)) (pe_callB call_len_seq (by rfl) B.len PySem.boot_len (pa_cons (pv 1) pa_nil)) (nomark _))
            (pe_one (pe_callB (cr_all rfl) (by rfl) B.all (by decide +kernel) (pa_cons (pe_lc (own := [("_law_a", 2), ("_law_b", 3)]) (g := gTup K 2 (gCons (gName 2) (gCons (gName 3) gNil))) rfl scSame.nd (RZ.pi_zipA (by rfl) B.zip (pa_cons (pv 0) (pa_cons (pv 1) pa_nil))) (blkOk_by (N := ["_law_found", "_law_due", "_law_a", "_law_b"]) (sc := defScope lSame) (by decide +kernel))
              (fun _ _ _ _ _ => pg_tup rfl (pgs_cons (pg_name (i := 2) scSame.nd rfl (.inl rfl) (hf := .inr rfl)) (pgs_cons (pg_name (i := 3) scSame.nd rfl (.inl rfl) (hf := .inr rfl)) pgs_nil))) (fun _ _ _ _ _ => pts_nil)
              (fun _ _ _ _ _ => pe_call G hr1 (by rfl) gS F.kp bS .nil pass0 (pa_cons (pv 2) (pa_cons (pv 3) pa_nil)))) pa_nil))))))) pss_nil) (pss_cons (ps_if (PW.pt (pw_or (pt_cmpR op_ne (pe_callB call_isi (by rfl) B.isi (by decide +kernel) (pa_cons (pv 0) (pa_cons (pe_bltn (v := .ty "bool") (by rfl) B.bool (by decide +kernel) rfl) pa_nil))) (pe_callB call_isi (by rfl) B.isi (by decide +kernel) (pa_cons (pv 1) (pa_cons (pe_bltn (v := .ty "bool") (by rfl) B.bool (by decide +kernel) rfl) pa_nil))) (nomark _))
            (pw_or1 (pt_cmpR op_ne (pe_callB call_isi (by rfl) B.isi (by decide +kernel) (pa_cons (pv 0) (pa_cons (pe_bltn (v := .ty "int") (by rfl) B.int (by decide +kernel) rfl) pa_nil))) (pe_callB call_isi (by rfl) B.isi (by decide +kernel) (pa_cons (pv 1) (pa_cons (pe_bltn (v := .ty "int") (by rfl) B.int (by decide +kernel) rfl) pa_nil))) (nomark _)))))
          (pss_one (ps_ret pe_bl)) pss_nil) (pss_one (ps_ret (pe_and (pe_cmpR op_eq (pe_callB call_isi (by rfl) B.isi (by decide +kernel) (pa_cons (pv 0) (pa_cons (pe_bltn (v := .ty "str") (by rfl) B.str (by decide +kernel) rfl) pa_nil))) (pe_callB call_isi (by rfl) B.isi (by decide +kernel) (pa_cons (pv 1) (pa_cons (pe_bltn (v := .ty "str") (by rfl) B.str (by decide +kernel) rfl) pa_nil))) (nomark _))
          (pe_one (pe_cmpR op_eq (pv 0) (pv 1) (nomark _)))))))), ?_⟩
      obtain ⟨v, w, rfl, hv, q⟩ := h
      cases hv with
      | @flat _ _ t hf =>
        obtain ⟨b1, e1⟩ := hf.kit (K := K) "bool" (.inl rfl)
        obtain ⟨b2, e2⟩ := hf.kit (K := K) "int" (.inr (.inl rfl))
        obtain ⟨b3, e3⟩ := hf.kit (K := K) "str" (.inr (.inr rfl))
        refine ⟨v, rfl, (by show 2 ≤ sizeLine; decide), fun p hp => ⟨v, p, [.ty "list", .ty "tuple"], .type t, [.type "list", .type "tuple"], false, rfl, upd_same, .cons (.ty _) (.cons (.ty _) .nil), hf.tyX, hf.noSeq, false, rfl, iteF ?_⟩⟩
        refine ⟨v, rfl, v, .ty "bool", .type t, .type "bool", b1, rfl, .ty _, hf.tyX, e1, v, rfl, v, .ty "bool", .type t, .type "bool", b1, rfl, .ty _, hf.tyX, e1, rfl, _, rfl, iteNS rfl ?_⟩
        refine ⟨v, rfl, v, .ty "int", .type t, .type "int", b2, rfl, .ty _, hf.tyX, e2, v, rfl, v, .ty "int", .type t, .type "int", b2, rfl, .ty _, hf.tyX, e2, rfl, _, rfl, iteNS rfl ?_⟩
        refine ⟨v, rfl, v, .ty "str", .type t, .type "str", b3, rfl, .ty _, hf.tyX, e3, v, rfl, v, .ty "str", .type t, .type "str", b3, rfl, .ty _, hf.tyX, e3, rfl, _, rfl, ?_⟩
        rw [if_pos (decide_eq_true rfl)]
        refine ⟨v, rfl, v, rfl, hf.scal, ?_⟩
        rw [decide_eq_true (rfl : v = v)]
        exact q _ (sameUpd hp)
      | @lst _ a b xs ys ha hb hl hz hh =>
        refine ⟨.ref b, rfl, (by show 2 ≤ sizeLine; decide), fun p hp => ?_⟩
        have s1 : Same H (upd H p (.tup [.ty "list", .ty "tuple"])) := sameUpd hp
        have ha1 := (s1).seq ha
        have hb1 := (s1).seq hb
        refine ⟨.ref b, p, [.ty "list", .ty "tuple"], .type "list", [.type "list", .type "tuple"], true, rfl, upd_same, .cons (.ty _) (.cons (.ty _) .nil), SqL.tyX hb1, kitSeqL, true, rfl, iteT ?_⟩
        refine ⟨.ref a, rfl, .ref a, .ty "list", .type "list", .type "list", true, rfl, .ty _, SqL.tyX ha1, kit_ty (by decide +kernel), .ref b, rfl, .ref b, .ty "list", .type "list", .type "list", true, rfl, .ty _, SqL.tyX hb1, kit_ty (by decide +kernel), rfl, _, rfl, iteNS rfl ?_⟩
        refine ⟨.ref a, rfl, (by show 2 ≤ sizeLine; decide), fun p2 hp2 => ?_⟩
        have s2 : Same _ (upd (upd H p (.tup [.ty "list", .ty "tuple"])) p2 (.tup [.ty "list", .ty "tuple"])) := s1.trans (sameUpd hp2)
        have ha2 := (s2).seq ha
        have hb2 := (s2).seq hb
        refine ⟨.ref a, p2, [.ty "list", .ty "tuple"], .type "list", [.type "list", .type "tuple"], true, rfl, upd_same, .cons (.ty _) (.cons (.ty _) .nil), SqL.tyX ha2, kitSeqL, true, rfl, iteF ?_⟩
        refine ⟨.ref a, rfl, a, xs, rfl, .inl ha2, .ref b, rfl, b, ys, rfl, .inl hb2, rfl, _, rfl, ?_⟩
        rw [if_pos (decide_eq_true (by rw [hl]))]
        refine ⟨.ref a, rfl, .ref b, rfl, a, b, xs, ys, rfl, .inl ⟨ha2, hb2, fun D hD => ?_⟩⟩
        generalize upd (upd H p (.tup [.ty "list", .ty "tuple"])) p2 (.tup [.ty "list", .ty "tuple"]) = H2 at *
        refine lcJ (n := xs.length) (fun i H3 => Same H2 H3 ∧ H3 D = some (.lst ((List.replicate i true).map V.bl)) ∧ i ≤ xs.length) ⟨sameUpd hD, upd_same, Nat.zero_le _⟩ (fun i H3 lt h3 => ?_) (fun H3 h3 => ?_) (fun i H3 x H4 lt h3 y => ?_) (fun H3 h3 => ?_)
        · exact ⟨xs, ys, xs[i], ys[i], (h3.1).seq ha2, (h3.1).seq hb2, List.getElem?_eq_getElem lt, List.getElem?_eq_getElem (by omega)⟩
        · exact ⟨xs, ys, (h3.1).seq ha2, (h3.1).seq hb2, .inl (Nat.le_refl _)⟩
        · obtain ⟨s3, eD, _⟩ := h3
          obtain ⟨T, x1, y1, rfl, nT, rfl, fx, fy⟩ := y
          have e1 := fx _ ((s3).seq ha2)
          have e2 := fy _ ((s3).seq hb2)
          refine ⟨T, [x1, y1], rfl, .inl (.inl upd_same), rfl, x1, [y1], rfl, y1, [], rfl, rfl, rfl, ?_⟩
          refine ⟨x1, rfl, y1, rfl, x1, y1, rfl, (hh i _ _ e1 e2).same (s2.trans (s3.trans (sameUpd nT))), fun H5 s5 => ?_⟩
          have s4 : Same H2 H5 := s3.trans ((sameUpd nT).trans s5)
          have eD5 : H5 D = some (.lst ((List.replicate i true).map V.bl)) := s5 _ _ (sameUpd nT _ _ eD)
          refine ⟨_, eD5, ?_, fun b o hb => ?_, ?_, lt⟩
          · rw [List.length_map, List.length_replicate]
            exact small1000 (by omega)
          · rw [upd_ne (ne_of_none hb hD)]
            exact s4 _ _ hb
          · rw [upd_same, List.replicate_succ', List.map_append]
            rfl
        · obtain ⟨s3, eD, _⟩ := h3
          refine ⟨D, List.replicate xs.length true, rfl, .inl (.inl eD), ?_⟩
          rw [show (List.replicate xs.length true).all id = true by simp]
          exact q _ (s2.trans s3)
      | @tup _ a b xs ys ha hb hl hz hh =>
        refine ⟨.ref b, rfl, (by show 2 ≤ sizeLine; decide), fun p hp => ?_⟩
        have s1 : Same H (upd H p (.tup [.ty "list", .ty "tuple"])) := sameUpd hp
        have ha1 := sameTup (s1) ha
        have hb1 := sameTup (s1) hb
        refine ⟨.ref b, p, [.ty "list", .ty "tuple"], .type "tuple", [.type "list", .type "tuple"], true, rfl, upd_same, .cons (.ty _) (.cons (.ty _) .nil), SqT.tyX hb1, kitSeqT, true, rfl, iteT ?_⟩
        refine ⟨.ref a, rfl, .ref a, .ty "list", .type "tuple", .type "list", false, rfl, .ty _, SqT.tyX ha1, kit_ty (by decide +kernel), .ref b, rfl, .ref b, .ty "list", .type "tuple", .type "list", false, rfl, .ty _, SqT.tyX hb1, kit_ty (by decide +kernel), rfl, _, rfl, iteNS rfl ?_⟩
        refine ⟨.ref a, rfl, (by show 2 ≤ sizeLine; decide), fun p2 hp2 => ?_⟩
        have s2 : Same _ (upd (upd H p (.tup [.ty "list", .ty "tuple"])) p2 (.tup [.ty "list", .ty "tuple"])) := s1.trans (sameUpd hp2)
        have ha2 := sameTup (s2) ha
        have hb2 := sameTup (s2) hb
        refine ⟨.ref a, p2, [.ty "list", .ty "tuple"], .type "tuple", [.type "list", .type "tuple"], true, rfl, upd_same, .cons (.ty _) (.cons (.ty _) .nil), SqT.tyX ha2, kitSeqT, true, rfl, iteF ?_⟩
        refine ⟨.ref a, rfl, a, xs, rfl, .inr ha2, .ref b, rfl, b, ys, rfl, .inr hb2, rfl, _, rfl, ?_⟩
        rw [if_pos (decide_eq_true (by rw [hl]))]
        refine ⟨.ref a, rfl, .ref b, rfl, a, b, xs, ys, rfl, .inr ⟨ha2, hb2, fun D hD => ?_⟩⟩
        generalize upd (upd H p (.tup [.ty "list", .ty "tuple"])) p2 (.tup [.ty "list", .ty "tuple"]) = H2 at *
        refine lcJ (n := xs.length) (fun i H3 => Same H2 H3 ∧ H3 D = some (.lst ((List.replicate i true).map V.bl)) ∧ i ≤ xs.length) ⟨sameUpd hD, upd_same, Nat.zero_le _⟩ (fun i H3 lt h3 => ?_) (fun H3 h3 => ?_) (fun i H3 x H4 lt h3 y => ?_) (fun H3 h3 => ?_)
        · exact ⟨xs, ys, xs[i], ys[i], sameTup (h3.1) ha2, sameTup (h3.1) hb2, List.getElem?_eq_getElem lt, List.getElem?_eq_getElem (by omega)⟩
        · exact ⟨xs, ys, sameTup (h3.1) ha2, sameTup (h3.1) hb2, .inl (Nat.le_refl _)⟩
        · obtain ⟨s3, eD, _⟩ := h3
          obtain ⟨T, x1, y1, rfl, nT, rfl, fx, fy⟩ := y
          have e1 := fx _ (sameTup (s3) ha2)
          have e2 := fy _ (sameTup (s3) hb2)
          refine ⟨T, [x1, y1], rfl, .inl (.inl upd_same), rfl, x1, [y1], rfl, y1, [], rfl, rfl, rfl, ?_⟩
          refine ⟨x1, rfl, y1, rfl, x1, y1, rfl, (hh i _ _ e1 e2).same (s2.trans (s3.trans (sameUpd nT))), fun H5 s5 => ?_⟩
          have s4 : Same H2 H5 := s3.trans ((sameUpd nT).trans s5)
          have eD5 : H5 D = some (.lst ((List.replicate i true).map V.bl)) := s5 _ _ (sameUpd nT _ _ eD)
          refine ⟨_, eD5, ?_, fun b o hb => ?_, ?_, lt⟩
          · rw [List.length_map, List.length_replicate]
            exact small1000 (by omega)
          · rw [upd_ne (ne_of_none hb hD)]
            exact s4 _ _ hb
          · rw [upd_same, List.replicate_succ', List.map_append]
            rfl
        · obtain ⟨s3, eD, _⟩ := h3
          refine ⟨D, List.replicate xs.length true, rfl, .inl (.inl eD), ?_⟩
          rw [show (List.replicate xs.length true).all id = true by simp]
          exact q _ (s2.trans s3)
end
end KS.La

set_option Elab.async false
set_option linter.all false
set_option maxRecDepth 100000
set_option maxHeartbeats 4000000
namespace KS.La
open PySem PySem.Spec PyProof.Rows L2
/-- all but lists stand -/
def KT (H H' : Hp) : Prop := ∀ a o, H a = some o → (∀ xs, o ≠ .lst xs) → H' a = some o
theorem KT.refl (H : Hp) : KT H H := fun _ _ e _ => e
theorem KT.trans {H H1 H2 : Hp} (a : KT H H1) (b : KT H1 H2) : KT H H2 := fun c o e n => b c o (a c o e n) n
theorem KT.same {H H' : Hp} (s : Same H H') : KT H H' := fun a o e _ => s a o e
theorem KT.kp {f : Addr} {H H' : Hp} (hf : Fd H f) (k : Kp f H H') : KT H H' := fun a o e n => by
  refine k a o (fun z => ?_) e
  obtain ⟨x, y, h, _⟩ := hf
  rw [z, h] at e
  exact n _ (Option.some.inj e).symm
theorem KT.put {H : Hp} {D : Addr} {xs ys : List V} (h : H D = some (.lst xs)) : KT H (upd H D (.lst ys)) := fun a o e n => by
  rw [upd_ne fun z => ?_]
  · exact e
  · rw [z, h] at e
    exact n _ (Option.some.inj e).symm
theorem KT.tup {K : PySem.W.Frag} {H H' : Hp} (k : KT H H') {a : Addr} {xs : List V} (h : SqT K H a xs) : SqT K H' a xs := by
  rcases h with (h | ⟨o, h⟩) | h
  · exact .inl (.inl (k _ _ h fun xs z => nomatch z))
  · exact .inl (.inr ⟨o, k _ _ h fun xs z => nomatch z⟩)
  · exact .inr h
/-- data to the depth n, tuples of at most w items -/
inductive Ow (w : Nat) : Nat → PyData → Prop
  | non (n : Nat) : Ow w n .none
  | bl (n : Nat) (b : Bool) : Ow w n (.bool b)
  | int (n : Nat) (i : Int) : Ow w n (.int i)
  | str (n : Nat) {z : Str} (h : TOk z) : Ow w n (.str z)
  | tup {n : Nat} {ds : List PyData} (h : ds.length ≤ w) (h2 : ∀ d ∈ ds, Ow w n d) : Ow w (n + 1) (.tuple ds)
theorem Ow.od {w n : Nat} {d : PyData} (hw : w ≤ 100) (h : Ow w n d) : Od n d := by
  induction h with
  | non n => exact .non _
  | bl n b => exact .bl _ b
  | int n i => exact .int _ i
  | str n h => exact .str _ h.1 (by have := h.2.1; omega)
  | tup h h2 ih => exact .tup (by omega) ih
theorem Ow.up {w n : Nat} {d : PyData} (h : Ow w n d) : ∀ {w' m : Nat}, w ≤ w' → n ≤ m → Ow w' m d := by
  induction h with
  | non n => exact fun _ _ => .non _
  | bl n b => exact fun _ _ => .bl _ b
  | int n i => exact fun _ _ => .int _ i
  | str n h => exact fun _ _ => .str _ h
  | @tup n ds h h2 ih =>
    intro w' m hw hm
    obtain ⟨k, rfl⟩ : ∃ k, m = k + 1 := ⟨m - 1, by omega⟩
    exact .tup (by omega) fun d hd => ih d hd hw (by omega)
theorem allKT {K : PySem.W.Frag} {H H' : Hp} : ∀ {ds : List PyData} {xs : List V}, (∀ d ∈ ds, ∀ v, Dp K H v d → Dp K H' v d) → DpAll K H xs ds → DpAll K H' xs ds
  | _, _, _, .nil => .nil
  | _, _, k, .cons h r => .cons (k _ List.mem_cons_self _ h) (allKT (fun d hd => k d (List.mem_cons_of_mem _ hd)) r)
theorem dpKT {K : PySem.W.Frag} {H H' : Hp} (k : KT H H') {w n : Nat} {d : PyData} (o : Ow w n d) : ∀ v, Dp K H v d → Dp K H' v d := by
  induction o with
  | non n => exact fun v h => by cases h; exact .non
  | bl n b => exact fun v h => by cases h; exact .bl _
  | int n i => exact fun v h => by cases h; exact .int _
  | str n h => exact fun v h => by cases h; exact .str _
  | tup h h2 ih =>
    intro v hv
    cases hv with
    | tup hx hd => exact .tup (k.tup hx) (allKT ih hd)
/-- v is such data -/
def Vw (K : PySem.W.Frag) (w n : Nat) (H : Hp) (v : V) : Prop := ∃ d, Dp K H v d ∧ Ow w n d
theorem Vw.kt {K : PySem.W.Frag} {w n : Nat} {H H' : Hp} {v : V} (k : KT H H') (h : Vw K w n H v) : Vw K w n H' v := let ⟨d, a, b⟩ := h; ⟨d, dpKT k b _ a, b⟩
theorem Vw.up {K : PySem.W.Frag} {w n w' n' : Nat} {H : Hp} {v : V} (h : Vw K w n H v) (a : w ≤ w') (b : n ≤ n') : Vw K w' n' H v := let ⟨d, x, y⟩ := h; ⟨d, x, y.up a b⟩
theorem vwAll {K : PySem.W.Frag} {w n : Nat} {H : Hp} : ∀ {xs : List V}, (∀ v ∈ xs, Vw K w n H v) → ∃ ds, DpAll K H xs ds ∧ ∀ d ∈ ds, Ow w n d
  | [], _ => ⟨[], .nil, fun d hd => absurd hd (by simp)⟩
  | x :: xs, h => by
    obtain ⟨d, a, b⟩ := h x List.mem_cons_self
    obtain ⟨ds, c, e⟩ := vwAll fun v hv => h v (List.mem_cons_of_mem _ hv)
    refine ⟨d :: ds, .cons a c, fun y hy => ?_⟩
    rcases List.mem_cons.mp hy with z | z
    · rw [z]; exact b
    · exact e y z
theorem Vw.tup {K : PySem.W.Frag} {w n : Nat} {H : Hp} {a : Addr} {xs : List V} (ha : SqT K H a xs) (hl : xs.length ≤ w) (h : ∀ v ∈ xs, Vw K w n H v) : Vw K w (n + 1) H (.ref a) := by
  obtain ⟨ds, c, e⟩ := vwAll h
  exact ⟨.tuple ds, .tup ha c, .tup (by have := dpLen c; omega) e⟩
theorem Vw.str {K : PySem.W.Frag} {w n : Nat} {H : Hp} {z : Str} (h : TOk z) : Vw K w n H (.str z) := ⟨.str z, .str z, .str _ h⟩
theorem Vw.int {K : PySem.W.Frag} {w n : Nat} {H : Hp} {i : Int} : Vw K w n H (.int i) := ⟨.int i, .int i, .int _ i⟩
theorem Vw.non {K : PySem.W.Frag} {w n : Nat} {H : Hp} : Vw K w n H .non := ⟨.none, .non, .non _⟩
theorem Vw.bl {K : PySem.W.Frag} {w n : Nat} {H : Hp} {b : Bool} : Vw K w n H (.bl b) := ⟨.bool b, .bl b, .bl _ b⟩
theorem forJ {J : It} {n : Nat} {g : TG} {tb : TS} {D : Ends} {σ : L2.St} {H : Hp} (Pv : Nat → L2.St → Hp → Prop) (h0 : Pv 0 σ H) (hgo : ∀ i σ H, i < n → Pv i σ H → J.go i H) (hst : ∀ σ H, Pv n σ H → J.stop n H)
    (hs : ∀ i σ H x H', i < n → Pv i σ H → J.yld i H x H' → g x σ H' fun σ2 H2 => tb { D with nx := Pv (i + 1), ct := Pv (i + 1), bk := D.nx } σ2 H2) (hd : ∀ σ H, Pv n σ H → D.nx σ H) :
    ∃ W : Nat → Nat → L2.St → Hp → Prop, (∃ m, W 0 m σ H) ∧ ∀ i m σ H, W i m σ H →
      (J.stop i H ∧ D.nx σ H) ∨ (J.go i H ∧ ∃ N : L2.St → Hp → Prop, (∀ σ' H', N σ' H' → ∃ m', m' < m ∧ W (i + 1) m' σ' H') ∧ ∀ x H', J.yld i H x H' → g x σ H' fun σ2 H2 => tb { D with nx := N, ct := N, bk := D.nx } σ2 H2) := by
  refine ⟨fun i m σ H => m = n - i ∧ i ≤ n ∧ Pv i σ H, ⟨n, by simp, Nat.zero_le _, h0⟩, fun i m σ H hW => ?_⟩
  obtain ⟨rfl, hi, p⟩ := hW
  by_cases lt : i < n
  · exact .inr ⟨hgo i σ H lt p, Pv (i + 1), fun σ' H' p' => ⟨n - (i + 1), by omega, rfl, lt, p'⟩, fun x H' y => hs i σ H x H' lt p y⟩
  · have e : i = n := by omega
    subst e
    exact .inl ⟨hst σ H p, hd σ H p⟩
def spAns : Sp := fun vs H Q _ => ∃ f : Addr, vs = [.ref f] ∧ Fd H f ∧ ∀ (v : V) H', (v = .non ∨ ∃ z, v = .str z ∧ TOk z) → Kp f H H' → Fd H' f → Q v H'
def spPickS : Sp := fun vs H Q _ => ∃ (f : Addr) (z : Str), vs = [.ref f, .str z] ∧ Fd H f ∧ 0 < z.length ∧ z.length < 1000 ∧ ∀ (c : Nat) H', c ∈ z.cps.toList → Kp f H H' → Fd H' f → Q (.str ⟨#[c]⟩) H'
/-- a text as words are -/
def spWord : Sp := fun vs H Q _ => ∃ f : Addr, vs = [.ref f] ∧ Fd H f ∧ ∀ (z : Str) H', TOk z → Kp f H H' → Fd H' f → Q (.str z) H'
theorem sokCut {z : Str} (h : SOk z) (lo hi : Option Int) : SOk (cutS z lo hi) := by
  unfold SOk cutS
  rw [List.all_toArray, List.all_eq_true]
  intro x hx
  have h1 := List.mem_of_mem_drop (List.mem_of_mem_take hx)
  exact Array.all_eq_true'.mp h x (by simpa using h1)
theorem lenCut (z : Str) (lo hi : Option Int) : (cutS z lo hi).length ≤ z.length := by
  show ((z.cps.toList.drop _).take _).toArray.size ≤ z.cps.size
  rw [List.size_toArray, List.length_take, List.length_drop, Array.length_toList]
  omega
theorem sokCat {a b : Str} (h : SOk a) (k : SOk b) : SOk (a ++ b) := by
  show (a.cps ++ b.cps).all _ = true
  rw [Array.all_append, Bool.and_eq_true]
  exact ⟨h, k⟩
theorem lenCat (a b : Str) : (a ++ b).length = a.length + b.length := by
  show (a.cps ++ b.cps).size = _
  rw [Array.size_append]
  rfl
theorem sokMem {z : Str} (h : SOk z) {c : Nat} (hc : c ∈ z.cps.toList) : SOk ⟨#[c]⟩ := by
  have h1 := Array.all_eq_true'.mp h c (by simpa using hc)
  unfold SOk
  simpa using h1
section
variable {P : Program} {w : World} {K : PySem.W.Frag} {mg : Str → Option Value} {base : Heap} {f : Addr} {fd : FuncData}
theorem scAns : FnScope ["_law_feed"] ["_law_feed"] (defScope lAnswer) := ⟨rfl, rfl, rfl, by decide +kernel, rfl, by decide +kernel, by decide +kernel⟩
theorem okAns {k : Nat} (F : FnP K "_law_some_answer" lAnswer f fd) (D : Has P w K mg base (k + 1) "_law_draw" ["_law_feed", "_law_many"] spDraw) (T : Has P w K mg base (k + 3) "_law_some_text" ["_law_feed"] spText) : FnOk P w K mg base CX0 (k + 4) f fd ["_law_feed"] spAns := by
  obtain ⟨fD, fdD, gD, kD, bD, GD⟩ := D.ex
  obtain ⟨fT, fdT, gT, kT, bT, GT⟩ := T.ex
  refine F.ok scAns (fun vs H Q E h => ?_) (fun cdv A outer s H vs Q E hr h => ?_)
  · obtain ⟨a, rfl, _⟩ := h
    rfl
  · obtain ⟨a, rfl, hF, q⟩ := h
    have hr1 : Room (k + 1) _ := hr.mono (by omega)
    refine ⟨_, PSs.nox (pss_one (ps_ret (pe_ifExp (pt_cmpR op_eq (pe_call GD hr1 (by rfl) gD kD bD .nil pass0 (pa_cons (pv 0) (pa_cons (pe_int) pa_nil))) pe_int (nomark _)) pe_non (pe_call GT hr (by rfl) gT kT bT .nil pass0 (pa_cons (pv 0) pa_nil))))), ?_⟩
    refine ⟨.ref a, rfl, a, 5, rfl, hF, by decide, by decide, fun r H1 r0 r1 k1 F1 => ⟨rfl, _, rfl, ite2 (fun e => ?_) (fun e => ?_)⟩⟩
    · exact q .non H1 (.inl rfl) k1 F1
    · exact ⟨.ref a, rfl, a, rfl, F1, fun z H2 tz k2 F2 => q _ H2 (.inr ⟨z, rfl, tz⟩) (k1.trans k2) F2⟩
theorem okPickS {k : Nat} (F : FnP K "_law_pick" lPick f fd) (ml : mg "len" = none) (D : Has P w K mg base (k + 1) "_law_draw" ["_law_feed", "_law_many"] spDraw) : FnOk P w K mg base CX0 (k + 2) f fd ["_law_feed", "_law_items"] spPickS := by
  obtain ⟨fD, fdD, gD, kD, bD, GD⟩ := D.ex
  refine F.ok scPick (fun vs H Q E h => ?_) (fun cdv A outer s H vs Q E hr h => ?_)
  · obtain ⟨a, z, rfl, _⟩ := h
    rfl
  · obtain ⟨a, z, rfl, hF, h0, h1, q⟩ := h
    refine ⟨_, PSs.nox (pss_one (ps_ret (pe_ix ix_str (pv 1) (pe_call GD hr (by rfl) gD kD bD .nil pass0 (pa_cons (pv 0) (pa_cons (pe_callB call_len_str (by rfl) ml PySem.boot_len (pa_cons (pv 1) pa_nil)) pa_nil))) (fun _ _ => rfl)))), ?_⟩
    refine ⟨.str z, rfl, .ref a, rfl, .str z, rfl, z, rfl, by rw [sizeLine_eq]; omega, ?_⟩
    refine ⟨a, (z.length : Int), rfl, hF, by omega, by omega, fun r H' r0 r1 kp fd' => ?_⟩
    obtain ⟨j, rfl⟩ : ∃ j : Nat, r = (j : Int) := ⟨r.toNat, by omega⟩
    have hj : j < z.cps.toList.length := by show j < z.length; omega
    exact ⟨z, _, _, rfl, rfl, by rw [sizeLine_eq]; omega, atI_nat (List.getElem?_eq_getElem hj), q _ H' (List.getElem_mem hj) kp fd'⟩
end
end KS.La

set_option Elab.async false
set_option linter.all false
set_option maxRecDepth 100000
set_option maxHeartbeats 4000000
/-! places: the record, its data, its two ranks -/
namespace PLC
open PySem PySem.Spec PyProof.Rows L2 ND
open PySem.W (dataLt dataLe alike alikeAll keyToksAll)
structure Pc where
  c : Str
  as : List Str
  rs : List (List (Option Str))
  n : Int
def ansD : Option Str → PyData
  | none => .none
  | some z => .str z
def rowD (r : List (Option Str)) : PyData := .tuple (r.map ansD)
def argsD (as : List Str) : PyData := .tuple (as.map .str)
def rowsD (rs : List (List (Option Str))) : PyData := .tuple (rs.map rowD)
def pcD (p : Pc) : PyData := .tuple [.str p.c, argsD p.as, rowsD p.rs, .int p.n]
def dot (z : Str) : Str := ("." : Str) ++ z
def rankA : Option Str → PyData
  | none => .str ""
  | some z => .str (dot z)
def lkA : Option Str → PyData
  | none => .tuple [.int 0, .str ""]
  | some z => .tuple [.int 1, .str z]
def rankRow (r : List (Option Str)) : PyData := .tuple (r.map rankA)
def lkRow (r : List (Option Str)) : PyData := .tuple (r.map lkA)
def rankP (p : Pc) : PyData := .tuple [.str p.c, argsD p.as, .tuple (p.rs.map rankRow), .int p.n]
def lkP (p : Pc) : PyData := .tuple [.str p.c, argsD p.as, .tuple (p.rs.map lkRow), .int p.n]
/-- the rank of data -/
def aRank : PyData → PyData
  | .none => .str ""
  | .str z => .str (dot z)
  | d => d
def rRank : PyData → PyData
  | .tuple xs => .tuple (xs.map aRank)
  | d => d
def rankD : PyData → PyData
  | .tuple [c, a, .tuple rs, n] => .tuple [c, a, .tuple (rs.map rRank), n]
  | d => d
theorem aRank_eq (a : Option Str) : aRank (ansD a) = rankA a := by cases a <;> rfl
theorem rRank_eq (r : List (Option Str)) : rRank (rowD r) = rankRow r := by
  show PyData.tuple ((r.map ansD).map aRank) = .tuple (r.map rankA)
  rw [List.map_map]
  congr 1
  exact List.map_congr_left fun a _ => aRank_eq a
theorem rankD_eq (p : Pc) : rankD (pcD p) = rankP p := by
  show PyData.tuple [.str p.c, argsD p.as, .tuple ((p.rs.map rowD).map rRank), .int p.n] = _
  rw [List.map_map]
  have e : p.rs.map (rRank ∘ rowD) = p.rs.map rankRow := List.map_congr_left fun r _ => rRank_eq r
  rw [e]
  rfl
/-! ### they are told apart by what they are -/
theorem ansD_inj {a b : Option Str} (h : ansD a = ansD b) : a = b := by
  cases a <;> cases b <;> simp [ansD] at h ⊢
  exact h
theorem mapInj {α β : Type} {f : α → β} (hf : ∀ {x y}, f x = f y → x = y) : ∀ {l r : List α}, l.map f = r.map f → l = r
  | [], [], _ => rfl
  | [], _ :: _, h => by simp at h
  | _ :: _, [], h => by simp at h
  | x :: l, y :: r, h => by
    simp only [List.map_cons, List.cons.injEq] at h
    rw [hf h.1, mapInj hf h.2]
theorem rowD_inj {a b : List (Option Str)} (h : rowD a = rowD b) : a = b := mapInj ansD_inj (PyData.tuple.inj h)
theorem lkA_inj {a b : Option Str} (h : lkA a = lkA b) : a = b := by
  cases a <;> cases b <;> simp [lkA] at h ⊢
  exact h
theorem lkRow_inj {a b : List (Option Str)} (h : lkRow a = lkRow b) : a = b := mapInj lkA_inj (PyData.tuple.inj h)
theorem argsD_inj {a b : List Str} (h : argsD a = argsD b) : a = b := mapInj (fun h => PyData.str.inj h) (PyData.tuple.inj h)
theorem pcD_inj {p q : Pc} (h : pcD p = pcD q) : p = q := by
  have h2 := PyData.tuple.inj h
  simp only [List.cons.injEq, and_true] at h2
  obtain ⟨h3, h4, h5, h6⟩ := h2
  cases p; cases q
  have a := PyData.str.inj h3
  have b := argsD_inj h4
  have c := mapInj rowD_inj (PyData.tuple.inj h5)
  have d := PyData.int.inj h6
  simp only at a b c d
  subst a b c d
  rfl
theorem lkP_inj {p q : Pc} (h : lkP p = lkP q) : p = q := by
  have h2 := PyData.tuple.inj h
  simp only [List.cons.injEq, and_true] at h2
  obtain ⟨h3, h4, h5, h6⟩ := h2
  cases p; cases q
  have a := PyData.str.inj h3
  have b := argsD_inj h4
  have c := mapInj lkRow_inj (PyData.tuple.inj h5)
  have d := PyData.int.inj h6
  simp only at a b c d
  subst a b c d
  rfl
/-! ### plain -/
theorem plAns (a : Option Str) : Pl 1 (ansD a) := by cases a; exact .non _; exact .str _ _
theorem plRow (r : List (Option Str)) : Pl 2 (rowD r) := .tup fun d hd => by obtain ⟨a, _, rfl⟩ := List.mem_map.mp hd; exact plAns a
theorem plArgs (as : List Str) : Pl 1 (argsD as) := .tup fun d hd => by obtain ⟨a, _, rfl⟩ := List.mem_map.mp hd; exact .str _ _
theorem plRows (rs : List (List (Option Str))) : Pl 3 (rowsD rs) := .tup fun d hd => by obtain ⟨a, _, rfl⟩ := List.mem_map.mp hd; exact plRow a
theorem plPc (p : Pc) : Pl 4 (pcD p) := .tup fun d hd => by
  simp only [List.mem_cons, List.not_mem_nil, or_false] at hd
  rcases hd with rfl | rfl | rfl | rfl
  · exact .str _ _
  · exact (plArgs _).up (by omega)
  · exact plRows _
  · exact .int _ _
theorem plRankA (a : Option Str) : Pl 1 (rankA a) := by
  cases a <;> exact .str _ _
theorem plRank (p : Pc) : Pl 4 (rankP p) := .tup fun d hd => by
  simp only [List.mem_cons, List.not_mem_nil, or_false] at hd
  rcases hd with rfl | rfl | rfl | rfl
  · exact .str _ _
  · exact (plArgs _).up (by omega)
  · exact .tup fun d hd => by
      obtain ⟨r, _, rfl⟩ := List.mem_map.mp hd
      exact .tup fun d hd => by obtain ⟨a, _, rfl⟩ := List.mem_map.mp hd; exact plRankA a
  · exact .int _ _
theorem plLkA (a : Option Str) : Pl 1 (lkA a) := by
  cases a <;> exact .tup fun d hd => by
    simp only [List.mem_cons, List.not_mem_nil, or_false] at hd
    rcases hd with rfl | rfl
    · exact .int _ _
    · exact .str _ _
theorem plLk (p : Pc) : Pl 4 (lkP p) := .tup fun d hd => by
  simp only [List.mem_cons, List.not_mem_nil, or_false] at hd
  rcases hd with rfl | rfl | rfl | rfl
  · exact .str _ _
  · exact (plArgs _).up (by omega)
  · exact .tup fun d hd => by
      obtain ⟨r, _, rfl⟩ := List.mem_map.mp hd
      exact .tup fun d hd => by obtain ⟨a, _, rfl⟩ := List.mem_map.mp hd; exact plLkA a
  · exact .int _ _
/-! ### the two orders are one -/
section
variable {α : Type} {f g : α → PyData}
theorem alikeMap (h : ∀ x y, alike (f x) (f y) = true) : ∀ xs ys : List α, alikeAll (xs.map f) (ys.map f) = true
  | [], _ => by simp [alikeAll]
  | _ :: _, [] => by simp [alikeAll]
  | x :: xs, y :: ys => by
    show alikeAll (f x :: xs.map f) (f y :: ys.map f) = true
    rw [alikeAll, h x y, alikeMap h xs ys]
    rfl
theorem eqvMap (h : ∀ x y, PyData.eqv (f x) (f y) = PyData.eqv (g x) (g y)) : ∀ xs ys : List α, PyData.eqvAll (xs.map f) (ys.map f) = PyData.eqvAll (xs.map g) (ys.map g)
  | [], [] => rfl
  | [], _ :: _ => by simp [PyData.eqvAll]
  | _ :: _, [] => by simp [PyData.eqvAll]
  | x :: xs, y :: ys => by
    show PyData.eqvAll (f x :: xs.map f) (f y :: ys.map f) = PyData.eqvAll (g x :: xs.map g) (g y :: ys.map g)
    rw [PySem.W.eqv_all_cons, PySem.W.eqv_all_cons, h x y, eqvMap h xs ys]
theorem ltMap (h1 : ∀ x y, alike (f x) (f y) = true) (h2 : ∀ x y, alike (g x) (g y) = true) (he : ∀ x y, PyData.eqv (f x) (f y) = PyData.eqv (g x) (g y)) (hl : ∀ x y, dataLt (f x) (f y) = dataLt (g x) (g y)) :
    ∀ xs ys : List α, PyProof.Rows.lexLt itemOrd (keyToksAll (xs.map f)) (keyToksAll (ys.map f)) = PyProof.Rows.lexLt itemOrd (keyToksAll (xs.map g)) (keyToksAll (ys.map g))
  | [], [] => rfl
  | [], y :: ys => by
    show PyProof.Rows.lexLt itemOrd (keyToksAll []) (keyToksAll (f y :: ys.map f)) = PyProof.Rows.lexLt itemOrd (keyToksAll []) (keyToksAll (g y :: ys.map g))
    simp only [keyToksAll]
    exact (PySem.W.lex_atom (by decide) _ _).trans (PySem.W.lex_atom (by decide) _ _).symm
  | x :: xs, [] => by
    show PyProof.Rows.lexLt itemOrd (keyToksAll (f x :: xs.map f)) (keyToksAll []) = PyProof.Rows.lexLt itemOrd (keyToksAll (g x :: xs.map g)) (keyToksAll [])
    simp only [keyToksAll]
    exact (PySem.W.lex_atom (by decide) _ _).trans (PySem.W.lex_atom (by decide) _ _).symm
  | x :: xs, y :: ys => by
    show PyProof.Rows.lexLt itemOrd (keyToksAll (f x :: xs.map f)) (keyToksAll (f y :: ys.map f)) = PyProof.Rows.lexLt itemOrd (keyToksAll (g x :: xs.map g)) (keyToksAll (g y :: ys.map g))
    rw [PySem.W.dataLt_cons (h1 x y), PySem.W.dataLt_cons (h2 x y), he x y, hl x y, ltMap h1 h2 he hl xs ys]
end
theorem irr (l : List PyData) : PyProof.Rows.lexLt itemOrd (keyToksAll l) (keyToksAll l) = false := PyProof.Rows.lex_irrefl _
theorem alRank (x y : Option Str) : alike (rankA x) (rankA y) = true := by cases x <;> cases y <;> simp [rankA, alike]
theorem dotL (z : Str) : (dot z).cps.toList = 46 :: z.cps.toList := by
  show ((#[46] : Array Nat) ++ z.cps).toList = _
  simp
theorem strIff (a b : Str) : a = b ↔ a.cps.toList = b.cps.toList := ⟨fun e => by rw [e], fun e => PySem.W.str_of_cps e⟩
theorem dotInj (a b : Str) : dot a = dot b ↔ a = b := by
  rw [strIff, strIff, dotL, dotL]
  simp
theorem dotNot (a : Str) : ("" : Str) ≠ dot a := fun e => by
  have := congrArg (fun z : Str => z.cps.toList) e
  rw [dotL] at this
  cases this
theorem alLk (x y : Option Str) : alike (lkA x) (lkA y) = true := by cases x <;> cases y <;> simp [lkA, alike, alikeAll]
theorem eqS (a b : Str) : PyData.eqv (.str a) (.str b) = decide (a = b) := by
  rw [PyData.eqv, Bool.eq_iff_iff, beq_iff_eq, decide_eq_true_eq]
theorem ltSelf (a b : Str) : (if PyData.eqv (.str a) (.str b) = true then false else dataLt (.str a) (.str b)) = dataLt (.str a) (.str b) := by
  rw [eqS]
  by_cases e : a = b
  · subst e
    rw [if_pos (decide_eq_true rfl), PySem.W.dataLt_str]
    exact (decide_eq_false (List.lt_irrefl _)).symm
  · rw [if_neg (by simp [e])]
theorem eqA (x y : Option Str) : PyData.eqv (rankA x) (rankA y) = PyData.eqv (lkA x) (lkA y) := by
  cases x <;> cases y
  · show PyData.eqv (.str "") (.str "") = PyData.eqv (.tuple [.int 0, .str ""]) (.tuple [.int 0, .str ""])
    simp [PyData.eqv, PyData.eqvAll]
  · next b =>
    show PyData.eqv (.str "") (.str (dot b)) = PyData.eqv (.tuple [.int 0, .str ""]) (.tuple [.int 1, .str b])
    rw [eqS, decide_eq_false (dotNot b)]
    simp [PyData.eqv, PyData.eqvAll]
  · next a =>
    show PyData.eqv (.str (dot a)) (.str "") = PyData.eqv (.tuple [.int 1, .str a]) (.tuple [.int 0, .str ""])
    rw [eqS, decide_eq_false (fun e => dotNot a e.symm)]
    simp [PyData.eqv, PyData.eqvAll]
  · next a b =>
    show PyData.eqv (.str (dot a)) (.str (dot b)) = PyData.eqv (.tuple [.int 1, .str a]) (.tuple [.int 1, .str b])
    rw [eqS, show decide (dot a = dot b) = decide (a = b) from decide_eq_decide.mpr (dotInj a b), ← eqS]
    simp [PyData.eqv, PyData.eqvAll]
theorem ltA (x y : Option Str) : dataLt (rankA x) (rankA y) = dataLt (lkA x) (lkA y) := by
  have e0 : alike (.int 0) (.int 0) = true := by simp [alike]
  have e1 : alike (.int 0) (.int 1) = true := by simp [alike]
  have e2 : alike (.int 1) (.int 0) = true := by simp [alike]
  have e3 : alike (.int 1) (.int 1) = true := by simp [alike]
  have es : ∀ a b : Str, alike (.str a) (.str b) = true := fun a b => by simp [alike]
  have n0 : (("" : Str).cps.toList) = [] := rfl
  cases x with
  | none =>
    cases y with
    | none =>
      show dataLt (.str "") (.str "") = dataLt (.tuple [.int 0, .str ""]) (.tuple [.int 0, .str ""])
      rw [PySem.W.dataLt_tuple, irr, PySem.W.dataLt_str, n0]
      rfl
    | some b =>
      show dataLt (.str "") (.str (dot b)) = dataLt (.tuple [.int 0, .str ""]) (.tuple [.int 1, .str b])
      rw [PySem.W.dataLt_pair e1 (es _ _), if_neg (by simp [PyData.eqv]), PySem.W.dataLt_int, PySem.W.dataLt_str, n0, dotL]
      rfl
  | some a =>
    cases y with
    | none =>
      show dataLt (.str (dot a)) (.str "") = dataLt (.tuple [.int 1, .str a]) (.tuple [.int 0, .str ""])
      rw [PySem.W.dataLt_pair e2 (es _ _), if_neg (by simp [PyData.eqv]), PySem.W.dataLt_int, PySem.W.dataLt_str, n0, dotL]
      rfl
    | some b =>
      show dataLt (.str (dot a)) (.str (dot b)) = dataLt (.tuple [.int 1, .str a]) (.tuple [.int 1, .str b])
      rw [PySem.W.dataLt_pair e3 (es _ _), if_pos (by simp [PyData.eqv]), ltSelf, PySem.W.dataLt_str, PySem.W.dataLt_str, dotL, dotL]
      refine decide_eq_decide.mpr ?_
      rw [List.cons_lt_cons_iff]
      simp
theorem lt4 {α : Type} {f g : α → PyData} (al1 : ∀ x y, alike (f x) (f y) = true) (al2 : ∀ x y, alike (g x) (g y) = true) (er : ∀ x y, PyData.eqv (f x) (f y) = PyData.eqv (g x) (g y)) (lr : ∀ x y, dataLt (f x) (f y) = dataLt (g x) (g y))
    (c d : Str) (as bs : List Str) (m n : Int) (xs ys : List α) : dataLt (.tuple [.str c, argsD as, .tuple (xs.map f), .int m]) (.tuple [.str d, argsD bs, .tuple (ys.map f), .int n]) = dataLt (.tuple [.str c, argsD as, .tuple (xs.map g), .int m]) (.tuple [.str d, argsD bs, .tuple (ys.map g), .int n]) := by
  have es : ∀ a b : Str, alike (.str a) (.str b) = true := fun a b => by simp [alike]
  have aa : alike (argsD as) (argsD bs) = true := by unfold argsD; rw [alike]; exact alikeMap es _ _
  have r1 : alike (.tuple (xs.map f)) (.tuple (ys.map f)) = true := by rw [alike]; exact alikeMap al1 _ _
  have r2 : alike (.tuple (xs.map g)) (.tuple (ys.map g)) = true := by rw [alike]; exact alikeMap al2 _ _
  have r3 : PyData.eqv (.tuple (xs.map f)) (.tuple (ys.map f)) = PyData.eqv (.tuple (xs.map g)) (.tuple (ys.map g)) := by rw [PyData.eqv, PyData.eqv]; exact eqvMap er _ _
  have r4 : dataLt (.tuple (xs.map f)) (.tuple (ys.map f)) = dataLt (.tuple (xs.map g)) (.tuple (ys.map g)) := by rw [PySem.W.dataLt_tuple, PySem.W.dataLt_tuple]; exact ltMap al1 al2 er lr _ _
  rw [PySem.W.dataLt_tuple, PySem.W.dataLt_tuple, PySem.W.dataLt_cons (es _ _), PySem.W.dataLt_cons (es _ _), PySem.W.dataLt_cons aa, PySem.W.dataLt_cons aa, PySem.W.dataLt_cons r1, PySem.W.dataLt_cons r2, r3, r4]
theorem ltP (p q : Pc) : dataLt (rankP p) (rankP q) = dataLt (lkP p) (lkP q) :=
  lt4 (fun x y => by unfold rankRow; rw [alike]; exact alikeMap alRank x y) (fun x y => by unfold lkRow; rw [alike]; exact alikeMap alLk x y) (fun x y => by unfold rankRow lkRow; rw [PyData.eqv, PyData.eqv]; exact eqvMap eqA x y)
    (fun x y => by unfold rankRow lkRow; rw [PySem.W.dataLt_tuple, PySem.W.dataLt_tuple]; exact ltMap alRank alLk eqA ltA x y) _ _ _ _ _ _ _ _
/-! ### where None is nowhere among the answers, the places themselves are compared -/
def noN (p : Pc) : Prop := ∀ r ∈ p.rs, none ∉ r
def sRow (r : List Str) : PyData := .tuple (r.map .str)
def lkS (z : Str) : PyData := .tuple [.int 1, .str z]
def lkSRow (r : List Str) : PyData := .tuple (r.map lkS)
theorem noneFree : ∀ {r : List (Option Str)}, none ∉ r → ∃ r' : List Str, r = r'.map some
  | [], _ => ⟨[], rfl⟩
  | none :: _, h => absurd List.mem_cons_self h
  | some z :: r, h => by
    obtain ⟨r', e⟩ := noneFree (r := r) fun y => h (List.mem_cons_of_mem _ y)
    exact ⟨z :: r', by rw [e]; rfl⟩
theorem noneFrees : ∀ {rs : List (List (Option Str))}, (∀ r ∈ rs, none ∉ r) → ∃ rs' : List (List Str), rs = rs'.map fun r => r.map some
  | [], _ => ⟨[], rfl⟩
  | r :: rs, h => by
    obtain ⟨r', e1⟩ := noneFree (h r List.mem_cons_self)
    obtain ⟨rs', e2⟩ := noneFrees (rs := rs) fun y hy => h y (List.mem_cons_of_mem _ hy)
    exact ⟨r' :: rs', by rw [e1, e2]; rfl⟩
theorem noNForm {p : Pc} (h : noN p) : ∃ rs' : List (List Str), pcD p = .tuple [.str p.c, argsD p.as, .tuple (rs'.map sRow), .int p.n] ∧ lkP p = .tuple [.str p.c, argsD p.as, .tuple (rs'.map lkSRow), .int p.n] := by
  obtain ⟨rs', e⟩ := noneFrees h
  refine ⟨rs', ?_, ?_⟩
  · have : p.rs.map rowD = rs'.map sRow := by
      rw [e, List.map_map]
      refine List.map_congr_left fun r _ => ?_
      show PyData.tuple ((r.map some).map ansD) = .tuple (r.map .str)
      rw [List.map_map]
      rfl
    show PyData.tuple [.str p.c, argsD p.as, .tuple (p.rs.map rowD), .int p.n] = _
    rw [this]
  · have : p.rs.map lkRow = rs'.map lkSRow := by
      rw [e, List.map_map]
      refine List.map_congr_left fun r _ => ?_
      show PyData.tuple ((r.map some).map lkA) = .tuple (r.map lkS)
      rw [List.map_map]
      rfl
    show PyData.tuple [.str p.c, argsD p.as, .tuple (p.rs.map lkRow), .int p.n] = _
    rw [this]
theorem alStr (x y : Str) : alike (.str x) (.str y) = true := by simp [alike]
theorem alLkS (x y : Str) : alike (lkS x) (lkS y) = true := by simp [lkS, alike, alikeAll]
theorem alSRow (x y : List Str) : alike (sRow x) (sRow y) = true := by unfold sRow; rw [alike]; exact alikeMap alStr x y
theorem eqLkS (x y : Str) : PyData.eqv (.str x) (.str y) = PyData.eqv (lkS x) (lkS y) := by simp [lkS, PyData.eqv, PyData.eqvAll]
theorem ltLkS (x y : Str) : dataLt (.str x) (.str y) = dataLt (lkS x) (lkS y) := by
  unfold lkS
  rw [PySem.W.dataLt_pair (by simp [alike]) (alStr _ _), if_pos (by simp [PyData.eqv]), ltSelf]
theorem ltN {p q : Pc} (hp : noN p) (hq : noN q) : dataLt (pcD p) (pcD q) = dataLt (lkP p) (lkP q) := by
  obtain ⟨r1, e1, e2⟩ := noNForm hp
  obtain ⟨r2, e3, e4⟩ := noNForm hq
  rw [e1, e2, e3, e4]
  exact lt4 alSRow (fun x y => by unfold lkSRow; rw [alike]; exact alikeMap alLkS x y) (fun x y => by unfold sRow lkSRow; rw [PyData.eqv, PyData.eqv]; exact eqvMap eqLkS x y)
    (fun x y => by unfold sRow lkSRow; rw [PySem.W.dataLt_tuple, PySem.W.dataLt_tuple]; exact ltMap alStr alLkS eqLkS ltLkS x y) _ _ _ _ _ _ _ _
theorem alN {p q : Pc} (hp : noN p) (hq : noN q) : alike (pcD p) (pcD q) = true := by
  obtain ⟨r1, e1, _⟩ := noNForm hp
  obtain ⟨r2, e3, _⟩ := noNForm hq
  have aa : alike (argsD p.as) (argsD q.as) = true := by unfold argsD; rw [alike]; exact alikeMap alStr _ _
  have a1 : alike (.tuple (r1.map sRow)) (.tuple (r2.map sRow)) = true := by rw [alike]; exact alikeMap alSRow _ _
  rw [e1, e3]
  simp only [alike, alikeAll, Bool.and_true, Bool.true_and]
  simp only [alike] at aa a1
  rw [Bool.and_eq_true]
  exact ⟨aa, a1⟩
theorem leP : dataLe false rankP = dataLe false lkP := by
  rw [PySem.W.dataLe_eq, PySem.W.dataLe_eq]
  funext a b
  show (!dataLt (rankP b) (rankP a)) = !dataLt (lkP b) (lkP a)
  rw [ltP]
theorem alRankP (p q : Pc) : alike (rankP p) (rankP q) = true := by
  have es : ∀ a b : Str, alike (.str a) (.str b) = true := fun a b => by simp [alike]
  have al1 : ∀ x y, alike (rankRow x) (rankRow y) = true := fun x y => by unfold rankRow; rw [alike]; exact alikeMap alRank x y
  have aa : alike (argsD p.as) (argsD q.as) = true := by unfold argsD; rw [alike]; exact alikeMap es _ _
  have r1 : alike (.tuple (p.rs.map rankRow)) (.tuple (q.rs.map rankRow)) = true := by rw [alike]; exact alikeMap al1 _ _
  unfold rankP
  simp only [alike, alikeAll, Bool.and_true, Bool.true_and]
  simp only [alike] at aa r1
  rw [Bool.and_eq_true]
  exact ⟨aa, r1⟩
theorem alLkP (p q : Pc) : alike (lkP p) (lkP q) = true := by
  have es : ∀ a b : Str, alike (.str a) (.str b) = true := fun a b => by simp [alike]
  have al1 : ∀ x y, alike (lkRow x) (lkRow y) = true := fun x y => by unfold lkRow; rw [alike]; exact alikeMap alLk x y
  have aa : alike (argsD p.as) (argsD q.as) = true := by unfold argsD; rw [alike]; exact alikeMap es _ _
  have r1 : alike (.tuple (p.rs.map lkRow)) (.tuple (q.rs.map lkRow)) = true := by rw [alike]; exact alikeMap al1 _ _
  unfold lkP
  simp only [alike, alikeAll, Bool.and_true, Bool.true_and]
  simp only [alike] at aa r1
  rw [Bool.and_eq_true]
  exact ⟨aa, r1⟩
/-- the places in order -/
def srt (D : List Pc) : List Pc := D.mergeSort (dataLe false lkP)
theorem sortOf {α : Type} {l : List α} {g : α → PyData} {D : List Pc} {k : Pc → PyData} {e : Pc → PyData} {r : PyData → PyData} (hg : l.map g = D.map e) (hr : ∀ p, r (e p) = k p) (hk : dataLe false k = dataLe false lkP) :
    (l.mergeSort (dataLe false fun x => r (g x))).map g = (srt D).map e := by
  have h1 : (l.mergeSort (dataLe false fun x => r (g x))).map g = (l.map g).mergeSort (dataLe false r) := List.map_mergeSort fun a _ b _ => by
    rw [PySem.W.dataLe_eq, PySem.W.dataLe_eq]
  have h2 : (D.mergeSort (dataLe false k)).map e = (D.map e).mergeSort (dataLe false r) := List.map_mergeSort fun a _ b _ => by
    rw [PySem.W.dataLe_eq, PySem.W.dataLe_eq]
    show cond false _ (!dataLt (k b) (k a)) = cond false _ (!dataLt (r (e b)) (r (e a)))
    rw [hr, hr]
  rw [h1, hg, ← h2, hk]
  rfl
theorem sortOfN {α : Type} {l : List α} {g : α → PyData} {D : List Pc} (hg : l.map g = D.map pcD) (hn : ∀ p ∈ D, noN p) : (l.mergeSort (dataLe false g)).map g = (srt D).map pcD := by
  have h1 : (l.mergeSort (dataLe false g)).map g = (l.map g).mergeSort (dataLe false id) := List.map_mergeSort fun a _ b _ => by
    rw [PySem.W.dataLe_eq, PySem.W.dataLe_eq]
    rfl
  have h2 : (srt D).map pcD = (D.map pcD).mergeSort (dataLe false id) := List.map_mergeSort fun a ha b hb => by
    rw [PySem.W.dataLe_eq, PySem.W.dataLe_eq]
    show (!dataLt (lkP b) (lkP a)) = !dataLt (pcD b) (pcD a)
    rw [ltN (hn b hb) (hn a ha)]
  rw [h1, hg, h2]
end PLC

set_option Elab.async false
set_option linter.all false
set_option maxRecDepth 100000
set_option maxHeartbeats 4000000
/-! name = {k: v for ..} on one row -/
namespace ND
open PySem PySem.Spec PyProof.Rows L2
theorem swD {kx vx : Expr} {gs : List Comprehension} {sc : Scope} {pos py : Pos} {y : Str} {l : Nat} {env : Env} (h1 : env.scope.kind = .function) (h2 : env.scope.names.lookup y = some .local) (h3 : (py.line == pos.line) = true) (h4 : (sc.names.any fun (n, k) => n == y && (k == .local || k == .cell)) = false) :
    swapsWith (.DictComp kx vx gs sc pos) (some (.Name y py)) l env = pure true := by
  have b : env.blockKind = .function := by
    unfold Env.blockKind
    rw [h1] <;> rfl
  have c : env.kindOf y = some .local := h2
  unfold swapsWith
  simp only [b, c, h4, Expr.pos, h3]
  rfl
section
variable {X : Cx}
theorem ps_setNdc {i : Nat} {y : Str} {py : Pos} {kx vx tg iter : Expr} {sc : Scope} {own : List (Str × Nat)} {pos spos : Pos} {wi : TI} {g : TG} {tk tv : TE} (hu : X.A.units + 8 < cLine) (calm : X.calm = true) (nd : X.N.Nodup) (hy : X.N[i]? = some y) (loc : X.env.scope.names.lookup y = some .local)
    (sw : swapsWith (.DictComp kx vx [⟨tg, iter, [], 0⟩] sc pos) (some (.Name y py)) spos.line X.env = pure true) (it0 : PI X tg iter wi) (bk : BlkOk X.N X.env.scope sc own) (pG : InBlk X sc fun Y => PG Y tg g) (pK : InBlk X sc fun Y => PE Y kx tk) (pV : InBlk X sc fun Y => PE Y vx tv)
    (fold : ∀ x, foldedSetIterable iter X.env x = pure x := by intro _; rfl) : PS X (.Assign [.Name y py] (.DictComp kx vx [⟨tg, iter, [], 0⟩] sc pos) spos) (tAsg (tNdc X.prog X.w X.K wi g tk tv (own.map (·.2))) (gName i)) := by
  refine ⟨fun pins s σ H D I h => ?_⟩
  rw [exec_Assign_Name_used _ _ _ _ sw]
  refine wpAny_bind (wpAny_standAt (wpAny_bind ?_))
  show wpAny _ X.A (comprehension (.DictComp kx vx [⟨tg, iter, [], 0⟩] sc pos) sc X.env (firstIterPos [⟨tg, iter, [], 0⟩] pos) newDict false (eval iter X.env) (some (assign (.Name y py) X.env)) >>= fun _ => pure ()) _ _ s
  have q : tNdc X.prog X.w X.K wi g tk tv (own.map (·.2)) σ H (fun x T => gName i x σ T D.nx) := h
  refine wpAny_bind (thn (ndc_core (Qf := fun _ t => SP X pins D .next t) hu calm nd I it0 bk pG pK pV fold q fun L C t m G I' r hm f => ?_) fun _ t ht => wpAny_pure (wpAny_pure ht))
  show wpAny _ _ (assign (.Name y py) X.env (.ref L)) _ _ _
  refine wpAny_assign_Name (store_ok2 (v := V.ref L) I' nd hy (.inl loc) rfl (fun t2 I2 ⟨a, sb, ha⟩ => ?_) (.inr loc))
  obtain ⟨f0, f1, f2, f3, f4, f5⟩ := f
  have ne : C ≠ a := by
    rcases ha with z | z
    · exact fun e => f1 (e.trans z)
    · exact fun e => f4 y a z e.symm
  exact ⟨m, hm.sameBut sb ne, fun t3 sb3 => ⟨_, G, I2.turned (t' := t2.toks) (fun b o hb e => (sb3.2 b hb).trans e) f0 f1 f3 f4 f5, r⟩⟩
end
end ND

set_option Elab.async false
set_option linter.all false
set_option maxRecDepth 100000
set_option maxHeartbeats 4000000
/-! places in the layer's heap -/
namespace PLC
open PySem PySem.Spec PyProof.Rows L2 ND KS KS.La
structure Ok (p : Pc) : Prop where
  c : TOk p.c
  as : ∀ a ∈ p.as, TOk a
  al : p.as.length ≤ 4
  rs : ∀ r ∈ p.rs, r.length ≤ 4 ∧ ∀ z, some z ∈ r → TOk z
  rl : p.rs.length ≤ 100
theorem TOk.odS {z : Str} (h : TOk z) : SOk z ∧ z.length ≤ 2000 := ⟨h.1, by have := h.2.1; omega⟩
theorem odAns {a : Option Str} (h : ∀ z, a = some z → TOk z) : Od 0 (ansD a) := by
  cases a with
  | none => exact .non _
  | some z => exact .str _ (TOk.odS (h z rfl)).1 (TOk.odS (h z rfl)).2
theorem odRow {r : List (Option Str)} (h : r.length ≤ 4 ∧ ∀ z, some z ∈ r → TOk z) : Od 1 (rowD r) := .tup (by rw [List.length_map]; omega) fun d hd => by
  obtain ⟨a, ha, rfl⟩ := List.mem_map.mp hd
  exact odAns fun z e => h.2 z (by rw [← e]; exact ha)
theorem odArgs {as : List Str} (h : ∀ a ∈ as, TOk a) (hl : as.length ≤ 100) : Od 1 (argsD as) := .tup (by rw [List.length_map]; exact hl) fun d hd => by
  obtain ⟨a, ha, rfl⟩ := List.mem_map.mp hd
  exact .str _ (TOk.odS (h a ha)).1 (TOk.odS (h a ha)).2
theorem odRows {rs : List (List (Option Str))} (h : ∀ r ∈ rs, r.length ≤ 4 ∧ ∀ z, some z ∈ r → TOk z) (hl : rs.length ≤ 100) : Od 2 (rowsD rs) := .tup (by rw [List.length_map]; exact hl) fun d hd => by
  obtain ⟨r, hr, rfl⟩ := List.mem_map.mp hd
  exact odRow (h r hr)
theorem odPc {p : Pc} (h : Ok p) : Od 3 (pcD p) := .tup (by show 4 ≤ 100; omega) fun d hd => by
  simp only [List.mem_cons, List.not_mem_nil, or_false] at hd
  rcases hd with rfl | rfl | rfl | rfl
  · exact .str _ (TOk.odS h.c).1 (TOk.odS h.c).2
  · exact (odArgs h.as (by have := h.al; omega)).up (by omega)
  · exact odRows h.rs h.rl
  · exact .int _ _
/-! ### == of plain data is being the same -/
theorem eqvPl {n : Nat} {d : PyData} (h : Pl n d) : ∀ {m : Nat} {e : PyData}, Pl m e → (PyData.eqv d e = true ↔ d = e) := by
  induction h with
  | non => intro m e he; cases he <;> simp [PyData.eqv]
  | int n i => intro m e he; cases he <;> simp [PyData.eqv]
  | str n z => intro m e he; cases he <;> simp [PyData.eqv]
  | @tup n ds h ih =>
    intro m e he
    cases he with
    | @tup m es he =>
      have all : ∀ (l r : List PyData), (∀ d ∈ l, ∀ {m : Nat} {e : PyData}, Pl m e → (PyData.eqv d e = true ↔ d = e)) → (∀ e ∈ r, Pl m e) → (PyData.eqvAll l r = true ↔ l = r) := by
        intro l
        induction l with
        | nil => intro r _ _; cases r <;> simp [PyData.eqvAll]
        | cons x l il =>
          intro r hl hr
          cases r with
          | nil => simp [PyData.eqvAll]
          | cons y r =>
            rw [PySem.W.eqv_all_cons, Bool.and_eq_true, hl x List.mem_cons_self (hr y List.mem_cons_self), il r (fun d hd => hl d (List.mem_cons_of_mem _ hd)) (fun e he => hr e (List.mem_cons_of_mem _ he)), List.cons.injEq]
      rw [PyData.eqv, all ds es ih he, PyData.tuple.injEq]
    | non => simp [PyData.eqv]
    | int => simp [PyData.eqv]
    | str => simp [PyData.eqv]
theorem eqArgs (a b : List Str) : PyData.eqv (argsD a) (argsD b) = decide (a = b) := by
  rw [Bool.eq_iff_iff, eqvPl (plArgs a) (plArgs b), decide_eq_true_eq]
  exact ⟨argsD_inj, fun h => by rw [h]⟩
theorem eqRows (a b : List (List (Option Str))) : PyData.eqv (rowsD a) (rowsD b) = decide (a = b) := by
  rw [Bool.eq_iff_iff, eqvPl (plRows a) (plRows b), decide_eq_true_eq]
  exact ⟨fun h => mapInj rowD_inj (PyData.tuple.inj h), fun h => by rw [h]⟩
theorem eqPc (a b : Pc) : PyData.eqv (pcD a) (pcD b) = true ↔ a = b := by
  rw [eqvPl (plPc a) (plPc b)]
  exact ⟨pcD_inj, fun h => by rw [h]⟩
/-! ### taking a place apart -/
section
variable {K : PySem.W.Frag} {H : Hp}
theorem dpStrs : ∀ {as : List Str} {xs : List V}, DpAll K H xs (as.map .str) → xs = as.map V.str
  | [], _, h => by cases h; rfl
  | a :: as, _, h => by
    cases h with
    | cons h1 h2 =>
      cases h1
      rw [dpStrs h2]
      rfl
theorem strsDp : ∀ (as : List Str), DpAll K H (as.map V.str) (as.map .str)
  | [] => .nil
  | a :: as => .cons (.str a) (strsDp as)
def vA : Option Str → V
  | none => .non
  | some z => .str z
theorem dpAns {a : Option Str} {v : V} (h : Dp K H v (ansD a)) : v = vA a := by
  cases a <;> cases h <;> rfl
theorem ansDp (a : Option Str) : Dp K H (vA a) (ansD a) := by
  cases a
  · exact .non
  · exact .str _
theorem dpRowA : ∀ {r : List (Option Str)} {xs : List V}, DpAll K H xs (r.map ansD) → xs = r.map vA
  | [], _, h => by cases h; rfl
  | a :: r, _, h => by
    cases h with
    | cons h1 h2 =>
      rw [dpAns h1, dpRowA h2]
      rfl
theorem rowADp : ∀ (r : List (Option Str)), DpAll K H (r.map vA) (r.map ansD)
  | [] => .nil
  | a :: r => .cons (ansDp a) (rowADp r)
theorem argsAt {v : V} {as : List Str} (h : Dp K H v (argsD as)) : ∃ b, v = .ref b ∧ SqT K H b (as.map V.str) := by
  cases h with
  | tup hs ha => exact ⟨_, rfl, by rw [← dpStrs ha]; exact hs⟩
theorem argsDp {b : Addr} {as : List Str} (h : SqT K H b (as.map V.str)) : Dp K H (.ref b) (argsD as) := .tup h (strsDp as)
theorem rowAt {v : V} {r : List (Option Str)} (h : Dp K H v (rowD r)) : ∃ b, v = .ref b ∧ SqT K H b (r.map vA) := by
  cases h with
  | tup hs ha => exact ⟨_, rfl, by rw [← dpRowA ha]; exact hs⟩
theorem rowDp {b : Addr} {r : List (Option Str)} (h : SqT K H b (r.map vA)) : Dp K H (.ref b) (rowD r) := .tup h (rowADp r)
theorem rowsAt {v : V} {rs : List (List (Option Str))} (h : Dp K H v (rowsD rs)) : ∃ b xs, v = .ref b ∧ SqT K H b xs ∧ DpAll K H xs (rs.map rowD) := by
  cases h with
  | tup hs ha => exact ⟨_, _, rfl, hs, ha⟩
theorem pcAt {v : V} {p : Pc} (h : Dp K H v (pcD p)) : ∃ a va vr, v = .ref a ∧ SqT K H a [.str p.c, va, vr, .int p.n] ∧ Dp K H va (argsD p.as) ∧ Dp K H vr (rowsD p.rs) := by
  cases h with
  | tup hs ha =>
    cases ha with
    | cons h1 r =>
      cases r with
      | cons h2 r =>
        cases r with
        | cons h3 r =>
          cases r with
          | cons h4 r =>
            cases r
            cases h1
            cases h4
            exact ⟨_, _, _, rfl, hs, h2, h3⟩
theorem pcMk {a : Addr} {p : Pc} {va vr : V} (hs : SqT K H a [.str p.c, va, vr, .int p.n]) (ha : Dp K H va (argsD p.as)) (hr : Dp K H vr (rowsD p.rs)) : Dp K H (.ref a) (pcD p) := .tup hs (.cons (.str _) (.cons ha (.cons hr (.cons (.int _) .nil))))
end
theorem TS.lst {H : Hp} {D : Addr} {xs : List V} {o : HO} (h : H D = some (.lst xs)) : TS H (upd H D o) := fun a u e t => by
  rw [upd_ne fun z => ?_]
  · exact e
  · rw [z, h] at e
    have e2 := Option.some.inj e
    rcases t with ⟨xs, rfl⟩ | ⟨p, xs, rfl⟩ <;> cases e2
theorem allPl {K : PySem.W.Frag} {H H' : Hp} {n : Nat} {ds : List PyData} {xs : List V} (pl : ∀ d ∈ ds, Pl n d) (k : TS H H') (h : DpAll K H xs ds) : DpAll K H' xs ds := allTS (fun d hd => dpTS k (pl d hd)) h
/-- [e for x in t], t a tuple: each item gives new data -/
theorem lcMapN {K : PySem.W.Frag} {a : Addr} {xs : List V} {ds : List PyData} {j n : Nat} {te : TE} {σ : L2.St} {H1 : Hp} {D : Addr} {Qd : Hp → Prop} (g : PyData → PyData) (ha : SqT K H1 a xs) (hx : DpAll K H1 xs ds) (pl : ∀ d ∈ ds, Pl n (g d)) (hn : ds.length ≤ 1000) (hD : H1 D = none) (hw : ∀ v, wipe ((wipe σ [j]).set j (some v)) [j] = wipe σ [j])
    (hs : ∀ v d H, d ∈ ds → Same H1 H → Dp K H v d → ∀ (R : VK), (∀ y H2, Same H H2 → Dp K H2 y (g d) → R y H2) → te ((wipe σ [j]).set j (some v)) H R)
    (hd : ∀ H ys, Same H1 H → H D = some (.lst ys) → DpAll K H ys (ds.map g) → Qd H) :
    ∃ W : Nat → Nat → Hp → Prop, (∃ m, W 0 m (upd H1 D (.lst []))) ∧ ∀ i m H, W i m H →
      ((Itt K a).stop i H ∧ Qd H) ∨ ((Itt K a).go i H ∧ ∃ Nx : Hp → Prop, (∀ H', Nx H' → ∃ m', m' < m ∧ W (i + 1) m' H') ∧ ∀ x H', (Itt K a).yld i H x H' → gName j x (wipe σ [j]) H' fun σ2 H2 => wipe σ2 [j] = wipe σ [j] ∧ tYes σ2 H2 fun b H3 =>
        if b = true then te σ2 H3 fun y H4 => ∃ acc, H4 D = some (.lst acc) ∧ acc.length < sizeLine ∧ Nx (upd H4 D (.lst (acc ++ [y]))) else Nx H3) := by
  have hl := dpLen hx
  refine lcJ (n := ds.length) (fun i H => ∃ ys, At H1 D ys H ∧ DpAll K H ys ((ds.take i).map g)) ⟨[], ⟨sameUpd hD, upd_same⟩, .nil⟩ (fun i H lt h => ⟨xs, xs[i], sameTup h.choose_spec.1.1 ha, List.getElem?_eq_getElem (by omega)⟩)
    (fun H h => ⟨xs, sameTup h.choose_spec.1.1 ha, by omega⟩) (fun i H x H' lt h y => ?_) (fun H h => ?_)
  · obtain ⟨ys, hat, hys⟩ := h
    obtain ⟨rfl, y⟩ := y
    have e := y xs (sameTup hat.1 ha)
    obtain ⟨v, h1, h2⟩ := dpAt hx (List.getElem?_eq_getElem lt)
    obtain rfl : v = x := Option.some.inj (h1.symm.trans e)
    refine ⟨hw v, ?_⟩
    unfold tYes
    dsimp only
    rw [if_pos rfl]
    refine hs v ds[i] _ (List.getElem_mem lt) hat.1 (dpSame hat.1 _ _ h2) _ fun z H2 s2 hz => ?_
    obtain ⟨e3, e4⟩ := hat.put (ys := ys ++ [z]) hD s2
    have hly := dpLen hys
    refine ⟨_, e3, ?_, _, e4, ?_⟩
    · rw [hly, List.length_map, List.length_take, sizeLine_eq]
      omega
    · rw [List.take_succ_eq_append_getElem lt, List.map_append]
      have t := TS.lst (o := .lst (ys ++ [z])) e3
      refine dpSnoc (dpTS t (pl _ (List.getElem_mem lt)) _ hz) (allPl (n := n) (fun d hd => ?_) t (dpAllSame s2 _ _ hys))
      obtain ⟨c, hc, rfl⟩ := List.mem_map.mp hd
      exact pl c (List.mem_of_mem_take hc)
  · obtain ⟨ys, hat, hys⟩ := h
    rw [List.take_length] at hys
    exact hd H ys hat.1 hat.2 hys
end PLC

set_option Elab.async false
set_option linter.all false
set_option maxRecDepth 100000
set_option maxHeartbeats 4000000
/-! trees as data, and what stands at a place of a run -/
namespace TRE
open PySem PySem.Spec PyProof.Rows L2 ND KS KS.La PLC
/-- a part of a text: a text, or an item of a row -/
inductive Pt
  | txt (z : Str)
  | itm (r i : Int)
inductive Tr
  | stop
  | wr (o : Str) (ps : List Pt) (next : Tr)
  | rd (ks : List (Str × Str)) (cs : List (List (Option Str) × Tr)) (last : Tr)
def ptD : Pt → PyData
  | .txt z => .str z
  | .itm r i => .tuple [.int r, .int i]
def kyD (k : Str × Str) : PyData := .tuple [.str k.1, .str k.2]
mutual
def trD : Tr → PyData
  | .stop => .tuple [.str "stop"]
  | .wr o ps n => .tuple [.str "write", .str o, .tuple (ps.map ptD), trD n]
  | .rd ks cs l => .tuple [.str "read", .tuple (ks.map kyD), .tuple (csD cs), trD l]
def csD : List (List (Option Str) × Tr) → List PyData
  | [] => []
  | (r, t) :: cs => .tuple [rowD r, trD t] :: csD cs
end
theorem csD_map : ∀ cs, csD cs = cs.map fun c => .tuple [rowD c.1, trD c.2]
  | [] => by rw [csD]; rfl
  | (r, t) :: cs => by rw [csD, csD_map cs]; rfl
/-- past the writes -/
def nextRead : Tr → Tr
  | .wr _ _ n => nextRead n
  | t => t
def wrs : Tr → Nat
  | .wr _ _ n => wrs n + 1
  | _ => 0
def pickC (r : List (Option Str)) : List (List (Option Str) × Tr) → Tr → Tr
  | [], l => l
  | (g, t) :: cs, l => if g = r then t else pickC r cs l
/-- the node behind a read -/
def after (r : List (Option Str)) : Tr → Tr
  | .rd _ cs l => pickC r cs l
  | t => t
/-- an item of a row, or nothing -/
def itemS (rows : List (List (Option Str))) (r i : Int) : Str :=
  if 0 ≤ r ∧ r < (rows.length : Int) then
    (if 0 ≤ i ∧ i < ((rows.getD r.toNat []).length : Int) then ((rows.getD r.toNat []).getD i.toNat none).getD "" else "")
  else ""
def pieceS (rows : List (List (Option Str))) : Pt → Str
  | .txt z => z
  | .itm r i => itemS rows r i
theorem argsRow (as : List Str) : argsD as = rowD (as.map some) := by
  show PyData.tuple (as.map .str) = .tuple ((as.map some).map ansD)
  rw [List.map_map]
  rfl
section
variable {K : PySem.W.Frag} {H : Hp}
theorem dpTup {v : V} {ds : List PyData} (h : Dp K H v (.tuple ds)) : ∃ a xs, v = .ref a ∧ SqT K H a xs ∧ DpAll K H xs ds := by
  cases h with
  | tup a b => exact ⟨_, _, rfl, a, b⟩
theorem dpOne {xs : List V} {d : PyData} (h : DpAll K H xs [d]) : ∃ y, xs = [y] ∧ Dp K H y d := by
  cases h with
  | cons a b => cases b; exact ⟨_, rfl, a⟩
theorem dpTwo {xs : List V} {d e : PyData} (h : DpAll K H xs [d, e]) : ∃ y z, xs = [y, z] ∧ Dp K H y d ∧ Dp K H z e := by
  cases h with
  | cons a b =>
    obtain ⟨z, rfl, c⟩ := dpOne b
    exact ⟨_, _, rfl, a, c⟩
theorem dpFour {xs : List V} {a b c d : PyData} (h : DpAll K H xs [a, b, c, d]) : ∃ x y z u, xs = [x, y, z, u] ∧ Dp K H x a ∧ Dp K H y b ∧ Dp K H z c ∧ Dp K H u d := by
  cases h with
  | cons h1 h2 =>
    cases h2 with
    | cons h2 h3 =>
      obtain ⟨z, u, rfl, h4, h5⟩ := dpTwo h3
      exact ⟨_, _, _, _, rfl, h1, h2, h4, h5⟩
theorem dpStr {v : V} {z : Str} (h : Dp K H v (.str z)) : v = .str z := by
  cases h
  rfl
theorem dpInt {v : V} {i : Int} (h : Dp K H v (.int i)) : v = .int i := by
  cases h
  rfl
theorem stopAt {v : V} (h : Dp K H v (trD .stop)) : ∃ a, v = .ref a ∧ SqT K H a [.str "stop"] := by
  rw [trD] at h
  obtain ⟨a, xs, rfl, hs, hx⟩ := dpTup h
  obtain ⟨y, rfl, hy⟩ := dpOne hx
  rw [dpStr hy] at hs
  exact ⟨a, rfl, hs⟩
theorem wrAt {v : V} {o : Str} {ps : List Pt} {n : Tr} (h : Dp K H v (trD (.wr o ps n))) : ∃ a vp vn, v = .ref a ∧ SqT K H a [.str "write", .str o, vp, vn] ∧ Dp K H vp (.tuple (ps.map ptD)) ∧ Dp K H vn (trD n) := by
  rw [trD] at h
  obtain ⟨a, xs, rfl, hs, hx⟩ := dpTup h
  obtain ⟨x, y, z, u, rfl, h1, h2, h3, h4⟩ := dpFour hx
  rw [dpStr h1, dpStr h2] at hs
  exact ⟨a, z, u, rfl, hs, h3, h4⟩
theorem rdAt {v : V} {ks : List (Str × Str)} {cs : List (List (Option Str) × Tr)} {l : Tr} (h : Dp K H v (trD (.rd ks cs l))) : ∃ a vk vc vl, v = .ref a ∧ SqT K H a [.str "read", vk, vc, vl] ∧ Dp K H vk (.tuple (ks.map kyD)) ∧ Dp K H vc (.tuple (csD cs)) ∧ Dp K H vl (trD l) := by
  rw [trD] at h
  obtain ⟨a, xs, rfl, hs, hx⟩ := dpTup h
  obtain ⟨x, y, z, u, rfl, h1, h2, h3, h4⟩ := dpFour hx
  rw [dpStr h1] at hs
  exact ⟨a, y, z, u, rfl, hs, h2, h3, h4⟩
/-- the node's word -/
def word : Tr → Str
  | .stop => "stop"
  | .wr _ _ _ => "write"
  | .rd _ _ _ => "read"
theorem headAt {v : V} {t : Tr} (h : Dp K H v (trD t)) : ∃ a xs, v = .ref a ∧ SqT K H a xs ∧ atI xs 0 = some (.str (word t)) := by
  cases t with
  | stop => obtain ⟨a, e, hs⟩ := stopAt h; exact ⟨a, _, e, hs, atI_nat (j := 0) rfl⟩
  | wr o ps n => obtain ⟨a, _, _, e, hs, _⟩ := wrAt h; exact ⟨a, _, e, hs, atI_nat (j := 0) rfl⟩
  | rd ks cs l => obtain ⟨a, _, _, _, e, hs, _⟩ := rdAt h; exact ⟨a, _, e, hs, atI_nat (j := 0) rfl⟩
end
theorem wordEq (s t : Str) : decide (V.str s = V.str t) = decide (s = t) := by
  by_cases h : s = t
  · rw [h, decide_eq_true rfl, decide_eq_true rfl]
  · rw [decide_eq_false h, decide_eq_false fun z => h (V.str.inj z)]
theorem ww : (decide (("write" : Str) = "write")) = true := by decide +kernel
theorem sw : (decide (("stop" : Str) = "write")) = false := by decide +kernel
theorem rw' : (decide (("read" : Str) = "write")) = false := by decide +kernel
theorem wr' : (decide (("write" : Str) = "read")) = false := by decide +kernel
theorem sr : (decide (("stop" : Str) = "read")) = false := by decide +kernel
theorem rr : (decide (("read" : Str) = "read")) = true := by decide +kernel
theorem ws : (decide (("write" : Str) = "stop")) = false := by decide +kernel
theorem ss : (decide (("stop" : Str) = "stop")) = true := by decide +kernel
section
variable {P : Program} {w : World} {K : PySem.W.Frag} {mg : Str → Option Value} {base : Heap} {f : Addr} {fd : FuncData}
theorem eqRow (a b : List (Option Str)) : PyData.eqv (rowD a) (rowD b) = decide (a = b) := by
  rw [Bool.eq_iff_iff, eqvPl (plRow a) (plRow b), decide_eq_true_eq]
  exact ⟨rowD_inj, fun h => by rw [h]⟩
end
end TRE

set_option Elab.async false
set_option linter.all false
set_option maxRecDepth 100000
set_option maxHeartbeats 4000000
namespace TRE
open PySem PySem.Spec PyProof.Rows L2 ND KS KS.La PLC
/-- the step at a node -/
def stepD (rows : List (List (Option Str))) : Tr → PyData
  | .stop => .tuple [.str "stop"]
  | .rd ks _ _ => .tuple [.str "read", .tuple (ks.map kyD)]
  | .wr o ps _ => if (Txt.join "" (ps.map (pieceS rows))).length ≤ 400 then .tuple [.str "write", .str o, .str (Txt.join "" (ps.map (pieceS rows)))] else .tuple [.str "stop"]
def PtOk : Pt → Prop
  | .txt z => TOk z
  | .itm _ _ => True
/-- the rows that parts are taken from -/
def RowsOk (rows : List (List (Option Str))) : Prop := ∀ r ∈ rows, ∀ z, some z ∈ r → TOk z
theorem tokEmpty : TOk "" := by decide +kernel
theorem itemTok {rows : List (List (Option Str))} (h : RowsOk rows) (r i : Int) : TOk (itemS rows r i) := by
  unfold itemS
  split
  · rename_i h1
    split
    · rename_i h2
      have l1 : r.toNat < rows.length := by omega
      have e1 : rows.getD r.toNat [] = rows[r.toNat] := by rw [List.getD_eq_getElem?_getD, List.getElem?_eq_getElem l1]; rfl
      rw [e1] at h2 ⊢
      have l2 : i.toNat < rows[r.toNat].length := by omega
      rw [List.getD_eq_getElem?_getD, List.getElem?_eq_getElem l2]
      show TOk ((rows[r.toNat][i.toNat]).getD "")
      cases e : rows[r.toNat][i.toNat] with
      | none => exact tokEmpty
      | some z => exact h _ (List.getElem_mem l1) z (by rw [← e]; exact List.getElem_mem l2)
    · exact tokEmpty
  · exact tokEmpty
theorem pieceTok {rows : List (List (Option Str))} (h : RowsOk rows) {p : Pt} (hp : PtOk p) : TOk (pieceS rows p) := by
  cases p with
  | txt z => exact hp
  | itm r i => exact itemTok h r i
section
variable {P : Program} {w : World} {K : PySem.W.Frag} {mg : Str → Option Value} {base : Heap} {f : Addr} {fd : FuncData}
def spPiece (K : PySem.W.Frag) : Sp := fun vs H Q _ => ∃ v u p rows, vs = [v, u] ∧ Dp K H v (ptD p) ∧ Dp K H u (.tuple (rows.map rowD)) ∧ RowsOk rows ∧ Q (.str (pieceS rows p)) H
abbrev nPiece : List Str := ["part", "rows", "row", "item"]
def spStepOf (K : PySem.W.Frag) : Sp := fun vs H Q _ => ∃ v u t rows, vs = [v, u] ∧ Dp K H v (trD t) ∧ Dp K H u (.tuple (rows.map rowD)) ∧ RowsOk rows ∧ (∀ o ps n, t = .wr o ps n → ps.length ≤ 100 ∧ ∀ p ∈ ps, PtOk p) ∧ ∀ r H', Same H H' → Dp K H' r (stepD rows t) → Q r H'
abbrev nStepOf : List Str := ["node", "rows", "text", "part"]
end
end TRE

set_option Elab.async false
set_option linter.all false
set_option maxRecDepth 100000
set_option maxHeartbeats 4000000
namespace TRE
open PySem PySem.Spec PyProof.Rows L2 ND KS KS.La PLC
section
variable {P : Program} {w : World} {K : PySem.W.Frag} {mg : Str → Option Value} {base : Heap} {f : Addr} {fd : FuncData}
def spPieceL (K : PySem.W.Frag) : Sp := fun vs H Q _ => ∃ v b xs p rows, vs = [v, .ref b] ∧ Dp K H v (ptD p) ∧ SqL K H b xs ∧ DpAll K H xs (rows.map rowD) ∧ RowsOk rows ∧ Q (.str (pieceS rows p)) H
abbrev nPT : List Str := ["_law_part", "_law_rows", "_law_there"]
theorem scPT : FnScope nPT ["_law_part", "_law_rows"] (defScope lPartText) := ⟨rfl, rfl, rfl, by decide +kernel, rfl, by decide +kernel, by decide +kernel⟩
theorem okPartText {k : Nat} (F : FnP K "_law_part_text" lPartText f fd) (B : Bn mg) : FnOk P w K mg base CX0 (k + 1) f fd ["_law_part", "_law_rows"] (spPieceL K) := by
  refine F.ok scPT (fun vs H Q E h => ?_) (fun cdv A outer s H vs Q E hr h => ?_)
  · obtain ⟨v, b, xs, p, rows, rfl, _⟩ := h
    rfl
  · obtain ⟨v, b, xs, p, rows, rfl, hd, hb, hx, hok, q⟩ := h
    have lx := dpLen hx
    rw [List.length_map] at lx
    refine ⟨_, PSs.nox (pss_cons (ps_if (pt_val (pe_callB call_isi (by rfl) B.isi (by decide +kernel) (pa_cons (pv 0) (pa_cons (pe_bltn (v := .ty "str") (by rfl) B.str (by decide +kernel) rfl) pa_nil)))) (pss_one (ps_ret (pv 0))) pss_nil) (C8.pss_cut (ps_set (i := 2) scPT.nd rfl (.inl rfl) (pe_and (pe_chain op_le op_lt pe_int (pe_ix ix_tup (pv 0) pe_int (fun _ _ => rfl)) (pe_callB call_len_seq (by rfl) B.len PySem.boot_len (pa_cons (pv 1) pa_nil)))
        (pe_one (pe_chain op_le op_lt pe_int (pe_ix ix_tup (pv 0) pe_int (fun _ _ => rfl)) (pe_callB call_len_seq (by rfl) B.len PySem.boot_len (pa_cons (pe_ix ix_list (pv 1) (pe_ix ix_tup (pv 0) pe_int (fun _ _ => rfl)) (fun _ _ => rfl)) pa_nil)))))) (pss_one (ps_ret (pe_ifExp (pt_val (pv 2)) (pe_orT (pe_ix ix_tup (pe_ix ix_list (pv 1) (pe_ix ix_tup (pv 0) pe_int (fun _ _ => rfl)) (fun _ _ => rfl)) (pe_ix ix_tup (pv 0) pe_int (fun _ _ => rfl)) (fun _ _ => rfl)) (pe_one pe_str)) pe_str))))), ?_⟩
    refine ⟨v, rfl, v, .ty "str", _, _, _, rfl, .ty _, dpTy hd, dpKit hd (.inr (.inl rfl)), _, rfl, ?_⟩
    cases p with
    | txt z =>
      cases hd
      exact iteT ⟨_, rfl, q⟩
    | itm r i =>
      have q' : Q (.str (itemS rows r i)) H := q
      refine iteF ?_
      obtain ⟨a, ys, rfl, ha, hy⟩ := dpTup hd
      obtain ⟨y, z, rfl, h1, h2⟩ := dpTwo hy
      obtain rfl := dpInt h1
      obtain rfl := dpInt h2
      have at0 : atI [V.int r, V.int i] 0 = some (.int r) := atI_nat (j := 0) rfl
      have at1 : atI [V.int r, V.int i] 1 = some (.int i) := atI_nat (j := 1) rfl
      refine ⟨fun σ' H' => ∃ t : Bool, σ' = [some (.ref a), some (.ref b), some (.bl t)] ∧ H = H' ∧ (t = true ↔ (0 ≤ r ∧ r < (rows.length : Int)) ∧ 0 ≤ i ∧ i < ((rows.getD r.toNat []).length : Int)), ?_, ?_⟩
      · refine ⟨.ref a, rfl, a, _, 0, .int r, rfl, rfl, ha, at0, 0, r, rfl, rfl, _, rfl, ?_⟩
        by_cases h0 : 0 ≤ r
        · rw [if_pos (decide_eq_true h0)]
          refine ⟨.ref b, rfl, b, xs, rfl, .inl hb, r, (xs.length : Int), rfl, rfl, _, rfl, ?_⟩
          by_cases h3 : r < (xs.length : Int)
          · rw [decide_eq_true h3]
            obtain ⟨j, rfl⟩ : ∃ j : Nat, r = (j : Int) := ⟨r.toNat, by omega⟩
            have hj : j < rows.length := by omega
            have er : (rows.map rowD)[j]? = some (rowD rows[j]) := by rw [List.getElem?_map, List.getElem?_eq_getElem hj]; rfl
            obtain ⟨v', e1, e2⟩ := dpAt hx er
            obtain ⟨c, rfl, hc⟩ := rowAt e2
            have ad : rows.getD (j : Int).toNat [] = rows[j] := by rw [Int.toNat_natCast, List.getD_eq_getElem?_getD, List.getElem?_eq_getElem hj]; rfl
            rw [ad]
            refine iteT ⟨.ref a, rfl, a, _, 1, .int i, rfl, rfl, ha, at1, 0, i, rfl, rfl, _, rfl, ?_⟩
            by_cases h4 : 0 ≤ i
            · rw [if_pos (decide_eq_true h4)]
              refine ⟨.ref b, rfl, .ref a, rfl, a, _, 0, .int (j : Int), rfl, rfl, ha, at0, b, xs, (j : Int), .ref c, rfl, rfl, hb, atI_nat e1, c, _, rfl, .inr hc, i, _, rfl, rfl, _, rfl, rfl, ?_⟩
              rw [List.length_map, decide_eq_true_eq]
              exact ⟨fun h5 => ⟨⟨h0, by omega⟩, h4, h5⟩, fun h5 => h5.2.2⟩
            · rw [if_neg (by rw [decide_eq_true_eq]; exact h4)]
              exact ⟨_, rfl, rfl, ⟨fun z => absurd z Bool.false_ne_true, fun z => absurd z.2.1 h4⟩⟩
          · rw [decide_eq_false h3]
            exact iteF ⟨_, rfl, rfl, ⟨fun z => absurd z Bool.false_ne_true, fun z => absurd z.1.2 (by omega)⟩⟩
        · rw [if_neg (by rw [decide_eq_true_eq]; exact h0)]
          exact ⟨_, rfl, iteF ⟨_, rfl, rfl, ⟨fun z => absurd z Bool.false_ne_true, fun z => absurd z.1.1 h0⟩⟩⟩
      rintro _ _ ⟨t, rfl, rfl, ht⟩
      refine ⟨.bl t, rfl, _, rfl, ?_⟩
      cases t with
      | false =>
        have eS : itemS rows r i = "" := by
          have no := fun z => Bool.false_ne_true (ht.mpr z)
          unfold itemS
          by_cases h1 : 0 ≤ r ∧ r < (rows.length : Int)
          · rw [if_pos h1]
            by_cases h2 : 0 ≤ i ∧ i < ((rows.getD r.toNat []).length : Int)
            · exact absurd ⟨h1, h2⟩ no
            · rw [if_neg h2]
          · rw [if_neg h1]
        rw [eS] at q'
        exact iteF q'
      | true =>
        obtain ⟨⟨h0, h3⟩, h4, h5⟩ := ht.mp rfl
        obtain ⟨j, rfl⟩ : ∃ j : Nat, r = (j : Int) := ⟨r.toNat, by omega⟩
        have hj : j < rows.length := by omega
        have er : (rows.map rowD)[j]? = some (rowD rows[j]) := by rw [List.getElem?_map, List.getElem?_eq_getElem hj]; rfl
        obtain ⟨v', e1, e2⟩ := dpAt hx er
        obtain ⟨c, rfl, hc⟩ := rowAt e2
        have ad : rows.getD (j : Int).toNat [] = rows[j] := by rw [Int.toNat_natCast, List.getD_eq_getElem?_getD, List.getElem?_eq_getElem hj]; rfl
        rw [ad] at h5
        obtain ⟨m, rfl⟩ : ∃ m : Nat, i = (m : Int) := ⟨i.toNat, by omega⟩
        have hm : m < rows[j].length := by omega
        have ei : (rows[j].map vA)[m]? = some (vA (rows[j][m])) := by rw [List.getElem?_map, List.getElem?_eq_getElem hm]; rfl
        refine iteT ⟨.ref b, rfl, .ref a, rfl, a, _, 0, .int (j : Int), rfl, rfl, ha, at0, b, xs, (j : Int), .ref c, rfl, rfl, hb, atI_nat e1, .ref a, rfl, a, _, 1, .int (m : Int), rfl, rfl, ha, at1, c, _, (m : Int), _, rfl, rfl, hc, atI_nat ei, ?_⟩
        have eS : itemS rows (j : Int) (m : Int) = (rows[j][m]).getD "" := by
          unfold itemS
          rw [if_pos ⟨h0, h3⟩, ad, if_pos ⟨h4, h5⟩, Int.toNat_natCast, List.getD_eq_getElem?_getD, List.getElem?_eq_getElem hm]
          rfl
        rw [eS] at q'
        cases eo : rows[j][m] with
        | none =>
          rw [eo] at q'
          exact ⟨false, rfl, iteF q'⟩
        | some z =>
          rw [eo] at q'
          have tz : TOk z := hok _ (List.getElem_mem hj) z (by rw [← eo]; exact List.getElem_mem hm)
          have tl : z.length ≤ 1000 := tz.2.1
          refine ⟨_, ⟨by rw [sizeLine_eq]; omega, rfl⟩, ?_⟩
          by_cases hz : (z.length : Int) = 0
          · have : ((z.length : Int) != 0) = false := by rw [hz]; rfl
            rw [this]
            have ez : z = "" := by
              have h6 : z.cps.size = 0 := by
                have : z.length = 0 := by omega
                exact this
              cases z with
              | mk cps =>
                have : cps = #[] := Array.eq_empty_of_size_eq_zero h6
                rw [this]
                rfl
            rw [ez] at q'
            exact iteF q'
          · have : ((z.length : Int) != 0) = true := by simpa using hz
            rw [this]
            exact iteT q'
end
end TRE

set_option Elab.async false
set_option linter.all false
set_option maxRecDepth 100000
set_option maxHeartbeats 4000000
namespace TRE
open PySem PySem.Spec PyProof.Rows L2 ND KS KS.La PLC
def RowOk (r : List (Option Str)) : Prop := r.length ≤ 4 ∧ ∀ z, some z ∈ r → TOk z
mutual
/-- sizes, all the way down -/
def TrOk : Tr → Prop
  | .stop => True
  | .wr _ ps n => (ps.length ≤ 100 ∧ ∀ p ∈ ps, PtOk p) ∧ TrOk n
  | .rd _ cs l => (cs.length ≤ 100 ∧ CsOk cs) ∧ TrOk l
def CsOk : List (List (Option Str) × Tr) → Prop
  | [] => True
  | (r, t) :: cs => (RowOk r ∧ TrOk t) ∧ CsOk cs
end
theorem csOk_mem : ∀ {cs : List (List (Option Str) × Tr)}, CsOk cs → ∀ c ∈ cs, RowOk c.1 ∧ TrOk c.2
  | [], _, c, h => absurd h (by simp)
  | (r, t) :: cs, h, c, hc => by
    rw [CsOk] at h
    rcases List.mem_cons.mp hc with rfl | hc
    · exact h.1
    · exact csOk_mem h.2 c hc
theorem okNextT : ∀ {t : Tr}, TrOk t → TrOk (nextRead t)
  | .stop, h => h
  | .rd _ _ _, h => h
  | .wr o ps n, h => by
    rw [TrOk] at h
    rw [nextRead]
    exact okNextT h.2
theorem okPick {r : List (Option Str)} : ∀ {cs : List (List (Option Str) × Tr)} {l : Tr}, CsOk cs → TrOk l → TrOk (pickC r cs l)
  | [], l, _, h => h
  | (g, t) :: cs, l, hc, h => by
    rw [CsOk] at hc
    show TrOk (if g = r then t else pickC r cs l)
    split
    · exact hc.1.2
    · exact okPick hc.2 h
theorem okAfterT {r : List (Option Str)} {t : Tr} (h : TrOk t) : TrOk (after r t) := by
  cases t with
  | stop => exact h
  | wr o ps n => exact h
  | rd ks cs l =>
    rw [TrOk] at h
    exact okPick h.1.2 h.2
/-- behind all rows -/
def walk : Tr → List (List (Option Str)) → Tr
  | t, [] => t
  | t, r :: rs => walk (after r (nextRead t)) rs
/-- each row is read -/
def CanW : Tr → List (List (Option Str)) → Prop
  | _, [] => True
  | t, r :: rs => (∃ ks cs l, nextRead t = .rd ks cs l) ∧ CanW (after r (nextRead t)) rs
def down : Tr → Nat → Tr
  | t, 0 => t
  | .wr _ _ n, k + 1 => down n k
  | t, _ + 1 => t
/-- so many writes -/
def CanD : Tr → Nat → Prop
  | _, 0 => True
  | .wr _ _ n, k + 1 => CanD n k
  | _, _ + 1 => False
theorem okWalk : ∀ {rs : List (List (Option Str))} {t : Tr}, TrOk t → TrOk (walk t rs)
  | [], t, h => h
  | r :: rs, t, h => okWalk (rs := rs) (okAfterT (okNextT h))
theorem okDown : ∀ {k : Nat} {t : Tr}, TrOk t → TrOk (down t k)
  | 0, t, h => by cases t <;> exact h
  | k + 1, .stop, h => h
  | k + 1, .rd _ _ _, h => h
  | k + 1, .wr o ps n, h => by
    rw [TrOk] at h
    exact okDown (k := k) h.2
theorem walkSnoc (t : Tr) (r : List (Option Str)) : ∀ rs, walk t (rs ++ [r]) = after r (nextRead (walk t rs)) := by
  intro rs
  induction rs generalizing t with
  | nil => rfl
  | cons x rs ih => exact ih (after x (nextRead t))
theorem canW_at : ∀ {rs : List (List (Option Str))} {t : Tr} {i : Nat}, CanW t rs → i < rs.length → ∃ ks cs l, nextRead (walk t (rs.take i)) = .rd ks cs l
  | [], _, _, _, h => absurd h (Nat.not_lt_zero _)
  | r :: rs, t, 0, h, _ => h.1
  | r :: rs, t, i + 1, h, lt => canW_at (rs := rs) (i := i) h.2 (Nat.lt_of_succ_lt_succ lt)
theorem downSnoc : ∀ (k : Nat) (t : Tr), CanD t (k + 1) → ∃ o ps n, down t k = .wr o ps n ∧ down t (k + 1) = n
  | 0, .wr o ps n, _ => ⟨o, ps, n, rfl, by cases n <;> rfl⟩
  | k + 1, .wr o ps n, h => downSnoc k n h
  | k, .stop, h => h.elim
  | k, .rd _ _ _, h => h.elim
theorem canD_le : ∀ {k j : Nat} {t : Tr}, j ≤ k → CanD t k → CanD t j
  | _, 0, t, _, _ => by cases t <;> trivial
  | 0, j + 1, _, h, _ => absurd h (by omega)
  | k + 1, j + 1, .wr o ps n, h, c => canD_le (k := k) (j := j) (t := n) (by omega) c
  | k + 1, j + 1, .stop, _, c => c.elim
  | k + 1, j + 1, .rd _ _ _, _, c => c.elim
theorem rowShaped {r : List (Option Str)} (h : RowOk r) : SeqAt.shaped (rowD r) = true := (odRow h).shaped (by omega)
section
variable {P : Program} {w : World} {K : PySem.W.Frag} {mg : Str → Option Value} {base : Heap} {f : Addr} {fd : FuncData}
end
end TRE

set_option Elab.async false
set_option linter.all false
set_option maxRecDepth 100000
set_option maxHeartbeats 8000000
namespace TRE
open PySem PySem.Spec PyProof.Rows L2 ND KS KS.La PLC
theorem joinSum {rows : List (List (Option Str))} {ps : List Pt} (h : RowsOk rows) (hl : ps.length ≤ 100) (hp : ∀ p ∈ ps, PtOk p) : ((ps.map (pieceS rows)).map (·.length)).sum ≤ 100000 := by
  have sum : ∀ l : List Pt, (∀ p ∈ l, PtOk p) → ((l.map (pieceS rows)).map (·.length)).sum ≤ 1000 * l.length := by
    intro l
    induction l with
    | nil => intro _; exact Nat.zero_le _
    | cons z l ih =>
      intro hl
      have h1 := ih fun y hy => hl y (List.mem_cons_of_mem _ hy)
      have h2 : (pieceS rows z).length ≤ 1000 := (pieceTok h (hl z List.mem_cons_self)).2.1
      rw [List.map_cons, List.map_cons, List.sum_cons, List.length_cons]
      omega
  have := sum ps hp
  omega
theorem joinLen {rows : List (List (Option Str))} {ps : List Pt} (h : RowsOk rows) (hl : ps.length ≤ 100) (hp : ∀ p ∈ ps, PtOk p) : (Txt.join "" (ps.map (pieceS rows))).length ≤ sizeLine := by
  have h2 := joinSum h hl hp
  have h3 := StrLaws.join_length_le "" (ps.map (pieceS rows))
  have e0 : ("" : Str).length = 0 := by decide +kernel
  rw [e0] at h3
  rw [sizeLine_eq]
  have h4 : (Txt.join "" (ps.map (pieceS rows))).length ≤ ((ps.map (pieceS rows)).map (·.length)).sum + (ps.map (pieceS rows)).length * 0 := by
    rw [← StrLaws.glued_eq_join] at h3
    exact h3
  omega
theorem odWr {n : Nat} {o : Str} {ps : List Pt} {t : Tr} (h : Od n (trD (.wr o ps t))) : Od n (trD t) := by
  rw [trD] at h
  cases h with
  | tup h h2 => exact (h2 (trD t) (by simp)).up (by omega)
theorem odNext {n : Nat} : ∀ {t : Tr}, Od n (trD t) → Od n (trD (nextRead t))
  | .stop, h => h
  | .rd _ _ _, h => h
  | .wr o ps t, h => by rw [nextRead]; exact odNext (odWr h)
theorem odRd {n : Nat} {ks : List (Str × Str)} {cs : List (List (Option Str) × Tr)} {l : Tr} (h : Od n (trD (.rd ks cs l))) : Od n (trD l) ∧ ∀ c ∈ cs, Od n (trD c.2) := by
  rw [trD] at h
  cases h with
  | tup h h2 =>
    refine ⟨(h2 (trD l) (by simp)).up (by omega), fun c hc => ?_⟩
    have h3 := h2 (.tuple (csD cs)) (by simp)
    rw [csD_map] at h3
    cases h3 with
    | tup _ h4 =>
      have h5 := h4 (.tuple [rowD c.1, trD c.2]) (List.mem_map.mpr ⟨c, hc, rfl⟩)
      cases h5 with
      | tup _ h6 => exact (h6 (trD c.2) (by simp)).up (by omega)
/-- the inner nodes of the cases with this row -/
def hits (r : List (Option Str)) (cs : List (List (Option Str) × Tr)) : List Tr := (cs.filter fun c => decide (c.1 = r)).map (·.2)
theorem pickHits (r : List (Option Str)) (l : Tr) : ∀ cs, pickC r cs l = (hits r cs).headD l
  | [] => rfl
  | (g, t) :: cs => by
    show (if g = r then t else pickC r cs l) = _
    unfold hits
    rw [List.filter_cons]
    by_cases h : g = r
    · rw [if_pos h, if_pos (decide_eq_true h)]
      rfl
    · rw [if_neg h, if_neg (by rw [decide_eq_true_eq]; exact h), pickHits r l cs]
      rfl
theorem hitsSnoc (r : List (Option Str)) (cs : List (List (Option Str) × Tr)) (c : List (Option Str) × Tr) : hits r (cs ++ [c]) = if c.1 = r then hits r cs ++ [c.2] else hits r cs := by
  unfold hits
  rw [List.filter_append, List.map_append]
  by_cases h : c.1 = r
  · rw [if_pos h, List.filter_cons, if_pos (decide_eq_true h)]
    rfl
  · rw [if_neg h, List.filter_cons, if_neg (by rw [decide_eq_true_eq]; exact h)]
    simp
theorem hitsLen (r : List (Option Str)) (cs : List (List (Option Str) × Tr)) : (hits r cs).length ≤ cs.length := by
  unfold hits
  rw [List.length_map]
  exact List.length_filter_le _ _
theorem hitsMem {r : List (Option Str)} {cs : List (List (Option Str) × Tr)} {t : Tr} (h : t ∈ hits r cs) : ∃ c ∈ cs, c.2 = t := by
  unfold hits at h
  obtain ⟨c, hc, e⟩ := List.mem_map.mp h
  exact ⟨c, (List.mem_filter.mp hc).1, e⟩
mutual
theorem plTr : ∀ t : Tr, ∃ n, Pl n (trD t)
  | .stop => ⟨1, by rw [trD]; exact .tup fun d hd => by rw [List.mem_singleton.mp hd]; exact .str _ _⟩
  | .wr o ps n => by
    obtain ⟨m, h⟩ := plTr n
    refine ⟨m + 3, ?_⟩
    rw [trD]
    refine .tup fun d hd => ?_
    simp only [List.mem_cons, List.not_mem_nil, or_false] at hd
    rcases hd with rfl | rfl | rfl | rfl
    · exact .str _ _
    · exact .str _ _
    · refine Pl.up (n := 2) (.tup fun d hd => ?_) (by omega)
      obtain ⟨p, _, rfl⟩ := List.mem_map.mp hd
      cases p with
      | txt z => exact .str _ _
      | itm r i =>
        refine .tup fun d hd => ?_
        simp only [List.mem_cons, List.not_mem_nil, or_false] at hd
        rcases hd with rfl | rfl <;> exact .int _ _
    · exact h.up (by omega)
  | .rd ks cs l => by
    obtain ⟨m, h⟩ := plTr l
    obtain ⟨m2, h2⟩ := plCs cs
    refine ⟨m + m2 + 4, ?_⟩
    rw [trD]
    refine .tup fun d hd => ?_
    simp only [List.mem_cons, List.not_mem_nil, or_false] at hd
    rcases hd with rfl | rfl | rfl | rfl
    · exact .str _ _
    · refine Pl.up (n := 2) (.tup fun d hd => ?_) (by omega)
      obtain ⟨k, _, rfl⟩ := List.mem_map.mp hd
      exact .tup fun d hd => by
        simp only [List.mem_cons, List.not_mem_nil, or_false] at hd
        rcases hd with rfl | rfl <;> exact .str _ _
    · exact Pl.up (n := m2 + 1) (.tup h2) (by omega)
    · exact h.up (by omega)
theorem plCs : ∀ cs : List (List (Option Str) × Tr), ∃ n, ∀ d ∈ csD cs, Pl n d
  | [] => ⟨0, fun d hd => by rw [csD] at hd; exact absurd hd (by simp)⟩
  | (r, t) :: cs => by
    obtain ⟨m, h⟩ := plTr t
    obtain ⟨m2, h2⟩ := plCs cs
    refine ⟨m + m2 + 3, fun d hd => ?_⟩
    rw [csD] at hd
    rcases List.mem_cons.mp hd with rfl | hd
    · refine Pl.up (n := m + 3) (.tup fun d hd => ?_) (by omega)
      simp only [List.mem_cons, List.not_mem_nil, or_false] at hd
      rcases hd with rfl | rfl
      · exact (plRow r).up (by omega)
      · exact h.up (by omega)
    · exact (h2 d hd).up (by omega)
end
theorem trTS {K : PySem.W.Frag} {H H' : Hp} (k : TS H H') (t : Tr) (v : V) (h : Dp K H v (trD t)) : Dp K H' v (trD t) := let ⟨_, p⟩ := plTr t; dpTS k p v h
theorem trsTS {K : PySem.W.Frag} {H H' : Hp} (k : TS H H') (ts : List Tr) {xs : List V} (h : DpAll K H xs (ts.map trD)) : DpAll K H' xs (ts.map trD) := allTS (fun d hd v h => by
  obtain ⟨t, _, rfl⟩ := List.mem_map.mp hd
  exact trTS k t v h) h
theorem rowsTS {K : PySem.W.Frag} {H H' : Hp} (k : TS H H') (rs : List (List (Option Str))) {xs : List V} (h : DpAll K H xs (rs.map rowD)) : DpAll K H' xs (rs.map rowD) := allPl (n := 2) (fun d hd => by
  obtain ⟨r, _, rfl⟩ := List.mem_map.mp hd
  exact plRow r) k h
theorem odPick {n : Nat} {r : List (Option Str)} : ∀ {cs : List (List (Option Str) × Tr)} {l : Tr}, (∀ c ∈ cs, Od n (trD c.2)) → Od n (trD l) → Od n (trD (pickC r cs l))
  | [], l, _, h => h
  | (g, t) :: cs, l, hc, h => by
    show Od n (trD (if g = r then t else pickC r cs l))
    split
    · exact hc _ List.mem_cons_self
    · exact odPick (fun c hc2 => hc c (List.mem_cons_of_mem _ hc2)) h
theorem odWalk {n : Nat} : ∀ {rs : List (List (Option Str))} {t : Tr}, Od n (trD t) → Od n (trD (walk t rs))
  | [], t, h => h
  | r :: rs, t, h => by
    refine odWalk (rs := rs) (t := after r (nextRead t)) ?_
    have h2 := odNext h
    cases e : nextRead t with
    | stop => rw [e] at h2; exact h2
    | wr o ps m => rw [e] at h2; exact h2
    | rd ks cs l =>
      rw [e] at h2
      exact odPick (odRd h2).2 (odRd h2).1
section
variable {P : Program} {w : World} {K : PySem.W.Frag} {mg : Str → Option Value} {base : Heap} {f : Addr} {fd : FuncData}
theorem cutAny {K : PySem.W.Frag} {H : Hp} {a : Addr} {xs : List V} {lo hi : Option Int} {Q : VK} (ha : SqT K H a xs) (q : ∀ p H', SqT K H' p (cutV xs lo hi) → Same H H' → Q (.ref p) H') : rSlA K (.ref a) lo hi H Q := by
  refine ⟨a, xs, rfl, ha, fun h => ?_, fun _ p hp => q p _ (.inl (.inl upd_same)) (sameUpd hp)⟩
  refine q a H ?_ (Same.refl H)
  unfold cutV
  rw [h.1, h.2, List.drop_zero, Nat.sub_zero, List.take_length]
  exact ha
/-- a list of trees against [] -/
theorem neTrees {H : Hp} {D e : Addr} {zs : List V} {ts : List Tr} {n : Nat} {Q : VK} (hn : n ≤ 60) (hD : H D = some (.lst zs)) (he : H e = some (.lst [])) (hz : DpAll K H zs (ts.map trD)) (od : ∀ t ∈ ts, Od n (trD t)) (h : Q (.bl (!decide (ts = []))) H) : rNeD K (.ref D) (.ref e) H Q := by
  obtain ⟨a, b⟩ := allLay (ds := ts.map trD) (n := n) fun d hd => by
    obtain ⟨t, ht, rfl⟩ := List.mem_map.mp hd
    exact (od t ht).lay
  refine ⟨.list (ts.map trD), .list [], .lst (.inl (.inl hD)) hz, .lst (.inl (.inl he)) .nil, ?_, rfl, ?_⟩
  · have e1 : (PyData.list (ts.map trD)).canLay0 = true := a
    unfold SeqAt.shaped
    rw [e1, Bool.true_and]
    refine decide_eq_true ?_
    simp only [PyData.depth]
    omega
  · cases ts with
    | nil => exact h
    | cons t ts => exact h
def spLStep (K : PySem.W.Frag) : Sp := fun vs H Q _ => ∃ d kvs pl p t, vs = [.ref d, pl] ∧ H d = some (.dK kvs) ∧ Dp K H pl (pcD p) ∧ Ok p ∧ ((∃ v, valV kvs (.inr p.c) = some v ∧ Dp K H v (trD t)) ∨ (valV kvs (.inr p.c) = none ∧ t = .stop)) ∧ TrOk t ∧ Od 58 (trD t) ∧ CanW t p.rs ∧
  ∃ c : Nat, p.n = (c : Int) ∧ CanD (walk t p.rs) c ∧ c ≤ 1000 ∧ ∀ r H', Same H H' → Dp K H' r (stepD (p.as.map some :: p.rs) (down (walk t p.rs) c)) → Q r H'
abbrev nLS : List Str := ["_law_recipes", "_law_place", "_law_node", "_law_rows", "_law_row", "_law_found", "_law_case", "_law_inner", "_law_turn", "_law_words", "_law_part"]
theorem scLS : FnScope nLS ["_law_recipes", "_law_place"] (defScope lStepAt) := ⟨rfl, rfl, rfl, by decide +kernel, rfl, by decide +kernel, by decide +kernel⟩
theorem okLStep {k : Nat} (F : FnP K "_law_step_at" lStepAt f fd) (B : Bn mg) (Pt : Has P w K mg base (k + 1) "_law_part_text" ["_law_part", "_law_rows"] (spPieceL K)) : FnOk P w K mg base CX0 (k + 2) f fd ["_law_recipes", "_law_place"] (spLStep K) := by
  obtain ⟨fP, fdP, gP, kP, bP, GP⟩ := Pt.ex
  refine F.ok scLS (fun vs H Q E h => ?_) (fun cdv A outer s H vs Q E hr h => ?_)
  · obtain ⟨d, kvs, pl, p, t, rfl, _⟩ := h
    rfl
  · obtain ⟨d, kvs, pl, p, t, rfl, ed, hp, okp, hget, ht, hod, hw, c, ec, hd, hc, q⟩ := h
    obtain ⟨a, va, vr, rfl, hs, ha, hv⟩ := pcAt hp
    obtain ⟨b, xs, rfl, hb, hxs⟩ := rowsAt hv
    have lx := dpLen hxs
    rw [List.length_map] at lx
    refine ⟨_, PSs.nox (C8.pss_cut (ps_asg (pe_tup (pa_cons (pe_dget2 (Nat.lt_of_le_of_lt (Nat.add_le_add_left (by decide) _) hr.units) (pv 0) (pe_ix ix_tup (pv 1) pe_int (fun _ _ => rfl)) (pe_tup (pa_cons (pe_str) pa_nil)) ⟨rfl, rfl, rfl, rfl⟩) (pa_cons (pe_lst (pa_cons (pe_ix ix_tup (pv 1) pe_int (fun _ _ => rfl)) pa_nil)) pa_nil)))
        (pg_tup rfl (pgs_cons (pg_name (i := 2) scLS.nd rfl (.inl rfl)) (pgs_cons (pg_name (i := 3) scLS.nd rfl (.inr rfl)) pgs_nil)))) (C8.pss_cut (ps_for PassesOwn.never rfl (pi_tup (pe_ix ix_tup (pv 1) pe_int (fun _ _ => rfl))) (pg_name (i := 4) scLS.nd rfl (.inr rfl))
        (C8.pss_cut (ps_while PassesOwn.never (pt_cmpR op_eq (pe_ix ix_tup (pv 2) pe_int (fun _ _ => rfl)) pe_str (nomark _)) (pss_one (ps_set (i := 2) scLS.nd rfl (.inl rfl) (pe_ix ix_tup (pv 2) pe_int (fun _ _ => rfl))))) (C8.pss_cut (ps_setLc (i := 5) (own := [("_law_case", 6), ("_law_inner", 7)]) (g := gTup K 2 (gCons (gName 6) (gCons (gName 7) gNil))) (by rfl) scLS.nd rfl rfl (sw_true rfl rfl (by decide +kernel) (by decide +kernel)) (pi_tup (pe_ix ix_tup (pv 2) pe_int (fun _ _ => rfl))) (blkOk_by (N := nLS) (sc := defScope lStepAt) (by decide +kernel))
            (fun _ _ _ _ _ => pg_tup rfl (pgs_cons (pg_name (i := 6) scLS.nd rfl (.inl rfl) (hf := .inr rfl)) (pgs_cons (pg_name (i := 7) scLS.nd rfl (.inl rfl) (hf := .inr rfl)) pgs_nil))) (fun _ _ _ _ _ => pts_one (pt_cmpR (r := rEqD K) (op_eqD hr.units) (pv 6) (pv 4) (nomark _))) (fun _ _ _ _ _ => pv 7)) (C8.pss_cut (ps_set (i := 2) scLS.nd rfl (.inl rfl) (pe_ifExp (pt_cmpR (r := rNeD K) (op_neD hr.units) (pv 5) (pe_lst pa_nil) (nomark _)) (pe_ix ix_list (pv 5) pe_int (fun _ _ => rfl)) (pe_ix ix_tup (pv 2) pe_int (fun _ _ => rfl)))) (pss_one (ps_expr (pe_bm PySem.F.plainAttrs_list PySem.F.slot_list_append PySem.F.type_list_append mt_append (pv 3) (pa_cons (pv 4) pa_nil)))))))) (C8.pss_cut (ps_for PassesOwn.never rfl (pi_range1 (by rfl) B.range (pa_cons (pe_ix ix_tup (pv 1) pe_int (fun _ _ => rfl)) pa_nil)) (pg_name (i := 8) scLS.nd rfl (.inl rfl))
        (pss_one (ps_set (i := 2) scLS.nd rfl (.inl rfl) (pe_ix ix_tup (pv 2) pe_int (fun _ _ => rfl))))) (pss_cons (ps_if (pt_cmpR op_ne (pe_ix ix_tup (pv 2) pe_int (fun _ _ => rfl)) pe_str (nomark _)) (pss_one (ps_ret (pe_slice sl_tupA (pv 2) po_none (po_some pe_int)))) pss_nil) (C8.pss_cut (ps_set (i := 9) scLS.nd rfl (.inl rfl) (pe_join pe_str (pe_lc (own := [("_law_part", 10)]) (g := gName 10) rfl scLS.nd (pi_tup (pe_ix ix_tup (pv 2) pe_int (fun _ _ => rfl))) (blkOk_by (N := nLS) (sc := defScope lStepAt) (by decide +kernel))
        (fun _ _ _ _ _ => pg_name (i := 10) scLS.nd rfl (.inl rfl) (hf := .inr rfl)) (fun _ _ _ _ _ => pts_nil) (fun _ _ _ _ _ => pe_call GP hr (by rfl) gP kP bP .nil pass0 (pa_cons (pv 10) (pa_cons (pv 3) pa_nil)))))) (pss_one (ps_ret (pe_ifExp (pt_cmpR op_le (pe_callB call_len_str (by rfl) B.len PySem.boot_len (pa_cons (pv 9) pa_nil)) pe_int (nomark _)) (pe_tup (pa_cons (pe_str) (pa_cons (pe_ix ix_tup (pv 2) pe_int (fun _ _ => rfl)) (pa_cons (pv 9) pa_nil)))) (pe_tup (pa_cons (pe_str) pa_nil)))))))))), ?_⟩
    have SR : ∀ (v : V) (R : Addr) (x4 x5 x8 : Option V), L2.St := fun v R x4 x5 x8 => [some (.ref d), some (.ref a), some v, some (.ref R), x4, x5, none, none, x8, none, none]
    refine ⟨fun σ' H' => ∃ v R, σ' = [some (.ref d), some (.ref a), some v, some (.ref R), none, none, none, none, none, none, none] ∧ Same H H' ∧ Dp K H' v (trD t) ∧ H' R = some (.lst [va]) ∧ H R = none, ?_, ?_⟩
    · refine ⟨.ref d, rfl, d, rfl, .inl ⟨kvs, .inl ed⟩, .ref a, rfl, a, _, 0, .str p.c, rfl, rfl, hs, atI_nat (j := 0) rfl, (by show 1 ≤ sizeLine; decide), fun T hT => ?_⟩
      have s1 := sameUpd (o := .tup [.str "stop"]) hT
      refine ⟨_, DGet.k (k := .inr p.c) (s1 _ _ ed), .ref a, rfl, a, _, 1, va, rfl, rfl, sameTup s1 hs, atI_nat (j := 1) rfl, (by show 1 ≤ sizeLine; decide), fun R hR => ⟨(by show 2 ≤ sizeLine; decide), fun T2 hT2 => ?_⟩⟩
      have s2 := sameUpd (o := .lst [va]) hR
      have eR : upd (upd H T (.tup [.str "stop"])) R (.lst [va]) R = some (.lst [va]) := upd_same
      have dv : Dp K (upd H T (.tup [.str "stop"])) ((valV kvs (.inr p.c)).getD (.ref T)) (trD t) := by
        rcases hget with ⟨v, e1, e2⟩ | ⟨e1, rfl⟩
        · rw [e1]
          exact dpSame s1 _ _ e2
        · rw [e1, trD]
          exact .tup (.inl (.inl upd_same)) (.cons (.str _) .nil)
      have hR0 : H R = none := by
        cases e : H R with
        | none => rfl
        | some o => rw [s1 _ _ e] at hR; cases hR
      generalize (valV kvs (.inr p.c)).getD (.ref T) = v at *
      have s3 := sameUpd (o := .tup [v, .ref R]) hT2
      refine ⟨T2, _, rfl, .inl (.inl upd_same), rfl, _, _, rfl, _, _, rfl, rfl, v, R, rfl, (s1.trans s2).trans s3, dpSame (s2.trans s3) _ _ dv, s3 _ _ eR, hR0⟩
    rintro _ H1 ⟨v, R, rfl, s1, dv, eR, hR0⟩
    -- the rows
    refine ⟨fun σ' H' => ∃ v x4 x5 ys, σ' = [some (.ref d), some (.ref a), some v, some (.ref R), x4, x5, none, none, none, none, none] ∧ Same H H' ∧ Dp K H' v (trD (walk t p.rs)) ∧ H' R = some (.lst ys) ∧ DpAll K H' ys ((p.as.map some :: p.rs).map rowD), ?_, ?_⟩
    · refine ⟨.ref a, rfl, a, _, 2, .ref b, rfl, rfl, sameTup s1 hs, atI_nat (j := 2) rfl, b, rfl, ⟨xs, sameTup s1 hb⟩, ?_⟩
      refine forJ (n := p.rs.length) (fun i σ' H' => ∃ v x4 x5 ys, σ' = [some (.ref d), some (.ref a), some v, some (.ref R), x4, x5, none, none, none, none, none] ∧ Same H H' ∧ Dp K H' v (trD (walk t (p.rs.take i))) ∧ H' R = some (.lst ys) ∧ DpAll K H' ys ((p.as.map some :: p.rs.take i).map rowD))
        ⟨v, none, none, [va], rfl, s1, dv, eR, .cons (by rw [← argsRow]; exact dpSame s1 _ _ ha) .nil⟩
        (fun i σ' H' lt h => by obtain ⟨_, _, _, _, _, s, _⟩ := h; exact ⟨xs, xs[i], sameTup s hb, List.getElem?_eq_getElem (by omega)⟩) (fun σ' H' h => by obtain ⟨_, _, _, _, _, s, _⟩ := h; exact ⟨xs, sameTup s hb, by omega⟩) (fun i σ' H2 u H3 lt h y => ?_) (fun σ' H' h => ?_)
      · obtain ⟨rfl, y⟩ := y
        obtain ⟨v, x4, x5, ys, rfl, s3, dv, eR, hys⟩ := h
        have eu := y xs (sameTup s3 hb)
        have er : (p.rs.map rowD)[i]? = some (rowD p.rs[i]) := by rw [List.getElem?_map, List.getElem?_eq_getElem lt]; rfl
        obtain ⟨u', e1, e2⟩ := dpAt hxs er
        obtain rfl : u' = u := Option.some.inj (e1.symm.trans eu)
        obtain ⟨ks, cs, l, e3⟩ := canW_at hw lt
        have ok1 : TrOk (nextRead (walk t (p.rs.take i))) := okNextT (okWalk ht)
        have od1 : Od 58 (trD (nextRead (walk t (p.rs.take i)))) := odNext (odWalk hod)
        rw [e3] at od1
        rw [e3, TrOk] at ok1
        have rok := okp.rs _ (List.getElem_mem lt)
        -- past the writes
        refine ⟨fun σ' H' => ∃ v, σ' = [some (.ref d), some (.ref a), some v, some (.ref R), some u', x5, none, none, none, none, none] ∧ H3 = H' ∧ Dp K H3 v (trD (.rd ks cs l)), ?_, ?_⟩
        · refine ⟨fun m σ' H' => H3 = H' ∧ ∃ v' t', σ' = [some (.ref d), some (.ref a), some v', some (.ref R), some u', x5, none, none, none, none, none] ∧ m = wrs t' ∧ Dp K H3 v' (trD t') ∧ nextRead t' = .rd ks cs l, ⟨_, rfl, v, _, rfl, rfl, dv, e3⟩, fun m σ' H' hw => ?_⟩
          obtain ⟨rfl, v', t', rfl, rfl, hd', e⟩ := hw
          obtain ⟨a', xs', rfl, hs', h0⟩ := headAt hd'
          refine ⟨.ref a', rfl, a', xs', 0, .str (word t'), rfl, rfl, hs', h0, rfl, _, rfl, ?_⟩
          rw [wordEq]
          cases t' with
          | stop => cases e
          | rd ks' cs' l' =>
            rw [show word (.rd ks' cs' l') = "read" from rfl, rw']
            exact iteF ⟨_, rfl, rfl, by rw [← e]; exact hd'⟩
          | wr o ps n =>
            rw [show word (.wr o ps n) = "write" from rfl, ww]
            obtain ⟨a2, vp, vn, ea, hs2, _, hn⟩ := wrAt hd'
            cases ea
            refine iteT ⟨fun σ2 H4 => ∃ m', m' < wrs (.wr o ps n) ∧ H3 = H4 ∧ ∃ v' t', σ2 = [some (.ref d), some (.ref a), some v', some (.ref R), some u', x5, none, none, none, none, none] ∧ m' = wrs t' ∧ Dp K H3 v' (trD t') ∧ nextRead t' = .rd ks cs l, fun _ _ z => z, ?_⟩
            exact ⟨.ref a', rfl, a', _, 3, vn, rfl, rfl, hs2, atI_nat (j := 3) rfl, wrs n, by show wrs n < wrs n + 1; omega, rfl, vn, n, rfl, rfl, hn, e⟩
        rintro _ _ ⟨v, rfl, rfl, dv⟩
        obtain ⟨a4, vk, vc, vl, rfl, hs4, _, hc4, hl4⟩ := rdAt dv
        obtain ⟨b4, zs4, rfl, hb4, hz4⟩ := dpTup hc4
        have l4 := dpLen hz4
        rw [csD_map] at hz4
        rw [csD_map, List.length_map] at l4
        have lcs := ok1.1.1
        -- the cases with this row
        refine ⟨fun σ' H' => ∃ D zs, σ' = [some (.ref d), some (.ref a), some (.ref a4), some (.ref R), some u', some (.ref D), none, none, none, none, none] ∧ Same H3 H' ∧ H' D = some (.lst zs) ∧ DpAll K H' zs ((hits p.rs[i] cs).map trD), ?_, ?_⟩
        · refine ⟨.ref a4, rfl, a4, _, 2, .ref b4, rfl, rfl, hs4, atI_nat (j := 2) rfl, b4, rfl, ⟨zs4, hb4⟩, fun D hD => ?_⟩
          refine lcJ (n := cs.length) (vs := [6, 7]) (fun m H' => ∃ zs, At H3 D zs H' ∧ DpAll K H' zs ((hits p.rs[i] (cs.take m)).map trD)) ⟨[], ⟨sameUpd hD, upd_same⟩, .nil⟩
            (fun m H' lt h => ⟨zs4, zs4[m], sameTup h.choose_spec.1.1 hb4, List.getElem?_eq_getElem (by omega)⟩) (fun H' h => ⟨zs4, sameTup h.choose_spec.1.1 hb4, by omega⟩) (fun m H' x H5 ltm h y => ?_) (fun H' h => ?_)
          · obtain ⟨rfl, y⟩ := y
            obtain ⟨zs, hat, hzs⟩ := h
            have ex := y zs4 (sameTup hat.1 hb4)
            have em : (cs.map fun c => PyData.tuple [rowD c.1, trD c.2])[m]? = some (.tuple [rowD (cs[m]).1, trD (cs[m]).2]) := by rw [List.getElem?_map, List.getElem?_eq_getElem ltm]; rfl
            obtain ⟨x', g1, g2⟩ := dpAt hz4 em
            obtain rfl : x' = x := Option.some.inj (g1.symm.trans ex)
            obtain ⟨c4, ws4, rfl, hc5, hw5⟩ := dpTup (dpSame hat.1 _ _ g2)
            obtain ⟨g, t4, rfl, hg, ht4⟩ := dpTwo hw5
            refine ⟨c4, _, rfl, hc5, rfl, _, _, rfl, _, _, rfl, rfl, rfl, ?_⟩
            refine ⟨g, rfl, u', rfl, _, _, hg, dpSame (s3.trans hat.1) _ _ e2, rowShaped (csOk_mem ok1.1.2 _ (List.getElem_mem ltm)).1, rowShaped rok, _, rfl, ?_⟩
            rw [eqRow]
            have ek : hits p.rs[i] (cs.take (m + 1)) = if (cs[m]).1 = p.rs[i] then hits p.rs[i] (cs.take m) ++ [(cs[m]).2] else hits p.rs[i] (cs.take m) := by
              rw [List.take_succ_eq_append_getElem ltm, hitsSnoc]
            by_cases hr2 : (cs[m]).1 = p.rs[i]
            · rw [if_pos hr2] at ek
              rw [decide_eq_true hr2, ek]
              obtain ⟨e6, e7⟩ := hat.put (ys := zs ++ [t4]) hD (Same.refl _)
              have lz := dpLen hzs
              rw [List.length_map] at lz
              have lh := hitsLen p.rs[i] (cs.take m)
              rw [List.length_take] at lh
              refine iteT ⟨t4, rfl, zs, e6, by rw [sizeLine_eq]; omega, zs ++ [t4], e7, ?_⟩
              have t6 := TS.lst (o := .lst (zs ++ [t4])) e6
              rw [List.map_append]
              exact dpSnoc (trTS t6 _ _ ht4) (trsTS t6 _ hzs)
            · rw [if_neg hr2] at ek
              rw [decide_eq_false hr2, ek]
              exact iteF ⟨zs, hat, hzs⟩
          · obtain ⟨zs, hat, hzs⟩ := h
            rw [List.take_length] at hzs
            exact ⟨D, zs, rfl, hat.1, hat.2, hzs⟩
        rintro _ H4 ⟨D, zs, rfl, s4, eD, hzs⟩
        -- the node behind it
        refine ⟨fun σ' H' => ∃ v', σ' = [some (.ref d), some (.ref a), some v', some (.ref R), some u', some (.ref D), none, none, none, none, none] ∧ Same H4 H' ∧ Dp K H' v' (trD (pickC p.rs[i] cs l)), ?_, ?_⟩
        · refine ⟨.ref D, rfl, Nat.zero_le _, fun p' hp' => ?_⟩
          have s5 := sameUpd (o := .lst []) hp'
          refine neTrees (n := 58) (by omega) (s5 _ _ eD) upd_same (dpAllSame s5 _ _ hzs) (fun t' ht' => by
            obtain ⟨c', hc', rfl⟩ := hitsMem ht'
            exact (odRd od1).2 c' hc') ⟨_, rfl, ?_⟩
          rw [pickHits]
          cases hh : hits p.rs[i] cs with
          | nil =>
            rw [decide_eq_true rfl]
            exact iteF ⟨.ref a4, rfl, a4, _, 3, vl, rfl, rfl, sameTup (s4.trans s5) hs4, atI_nat (j := 3) rfl, vl, rfl, s5, dpSame (s4.trans s5) _ _ hl4⟩
          | cons t0 ts =>
            rw [decide_eq_false (by simp)]
            rw [hh] at hzs
            cases hzs with
            | cons hz0 hzr =>
              exact iteT ⟨.ref D, rfl, D, _, 0, _, rfl, rfl, .inl (.inl (s5 _ _ eD)), atI_nat (j := 0) rfl, _, rfl, s5, dpSame s5 _ _ hz0⟩
        rintro _ H5 ⟨v', rfl, s5, dv'⟩
        have eR5 := s5 _ _ (s4 _ _ eR)
        have ly := dpLen hys
        rw [List.length_map, List.length_cons, List.length_take] at ly
        have lrs := okp.rl
        have t7 := TS.lst (o := .lst (ys ++ [u'])) eR5
        refine ⟨.ref R, rfl, .inl ⟨rfl, _, .inl (.inl eR5)⟩, u', rfl, R, ys, u', rfl, rfl, eR5, by rw [sizeLine_eq]; omega, v', _, _, ys ++ [u'], rfl, fun b' o hb' => ?_, ?_, upd_same, ?_⟩
        · rw [upd_ne (ne_of_none hb' hR0)]
          exact s5 _ _ (s4 _ _ (s3 _ _ hb'))
        · rw [List.take_succ_eq_append_getElem lt, walkSnoc, e3]
          exact trTS t7 _ _ dv'
        · have e9 : p.as.map some :: p.rs.take (i + 1) = (p.as.map some :: p.rs.take i) ++ [p.rs[i]] := by
            rw [List.take_succ_eq_append_getElem lt]
            rfl
          rw [e9, List.map_append]
          exact dpSnoc (dpTS t7 (plRow _) _ (dpSame ((s3.trans s4).trans s5) _ _ e2)) (rowsTS t7 _ (dpAllSame (s4.trans s5) _ _ hys))
      · obtain ⟨v, x4, x5, ys, rfl, s3, dv, eR, hys⟩ := h
        rw [List.take_length] at dv hys
        exact ⟨v, x4, x5, ys, rfl, s3, dv, eR, hys⟩
    rintro _ H2 ⟨v, x4, x5, ys, rfl, s2, dv, eR, hys⟩
    refine ⟨fun σ' H' => (∃ v x8, σ' = [some (.ref d), some (.ref a), some v, some (.ref R), x4, x5, none, none, x8, none, none] ∧ Dp K H2 v (trD (down (walk t p.rs) c))) ∧ H2 = H', ?_, ?_⟩
    · refine ⟨.ref a, rfl, a, _, 3, .int p.n, rfl, rfl, sameTup s2 hs, atI_nat (j := 3) rfl, p.n, rfl, by omega, by omega, ?_⟩
      rw [ec, Int.toNat_natCast]
      refine forJ (n := c) (fun i σ' H' => (∃ v x8, σ' = [some (.ref d), some (.ref a), some v, some (.ref R), x4, x5, none, none, x8, none, none] ∧ Dp K H2 v (trD (down (walk t p.rs) i))) ∧ H2 = H') ⟨⟨v, none, rfl, by have e : down (walk t p.rs) 0 = walk t p.rs := (by cases walk t p.rs <;> rfl); rw [e]; exact dv⟩, rfl⟩
        (fun i σ' H' lt _ => lt) (fun σ' H' _ => Nat.le_refl _) (fun i σ' H3 u H4 lt h y => ?_) (fun σ' H' h => h)
      obtain ⟨⟨v', x8, rfl, hv'⟩, rfl⟩ := h
      obtain ⟨rfl, rfl⟩ := y
      obtain ⟨o, ps, n, e1, e2⟩ := downSnoc i (walk t p.rs) (canD_le (by omega) hd)
      rw [e1] at hv'
      obtain ⟨a', vp, vn, rfl, hs', _, hn⟩ := wrAt hv'
      exact ⟨.ref a', rfl, a', _, 3, vn, rfl, rfl, hs', atI_nat (j := 3) rfl, ⟨vn, _, rfl, by rw [e2]; exact hn⟩, rfl⟩
    rintro _ _ ⟨⟨v2, x8, rfl, dv2⟩, rfl⟩
    have ok2 : TrOk (down (walk t p.rs) c) := okDown (okWalk ht)
    have rowsOk : RowsOk (p.as.map some :: p.rs) := fun r hr z hz => by
      rcases List.mem_cons.mp hr with rfl | hr
      · obtain ⟨y, hy, e⟩ := List.mem_map.mp hz
        rw [← Option.some.inj e]
        exact okp.as y hy
      · exact (okp.rs r hr).2 z hz
    generalize down (walk t p.rs) c = T at *
    obtain ⟨a0, xs0, ev, hs0, h0⟩ := headAt dv2
    subst ev
    refine ⟨.ref a0, rfl, a0, xs0, 0, .str (word T), rfl, rfl, hs0, h0, rfl, _, rfl, ?_⟩
    show (if (!decide (V.str (word T) = V.str "write")) = true then _ else _)
    rw [wordEq]
    cases T with
    | stop =>
      rw [show word .stop = "stop" from rfl, sw]
      obtain ⟨a2, ea, hs2⟩ := stopAt dv2
      cases ea
      refine iteT ⟨.ref a0, rfl, 2, rfl, cutAny hs2 fun p' H' h' s' => q _ _ (s2.trans s') ?_⟩
      exact .tup h' (.cons (.str _) .nil)
    | rd ks cs l =>
      rw [show word (.rd ks cs l) = "read" from rfl, rw']
      obtain ⟨a2, vk, vc, vl, ea, hs2, hk, _⟩ := rdAt dv2
      cases ea
      refine iteT ⟨.ref a0, rfl, 2, rfl, cutAny hs2 fun p' H' h' s' => q _ _ (s2.trans s') ?_⟩
      exact .tup h' (.cons (.str _) (.cons (dpSame s' _ _ hk) .nil))
    | wr o ps n =>
      rw [show word (.wr o ps n) = "write" from rfl, ww]
      obtain ⟨a2, vp, vn, ea, hs2, hp2, _⟩ := wrAt dv2
      cases ea
      rw [TrOk] at ok2
      obtain ⟨⟨hl, hpt⟩, _⟩ := ok2
      obtain ⟨b5, xs5, rfl, hb5, hx5⟩ := dpTup hp2
      have l5 := dpLen hx5
      rw [List.length_map] at l5
      have hq : stepD (p.as.map some :: p.rs) (.wr o ps n) = if (Txt.join "" (ps.map (pieceS (p.as.map some :: p.rs)))).length ≤ 400 then .tuple [.str "write", .str o, .str (Txt.join "" (ps.map (pieceS (p.as.map some :: p.rs))))] else .tuple [.str "stop"] := rfl
      rw [hq] at q
      refine iteF ⟨fun σ' H' => σ' = [some (.ref d), some (.ref a), some (.ref a0), some (.ref R), x4, x5, none, none, x8, some (.str (Txt.join "" (ps.map (pieceS (p.as.map some :: p.rs))))), none] ∧ Same H2 H', ?_, ?_⟩
      · refine ⟨⟨_, rfl⟩, .ref a0, rfl, a0, _, 2, .ref b5, rfl, rfl, hs2, atI_nat (j := 2) rfl, b5, rfl, ⟨xs5, hb5⟩, fun D hD => ?_⟩
        refine lcJ (n := ps.length) (vs := [10]) (fun i H' => At H2 D ((ps.take i).map fun x => .str (pieceS (p.as.map some :: p.rs) x)) H') ⟨sameUpd hD, upd_same⟩ (fun i H' lt h => ⟨xs5, xs5[i], sameTup h.1 hb5, List.getElem?_eq_getElem (by omega)⟩) (fun H' h => ⟨xs5, sameTup h.1 hb5, by omega⟩) (fun i H' x H3 lt h y => ?_) (fun H' h => ?_)
        · obtain ⟨rfl, y⟩ := y
          have ex := y xs5 (sameTup h.1 hb5)
          have ep : (ps.map ptD)[i]? = some (ptD ps[i]) := by rw [List.getElem?_map, List.getElem?_eq_getElem lt]; rfl
          obtain ⟨v', e1, e2⟩ := dpAt hx5 ep
          obtain rfl : v' = x := Option.some.inj (e1.symm.trans ex)
          refine ⟨rfl, ?_⟩
          unfold tYes
          dsimp only
          rw [if_pos rfl]
          refine ⟨v', rfl, .ref R, rfl, v', R, ys, ps[i], p.as.map some :: p.rs, rfl, dpSame h.1 _ _ e2, .inl (.inl (h.1 _ _ eR)), dpAllSame h.1 _ _ hys, rowsOk, ?_⟩
          obtain ⟨e3, e4⟩ := h.put (ys := (ps.take i).map (fun x => .str (pieceS (p.as.map some :: p.rs) x)) ++ [.str (pieceS (p.as.map some :: p.rs) ps[i])]) hD (Same.refl _)
          refine ⟨_, e3, by rw [List.length_map, List.length_take, sizeLine_eq]; omega, ?_⟩
          rw [List.take_succ_eq_append_getElem lt, List.map_append]
          exact e4
        · rw [List.take_length] at h
          have em : (ps.map fun x => V.str (pieceS (p.as.map some :: p.rs) x)) = (ps.map (pieceS (p.as.map some :: p.rs))).map V.str := by rw [List.map_map]; rfl
          have hD2 := h.2
          rw [em] at hD2
          refine ⟨"", D, ps.map (pieceS (p.as.map some :: p.rs)), rfl, rfl, .inl (.inl (.inl hD2)), ?_, rfl, h.1⟩
          have e0 : ("" : Str).length = 0 := by decide +kernel
          rw [e0]
          have := joinSum rowsOk hl hpt
          have hlen : (ps.map (pieceS (p.as.map some :: p.rs))).length ≤ 100 := by rw [List.length_map]; exact hl
          omega
      rintro _ H3 ⟨rfl, s3⟩
      have hT := joinLen rowsOk hl hpt
      generalize Txt.join "" (ps.map (pieceS (p.as.map some :: p.rs))) = T at *
      refine ⟨.str T, rfl, T, rfl, hT, _, _, rfl, rfl, _, rfl, ite2 (fun e => ?_) (fun e => ?_)⟩
      · have e1 : (T.length : Int) ≤ 400 := of_decide_eq_true e
        rw [if_pos (by omega)] at q
        refine ⟨.ref a0, rfl, a0, _, 1, .str o, rfl, rfl, sameTup s3 hs2, atI_nat (j := 1) rfl, .str T, rfl, (by show 3 ≤ sizeLine; decide), fun p' hp' => ?_⟩
        exact q _ _ ((s2.trans s3).trans (sameUpd hp')) (.tup (.inl (.inl upd_same)) (.cons (.str _) (.cons (.str _) (.cons (.str _) .nil))))
      · have e1 : ¬ (T.length : Int) ≤ 400 := fun y => e (decide_eq_true y)
        rw [if_neg (by omega)] at q
        refine ⟨(by show 1 ≤ sizeLine; decide), fun p' hp' => ?_⟩
        exact q _ _ ((s2.trans s3).trans (sameUpd hp')) (.tup (.inl (.inl upd_same)) (.cons (.str _) .nil))
end
end TRE

set_option Elab.async false
set_option linter.all false
set_option maxRecDepth 100000
set_option maxHeartbeats 8000000
namespace TRE
open PySem PySem.Spec PyProof.Rows L2 ND KS KS.La PLC
section
variable {P : Program} {w : World} {K : PySem.W.Frag} {mg : Str → Option Value} {base : Heap} {f : Addr} {fd : FuncData}
/-- a node that reads, or None -/
def rdOr (t : Tr) : PyData := match t with
  | .rd _ _ _ => trD t
  | _ => .none
def spNodeAt (K : PySem.W.Frag) : Sp := fun vs H Q _ => ∃ v u t rs, vs = [v, u] ∧ Dp K H v (trD t) ∧ TrOk t ∧ Od 58 (trD t) ∧ Dp K H u (rowsD rs) ∧ (∀ r ∈ rs, RowOk r) ∧ CanW t rs ∧ ∀ r H', Same H H' → Dp K H' r (rdOr (nextRead (walk t rs))) → Q r H'
end
end TRE

set_option Elab.async false
set_option linter.all false
set_option maxRecDepth 100000
set_option maxHeartbeats 8000000
namespace TRE
open PySem PySem.Spec PyProof.Rows L2 ND KS KS.La PLC
abbrev lNear : Stmt := top 43
/-- tuple(a list or a tuple) -/
def rTup (K : PySem.W.Frag) : List V → Hp → VK → Prop := fun xs H Q => ∃ p ys, xs = [V.ref p] ∧ ((SqL K H p ys ∧ ∀ (l : Addr), H l = none → Q (V.ref l) (upd H l (HO.tup ys))) ∨ SqT K H p ys ∧ Q (V.ref p) H)
theorem fdNe {H : Hp} {f p : Addr} (h : Fd H f) (hp : H p = none) : p ≠ f := fun z => by
  obtain ⟨x, y, e, _⟩ := h
  rw [z, e] at hp
  cases hp
theorem fdOther {H : Hp} {f p : Addr} {o : HO} (h : Fd H f) (n : p ≠ f) : Fd (upd H p o) f := by
  obtain ⟨x, y, e, a, b⟩ := h
  exact ⟨x, y, by rw [upd_ne (Ne.symm n)]; exact e, a, b⟩
theorem tsKp {f : Addr} {H H' : Hp} (hf : Fd H f) (k : Kp f H H') : TS H H' := fun a o e t => by
  by_cases n : a = f
  · obtain ⟨x, y, h, _⟩ := hf
    rw [n, h] at e
    have e2 := Option.some.inj e
    rcases t with ⟨xs, rfl⟩ | ⟨p, xs, rfl⟩ <;> cases e2
  · exact k a o n e
/-- answers or texts, drawn, over whatever -/
theorem lcFeedX {J : It} {f D : Addr} {j m : Nat} {te : TE} {σ : L2.St} {H1 : Hp} {Qd : Hp → Prop} (pr : Option Str → Prop) (hD : H1 D = none) (hF : Fd H1 f) (hm : m ≤ 100) (hw : ∀ v, wipe ((wipe σ [j]).set j (some v)) [j] = wipe σ [j])
    (hgo : ∀ i H, i < m → Kp f H1 H → J.go i H) (hst : ∀ H, Kp f H1 H → J.stop m H)
    (hs : ∀ i x H H', i < m → Kp f H1 H → Fd H f → J.yld i H x H' → H' = H ∧ ∀ R : VK, (∀ a H2, pr a → Kp f H H2 → Fd H2 f → R (vA a) H2) → te ((wipe σ [j]).set j (some x)) H R)
    (hd : ∀ H (r : List (Option Str)), H D = some (.lst (r.map vA)) → r.length = m → (∀ a ∈ r, pr a) → Kp f H1 H → Fd H f → Qd H) :
    ∃ W : Nat → Nat → Hp → Prop, (∃ m, W 0 m (upd H1 D (.lst []))) ∧ ∀ i k H, W i k H →
      (J.stop i H ∧ Qd H) ∨ (J.go i H ∧ ∃ Nx : Hp → Prop, (∀ H', Nx H' → ∃ m', m' < k ∧ W (i + 1) m' H') ∧ ∀ x H', J.yld i H x H' → gName j x (wipe σ [j]) H' fun σ2 H2 => wipe σ2 [j] = wipe σ [j] ∧ tYes σ2 H2 fun b H3 =>
        if b = true then te σ2 H3 fun y H4 => ∃ acc, H4 D = some (.lst acc) ∧ acc.length < sizeLine ∧ Nx (upd H4 D (.lst (acc ++ [y]))) else Nx H3) := by
  have nD := fdNe hF hD
  refine lcJ (n := m) (fun i H => ∃ r : List (Option Str), H D = some (.lst (r.map vA)) ∧ r.length = i ∧ (∀ a ∈ r, pr a) ∧ Kp f H1 H ∧ Fd H f) ⟨[], upd_same, rfl, fun v hv => absurd hv (by simp), Kp.new hD, fdOther hF nD⟩ (fun i H lt h => hgo i H lt h.choose_spec.2.2.2.1) (fun H h => hst H h.choose_spec.2.2.2.1) (fun i H x H' lt h y => ?_) (fun H h => ?_)
  · obtain ⟨r, e, el, hv, kp, fd⟩ := h
    obtain ⟨rfl, hs2⟩ := hs i x H H' lt kp fd y
    refine ⟨hw _, ?_⟩
    unfold tYes
    dsimp only
    rw [if_pos rfl]
    refine hs2 _ fun a H2 ha k2 f2 => ?_
    have e2 := k2 D _ nD e
    refine ⟨_, e2, by rw [sizeLine_eq, List.length_map]; omega, r ++ [a], ?_, by rw [List.length_append, el]; rfl, fun u hu => ?_, fun b o nb hb => ?_, fdOther f2 nD⟩
    · rw [List.map_append]
      exact upd_same
    · rcases List.mem_append.mp hu with z | z
      · exact hv u z
      · rw [List.mem_singleton.mp z]
        exact ha
    · rw [upd_ne (ne_of_none hb hD)]
      exact k2 _ _ nb (kp _ _ nb hb)
  · obtain ⟨r, e, el, hv, kp, fd⟩ := h
    exact hd H r e el hv kp fd
section
variable {P : Program} {w : World} {K : PySem.W.Frag} {mg : Str → Option Value} {base : Heap} {f : Addr} {fd : FuncData}
theorem neRows {H : Hp} {D e : Addr} {zs : List V} {rs : List (List (Option Str))} {Q : VK} (hD : H D = some (.lst zs)) (he : H e = some (.lst [])) (hz : DpAll K H zs (rs.map rowD)) (ok : ∀ r ∈ rs, RowOk r) (h : Q (.bl (!decide (rs = []))) H) : rNeD K (.ref D) (.ref e) H Q := by
  obtain ⟨a, b⟩ := allLay (ds := rs.map rowD) (n := 1) fun d hd => by
    obtain ⟨r, hr, rfl⟩ := List.mem_map.mp hd
    exact (odRow (ok r hr)).lay
  refine ⟨.list (rs.map rowD), .list [], .lst (.inl (.inl hD)) hz, .lst (.inl (.inl he)) .nil, ?_, rfl, ?_⟩
  · have e1 : (PyData.list (rs.map rowD)).canLay0 = true := a
    unfold SeqAt.shaped
    rw [e1, Bool.true_and]
    refine decide_eq_true ?_
    simp only [PyData.depth]
    omega
  · cases rs with
    | nil => exact h
    | cons t ts => exact h
def spNearR (K : PySem.W.Frag) : Sp := fun vs H Q _ => ∃ f v ks cs l, vs = [.ref f, v] ∧ Fd H f ∧ Dp K H v (trD (.rd ks cs l)) ∧ TrOk (.rd ks cs l) ∧ ks.length ≤ 4 ∧ ∀ u r H', RowOk r → Dp K H' u (rowD r) → Kp f H H' → Fd H' f → Q u H'
abbrev nNR : List Str := ["_law_feed", "_law_node", "_law_cases", "_law_case", "_law_inner", "_law_key"]
theorem scNR : FnScope nNR ["_law_feed", "_law_node"] (defScope lNear) := ⟨rfl, rfl, rfl, by decide +kernel, rfl, by decide +kernel, by decide +kernel⟩
theorem okNearR {k : Nat} (F : FnP K "_law_rows_near" lNear f fd) (B : Bn mg) (D : Has P w K mg base (k + 1) "_law_draw" ["_law_feed", "_law_many"] spDraw) (Pk : Has P w K mg base (k + 2) "_law_pick" ["_law_feed", "_law_items"] (spPick K)) (An : Has P w K mg base (k + 4) "_law_some_answer" ["_law_feed"] spAns) :
    FnOk P w K mg base CX0 (k + 5) f fd ["_law_feed", "_law_node"] (spNearR K) := by
  obtain ⟨fD, fdD, gD, kD, bD, GD⟩ := D.ex
  obtain ⟨fP, fdP, gP, kP, bP, GP⟩ := Pk.ex
  obtain ⟨fA, fdA, gA, kA, bA, GA⟩ := An.ex
  refine F.ok scNR (fun vs H Q E h => ?_) (fun cdv A outer s H vs Q E hr h => ?_)
  · obtain ⟨a, v, ks, cs, l, rfl, _⟩ := h
    rfl
  · obtain ⟨a, v, ks, cs, l, rfl, hF, hd, ok, hk4, q⟩ := h
    have hr1 : Room (k + 1) _ := hr.mono (by omega)
    have hr2 : Room (k + 2) _ := hr.mono (by omega)
    rw [TrOk] at ok
    have lcs := ok.1.1
    obtain ⟨a4, vk, vc, vl, rfl, hs4, hk, hc4, hl4⟩ := rdAt hd
    obtain ⟨b4, zs4, rfl, hb4, hz4⟩ := dpTup hc4
    obtain ⟨bk, kz, rfl, hbk, hkz⟩ := dpTup hk
    have l4 := dpLen hz4
    have lk := dpLen hkz
    rw [List.length_map] at lk
    rw [csD_map] at hz4
    rw [csD_map, List.length_map] at l4
    refine ⟨_, PSs.nox (C8.pss_cut (ps_setLc (i := 2) (own := [("_law_case", 3), ("_law_inner", 4)]) (g := gTup K 2 (gCons (gName 3) (gCons (gName 4) gNil))) (by rfl) scNR.nd rfl rfl (sw_true rfl rfl (by decide +kernel) (by decide +kernel)) (pi_tup (pe_ix ix_tup (pv 1) pe_int (fun _ _ => rfl))) (blkOk_by (N := nNR) (sc := defScope lNear) (by decide +kernel))
        (fun _ _ _ _ _ => pg_tup rfl (pgs_cons (pg_name (i := 3) scNR.nd rfl (.inl rfl) (hf := .inr rfl)) (pgs_cons (pg_name (i := 4) scNR.nd rfl (.inl rfl) (hf := .inr rfl)) pgs_nil))) (fun _ _ _ _ _ => pts_nil) (fun _ _ _ _ _ => pv 3)) (C8.pss_cut (ps_if (PW.pt (pw_and (pt_cmpR (r := rNeD K) (op_neD hr.units) (pv 2) (pe_lst pa_nil) (nomark _)) (pw_and1 (pt_cmpR op_eq (pe_call GD hr1 (by rfl) gD kD bD .nil pass0 (pa_cons (pv 0) (pa_cons (pe_int) pa_nil))) pe_int (nomark _)))))
        (pss_one (ps_ret (pe_call GP hr2 (by rfl) gP kP bP .nil pass0 (pa_cons (pv 0) (pa_cons (pv 2) pa_nil))))) pss_nil) (pss_one (ps_ret (pe_callTy (r := rTup K) (T := "tuple") call_tuple_of (by rfl) B.tuple (by decide +kernel) (pa_cons (pe_lc (own := [("_law_key", 5)]) (g := gName 5) rfl scNR.nd (pi_tup (pe_ix ix_tup (pv 1) pe_int (fun _ _ => rfl))) (blkOk_by (N := nNR) (sc := defScope lNear) (by decide +kernel))
        (fun _ _ _ _ _ => pg_name (i := 5) scNR.nd rfl (.inl rfl) (hf := .inr rfl)) (fun _ _ _ _ _ => pts_nil) (fun _ _ _ _ _ => pe_call GA hr (by rfl) gA kA bA .nil pass0 (pa_cons (pv 0) pa_nil))) pa_nil)))))), ?_⟩
    have nz : ∀ {p : Addr} {H' : Hp}, Kp a H H' → Fd H' a → H' p = none → H p = none := fun {p H'} k f' h => by
      cases e : H p with
      | none => rfl
      | some o => rw [k p o (fdNe f' h) e] at h; cases h
    refine ⟨fun σ' H' => ∃ D zs, σ' = [some (.ref a), some (.ref a4), some (.ref D), none, none, none] ∧ Same H H' ∧ H D = none ∧ H' D = some (.lst zs) ∧ DpAll K H' zs ((cs.map (·.1)).map rowD), ?_, ?_⟩
    · refine ⟨.ref a4, rfl, a4, _, 2, .ref b4, rfl, rfl, hs4, atI_nat (j := 2) rfl, b4, rfl, ⟨zs4, hb4⟩, fun D hD => ?_⟩
      refine lcJ (n := cs.length) (vs := [3, 4]) (fun m H' => ∃ zs, At H D zs H' ∧ DpAll K H' zs (((cs.take m).map (·.1)).map rowD)) ⟨[], ⟨sameUpd hD, upd_same⟩, .nil⟩
        (fun m H' lt h => ⟨zs4, zs4[m], sameTup h.choose_spec.1.1 hb4, List.getElem?_eq_getElem (by omega)⟩) (fun H' h => ⟨zs4, sameTup h.choose_spec.1.1 hb4, by omega⟩) (fun m H' x H5 ltm h y => ?_) (fun H' h => ?_)
      · obtain ⟨rfl, y⟩ := y
        obtain ⟨zs, hat, hzs⟩ := h
        have ex := y zs4 (sameTup hat.1 hb4)
        have em : (cs.map fun c => PyData.tuple [rowD c.1, trD c.2])[m]? = some (.tuple [rowD (cs[m]).1, trD (cs[m]).2]) := by rw [List.getElem?_map, List.getElem?_eq_getElem ltm]; rfl
        obtain ⟨x', g1, g2⟩ := dpAt hz4 em
        obtain rfl : x' = x := Option.some.inj (g1.symm.trans ex)
        obtain ⟨c4, ws4, rfl, hc5, hw5⟩ := dpTup (dpSame hat.1 _ _ g2)
        obtain ⟨g, t4, rfl, hg, ht4⟩ := dpTwo hw5
        refine ⟨c4, _, rfl, hc5, rfl, _, _, rfl, _, _, rfl, rfl, rfl, ?_⟩
        unfold tYes
        dsimp only
        rw [if_pos rfl]
        obtain ⟨e6, e7⟩ := hat.put (ys := zs ++ [g]) hD (Same.refl _)
        have lz := dpLen hzs
        rw [List.length_map, List.length_map, List.length_take] at lz
        refine ⟨g, rfl, zs, e6, by rw [sizeLine_eq]; omega, zs ++ [g], e7, ?_⟩
        have t6 := TS.lst (o := .lst (zs ++ [g])) e6
        rw [List.take_succ_eq_append_getElem ltm, List.map_append, List.map_append]
        exact dpSnoc (dpTS t6 (plRow _) _ hg) (rowsTS t6 _ hzs)
      · obtain ⟨zs, hat, hzs⟩ := h
        rw [List.take_length] at hzs
        exact ⟨D, zs, rfl, hat.1, hD, hat.2, hzs⟩
    rintro _ H4 ⟨D, zs, rfl, s4, hD0, eD, hzs⟩
    have F4 := hF.same s4
    have nD : D ≠ a := fdNe hF hD0
    have lz := dpLen hzs
    rw [List.length_map, List.length_map] at lz
    have rok : ∀ r ∈ cs.map (·.1), RowOk r := fun r hr => by
      obtain ⟨c, hc, rfl⟩ := List.mem_map.mp hr
      exact (csOk_mem ok.1.2 c hc).1
    refine ⟨fun σ' H' => σ' = [some (.ref a), some (.ref a4), some (.ref D), none, none, none] ∧ Kp a H H' ∧ Fd H' a, ?_, ?_⟩
    · refine ⟨.ref D, rfl, Nat.zero_le _, fun p' hp' => ?_⟩
      have s5 := sameUpd (o := .lst []) hp'
      have F5 := F4.same s5
      have k5 : Kp a H (upd H4 p' (.lst [])) := Kp.same (s4.trans s5)
      have eD5 := s5 _ _ eD
      have hzs5 := dpAllSame s5 _ _ hzs
      refine neRows eD5 upd_same hzs5 rok ⟨_, rfl, ?_⟩
      generalize upd H4 p' (.lst []) = H5 at *
      by_cases e0 : cs.map (·.1) = []
      · rw [decide_eq_true e0]
        exact iteF ⟨rfl, k5, F5⟩
      · rw [decide_eq_false e0]
        refine iteT ⟨.ref a, rfl, a, 2, rfl, F5, by decide, by decide, fun r H6 r0 r1 k6 F6 => ⟨rfl, _, rfl, ite2 (fun _ => ?_) (fun _ => ?_)⟩⟩
        · have pos : 0 < zs.length := by
            rw [lz]
            rw [← List.length_map (f := (·.1))]
            exact List.length_pos_iff.mpr e0
          refine ⟨.ref a, rfl, .ref D, rfl, a, D, zs, rfl, F6, .inl (.inl (k6 _ _ nD eD5)), nD, pos, by omega, fun i u H7 eu k7 F7 => ?_⟩
          have li : i < cs.length := by
            have := (List.getElem?_eq_some_iff.mp eu).1
            omega
          have ei : ((cs.map (·.1)).map rowD)[i]? = some (rowD (cs[i]).1) := by rw [List.getElem?_map, List.getElem?_map, List.getElem?_eq_getElem li]; rfl
          obtain ⟨u', g1, g2⟩ := dpAt hzs5 ei
          obtain rfl : u' = u := Option.some.inj (g1.symm.trans eu)
          exact q _ _ H7 (csOk_mem ok.1.2 _ (List.getElem_mem li)).1 (dpTS (tsKp F5 (k6.trans k7)) (plRow _) _ g2) ((k5.trans k6).trans k7) F7
        · exact ⟨rfl, k5.trans k6, F6⟩
    rintro _ H5 ⟨rfl, k5, F5⟩
    have t5 := tsKp hF k5
    refine ⟨.ref a4, rfl, a4, _, 1, .ref bk, rfl, rfl, TS.tup t5 hs4, atI_nat (j := 1) rfl, bk, rfl, ⟨kz, TS.tup t5 hbk⟩, fun D2 hD2 => ?_⟩
    refine lcFeedX (m := ks.length) (fun o => ∀ z, o = some z → TOk z) hD2 F5 (by omega) (fun v => rfl) (fun i H' lt k => ⟨kz, kz[i], TS.tup (tsKp F5 k) (TS.tup t5 hbk), List.getElem?_eq_getElem (by omega)⟩) (fun H' k => ⟨kz, TS.tup (tsKp F5 k) (TS.tup t5 hbk), by omega⟩) (fun i x H6 H7 lt k6 F6 y => ?_) (fun H6 r e6 el hpr k6 F6 => ?_)
    · obtain ⟨rfl, y⟩ := y
      refine ⟨rfl, fun R hR => ⟨.ref a, rfl, a, rfl, F6, fun v H8 hv8 k8 F8 => ?_⟩⟩
      rcases hv8 with rfl | ⟨z, rfl, hz⟩
      · exact hR none H8 (fun z e => by cases e) k8 F8
      · exact hR (some z) H8 (fun z' e => by cases e; exact hz) k8 F8
    · refine ⟨D2, r.map vA, rfl, .inl ⟨.inl (.inl e6), fun U hU => ?_⟩⟩
      have s9 := sameUpd (o := .tup (r.map vA)) hU
      exact q _ r _ ⟨by omega, fun z hz => hpr _ hz z rfl⟩ (rowDp (.inl (.inl upd_same))) ((k5.trans k6).trans (Kp.same s9)) (F6.same s9)
end
end TRE

set_option Elab.async false
set_option linter.all false
set_option maxRecDepth 100000
set_option maxHeartbeats 8000000
namespace TRE
open PySem PySem.Spec PyProof.Rows L2 ND KS KS.La PLC
theorem dpAppend {K : PySem.W.Frag} {H : Hp} {ys : List V} {es : List PyData} (hy : DpAll K H ys es) : ∀ {xs : List V} {ds : List PyData}, DpAll K H xs ds → DpAll K H (xs ++ ys) (ds ++ es)
  | _, _, .nil => hy
  | _, _, .cons h r => .cons h (dpAppend hy r)
theorem catD {K : PySem.W.Frag} {H : Hp} {v u : V} {ds es : List PyData} {Q : VK} (hv : Dp K H v (.tuple ds)) (hu : Dp K H u (.tuple es)) (hl : ds.length + es.length ≤ 1000) (q : ∀ y H', Same H H' → Dp K H' y (.tuple (ds ++ es)) → Q y H') : rCatA K v u H Q := by
  cases hv with
  | @tup a xs _ ha hx =>
    cases hu with
    | @tup b ys _ hb hy =>
      have l1 := dpLen hx
      have l2 := dpLen hy
      refine ⟨a, b, xs, ys, rfl, rfl, ha, hb, by rw [sizeLine_eq]; omega, fun e => ?_, fun _ e => ?_, fun _ _ p hp => ?_⟩
      · subst e
        have : ds = [] := List.eq_nil_of_length_eq_zero l1.symm
        subst this
        exact q _ H (Same.refl H) (.tup hb hy)
      · subst e
        have : es = [] := List.eq_nil_of_length_eq_zero l2.symm
        subst this
        rw [List.append_nil] at q
        exact q _ H (Same.refl H) (.tup ha hx)
      · have s1 := sameUpd (o := .tup (xs ++ ys)) hp
        exact q _ _ s1 (.tup (.inl (.inl upd_same)) (dpAppend (dpAllSame s1 _ _ hy) (dpAllSame s1 _ _ hx)))
/-- a place of a run of the tree t, called c with as -/
def AtRun (t : Tr) (c : Str) (as : List Str) (q : Pc) : Prop := q.c = c ∧ q.as = as ∧ CanW t q.rs ∧ (∀ r ∈ q.rs, RowOk r) ∧ ∃ n : Nat, q.n = (n : Int) ∧ CanD (walk t q.rs) n
theorem canDSnoc : ∀ {n : Nat} {t : Tr} {o ps m}, CanD t n → down t n = .wr o ps m → CanD t (n + 1)
  | 0, .wr _ _ _, _, _, _, _, e => by
    cases e
    show CanD _ 0
    cases ‹Tr› <;> trivial
  | 0, .stop, _, _, _, _, e => by cases e
  | 0, .rd _ _ _, _, _, _, _, e => by cases e
  | n + 1, .wr _ _ s, o, ps, m, h, e => canDSnoc (n := n) (t := s) (o := o) (ps := ps) (m := m) h e
  | n + 1, .stop, _, _, _, h, _ => h.elim
  | n + 1, .rd _ _ _, _, _, _, h, _ => h.elim
theorem nextDown : ∀ {n : Nat} {t : Tr} {ks cs l}, CanD t n → down t n = .rd ks cs l → nextRead t = .rd ks cs l
  | 0, .wr _ _ _, _, _, _, _, e => by cases e
  | 0, .stop, _, _, _, _, e => by cases e
  | 0, .rd _ _ _, _, _, _, _, e => e
  | n + 1, .wr _ _ s, ks, cs, l, h, e => nextDown (n := n) (t := s) (ks := ks) (cs := cs) (l := l) h e
  | n + 1, .stop, _, _, _, h, _ => h.elim
  | n + 1, .rd _ _ _, _, _, _, h, _ => h.elim
theorem canWSnoc : ∀ {rs : List (List (Option Str))} {t : Tr} {r : List (Option Str)}, CanW t rs → (∃ ks cs l, nextRead (walk t rs) = .rd ks cs l) → CanW t (rs ++ [r])
  | [], t, r, _, h => ⟨h, trivial⟩
  | x :: rs, t, r, h, h2 => ⟨h.1, canWSnoc (rs := rs) h.2 h2⟩
section
variable {P : Program} {w : World} {K : PySem.W.Frag} {mg : Str → Option Value} {base : Heap} {f : Addr} {fd : FuncData}
theorem atOk {t : Tr} {c : Str} {as : List Str} {q : Pc} (h : AtRun t c as q) (hc : TOk c) (ha : ∀ z ∈ as, TOk z) (hl : as.length ≤ 4) (hr : q.rs.length ≤ 100) : Ok q := by
  obtain ⟨rfl, rfl, _, h4, _⟩ := h
  exact ⟨hc, ha, hl, h4, hr⟩
end
end TRE

set_option Elab.async false
set_option linter.all false
set_option maxRecDepth 100000
set_option maxHeartbeats 8000000
namespace TRE
open PySem PySem.Spec PyProof.Rows L2 ND KS KS.La PLC
abbrev lParts : Stmt := top 33
theorem plPt (p : Pt) : Pl 1 (ptD p) := by
  cases p with
  | txt z => exact .str _ _
  | itm r i =>
    refine .tup fun d hd => ?_
    simp only [List.mem_cons, List.not_mem_nil, or_false] at hd
    rcases hd with rfl | rfl <;> exact .int _ _
section
variable {P : Program} {w : World} {K : PySem.W.Frag} {mg : Str → Option Value} {base : Heap} {f : Addr} {fd : FuncData}
def spParts (K : PySem.W.Frag) : Sp := fun vs H Q _ => ∃ f : Addr, vs = [.ref f] ∧ Fd H f ∧ ∀ v ps H', ps.length ≤ 3 → (∀ p ∈ ps, PtOk p) → Dp K H' v (.tuple (List.map ptD ps)) → Kp f H H' → Fd H' f → Q v H'
abbrev nParts : List Str := ["_law_feed", "_law_found", "_law_turn", "_law_pair"]
theorem scParts : FnScope nParts ["_law_feed"] (defScope lParts) := ⟨rfl, rfl, rfl, by decide +kernel, rfl, by decide +kernel, by decide +kernel⟩
theorem okSomeParts {k : Nat} (F : FnP K "_law_some_parts" lParts f fd) (B : Bn mg) (D : Has P w K mg base (k + 1) "_law_draw" ["_law_feed", "_law_many"] spDraw) (T : Has P w K mg base (k + 3) "_law_some_text" ["_law_feed"] spText) : FnOk P w K mg base CX0 (k + 4) f fd ["_law_feed"] (spParts K) := by
  obtain ⟨fD, fdD, gD, kD, bD, GD⟩ := D.ex
  obtain ⟨fT, fdT, gT, kT, bT, GT⟩ := T.ex
  refine F.ok scParts (fun vs H Q E h => ?_) (fun cdv A outer s H vs Q E hr h => ?_)
  · obtain ⟨a, rfl, _⟩ := h
    rfl
  · obtain ⟨a, rfl, hF, q⟩ := h
    have hr1 : Room (k + 1) _ := hr.mono (by omega)
    refine ⟨_, PSs.nox (pss_cons (ps_set (i := 1) scParts.nd rfl (.inl rfl) (pe_lst pa_nil)) (pss_cons (ps_for PassesOwn.never rfl (pi_range1 (by rfl) B.range (pa_cons (pe_call GD hr1 (by rfl) gD kD bD .nil pass0 (pa_cons (pv 0) (pa_cons (pe_int) pa_nil))) pa_nil)) (pg_name (i := 2) scParts.nd rfl (.inl rfl))
        (pss_cons (ps_set (i := 3) scParts.nd rfl (.inl rfl) (pe_tup (pa_cons (pe_op op_sub (pe_call GD hr1 (by rfl) gD kD bD .nil pass0 (pa_cons (pv 0) (pa_cons (pe_int) pa_nil))) pe_int) (pa_cons (pe_op op_sub (pe_call GD hr1 (by rfl) gD kD bD .nil pass0 (pa_cons (pv 0) (pa_cons (pe_int) pa_nil))) pe_int) pa_nil)))) (pss_one (ps_expr (pe_bm PySem.F.plainAttrs_list PySem.F.slot_list_append PySem.F.type_list_append mt_append (pv 1) (pa_cons (pe_ifExp (pt_cmpR op_gt (pe_call GD hr1 (by rfl) gD kD bD .nil pass0 (pa_cons (pv 0) (pa_cons (pe_int) pa_nil))) pe_int (nomark _)) (pv 3) (pe_call GT hr (by rfl) gT kT bT .nil pass0 (pa_cons (pv 0) pa_nil))) pa_nil)))))) (pss_one (ps_ret (pe_callTy call_tuple_of (by rfl) B.tuple (by decide +kernel) (pa_cons (pv 1) pa_nil)))))), ?_⟩
    refine ⟨Nat.zero_le _, fun R hR => ?_⟩
    have nR := fdNe hF hR
    have F1 := hF.new (o := .lst []) hR
    have pls : ∀ {ps : List Pt} {H H' : Hp} {xs : List V}, TS H H' → DpAll K H xs (ps.map ptD) → DpAll K H' xs (ps.map ptD) := fun t h => allPl (n := 1) (fun d hd => by
      obtain ⟨p', _, rfl⟩ := List.mem_map.mp hd
      exact plPt p') t h
    refine ⟨.ref a, rfl, a, 4, rfl, F1, by decide, by decide, fun r H2 r0 r1 k2 F2 => ⟨r, rfl, by omega, by omega, ?_⟩⟩
    obtain ⟨m, rfl⟩ : ∃ m : Nat, r = (m : Int) := ⟨r.toNat, by omega⟩
    rw [Int.toNat_natCast]
    refine forJ (n := m) (fun i σ' H' => ∃ t u rs ps, σ' = [some (.ref a), some (.ref R), t, u] ∧ H' R = some (.lst rs) ∧ DpAll K H' rs (List.map ptD ps) ∧ ps.length = i ∧ (∀ p ∈ ps, PtOk p) ∧ Kp a H H' ∧ Fd H' a) ⟨none, none, [], [], rfl, k2 _ _ nR upd_same, .nil, rfl, fun v hv => absurd hv (by simp), (Kp.new hR).trans k2, F2⟩ (fun i σ' H' lt _ => lt) (fun σ' H' _ => Nat.le_refl _)
      (fun i σ' H3 x H4 lt h y => ?_) (fun σ' H' h => ?_)
    · obtain ⟨rfl, rfl⟩ := y
      obtain ⟨t, u, rs, ps, rfl, eR, hrs, lR, hv, k3, F3⟩ := h
      have lrs := dpLen hrs
      rw [List.length_map] at lrs
      refine ⟨.ref a, rfl, a, 5, rfl, F3, by decide, by decide, fun x1 H5 a0 a1 k5 F5 => ⟨x1, 1, rfl, rfl, .ref a, rfl, a, 6, rfl, F5, by decide, by decide, fun x2 H6 b0 b1 k6 F6 => ⟨x2, 1, rfl, rfl, (by show 2 ≤ sizeLine; decide), fun p hp => ?_⟩⟩⟩
      have F7 := F6.new (o := .tup [.int (x1 - 1), .int (x2 - 1)]) hp
      have k7 : Kp a H4 (upd H6 p (.tup [.int (x1 - 1), .int (x2 - 1)])) := (k5.trans k6).trans (Kp.new hp)
      have v7 : Dp K (upd H6 p (.tup [.int (x1 - 1), .int (x2 - 1)])) (.ref p) (ptD (.itm (x1 - 1) (x2 - 1))) := .tup (.inl (.inl upd_same)) (.cons (.int _) (.cons (.int _) .nil))
      generalize upd H6 p (.tup [.int (x1 - 1), .int (x2 - 1)]) = H7 at *
      have eR7 := k7 _ _ nR eR
      have fin : ∀ (v : V) (pt : Pt) H8, PtOk pt → Dp K H8 v (ptD pt) → Kp a H7 H8 → Fd H8 a → ∃ rs' ps', upd H8 R (.lst (rs ++ [v])) R = some (.lst rs') ∧ DpAll K (upd H8 R (.lst (rs ++ [v]))) rs' (List.map ptD ps') ∧ ps'.length = i + 1 ∧ (∀ u ∈ ps', PtOk u) ∧ Kp a H (upd H8 R (.lst (rs ++ [v]))) ∧ Fd (upd H8 R (.lst (rs ++ [v]))) a := fun v pt H8 ok8 hv8 k8 F8 => by
        have eR8 := k8 _ _ nR eR7
        have t9 := TS.lst (o := .lst (rs ++ [v])) eR8
        refine ⟨rs ++ [v], ps ++ [pt], upd_same, ?_, by rw [List.length_append, lR]; rfl, fun u hu => ?_, fun b o nb hb => ?_, fdOther F8 nR⟩
        · rw [List.map_append]
          exact dpSnoc (dpTS t9 (plPt _) _ hv8) (pls ((tsKp F3 (k7.trans k8)).trans t9) hrs)
        · rcases List.mem_append.mp hu with z | z
          · exact hv u z
          · rw [List.mem_singleton.mp z]
            exact ok8
        · rw [upd_ne (ne_of_none hb hR)]
          exact k8 _ _ nb (k7 _ _ nb (k3 _ _ nb hb))
      refine ⟨.ref R, rfl, .inl ⟨rfl, _, .inl (.inl eR7)⟩, .ref a, rfl, a, 3, rfl, F7, by decide, by decide, fun x3 H8 c0 c1 k8 F8 => ⟨_, _, rfl, rfl, _, rfl, ite2 (fun _ => ?_) (fun _ => ?_)⟩⟩
      · refine ⟨.ref p, rfl, R, rs, .ref p, rfl, rfl, k8 _ _ nR eR7, by rw [sizeLine_eq]; omega, ?_⟩
        obtain ⟨rs', ps', e1, e2, e3, e4, e5, e6⟩ := fin (.ref p) (.itm (x1 - 1) (x2 - 1)) H8 trivial (dpTS (tsKp F7 k8) (plPt _) _ v7) k8 F8
        exact ⟨_, _, rs', ps', rfl, e1, e2, e3, e4, e5, e6⟩
      · refine ⟨.ref a, rfl, a, rfl, F8, fun z H9 tz k9 F9 => ?_⟩
        refine ⟨R, rs, .str z, rfl, rfl, k9 _ _ nR (k8 _ _ nR eR7), by rw [sizeLine_eq]; omega, ?_⟩
        obtain ⟨rs', ps', e1, e2, e3, e4, e5, e6⟩ := fin (.str z) (.txt z) H9 tz (.str z) (k8.trans k9) F9
        exact ⟨_, _, rs', ps', rfl, e1, e2, e3, e4, e5, e6⟩
    · obtain ⟨t, u, rs, ps, rfl, eR, hrs, lR, hv, k3, F3⟩ := h
      refine ⟨.ref R, rfl, R, rs, rfl, .inl ⟨.inl (.inl eR), fun T hT => ?_⟩⟩
      exact q _ ps _ (by omega) hv (.tup (.inl (.inl upd_same)) (dpAllSame (sameUpd hT) _ _ hrs)) (k3.trans (Kp.new hT)) (F3.new hT)
end
end TRE

set_option Elab.async false
set_option linter.all false
set_option maxRecDepth 100000
set_option maxHeartbeats 8000000
namespace TRE
open PySem PySem.Spec PyProof.Rows L2 ND KS KS.La PLC
theorem sokEmpty : SOk "" := by unfold SOk; decide +kernel
theorem sokJoin : ∀ l : List Str, (∀ z ∈ l, SOk z) → SOk (Str.join "" l)
  | [], _ => by
    show SOk Str.empty
    unfold SOk
    decide +kernel
  | [x], h => h x List.mem_cons_self
  | x :: y :: l, h => by
    show SOk (x ++ "" ++ Str.join "" (y :: l))
    exact sokCat (sokCat (h x List.mem_cons_self) sokEmpty) (sokJoin (y :: l) fun z hz => h z (List.mem_cons_of_mem _ hz))
theorem sokTxt (l : List Str) (h : ∀ z ∈ l, SOk z) : SOk (Txt.join "" l) := by
  have e : Txt.join "" l = Str.join "" l := StrLaws.glued_eq_join "" l
  rw [e]
  exact sokJoin l h
/-- a step's depth and sizes -/
theorem odStep {n : Nat} {rows : List (List (Option Str))} {t : Tr} (h : Od (n + 1) (trD t)) (ok : TrOk t) (hr : RowsOk rows) : Od (n + 1) (stepD rows t) := by
  have stp : Od (n + 1) (.tuple [.str "stop"]) := .tup (by show 1 ≤ 100; omega) fun d hd => by
    rw [List.mem_singleton.mp hd]
    exact .str _ (by unfold SOk; decide +kernel) (by decide +kernel)
  cases t with
  | stop => exact stp
  | rd ks cs l =>
    rw [trD] at h
    cases h with
    | tup h1 h2 =>
      refine .tup (by show 2 ≤ 100; omega) fun d hd => ?_
      simp only [List.mem_cons, List.not_mem_nil, or_false] at hd
      rcases hd with rfl | rfl
      · exact h2 _ (by simp)
      · exact h2 _ (by simp)
  | wr o ps m =>
    rw [TrOk] at ok
    rw [trD] at h
    show Od (n + 1) (if (Txt.join "" (ps.map (pieceS rows))).length ≤ 400 then .tuple [.str "write", .str o, .str (Txt.join "" (ps.map (pieceS rows)))] else .tuple [.str "stop"])
    split
    · rename_i hl
      cases h with
      | tup h1 h2 =>
        refine .tup (by show 3 ≤ 100; omega) fun d hd => ?_
        simp only [List.mem_cons, List.not_mem_nil, or_false] at hd
        rcases hd with rfl | rfl | rfl
        · exact h2 _ (by simp)
        · exact h2 _ (by simp)
        · refine .str _ (sokTxt _ fun z hz => ?_) (by omega)
          obtain ⟨p, hp, rfl⟩ := List.mem_map.mp hz
          exact (pieceTok hr (ok.1.2 p hp)).1
    · exact stp
theorem dpAtV {K : PySem.W.Frag} {H : Hp} : ∀ {vs : List V} {ds : List PyData}, DpAll K H vs ds → ∀ {i : Nat} {v : V}, vs[i]? = some v → ∃ d, ds[i]? = some d ∧ Dp K H v d
  | _, _, .nil, i, v, e => by simp at e
  | _, _, .cons h r, 0, v, e => ⟨_, rfl, by obtain rfl := Option.some.inj e; exact h⟩
  | _, _, .cons h r, i + 1, v, e => dpAtV r e
theorem svDp {K : PySem.W.Frag} {H : Hp} {n : Nat} {d : PyData} (o : Od n d) : ∀ {v w : V}, Dp K H v d → Dp K H w d → Sv K H n v w := by
  induction o with
  | non n => intro v w a b; cases a; cases b; exact .flat .non
  | bl n b => intro v w a b; cases a; cases b; exact .flat (.bl _)
  | int n i => intro v w a b; cases a; cases b; exact .flat (.int _)
  | str n h h2 => intro v w a b; cases a; cases b; exact .flat (.str _)
  | @tup n ds h h2 ih =>
    intro v w a b
    cases a with
    | @tup a1 xs _ ha hx =>
      cases b with
      | @tup b1 ys _ hb hy =>
        have l1 := dpLen hx
        have l2 := dpLen hy
        refine .tup ha hb (by omega) (by omega) fun i v w e1 e2 => ?_
        obtain ⟨d, hd, h3⟩ := dpAtV hx e1
        obtain ⟨d', hd', h4⟩ := dpAtV hy e2
        obtain rfl := Option.some.inj (hd.symm.trans hd')
        exact ih d (List.mem_of_getElem? hd) h3 h4
theorem svLst {K : PySem.W.Frag} {H : Hp} {n : Nat} {ds : List PyData} {a b : Addr} {xs ys : List V} (o : ∀ d ∈ ds, Od n d) (hl : ds.length ≤ 1000) (ha : H a = some (.lst xs)) (hb : H b = some (.lst ys)) (hx : DpAll K H xs ds) (hy : DpAll K H ys ds) : Sv K H (n + 1) (.ref a) (.ref b) := by
  have l1 := dpLen hx
  have l2 := dpLen hy
  refine .lst (.inl (.inl ha)) (.inl (.inl hb)) (by omega) (by omega) fun i v w e1 e2 => ?_
  obtain ⟨d, hd, h3⟩ := dpAtV hx e1
  obtain ⟨d', hd', h4⟩ := dpAtV hy e2
  obtain rfl := Option.some.inj (hd.symm.trans hd')
  exact svDp (o d (List.mem_of_getElem? hd)) h3 h4
end TRE

set_option Elab.async false
set_option linter.all false
set_option maxRecDepth 100000
set_option maxHeartbeats 8000000
namespace TRE
open PySem PySem.Spec PyProof.Rows L2 ND KS KS.La PLC
abbrev lMixed : Stmt := top 26
/-- data put into another order -/
def spMixG {α : Type} (K : PySem.W.Frag) (e : α → PyData) : Sp := fun vs H Q _ => ∃ (f l : Addr) (xs : List V) (ds : List α), vs = [.ref f, .ref l] ∧ Fd H f ∧ SqL K H l xs ∧ ds.length ≤ 90 ∧ DpAll K H xs (ds.map e) ∧ (∀ d ∈ ds, Od 50 (e d)) ∧
  ∀ (p : Addr) (ys : List V) (es : List α) (H' : Hp), H p = none → Kp f H H' → Fd H' f → H' p = some (.lst ys) → DpAll K H' ys (es.map e) → es.Perm ds → Q (.ref p) H'
theorem dpErase {K : PySem.W.Frag} {H : Hp} : ∀ {j : Nat} {xs : List V} {ds : List PyData}, DpAll K H xs ds → DpAll K H (xs.eraseIdx j) (ds.eraseIdx j)
  | _, _, _, .nil => .nil
  | 0, _, _, .cons _ r => r
  | j + 1, _, _, .cons h r => .cons h (dpErase (j := j) r)
theorem mapErase {α β : Type} (g : α → β) : ∀ (l : List α) (j : Nat), (l.eraseIdx j).map g = (l.map g).eraseIdx j
  | [], _ => rfl
  | _ :: _, 0 => rfl
  | x :: l, j + 1 => by
    show g x :: (l.eraseIdx j).map g = g x :: (l.map g).eraseIdx j
    rw [mapErase g l j]
theorem permErase {α : Type} : ∀ (l : List α) (j : Nat) (h : j < l.length), (l[j] :: l.eraseIdx j).Perm l
  | _ :: _, 0, _ => List.Perm.refl _
  | x :: l, j + 1, h => by
    have h2 : j < l.length := Nat.lt_of_succ_lt_succ h
    exact (List.Perm.swap x l[j] (l.eraseIdx j)).trans ((permErase l j h2).cons x)
section
variable {P : Program} {w : World} {K : PySem.W.Frag} {mg : Str → Option Value} {base : Heap} {f : Addr} {fd : FuncData} {α : Type}
theorem neG {e : α → PyData} {H : Hp} {D p : Addr} {zs : List V} {ds : List α} {Q : VK} (hD : H D = some (.lst zs)) (he : H p = some (.lst [])) (hz : DpAll K H zs (ds.map e)) (od : ∀ d ∈ ds, Od 50 (e d)) (h : Q (.bl (!decide (zs.length = 0))) H) : rNeD K (.ref D) (.ref p) H Q := by
  have l := dpLen hz
  obtain ⟨a, b⟩ := allLay (ds := ds.map e) (n := 50) fun d hd => by
    obtain ⟨t, ht, rfl⟩ := List.mem_map.mp hd
    exact (od t ht).lay
  refine ⟨.list (ds.map e), .list [], .lst (.inl (.inl hD)) hz, .lst (.inl (.inl he)) .nil, ?_, rfl, ?_⟩
  · have e1 : (PyData.list (ds.map e)).canLay0 = true := a
    unfold SeqAt.shaped
    rw [e1, Bool.true_and]
    refine decide_eq_true ?_
    simp only [PyData.depth]
    omega
  · cases ds with
    | nil =>
      rw [decide_eq_true (by simpa using l)] at h
      exact h
    | cons t ts =>
      rw [decide_eq_false (by rw [l]; simp)] at h
      exact h
theorem scMixed : FnScope ["_law_feed", "_law_items", "_law_left", "_law_found"] ["_law_feed", "_law_items"] (defScope lMixed) := ⟨rfl, rfl, rfl, by decide +kernel, rfl, by decide +kernel, by decide +kernel⟩
theorem okMixG {k : Nat} (e : α → PyData) (pl : ∀ d, ∃ n, Pl n (e d)) (F : FnP K "_law_mixed" lMixed f fd) (B : Bn mg) (D : Has P w K mg base (k + 1) "_law_draw" ["_law_feed", "_law_many"] spDraw) : FnOk P w K mg base CX0 (k + 2) f fd ["_law_feed", "_law_items"] (spMixG K e) := by
  obtain ⟨fD, fdD, gD, kD, bD, GD⟩ := D.ex
  refine F.ok scMixed (fun vs H Q E h => ?_) (fun cdv A outer s H vs Q E hr h => ?_)
  · obtain ⟨a, l, xs, ds, rfl, _⟩ := h
    rfl
  · obtain ⟨a, l, xs, ds, rfl, hF, hL, hlen, hv, hod, q⟩ := h
    have eG : ∀ {ds : List α} {H H' : Hp} {xs : List V}, TS H H' → DpAll K H xs (ds.map e) → DpAll K H' xs (ds.map e) := fun t h => allTS (fun d hd v h => by
      obtain ⟨x, _, rfl⟩ := List.mem_map.mp hd
      obtain ⟨n, p⟩ := pl x
      exact dpTS t p v h) h
    have lx := dpLen hv
    rw [List.length_map] at lx
    refine ⟨_, PSs.nox (pss_cons (ps_par (i := 2) (j := 3) (by rfl) scMixed.nd rfl rfl (by decide) rfl rfl (pa_cons (pe_callTy call_list_of (by rfl) B.list (by decide +kernel) (pa_cons (pv 1) pa_nil)) (pa_cons (pe_lst pa_nil) pa_nil)) (by rfl)) (pss_cons (ps_while PassesOwn.never (pt_cmpR (r := rNeD K) (op_neD hr.units) (pv 2) (pe_lst pa_nil) (nomark _))
        (pss_one (ps_expr (pe_bm PySem.F.plainAttrs_list PySem.F.slot_list_append PySem.F.type_list_append mt_append (pv 3) (pa_cons (pe_bm PySem.F.plainAttrs_list PySem.F.slot_list_pop PySem.F.type_list_pop mt_popAt (pv 2) (pa_cons (pe_call GD hr (by rfl) gD kD bD .nil pass0 (pa_cons (pv 0) (pa_cons (pe_callB call_len_seq (by rfl) B.len PySem.boot_len (pa_cons (pv 2) pa_nil)) pa_nil))) pa_nil)) pa_nil))))) (pss_one (ps_ret (pv 3))))), ?_⟩
    refine ⟨.ref l, rfl, l, xs, rfl, .inl hL, fun L hLn => ⟨(by show 0 ≤ sizeLine; exact Nat.zero_le _), fun M hMn => ⟨_, _, rfl, ?_⟩⟩⟩
    have s1 := sameUpd (o := .lst xs) hLn
    have s2 := sameUpd (o := .lst []) hMn
    have neLM : L ≠ M := fun z => by rw [z] at hMn; rw [upd_same] at hMn; cases hMn
    have hMn0 : H M = none := by
      cases e9 : H M with
      | none => rfl
      | some o => rw [s1 _ _ e9] at hMn; cases hMn
    have neLa := fdNe hF hLn
    have neMa := fdNe hF hMn0
    have eL : upd (upd H L (.lst xs)) M (.lst []) L = some (.lst xs) := s2 _ _ upd_same
    have eM : upd (upd H L (.lst xs)) M (.lst []) M = some (.lst []) := upd_same
    have F2 := (hF.same s1).same s2
    have k2 : Kp a H (upd (upd H L (.lst xs)) M (.lst [])) := Kp.same (s1.trans s2)
    generalize upd (upd H L (.lst xs)) M (.lst []) = H2 at *
    refine ⟨fun m σ' H' => ∃ zs ys, σ' = [some (.ref a), some (.ref l), some (.ref L), some (.ref M)] ∧ m = zs.length ∧ zs.length + ys.length = xs.length ∧ H' L = some (.lst zs) ∧ H' M = some (.lst ys) ∧ (∃ ls fs : List α, DpAll K H' zs (ls.map e) ∧ DpAll K H' ys (fs.map e) ∧ (ls ++ fs).Perm ds) ∧ Kp a H H' ∧ Fd H' a,
      ⟨_, xs, [], rfl, rfl, by simp, eL, eM, ⟨ds, [], eG (tsKp hF k2) hv, .nil, by rw [List.append_nil]⟩, k2, F2⟩, fun m σ' H' hw => ?_⟩
    obtain ⟨zs, ys, rfl, rfl, hl, eL', eM', ⟨ls, fs, hz, hy, pm⟩, k', F'⟩ := hw
    refine ⟨.ref L, rfl, Nat.zero_le _, fun p hp => ?_⟩
    have sp := sameUpd (o := .lst []) hp
    have oz : ∀ d ∈ ls, Od 50 (e d) := fun d hd => hod d (pm.subset (List.mem_append_left _ hd))
    refine neG (sp _ _ eL') upd_same (dpAllSame sp _ _ hz) oz ⟨_, rfl, ?_⟩
    have kp' : Kp a H (upd H' p (.lst [])) := k'.trans (Kp.same sp)
    have F3 := F'.same sp
    have eL3 := sp _ _ eL'
    have eM3 := sp _ _ eM'
    have hz3 := dpAllSame sp _ _ hz
    have hy3 := dpAllSame sp _ _ hy
    have lz := dpLen hz
    have lyy := dpLen hy
    rw [List.length_map] at lz lyy
    generalize upd H' p (.lst []) = H3 at *
    by_cases e0 : zs.length = 0
    · rw [decide_eq_true e0]
      refine iteF ?_
      have l0 : ls = [] := List.eq_nil_of_length_eq_zero (by omega)
      rw [l0, List.nil_append] at pm
      exact ⟨.ref M, rfl, q M ys fs H3 hMn0 kp' F3 eM3 hy3 pm⟩
    · rw [decide_eq_false e0]
      refine iteT ⟨fun σ2 H4 => ∃ m', m' < zs.length ∧ ∃ zs ys, σ2 = [some (.ref a), some (.ref l), some (.ref L), some (.ref M)] ∧ m' = zs.length ∧ zs.length + ys.length = xs.length ∧ H4 L = some (.lst zs) ∧ H4 M = some (.lst ys) ∧ (∃ ls fs : List α, DpAll K H4 zs (ls.map e) ∧ DpAll K H4 ys (fs.map e) ∧ (ls ++ fs).Perm ds) ∧ Kp a H H4 ∧ Fd H4 a, fun _ _ z => z, ?_⟩
      have pos : 0 < zs.length := by omega
      refine ⟨.ref M, rfl, .inl ⟨rfl, _, .inl (.inl eM3)⟩, .ref L, rfl, .inl ⟨rfl, _, .inl (.inl eL3)⟩, .ref a, rfl, .ref L, rfl, L, zs, rfl, .inl (.inl (.inl eL3)), a, (zs.length : Int), rfl, F3, by omega, by omega, fun r H4 r0 r1 k4 F4 => ?_⟩
      obtain ⟨j, rfl⟩ : ∃ j : Nat, r = (j : Int) := ⟨r.toNat, by omega⟩
      have hj : j < zs.length := by omega
      have eL4 := k4 _ _ neLa eL3
      have eM4 := k4 _ _ neMa eM3
      have hsi : seqIndex? (j : Int) zs.length = some j := by
        unfold seqIndex?
        rw [if_neg (show ¬ ((j : Int) < 0) by omega)]
        show (if (decide ((0 : Int) ≤ (j : Int)) && decide ((j : Int) < (zs.length : Int))) = true then some ((j : Int).toNat) else none) = some j
        rw [if_pos (by rw [Bool.and_eq_true, decide_eq_true_eq, decide_eq_true_eq]; omega)]
        rfl
      refine ⟨L, zs, (j : Int), j, zs[j], rfl, rfl, eL4, by omega, by omega, hsi, List.getElem?_eq_getElem hj, ?_⟩
      have kt4 : TS H3 H4 := tsKp F3 k4
      have kt5 : TS H4 (upd H4 L (.lst (zs.eraseIdx j))) := TS.lst eL4
      have eM5 : upd H4 L (.lst (zs.eraseIdx j)) M = some (.lst ys) := by rw [upd_ne (Ne.symm neLM)]; exact eM4
      refine ⟨M, ys, zs[j], rfl, rfl, eM5, by rw [sizeLine_eq]; omega, ?_⟩
      have kt6 := TS.lst (o := .lst (ys ++ [zs[j]])) eM5
      have ktA := (kt4.trans kt5).trans kt6
      refine ⟨(zs.eraseIdx j).length, by rw [List.length_eraseIdx_of_lt hj]; omega, zs.eraseIdx j, ys ++ [zs[j]], rfl, rfl, by rw [List.length_eraseIdx_of_lt hj, List.length_append]; show zs.length - 1 + (ys.length + 1) = _; omega, ?_, upd_same, ⟨ls.eraseIdx j, fs ++ [ls[j]'(by omega)], ?_, ?_, ?_⟩, fun b o nb hb => ?_, fdOther (fdOther F4 neLa) neMa⟩
      · rw [upd_ne neLM]
        exact upd_same
      · have h1 := dpErase (j := j) hz3
        rw [← mapErase] at h1
        exact eG ktA h1
      · rw [List.map_append]
        refine dpSnoc ?_ (eG ktA hy3)
        have hj2 : j < ls.length := by omega
        have ee : (ls.map e)[j]? = some (e (ls[j]'hj2)) := by rw [List.getElem?_map, List.getElem?_eq_getElem hj2]; rfl
        obtain ⟨v', g1, g2⟩ := dpAt hz3 ee
        rw [List.getElem?_eq_getElem hj] at g1
        obtain ⟨n, p⟩ := pl (ls[j]'hj2)
        have g3 := dpTS ktA p _ g2
        rw [← Option.some.inj g1] at g3
        exact g3
      · have hj2 : j < ls.length := by omega
        refine List.Perm.trans ?_ pm
        rw [← List.append_assoc]
        exact (List.perm_append_comm.trans (List.Perm.append_right fs (permErase ls j hj2)))
      · rw [upd_ne (ne_of_none hb hMn0), upd_ne (ne_of_none hb hLn)]
        exact k4 _ _ nb (kp' _ _ nb hb)
end
end TRE

set_option Elab.async false
set_option linter.all false
set_option maxRecDepth 100000
set_option maxHeartbeats 8000000
namespace TRE
open PySem PySem.Spec PyProof.Rows L2 ND KS KS.La PLC
abbrev lKeys : Stmt := top 35
abbrev lOuts : Stmt := top 28
def outsL : List Str := ["o", "read", "write", "z9z9z9z9"]
theorem outsNd : outsL.Nodup := by unfold outsL; decide +kernel
theorem notTake {α : Type} {l : List α} (h : l.Nodup) {i : Nat} (lt : i < l.length) : l[i] ∉ l.take i := fun hm => by
  have h2 : (l.take (i + 1)).Nodup := h.sublist (List.take_sublist _ _)
  rw [List.take_succ_eq_append_getElem lt] at h2
  exact (List.nodup_append.mp h2).2.2 _ hm _ (List.mem_singleton.mpr rfl) rfl
theorem plKy (k : Str × Str) : Pl 1 (kyD k) := .tup fun d hd => by
  simp only [List.mem_cons, List.not_mem_nil, or_false] at hd
  rcases hd with rfl | rfl <;> exact .str _ _
section
variable {P : Program} {w : World} {K : PySem.W.Frag} {mg : Str → Option Value} {base : Heap} {f : Addr} {fd : FuncData}
theorem cutTake (xs : List V) (j : Nat) : cutV xs none (some (j : Int)) = xs.take j := by
  unfold cutV
  rw [HT.sIx_nat, HT.sIx_none, List.drop_zero, Nat.sub_zero]
  rcases Nat.le_total j xs.length with h | h
  · rw [Nat.min_eq_left h]
  · rw [Nat.min_eq_right h, List.take_of_length_le h, List.take_of_length_le (Nat.le_refl _)]
def spOutsT : Sp := fun vs H Q _ => vs = [] ∧ ∀ p, H p = none → Q (.ref p) (upd H p (.lst (outsL.map V.str)))
theorem scOuts : FnScope [] [] (defScope lOuts) := ⟨rfl, rfl, rfl, by decide +kernel, rfl, by decide +kernel, by decide +kernel⟩
theorem okOutsT {k : Nat} (F : FnP K "_law_outs" lOuts f fd) : FnOk P w K mg base CX0 (k + 1) f fd [] spOutsT := by
  refine F.ok scOuts (fun vs H Q E h => ?_) (fun cdv A outer s H vs Q E hr h => ?_)
  · obtain ⟨rfl, _⟩ := h
    rfl
  · obtain ⟨rfl, q⟩ := h
    exact ⟨_, PSs.nox (pss_one (ps_ret (pe_lst (pa_cons (pe_str) (pa_cons (pe_str) (pa_cons (pe_str) (pa_cons (pe_str) pa_nil))))))), (by show 4 ≤ sizeLine; decide), fun p hp => q p hp⟩
def spKeys : Sp := fun vs H Q _ => ∃ (f l : Addr) (nms : List Str), vs = [.ref f, .ref l] ∧ Fd H f ∧ H l = some (.lst (nms.map V.str)) ∧ l ≠ f ∧ nms.length ≤ 12 ∧ nms.Nodup ∧
  ∀ (R : Addr) (ys : List V) (ks : List (Str × Str)) (H' : Hp), H R = none → H' R = some (.lst ys) → (∀ K, DpAll K H' ys (ks.map kyD)) → ks.Nodup → (∀ k ∈ ks, k.1 ∈ nms ∧ k.2 ∈ outsL) → ks.length ≤ 4 * nms.length ∧ nms.length ≤ ks.length → Kp f H H' → Fd H' f → Q (.ref R) H'
abbrev nKeys : List Str := ["_law_feed", "_law_names", "_law_found", "_law_name", "_law_out"]
theorem scKeys : FnScope nKeys ["_law_feed", "_law_names"] (defScope lKeys) := ⟨rfl, rfl, rfl, by decide +kernel, rfl, by decide +kernel, by decide +kernel⟩
theorem okSomeKeys {k : Nat} (F : FnP K "_law_some_keys" lKeys f fd) (B : Bn mg) (D : Has P w K mg base (k + 1) "_law_draw" ["_law_feed", "_law_many"] spDraw) (O : Has P w K mg base (k + 1) "_law_outs" [] spOutsT) : FnOk P w K mg base CX0 (k + 2) f fd ["_law_feed", "_law_names"] spKeys := by
  obtain ⟨fD, fdD, gD, kD, bD, GD⟩ := D.ex
  obtain ⟨fO, fdO, gO, kO, bO, GO⟩ := O.ex
  refine F.ok scKeys (fun vs H Q E h => ?_) (fun cdv A outer s H vs Q E hr h => ?_)
  · obtain ⟨a, l, nms, rfl, _⟩ := h
    rfl
  · obtain ⟨a, l, nms, rfl, hF, el, nl, ln, nd, q⟩ := h
    refine ⟨_, PSs.nox (pss_cons (ps_set (i := 2) scKeys.nd rfl (.inl rfl) (pe_lst pa_nil)) (pss_cons (ps_for PassesOwn.never rfl (pi_list (pv 1)) (pg_name (i := 3) scKeys.nd rfl (.inl rfl))
        (pss_one (ps_for PassesOwn.never rfl (pi_list (pe_slice sl_list (pe_call0 GO hr (by rfl) gO kO bO .nil pass0) po_none (po_some (pe_op op_add pe_int (pe_call GD hr (by rfl) gD kD bD .nil pass0 (pa_cons (pv 0) (pa_cons (pe_int) pa_nil))))))) (pg_name (i := 4) scKeys.nd rfl (.inl rfl))
          (pss_one (ps_expr (pe_bm PySem.F.plainAttrs_list PySem.F.slot_list_append PySem.F.type_list_append mt_append (pv 2) (pa_cons (pe_tup (pa_cons (pv 3) (pa_cons (pv 4) pa_nil))) pa_nil))))))) (pss_one (ps_ret (pv 2))))), ?_⟩
    refine ⟨Nat.zero_le _, fun R hR => ?_⟩
    have nR := fdNe hF hR
    have F1 := hF.new (o := .lst []) hR
    have nRl : R ≠ l := fun z => by rw [z, el] at hR; cases hR
    have el1 := sameUpd (o := .lst []) hR _ _ el
    refine ⟨.ref l, rfl, l, rfl, ⟨_, .inl (.inl el1)⟩, ?_⟩
    refine forJ (n := nms.length) (fun i σ' H' => ∃ x3 x4 ys ks, σ' = [some (.ref a), some (.ref l), some (.ref R), x3, x4] ∧ H' R = some (.lst ys) ∧ (∀ K, DpAll K H' ys (List.map kyD ks)) ∧ ks.Nodup ∧ (∀ k ∈ ks, k.1 ∈ nms.take i ∧ k.2 ∈ outsL) ∧ (ks.length ≤ 4 * i ∧ i ≤ ks.length) ∧ Kp a H H' ∧ Fd H' a)
      ⟨none, none, [], [], rfl, upd_same, fun _ => .nil, List.nodup_nil, fun k hk => absurd hk (by simp), ⟨Nat.zero_le _, Nat.zero_le _⟩, Kp.new hR, F1⟩
      (fun i σ' H' lt h => by obtain ⟨_, _, _, _, _, _, _, _, _, _, k, _⟩ := h; exact ⟨nms.map V.str, V.str nms[i], .inl (.inl (k _ _ nl el)), by rw [List.getElem?_map, List.getElem?_eq_getElem lt]; rfl⟩)
      (fun σ' H' h => by obtain ⟨_, _, _, _, _, _, _, _, _, _, k, _⟩ := h; exact ⟨nms.map V.str, .inl (.inl (k _ _ nl el)), by rw [List.length_map]; exact Nat.le_refl _⟩) (fun i σ' H2 x H3 lt h y => ?_) (fun σ' H' h => ?_)
    · obtain ⟨rfl, y⟩ := y
      obtain ⟨x3, x4, ys, ks, rfl, eR, hys, hnd, hmem, hlen, k3, F3⟩ := h
      have ex := y _ (.inl (.inl (k3 _ _ nl el)))
      rw [List.getElem?_map, List.getElem?_eq_getElem lt] at ex
      obtain rfl : V.str nms[i] = x := Option.some.inj ex
      refine ⟨rfl, fun O hO => ?_⟩
      have sO := sameUpd (o := .lst (outsL.map V.str)) hO
      have F4 := F3.same sO
      have nO := fdNe F3 hO
      refine ⟨.ref a, rfl, a, 4, rfl, F4, by decide, by decide, fun r H5 r0 r1 k5 F5 => ⟨1, r, rfl, rfl, _, rfl, O, outsL.map V.str, rfl, .inl (.inl (k5 _ _ nO upd_same)), fun p hp => ?_⟩⟩
      obtain ⟨m, em⟩ : ∃ m : Nat, 1 + r = (m : Int) := ⟨(1 + r).toNat, by omega⟩
      rw [em, cutTake, ← List.map_take]
      have sp := sameUpd (o := .lst ((outsL.take m).map V.str)) hp
      have kA := ((Kp.same sO : Kp a _ _).trans k5).trans (Kp.same sp)
      have k6 := k3.trans kA
      have F6 := F5.same sp
      have np := fdNe F5 hp
      have ep : upd H5 p (.lst ((outsL.take m).map V.str)) p = some (.lst ((outsL.take m).map V.str)) := upd_same
      have eR6 := kA _ _ nR eR
      have pls : ∀ {ks : List (Str × Str)} {H H' : Hp} {xs : List V} (K : PySem.W.Frag), TS H H' → DpAll K H xs (ks.map kyD) → DpAll K H' xs (ks.map kyD) := fun K t h => allPl (n := 1) (fun d hd => by
        obtain ⟨p', _, rfl⟩ := List.mem_map.mp hd
        exact plKy p') t h
      have hys6 : ∀ K, DpAll K (upd H5 p (.lst ((outsL.take m).map V.str))) ys (List.map kyD ks) := fun K => pls K (tsKp F3 kA) (hys K)
      have lm : (outsL.take m).length ≤ 4 := by rw [List.length_take]; show min m 4 ≤ 4; omega
      have lm1 : 1 ≤ (outsL.take m).length := by rw [List.length_take]; show 1 ≤ min m 4; omega
      have ndo : (outsL.take m).Nodup := outsNd.sublist (List.take_sublist _ _)
      have sub : ∀ z ∈ outsL.take m, z ∈ outsL := fun z hz => List.mem_of_mem_take hz
      have npR : p ≠ R := fun z => by rw [z] at hp; rw [k5 _ _ nR (sO _ _ eR)] at hp; cases hp
      generalize upd H5 p (.lst ((outsL.take m).map V.str)) = H6 at *
      generalize outsL.take m = ol at *
      refine ⟨p, rfl, ⟨_, .inl (.inl ep)⟩, ?_⟩
      refine forJ (n := ol.length) (fun j σ' H' => ∃ x4 ys ks, σ' = [some (.ref a), some (.ref l), some (.ref R), some (.str nms[i]), x4] ∧ H' R = some (.lst ys) ∧ H' p = some (.lst (ol.map V.str)) ∧ (∀ K, DpAll K H' ys (List.map kyD ks)) ∧ ks.Nodup ∧ (∀ k ∈ ks, (k.1 ∈ nms.take i ∨ (k.1 = nms[i] ∧ k.2 ∈ ol.take j)) ∧ k.2 ∈ outsL) ∧ (ks.length ≤ 4 * i + j ∧ i + j ≤ ks.length) ∧ Kp a H H' ∧ Fd H' a)
        ⟨_, ys, ks, rfl, eR6, ep, hys6, hnd, fun k hk => ⟨.inl (hmem k hk).1, (hmem k hk).2⟩, ⟨by omega, by omega⟩, k6, F6⟩
        (fun j σ' H' lt h => by obtain ⟨_, _, _, _, _, e, _⟩ := h; exact ⟨ol.map V.str, V.str ol[j], .inl (.inl e), by rw [List.getElem?_map, List.getElem?_eq_getElem lt]; rfl⟩)
        (fun σ' H' h => by obtain ⟨_, _, _, _, _, e, _⟩ := h; exact ⟨ol.map V.str, .inl (.inl e), by rw [List.length_map]; exact Nat.le_refl _⟩) (fun j σ' H7 x H8 ltj h y => ?_) (fun σ' H' h => ?_)
      · obtain ⟨rfl, y⟩ := y
        obtain ⟨x4, ys, ks, rfl, eR, ep, hys, hnd, hmem, hlen, k7, F7⟩ := h
        have ex := y _ (.inl (.inl ep))
        rw [List.getElem?_map, List.getElem?_eq_getElem ltj] at ex
        obtain rfl : V.str ol[j] = x := Option.some.inj ex
        have ly := dpLen (hys K)
        rw [List.length_map] at ly
        refine ⟨.ref R, rfl, .inl ⟨rfl, _, .inl (.inl eR)⟩, .str nms[i], rfl, .str ol[j], rfl, (by show 2 ≤ sizeLine; decide), fun U hU => ?_⟩
        have sU := sameUpd (o := .tup [.str nms[i], .str ol[j]]) hU
        have eU : ∀ K, Dp K (upd H8 U (.tup [.str nms[i], .str ol[j]])) (.ref U) (kyD (nms[i], ol[j])) := fun K => .tup (.inl (.inl upd_same)) (.cons (.str _) (.cons (.str _) .nil))
        have eR9 := sU _ _ eR
        have ep9 := sU _ _ ep
        have F9 := F7.same sU
        have k9 := k7.trans (Kp.same sU)
        have hys9 : ∀ K, DpAll K (upd H8 U (.tup [.str nms[i], .str ol[j]])) ys (List.map kyD ks) := fun K => dpAllSame sU _ _ (hys K)
        generalize upd H8 U (.tup [.str nms[i], .str ol[j]]) = H9 at *
        have t9 := TS.lst (o := .lst (ys ++ [.ref U])) eR9
        refine ⟨R, ys, .ref U, rfl, rfl, eR9, by rw [sizeLine_eq]; omega, _, ys ++ [.ref U], ks ++ [(nms[i], ol[j])], rfl, upd_same, by rw [upd_ne npR]; exact ep9, fun K => ?_, ?_, fun k hk => ?_, ⟨by rw [List.length_append]; show ks.length + 1 ≤ _; omega, by rw [List.length_append]; show _ ≤ ks.length + 1; omega⟩, fun b o nb hb => ?_, fdOther F9 nR⟩
        · rw [List.map_append]
          exact dpSnoc (dpTS t9 (plKy _) _ (eU K)) (pls K t9 (hys9 K))
        · refine List.nodup_append.mpr ⟨hnd, by simp, fun u hu v hv e => ?_⟩
          rw [List.mem_singleton.mp hv] at e
          rw [e] at hu
          rcases (hmem _ hu).1 with z | ⟨_, z⟩
          · exact notTake nd lt z
          · exact notTake ndo ltj z
        · rcases List.mem_append.mp hk with z | z
          · obtain ⟨h1, h2⟩ := hmem k z
            refine ⟨?_, h2⟩
            rcases h1 with h1 | ⟨h1, h3⟩
            · exact .inl h1
            · exact .inr ⟨h1, by rw [List.take_succ_eq_append_getElem ltj]; exact List.mem_append_left _ h3⟩
          · rw [List.mem_singleton.mp z]
            exact ⟨.inr ⟨rfl, by rw [List.take_succ_eq_append_getElem ltj]; exact List.mem_append_right _ (List.mem_singleton.mpr rfl)⟩, sub _ (List.getElem_mem ltj)⟩
        · rw [upd_ne (ne_of_none hb hR)]
          exact k9 _ _ nb hb
      · obtain ⟨x4, ys, ks, rfl, eR, ep, hys, hnd, hmem, hlen, k7, F7⟩ := h
        refine ⟨_, _, ys, ks, rfl, eR, hys, hnd, fun k hk => ⟨?_, (hmem k hk).2⟩, ⟨by omega, by omega⟩, k7, F7⟩
        rw [List.take_succ_eq_append_getElem lt]
        rcases (hmem k hk).1 with z | ⟨z, _⟩
        · exact List.mem_append_left _ z
        · exact List.mem_append_right _ (List.mem_singleton.mpr z)
    · obtain ⟨x3, x4, ys, ks, rfl, eR, hys, hnd, hmem, hlen, k3, F3⟩ := h
      rw [List.take_length] at hmem
      exact ⟨.ref R, rfl, q R ys ks H' hR eR hys hnd hmem hlen k3 F3⟩
end
end TRE

set_option Elab.async false
set_option linter.all false
set_option maxRecDepth 100000
set_option maxHeartbeats 8000000
namespace TRE
open PySem PySem.Spec PyProof.Rows L2 ND KS KS.La PLC
abbrev lNames : Stmt := top 30
def hsg (k : Nat) : Str := ⟨#[("hbtqkaxzmeyg" : Str).cps.toList.getD k 0]⟩
def dsg (k : Nat) : Str := ⟨#[("0123456789ab" : Str).cps.toList.getD k 0]⟩
def hopt (k : Nat) : List Str := (["", "1", "x2", "zz0zz0z"] : List Str).map (hsg k ++ ·)
def opt (k : Nat) : List Str := hopt k ++ ["hyy0yy0" ++ dsg k]
theorem apartB : ∀ i ∈ List.range 12, ∀ j ∈ List.range 12, i ≠ j → ∀ x ∈ opt i, x ∉ opt j := by decide +kernel
theorem namesApart {i j : Nat} (hi : i < 12) (hj : j < 12) (n : i ≠ j) {x : Str} (h : x ∈ opt i) : x ∉ opt j := apartB i (List.mem_range.mpr hi) j (List.mem_range.mpr hj) n x h
theorem okB : ∀ i ∈ List.range 12, ∀ x ∈ opt i, okN x = true ∧ TOk x ∧ x.length ≤ 8 := by decide +kernel
theorem namesOk {i : Nat} (hi : i < 12) {x : Str} (h : x ∈ opt i) : okN x = true ∧ TOk x ∧ x.length ≤ 8 := okB i (List.mem_range.mpr hi) x h
theorem namesNd : ∀ {n : Nat} {l : List Str}, l.length ≤ 12 → (∀ i (h : i < l.length), l[i] ∈ opt (n + i)) → n + l.length ≤ 12 → l.Nodup
  | n, [], _, _, _ => List.nodup_nil
  | n, x :: l, hl, h, hn => by
    rw [List.length_cons] at hl hn
    refine List.nodup_cons.mpr ⟨fun hm => ?_, namesNd (n := n + 1) (by omega) (fun i hi => ?_) (by omega)⟩
    · obtain ⟨i, hi, e⟩ := List.getElem_of_mem hm
      have h0 := h 0 (by show 0 < l.length + 1; omega)
      have h1 := h (i + 1) (by show i + 1 < l.length + 1; omega)
      have e1 : (x :: l)[i + 1]'(by show i + 1 < l.length + 1; omega) = x := e
      rw [e1] at h1
      exact namesApart (i := n + 0) (j := n + (i + 1)) (by omega) (by omega) (by omega) h0 h1
    · have h1 := h (i + 1) (by show i + 1 < l.length + 1; omega)
      have e2 : n + (i + 1) = n + 1 + i := by omega
      rw [e2] at h1
      exact h1
section
variable {P : Program} {w : World} {K : PySem.W.Frag} {mg : Str → Option Value} {base : Heap} {f : Addr} {fd : FuncData}
def spNames : Sp := fun vs H Q _ => ∃ (f : Addr) (m : Nat), vs = [.ref f, .int m] ∧ m ≤ 12 ∧ Fd H f ∧ ∀ (R : Addr) (nms : List Str) (H' : Hp), H R = none → H' R = some (.lst (nms.map V.str)) → nms.length = m → (∀ i (h : i < nms.length), nms[i] ∈ opt i) → Kp f H H' → Fd H' f → Q (.ref R) H'
/-- texts, one for each turn, out of what is told of it -/
theorem lcTexts {J : It} {f D : Addr} {j m : Nat} {te : TE} {σ : L2.St} {H1 : Hp} {Qd : Hp → Prop} (op : Nat → List Str) (hD : H1 D = none) (hF : Fd H1 f) (hm : m ≤ 100) (hw : ∀ v, wipe ((wipe σ [j]).set j (some v)) [j] = wipe σ [j])
    (hgo : ∀ i H, i < m → Kp f H1 H → J.go i H) (hst : ∀ H, Kp f H1 H → J.stop m H)
    (hs : ∀ i x H H', i < m → Kp f H1 H → Fd H f → J.yld i H x H' → H' = H ∧ ∀ R : VK, (∀ z H2, z ∈ op i → Kp f H H2 → Fd H2 f → R (.str z) H2) → te ((wipe σ [j]).set j (some x)) H R)
    (hd : ∀ H (r : List Str), H D = some (.lst (r.map V.str)) → r.length = m → (∀ i (h : i < r.length), r[i] ∈ op i) → Kp f H1 H → Fd H f → Qd H) :
    ∃ W : Nat → Nat → Hp → Prop, (∃ m, W 0 m (upd H1 D (.lst []))) ∧ ∀ i k H, W i k H →
      (J.stop i H ∧ Qd H) ∨ (J.go i H ∧ ∃ Nx : Hp → Prop, (∀ H', Nx H' → ∃ m', m' < k ∧ W (i + 1) m' H') ∧ ∀ x H', J.yld i H x H' → gName j x (wipe σ [j]) H' fun σ2 H2 => wipe σ2 [j] = wipe σ [j] ∧ tYes σ2 H2 fun b H3 =>
        if b = true then te σ2 H3 fun y H4 => ∃ acc, H4 D = some (.lst acc) ∧ acc.length < sizeLine ∧ Nx (upd H4 D (.lst (acc ++ [y]))) else Nx H3) := by
  have nD := fdNe hF hD
  refine lcJ (n := m) (fun i H => ∃ r : List Str, H D = some (.lst (r.map V.str)) ∧ r.length = i ∧ (∀ i (h : i < r.length), r[i] ∈ op i) ∧ Kp f H1 H ∧ Fd H f) ⟨[], upd_same, rfl, fun i h => absurd h (Nat.not_lt_zero _), Kp.new hD, fdOther hF nD⟩ (fun i H lt h => hgo i H lt h.choose_spec.2.2.2.1) (fun H h => hst H h.choose_spec.2.2.2.1) (fun i H x H' lt h y => ?_) (fun H h => ?_)
  · obtain ⟨r, e, el, hv, kp, fd⟩ := h
    obtain ⟨rfl, hs2⟩ := hs i x H H' lt kp fd y
    refine ⟨hw _, ?_⟩
    unfold tYes
    dsimp only
    rw [if_pos rfl]
    refine hs2 _ fun z H2 ha k2 f2 => ?_
    have e2 := k2 D _ nD e
    refine ⟨_, e2, by rw [sizeLine_eq, List.length_map]; omega, r ++ [z], ?_, by rw [List.length_append, el]; rfl, fun u hu => ?_, fun b o nb hb => ?_, fdOther f2 nD⟩
    · rw [List.map_append]
      exact upd_same
    · by_cases h9 : u < r.length
      · rw [List.getElem_append_left h9]
        exact hv u h9
      · rw [List.length_append] at hu
        have h10 : u < r.length + 1 := hu
        have : u = r.length := by omega
        subst this
        have e3 : (r ++ [z])[r.length]'(by rw [List.length_append]; exact h10) = z := by simp
        rw [e3, el]
        exact ha
    · rw [upd_ne (ne_of_none hb hD)]
      exact k2 _ _ nb (kp _ _ nb hb)
  · obtain ⟨r, e, el, hv, kp, fd⟩ := h
    exact hd H r e el hv kp fd
abbrev nNames : List Str := ["_law_feed", "_law_many", "_law_heads", "_law_k"]
theorem scNames : FnScope nNames ["_law_feed", "_law_many"] (defScope lNames) := ⟨rfl, rfl, rfl, by decide +kernel, rfl, by decide +kernel, by decide +kernel⟩
theorem okNames {k : Nat} (F : FnP K "_law_some_names" lNames f fd) (B : Bn mg) (D : Has P w K mg base (k + 1) "_law_draw" ["_law_feed", "_law_many"] spDraw) : FnOk P w K mg base CX0 (k + 2) f fd ["_law_feed", "_law_many"] spNames := by
  obtain ⟨fD, fdD, gD, kD, bD, GD⟩ := D.ex
  refine F.ok scNames (fun vs H Q E h => ?_) (fun cdv A outer s H vs Q E hr h => ?_)
  · obtain ⟨a, m, rfl, _⟩ := h
    rfl
  · obtain ⟨a, m, rfl, hm, hF, q⟩ := h
    refine ⟨_, PSs.nox (C8.pss_cut (ps_set (i := 2) scNames.nd rfl (.inr rfl) (pe_lc (own := [("_law_k", 3)]) (g := gName 3) rfl scNames.nd (pi_range1 (by rfl) B.range (pa_cons (pv 1) pa_nil)) (blkOk_by (N := nNames) (sc := defScope lNames) (by decide +kernel))
        (fun _ _ _ _ _ => pg_name (i := 3) scNames.nd rfl (.inl rfl) (hf := .inr rfl)) (fun _ _ _ _ _ => pts_nil)
        (fun _ _ _ _ _ => pe_op op_add_str (pe_ix ix_str pe_str (pv 3) (fun _ _ => rfl)) (pe_ix (r := rIxL K) ix_list (pe_lst (pa_cons (pe_str) (pa_cons (pe_str) (pa_cons (pe_str) (pa_cons (pe_str) pa_nil))))) (pe_call GD hr (by rfl) gD kD bD .nil pass0 (pa_cons (pv 0) (pa_cons (pe_int) pa_nil))) (fun _ _ => rfl))))) (pss_one (ps_ret (pe_lc (own := [("_law_k", 3)]) (g := gName 3) rfl scNames.nd (pi_range1 (by rfl) B.range (pa_cons (pv 1) pa_nil)) (blkOk_by (N := nNames) (sc := defScope lNames) (by decide +kernel))
        (fun _ _ _ _ _ => pg_name (i := 3) scNames.nd rfl (.inl rfl) (hf := .inr rfl)) (fun _ _ _ _ _ => pts_nil)
        (fun _ _ _ _ _ => pe_ix (r := rIxL K) ix_list (pe_lst (pa_cons (pe_ix (r := rIxL K) ix_list (pv 2) (pv 3) (fun _ _ => rfl)) (pa_cons (pe_op op_add_str pe_str (pe_ix ix_str pe_str (pv 3) (fun _ _ => rfl))) pa_nil))) (pe_op op_fdiv (pe_call GD hr (by rfl) gD kD bD .nil pass0 (pa_cons (pv 0) (pa_cons (pe_int) pa_nil))) pe_int) (fun _ _ => rfl)))))), ?_⟩
    have l12 : ("hbtqkaxzmeyg" : Str).cps.toList.length = 12 := by decide +kernel
    have l12d : ("0123456789ab" : Str).cps.toList.length = 12 := by decide +kernel
    refine ⟨fun σ' H' => ∃ D hs, σ' = [some (.ref a), some (.int m), some (.ref D), none] ∧ H D = none ∧ H' D = some (.lst (List.map V.str hs)) ∧ hs.length = m ∧ (∀ i (h : i < hs.length), hs[i] ∈ hopt i) ∧ Kp a H H' ∧ Fd H' a, ?_, ?_⟩
    · refine ⟨.int m, rfl, m, rfl, by omega, by omega, ?_⟩
      rw [Int.toNat_natCast]
      intro D hD
      refine lcTexts (m := m) hopt hD hF (by omega) (fun v => rfl) (fun i H' lt _ => lt) (fun H' _ => Nat.le_refl _) (fun i x H1 H2 lt k1 F1 y => ?_) (fun H' r e el hr k F' => ⟨D, r, rfl, hD, e, el, hr, k, F'⟩)
      obtain ⟨rfl, rfl⟩ := y
      refine ⟨rfl, fun R hR => ?_⟩
      have hi : i < ("hbtqkaxzmeyg" : Str).cps.toList.length := by omega
      have eh : hsg i = ⟨#[("hbtqkaxzmeyg" : Str).cps.toList[i]]⟩ := by
        unfold hsg
        rw [List.getD_eq_getElem?_getD, List.getElem?_eq_getElem hi]
        rfl
      refine ⟨.int (0 + i), rfl, "hbtqkaxzmeyg", (i : Int), _, rfl, by rw [Int.zero_add], by rw [sizeLine_eq]; decide +kernel, atI_nat (List.getElem?_eq_getElem hi), (by show 4 ≤ sizeLine; decide), fun L hL => ⟨.ref a, rfl, a, 4, rfl, F1.new hL, by decide, by decide, fun r H5 r0 r1 k5 F5 => ?_⟩⟩
      obtain ⟨j, rfl⟩ : ∃ j : Nat, r = (j : Int) := ⟨r.toNat, by omega⟩
      have hj : j < (["", "1", "x2", "zz0zz0z"] : List Str).length := by show j < 4; omega
      have ev : ((["", "1", "x2", "zz0zz0z"] : List Str).map V.str)[j]? = some (.str ((["", "1", "x2", "zz0zz0z"] : List Str)[j])) := by rw [List.getElem?_map, List.getElem?_eq_getElem hj]; rfl
      have sl : ∀ z ∈ (["", "1", "x2", "zz0zz0z"] : List Str), z.length ≤ 7 := by decide +kernel
      have nL := fdNe F1 hL
      refine ⟨L, _, (j : Int), _, rfl, rfl, .inl (.inl (k5 _ _ nL upd_same)), atI_nat ev, _, _, rfl, rfl, ?_, ?_⟩
      · have h7 := sl _ (List.getElem_mem hj)
        rw [sizeLine_eq]
        show 1 + _ ≤ _
        omega
      · rw [← eh]
        exact hR _ H5 (List.mem_map.mpr ⟨_, List.getElem_mem hj, rfl⟩) ((Kp.new hL).trans k5) F5
    rintro _ H3 ⟨Dh, hs, rfl, hDh, eDh, lh, hh, k3, F3⟩
    have nDh := fdNe hF hDh
    refine ⟨.int m, rfl, m, rfl, by omega, by omega, ?_⟩
    rw [Int.toNat_natCast]
    intro D hD
    have hD0 : H D = none := by
      cases e : H D with
      | none => rfl
      | some o => rw [k3 D o (fdNe F3 hD) e] at hD; cases hD
    refine lcTexts (m := m) opt hD F3 (by omega) (fun v => rfl) (fun i H' lt _ => lt) (fun H' _ => Nat.le_refl _) (fun i x H1 H2 lt k1 F1 y => ?_) (fun H' r e el hr k F' => q D r H' hD0 e el hr (k3.trans k) F')
    obtain ⟨rfl, rfl⟩ := y
    refine ⟨rfl, fun R hR => ?_⟩
    have hi : i < ("0123456789ab" : Str).cps.toList.length := by omega
    have hi2 : i < hs.length := by omega
    have eh : dsg i = ⟨#[("0123456789ab" : Str).cps.toList[i]]⟩ := by
      unfold dsg
      rw [List.getD_eq_getElem?_getD, List.getElem?_eq_getElem hi]
      rfl
    have e8 : (hs.map V.str)[i]? = some (.str hs[i]) := by rw [List.getElem?_map, List.getElem?_eq_getElem hi2]; rfl
    refine ⟨.ref Dh, rfl, .int (0 + i), rfl, Dh, _, (i : Int), _, rfl, by rw [Int.zero_add], .inl (.inl (k1 _ _ nDh eDh)), atI_nat e8, ?_⟩
    refine ⟨.int (0 + i), rfl, "0123456789ab", (i : Int), _, rfl, by rw [Int.zero_add], by rw [sizeLine_eq]; decide +kernel, atI_nat (List.getElem?_eq_getElem hi), _, _, rfl, rfl, ?_, (by show 2 ≤ sizeLine; decide), fun L hL => ?_⟩
    · have h7 : ("hyy0yy0" : Str).length = 7 := by decide +kernel
      rw [sizeLine_eq, h7]
      show 7 + 1 ≤ _
      omega
    refine ⟨.ref a, rfl, a, 5, rfl, F1.new hL, by decide, by decide, fun r H5 r0 r1 k5 F5 => ⟨r, 4, rfl, rfl, ⟨by decide, by decide⟩, ?_⟩⟩
    have nL := fdNe F1 hL
    have kk := (Kp.new (o := .lst [.str hs[i], .str ("hyy0yy0" ++ ⟨#[("0123456789ab" : Str).cps.toList[i]]⟩)]) hL : Kp a _ _).trans k5
    rcases (show r / 4 = 0 ∨ r / 4 = 1 by omega) with e4 | e4
    · refine ⟨L, _, 0, .str hs[i], rfl, (show V.int (r / 4) = _ by rw [e4]), .inl (.inl (k5 _ _ nL upd_same)), atI_nat (j := 0) rfl, ?_⟩
      exact hR _ H5 (List.mem_append_left _ (hh i hi2)) kk F5
    · refine ⟨L, _, 1, .str ("hyy0yy0" ++ ⟨#[("0123456789ab" : Str).cps.toList[i]]⟩), rfl, (show V.int (r / 4) = _ by rw [e4]), .inl (.inl (k5 _ _ nL upd_same)), atI_nat (j := 1) rfl, ?_⟩
      rw [← eh]
      exact hR _ H5 (List.mem_append_right _ (List.mem_singleton.mpr rfl)) kk F5
end
end TRE

set_option Elab.async false
set_option linter.all false
set_option maxRecDepth 100000
set_option maxHeartbeats 8000000
namespace TRE
open PySem PySem.Spec PyProof.Rows L2 ND KS KS.La PLC
abbrev lOutputs : Stmt := top 36
def kvO (o : Str × Str) : Key × V := (.inr o.1, .str o.2)
/-- outputs, each once, with texts -/
def OutsOk (os : List (Str × Str)) : Prop := (os.map (·.1)).Nodup ∧ ∀ o ∈ os, o.1 ∈ outsL ∧ TOk o.2
theorem mergeNd : ∀ (l acc : List (Str × Str)), ((acc ++ l).map (·.1)).Nodup → mergeK (acc.map kvO) (l.map kvO) = (acc ++ l).map kvO
  | [], acc, _ => by rw [List.append_nil]; rfl
  | o :: l, acc, h => by
    have e : putK (acc.map kvO) (.inr o.1) (.str o.2) = (acc ++ [o]).map kvO := by
      rw [putK_new]
      · rw [List.map_append]; rfl
      · cases hv : valV (acc.map kvO) (Sum.inr o.1) with
        | none => rfl
        | some v =>
          have h1 := valV_any (Sum.inr o.1 : Key) (acc.map kvO)
          rw [hv] at h1
          obtain ⟨kv, hkv, hd⟩ := List.any_eq_true.mp h1
          obtain ⟨o2, ho2, rfl⟩ := List.mem_map.mp hkv
          have e1 : o2.1 = o.1 := Sum.inr.inj (of_decide_eq_true hd)
          rw [List.map_append, List.map_cons] at h
          exact absurd e1 ((List.nodup_append.mp h).2.2 _ (List.mem_map_of_mem ho2) _ List.mem_cons_self)
    show mergeK (putK (acc.map kvO) (.inr o.1) (.str o.2)) (l.map kvO) = _
    rw [e, mergeNd l (acc ++ [o]) (by rw [List.append_assoc]; exact h), List.append_assoc]
    rfl
section
variable {P : Program} {w : World} {K : PySem.W.Frag} {mg : Str → Option Value} {base : Heap} {f : Addr} {fd : FuncData}
def spOutputs : Sp := fun vs H Q _ => ∃ f : Addr, vs = [.ref f] ∧ Fd H f ∧ ∀ p os H', OutsOk os → H p = none → H' p = some (.dK (os.map kvO)) → Kp f H H' → Fd H' f → Q (.ref p) H'
abbrev nOutputs : List Str := ["_law_feed", "_law_out"]
theorem scOutputs : FnScope nOutputs ["_law_feed"] (defScope lOutputs) := ⟨rfl, rfl, rfl, by decide +kernel, rfl, by decide +kernel, by decide +kernel⟩
theorem okOutputs {k : Nat} (F : FnP K "_law_some_outputs" lOutputs f fd) (md : mg "dict" = none) (D : Has P w K mg base (k + 1) "_law_draw" ["_law_feed", "_law_many"] spDraw) (T : Has P w K mg base (k + 3) "_law_some_text" ["_law_feed"] spText) (O : Has P w K mg base (k + 1) "_law_outs" [] spOutsT) : FnOk P w K mg base CX0 (k + 4) f fd ["_law_feed"] spOutputs := by
  obtain ⟨fD, fdD, gD, kD, bD, GD⟩ := D.ex
  obtain ⟨fT, fdT, gT, kT, bT, GT⟩ := T.ex
  obtain ⟨fO, fdO, gO, kO, bO, GO⟩ := O.ex
  refine F.ok scOutputs (fun vs H Q E h => ?_) (fun cdv A outer s H vs Q E hr h => ?_)
  · obtain ⟨a, rfl, _⟩ := h
    rfl
  · obtain ⟨a, rfl, hF, q⟩ := h
    have hr1 : Room (k + 1) _ := hr.mono (by omega)
    refine ⟨_, PSs.nox (pss_one (ps_ret (pe_callTy (T := "dict") (call_dictP rfl) (by rfl) md (by decide +kernel) (pa_cons (pe_lc (own := [("_law_out", 1)]) (g := gName 1) rfl scOutputs.nd (pi_list (pe_call0 GO hr1 (by rfl) gO kO bO .nil pass0)) (blkOk_by (N := nOutputs) (sc := defScope lOutputs) (by decide +kernel))
        (fun _ _ _ _ _ => pg_name (i := 1) scOutputs.nd rfl (.inl rfl) (hf := .inr rfl)) (fun _ _ _ _ _ => pts_one (pt_cmpR op_gt (pe_call GD hr1 (by rfl) gD kD bD .nil pass0 (pa_cons (pv 0) (pa_cons (pe_int) pa_nil))) pe_int (nomark _)))
        (fun _ _ _ _ _ => pe_tup (pa_cons (pv 1) (pa_cons (pe_call GT hr (by rfl) gT kT bT .nil pass0 (pa_cons (pv 0) pa_nil)) pa_nil)))) pa_nil)))), ?_⟩
    refine ⟨rfl, fun O hO => ⟨O, rfl, ⟨_, .inl (.inl upd_same)⟩, fun D hD => ?_⟩⟩
    have sO := sameUpd (o := .lst (outsL.map V.str)) hO
    have eO : upd H O (.lst (outsL.map V.str)) O = some (.lst (outsL.map V.str)) := upd_same
    have F1 := hF.same sO
    have nO := fdNe hF hO
    have nD := fdNe F1 hD
    have nOD : D ≠ O := fun z => by rw [z, eO] at hD; cases hD
    have kO1 : Kp a H (upd H O (.lst (outsL.map V.str))) := Kp.same sO
    have hD0 : H D = none := by
      cases e : H D with
      | none => rfl
      | some o => rw [sO _ _ e] at hD; cases hD
    generalize upd H O (.lst (outsL.map V.str)) = H1 at *
    refine lcJ (n := outsL.length) (vs := [1]) (fun i H' => ∃ (ps : List Addr) (os : List (Str × Str)), H' D = some (.lst (ps.map V.ref)) ∧ H' O = some (.lst (outsL.map V.str)) ∧ Paired (fun p o => SqT K H' p [.str o.1, .str o.2]) ps os ∧ (os.map (·.1)).Nodup ∧ (∀ o ∈ os, o.1 ∈ outsL.take i ∧ TOk o.2) ∧ ps.length ≤ i ∧ Kp a H1 H' ∧ Fd H' a)
      ⟨[], [], upd_same, by rw [upd_ne (Ne.symm nOD)]; exact eO, .nil, List.nodup_nil, fun o ho => absurd ho (by simp), Nat.zero_le _, Kp.new hD, fdOther F1 nD⟩
      (fun i H' lt h => by obtain ⟨_, _, _, e, _⟩ := h; exact ⟨outsL.map V.str, V.str outsL[i], .inl (.inl e), by rw [List.getElem?_map, List.getElem?_eq_getElem lt]; rfl⟩)
      (fun H' h => by obtain ⟨_, _, _, e, _⟩ := h; exact ⟨outsL.map V.str, .inl (.inl e), by rw [List.length_map]; exact Nat.le_refl _⟩) (fun i H' x H2 lt h y => ?_) (fun H' h => ?_)
    · obtain ⟨rfl, y⟩ := y
      obtain ⟨ps, os, eD, eO2, pr, ndp, hm, hl, k1, F2⟩ := h
      have ex := y _ (.inl (.inl eO2))
      rw [List.getElem?_map, List.getElem?_eq_getElem lt] at ex
      obtain rfl : V.str outsL[i] = x := Option.some.inj ex
      have up : ∀ {ps : List Addr} {os : List (Str × Str)} {H H' : Hp}, TS H H' → Paired (fun p (o : Str × Str) => SqT K H p [.str o.1, .str o.2]) ps os → Paired (fun p (o : Str × Str) => SqT K H' p [.str o.1, .str o.2]) ps os := fun t h => by
        induction h with
        | nil => exact .nil
        | cons h _ ih => exact .cons (TS.tup t h) ih
      refine ⟨rfl, .ref a, rfl, a, 4, rfl, F2, by decide, by decide, fun r H3 r0 r1 k3 F3 => ⟨r, 0, rfl, rfl, _, rfl, ite2 (fun _ => ?_) (fun _ => ?_)⟩⟩
      · refine ⟨_, rfl, .ref a, rfl, a, rfl, F3, fun z H4 tz k4 F4 => ⟨(by show 2 ≤ sizeLine; decide), fun U hU => ?_⟩⟩
        have sU := sameUpd (o := .tup [.str outsL[i], .str z]) hU
        have kA : Kp a H2 (upd H4 U (.tup [.str outsL[i], .str z])) := (k3.trans k4).trans (Kp.same sU)
        have F5 := F4.same sU
        have eU : SqT K (upd H4 U (.tup [.str outsL[i], .str z])) U [.str outsL[i], .str z] := .inl (.inl upd_same)
        have tA := tsKp F2 kA
        generalize upd H4 U (.tup [.str outsL[i], .str z]) = H5 at *
        have eD5 := kA _ _ nD eD
        have t6 := TS.lst (o := .lst (ps.map V.ref ++ [.ref U])) eD5
        refine ⟨ps.map V.ref, eD5, by rw [sizeLine_eq, List.length_map]; have : outsL.length = 4 := rfl; omega, ps ++ [U], os ++ [(outsL[i], z)], by rw [List.map_append]; exact upd_same, by rw [upd_ne (Ne.symm nOD)]; exact kA _ _ nO eO2, ?_, ?_, fun o ho => ?_, by rw [List.length_append]; show ps.length + 1 ≤ _; omega, fun b o nb hb => ?_, fdOther F5 nD⟩
        · exact (up (tA.trans t6) pr).snoc (TS.tup t6 eU)
        · rw [List.map_append]
          refine List.nodup_append.mpr ⟨ndp, by simp, fun u hu v hv e => ?_⟩
          obtain ⟨o, ho, rfl⟩ := List.mem_map.mp hu
          have hv2 : v = outsL[i] := List.mem_singleton.mp hv
          rw [hv2] at e
          have h1 := (hm o ho).1
          rw [e] at h1
          exact notTake outsNd lt h1
        · rw [List.take_succ_eq_append_getElem lt]
          rcases List.mem_append.mp ho with z' | z'
          · exact ⟨List.mem_append_left _ (hm o z').1, (hm o z').2⟩
          · rw [List.mem_singleton.mp z']
            exact ⟨List.mem_append_right _ (List.mem_singleton.mpr rfl), tz⟩
        · rw [upd_ne (ne_of_none hb hD)]
          exact kA _ _ nb (k1 _ _ nb hb)
      · refine ⟨ps, os, k3 _ _ nD eD, k3 _ _ nO eO2, up (tsKp F2 k3) pr, ndp, fun o ho => ⟨?_, (hm o ho).2⟩, by omega, k1.trans k3, F3⟩
        rw [List.take_succ_eq_append_getElem lt]
        exact List.mem_append_left _ (hm o ho).1
    · obtain ⟨ps, os, eD, eO2, pr, ndp, hm, hl, k1, F2⟩ := h
      have pr2 : Paired (fun p (kv : Key × V) => SqT K H' p [kV kv.1, kv.2]) ps (os.map kvO) := by
        clear eD hm hl ndp
        induction pr with
        | nil => exact .nil
        | cons h _ ih => exact .cons h ih
      refine ⟨D, ps, os.map kvO, rfl, .inl (.inl eD), pr2, fun p hp => ?_⟩
      have em := mergeNd os [] ndp
      rw [List.map_nil, List.nil_append] at em
      rw [em]
      have hp0 : H p = none := by
        cases e : H p with
        | none => rfl
        | some o => rw [k1 p o (fdNe F2 hp) (kO1 p o (fdNe F2 hp) e)] at hp; cases hp
      exact q p os _ ⟨ndp, fun o ho => ⟨List.mem_of_mem_take (hm o ho).1, (hm o ho).2⟩⟩ hp0 upd_same ((kO1.trans k1).trans (Kp.new hp)) (F2.new hp)
end
end TRE

set_option Elab.async false
set_option linter.all false
set_option maxRecDepth 100000
set_option maxHeartbeats 4000000
/-! trees without a fault -/
namespace TRE
open PySem PySem.Spec PyProof.Rows L2 ND KS KS.La PLC
def KsOk (ks : List (Str × Str)) : Prop := 1 ≤ ks.length ∧ ks.length ≤ 4 ∧ ks.Nodup ∧ ∀ k ∈ ks, okN k.1 = true ∧ okN k.2 = true
mutual
/-- the outputs that may be written, each once on its way -/
def TrZ : List Str → Tr → Prop
  | _, .stop => True
  | zs, .wr o ps n => (o ∈ zs ∧ ps.length ≤ 100 ∧ ∀ p ∈ ps, PtOk p) ∧ TrZ (zs.filter fun z => decide (z ≠ o)) n
  | zs, .rd ks cs l => (KsOk ks ∧ cs.length ≤ 100) ∧ CsZ zs ks.length cs ∧ TrZ zs l
def CsZ : List Str → Nat → List (List (Option Str) × Tr) → Prop
  | _, _, [] => True
  | zs, m, (r, t) :: cs => ((r.length = m ∧ ∀ z, some z ∈ r → TOk z) ∧ TrZ zs t) ∧ CsZ zs m cs
end
theorem csZ_mem {zs : List Str} {m : Nat} : ∀ {cs : List (List (Option Str) × Tr)}, CsZ zs m cs → ∀ c ∈ cs, (c.1.length = m ∧ ∀ z, some z ∈ c.1 → TOk z) ∧ TrZ zs c.2
  | [], _, c, h => absurd h (by simp)
  | (r, t) :: cs, h, c, hc => by
    rw [CsZ] at h
    rcases List.mem_cons.mp hc with rfl | hc
    · exact h.1
    · exact csZ_mem h.2 c hc
mutual
theorem zOk : ∀ {t : Tr} {zs : List Str}, TrZ zs t → TrOk t
  | .stop, _, _ => by rw [TrOk]; trivial
  | .wr o ps n, zs, h => by
    rw [TrZ] at h
    rw [TrOk]
    exact ⟨h.1.2, zOk h.2⟩
  | .rd ks cs l, zs, h => by
    rw [TrZ] at h
    rw [TrOk]
    exact ⟨⟨h.1.2, zOks h.1.1.2.1 h.2.1⟩, zOk h.2.2⟩
theorem zOks : ∀ {cs : List (List (Option Str) × Tr)} {zs : List Str} {m : Nat}, m ≤ 4 → CsZ zs m cs → CsOk cs
  | [], _, _, _, _ => by rw [CsOk]; trivial
  | (r, t) :: cs, zs, m, hm, h => by
    rw [CsZ] at h
    rw [CsOk]
    exact ⟨⟨⟨by rw [h.1.1.1]; exact hm, h.1.1.2⟩, zOk h.1.2⟩, zOks hm h.2⟩
end
theorem zNext : ∀ {t : Tr} {zs : List Str}, TrZ zs t → ∃ zs', TrZ zs' (nextRead t)
  | .stop, zs, h => ⟨zs, h⟩
  | .rd _ _ _, zs, h => ⟨zs, h⟩
  | .wr o ps n, zs, h => by
    rw [TrZ] at h
    rw [nextRead]
    exact zNext h.2
theorem zPick {zs : List Str} {m : Nat} {r : List (Option Str)} : ∀ {cs : List (List (Option Str) × Tr)} {l : Tr}, CsZ zs m cs → TrZ zs l → TrZ zs (pickC r cs l)
  | [], l, _, h => h
  | (g, t) :: cs, l, hc, h => by
    rw [CsZ] at hc
    show TrZ zs (if g = r then t else pickC r cs l)
    split
    · exact hc.1.2
    · exact zPick hc.2 h
theorem zAfter {zs : List Str} {r : List (Option Str)} {t : Tr} (h : TrZ zs t) : TrZ zs (after r t) := by
  cases t with
  | stop => exact h
  | wr o ps n => exact h
  | rd ks cs l =>
    rw [TrZ] at h
    exact zPick h.2.1 h.2.2
theorem zWalk : ∀ {rs : List (List (Option Str))} {t : Tr} {zs : List Str}, TrZ zs t → ∃ zs', TrZ zs' (walk t rs)
  | [], t, zs, h => ⟨zs, h⟩
  | r :: rs, t, zs, h => by
    obtain ⟨zs', h'⟩ := zNext h
    exact zWalk (rs := rs) (zAfter h')
theorem zFew {t : Tr} {zs : List Str} (h : TrZ zs t) (rs : List (List (Option Str))) {ks cs l} (e : nextRead (walk t rs) = .rd ks cs l) : ks.length ≤ 4 := by
  obtain ⟨zs', h'⟩ := zWalk (rs := rs) h
  obtain ⟨zs2, h2⟩ := zNext h'
  rw [e, TrZ] at h2
  exact h2.1.1.2.1
end TRE

set_option Elab.async false
set_option linter.all false
set_option maxRecDepth 100000
set_option maxHeartbeats 8000000
/-! a drawn tree -/
namespace TRE
open PySem PySem.Spec PyProof.Rows L2 ND KS KS.La PLC
abbrev lTree : Stmt := top 34
abbrev kysD (ks : List (Str × Str)) : List PyData := ks.map kyD
def spTree (K : PySem.W.Frag) (M : Nat) : Sp := fun vs H Q _ => ∃ (f ks os : Addr) (xs : List V) (keys : List (Str × Str)) (zs : List Str) (n : Int), vs = [.ref f, .ref ks, .ref os, .int n] ∧ 0 ≤ n ∧ n ≤ M ∧ Fd H f ∧ H ks = some (.lst xs) ∧ ks ≠ f ∧ DpAll K H xs (kysD keys) ∧ 1 ≤ keys.length ∧ keys.length ≤ 50 ∧ keys.Nodup ∧
  (∀ k ∈ keys, okN k.1 = true ∧ okN k.2 = true ∧ TOk k.1 ∧ TOk k.2) ∧ H os = some (.lst (zs.map V.str)) ∧ os ≠ f ∧ zs.length ≤ 10 ∧ (∀ z ∈ zs, TOk z) ∧ ∀ v t H', Dp K H' v (trD t) → TrZ zs t → Od (3 * M + 2) (trD t) → Kp f H H' → Fd H' f → Q v H'
theorem kysTS {K : PySem.W.Frag} {H H' : Hp} (k : TS H H') {ks : List (Str × Str)} {xs : List V} (h : DpAll K H xs (kysD ks)) : DpAll K H' xs (kysD ks) := allPl (n := 1) (fun d hd => by
  obtain ⟨x, _, rfl⟩ := List.mem_map.mp hd
  exact plKy x) k h
theorem plUp {n : Nat} {d : PyData} (h : Pl n d) {m : Nat} (l : n ≤ m) : Pl m d := h.up l
theorem plCase (c : List (Option Str) × Tr) : ∃ n, Pl n (.tuple [rowD c.1, trD c.2]) := by
  obtain ⟨n, h⟩ := plTr c.2
  refine ⟨n + 2 + 1, .tup fun d hd => ?_⟩
  simp only [List.mem_cons, List.not_mem_nil, or_false] at hd
  rcases hd with rfl | rfl
  · exact (plRow _).up (by omega)
  · exact h.up (by omega)
theorem csTS {K : PySem.W.Frag} {H H' : Hp} (k : TS H H') {cs : List (List (Option Str) × Tr)} {xs : List V} (h : DpAll K H xs (csD cs)) : DpAll K H' xs (csD cs) := allTS (fun d hd v hv => by
  rw [csD_map] at hd
  obtain ⟨c, _, rfl⟩ := List.mem_map.mp hd
  obtain ⟨n, p⟩ := plCase c
  exact dpTS k p v hv) h
theorem csSnoc (cs : List (List (Option Str) × Tr)) (r : List (Option Str)) (t : Tr) : csD (cs ++ [(r, t)]) = csD cs ++ [.tuple [rowD r, trD t]] := by
  rw [csD_map, csD_map, List.map_append]
  rfl
theorem csZ_snoc {zs : List Str} {m : Nat} {r : List (Option Str)} {t : Tr} (hr : r.length = m ∧ ∀ z, some z ∈ r → TOk z) (ht : TrZ zs t) : ∀ {cs : List (List (Option Str) × Tr)}, CsZ zs m cs → CsZ zs m (cs ++ [(r, t)])
  | [], _ => by
    show CsZ zs m [(r, t)]
    rw [CsZ]
    exact ⟨⟨hr, ht⟩, by rw [CsZ]; trivial⟩
  | (g, u) :: cs, h => by
    rw [CsZ] at h
    show CsZ zs m ((g, u) :: (cs ++ [(r, t)]))
    rw [CsZ]
    exact ⟨h.1, csZ_snoc hr ht h.2⟩
theorem eqE {K : PySem.W.Frag} {α : Type} {e : α → PyData} {H : Hp} {D p : Addr} {xs : List V} {ds : List α} {Q : VK} {n : Nat} (hn : n ≤ 60) (hD : H D = some (.lst xs)) (hv : DpAll K H xs (ds.map e)) (od : ∀ d ∈ ds, Od n (e d)) (ep : H p = some (.lst [])) (h : Q (.bl (decide (ds = []))) H) : rEqD K (.ref D) (.ref p) H Q := by
  obtain ⟨a, b⟩ := allLay (ds := ds.map e) (n := n) fun d hd => by
    obtain ⟨t, ht, rfl⟩ := List.mem_map.mp hd
    exact (od t ht).lay
  refine ⟨.list (ds.map e), .list [], .lst (.inl (.inl hD)) hv, .lst (.inl (.inl ep)) .nil, ?_, rfl, ?_⟩
  · have e1 : (PyData.list (ds.map e)).canLay0 = true := a
    unfold SeqAt.shaped
    rw [e1, Bool.true_and]
    refine decide_eq_true ?_
    simp only [PyData.depth]
    omega
  · cases ds with
    | nil => exact h
    | cons t ts => exact h
theorem neE {K : PySem.W.Frag} {α : Type} {e : α → PyData} {H : Hp} {D p : Addr} {xs : List V} {ds : List α} {Q : VK} {n : Nat} (hn : n ≤ 60) (hD : H D = some (.lst xs)) (hv : DpAll K H xs (ds.map e)) (od : ∀ d ∈ ds, Od n (e d)) (ep : H p = some (.lst [])) (h : Q (.bl (!decide (ds = []))) H) : rNeD K (.ref D) (.ref p) H Q := by
  obtain ⟨d, e', h1, h2, h3, h4, h5⟩ := eqE (Q := fun x H => Q (match x with | .bl b => .bl (!b) | _ => x) H) hn hD hv od ep h
  exact ⟨d, e', h1, h2, h3, h4, h5⟩
theorem strsDp {K : PySem.W.Frag} {H : Hp} : ∀ (zs : List Str), DpAll K H (zs.map V.str) (zs.map PyData.str)
  | [] => .nil
  | z :: zs => .cons (.str z) (strsDp zs)
theorem dpTake {K : PySem.W.Frag} {H : Hp} : ∀ {xs : List V} {ds : List PyData}, DpAll K H xs ds → ∀ k, DpAll K H (xs.take k) (ds.take k)
  | _, _, .nil, k => by rw [List.take_nil, List.take_nil]; exact .nil
  | _, _, .cons h r, 0 => .nil
  | _, _, .cons h r, k + 1 => .cons h (dpTake r k)
theorem odKy {k : Str × Str} (h : TOk k.1 ∧ TOk k.2) : Od 1 (kyD k) := .tup (by show 2 ≤ 100; omega) fun d hd => by
  simp only [List.mem_cons, List.not_mem_nil, or_false] at hd
  rcases hd with rfl | rfl
  · exact .str _ (TOk.odS h.1).1 (TOk.odS h.1).2
  · exact .str _ (TOk.odS h.2).1 (TOk.odS h.2).2
theorem odPts {ps : List Pt} (l : ps.length ≤ 100) (h : ∀ p ∈ ps, PtOk p) : Od 2 (.tuple (ps.map ptD)) := .tup (by rw [List.length_map]; exact l) fun d hd => by
  obtain ⟨p, hp, rfl⟩ := List.mem_map.mp hd
  cases p with
  | txt z => exact .str _ (TOk.odS (h _ hp)).1 (TOk.odS (h _ hp)).2
  | itm r i =>
    refine .tup (by show 2 ≤ 100; omega) fun d hd => ?_
    simp only [List.mem_cons, List.not_mem_nil, or_false] at hd
    rcases hd with rfl | rfl
    · exact .int _ _
    · exact .int _ _
theorem odStop (n : Nat) : Od (n + 1) (trD .stop) := by
  rw [trD]
  exact .tup (by show 1 ≤ 100; omega) fun d hd => by
    rw [List.mem_singleton.mp hd]
    exact .str _ (by unfold SOk; decide +kernel) (by decide +kernel)
theorem odWrT {n : Nat} {o : Str} {ps : List Pt} {t : Tr} (ho : TOk o) (l : ps.length ≤ 100) (h : ∀ p ∈ ps, PtOk p) (ht : Od n (trD t)) (n2 : 2 ≤ n) : Od (n + 1) (trD (.wr o ps t)) := by
  rw [trD]
  refine .tup (by show 4 ≤ 100; omega) fun d hd => ?_
  simp only [List.mem_cons, List.not_mem_nil, or_false] at hd
  rcases hd with rfl | rfl | rfl | rfl
  · exact .str _ (by unfold SOk; decide +kernel) (by decide +kernel)
  · exact .str _ (TOk.odS ho).1 (TOk.odS ho).2
  · exact (odPts l h).up n2
  · exact ht
theorem odRdT {n : Nat} {ks : List (Str × Str)} {cs : List (List (Option Str) × Tr)} {t : Tr} (hk : ks.length ≤ 100) (hk2 : ∀ k ∈ ks, TOk k.1 ∧ TOk k.2) (l : cs.length ≤ 100) (h : ∀ c ∈ cs, Od n (.tuple [rowD c.1, trD c.2])) (ht : Od (n + 1) (trD t)) (n2 : 1 ≤ n) : Od (n + 2) (trD (.rd ks cs t)) := by
  rw [trD, csD_map]
  refine .tup (by show 4 ≤ 100; omega) fun d hd => ?_
  simp only [List.mem_cons, List.not_mem_nil, or_false] at hd
  rcases hd with rfl | rfl | rfl | rfl
  · exact .str _ (by unfold SOk; decide +kernel) (by decide +kernel)
  · refine .tup (by rw [List.length_map]; exact hk) fun d hd => ?_
    obtain ⟨k, hk3, rfl⟩ := List.mem_map.mp hd
    exact (odKy (hk2 k hk3)).up (by omega)
  · refine .tup (by rw [List.length_map]; exact l) fun d hd => ?_
    obtain ⟨c, hc, rfl⟩ := List.mem_map.mp hd
    exact h c hc
  · exact ht
theorem odCase {n : Nat} {r : List (Option Str)} {t : Tr} (h : RowOk r) (ht : Od n (trD t)) (n1 : 1 ≤ n) : Od (n + 1) (.tuple [rowD r, trD t]) := .tup (by show 2 ≤ 100; omega) fun d hd => by
  simp only [List.mem_cons, List.not_mem_nil, or_false] at hd
  rcases hd with rfl | rfl
  · exact (odRow h).up n1
  · exact ht
abbrev nTree : List Str := ["_law_feed", "_law_keys", "_law_outs_here", "_law_deep", "_law_form", "_law_out", "_law_left", "_law_chosen", "_law_cases", "_law_turn", "_law_row", "_law_one", "_law_key"]
theorem plPts (ps : List Pt) : Pl 2 (.tuple (ps.map ptD)) := .tup fun d hd => by
  obtain ⟨p, _, rfl⟩ := List.mem_map.mp hd
  exact plPt p
abbrev tT (a ks os : Addr) (n : Int) (x4 x5 x6 x7 x8 x9 x10 x11 x12 : Option V) : L2.St := [some (.ref a), some (.ref ks), some (.ref os), some (.int n), x4, x5, x6, x7, x8, x9, x10, x11, x12]
section
variable {P : Program} {w : World} {K : PySem.W.Frag} {mg : Str → Option Value} {base : Heap} {f : Addr} {fd : FuncData}
abbrev pTree : List Str := ["_law_feed", "_law_keys", "_law_outs_here", "_law_deep"]
theorem scTree : FnScope nTree pTree (defScope lTree) := ⟨rfl, rfl, rfl, by decide +kernel, rfl, by decide +kernel, by decide +kernel⟩
theorem okTree {k : Nat} (F : FnP K "_law_some_tree" lTree f fd) (gT : mg "_law_some_tree" = some (.ref f)) (bT : Binds K fd pTree []) (B : Bn mg) (D : Has P w K mg base (k + 1) "_law_draw" ["_law_feed", "_law_many"] spDraw) (Pk : Has P w K mg base (k + 2) "_law_pick" ["_law_feed", "_law_items"] (spPick K))
    (Mx : Has P w K mg base (k + 2) "_law_mixed" ["_law_feed", "_law_items"] (spMixG K kyD)) (Pa : Has P w K mg base (k + 4) "_law_some_parts" ["_law_feed"] (spParts K)) (An : Has P w K mg base (k + 4) "_law_some_answer" ["_law_feed"] spAns) :
    ∀ M, M ≤ 100 → FnOk P w K mg base CX0 (k + M + 5) f fd pTree (spTree K M) := by
  obtain ⟨fD, fdD, gD, kD, bD, GD⟩ := D.ex
  obtain ⟨fP, fdP, gP, kP, bP, GP⟩ := Pk.ex
  obtain ⟨fM, fdM, gM, kM, bM, GM⟩ := Mx.ex
  obtain ⟨fQ, fdQ, gQ, kQ, bQ, GQ⟩ := Pa.ex
  obtain ⟨fA, fdA, gA, kA, bA, GA⟩ := An.ex
  have stop : ∀ {H1 : Hp} {p : Addr}, H1 p = none → Dp K (upd H1 p (.tup [.str "stop"])) (.ref p) (trD .stop) := fun {H1 p} hp => by
    rw [trD]
    exact .tup (.inl (.inl upd_same)) (.cons (.str _) .nil)
  intro M
  induction M with
  | zero =>
    intro hM
    refine F.ok scTree (fun vs H Q E h => ?_) (fun cdv A outer s H vs Q E hr h => ?_)
    · obtain ⟨a, ks, os, xs, keys, zs, n, rfl, _⟩ := h
      rfl
    · obtain ⟨a, ks, os, xs, keys, zs, n, rfl, n0, n1, hF, eK, neK, hxs, _, _, _, _, eO, neO, _, hzs, q⟩ := h
      have hr1 : Room (k + 1) _ := hr.mono (by omega)
      refine ⟨_, PSs.nox (pss_cons (ps_set (i := 4) scTree.nd rfl (.inl rfl) (pe_call GD hr1 (by rfl) gD kD bD .nil pass0 (pa_cons (pv 0) (pa_cons (pe_int) pa_nil)))) (pss_cons (ps_if (PW.pt (pw_or (pt_cmpR op_eq (pv 3) pe_int (nomark _)) (pw_or (pt_cmpR op_eq (pv 4) pe_int (nomark _)) (pw_or1 (PW.pt (pw_and (pt_cmpR (r := rEqD K) (op_eqD hr.units) (pv 1) (pe_lst pa_nil) (nomark _)) (pw_and1 (pt_cmpR (r := rEqD K) (op_eqD hr.units) (pv 2) (pe_lst pa_nil) (nomark _)))))))))
          (pss_one (ps_ret (pe_tup (pa_cons (pe_str) pa_nil)))) pss_nil) (pss_cons (ps_never) (pss_cons (ps_never) (pss_cons (ps_never) (pss_one (ps_never))))))), ?_⟩
      refine ⟨.ref a, rfl, a, 9, rfl, hF, by decide, by decide, fun r H1 r0 r1 k1 F1 => ⟨.int n, rfl, rfl, _, rfl, ite2 (fun e => ?_) (fun e => ?_)⟩⟩
      · exact iteT ⟨(by show 1 ≤ sizeLine; decide), fun p hp => q _ .stop _ (stop hp) (by rw [TrZ]; trivial) (odStop _) (k1.trans (Kp.new hp)) (F1.new hp)⟩
      · have e2 : n = 0 := by omega
        subst e2
        exact absurd e (by decide)
  | succ M ih =>
    intro hM
    have G := ih (by omega)
    refine F.ok scTree (fun vs H Q E h => ?_) (fun cdv A outer s H vs Q E hr h => ?_)
    · obtain ⟨a, ks, os, xs, keys, zs, n, rfl, _⟩ := h
      rfl
    · obtain ⟨a, ks, os, xs, keys, zs, n, rfl, n0, n1, hF, eK, neK, hxs, lx1, lx, knd, kok, eO, neO, lz, hzs, q⟩ := h
      have hr1 : Room (k + 1) _ := hr.mono (by omega)
      have hr2 : Room (k + 2) _ := hr.mono (by omega)
      have hr4 : Room (k + 4) _ := hr.mono (by omega)
      have hrG : Room (k + M + 5) _ := hr.mono (by omega)
      have xne : keys ≠ [] := fun z => by rw [z] at lx1; exact absurd lx1 (by decide)
      have lxx := dpLen hxs
      rw [List.length_map] at lxx
      have odk : ∀ k ∈ keys, Od 1 (kyD k) := fun k hk => odKy (kok k hk).2.2
      have ods : ∀ z ∈ zs, Od 0 (PyData.str z) := fun z hz => .str _ (TOk.odS (hzs z hz)).1 (TOk.odS (hzs z hz)).2
      have keysAt : ∀ {H' : Hp}, Kp a H H' → DpAll K H' xs (kysD keys) := fun k => kysTS (tsKp hF k) hxs
      refine ⟨_, PSs.nox (pss_cons (ps_set (i := 4) scTree.nd rfl (.inl rfl) (pe_call GD hr1 (by rfl) gD kD bD .nil pass0 (pa_cons (pv 0) (pa_cons (pe_int) pa_nil)))) (C8.pss_cut (ps_if (PW.pt (pw_or (pt_cmpR op_eq (pv 3) pe_int (nomark _)) (pw_or (pt_cmpR op_eq (pv 4) pe_int (nomark _)) (pw_or1 (PW.pt (pw_and (pt_cmpR (r := rEqD K) (op_eqD hr.units) (pv 1) (pe_lst pa_nil) (nomark _)) (pw_and1 (pt_cmpR (r := rEqD K) (op_eqD hr.units) (pv 2) (pe_lst pa_nil) (nomark _)))))))))
          (pss_one (ps_ret (pe_tup (pa_cons (pe_str) pa_nil)))) pss_nil) (C8.pss_cut (ps_if (PW.pt (pw_or (PW.pt (pw_and (pt_cmpR op_lt (pv 4) pe_int (nomark _)) (pw_and1 (pt_cmpR (r := rNeD K) (op_neD hr.units) (pv 2) (pe_lst pa_nil) (nomark _))))) (pw_or1 (pt_cmpR (r := rEqD K) (op_eqD hr.units) (pv 1) (pe_lst pa_nil) (nomark _)))))
          (pss_cons (ps_set (i := 5) scTree.nd rfl (.inr rfl) (pe_call GP hr2 (by rfl) gP kP bP .nil pass0 (pa_cons (pv 0) (pa_cons (pv 2) pa_nil)))) (pss_cons (ps_setLc (i := 6) (own := [("_law_one", 11)]) (g := gName 11) (by rfl) scTree.nd rfl rfl (sw_true rfl rfl (by decide +kernel) (by decide +kernel)) (pi_list (pv 2)) (blkOk_by (N := nTree) (sc := defScope lTree) (by decide +kernel))
              (fun _ _ _ _ _ => pg_name (i := 11) scTree.nd rfl (.inl rfl) (hf := .inr rfl)) (fun _ _ _ _ _ => pts_one (pt_cmpR (r := rNe) op_ne (pv 11) (pv 5) (nomark _))) (fun _ _ _ _ _ => pv 11)) (pss_one (ps_ret (pe_tup (pa_cons (pe_str) (pa_cons (pv 5) (pa_cons (pe_call GQ hr4 (by rfl) gQ kQ bQ .nil pass0 (pa_cons (pv 0) pa_nil)) (pa_cons (pe_call G hrG (by rfl) gT F.kp bT .nil pass0 (pa_cons (pv 0) (pa_cons (pv 1) (pa_cons (pv 6) (pa_cons (pe_op op_sub (pv 3) pe_int) pa_nil))))) pa_nil))))))))) pss_nil) (C8.pss_cut (ps_par (i := 7) (j := 8) (by rfl) scTree.nd rfl rfl (by decide) rfl rfl (pa_cons (pe_slice sl_list (pe_call GM hr2 (by rfl) gM kM bM .nil pass0 (pa_cons (pv 0) (pa_cons (pv 1) pa_nil))) po_none (po_some (pe_ix ix_list (pe_lst (pa_cons (pe_int) (pa_cons (pe_int) (pa_cons (pe_int) (pa_cons (pe_int) (pa_cons (pe_int) (pa_cons (pe_int) (pa_cons (pe_int) pa_nil)))))))) (pe_call GD hr1 (by rfl) gD kD bD .nil pass0 (pa_cons (pv 0) (pa_cons (pe_int) pa_nil))) (fun _ _ => rfl)))) (pa_cons (pe_lst pa_nil) pa_nil)) (by rfl)) (C8.pss_cut (ps_for PassesOwn.never rfl (pi_range1 (by rfl) B.range (pa_cons (pe_call GD hr1 (by rfl) gD kD bD .nil pass0 (pa_cons (pv 0) (pa_cons (pe_int) pa_nil))) pa_nil)) (pg_name (i := 9) scTree.nd rfl (.inl rfl))
          (pss_cons (ps_set (i := 10) scTree.nd rfl (.inl rfl) (pe_callTy call_tuple_of (by rfl) B.tuple (by decide +kernel) (pa_cons (pe_lc (own := [("_law_key", 12)]) (g := gName 12) rfl scTree.nd (pi_list (pv 7)) (blkOk_by (N := nTree) (sc := defScope lTree) (by decide +kernel))
              (fun _ _ _ _ _ => pg_name (i := 12) scTree.nd rfl (.inl rfl) (hf := .inr rfl)) (fun _ _ _ _ _ => pts_nil) (fun _ _ _ _ _ => pe_call GA hr4 (by rfl) gA kA bA .nil pass0 (pa_cons (pv 0) pa_nil))) pa_nil))) (pss_one (ps_expr (pe_bm PySem.F.plainAttrs_list PySem.F.slot_list_append PySem.F.type_list_append mt_append (pv 8) (pa_cons (pe_tup (pa_cons (pv 10) (pa_cons (pe_call G hrG (by rfl) gT F.kp bT .nil pass0 (pa_cons (pv 0) (pa_cons (pv 1) (pa_cons (pv 2) (pa_cons (pe_op op_sub (pe_op op_sub (pv 3) pe_int) (pe_call GD hr1 (by rfl) gD kD bD .nil pass0 (pa_cons (pv 0) (pa_cons (pv 3) pa_nil)))) pa_nil))))) pa_nil))) pa_nil)))))) (pss_one (ps_ret (pe_tup (pa_cons (pe_str) (pa_cons (pe_callTy call_tuple_of (by rfl) B.tuple (by decide +kernel) (pa_cons (pv 7) pa_nil)) (pa_cons (pe_callTy call_tuple_of (by rfl) B.tuple (by decide +kernel) (pa_cons (pv 8) pa_nil)) (pa_cons (pe_call G hrG (by rfl) gT F.kp bT .nil pass0 (pa_cons (pv 0) (pa_cons (pv 1) (pa_cons (pv 2) (pa_cons (pe_op op_sub (pv 3) pe_int) pa_nil))))) pa_nil)))))))))))), ?_⟩
      refine ⟨.ref a, rfl, a, 9, rfl, hF, by decide, by decide, fun r H1 r0 r1 k1 F1 => ?_⟩
      have eK1 := k1 _ _ neK eK
      have eO1 := k1 _ _ neO eO
      have ret : ∀ {H2 : Hp}, Kp a H H2 → Fd H2 a → (1 ≤ sizeLine ∧ ∀ p, H2 p = none → Q (.ref p) (upd H2 p (.tup [.str "stop"]))) := fun k2 F2 => ⟨by decide, fun p hp => q _ .stop _ (stop hp) (by rw [TrZ]; trivial) (odStop _) (k2.trans (Kp.new hp)) (F2.new hp)⟩
      -- the first if
      refine ⟨fun σ' H' => σ' = tT a ks os n (some (.int r)) none none none none none none none none ∧ 1 ≤ n ∧ Kp a H H' ∧ Fd H' a, ?_, ?_⟩
      · refine ⟨.int n, rfl, rfl, _, rfl, ite2 (fun e => ?_) (fun e => ?_)⟩
        · exact iteT (ret k1 F1)
        have hn1 : 1 ≤ n := by
          have : n ≠ 0 := fun z => e (decide_eq_true (by rw [z]))
          omega
        refine ⟨.int r, rfl, rfl, _, rfl, ite2 (fun e => ?_) (fun e => ?_)⟩
        · exact iteT (ret k1 F1)
        refine ⟨.ref ks, rfl, Nat.zero_le _, fun p hp => ?_⟩
        have s2 := sameUpd (o := .lst []) hp
        refine eqE (n := 1) (by omega) (s2 _ _ eK1) (keysAt (k1.trans (Kp.same s2))) odk upd_same ⟨_, rfl, ?_⟩
        rw [decide_eq_false xne]
        exact iteF ⟨rfl, hn1, k1.trans (Kp.same s2), F1.same s2⟩
      rintro σ2 H2 ⟨rfl, hn1, k2, F2⟩
      -- the second
      refine ⟨fun σ' H' => σ' = tT a ks os n (some (.int r)) none none none none none none none none ∧ Kp a H H' ∧ Fd H' a, ?_, ?_⟩
      · have eK2 := k2 _ _ neK eK
        have eO2 := k2 _ _ neO eO
        have keysNil : ∀ {H3 : Hp} {p : Addr}, Kp a H H3 → Fd H3 a → H3 p = none → ∀ R : VK, R (.bl false) (upd H3 p (.lst [])) → rEqD K (.ref ks) (.ref p) (upd H3 p (.lst [])) R := fun {H3 p} k3 F3 hp R hR => by
          have s3 := sameUpd (o := .lst []) hp
          refine eqE (n := 1) (by omega) (s3 _ _ (k3 _ _ neK eK)) (keysAt (k3.trans (Kp.same s3))) odk upd_same ?_
          rw [decide_eq_false xne]
          exact hR
        refine ⟨.int r, rfl, r, 4, rfl, rfl, _, rfl, ite2 (fun e => ?_) (fun e => ?_)⟩
        · refine ⟨.ref os, rfl, Nat.zero_le _, fun p hp => ?_⟩
          have s3 := sameUpd (o := .lst []) hp
          refine neE (e := PyData.str) (n := 0) (by omega) (s3 _ _ eO2) (strsDp zs) ods upd_same ⟨_, rfl, ?_⟩
          have k3 := k2.trans (Kp.same s3)
          have F3 := F2.same s3
          have eO3 := s3 _ _ eO2
          generalize upd H2 p (.lst []) = H3 at *
          by_cases z0 : zs = []
          · rw [decide_eq_true z0]
            refine iteF ⟨.ref ks, rfl, Nat.zero_le _, fun p4 hp4 => keysNil k3 F3 hp4 _ ⟨_, rfl, iteF ⟨rfl, k3.trans (Kp.new hp4), F3.new hp4⟩⟩⟩
          rw [decide_eq_false z0]
          refine iteT (iteT ?_)
          -- a write
          have zpos : 0 < zs.length := List.length_pos_iff.mpr z0
          refine ⟨.ref a, rfl, .ref os, rfl, a, os, zs.map V.str, rfl, F3, .inl (.inl eO3), neO, by rw [List.length_map]; exact zpos, by rw [List.length_map]; omega, fun i v H4 hv4 k4 F4 => ?_⟩
          obtain ⟨z, hzm, rfl⟩ := List.mem_map.mp (List.mem_of_getElem? hv4)
          have tz := hzs z hzm
          have eO4 := k4 _ _ neO eO3
          have k04 := k3.trans k4
          refine ⟨.ref os, rfl, os, rfl, ⟨_, .inl (.inl eO4)⟩, fun D hD => ?_⟩
          have nDo : D ≠ os := fun y => by rw [y, eO4] at hD; cases hD
          refine lcJ (n := zs.length) (vs := [11]) (fun i H' => At H4 D (((zs.take i).filter fun y => decide (y ≠ z)).map V.str) H') ⟨sameUpd hD, upd_same⟩
            (fun i H' lt h => ⟨zs.map V.str, V.str zs[i], .inl (.inl (h.1 _ _ eO4)), by rw [List.getElem?_map, List.getElem?_eq_getElem lt]; rfl⟩) (fun H' h => ⟨zs.map V.str, .inl (.inl (h.1 _ _ eO4)), by rw [List.length_map]; exact Nat.le_refl _⟩) (fun i H' x H5 lt h y => ?_) (fun H' h => ?_)
          · obtain ⟨rfl, y⟩ := y
            have ex := y _ (.inl (.inl (h.1 _ _ eO4)))
            rw [List.getElem?_map, List.getElem?_eq_getElem lt] at ex
            obtain rfl : V.str zs[i] = x := Option.some.inj ex
            have et : (zs.take (i + 1)).filter (fun y => decide (y ≠ z)) = (zs.take i).filter (fun y => decide (y ≠ z)) ++ (if zs[i] ≠ z then [zs[i]] else []) := by
              rw [List.take_succ_eq_append_getElem lt, List.filter_append, List.filter_cons]
              by_cases e : zs[i] = z
              · rw [if_neg (by simp [e]), if_neg (by simp [e])]
                rfl
              · rw [if_pos (by simp [e]), if_pos e]
                rfl
            have ln := List.length_filter_le (fun y => decide (y ≠ z)) (zs.take i)
            rw [List.length_take] at ln
            refine ⟨rfl, .str zs[i], rfl, .str z, rfl, rfl, _, rfl, ite2 (fun e => ?_) (fun e => ?_)⟩
            · have ne : zs[i] ≠ z := fun z2 => by rw [z2] at e; simp at e
              rw [if_pos ne] at et
              obtain ⟨g1, g2⟩ := h.put (ys := ((zs.take (i + 1)).filter fun y => decide (y ≠ z)).map V.str) hD (Same.refl _)
              refine ⟨.str zs[i], rfl, _, g1, by rw [List.length_map, sizeLine_eq]; omega, ?_⟩
              rw [et, List.map_append] at g2
              rw [et, List.map_append]
              exact g2
            · have e2 : zs[i] = z := Decidable.byContradiction fun ne => e (by simp [ne])
              rw [if_neg (fun n => n e2), List.append_nil] at et
              rw [et]
              exact h
          rw [List.take_length] at h
          have hat := h
          have lf := List.length_filter_le (fun y => decide (y ≠ z)) zs
          have F5 := F4.same hat.1
          have k05 := k04.trans (Kp.same hat.1)
          have nDa : D ≠ a := fdNe F4 hD
          refine ⟨.str z, rfl, .ref a, rfl, a, rfl, F5, fun v6 ps H6 lps hps hv6 k6 F6 => ?_⟩
          have k06 := k05.trans k6
          refine ⟨.ref a, rfl, .ref ks, rfl, .ref D, rfl, .int n, rfl, n, 1, rfl, rfl, a, ks, D, xs, keys, zs.filter (fun y => decide (y ≠ z)), n - 1, rfl, by omega, by omega, F6, k06 _ _ neK eK, neK, keysAt k06, lx1, lx, knd, kok, k6 _ _ nDa hat.2, nDa, by omega, fun y hy => hzs y (List.mem_filter.mp hy).1, fun v7 t7 H7 hv7 z7 o7 k7 F7 => ⟨(by show 4 ≤ sizeLine; decide), fun p8 hp8 => ?_⟩⟩
          have s8 := sameUpd (o := .tup [.str "write", .str z, v6, v7]) hp8
          refine q _ (.wr z ps t7) _ ?_ ?_ (((odWrT tz (by omega) hps o7 (by omega) : Od (3 * M + 2 + 1) _)).up (by omega)) ((k06.trans k7).trans (Kp.same s8)) (F7.same s8)
          · rw [trD]
            refine .tup (.inl (.inl upd_same)) (.cons (.str _) (.cons (.str _) (.cons ?_ (.cons (dpSame s8 _ _ hv7) .nil))))
            exact dpSame s8 _ _ (dpTS (tsKp F6 k7) (plPts ps) _ hv6)
          · rw [TrZ]
            exact ⟨⟨hzm, by omega, hps⟩, z7⟩
        · refine iteF ⟨.ref ks, rfl, Nat.zero_le _, fun p4 hp4 => keysNil k2 F2 hp4 _ ⟨_, rfl, iteF ⟨rfl, k2.trans (Kp.new hp4), F2.new hp4⟩⟩⟩
      rintro σ3 H3 ⟨rfl, k3, F3⟩
      have eK3 := k3 _ _ neK eK
      -- the keys chosen
      refine ⟨fun σ' H' => ∃ C U cs chosen, σ' = tT a ks os n (some (.int r)) none none (some (.ref C)) (some (.ref U)) none none none none ∧ H' C = some (.lst cs) ∧ DpAll K H' cs (kysD chosen) ∧ 1 ≤ chosen.length ∧ chosen.length ≤ 4 ∧ chosen.Nodup ∧ (∀ k ∈ chosen, k ∈ keys) ∧ H' U = some (.lst []) ∧ C ≠ a ∧ U ≠ a ∧ C ≠ U ∧ H3 U = none ∧ Kp a H3 H' ∧ Fd H' a, ?_, ?_⟩
      · refine ⟨.ref a, rfl, .ref ks, rfl, a, ks, xs, keys, rfl, F3, .inl (.inl eK3), Nat.le_trans lx (by decide), keysAt k3, fun k hk => (odk k hk).up (by omega), fun p ys es H4 np k4 F4 ep hv4 perm => ?_⟩
        have pa : p ≠ a := fdNe F3 np
        refine ⟨(by show 7 ≤ sizeLine; decide), fun L hL => ?_⟩
        have s5 := sameUpd (o := .lst [.int 1, .int 1, .int 1, .int 2, .int 2, .int 3, .int 4]) hL
        have eL : upd H4 L (.lst [.int 1, .int 1, .int 1, .int 2, .int 2, .int 3, .int 4]) L = some (.lst [.int 1, .int 1, .int 1, .int 2, .int 2, .int 3, .int 4]) := upd_same
        have F5 := F4.same s5
        have nLa := fdNe F4 hL
        have ep5 := s5 _ _ ep
        generalize upd H4 L (.lst [.int 1, .int 1, .int 1, .int 2, .int 2, .int 3, .int 4]) = H5 at *
        refine ⟨.ref a, rfl, a, 7, rfl, F5, by decide, by decide, fun r6 H6 r60 r61 k6 F6 => ?_⟩
        obtain ⟨j, hj, hj1, hj4⟩ : ∃ j : Nat, atI [V.int 1, .int 1, .int 1, .int 2, .int 2, .int 3, .int 4] r6 = some (.int (j : Int)) ∧ 1 ≤ j ∧ j ≤ 4 := by
          have hc : r6 = 0 ∨ r6 = 1 ∨ r6 = 2 ∨ r6 = 3 ∨ r6 = 4 ∨ r6 = 5 ∨ r6 = 6 := by omega
          rcases hc with h | h | h | h | h | h | h <;> rw [h]
          · exact ⟨1, rfl, by omega, by omega⟩
          · exact ⟨1, rfl, by omega, by omega⟩
          · exact ⟨1, rfl, by omega, by omega⟩
          · exact ⟨2, rfl, by omega, by omega⟩
          · exact ⟨2, rfl, by omega, by omega⟩
          · exact ⟨3, rfl, by omega, by omega⟩
          · exact ⟨4, rfl, by omega, by omega⟩
        refine ⟨L, _, r6, .int (j : Int), rfl, rfl, .inl (.inl (k6 _ _ nLa eL)), hj, (j : Int), rfl, p, ys, rfl, .inl (.inl (k6 _ _ pa ep5)), fun C hC => ⟨Nat.zero_le _, fun U hU => ⟨_, _, rfl, ?_⟩⟩⟩
        have s7 := sameUpd (o := .lst (cutV ys none (some (j : Int)))) hC
        have s8 := sameUpd (o := .lst []) hU
        have F8 := (F6.same s7).same s8
        have Ca := fdNe F6 hC
        have Ua := fdNe (F6.same s7) hU
        have kA : Kp a H3 (upd (upd H6 C (.lst (cutV ys none (some (j : Int))))) U (.lst [])) := ((k4.trans (Kp.same s5)).trans k6).trans (Kp.same (s7.trans s8))
        have les := perm.length_eq
        have dp8 : ∀ G, TS H4 G → DpAll K G (cutV ys none (some (j : Int))) (kysD (es.take j)) := fun G t => by
          rw [cutTake, show kysD (es.take j) = (kysD es).take j from List.map_take]
          exact dpTake (kysTS t hv4) j
        refine ⟨C, U, _, es.take j, rfl, s8 _ _ upd_same, dp8 _ (((TS.same s5).trans (tsKp F5 k6)).trans (TS.same (s7.trans s8))), by rw [List.length_take]; omega, by rw [List.length_take]; omega, (perm.nodup_iff.mpr knd).sublist (List.take_sublist _ _), fun k hk => perm.mem_iff.mp (List.mem_of_mem_take hk), upd_same, Ca, Ua, fun z => (by rw [← z, upd_same] at hU; cases hU), ?_, kA, F8⟩
        cases e : H3 U with
        | none => rfl
        | some o => 
          have := s7 _ _ (k6 _ _ Ua (s5 _ _ (k4 _ _ Ua e)))
          rw [this] at hU
          cases hU
      rintro σ4 H4 ⟨C, U, cs, chosen, rfl, eC, hcs, lc1, lc, cnd, csub, eU, Ca, Ua, CU, nU3, k4, F4⟩
      have lcc := dpLen hcs
      rw [List.length_map] at lcc
      -- the cases
      refine ⟨fun σ' H' => ∃ x9 x10 rs cases, σ' = tT a ks os n (some (.int r)) none none (some (.ref C)) (some (.ref U)) x9 x10 none none ∧ H' C = some (.lst cs) ∧ H' U = some (.lst rs) ∧ cases.length ≤ 2 ∧ DpAll K H' cs (kysD chosen) ∧ DpAll K H' rs (csD cases) ∧ CsZ zs chosen.length cases ∧ (∀ c ∈ cases, Od (3 * M + 3) (.tuple [rowD c.1, trD c.2])) ∧ Kp a H3 H' ∧ Fd H' a, ?_, ?_⟩
      · refine ⟨.ref a, rfl, a, 3, rfl, F4, by decide, by decide, fun r5 H5 r50 r51 k5 F5 => ⟨r5, rfl, by omega, by omega, ?_⟩⟩
        obtain ⟨m, rfl⟩ : ∃ m : Nat, r5 = (m : Int) := ⟨r5.toNat, by omega⟩
        rw [Int.toNat_natCast]
        refine forJ (n := m) (fun i σ' H' => ∃ x9 x10 rs cases, σ' = tT a ks os n (some (.int r)) none none (some (.ref C)) (some (.ref U)) x9 x10 none none ∧ H' C = some (.lst cs) ∧ H' U = some (.lst rs) ∧ cases.length = i ∧ DpAll K H' cs (kysD chosen) ∧ DpAll K H' rs (csD cases) ∧ CsZ zs chosen.length cases ∧ (∀ c ∈ cases, Od (3 * M + 3) (.tuple [rowD c.1, trD c.2])) ∧ Kp a H3 H' ∧ Fd H' a)
          ⟨none, none, [], [], rfl, k5 _ _ Ca eC, k5 _ _ Ua eU, rfl, kysTS (tsKp F4 k5) hcs, .nil, (by rw [CsZ]; trivial), fun c hc => absurd hc (by simp), k4.trans k5, F5⟩ (fun i σ' H' lt _ => lt) (fun σ' H' _ => Nat.le_refl _) (fun i σ' H6 x H7 lt h y => ?_) (fun σ' H' h => ?_)
        · obtain ⟨rfl, rfl⟩ := y
          obtain ⟨x9, x10, rs, cases, rfl, eC6, eU6, lr, hc6, hr6, cz6, od6, k6, F6⟩ := h
          have lrr := dpLen hr6
          rw [csD_map, List.length_map] at lrr
          refine ⟨.ref C, rfl, C, rfl, ⟨_, .inl (.inl eC6)⟩, fun D hD => ?_⟩
          refine lcFeedX (m := cs.length) (fun a => ∀ z, a = some z → TOk z) hD F6 (by omega) (fun v => rfl) (fun i H lt k => ⟨cs, _, .inl (.inl (k _ _ Ca eC6)), List.getElem?_eq_getElem (by omega)⟩) (fun H k => ⟨cs, .inl (.inl (k _ _ Ca eC6)), by omega⟩) (fun i x H8 H9 lt k8 F8 y => ?_) (fun H8 row e8 l8 hv8 k8 F8 => ?_)
          · obtain ⟨rfl, y⟩ := y
            refine ⟨rfl, fun R hR => ?_⟩
            refine ⟨.ref a, rfl, a, rfl, F8, fun v H10 hv10 k10 F10 => ?_⟩
            rcases hv10 with rfl | ⟨z, rfl, tz⟩
            · exact hR none H10 (fun z e => by cases e) k10 F10
            · exact hR (some z) H10 (fun y e => by cases e; exact tz) k10 F10
          have rok : row.length = chosen.length ∧ ∀ z, some z ∈ row → TOk z := ⟨by omega, fun z hz => hv8 _ hz z rfl⟩
          refine ⟨D, row.map vA, rfl, .inl ⟨.inl (.inl e8), fun T hT => ?_⟩⟩
          have sT := sameUpd (o := .tup (row.map vA)) hT
          have vT : Dp K (upd H8 T (.tup (row.map vA))) (.ref T) (rowD row) := rowDp (.inl (.inl upd_same))
          have F9 := F8.same sT
          have k9 := k8.trans (Kp.same sT)
          generalize upd H8 T (.tup (row.map vA)) = H9 at *
          have eU9 := k9 _ _ Ua eU6
          have k39 := k6.trans k9
          refine ⟨.ref U, rfl, .inl ⟨rfl, _, .inl (.inl eU9)⟩, .ref T, rfl, .ref a, rfl, .ref ks, rfl, .ref os, rfl, .int n, rfl, n, 1, rfl, rfl, .ref a, rfl, .int n, rfl, a, n, rfl, F9, by omega, by omega, fun r10 H10 r100 r101 k10 F10 => ⟨n - 1, r10, rfl, rfl, ?_⟩⟩
          have k310 := (k3.trans k39).trans k10
          refine ⟨a, ks, os, xs, keys, zs, n - 1 - r10, rfl, by omega, by omega, F10, k310 _ _ neK eK, neK, keysAt k310, lx1, lx, knd, kok, k310 _ _ neO eO, neO, lz, hzs, fun v11 t11 H11 hv11 z11 o11 k11 F11 => ⟨(by show 2 ≤ sizeLine; decide), fun p hp => ?_⟩⟩
          have sp := sameUpd (o := .tup [.ref T, v11]) hp
          have kA : Kp a H9 (upd H11 p (.tup [.ref T, v11])) := (k10.trans k11).trans (Kp.same sp)
          have vp : Dp K (upd H11 p (.tup [.ref T, v11])) (.ref p) (.tuple [rowD row, trD t11]) := .tup (.inl (.inl upd_same)) (.cons (dpSame sp _ _ (dpTS (tsKp F9 (k10.trans k11)) (plRow _) _ vT)) (.cons (dpSame sp _ _ hv11) .nil))
          have FA := F11.same sp
          generalize upd H11 p (.tup [.ref T, v11]) = H12 at *
          have eU12 := kA _ _ Ua eU9
          have eC12 := kA _ _ Ca (k9 _ _ Ca eC6)
          have kt := TS.lst (o := .lst (rs ++ [.ref p])) eU12
          have ktA : TS H7 H12 := tsKp F6 (k9.trans kA)
          refine ⟨U, rs, .ref p, rfl, rfl, eU12, by rw [sizeLine_eq]; omega, ?_⟩
          refine ⟨_, _, rs ++ [.ref p], cases ++ [(row, t11)], rfl, by rw [upd_ne CU]; exact eC12, upd_same, by rw [List.length_append, lr]; rfl, kysTS (ktA.trans kt) hc6, ?_, csZ_snoc rok z11 cz6, fun c hc => ?_, fun b o nb hb => ?_, fdOther FA Ua⟩
          · rw [csSnoc]
            refine dpSnoc ?_ (csTS (ktA.trans kt) hr6)
            obtain ⟨m, pl⟩ := plCase (row, t11)
            exact dpTS kt pl _ vp
          · rcases List.mem_append.mp hc with z | z
            · exact od6 c z
            · rw [List.mem_singleton.mp z]
              exact odCase ⟨by rw [rok.1]; exact lc, rok.2⟩ o11 (by omega)
          · rw [upd_ne (ne_of_none hb nU3)]
            exact kA _ _ nb (k39 _ _ nb hb)
        · obtain ⟨x9, x10, rs, cases, rfl, eC6, eU6, lr, hc6, hr6, cz6, od6, k6, F6⟩ := h
          exact ⟨x9, x10, rs, cases, rfl, eC6, eU6, by omega, hc6, hr6, cz6, od6, k6, F6⟩
      rintro σ5 H5 ⟨x9, x10, rs, cases, rfl, eC5, eU5, lr, hc5, hr5, cz5, od5, k5, F5⟩
      refine ⟨.ref C, rfl, C, cs, rfl, .inl ⟨.inl (.inl eC5), fun T1 hT1 => ?_⟩⟩
      have s6 := sameUpd (o := .tup cs) hT1
      have v6 : Dp K (upd H5 T1 (.tup cs)) (.ref T1) (.tuple (kysD chosen)) := .tup (.inl (.inl upd_same)) (dpAllSame s6 _ _ hc5)
      have F6 := F5.same s6
      have eU6 := s6 _ _ eU5
      have hr6 : DpAll K (upd H5 T1 (.tup cs)) rs (csD cases) := dpAllSame s6 _ _ hr5
      generalize upd H5 T1 (.tup cs) = H6 at *
      refine ⟨.ref U, rfl, U, rs, rfl, .inl ⟨.inl (.inl eU6), fun T2 hT2 => ?_⟩⟩
      have s7 := sameUpd (o := .tup rs) hT2
      have v7 : Dp K (upd H6 T2 (.tup rs)) (.ref T2) (.tuple (csD cases)) := .tup (.inl (.inl upd_same)) (dpAllSame s7 _ _ hr6)
      have F7 := F6.same s7
      have k7 : Kp a H3 (upd H6 T2 (.tup rs)) := k5.trans (Kp.same (s6.trans s7))
      have w6 := dpSame s7 _ _ v6
      generalize upd H6 T2 (.tup rs) = H7 at *
      have k07 := k3.trans k7
      refine ⟨.ref a, rfl, .ref ks, rfl, .ref os, rfl, .int n, rfl, n, 1, rfl, rfl, a, ks, os, xs, keys, zs, n - 1, rfl, by omega, by omega, F7, k07 _ _ neK eK, neK, keysAt k07, lx1, lx, knd, kok, k07 _ _ neO eO, neO, lz, hzs, fun v8 t8 H8 hv8 z8 o8 k8 F8 => ⟨(by show 4 ≤ sizeLine; decide), fun p9 hp9 => ?_⟩⟩
      have s9 := sameUpd (o := .tup [.str "read", .ref T1, .ref T2, v8]) hp9
      have t8T := tsKp F7 k8
      have plC : ∃ m, Pl m (.tuple (csD cases)) := by
        obtain ⟨m, pl⟩ := plTr (.rd [] cases .stop)
        rw [trD] at pl
        cases pl with
        | @tup n _ h => exact ⟨n, h (.tuple (csD cases)) (by simp)⟩
      obtain ⟨mC, plC⟩ := plC
      have plK : Pl 2 (.tuple (kysD chosen)) := .tup fun d hd => by
        obtain ⟨k, _, rfl⟩ := List.mem_map.mp hd
        exact plKy k
      refine q _ (.rd chosen cases t8) _ ?_ ?_ (((odRdT (n := 3 * M + 3) (by omega) (fun k hk => (kok k (csub k hk)).2.2) (by omega) od5 (o8.up (by omega)) (by omega))).up (by omega)) ((k07.trans k8).trans (Kp.same s9)) (F8.same s9)
      · rw [trD]
        exact .tup (.inl (.inl upd_same)) (.cons (.str _) (.cons (dpSame s9 _ _ (dpTS t8T plK _ w6)) (.cons (dpSame s9 _ _ (dpTS t8T plC _ v7)) (.cons (dpSame s9 _ _ hv8) .nil))))
      · rw [TrZ]
        exact ⟨⟨⟨lc1, lc, cnd, fun k hk => ⟨(kok k (csub k hk)).1, (kok k (csub k hk)).2.1⟩⟩, by omega⟩, cz5, z8⟩
end
end TRE

set_option Elab.async false
set_option linter.all false
set_option maxRecDepth 100000
set_option maxHeartbeats 8000000
/-! the recipes of a drawn world: a dict of trees -/
namespace TRE
open PySem PySem.Spec PyProof.Rows L2 ND KS KS.La PLC
abbrev lMade : Stmt := top 37
inductive RK (K : PySem.W.Frag) (H : Hp) : List (Key × V) → List (Str × Tr) → Prop
  | nil : RK K H [] []
  | cons {z : Str} {v : V} {t : Tr} {kvs : List (Key × V)} {L : List (Str × Tr)} (h : Dp K H v (trD t)) (r : RK K H kvs L) : RK K H ((.inr z, v) :: kvs) ((z, t) :: L)
theorem RK.ts {K : PySem.W.Frag} {H H' : Hp} (k : TS H H') {kvs : List (Key × V)} {L : List (Str × Tr)} (h : RK K H kvs L) : RK K H' kvs L := by
  induction h with
  | nil => exact .nil
  | cons h _ ih => exact .cons (trTS k _ _ h) ih
theorem RK.len {K : PySem.W.Frag} {H : Hp} {kvs : List (Key × V)} {L : List (Str × Tr)} (h : RK K H kvs L) : kvs.length = L.length := by
  induction h with
  | nil => rfl
  | cons _ _ ih => rw [List.length_cons, List.length_cons, ih]
theorem RK.snoc {K : PySem.W.Frag} {H : Hp} {kvs : List (Key × V)} {L : List (Str × Tr)} {z : Str} {v : V} {t : Tr} (h : RK K H kvs L) (hv : Dp K H v (trD t)) : RK K H (kvs ++ [(.inr z, v)]) (L ++ [(z, t)]) := by
  induction h with
  | nil => exact .cons hv .nil
  | cons h _ ih => exact .cons h ih
theorem RK.none {K : PySem.W.Frag} {H : Hp} {kvs : List (Key × V)} {L : List (Str × Tr)} {z : Str} (h : RK K H kvs L) (hz : z ∉ L.map (·.1)) : valV kvs (.inr z) = none := by
  induction h with
  | nil => rfl
  | @cons y v t kvs L h _ ih =>
    rw [valV_neg fun e => hz (by rw [← Sum.inr.inj e]; exact List.mem_cons_self)]
    exact ih fun e => hz (List.mem_cons_of_mem _ e)
theorem RK.some {K : PySem.W.Frag} {H : Hp} {kvs : List (Key × V)} {L : List (Str × Tr)} {z : Str} (h : RK K H kvs L) (hz : z ∈ L.map (·.1)) : ∃ v t, valV kvs (.inr z) = some v ∧ Dp K H v (trD t) ∧ (z, t) ∈ L := by
  induction h with
  | nil => exact absurd hz (by simp)
  | @cons y v t kvs L h _ ih =>
    by_cases e : y = z
    · subst e
      exact ⟨v, t, valV_pos rfl, h, List.mem_cons_self⟩
    · rw [valV_neg fun e2 => e (Sum.inr.inj e2)]
      have : z ∈ L.map (·.1) := by
        rcases List.mem_cons.mp hz with y2 | y2
        · exact absurd y2.symm e
        · exact y2
      obtain ⟨v2, t2, a, b, c⟩ := ih this
      exact ⟨v2, t2, a, b, List.mem_cons_of_mem _ c⟩
theorem putNew {kvs : List (Key × V)} {k : Key} {v : V} (h : valV kvs k = none) : putK kvs k v = kvs ++ [(k, v)] := by
  unfold putK
  rw [valV_any, h]
  rfl
def goodT (t : Tr) : Prop := (∃ zs, (∀ z ∈ zs, okN z = true) ∧ TrZ zs t) ∧ Od 50 (trD t)
def RecOk (L : List (Str × Tr)) : Prop := (L.map (·.1)).Nodup ∧ ∀ p ∈ L, TOk p.1 ∧ goodT p.2
theorem RecOk.snoc {L : List (Str × Tr)} {z : Str} {t : Tr} (h : RecOk L) (hz : z ∉ L.map (·.1)) (tz : TOk z) (g : goodT t) : RecOk (L ++ [(z, t)]) := by
  refine ⟨?_, fun p hp => ?_⟩
  · rw [List.map_append]
    refine List.nodup_append.mpr ⟨h.1, by simp, fun u hu v hv e => ?_⟩
    rw [List.map_cons, List.map_nil, List.mem_singleton] at hv
    subst hv
    exact hz (e ▸ hu)
  · rcases List.mem_append.mp hp with y | y
    · exact h.2 p y
    · rw [List.mem_singleton.mp y]
      exact ⟨tz, g⟩
def callsL : List Str := ["make", "", "r 2", "Mend!", "m"]
theorem callsOk : ∀ z ∈ callsL, TOk z := by unfold callsL; decide +kernel
theorem outsOk : ∀ z ∈ outsL, okN z = true ∧ TOk z := by unfold outsL; decide +kernel
/-- all but two stand -/
def Kd (f d : Addr) (H H' : Hp) : Prop := ∀ b o, b ≠ f → b ≠ d → H b = some o → H' b = some o
theorem Kd.kp {f d : Addr} {H H' : Hp} (k : Kp f H H') : Kd f d H H' := fun b o n _ h => k b o n h
theorem Kd.trans {f d : Addr} {H H1 H2 : Hp} (a : Kd f d H H1) (b : Kd f d H1 H2) : Kd f d H H2 := fun c o n1 n2 h => b c o n1 n2 (a c o n1 n2 h)
theorem Kd.put {f d : Addr} {H : Hp} {o : HO} : Kd f d H (upd H d o) := fun b u _ n h => by rw [upd_ne n]; exact h
theorem tsDict {d : Addr} {H : Hp} {kvs : List (Key × V)} {o : HO} (h : H d = some (.dK kvs)) : TS H (upd H d o) := fun a u e t => by
  rw [upd_ne fun z => ?_]
  · exact e
  · rw [z, h] at e
    have e2 := Option.some.inj e
    rcases t with ⟨xs, rfl⟩ | ⟨p, xs, rfl⟩ <;> cases e2
theorem dNe {H : Hp} {f d : Addr} {kvs : List (Key × V)} (h : Fd H f) (e : H d = some (.dK kvs)) : d ≠ f := fun z => by
  obtain ⟨x, y, e2, _⟩ := h
  rw [z, e2] at e
  cases e
def spMade (K : PySem.W.Frag) : Sp := fun vs H Q _ => ∃ (f nr d : Addr) (nms : List Str) (kvs : List (Key × V)) (L : List (Str × Tr)), vs = [.ref f, .ref nr, .ref d] ∧ Fd H f ∧ H nr = some (.lst (nms.map V.str)) ∧ nr ≠ f ∧ 1 ≤ nms.length ∧ nms.length ≤ 12 ∧ nms.Nodup ∧ (∀ x ∈ nms, okN x = true ∧ TOk x) ∧
  H d = some (.dK kvs) ∧ RK K H kvs L ∧ RecOk L ∧ (∀ p ∈ L, p.1 ∈ callsL) ∧ L.length ≤ 100 ∧
  ∀ v kvs' L' H', H' d = some (.dK kvs') → RK K H' kvs' L' → RecOk L' → (∀ p ∈ L', p.1 ∈ callsL) → L'.length ≤ L.length + 1 → Kd f d H H' → Fd H' f → Q v H'
abbrev nMade : List Str := ["_law_feed", "_law_near", "_law_recipes", "_law_call", "_law_arguments", "_law_turn"]
section
variable {P : Program} {w : World} {K : PySem.W.Frag} {mg : Str → Option Value} {base : Heap} {f : Addr} {fd : FuncData}
theorem scMade : FnScope nMade ["_law_feed", "_law_near", "_law_recipes"] (defScope lMade) := ⟨rfl, rfl, rfl, by decide +kernel, rfl, by decide +kernel, by decide +kernel⟩
theorem okMade {k : Nat} (F : FnP K "_law_drawn_made" lMade f fd) (B : Bn mg) (D : Has P w K mg base (k + 1) "_law_draw" ["_law_feed", "_law_many"] spDraw) (Pk : Has P w K mg base (k + 2) "_law_pick" ["_law_feed", "_law_items"] (spPick K)) (Ca : Has P w K mg base (k + 1) "_law_calls" [] spCalls)
    (Ke : Has P w K mg base (k + 2) "_law_some_keys" ["_law_feed", "_law_names"] spKeys) (Ou : Has P w K mg base (k + 1) "_law_outs" [] spOutsT) (Tx : Has P w K mg base (k + 3) "_law_some_text" ["_law_feed"] spText) (Tr' : Has P w K mg base (k + 11) "_law_some_tree" pTree (spTree K 6)) :
    FnOk P w K mg base CX0 (k + 12) f fd ["_law_feed", "_law_near", "_law_recipes"] (spMade K) := by
  obtain ⟨fD, fdD, gD, kD, bD, GD⟩ := D.ex
  obtain ⟨fP, fdP, gP, kP, bP, GP⟩ := Pk.ex
  obtain ⟨fC, fdC, gC, kC, bC, GC⟩ := Ca.ex
  obtain ⟨fK, fdK, gK, kK, bK, GK⟩ := Ke.ex
  obtain ⟨fO, fdO, gO, kO, bO, GO⟩ := Ou.ex
  obtain ⟨fX, fdX, gX, kX, bX, GX⟩ := Tx.ex
  obtain ⟨fT, fdT, gT, kT, bT, GT⟩ := Tr'.ex
  refine F.ok scMade (fun vs H Q E h => ?_) (fun cdv A outer s H vs Q E hr h => ?_)
  · obtain ⟨a, nr, d, nms, kvs, L, rfl, _⟩ := h
    rfl
  · obtain ⟨a, nr, d, nms, kvs, L, rfl, hF, en, nn, ln1, ln, nd, nok, ed, rk, rok, rca, lL, q⟩ := h
    have hr1 : Room (k + 1) _ := hr.mono (by omega)
    have hr2 : Room (k + 2) _ := hr.mono (by omega)
    have hr3 : Room (k + 3) _ := hr.mono (by omega)
    have hu1 : (A.deeper (envOfC "_law_drawn_made" (defScope lMade) s.heap.objs.size f cdv)).units + 1 < cLine := by
      have := hr.units
      omega
    have nd' := dNe hF ed
    refine ⟨_, PSs.nox (C8.pss_cut (ps_set (i := 3) scMade.nd rfl (.inl rfl) (pe_call GP hr2 (by rfl) gP kP bP .nil pass0 (pa_cons (pv 0) (pa_cons (pe_call0 GC hr1 (by rfl) gC kC bC .nil pass0) pa_nil)))) (C8.pss_cut (ps_if (PW.pt (pw_and (pt_cmp (pc_dnotin hu1 (pv 3) (pv 2))) (pw_and1 (pt_cmpR op_gt (pe_call GD hr1 (by rfl) gD kD bD .nil pass0 (pa_cons (pv 0) (pa_cons (pe_int) pa_nil))) pe_int (nomark _)))))
        (pss_one (ps_dput hu1 (pv 2) (pv 3) (pe_call GT hr (by rfl) gT kT bT .nil pass0 (pa_cons (pv 0) (pa_cons (pe_call GK hr2 (by rfl) gK kK bK .nil pass0 (pa_cons (pv 0) (pa_cons (pv 1) pa_nil))) (pa_cons (pe_call0 GO hr1 (by rfl) gO kO bO .nil pass0) (pa_cons (pe_op op_add pe_int (pe_call GD hr1 (by rfl) gD kD bD .nil pass0 (pa_cons (pv 0) (pa_cons (pe_int) pa_nil)))) pa_nil))))) rfl)) pss_nil) (C8.pss_cut (ps_set (i := 4) scMade.nd rfl (.inl rfl) (pe_callTy (r := rTup K) (T := "tuple") call_tuple_of (by rfl) B.tuple (by decide +kernel) (pa_cons (pe_lc (own := [("_law_turn", 5)]) (g := gName 5) rfl scMade.nd (pi_range1 (by rfl) B.range (pa_cons (pe_ix (r := rIxL K) ix_list (pe_lst (pa_cons (pe_int) (pa_cons (pe_int) (pa_cons (pe_int) (pa_cons (pe_int) (pa_cons (pe_int) pa_nil)))))) (pe_call GD hr1 (by rfl) gD kD bD .nil pass0 (pa_cons (pv 0) (pa_cons (pe_int) pa_nil))) (fun _ _ => rfl)) pa_nil)) (blkOk_by (N := nMade) (sc := defScope lMade) (by decide +kernel))
          (fun _ _ _ _ _ => pg_name (i := 5) scMade.nd rfl (.inl rfl) (hf := .inr rfl)) (fun _ _ _ _ _ => pts_nil) (fun _ _ _ _ _ => pe_call GX hr3 (by rfl) gX kX bX .nil pass0 (pa_cons (pv 0) pa_nil))) pa_nil))) (pss_cons (ps_if (pt_cmpR op_eq (pe_call GD hr1 (by rfl) gD kD bD .nil pass0 (pa_cons (pv 0) (pa_cons (pe_int) pa_nil))) pe_int (nomark _))
        (pss_one (ps_ret (pe_tup (pa_cons (pe_str) (pa_cons (pe_tup (pa_cons (pe_call GP hr2 (by rfl) gP kP bP .nil pass0 (pa_cons (pv 0) (pa_cons (pv 1) pa_nil))) (pa_cons (pe_call GP hr2 (by rfl) gP kP bP .nil pass0 (pa_cons (pv 0) (pa_cons (pe_call0 GO hr1 (by rfl) gO kO bO .nil pass0) pa_nil))) pa_nil))) (pa_cons (pv 4) pa_nil)))))) pss_nil) (pss_one (ps_ret (pe_tup (pa_cons (pe_str) (pa_cons (pv 3) (pa_cons (pv 4) pa_nil)))))))))), ?_⟩
    -- the call
    refine ⟨fun σ' H' => ∃ c, σ' = [some (.ref a), some (.ref nr), some (.ref d), some (.str c), none, none] ∧ c ∈ callsL ∧ Kp a H H' ∧ Fd H' a, ?_, ?_⟩
    · refine ⟨.ref a, rfl, rfl, fun p hp => ?_⟩
      have s1 := sameUpd (o := .lst [.str "make", .str "", .str "r 2", .str "Mend!", .str "m"]) hp
      have F1 := hF.same s1
      have np := fdNe hF hp
      refine ⟨a, p, _, rfl, F1, .inl (.inl upd_same), np, by decide, by decide, fun i v H2 hv k2 F2 => ?_⟩
      obtain ⟨c, hc, rfl⟩ : ∃ c, c ∈ callsL ∧ v = .str c := by
        have hm : v ∈ callsL.map V.str := List.mem_of_getElem? hv
        obtain ⟨c, hc, e⟩ := List.mem_map.mp hm
        exact ⟨c, hc, e.symm⟩
      exact ⟨c, rfl, hc, (Kp.same s1).trans k2, F2⟩
    rintro σ1 H1 ⟨c, rfl, hc, k1, F1⟩
    have tc := callsOk c hc
    have ed1 := k1 _ _ nd' ed
    have rk1 := rk.ts (tsKp hF k1)
    -- a new recipe
    refine ⟨fun σ' H' => σ' = [some (.ref a), some (.ref nr), some (.ref d), some (.str c), none, none] ∧ ∃ kvs' L', H' d = some (.dK kvs') ∧ RK K H' kvs' L' ∧ RecOk L' ∧ (∀ p ∈ L', p.1 ∈ callsL) ∧ L'.length ≤ L.length + 1 ∧ Kd a d H H' ∧ Fd H' a, ?_, ?_⟩
    · refine ⟨.str c, rfl, .ref d, rfl, d, _, rfl, DGet.k (k := Sum.inr c) ed1, _, rfl, ?_⟩
      by_cases hc2 : c ∈ L.map (·.1)
      · obtain ⟨v, t, e1, _, _⟩ := rk1.some hc2
        rw [e1]
        exact iteF ⟨rfl, kvs, L, ed1, rk1, rok, rca, by omega, Kd.kp k1, F1⟩
      · have e1 := rk1.none hc2
        rw [e1]
        refine iteT ⟨.ref a, rfl, a, 12, rfl, F1, by decide, by decide, fun r H2 r0 r1 k2 F2 => ⟨r, 0, rfl, rfl, _, rfl, ite2 (fun _ => ?_) (fun _ => ?_)⟩⟩
        · refine ⟨.ref a, rfl, .ref a, rfl, .ref nr, rfl, a, nr, nms, rfl, F2, (k1.trans k2) _ _ nn en, nn, ln, nd, fun R ys keys H3 nR eR hys knd kmem klen k3 F3 => ⟨rfl, fun O hO => ?_⟩⟩
          have sO := sameUpd (o := .lst (outsL.map V.str)) hO
          have F4 := F3.same sO
          have nO := fdNe F3 hO
          have nRa : R ≠ a := fdNe F2 nR
          have klen1 : 1 ≤ keys.length ∨ keys = [] := by
            cases keys with
            | nil => exact .inr rfl
            | cons _ _ => exact .inl (by simp)
          refine ⟨.ref a, rfl, a, 5, rfl, F4, by decide, by decide, fun r5 H5 r50 r51 k5 F5 => ⟨2, r5, rfl, rfl, ?_⟩⟩
          have kA : Kp a H3 H5 := (Kp.same sO).trans k5
          refine ⟨a, R, O, ys, keys, outsL, 2 + r5, rfl, by omega, by omega, F5, kA _ _ nRa eR, nRa, kysTS (tsKp F3 kA) (hys K), ?_, by omega, knd, fun k' hk' => ⟨(nok _ (kmem k' hk').1).1, (outsOk _ (kmem k' hk').2).1, (nok _ (kmem k' hk').1).2, (outsOk _ (kmem k' hk').2).2⟩,
            k5 _ _ nO upd_same, nO, by show 4 ≤ 10; omega, fun z hz => (outsOk z hz).2, fun v t H6 hv zt ot k6 F6 => ?_⟩
          · omega
          have k16 : Kp a H1 H6 := ((k2.trans k3).trans kA).trans k6
          have ed6 := k16 _ _ nd' ed1
          have rk6 := rk1.ts (tsKp F1 k16)
          refine ⟨.ref d, rfl, .str c, rfl, d, _, rfl, DPut.k (k := Sum.inr c) ed6 (by rw [rk6.len, sizeLine_eq]; omega), ?_⟩
          rw [putNew e1]
          have t7 := tsDict (o := .dK (kvs ++ [(Sum.inr c, v)])) ed6
          refine ⟨rfl, _, L ++ [(c, t)], upd_same, (rk6.ts t7).snoc (trTS t7 _ _ hv), rok.snoc hc2 tc ⟨⟨outsL, fun z hz => (outsOk z hz).1, zt⟩, ot.up (by omega)⟩, fun p hp => ?_, by rw [List.length_append]; exact Nat.le_refl _, (Kd.kp (k1.trans k16)).trans Kd.put, fdOther F6 nd'⟩
          rcases List.mem_append.mp hp with y | y
          · exact rca p y
          · rw [List.mem_singleton.mp y]
            exact hc
        · exact ⟨rfl, kvs, L, k2 _ _ nd' ed1, rk1.ts (tsKp F1 k2), rok, rca, by omega, Kd.kp (k1.trans k2), F2⟩
    rintro σ2 H2 ⟨rfl, kvs', L', ed2, rk2, rok2, rca2, lL2, k2, F2⟩
    -- the arguments
    refine ⟨fun σ' H' => ∃ T, σ' = [some (.ref a), some (.ref nr), some (.ref d), some (.str c), some (.ref T), none] ∧ Kp a H2 H' ∧ Fd H' a, ?_, ?_⟩
    · refine ⟨(by show 5 ≤ sizeLine; decide), fun M hM => ?_⟩
      have sM := sameUpd (o := .lst [.int 0, .int 0, .int 1, .int 2, .int 4]) hM
      have eM : upd H2 M (.lst [.int 0, .int 0, .int 1, .int 2, .int 4]) M = some (.lst [.int 0, .int 0, .int 1, .int 2, .int 4]) := upd_same
      have F3 := F2.same sM
      have nM := fdNe F2 hM
      generalize upd H2 M (.lst [.int 0, .int 0, .int 1, .int 2, .int 4]) = H3 at *
      refine ⟨.ref a, rfl, a, 5, rfl, F3, by decide, by decide, fun r H4 r0 r1 k4 F4 => ?_⟩
      obtain ⟨j, hj, hj4⟩ : ∃ j : Nat, atI [V.int 0, .int 0, .int 1, .int 2, .int 4] r = some (.int (j : Int)) ∧ j ≤ 4 := by
        have hc : r = 0 ∨ r = 1 ∨ r = 2 ∨ r = 3 ∨ r = 4 := by omega
        rcases hc with h | h | h | h | h <;> rw [h]
        · exact ⟨0, rfl, by omega⟩
        · exact ⟨0, rfl, by omega⟩
        · exact ⟨1, rfl, by omega⟩
        · exact ⟨2, rfl, by omega⟩
        · exact ⟨4, rfl, by omega⟩
      refine ⟨M, _, r, .int (j : Int), rfl, rfl, .inl (.inl (k4 _ _ nM eM)), hj, (j : Int), rfl, by omega, by omega, ?_⟩
      rw [Int.toNat_natCast]
      intro D hD
      refine lcFeedX (m := j) (fun a => ∀ z, a = some z → TOk z) hD F4 (by omega) (fun v => rfl) (fun i H lt k => lt) (fun H k => Nat.le_refl _) (fun i x H8 H9 lt k8 F8 y => ?_) (fun H8 row e8 l8 hv8 k8 F8 => ?_)
      · obtain ⟨rfl, rfl⟩ := y
        exact ⟨rfl, fun R hR => ⟨.ref a, rfl, a, rfl, F8, fun z H10 tz k10 F10 => hR (some z) H10 (fun y e => by cases e; exact tz) k10 F10⟩⟩
      · refine ⟨D, row.map vA, rfl, .inl ⟨.inl (.inl e8), fun T hT => ?_⟩⟩
        have sT := sameUpd (o := .tup (row.map vA)) hT
        exact ⟨T, rfl, (((Kp.same sM).trans k4).trans k8).trans (Kp.same sT), F8.same sT⟩
    rintro σ3 H3 ⟨T, rfl, k3, F3⟩
    have fin : ∀ {H' : Hp} {v : V}, Kp a H2 H' → Fd H' a → Q v H' := fun {H' v} k F' => q v kvs' L' H' (k _ _ nd' ed2) (rk2.ts (tsKp F2 k)) rok2 rca2 lL2 (k2.trans (Kd.kp k)) F'
    have en3 : H3 nr = some (.lst (nms.map V.str)) := k3 _ _ nn (k2 _ _ nn (fun z => by rw [z, ed] at en; cases en) en)
    refine ⟨.ref a, rfl, a, 6, rfl, F3, by decide, by decide, fun r H4 r0 r1 k4 F4 => ⟨rfl, _, rfl, ite2 (fun _ => ?_) (fun _ => ?_)⟩⟩
    · refine ⟨.ref a, rfl, .ref nr, rfl, a, nr, _, rfl, F4, .inl (.inl (k4 _ _ nn en3)), nn, by rw [List.length_map]; omega, by rw [List.length_map]; omega, fun i v H5 hv k5 F5 => ?_⟩
      refine ⟨.ref a, rfl, rfl, fun O hO => ?_⟩
      have sO := sameUpd (o := .lst (outsL.map V.str)) hO
      refine ⟨a, O, _, rfl, F5.same sO, .inl (.inl upd_same), fdNe F5 hO, by decide, by decide, fun i6 v6 H6 hv6 k6 F6 => ⟨(by show 2 ≤ sizeLine; decide), fun p7 hp7 => ?_⟩⟩
      have s7 := sameUpd (o := .tup [v, v6]) hp7
      refine ⟨.ref T, rfl, (by show 3 ≤ sizeLine; decide), fun p8 hp8 => ?_⟩
      have s8 := sameUpd (o := .tup [.str "made", .ref p7, .ref T]) hp8
      exact fin ((((((k3.trans k4).trans k5).trans (Kp.same sO)).trans k6).trans (Kp.same s7)).trans (Kp.same s8)) ((F6.same s7).same s8)
    · refine ⟨.str c, rfl, .ref T, rfl, (by show 3 ≤ sizeLine; decide), fun p8 hp8 => ?_⟩
      have s8 := sameUpd (o := .tup [.str "made", .str c, .ref T]) hp8
      exact fin ((k3.trans k4).trans (Kp.same s8)) (F4.same s8)
end
end TRE

set_option Elab.async false
set_option linter.all false
set_option maxRecDepth 100000
set_option maxHeartbeats 8000000
/-! a drawn world -/
namespace TRE
open PySem PySem.Spec PyProof.Rows L2 ND KS KS.La PLC
abbrev lWorld : Stmt := top 38
theorem goneApart : ∀ i ∈ List.range 12, ("gone" : Str) ∉ opt i := by decide +kernel
theorem goneOk : okN "gone" = true ∧ TOk "gone" := by decide +kernel
theorem namesAll {nms : List Str} (hl : nms.length ≤ 12) (h : ∀ i (h : i < nms.length), nms[i] ∈ opt i) : nms.Nodup ∧ (∀ x ∈ nms, okN x = true ∧ TOk x) ∧ ("gone" : Str) ∉ nms := by
  refine ⟨namesNd (n := 0) hl (fun i hi => by rw [Nat.zero_add]; exact h i hi) (by omega), fun x hx => ?_, fun hx => ?_⟩
  · obtain ⟨i, hi, rfl⟩ := List.getElem_of_mem hx
    have := namesOk (by omega : i < 12) (h i hi)
    exact ⟨this.1, this.2.1⟩
  · obtain ⟨i, hi, e⟩ := List.getElem_of_mem hx
    exact goneApart i (List.mem_range.mpr (by omega)) (e ▸ h i hi)
theorem putLen (kvs : List (Key × V)) (k : Key) (v : V) : (putK kvs k v).length ≤ kvs.length + 1 := by
  unfold putK
  split
  · rw [List.length_map]; omega
  · rw [List.length_append]; exact Nat.le_refl _
def spWorld (K : PySem.W.Frag) : Sp := fun vs H Q _ => ∃ (f : Addr) (m : Nat), vs = [.ref f, .int m, .bl false] ∧ Fd H f ∧ 1 ≤ m ∧ m ≤ 11 ∧
  ∀ p d tg kvs L H', SqT K H' p [.ref d, .ref tg] → H d = none → H' d = some (.dK kvs) → RK K H' kvs L → RecOk L → (∀ q ∈ L, q.1 ∈ callsL) → L.length ≤ 12 → Kp f H H' → Fd H' f → Q (.ref p) H'
abbrev nWorld : List Str := ["_law_feed", "_law_many", "_law_has_knots", "_law_names", "_law_recipes", "_law_targets", "_law_k", "_law_name", "_law_near"]
abbrev tW (a : Addr) (m : Nat) (N R G : Addr) (x6 x7 x8 : Option V) : L2.St := [some (.ref a), some (.int m), some (.bl false), some (.ref N), some (.ref R), some (.ref G), x6, x7, x8]
section
variable {P : Program} {w : World} {K : PySem.W.Frag} {mg : Str → Option Value} {base : Heap} {f : Addr} {fd : FuncData}
theorem scWorld : FnScope nWorld ["_law_feed", "_law_many", "_law_has_knots"] (defScope lWorld) := ⟨rfl, rfl, rfl, by decide +kernel, rfl, by decide +kernel, by decide +kernel⟩
theorem okWorld {k : Nat} (F : FunD K "_law_world" "_law_world" (defArgs lWorld) (defBody lWorld) (defScope lWorld) [.bl false] [] f fd) (B : Bn mg) (me : mg "enumerate" = none) (D : Has P w K mg base (k + 1) "_law_draw" ["_law_feed", "_law_many"] spDraw) (Nm : Has P w K mg base (k + 2) "_law_some_names" ["_law_feed", "_law_many"] spNames)
    (Ot : Has P w K mg base (k + 4) "_law_some_outputs" ["_law_feed"] spOutputs) (Md : Has P w K mg base (k + 12) "_law_drawn_made" ["_law_feed", "_law_near", "_law_recipes"] (spMade K)) :
    FnOk P w K mg base CX0 (k + 13) f fd ["_law_feed", "_law_many", "_law_has_knots"] (spWorld K) := by
  obtain ⟨fD, fdD, gD, kD, bD, GD⟩ := D.ex
  obtain ⟨fN, fdN, gN, kN, bN, GN⟩ := Nm.ex
  obtain ⟨fO, fdO, gO, kO, bO, GO⟩ := Ot.ex
  obtain ⟨fM, fdM, gM, kM, bM, GM⟩ := Md.ex
  refine F.ok scWorld (fun vs H Q E h => ?_) (fun cdv A outer s H vs Q E hr h => ?_)
  · obtain ⟨a, m, rfl, _⟩ := h
    rfl
  · obtain ⟨a, m, rfl, hF, m1, m2, q⟩ := h
    have hr1 : Room (k + 1) _ := hr.mono (by omega)
    have hr2 : Room (k + 2) _ := hr.mono (by omega)
    have hr4 : Room (k + 4) _ := hr.mono (by omega)
    have hu1 : (A.deeper (envOfC "_law_world" (defScope lWorld) s.heap.objs.size f cdv)).units + 1 < cLine := by
      have := hr.units
      omega
    refine ⟨_, PSs.nox (C8.pss_cut (ps_par3 (i := 3) (j := 4) (l := 5) (by rfl) scWorld.nd rfl rfl rfl (by decide) (by decide) (by decide) rfl rfl rfl (pa_cons (pe_call GN hr2 (by rfl) gN kN bN .nil pass0 (pa_cons (pv 0) (pa_cons (pv 1) pa_nil))) (pa_cons (pe_dnewK) (pa_cons (pe_dnewK) pa_nil))) (by rfl)) (C8.pss_cut (ps_for PassesOwn.never rfl (pi_enum (by rfl) me (pa_cons (pv 3) pa_nil)) (pg_tup rfl (pgs_cons (pg_name (i := 6) scWorld.nd rfl (.inl rfl)) (pgs_cons (pg_name (i := 7) scWorld.nd rfl (.inl rfl)) pgs_nil)))
        (pss_one (ps_if (PW.pt (pw_or (pt_cmpR op_eq (pv 6) pe_int (nomark _)) (pw_or (PW.pt (pw_and (pt_not (pt_val (pv 2))) (pw_and1 (pt_cmpR op_lt (pv 6) (pe_op op_add pe_int (pe_op op_fdiv (pv 1) pe_int)) (nomark _))))) (pw_or1 (pt_cmpR op_eq (pe_call GD hr1 (by rfl) gD kD bD .nil pass0 (pa_cons (pv 0) (pa_cons (pe_int) pa_nil))) pe_int (nomark _))))))
          (pss_one (ps_dput hu1 (pv 5) (pv 7) (pe_tup (pa_cons (pe_str) (pa_cons (pe_call GO hr4 (by rfl) gO kO bO .nil pass0 (pa_cons (pv 0) pa_nil)) pa_nil))) rfl))
          (pss_cons (ps_set (i := 8) scWorld.nd rfl (.inl rfl) (pe_ifExp (PW.pt (pw_or (pt_val (pv 2)) (pw_or1 (pt_cmpR op_eq (pe_call GD hr1 (by rfl) gD kD bD .nil pass0 (pa_cons (pv 0) (pa_cons (pe_int) pa_nil))) pe_int (nomark _))))) (pe_op op_cat (pv 3) (pe_lst (pa_cons (pe_str) pa_nil))) (pe_slice sl_list (pv 3) po_none (po_some (pv 6))))) (pss_one (ps_dput hu1 (pv 5) (pv 7) (pe_call GM hr (by rfl) gM kM bM .nil pass0 (pa_cons (pv 0) (pa_cons (pv 8) (pa_cons (pv 4) pa_nil)))) rfl)))))) (pss_one (ps_ret (pe_tup (pa_cons (pv 4) (pa_cons (pv 5) pa_nil))))))), ?_⟩
    refine ⟨fun σ' H' => ∃ (N R G : Addr) (nms : List Str), σ' = tW a m N R G none none none ∧ H' N = some (.lst (nms.map V.str)) ∧ H' R = some (.dK []) ∧ H' G = some (.dK []) ∧ H N = none ∧ H R = none ∧ H G = none ∧ R ≠ G ∧ nms.length = m ∧ (∀ i (h : i < nms.length), nms[i] ∈ opt i) ∧ Kp a H H' ∧ Fd H' a, ?_, ?_⟩
    · refine ⟨.ref a, rfl, .int m, rfl, a, m, rfl, by omega, hF, fun N nms H1 nN eN ln hn k1 F1 => ?_⟩
      intro R hR
      have s1 := sameUpd (o := .dK []) hR
      intro G hG
      have s2 := sameUpd (o := .dK []) hG
      have back : ∀ {b : Addr}, H1 b = none → b ≠ a → H b = none := fun {b} hb nb => by
        cases e : H b with
        | none => rfl
        | some o => rw [k1 b o nb e] at hb; cases hb
      have F2 := F1.same s1
      have hG1 : H1 G = none := by
        cases e : H1 G with
        | none => rfl
        | some o => rw [s1 _ _ e] at hG; cases hG
      exact ⟨_, _, _, rfl, N, R, G, nms, rfl, s2 _ _ (s1 _ _ eN), s2 _ _ upd_same, upd_same, nN, back hR (fdNe F1 hR), back hG1 (fdNe F1 hG1), fun z => (by rw [← z, upd_same] at hG; cases hG), ln, hn, (k1.trans (Kp.same s1)).trans (Kp.same s2), F2.same s2⟩
    rintro _ H1 ⟨N, R, G, nms, rfl, eN, eR, eG, nN, nR, nG, nRG, ln, hn, k1, F1⟩
    have Na := fdNe hF nN
    have Ra := fdNe hF nR
    have Ga := fdNe hF nG
    obtain ⟨nnd, nok, ngone⟩ := namesAll (by omega) hn
    refine ⟨fun σ' H' => (∃ x6 x7 x8, σ' = tW a m N R G x6 x7 x8) ∧ ∃ kvs L, H' R = some (.dK kvs) ∧ RK K H' kvs L ∧ RecOk L ∧ (∀ q ∈ L, q.1 ∈ callsL) ∧ L.length ≤ 12 ∧ Kp a H H' ∧ Fd H' a, ?_, ?_⟩
    · refine ⟨.ref N, rfl, N, _, rfl, .inl (.inl eN), ?_⟩
      refine forJ (n := m) (fun i σ' H' => (∃ x6 x7 x8, σ' = tW a m N R G x6 x7 x8) ∧ H' N = some (.lst (nms.map V.str)) ∧ (∃ tk, H' G = some (.dK tk) ∧ tk.length ≤ i) ∧ ∃ kvs L, H' R = some (.dK kvs) ∧ RK K H' kvs L ∧ RecOk L ∧ (∀ q ∈ L, q.1 ∈ callsL) ∧ L.length ≤ i ∧ Kp a H H' ∧ Fd H' a)
        ⟨⟨none, none, none, rfl⟩, eN, ⟨[], eG, Nat.le_refl _⟩, [], [], eR, .nil, ⟨List.nodup_nil, fun p hp => absurd hp (by simp)⟩, fun p hp => absurd hp (by simp), Nat.le_refl _, k1, F1⟩
        (fun i σ' H' lt h => ⟨nms.map V.str, V.str (nms[i]'(by omega)), .inl (.inl h.2.1), by rw [List.getElem?_map, List.getElem?_eq_getElem (by omega)]; rfl⟩) (fun σ' H' h => ⟨nms.map V.str, .inl (.inl h.2.1), by rw [List.length_map]; omega⟩) (fun i σ' H2 x H3 lt h y => ?_) (fun σ' H' h => ?_)
      · obtain ⟨⟨x6, x7, x8, rfl⟩, eN2, ⟨tk, eG2, ltk⟩, kvs, L, eR2, rk, rok, rca, lL, k2, F2⟩ := h
        obtain ⟨T, x, rfl, hT, rfl, y⟩ := y
        have ex := y _ (.inl (.inl eN2))
        have lt2 : i < nms.length := by omega
        rw [List.getElem?_map, List.getElem?_eq_getElem lt2] at ex
        obtain rfl : V.str nms[i] = x := Option.some.inj ex
        have sT := sameUpd (o := .tup [.int (i : Nat), .str nms[i]]) hT
        have eT : upd H2 T (.tup [.int (i : Nat), .str nms[i]]) T = some (.tup [.int (i : Nat), .str nms[i]]) := upd_same
        have F3 := F2.same sT
        have eN3 := sT _ _ eN2
        have eG3 := sT _ _ eG2
        have eR3 := sT _ _ eR2
        have rk3 := rk.ts (TS.same sT)
        have k3 := k2.trans (Kp.same sT)
        generalize upd H2 T (.tup [.int (i : Nat), .str nms[i]]) = H3 at *
        refine ⟨T, _, rfl, .inl (.inl eT), rfl, _, _, rfl, _, _, rfl, rfl, ?_⟩
        -- a target is put in
        have put : ∀ {H4 : Hp} {v : V} {kvs' : List (Key × V)} {L' : List (Str × Tr)} {x8' : Option V}, H4 N = some (.lst (nms.map V.str)) → H4 G = some (.dK tk) → H4 R = some (.dK kvs') → RK K H4 kvs' L' → RecOk L' → (∀ q ∈ L', q.1 ∈ callsL) → L'.length ≤ i + 1 → Kp a H H4 → Fd H4 a →
            ∃ b H5, V.ref G = V.ref b ∧ DPut H4 b (.str nms[i]) v H5 ∧ ((∃ x6 x7 x8, tW a m N R G (some (.int i)) (some (.str nms[i])) x8' = tW a m N R G x6 x7 x8) ∧ H5 N = some (.lst (nms.map V.str)) ∧ (∃ tk, H5 G = some (.dK tk) ∧ tk.length ≤ i + 1) ∧ ∃ kvs L, H5 R = some (.dK kvs) ∧ RK K H5 kvs L ∧ RecOk L ∧ (∀ q ∈ L, q.1 ∈ callsL) ∧ L.length ≤ i + 1 ∧ Kp a H H5 ∧ Fd H5 a) := fun {H4 v kvs' L' x8'} n4 g4 r4 rk4 ok4 ca4 l4 k4 F4 => by
          have ll := putLen tk (Sum.inr nms[i]) v
          refine ⟨G, _, rfl, DPut.k (k := Sum.inr nms[i]) g4 (by rw [sizeLine_eq]; omega), ⟨_, _, _, rfl⟩, ?_, ⟨_, upd_same, by omega⟩, kvs', L', ?_, rk4.ts (tsDict g4), ok4, ca4, l4, fun b o nb hb => ?_, fdOther F4 Ga⟩
          · rw [upd_ne fun z => by rw [z, g4] at n4; cases n4]
            exact n4
          · rw [upd_ne nRG]
            exact r4
          · rw [upd_ne (ne_of_none hb nG)]
            exact k4 _ _ nb hb
        have src : ∀ {H4 : Hp}, Kp a H3 H4 → Fd H4 a → sDPut (tVar 5) (tVar 7) (tTup (tCons (tC (V.str "source")) (tCons (tCall spOutputs [] E0 (tCons (tVar 0) tNil)) tNil))) { nx := fun σ' H' => (∃ x6 x7 x8, σ' = tW a m N R G x6 x7 x8) ∧ H' N = some (.lst (nms.map V.str)) ∧ (∃ tk, H' G = some (.dK tk) ∧ tk.length ≤ i + 1) ∧ ∃ kvs L, H' R = some (.dK kvs) ∧ RK K H' kvs L ∧ RecOk L ∧ (∀ q ∈ L, q.1 ∈ callsL) ∧ L.length ≤ i + 1 ∧ Kp a H H' ∧ Fd H' a, rt := Q } (tW a m N R G (some (.int i)) (some (.str nms[i])) x8) H4 := fun {H4} k4 F4 => by
          refine ⟨.ref a, rfl, a, rfl, F4, fun p os H5 hos hp ep k5 F5 => ⟨(by show 2 ≤ sizeLine; decide), fun U hU => ⟨.ref G, rfl, .str nms[i], rfl, ?_⟩⟩⟩
          have sU := sameUpd (o := .tup [.str "source", .ref p]) hU
          have k6 := (k4.trans k5).trans (Kp.same sU)
          exact put (k6 _ _ Na eN3) (k6 _ _ Ga eG3) (k6 _ _ Ra eR3) (rk3.ts (tsKp F3 k6)) rok rca (by omega) (k3.trans k6) (F5.same sU)
        -- a made target
        have made : ∀ {H4 : Hp} {Nr : Addr} {near : List Str}, Kp a H3 H4 → Fd H4 a → H4 Nr = some (.lst (near.map V.str)) → Nr ≠ a → 1 ≤ near.length → near.length ≤ 12 → near.Nodup → (∀ x ∈ near, okN x = true ∧ TOk x) → sDPut (tVar 5) (tVar 7) (tCall (spMade K) [] E0 (tCons (tVar 0) (tCons (tVar 8) (tCons (tVar 4) tNil)))) { nx := fun σ' H' => (∃ x6 x7 x8, σ' = tW a m N R G x6 x7 x8) ∧ H' N = some (.lst (nms.map V.str)) ∧ (∃ tk, H' G = some (.dK tk) ∧ tk.length ≤ i + 1) ∧ ∃ kvs L, H' R = some (.dK kvs) ∧ RK K H' kvs L ∧ RecOk L ∧ (∀ q ∈ L, q.1 ∈ callsL) ∧ L.length ≤ i + 1 ∧ Kp a H H' ∧ Fd H' a, rt := Q } (tW a m N R G (some (.int i)) (some (.str nms[i])) (some (.ref Nr))) H4 := fun {H4 Nr near} k4 F4 en hna l1 l2 nd nok => by
          refine ⟨.ref a, rfl, .ref Nr, rfl, .ref R, rfl, a, Nr, R, near, kvs, L, rfl, F4, en, hna, l1, l2, nd, nok, k4 _ _ Ra eR3, rk3.ts (tsKp F3 k4), rok, rca, by omega, fun v kvs' L' H5 eR5 rk5 rok5 rca5 lL5 k5 F5 => ⟨.ref G, rfl, .str nms[i], rfl, ?_⟩⟩
          refine put (k5 _ _ Na (fun z => ?_) (k4 _ _ Na eN3)) (k5 _ _ Ga (fun z => nRG z.symm) (k4 _ _ Ga eG3)) eR5 rk5 rok5 rca5 (by omega) (fun b o nb hb => k5 _ _ nb (fun z => ?_) (k4 _ _ nb (k3 _ _ nb hb))) F5
          · rw [z, eR3] at eN3
            cases eN3
          · rw [z, nR] at hb
            cases hb
        have other : ∀ {H4 : Hp}, Kp a H3 H4 → Fd H4 a → 1 ≤ i → tSeq (tAsg (tIf (tOr (tB (tVar 2)) (tTest (tOp rEq (tCall spDraw [] E0 (tCons (tVar 0) (tCons (tC (V.int 5)) tNil))) (tC (V.int 0))))) (tOp rCat (tVar 3) (tLst (tCons (tC (V.str "gone")) tNil))) (tSl (rSlL K) (tVar 3) tNoPart (tPart (tVar 6)))) (gName 8))
            (sDPut (tVar 5) (tVar 7) (tCall (spMade K) [] E0 (tCons (tVar 0) (tCons (tVar 8) (tCons (tVar 4) tNil))))) { nx := fun σ' H' => (∃ x6 x7 x8, σ' = tW a m N R G x6 x7 x8) ∧ H' N = some (.lst (nms.map V.str)) ∧ (∃ tk, H' G = some (.dK tk) ∧ tk.length ≤ i + 1) ∧ ∃ kvs L, H' R = some (.dK kvs) ∧ RK K H' kvs L ∧ RecOk L ∧ (∀ q ∈ L, q.1 ∈ callsL) ∧ L.length ≤ i + 1 ∧ Kp a H H' ∧ Fd H' a, rt := Q } (tW a m N R G (some (.int i)) (some (.str nms[i])) x8) H4 := fun {H4} k4 F4 hi => by
          refine ⟨.bl false, rfl, false, rfl, iteF ⟨.ref a, rfl, a, 5, rfl, F4, by decide, by decide, fun r H5 r0 r1 k5 F5 => ⟨rfl, _, rfl, ite2 (fun _ => ?_) (fun _ => ?_)⟩⟩⟩
          · have k45 := k4.trans k5
            refine ⟨.ref N, rfl, (by show 1 ≤ sizeLine; decide), fun g hg => ?_⟩
            have sg := sameUpd (o := .lst [.str "gone"]) hg
            refine ⟨N, g, _, [.str "gone"], rfl, rfl, sg _ _ (k45 _ _ Na eN3), upd_same, by rw [List.length_map, sizeLine_eq]; show nms.length + 1 ≤ _; omega, fun p6 hp6 => ?_⟩
            have s6 := sameUpd (o := .lst (nms.map V.str ++ [.str "gone"])) hp6
            have F6 := (F5.same sg)
            refine made (near := nms ++ [("gone" : Str)]) ((k45.trans (Kp.same sg)).trans (Kp.same s6)) (F6.same s6) (by rw [List.map_append]; exact upd_same) (fdNe F6 hp6) (by rw [List.length_append]; show 1 ≤ nms.length + 1; omega) (by rw [List.length_append]; show nms.length + 1 ≤ 12; omega) ?_ fun x hx => ?_
            · refine List.nodup_append.mpr ⟨nnd, by simp, fun u hu v hv e => ?_⟩
              rw [List.mem_singleton.mp hv] at e
              exact ngone (e ▸ hu)
            · rcases List.mem_append.mp hx with z | z
              · exact nok x z
              · rw [List.mem_singleton.mp z]
                exact goneOk
          · have k45 := k4.trans k5
            refine ⟨.ref N, rfl, .int i, rfl, (i : Int), rfl, N, _, rfl, .inl (.inl (k45 _ _ Na eN3)), fun p6 hp6 => ?_⟩
            rw [cutTake, ← List.map_take] at *
            have s6 := sameUpd (o := .lst ((nms.take i).map V.str)) hp6
            exact made (near := nms.take i) (k45.trans (Kp.same s6)) (F5.same s6) upd_same (fdNe F5 hp6) (by rw [List.length_take]; omega) (by rw [List.length_take]; omega) (nnd.sublist (List.take_sublist _ _)) fun x hx => nok x (List.mem_of_mem_take hx)
        -- which one
        refine ⟨.int i, rfl, rfl, _, rfl, ite2 (fun e => ?_) (fun e => ?_)⟩
        · exact iteT (src (Kp.refl _ _) F3)
        have hi : 1 ≤ i := by
          have : ¬ i = 0 := fun z => e (by rw [z]; rfl)
          omega
        refine ⟨.bl false, rfl, false, rfl, iteT ⟨.int i, rfl, .int m, rfl, m, 5, rfl, rfl, ⟨by decide, by decide⟩, 1, _, rfl, rfl, i, _, rfl, rfl, _, rfl, ite2 (fun e2 => ?_) (fun e2 => ?_)⟩⟩
        · exact iteT (src (Kp.refl _ _) F3)
        refine ⟨.ref a, rfl, a, 7, rfl, F3, by decide, by decide, fun r H4 r0 r1 k4 F4 => ⟨rfl, _, rfl, ite2 (fun _ => ?_) (fun _ => ?_)⟩⟩
        · exact src k4 F4
        · exact other k4 F4 hi
      · obtain ⟨⟨x6, x7, x8, rfl⟩, eN2, _, kvs, L, eR2, rk, rok, rca, lL, k2, F2⟩ := h
        exact ⟨⟨x6, x7, x8, rfl⟩, kvs, L, eR2, rk, rok, rca, by omega, k2, F2⟩
    rintro _ H2 ⟨⟨x6, x7, x8, rfl⟩, kvs, L, eR2, rk, rok, rca, lL, k2, F2⟩
    refine ⟨.ref R, rfl, .ref G, rfl, (by show 2 ≤ sizeLine; decide), fun p hp => ?_⟩
    have sp := sameUpd (o := .tup [.ref R, .ref G]) hp
    exact q p R G kvs L _ (.inl (.inl upd_same)) nR (sp _ _ eR2) (rk.ts (TS.same sp)) rok rca lL (k2.trans (Kp.same sp)) (F2.same sp)
end
end TRE

set_option Elab.async false
set_option linter.all false
set_option maxRecDepth 100000
set_option maxHeartbeats 4000000
namespace PLC
open PySem PySem.Spec PyProof.Rows L2 ND KS KS.La
abbrev sOrd : Stmt := top 8
abbrev sOrdered : Stmt := top 9
abbrev sRank : Stmt := top 10
abbrev sRankA : Stmt := top 11
def spAW (K : PySem.W.Frag) : Sp := fun vs H Q _ => ∃ v p, vs = [v] ∧ Dp K H v (pcD p) ∧ ∀ r H', Same H H' → Dp K H' r (pcD { p with n := p.n + 1 }) → Q r H'
def spAR (K : PySem.W.Frag) : Sp := fun vs H Q _ => ∃ v u p row, vs = [v, u] ∧ Dp K H v (pcD p) ∧ p.rs.length ≤ 100 ∧ Dp K H u (rowD row) ∧ ∀ r H', Same H H' → Dp K H' r (pcD { p with rs := p.rs ++ [row], n := 0 }) → Q r H'
def beh (p q : Pc) : Bool := if p.c = q.c ∧ p.as = q.as then (if p.rs = q.rs then decide (q.n < p.n) else decide (p.rs.take q.rs.length = q.rs)) else false
def spBeh (K : PySem.W.Frag) : Sp := fun vs H Q _ => ∃ v u p q, vs = [v, u] ∧ Dp K H v (pcD p) ∧ Ok p ∧ Dp K H u (pcD q) ∧ Ok q ∧ ∀ H', Same H H' → Q (.bl (beh p q)) H'
theorem cutAny {K : PySem.W.Frag} {H : Hp} {a : Addr} {xs : List V} {lo hi : Option Int} {Q : VK} (ha : SqT K H a xs) (q : ∀ p H', SqT K H' p (cutV xs lo hi) → Same H H' → Q (.ref p) H') : rSlA K (.ref a) lo hi H Q := by
  refine ⟨a, xs, rfl, ha, fun h => ?_, fun _ p hp => q p _ (.inl (.inl upd_same)) (sameUpd hp)⟩
  refine q a H ?_ (Same.refl H)
  unfold cutV
  rw [h.1, h.2, List.drop_zero, Nat.sub_zero, List.take_length]
  exact ha
theorem cutTake (xs : List V) (j : Nat) : cutV xs none (some (j : Int)) = xs.take j := by
  unfold cutV
  rw [HT.sIx_nat, HT.sIx_none, List.drop_zero, Nat.sub_zero]
  rcases Nat.le_total j xs.length with h | h
  · rw [Nat.min_eq_left h]
  · rw [Nat.min_eq_right h, List.take_of_length_le h, List.take_of_length_le (Nat.le_refl _)]
theorem allTake {K : PySem.W.Frag} {H : Hp} : ∀ (j : Nat) {xs : List V} {ds : List PyData}, DpAll K H xs ds → DpAll K H (xs.take j) (ds.take j)
  | 0, _, _, _ => .nil
  | j + 1, _, _, .nil => by rw [List.take_nil, List.take_nil]; exact .nil
  | j + 1, _, _, .cons h r => .cons h (allTake j r)
section
variable {P : Program} {w : World} {K : PySem.W.Frag} {mg : Str → Option Value} {base : Heap} {f : Addr} {fd : FuncData}
abbrev nAR : List Str := ["place", "answers", "recipe", "arguments", "rows", "_"]
abbrev nBeh : List Str := ["place", "other", "recipe", "arguments", "answers", "count", "other_recipe", "other_arguments", "other_answers", "other_count"]
end
end PLC

set_option Elab.async false
set_option linter.all false
set_option maxRecDepth 100000
set_option maxHeartbeats 4000000
namespace PLC
open PySem PySem.Spec PyProof.Rows L2 ND KS KS.La
instance : DecidableEq Pc := fun a b => if h : a.c = b.c ∧ a.as = b.as ∧ a.rs = b.rs ∧ a.n = b.n then isTrue (by
    cases a
    cases b
    obtain ⟨h1, h2, h3, h4⟩ := h
    simp only at h1 h2 h3 h4
    subst h1 h2 h3 h4
    rfl) else isFalse fun e => h (by rw [e]; exact ⟨rfl, rfl, rfl, rfl⟩)
def ins (l : List Pc) (p : Pc) : List Pc := if p ∈ l then l else l ++ [p]
/-- each once, as they come -/
def dd (ds : List Pc) : List Pc := ds.foldl ins []
theorem dd_snoc (ds : List Pc) (p : Pc) : dd (ds ++ [p]) = ins (dd ds) p := by
  unfold dd
  rw [List.foldl_append]
  rfl
theorem storeIns {e : Pc → PyData} (pe : ∀ p, Pl 8 (e p)) (inj : ∀ {p q : Pc}, e p = e q → p = q) {kvs : List KvD} {l : List Pc} (h : kvs.map (·.1) = l.map e) (p : Pc) (a : Addr) (v : V) : (storeD kvs (e p) a v).map (·.1) = (ins l p).map e := by
  have h1 : (kvs.any fun q => decide (keyD q.1 = keyD (e p))) = decide (p ∈ l) := by
    have h2 : (kvs.any fun q => decide (keyD q.1 = keyD (e p))) = (kvs.map (·.1)).any fun d => decide (keyD d = keyD (e p)) := by rw [List.any_map]; rfl
    rw [h2, h, Bool.eq_iff_iff, List.any_eq_true, decide_eq_true_eq]
    constructor
    · rintro ⟨d, hd, hk⟩
      obtain ⟨q, hq, rfl⟩ := List.mem_map.mp hd
      rw [← inj (keyInj (pe q) (pe p) (of_decide_eq_true hk))]
      exact hq
    · intro hp
      exact ⟨e p, List.mem_map_of_mem hp, decide_eq_true rfl⟩
  unfold storeD ins
  rw [h1]
  by_cases hp : p ∈ l
  · rw [decide_eq_true hp, if_pos rfl, if_pos hp, List.map_map, ← h]
    refine List.map_congr_left fun q _ => ?_
    show (if keyD q.1 = keyD (e p) then (q.1, q.2.1, v) else q).1 = q.1
    split <;> rfl
  · rw [decide_eq_false hp, if_neg (by simp), if_neg hp, List.map_append, List.map_append, h]
    rfl
theorem ndStep {P : Program} {w : World} {K : PySem.W.Frag} {G : Hp} {D a : Addr} {kvs : List KvD} {e : PyData} {v : V} (n : Nd P w K G D kvs) (he : Dp K G (.ref a) e) (pl : Pl 8 e) : Nd P w K (upd G D (ndO P w D ((storeD kvs e a v).map kn))) D (storeD kvs e a v) := by
  refine ⟨upd_same, fun q hq => ?_⟩
  have t : TS G (upd G D (ndO P w D ((storeD kvs e a v).map kn))) := TS.put n.o
  rcases storeKeys hq with ⟨p, hp, e1, e2⟩ | ⟨e1, e2⟩
  · obtain ⟨p1, p2⟩ := n.k p hp
    rw [← e1, ← e2]
    exact ⟨p1, dpTS t p1 _ p2⟩
  · rw [e1, e2]
    exact ⟨pl, dpTS t pl _ he⟩
section
variable {P : Program} {w : World} {K : PySem.W.Frag} {mg : Str → Option Value} {base : Heap} {f : Addr} {fd : FuncData}
def spRA (K : PySem.W.Frag) : Sp := fun vs H Q _ => ∃ v r, vs = [v] ∧ Dp K H v (rowD r) ∧ r.length ≤ 100 ∧ (∀ z, some z ∈ r → z.length ≤ 2000) ∧ ∀ y H', Same H H' → Dp K H' y (rankRow r) → Q y H'
abbrev nRA : List Str := ["answers", "answer"]
theorem scRA : FnScope nRA ["answers"] (defScope sRankA) := ⟨rfl, rfl, rfl, by decide +kernel, rfl, by decide +kernel, by decide +kernel⟩
theorem okRA {k : Nat} (F : FnP K "_rank_of_answers" sRankA f fd) (B : Bn mg) : FnOk P w K mg base CX0 (k + 1) f fd ["answers"] (spRA K) := by
  refine F.ok scRA (fun vs H Q E h => ?_) (fun cdv A outer s H vs Q E hr h => ?_)
  · obtain ⟨v, r, rfl, _⟩ := h
    rfl
  · obtain ⟨v, r, rfl, hd, hl, hz, q⟩ := h
    refine ⟨_, PSs.nox (pss_one (ps_ret (pe_callTy call_tuple_of (by rfl) B.tuple (by decide +kernel) (pa_cons (pe_lc (own := [("answer", 1)]) (g := gName 1) rfl scRA.nd (pi_tup (pv 0)) (blkOk_by (N := nRA) (sc := defScope sRankA) (by decide +kernel))
      (fun _ _ _ _ _ => pg_name (i := 1) scRA.nd rfl (.inl rfl) (hf := .inr rfl)) (fun _ _ _ _ _ => pts_nil) (fun _ _ _ _ _ => pe_ifExp (pt_cmpR op_isN (pv 1) pe_non (nomark _)) pe_str (pe_op op_add_str pe_str (pv 1)))) pa_nil)))), ?_⟩
    cases hd with
    | @tup b xs _ hs ha =>
      refine ⟨.ref b, rfl, b, rfl, ⟨_, hs⟩, fun D hD => ?_⟩
      refine lcMapN (n := 1) aRank hs ha (fun d hd => ?_) (by rw [List.length_map]; omega) hD (fun v => rfl) (fun v d H1 hd s1 hv R hR => ?_) (fun H1 ys s1 e1 hys => ?_)
      · obtain ⟨a, _, rfl⟩ := List.mem_map.mp hd
        rw [aRank_eq]
        exact plRankA a
      · obtain ⟨a, ha, rfl⟩ := List.mem_map.mp hd
        rw [aRank_eq] at hR
        cases a with
        | none =>
          cases hv
          exact ⟨.non, rfl, rfl, _, rfl, iteT (hR _ _ (Same.refl _) (.str _))⟩
        | some z =>
          cases hv
          have lz := hz z ha
          exact ⟨.str z, rfl, rfl, _, rfl, iteF ⟨.str z, rfl, ".", z, rfl, rfl, by rw [sizeLine_eq]; show 1 + z.length ≤ _; omega, hR _ _ (Same.refl _) (.str (dot z))⟩⟩
      · refine ⟨D, ys, rfl, .inl ⟨.inl (.inl e1), fun T hT => ?_⟩⟩
        have s2 := sameUpd (o := .tup ys) hT
        refine q _ _ (s1.trans s2) (.tup (.inl (.inl upd_same)) ?_)
        have e2 : (r.map ansD).map aRank = r.map rankA := by
          rw [List.map_map]
          exact List.map_congr_left fun a _ => aRank_eq a
        rw [← e2]
        exact dpAllSame s2 _ _ hys
def isPc (d : PyData) : Prop := ∃ p, Ok p ∧ d = pcD p
abbrev nRank : List Str := ["place", "recipe", "arguments", "answers", "count", "row"]
theorem scRank : FnScope nRank ["place"] (defScope sRank) := ⟨rfl, rfl, rfl, by decide +kernel, rfl, by decide +kernel, by decide +kernel⟩
theorem okRank {k : Nat} (F : FnP K "_rank" sRank f fd) (B : Bn mg) (Ra : Has P w K mg base (k + 1) "_rank_of_answers" ["answers"] (spRA K)) : FnOk P w K mg base CX0 (k + 2) f fd ["place"] (spKey K isPc rankD) := by
  obtain ⟨fR, fdR, gR, kR, bR, GR⟩ := Ra.ex
  refine F.ok scRank (fun vs H Q E h => ?_) (fun cdv A outer s H vs Q E hr h => ?_)
  · obtain ⟨v, d, rfl, _⟩ := h
    rfl
  · obtain ⟨v, d, rfl, hd, ⟨p, hp, rfl⟩, q⟩ := h
    obtain ⟨a, va, vr, rfl, hs, ha, hv⟩ := pcAt hd
    obtain ⟨b, xs, rfl, hb, hx⟩ := rowsAt hv
    refine ⟨_, PSs.nox (pss_cons (ps_asg (pv 0) (pg_tup rfl (pgs_cons (pg_name (i := 1) scRank.nd rfl (.inl rfl)) (pgs_cons (pg_name (i := 2) scRank.nd rfl (.inl rfl)) (pgs_cons (pg_name (i := 3) scRank.nd rfl (.inl rfl)) (pgs_cons (pg_name (i := 4) scRank.nd rfl (.inl rfl)) pgs_nil)))))) (pss_one (ps_ret (pe_tup (pa_cons (pv 1) (pa_cons (pv 2) (pa_cons (pe_callTy call_tuple_of (by rfl) B.tuple (by decide +kernel) (pa_cons (pe_lc (own := [("row", 5)]) (g := gName 5) rfl scRank.nd (pi_tup (pv 3)) (blkOk_by (N := nRank) (sc := defScope sRank) (by decide +kernel))
        (fun _ _ _ _ _ => pg_name (i := 5) scRank.nd rfl (.inl rfl) (hf := .inr rfl)) (fun _ _ _ _ _ => pts_nil) (fun _ _ _ _ _ => pe_call GR hr (by rfl) gR kR bR .nil pass0 (pa_cons (pv 5) pa_nil))) pa_nil)) (pa_cons (pv 4) pa_nil)))))))), ?_⟩
    refine ⟨.ref a, rfl, a, _, rfl, hs, rfl, _, _, rfl, _, _, rfl, _, _, rfl, _, _, rfl, rfl, ?_⟩
    refine ⟨.str p.c, rfl, va, rfl, .ref b, rfl, b, rfl, ⟨_, hb⟩, fun D hD => ?_⟩
    refine lcMapN (n := 2) rRank hb hx (fun d hd => ?_) (by rw [List.length_map]; have := hp.rl; omega) hD (fun v => rfl) (fun v d H1 hd s1 hv R hR => ?_) (fun H1 ys s1 e1 hys => ?_)
    · obtain ⟨r, _, rfl⟩ := List.mem_map.mp hd
      rw [rRank_eq]
      exact .tup fun d hd => by obtain ⟨a, _, rfl⟩ := List.mem_map.mp hd; exact plRankA a
    · obtain ⟨r, hr2, rfl⟩ := List.mem_map.mp hd
      rw [rRank_eq] at hR
      exact ⟨v, rfl, v, r, rfl, hv, by have := (hp.rs r hr2).1; omega, fun z hz => by have := ((hp.rs r hr2).2 z hz).2; omega, fun y H2 s2 hy => hR y H2 s2 hy⟩
    · refine ⟨D, ys, rfl, .inl ⟨.inl (.inl e1), fun T hT => ?_⟩⟩
      have s2 := sameUpd (o := .tup ys) hT
      refine ⟨.int p.n, rfl, (by show 4 ≤ sizeLine; decide), fun U hU => ?_⟩
      have s3 := sameUpd (o := .tup [.str p.c, va, .ref T, .int p.n]) hU
      have sA := (s1.trans s2).trans s3
      refine q _ _ sA ?_
      rw [rankD_eq]
      have e2 : (p.rs.map rowD).map rRank = p.rs.map rankRow := by
        rw [List.map_map]
        exact List.map_congr_left fun a _ => rRank_eq a
      rw [e2] at hys
      exact .tup (.inl (.inl upd_same)) (.cons (.str _) (.cons (dpSame sA _ _ ha) (.cons (.tup (sameTup s3 (.inl (.inl upd_same))) (dpAllSame (s2.trans s3) _ _ hys)) (.cons (.int _) .nil))))
/-! ### in order -/
def Ordered (K : PySem.W.Frag) (H : Hp) (ds : List Pc) (Q : VK) : Prop := ∀ r ys H', Same H H' → H r = none → H' r = some (.lst ys) → DpAll K H' ys ((srt (dd ds)).map pcD) → Q (.ref r) H'
def spOrd (K : PySem.W.Frag) (tup : Bool) : Sp := fun vs H Q _ => ∃ l xs ds, vs = [.ref l] ∧ (if tup = true then SqT K H l xs else SqL K H l xs) ∧ DpAll K H xs (ds.map pcD) ∧ (∀ p ∈ ds, Ok p) ∧ ds.length ≤ 1000 ∧ Ordered K H ds Q
/-- {place: True for place in places} -/
theorem ndcJ {J : It} {xs : List V} {ds : List Pc} {σ : L2.St} {H1 : Hp} {D : Addr} {Qd : Hp → Prop} {j : Nat} (hx : DpAll K H1 xs (ds.map pcD)) (hn : ds.length ≤ 1000) (hD : H1 D = none) (hw : ∀ v, wipe ((wipe σ [j]).set j (some v)) [j] = wipe σ [j]) (hj : ∀ v, ((wipe σ [j]).set j (some v))[j]? = some (some v))
    (hgo : ∀ i H, i < xs.length → Same H1 H → J.go i H) (hst : ∀ H, Same H1 H → J.stop xs.length H) (hy : ∀ i H x H', Same H1 H → J.yld i H x H' → H' = H ∧ xs[i]? = some x)
    (hd : ∀ H kvs, Same H1 H → Nd P w K H D kvs → kvs.map (·.1) = (dd ds).map pcD → Qd H) :
    ∃ W : Nat → Nat → Hp → Prop, (∃ m, W 0 m (upd H1 D (ndO P w D []))) ∧ ∀ i m T, W i m T → (J.stop i T ∧ Qd T) ∨ (J.go i T ∧ ∃ Nx : Hp → Prop, (∀ T', Nx T' → ∃ m', m' < m ∧ W (i + 1) m' T') ∧ ∀ x T', J.yld i T x T' → turnN P w K D (gName j) (tVar j) (tC (.bl true)) [j] σ x Nx T') := by
  have hl := dpLen hx
  rw [List.length_map] at hl
  refine ⟨fun i m T => m = xs.length - i ∧ i ≤ xs.length ∧ Same H1 T ∧ ∃ kvs, Nd P w K T D kvs ∧ kvs.map (·.1) = (dd (ds.take i)).map pcD ∧ kvs.length ≤ i, ⟨_, rfl, Nat.zero_le _, sameUpd hD, [], ⟨upd_same, fun q hq => absurd hq (by simp)⟩, rfl, Nat.le_refl _⟩, fun i m T hW => ?_⟩
  obtain ⟨rfl, hi, s1, kvs, n, ek, lk⟩ := hW
  rcases Nat.lt_or_ge i xs.length with lt | ge
  · refine .inr ⟨hgo i T lt s1, fun T' => Same H1 T' ∧ ∃ kvs, Nd P w K T' D kvs ∧ kvs.map (·.1) = (dd (ds.take (i + 1))).map pcD ∧ kvs.length ≤ i + 1, fun T' h => ⟨xs.length - (i + 1), by omega, rfl, lt, h⟩, fun x T' y => ?_⟩
    obtain ⟨rfl, ex⟩ := hy i T x T' s1 y
    have lt2 : i < ds.length := by omega
    have e2 : (ds.map pcD)[i]? = some (pcD ds[i]) := by rw [List.getElem?_map, List.getElem?_eq_getElem lt2]; rfl
    obtain ⟨v, h1, h2⟩ := dpAt hx e2
    obtain rfl : v = x := Option.some.inj (h1.symm.trans ex)
    have h3 := dpSame s1 _ _ h2
    obtain ⟨a, _, _, rfl, _⟩ := pcAt h3
    refine ⟨hw _, .ref a, hj _, kvs, a, pcD ds[i], rfl, n, h3, (plPc _).up (by omega), by rw [sizeLine_eq]; omega, fun b o hb => ?_, _, ndStep n h3 ((plPc _).up (by omega)), ?_, ?_⟩
    · rw [upd_ne (ne_of_none hb hD)]
      exact s1 _ _ hb
    · rw [List.take_succ_eq_append_getElem lt2, dd_snoc]
      exact storeIns (fun p => (plPc p).up (by omega)) pcD_inj ek _ _ _
    · have := storeLen kvs (pcD ds[i]) a (.bl true)
      omega
  · have e : i = xs.length := by omega
    subst e
    refine .inl ⟨hst T s1, hd T kvs s1 n ?_⟩
    rw [List.take_of_length_le (by omega)] at ek
    exact ek
end
end PLC

set_option Elab.async false
set_option linter.all false
set_option maxRecDepth 100000
set_option maxHeartbeats 4000000
/-! sorted(xs, key=f), xs a list of data -/
namespace ND
open PySem PySem.Spec PyProof.Rows L2
def sortL (k : PyData → PyData) (bs : List Bd) : List Bd := bs.mergeSort (PySem.W.dataLe false fun b : Bd => k b.2)
def rSortLK (K : PySem.W.Frag) (f : Addr) (p : PyData → Prop) (k : PyData → PyData) : List V → List V → Hp → VK → Prop := fun vs zs H Q => ∃ (a : Addr) (bs : List Bd), vs = [.ref a] ∧ zs = [.ref f] ∧ SqL K H a (bs.map (·.1)) ∧ (∀ b ∈ bs, Dp K H b.1 b.2) ∧ (∀ b ∈ bs, Pl 8 b.2) ∧ (∀ b ∈ bs, p b.2) ∧
  (∀ b ∈ bs, Pl 8 (k b.2)) ∧ PySem.W.AllAlike (bs.map fun b => k b.2) ∧ PySem.W.Sortable (bs.map fun b => k b.2) ∧ ∀ l, H l = none → Q (.ref l) (upd H l (.lst ((sortL k bs).map (·.1))))
section
variable {X : Cx}
theorem cr_sortedLK {n : Nat} {f : Addr} {fd : FuncData} {x : Str} {p : PyData → Prop} {k : PyData → PyData} (F : FnOk X.prog X.w X.K X.mg X.base CX0 n f fd [x] (spKey X.K p k)) (hr : Room (n + 2) X.A) (hb : Binds X.K fd [x] []) (hu : X.A.units + 12 < cLine) :
    CallRK X (.builtin "sorted") [Str.ofString "key"] (rSortLK X.K f p k) := by
  intro pins s σ H vs zs us ws Q I r rz h
  obtain ⟨d, bs, rfl, rfl, hs, hd, hpl, hp, pk, al, so, q⟩ := h
  obtain rfl := Vals.ref1 r
  obtain rfl := Vals.ref1 rz
  obtain ⟨its, hv, hl, hz⟩ := I.list hs
  have hil : its.length = bs.length := by
    have := hv.length
    rw [List.length_map] at this
    exact this.symm
  have hz2 : bs.length ≤ sizeLine := by rw [List.length_map] at hz; exact hz
  show wpAny _ _ (call (.builtin "sorted") [.ref d] [(Str.ofString "key", .ref f)]) _ _ s
  refine PyProof.Rows.call_function_entry_kw PyProof.Rows.kind_sorted PyProof.Rows.plain_sorted PyProof.Rows.entry_sorted (PyProof.Rows.ksk_s1 _ _) ?_
  unfold Builtin.«sorted»
  refine wpAny_bind (m := checkCount "sorted" 1 1 _) (wpAny_pure ?_)
  refine wpAny_bind (collect_list (vs := its) hl.isList ?_ (by rw [hil]; exact hz2))
  generalize hh' : (s.heap.push (seqObj "list" #[] 0)).update s.heap.objs.size (Obj.mapSeq (· ++ its.toArray)) = h'
  have hk : ∀ b o, s.heap.get? b = some o → h'.get? b = some o := fun b o e => by
    rw [← hh', Heap.get?_update_ne]
    · exact Heap.get?_push_of_some _ e
    · exact fun z => Nat.lt_irrefl _ (by have := Heap.lt_size e; rw [z] at this; exact this)
  refine wpAny_bind (wpAny_newList ?_ (by rw [hil]; exact hz2))
  obtain ⟨L, hL⟩ : ∃ L, L = h'.objs.size := ⟨_, rfl⟩
  have hoL : (h'.push (seqObj "list" its.toArray 0)).get? L = some (seqObj "list" its.toArray 0) := by
    rw [hL]
    exact Heap.get?_push_size _ rfl
  have hLn : s.heap.get? L = none := by
    cases e : s.heap.get? L with
    | none => rfl
    | some o =>
      have := Heap.lt_size (hk _ _ e)
      exact absurd this (by rw [hL]; exact Nat.lt_irrefl _)
  have old : ∀ b ∈ frs X.stack, ∃ o, s.heap.get? b = some o := fun b hb => by
    obtain ⟨_, o, ho, _⟩ := I.stack.mem hb
    exact ⟨o, ho⟩
  have keepL : ∀ b o, s.heap.get? b = some o → (h'.push (seqObj "list" its.toArray 0)).get? b = some o := fun b o e => Heap.get?_push_of_some _ (hk b o e)
  show wpAny _ _ _ _ _ { s with heap := h'.push (seqObj "list" its.toArray 0) }
  rw [← hL]
  refine wpAny_bind (wpAny_holding (PyProof.Rows.wpAny_call_entry_kw PyProof.Rows.slot_list_sort ⟨_, hoL, rfl⟩ PyProof.Rows.entry_list_sort ?_ (PyProof.Rows.ksk_l1 _ _)))
  show wpAny (model X.prog X.w) X.A.in1.in1 (Builtin.«list.sort» ⟨[.ref L], [(Str.ofString "key", .ref f)]⟩) _ _ _
  rw [PyProof.Rows.ksk_t1]
  refine keyTree (fs := frs X.stack) (kz := bs.map fun b => k b.2) (s := { s with heap := h'.push (seqObj "list" its.toArray 0) }) I.bare hoL (fun z => ?_) (fun b hb => ?_) (by rw [List.length_map]; exact hil.symm) (by rw [hil]; exact hz2) al so (fun y hy => ?_) (fun y hy => ?_)
    (fun i v y hv1 hy1 s0 os bare sk => ?_) fun s1 out c os bare sk ho ko => ?_
  · obtain ⟨o, ho⟩ := old _ z
    rw [hLn] at ho
    cases ho
  · obtain ⟨o, ho⟩ := old _ hb
    exact Heap.lt_size (keepL _ _ ho)
  · obtain ⟨z, hz, rfl⟩ := List.mem_map.mp hy
    exact ⟨8, pk z hz⟩
  · obtain ⟨z, hz, rfl⟩ := List.mem_map.mp hy
    have := plDepth (pk z hz)
    show X.A.units + 1 + 1 + _ < _
    omega
  · obtain ⟨z, e1, rv⟩ := valsAt hv i v hv1
    rw [List.getElem?_map, e1] at hy1
    obtain rfl := Option.some.inj hy1
    have hm := List.mem_of_getElem? e1
    have I0 : Inv X pins σ H s0 := invAt I os bare fun b o e => sk b o (fun y => by rw [y, hLn] at e; cases e) (keepL b o e)
    exact keyCall F hr.in1.in1 hb I0 os (hd z hm) (hpl z hm) (hp z hm) (pk z hm) rv
  · refine ⟨.none, rfl, wpAny_pure ⟨_, rfl, ?_⟩⟩
    have sk2 : Sk (frs X.stack) s.heap s1.heap := fun b o e => sk b o (fun y => by rw [y, hLn] at e; cases e) (keepL b o e)
    have I1 : Inv X pins σ H s1 := invAt I os bare sk2
    have each := PySem.W.keyedOut_each (bs := bs) (R := fun u (b : Bd) => RelV b.1 u) (fun b => k b.2) ko (valsEach hv)
    have hv2 := eachVals each
    have HLn : H L = none := by
      cases e : H L with
      | none => rfl
      | some o =>
        obtain ⟨u, hu⟩ := HOk_get I.hok e
        rw [hLn] at hu
        cases hu
    refine ⟨.ref L, upd H L (.lst ((sortL k bs).map (·.1))), layAt I os bare sk2 hLn HLn ⟨?_, out, c, hv2, ho⟩, rfl, q L HLn⟩
    rw [List.length_map]
    unfold sortL
    rw [List.length_mergeSort]
    exact hz2
end
end ND

set_option Elab.async false
set_option linter.all false
set_option maxRecDepth 100000
set_option maxHeartbeats 4000000
namespace PLC
open PySem PySem.Spec PyProof.Rows L2 ND KS KS.La
theorem ddSub {ds : List Pc} {p : Pc} (hp : p ∈ dd ds) : p ∈ ds := by
  have all : ∀ (l acc : List Pc) (p : Pc), p ∈ l.foldl ins acc → p ∈ acc ∨ p ∈ l := by
    intro l
    induction l with
    | nil => intro acc p h; exact .inl h
    | cons x l ih =>
      intro acc p h
      rcases ih _ p h with h | h
      · unfold ins at h
        split at h
        · exact .inl h
        · rcases List.mem_append.mp h with z | z
          · exact .inl z
          · rw [List.mem_singleton.mp z]; exact .inr List.mem_cons_self
      · exact .inr (List.mem_cons_of_mem _ h)
  rcases all ds [] p hp with z | z
  · exact absurd z (by simp)
  · exact z
theorem ddLen (ds : List Pc) : (dd ds).length ≤ ds.length := by
  have all : ∀ (l acc : List Pc), (l.foldl ins acc).length ≤ acc.length + l.length := by
    intro l
    induction l with
    | nil => intro acc; exact Nat.le_refl _
    | cons x l ih =>
      intro acc
      have h1 := ih (ins acc x)
      have h2 : (ins acc x).length ≤ acc.length + 1 := by
        unfold ins
        split
        · omega
        · simp
      show (l.foldl ins (ins acc x)).length ≤ acc.length + (l.length + 1)
      omega
  have := all ds []
  rw [List.length_nil, Nat.zero_add] at this
  exact this
theorem ddFew : ∀ {ds : List Pc}, ds.length < 2 → dd ds = ds
  | [], _ => rfl
  | [p], _ => rfl
  | _ :: _ :: _, h => absurd h (by simp)
/-! ### is None anywhere among the answers? -/
def ansV : Option Str → V
  | none => .non
  | some z => .str z
theorem ansVs {K : PySem.W.Frag} {H : Hp} : ∀ {r : List (Option Str)} {xs : List V}, DpAll K H xs (r.map ansD) → xs = r.map ansV
  | [], _, .nil => rfl
  | none :: r, _, .cons h t => by cases h; rw [ansVs (r := r) t]; rfl
  | some z :: r, _, .cons h t => by cases h; rw [ansVs (r := r) t]; rfl
def hasN (r : List (Option Str)) : Bool := r.any fun a => a.isNone
theorem inNone (r : List (Option Str)) : inV .non (r.map ansV) = hasN r := by
  unfold inV hasN
  rw [List.any_map]
  congr 1
  funext a
  cases a <;> rfl
theorem flatAns (r : List (Option Str)) : (r.map ansV).all flatV = true := by
  rw [List.all_map, List.all_eq_true]
  intro a _
  cases a <;> rfl
def nones (ds : List Pc) : List Bool := ds.flatMap fun p => p.rs.map hasN
theorem nonesNone {ds : List Pc} (h : (nones ds).any id = false) : ∀ p ∈ ds, noN p := by
  intro p hp r hr hn
  rw [List.any_eq_false] at h
  refine h (hasN r) (List.mem_flatMap.mpr ⟨p, hp, List.mem_map_of_mem hr⟩) ?_
  exact List.any_eq_true.mpr ⟨none, hn, rfl⟩
theorem nonesLen {ds : List Pc} (h : ∀ p ∈ ds, p.rs.length ≤ 100) : (nones ds).length ≤ 100 * ds.length := by
  induction ds with
  | nil => exact Nat.zero_le _
  | cons p ds ih =>
    have := h p List.mem_cons_self
    have h2 := ih fun q hq => h q (List.mem_cons_of_mem _ hq)
    show ((p.rs.map hasN) ++ nones ds).length ≤ _
    rw [List.length_append, List.length_map, List.length_cons]
    omega
theorem nonesTake {ds : List Pc} {i : Nat} (lt : i < ds.length) : nones (ds.take (i + 1)) = nones (ds.take i) ++ ds[i].rs.map hasN := by
  unfold nones
  rw [List.take_succ_eq_append_getElem lt, List.flatMap_append]
  simp
theorem bdOf {K : PySem.W.Frag} {H : Hp} : ∀ {xs : List V} {ds : List PyData}, DpAll K H xs ds → ∃ bs : List Bd, bs.map (·.1) = xs ∧ bs.map (·.2) = ds ∧ ∀ b ∈ bs, Dp K H b.1 b.2
  | _, _, .nil => ⟨[], rfl, rfl, fun b hb => absurd hb (by simp)⟩
  | x :: xs, d :: ds, .cons h r => by
    obtain ⟨bs, e1, e2, e3⟩ := bdOf r
    refine ⟨(x, d) :: bs, by rw [List.map_cons, e1], by rw [List.map_cons, e2], fun b hb => ?_⟩
    rcases List.mem_cons.mp hb with rfl | hb
    · exact h
    · exact e3 b hb
theorem bdAll {K : PySem.W.Frag} {H : Hp} : ∀ {bs : List Bd}, (∀ b ∈ bs, Dp K H b.1 b.2) → DpAll K H (bs.map (·.1)) (bs.map (·.2))
  | [], _ => .nil
  | b :: bs, h => .cons (h b List.mem_cons_self) (bdAll fun c hc => h c (List.mem_cons_of_mem _ hc))
abbrev nOdd : List Str := ["places", "_", "answers", "row"]
theorem scOdd : FnScope nOdd ["places"] (defScope sOrdered) := ⟨rfl, rfl, rfl, by decide +kernel, rfl, by decide +kernel, by decide +kernel⟩
abbrev nOrd : List Str := ["places", "place"]
theorem scOrd : FnScope nOrd ["places"] (defScope sOrd) := ⟨rfl, rfl, rfl, by decide +kernel, rfl, by decide +kernel, by decide +kernel⟩
def spOdd (K : PySem.W.Frag) : Sp := fun vs H Q _ => ∃ l xs ds, vs = [.ref l] ∧ SqL K H l xs ∧ DpAll K H xs (ds.map pcD) ∧ (∀ p ∈ ds, Ok p) ∧ ds.length ≤ 1000 ∧ ∀ r ys H', Same H H' → H r = none → H' r = some (.lst ys) → DpAll K H' ys ((srt ds).map pcD) → Q (.ref r) H'
section
variable {P : Program} {w : World} {K : PySem.W.Frag} {mg : Str → Option Value} {base : Heap} {f : Addr} {fd : FuncData}
theorem okOdd {k fr : Nat} {fdr : FuncData} (F : FnP K "ordered" sOrdered f fd) (B : Bn mg) (my : mg "any" = none) (ms : mg "sorted" = none) (gR : mg "_rank" = some (.ref fr)) (bR : Binds K fdr ["place"] []) (GR : FnOk P w K mg base CX0 (k + 1) fr fdr ["place"] (spKey K isPc rankD)) : FnOk P w K mg base CX0 (k + 4) f fd ["places"] (spOdd K) := by
  refine F.ok scOdd (fun vs H Q E h => ?_) (fun cdv A outer s H vs Q E hr h => ?_)
  · obtain ⟨l, xs, ds, rfl, _⟩ := h
    rfl
  · obtain ⟨l, xs, ds, rfl, hL, hx, ok, hn, q⟩ := h
    have hu := hr.units
    have hl := dpLen hx
    rw [List.length_map] at hl
    refine ⟨_, PSs.nox (pss_cons (ps_if (pt_val (pe_callB (cr_any rfl) (by rfl) my (by decide +kernel) (pa_cons (pe_lc2 (own := [("_", 1), ("answers", 2), ("row", 3)]) (vs1 := [3]) (g := gTup K 4 (gCons (gName 1) (gCons (gName 1) (gCons (gName 2) (gCons (gName 1) gNil))))) (g1 := gName 3) (wi1 := iTup K (tVar 2)) rfl scOdd.nd (pi_list (pv 0)) (blkOk_by (N := nOdd) (sc := defScope sOrdered) (by decide +kernel)) (by decide)
        (fun _ _ _ _ _ => pg_tup rfl (pgs_cons (pg_name (i := 1) scOdd.nd rfl (.inl rfl) (hf := .inr rfl)) (pgs_cons (pg_name (i := 1) scOdd.nd rfl (.inl rfl) (hf := .inr rfl)) (pgs_cons (pg_name (i := 2) scOdd.nd rfl (.inl rfl) (hf := .inr rfl)) (pgs_cons (pg_name (i := 1) scOdd.nd rfl (.inl rfl) (hf := .inr rfl)) pgs_nil))))) (fun _ _ _ _ _ => pts_nil)
        (fun _ _ _ _ _ => pi_tup (pv 2)) (fun _ _ _ _ _ => pg_name (i := 3) scOdd.nd rfl (.inl rfl) (hf := .inr rfl)) (fun _ _ _ _ _ => pts_nil) (fun _ _ _ _ _ => pe_cmpR (r := rIn K false) op_in_seq pe_non (pv 3) (by rfl))) pa_nil)))
        (pss_one (ps_ret (pe_callBK (cr_sortedLK GR hr bR (Nat.lt_of_le_of_lt (Nat.add_le_add_left (by decide) _) hu)) (by rfl) ms (by decide +kernel) (pa_cons (pv 0) pa_nil) (pk_cons (pe_glob (v := .ref fr) (by rfl) gR rfl) pk_nil)))) pss_nil) (pss_one (ps_ret (pe_callB (cr_sortedDt (Nat.lt_of_le_of_lt (Nat.add_le_add_left (by decide) _) hu)) (by rfl) ms (by decide +kernel) (pa_cons (pv 0) pa_nil))))), ?_⟩
    refine ⟨.ref l, rfl, l, rfl, ⟨_, hL⟩, fun D hD => ?_⟩
    refine ⟨fun i m T => m = xs.length - i ∧ i ≤ xs.length ∧ At H D ((nones (ds.take i)).map V.bl) T, ⟨_, rfl, Nat.zero_le _, sameUpd hD, upd_same⟩, fun i m T hW => ?_⟩
    obtain ⟨rfl, hi, hat⟩ := hW
    rcases Nat.lt_or_ge i xs.length with lt | ge
    · refine .inr ⟨⟨xs, xs[i], hat.1.seq hL, List.getElem?_eq_getElem lt⟩, At H D ((nones (ds.take (i + 1))).map V.bl), fun T' h => ⟨xs.length - (i + 1), by omega, rfl, lt, h⟩, fun x T' y => ?_⟩
      obtain ⟨rfl, y⟩ := y
      have ex := y xs (hat.1.seq hL)
      have lt2 : i < ds.length := by omega
      have e2 : (ds.map pcD)[i]? = some (pcD ds[i]) := by rw [List.getElem?_map, List.getElem?_eq_getElem lt2]; rfl
      obtain ⟨v, h1, h2⟩ := dpAt hx e2
      obtain rfl : v = x := Option.some.inj (h1.symm.trans ex)
      have okp := ok _ (List.getElem_mem lt2)
      have lrs := okp.rl
      obtain ⟨a, va, vr, rfl, hs, ha, hv⟩ := pcAt h2
      obtain ⟨b, rows, rfl, hb, hrw⟩ := rowsAt hv
      have hlr := dpLen hrw
      rw [List.length_map] at hlr
      refine ⟨a, _, rfl, sameTup hat.1 hs, rfl, _, _, rfl, _, _, rfl, _, _, rfl, _, _, rfl, rfl, ?_⟩
      refine ⟨rfl, ?_⟩
      unfold tYes
      dsimp only
      rw [if_pos rfl]
      refine ⟨.ref b, rfl, b, rfl, ⟨_, sameTup hat.1 hb⟩, ?_⟩
      have lacc : (nones (ds.take i)).length ≤ 100 * 1000 := by
        have := nonesLen (ds := ds.take i) fun p hp => (ok p (List.mem_of_mem_take hp)).rl
        rw [List.length_take] at this
        omega
      refine ⟨fun j n T2 => n = rows.length - j ∧ j ≤ rows.length ∧ At H D ((nones (ds.take i) ++ (ds[i].rs.take j).map hasN).map V.bl) T2, ⟨_, rfl, Nat.zero_le _, ?_⟩, fun j n T2 hW => ?_⟩
      · rw [List.take_zero, List.map_nil, List.append_nil]
        exact hat
      · obtain ⟨rfl, hj, hat2⟩ := hW
        rcases Nat.lt_or_ge j rows.length with ltj | gej
        · have ltj2 : j < ds[i].rs.length := by omega
          refine .inr ⟨⟨rows, rows[j], sameTup hat2.1 hb, List.getElem?_eq_getElem ltj⟩, At H D ((nones (ds.take i) ++ (ds[i].rs.take (j + 1)).map hasN).map V.bl), fun T3 h => ⟨rows.length - (j + 1), by omega, rfl, ltj, h⟩, fun x T3 y2 => ?_⟩
          obtain ⟨rfl, y2⟩ := y2
          have ex2 := y2 rows (sameTup hat2.1 hb)
          have e3 : (ds[i].rs.map rowD)[j]? = some (rowD ds[i].rs[j]) := by rw [List.getElem?_map, List.getElem?_eq_getElem ltj2]; rfl
          obtain ⟨v2, g1, g2⟩ := dpAt hrw e3
          obtain rfl : v2 = x := Option.some.inj (g1.symm.trans ex2)
          obtain ⟨t, ys, rfl, ht, hys⟩ : ∃ t ys, v2 = .ref t ∧ SqT K H t ys ∧ DpAll K H ys (ds[i].rs[j].map ansD) := by
            cases g2 with
            | tup a b => exact ⟨_, _, rfl, a, b⟩
          have ey := ansVs hys
          refine ⟨rfl, ?_⟩
          rw [if_pos rfl]
          refine ⟨.ref t, rfl, t, ys, rfl, .inr (sameTup hat2.1 ht), rfl, by rw [ey]; exact flatAns _, ?_⟩
          rw [if_neg Bool.false_ne_true, ey, inNone]
          obtain ⟨e4, e5⟩ := hat2.put (ys := (nones (ds.take i) ++ (ds[i].rs.take (j + 1)).map hasN).map V.bl) hD (Same.refl _)
          refine ⟨_, e4, ?_, ?_⟩
          · rw [List.length_map, List.length_append, List.length_map, List.length_take, sizeLine_eq]
            omega
          · have e6 : (nones (ds.take i) ++ (ds[i].rs.take (j + 1)).map hasN).map V.bl = (nones (ds.take i) ++ (ds[i].rs.take j).map hasN).map V.bl ++ [V.bl (hasN ds[i].rs[j])] := by
              rw [List.take_succ_eq_append_getElem ltj2]
              simp only [List.map_append, List.append_assoc]
              rfl
            rw [← e6]
            exact e5
        · have e : j = ds[i].rs.length := by omega
          subst e
          rw [List.take_length] at hat2
          refine .inl ⟨⟨rows, sameTup hat2.1 hb, by omega⟩, ?_⟩
          rw [nonesTake lt2]
          exact hat2
    · have e : i = xs.length := by omega
      subst e
      rw [List.take_of_length_le (by omega)] at hat
      refine .inl ⟨⟨xs, hat.1.seq hL, Nat.le_refl _⟩, D, nones ds, rfl, .inl (.inl hat.2), _, rfl, ?_⟩
      have s1 := hat.1
      have hx1 := dpAllSame s1 _ _ hx
      obtain ⟨bs, b1, b2, b3⟩ := bdOf hx1
      have memb : ∀ b ∈ bs, ∃ p ∈ ds, b.2 = pcD p := fun b hb => by
        have : b.2 ∈ ds.map pcD := by rw [← b2]; exact List.mem_map_of_mem hb
        obtain ⟨p, hp, e⟩ := List.mem_map.mp this
        exact ⟨p, hp, e.symm⟩
      have fin : ∀ (cs : List Bd) (r : Addr), (∀ b ∈ cs, b ∈ bs) → cs.map (·.2) = (srt ds).map pcD → T r = none → Q (.ref r) (upd T r (.lst (cs.map (·.1)))) := fun cs r hc e4 hr => by
        have s2 := sameUpd (o := .lst (cs.map (·.1))) hr
        refine q r _ _ (s1.trans s2) ?_ upd_same ?_
        · cases e : H r with
          | none => rfl
          | some o => rw [s1 _ _ e] at hr; cases hr
        · rw [← e4]
          exact bdAll fun b hb => dpSame s2 _ _ (b3 b (hc b hb))
      cases hany : (nones ds).any id with
      | true =>
        refine iteT ⟨.ref l, rfl, l, bs, rfl, rfl, b1 ▸ s1.seq hL, b3, fun b hb => ?_, fun b hb => ?_, fun b hb => ?_, ?_, ?_, fun r hr => fin (sortL rankD bs) r (fun b hb => List.mem_mergeSort.mp hb) ?_ hr⟩
        · obtain ⟨p, _, e⟩ := memb b hb
          rw [e]
          exact (plPc p).up (by omega)
        · obtain ⟨p, hp, e⟩ := memb b hb
          exact ⟨p, ok p hp, e⟩
        · obtain ⟨p, _, e⟩ := memb b hb
          rw [e, rankD_eq]
          exact (plRank p).up (by omega)
        · have er : (bs.map fun b => rankD b.2) = ds.map rankP := by
            have e1 : (bs.map fun b => rankD b.2) = (bs.map (·.2)).map rankD := by rw [List.map_map]; rfl
            rw [e1, b2, List.map_map]
            exact List.map_congr_left fun p _ => rankD_eq p
          rw [er]
          exact PySem.W.AllAlike.of alRankP
        · have er : (bs.map fun b => rankD b.2) = ds.map rankP := by
            have e1 : (bs.map fun b => rankD b.2) = (bs.map (·.2)).map rankD := by rw [List.map_map]; rfl
            rw [e1, b2, List.map_map]
            exact List.map_congr_left fun p _ => rankD_eq p
          rw [er]
          exact PySem.W.Sortable.tuples fun p => ⟨_, _, rfl⟩
        · exact sortOf (g := fun b : Bd => b.2) (r := rankD) (k := rankP) b2 rankD_eq leP
      | false =>
        have free := nonesNone hany
        refine iteF ⟨.ref l, rfl, l, bs, rfl, b1 ▸ s1.seq hL, b3, ?_, ?_, fun b hb => ?_, fun r hr => fin (sortB bs) r (fun b hb => List.mem_mergeSort.mp hb) ?_ hr⟩
        · intro x hx2 y hy2
          rw [b2] at hx2 hy2
          obtain ⟨p, hp, rfl⟩ := List.mem_map.mp hx2
          obtain ⟨p2, hp2, rfl⟩ := List.mem_map.mp hy2
          exact alN (free p hp) (free p2 hp2)
        · rw [b2]
          exact PySem.W.Sortable.tuples fun p => ⟨_, _, rfl⟩
        · obtain ⟨p, _, e⟩ := memb b hb
          rw [e]
          have := plDepth (plPc p)
          omega
        · exact sortOfN (g := fun b : Bd => b.2) b2 free
theorem okOrdL {k : Nat} (F : FnP K "in_order" sOrd f fd) (B : Bn mg) (O : Has P w K mg base (k + 4) "ordered" ["places"] (spOdd K)) : FnOk P w K mg base CX0 (k + 5) f fd ["places"] (spOrd K false) := by
  obtain ⟨fO, fdO, gO, kO, bO, GO⟩ := O.ex
  refine F.ok scOrd (fun vs H Q E h => ?_) (fun cdv A outer s H vs Q E hr h => ?_)
  · obtain ⟨l, xs, ds, rfl, _⟩ := h
    rfl
  · obtain ⟨l, xs, ds, rfl, hL, hx, ok, hn, q⟩ := h
    have hL : SqL K H l xs := hL
    have hu := hr.units
    have hl := dpLen hx
    rw [List.length_map] at hl
    refine ⟨_, PSs.nox (pss_one (ps_ret (pe_call GO hr (by rfl) gO kO bO .nil pass0 (pa_cons (pe_ifExp (pt_cmpR op_lt (pe_callB call_len_seq (by rfl) B.len PySem.boot_len (pa_cons (pv 0) pa_nil)) pe_int (nomark _)) (pe_callTy call_list_of (by rfl) B.list (by decide +kernel) (pa_cons (pv 0) pa_nil))
        (pe_callTy (call_listN rfl) (by rfl) B.list (by decide +kernel) (pa_cons (pe_ndc (own := [("place", 1)]) (g := gName 1) (Nat.lt_of_le_of_lt (Nat.add_le_add_left (by decide) _) hu) rfl scOrd.nd (pi_list (pv 0)) (blkOk_by (N := nOrd) (sc := defScope sOrd) (by decide +kernel))
          (fun _ _ _ _ _ => pg_name (i := 1) scOrd.nd rfl (.inl rfl) (hf := .inr rfl)) (fun _ _ _ _ _ => pv 1) (fun _ _ _ _ _ => pe_bl)) pa_nil))) pa_nil)))), ?_⟩
    have fin : ∀ (r : Addr) (ys : List V) (H1 : Hp), Same H H1 → SqL K H1 r ys → DpAll K H1 ys ((dd ds).map pcD) → spOdd K [.ref r] H1 Q (fun _ _ _ => False) := fun r ys H1 s1 hr hy => by
      refine ⟨r, ys, dd ds, rfl, hr, hy, fun p hp => ok p (ddSub hp), Nat.le_trans (ddLen ds) hn, fun t zs H2 s2 ht h2 hz => q t zs H2 (s1.trans s2) ?_ h2 hz⟩
      cases e : H t with
      | none => rfl
      | some o => rw [s1 _ _ e] at ht; cases ht
    refine ⟨.ref l, rfl, l, xs, rfl, .inl hL, _, _, rfl, rfl, _, rfl, ite2 (fun e => ?_) (fun e => ?_)⟩
    · have few : ds.length < 2 := by have := of_decide_eq_true e; omega
      refine ⟨.ref l, rfl, l, xs, rfl, .inl hL, fun D hD => ?_⟩
      have s1 := sameUpd (o := .lst xs) hD
      exact fin D xs _ s1 (.inl (.inl upd_same)) (by rw [ddFew few]; exact dpAllSame s1 _ _ hx)
    · refine ⟨.ref l, rfl, l, rfl, ⟨_, hL⟩, fun D hD => ?_⟩
      refine ndcJ hx hn hD (fun v => rfl) (fun v => rfl) (fun i T lt s1 => ⟨xs, xs[i], s1.seq hL, List.getElem?_eq_getElem lt⟩) (fun T s1 => ⟨xs, s1.seq hL, Nat.le_refl _⟩) (fun i T x T' s1 y => ⟨y.1, y.2 xs (s1.seq hL)⟩) (fun T kvs s1 n ek => ?_)
      refine ⟨D, kvs, rfl, n, fun r hr => ?_⟩
      have s2 := sameUpd (o := .lst (kvs.map fun q => .ref q.2.1)) hr
      refine fin r _ _ (s1.trans s2) (.inl (.inl upd_same)) ?_
      rw [← ek]
      generalize upd T r (.lst (kvs.map fun q => .ref q.2.1)) = H2 at s2 ⊢
      have all : ∀ m : List KvD, (∀ q ∈ m, q ∈ kvs) → DpAll K H2 (m.map fun q => .ref q.2.1) (m.map (·.1)) := by
        intro m
        induction m with
        | nil => intro _; exact .nil
        | cons q m ih =>
          intro hm
          exact .cons (dpSame s2 _ _ (n.k q (hm q List.mem_cons_self)).2) (ih fun c hc => hm c (List.mem_cons_of_mem _ hc))
      exact all _ fun _ h => h
theorem okOrdT {k : Nat} (F : FnP K "in_order" sOrd f fd) (B : Bn mg) (O : Has P w K mg base (k + 4) "ordered" ["places"] (spOdd K)) : FnOk P w K mg base CX0 (k + 5) f fd ["places"] (spOrd K true) := by
  obtain ⟨fO, fdO, gO, kO, bO, GO⟩ := O.ex
  refine F.ok scOrd (fun vs H Q E h => ?_) (fun cdv A outer s H vs Q E hr h => ?_)
  · obtain ⟨l, xs, ds, rfl, _⟩ := h
    rfl
  · obtain ⟨l, xs, ds, rfl, hL, hx, ok, hn, q⟩ := h
    have hL : SqT K H l xs := hL
    have hu := hr.units
    have hl := dpLen hx
    rw [List.length_map] at hl
    refine ⟨_, PSs.nox (pss_one (ps_ret (pe_call GO hr (by rfl) gO kO bO .nil pass0 (pa_cons (pe_ifExp (pt_cmpR op_lt (pe_callB call_len_seq (by rfl) B.len PySem.boot_len (pa_cons (pv 0) pa_nil)) pe_int (nomark _)) (pe_callTy call_list_of (by rfl) B.list (by decide +kernel) (pa_cons (pv 0) pa_nil))
        (pe_callTy (call_listN rfl) (by rfl) B.list (by decide +kernel) (pa_cons (pe_ndc (own := [("place", 1)]) (g := gName 1) (Nat.lt_of_le_of_lt (Nat.add_le_add_left (by decide) _) hu) rfl scOrd.nd (pi_tup (pv 0)) (blkOk_by (N := nOrd) (sc := defScope sOrd) (by decide +kernel))
          (fun _ _ _ _ _ => pg_name (i := 1) scOrd.nd rfl (.inl rfl) (hf := .inr rfl)) (fun _ _ _ _ _ => pv 1) (fun _ _ _ _ _ => pe_bl)) pa_nil))) pa_nil)))), ?_⟩
    have fin : ∀ (r : Addr) (ys : List V) (H1 : Hp), Same H H1 → SqL K H1 r ys → DpAll K H1 ys ((dd ds).map pcD) → spOdd K [.ref r] H1 Q (fun _ _ _ => False) := fun r ys H1 s1 hr hy => by
      refine ⟨r, ys, dd ds, rfl, hr, hy, fun p hp => ok p (ddSub hp), Nat.le_trans (ddLen ds) hn, fun t zs H2 s2 ht h2 hz => q t zs H2 (s1.trans s2) ?_ h2 hz⟩
      cases e : H t with
      | none => rfl
      | some o => rw [s1 _ _ e] at ht; cases ht
    refine ⟨.ref l, rfl, l, xs, rfl, .inr hL, _, _, rfl, rfl, _, rfl, ite2 (fun e => ?_) (fun e => ?_)⟩
    · have few : ds.length < 2 := by have := of_decide_eq_true e; omega
      refine ⟨.ref l, rfl, l, xs, rfl, .inr hL, fun D hD => ?_⟩
      have s1 := sameUpd (o := .lst xs) hD
      exact fin D xs _ s1 (.inl (.inl upd_same)) (by rw [ddFew few]; exact dpAllSame s1 _ _ hx)
    · refine ⟨.ref l, rfl, l, rfl, ⟨_, hL⟩, fun D hD => ?_⟩
      refine ndcJ hx hn hD (fun v => rfl) (fun v => rfl) (fun i T lt s1 => ⟨xs, xs[i], sameTup s1 hL, List.getElem?_eq_getElem lt⟩) (fun T s1 => ⟨xs, sameTup s1 hL, Nat.le_refl _⟩) (fun i T x T' s1 y => ⟨y.1, y.2 xs (sameTup s1 hL)⟩) (fun T kvs s1 n ek => ?_)
      refine ⟨D, kvs, rfl, n, fun r hr => ?_⟩
      have s2 := sameUpd (o := .lst (kvs.map fun q => .ref q.2.1)) hr
      refine fin r _ _ (s1.trans s2) (.inl (.inl upd_same)) ?_
      rw [← ek]
      generalize upd T r (.lst (kvs.map fun q => .ref q.2.1)) = H2 at s2 ⊢
      have all : ∀ m : List KvD, (∀ q ∈ m, q ∈ kvs) → DpAll K H2 (m.map fun q => .ref q.2.1) (m.map (·.1)) := by
        intro m
        induction m with
        | nil => intro _; exact .nil
        | cons q m ih =>
          intro hm
          exact .cons (dpSame s2 _ _ (n.k q (hm q List.mem_cons_self)).2) (ih fun c hc => hm c (List.mem_cons_of_mem _ hc))
      exact all _ fun _ h => h
end
end PLC

set_option Elab.async false
set_option linter.all false
set_option maxRecDepth 100000
set_option maxHeartbeats 4000000
namespace PLC
open PySem PySem.Spec PyProof.Rows L2 ND KS KS.La
abbrev lOrdered : Stmt := top 41
def lcScope : Stmt → Scope
  | .Assign _ (.ListComp _ _ s _) _ => s
  | _ => default
def forBody : Stmt → List Stmt
  | .For _ _ b _ _ => b
  | _ => []
/-- the scope of the rows' comprehension -/
def scRows : Scope := lcScope ((forBody ((defBody lOrdered).getD 1 (.Pass ⟨0, 0, 0, 0⟩))).getD 0 (.Pass ⟨0, 0, 0, 0⟩))
def aLk : PyData → PyData
  | .none => .tuple [.int 0, .str ""]
  | d => .tuple [.int 1, d]
def rLk : PyData → PyData
  | .tuple xs => .tuple (xs.map aLk)
  | d => d
theorem aLk_eq (a : Option Str) : aLk (ansD a) = lkA a := by cases a <;> rfl
theorem rLk_eq (r : List (Option Str)) : rLk (rowD r) = lkRow r := by
  show PyData.tuple ((r.map ansD).map aLk) = .tuple (r.map lkA)
  rw [List.map_map]
  congr 1
  exact List.map_congr_left fun a _ => aLk_eq a
theorem storeVals {kvs : List KvD} {e : PyData} {a : Addr} {v : V} {q : KvD} (h : q ∈ storeD kvs e a v) : q ∈ kvs ∨ (keyD q.1 = keyD e ∧ q.2.2 = v) := by
  unfold storeD at h
  split at h
  · obtain ⟨p, hp, rfl⟩ := List.mem_map.mp h
    by_cases hk : keyD p.1 = keyD e
    · rw [if_pos hk]
      exact .inr ⟨hk, rfl⟩
    · rw [if_neg hk]
      exact .inl hp
  · rcases List.mem_append.mp h with z | z
    · exact .inl z
    · rw [List.mem_singleton.mp z]
      exact .inr ⟨rfl, rfl⟩
/-- the value that stands at the key of a place -/
theorem valAt {K : PySem.W.Frag} {H : Hp} {kvs : List KvD} (hv : ∀ q ∈ kvs, ∃ p, q.1 = lkP p ∧ Dp K H q.2.2 (pcD p)) {p : Pc} (hm : ∃ q ∈ kvs, q.1 = lkP p) : ∃ v, valN (kvs.map kn) (keyD (lkP p)) = some v ∧ Dp K H v (pcD p) := by
  unfold valN
  induction kvs with
  | nil => obtain ⟨q, hq, _⟩ := hm; exact absurd hq (by simp)
  | cons c kvs ih =>
    rw [List.map_cons, List.find?_cons]
    by_cases hk : keyD c.1 = keyD (lkP p)
    · have e : decide ((kn c).1 = keyD (lkP p)) = true := decide_eq_true hk
      rw [e]
      obtain ⟨p', e1, e2⟩ := hv c List.mem_cons_self
      rw [e1] at hk
      rw [← lkP_inj (keyInj (plLk p') (plLk p) hk)]
      exact ⟨c.2.2, rfl, e2⟩
    · have e : decide ((kn c).1 = keyD (lkP p)) = false := decide_eq_false hk
      rw [e]
      refine ih (fun q hq => hv q (List.mem_cons_of_mem _ hq)) ?_
      obtain ⟨q, hq, eq⟩ := hm
      rcases List.mem_cons.mp hq with z | z
      · exact absurd (by rw [← z, eq]) hk
      · exact ⟨q, z, eq⟩
def rTup (K : PySem.W.Frag) : List V → Hp → VK → Prop := fun xs H Q => ∃ p ys, xs = [V.ref p] ∧ ((SqL K H p ys ∧ ∀ (l : Addr), H l = none → Q (V.ref l) (upd H l (HO.tup ys))) ∨ SqT K H p ys ∧ Q (V.ref p) H)
section
variable {P : Program} {w : World} {K : PySem.W.Frag} {mg : Str → Option Value} {base : Heap} {f : Addr} {fd : FuncData}
abbrev nLO : List Str := ["_law_places", "_law_found", "_law_spot", "_law_rows", "_law_row", "_law_one"]
theorem scLO : FnScope nLO ["_law_places"] (defScope lOrdered) := ⟨rfl, rfl, rfl, by decide +kernel, rfl, by decide +kernel, by decide +kernel⟩
theorem okLO {k : Nat} (F : FnP K "_law_ordered" lOrdered f fd) (B : Bn mg) (ms : mg "sorted" = none) : FnOk P w K mg base CX0 (k + 1) f fd ["_law_places"] (spOrd K false) := by
  refine F.ok scLO (fun vs H Q E h => ?_) (fun cdv A outer s H vs Q E hr h => ?_)
  · obtain ⟨l, xs, ds, rfl, _⟩ := h
    rfl
  · obtain ⟨l, xs, ds, rfl, hL, hx, ok, hn, q⟩ := h
    have hL : SqL K H l xs := hL
    have hu := hr.units
    have hl := dpLen hx
    rw [List.length_map] at hl
    refine ⟨_, PSs.nox (pss_cons (ps_set (i := 1) scLO.nd rfl (.inr rfl) pe_dnewN) (C8.pss_cut (ps_for PassesOwn.never rfl (pi_list (pv 0)) (pg_name (i := 2) scLO.nd rfl (.inl rfl))
        (C8.pss_cut (ps_setLc (i := 3) (own := [("_law_row", 4)]) (g := gName 4) (by rfl) scLO.nd rfl rfl (sw_true rfl rfl (by decide +kernel) (by decide +kernel)) (pi_tup (pe_ix ix_tup (pv 2) pe_int (fun _ _ => rfl))) (blkOk_by (N := nLO) (sc := defScope lOrdered) (by decide +kernel))
            (fun _ _ _ _ _ => pg_name (i := 4) scLO.nd rfl (.inl rfl) (hf := .inr rfl)) (fun _ _ _ _ _ => pts_nil)
            (fun _ _ _ _ _ => pe_callTy (r := rTup K) (T := "tuple") call_tuple_of (by rfl) B.tuple (by decide +kernel) (pa_cons (pe_lc (own := [("_law_one", 5)]) (g := gName 5) (wi := iTup K (tVar 4)) rfl scLO.nd (pi_tup (pv 4)) (blkOk_by (N := nLO) (sc := scRows) (by decide +kernel))
              (fun _ _ _ _ _ => pg_name (i := 5) scLO.nd rfl (.inl rfl) (hf := .inr rfl)) (fun _ _ _ _ _ => pts_nil)
              (fun _ _ _ _ _ => pe_ifExp (pt_cmpR op_isN (pv 5) pe_non (nomark _)) (pe_tup (pa_cons (pe_int) (pa_cons (pe_str) pa_nil))) (pe_tup (pa_cons (pe_int) (pa_cons (pv 5) pa_nil))))) pa_nil))) (pss_one (ps_asg (pv 2) (pg_sub (pv 1) (pe_tup (pa_cons (pe_ix ix_tup (pv 2) pe_int (fun _ _ => rfl)) (pa_cons (pe_ix ix_tup (pv 2) pe_int (fun _ _ => rfl)) (pa_cons (pe_callTy call_tuple_of (by rfl) B.tuple (by decide +kernel) (pa_cons (pv 3) pa_nil)) (pa_cons (pe_ix ix_tup (pv 2) pe_int (fun _ _ => rfl)) pa_nil))))) (set_nd (Nat.lt_of_le_of_lt (Nat.add_le_add_left (by decide) _) hu))))))) (pss_one (ps_ret (pe_lc (own := [("_law_one", 5)]) (g := gName 5) rfl scLO.nd (pi_list (pe_callB (cr_sortedDt (Nat.lt_of_le_of_lt (Nat.add_le_add_left (by decide) _) hu)) (by rfl) ms (by decide +kernel) (pa_cons (pe_callTy (call_listN rfl) (by rfl) B.list (by decide +kernel) (pa_cons (pv 1) pa_nil)) pa_nil))) (blkOk_by (N := nLO) (sc := defScope lOrdered) (by decide +kernel))
        (fun _ _ _ _ _ => pg_name (i := 5) scLO.nd rfl (.inl rfl) (hf := .inr rfl)) (fun _ _ _ _ _ => pts_nil) (fun _ _ _ _ _ => pe_ix (r := rIxN P w K) (ix_nd (Nat.lt_of_le_of_lt (Nat.add_le_add_left (by decide) _) hu)) (pv 1) (pv 5) (fun _ _ => rfl))))))), ?_⟩
    refine fun D hD => ?_
    refine ⟨fun σ' H' => ∃ x2 x3 kvs, σ' = [some (.ref l), some (.ref D), x2, x3, none, none] ∧ Same H H' ∧ Nd P w K H' D kvs ∧ kvs.map (·.1) = (dd ds).map lkP ∧ (∀ q ∈ kvs, ∃ p, q.1 = lkP p ∧ Dp K H' q.2.2 (pcD p)), ?_, ?_⟩
    · refine ⟨.ref l, rfl, l, rfl, ⟨_, (sameUpd hD).seq hL⟩, ?_⟩
      refine forJ (n := xs.length) (fun i σ' H' => ∃ x2 x3 kvs, σ' = [some (.ref l), some (.ref D), x2, x3, none, none] ∧ Same H H' ∧ Nd P w K H' D kvs ∧ kvs.map (·.1) = (dd (ds.take i)).map lkP ∧ kvs.length ≤ i ∧ (∀ q ∈ kvs, ∃ p, q.1 = lkP p ∧ Dp K H' q.2.2 (pcD p)))
        ⟨none, none, [], rfl, sameUpd hD, ⟨upd_same, fun q hq => absurd hq (by simp)⟩, rfl, Nat.le_refl _, fun q hq => absurd hq (by simp)⟩
        (fun i σ' H' lt h => ⟨xs, xs[i], h.choose_spec.choose_spec.choose_spec.2.1.seq hL, List.getElem?_eq_getElem lt⟩) (fun σ' H' h => ⟨xs, h.choose_spec.choose_spec.choose_spec.2.1.seq hL, Nat.le_refl _⟩) (fun i σ' H1 x H2 lt h y => ?_) (fun σ' H' h => ?_)
      · obtain ⟨rfl, y⟩ := y
        obtain ⟨x2, x3, kvs, rfl, s1, n, ek, lk, hv⟩ := h
        have lt2 : i < ds.length := by omega
        have e2 : (ds.map pcD)[i]? = some (pcD ds[i]) := by rw [List.getElem?_map, List.getElem?_eq_getElem lt2]; rfl
        obtain ⟨v, h1, h2⟩ := dpAt hx e2
        obtain rfl : v = x := Option.some.inj (h1.symm.trans (y xs (s1.seq hL)))
        have hok := ok _ (List.getElem_mem lt2)
        have h3 := dpSame s1 _ _ h2
        generalize hp : ds[i] = p at *
        obtain ⟨a, va, vr, rfl, hs, ha, hvr⟩ := pcAt h3
        obtain ⟨b, ys, rfl, hb, hys⟩ := rowsAt hvr
        refine ⟨fun σ' H' => ∃ R zs, σ' = [some (.ref l), some (.ref D), some (.ref a), some (.ref R), none, none] ∧ Same H2 H' ∧ H' R = some (.lst zs) ∧ DpAll K H' zs (p.rs.map lkRow), ?_, ?_⟩
        · refine ⟨.ref a, rfl, a, _, 2, .ref b, rfl, rfl, hs, atI_nat (j := 2) rfl, b, rfl, ⟨_, hb⟩, fun R hR => ?_⟩
          refine lcMapN (n := 2) rLk hb hys (fun d hd => ?_) (by rw [List.length_map]; have := hok.rl; omega) hR (fun v => rfl) (fun v d H3 hd s3 hv3 R' hR' => ?_) (fun H3 zs s3 e3 hzs => ?_)
          · obtain ⟨r, _, rfl⟩ := List.mem_map.mp hd
            rw [rLk_eq]
            exact .tup fun d hd => by obtain ⟨a, _, rfl⟩ := List.mem_map.mp hd; exact plLkA a
          · obtain ⟨r, hr2, rfl⟩ := List.mem_map.mp hd
            rw [rLk_eq] at hR'
            cases hv3 with
            | @tup b2 us _ hs2 ha2 =>
              refine ⟨.ref b2, rfl, b2, rfl, ⟨_, hs2⟩, fun D2 hD2 => ?_⟩
              refine lcMapN (n := 1) aLk hs2 ha2 (fun d hd => ?_) (by rw [List.length_map]; have := (hok.rs r hr2).1; omega) hD2 (fun v => rfl) (fun v d H4 hd s4 hv4 R4 hR4 => ?_) (fun H4 ws s4 e4 hws => ?_)
              · obtain ⟨c, _, rfl⟩ := List.mem_map.mp hd
                rw [aLk_eq]
                exact plLkA c
              · obtain ⟨c, _, rfl⟩ := List.mem_map.mp hd
                rw [aLk_eq] at hR4
                cases c with
                | none =>
                  cases hv4
                  exact ⟨.non, rfl, rfl, _, rfl, iteT ⟨(by show 2 ≤ sizeLine; decide), fun p hp => hR4 _ _ (sameUpd hp) (.tup (.inl (.inl upd_same)) (.cons (.int _) (.cons (.str _) .nil)))⟩⟩
                | some z =>
                  cases hv4
                  exact ⟨.str z, rfl, rfl, _, rfl, iteF ⟨.str z, rfl, (by show 2 ≤ sizeLine; decide), fun p hp => hR4 _ _ (sameUpd hp) (.tup (.inl (.inl upd_same)) (.cons (.int _) (.cons (.str z) .nil)))⟩⟩
              · refine ⟨D2, ws, rfl, .inl ⟨.inl (.inl e4), fun T hT => ?_⟩⟩
                have s5 := sameUpd (o := .tup ws) hT
                refine hR' _ _ (s4.trans s5) (.tup (.inl (.inl upd_same)) ?_)
                have e5 : (r.map ansD).map aLk = r.map lkA := by
                  rw [List.map_map]
                  exact List.map_congr_left fun c _ => aLk_eq c
                rw [← e5]
                exact dpAllSame s5 _ _ hws
          · refine ⟨R, zs, rfl, s3, e3, ?_⟩
            have e5 : (p.rs.map rowD).map rLk = p.rs.map lkRow := by
              rw [List.map_map]
              exact List.map_congr_left fun c _ => rLk_eq c
            rw [← e5]
            exact hzs
        rintro _ H3 ⟨R, zs, rfl, s3, eR, hzs⟩
        have hs3 := sameTup s3 hs
        refine ⟨.ref a, rfl, .ref D, rfl, .ref a, rfl, a, _, 0, .str p.c, rfl, rfl, hs3, atI_nat (j := 0) rfl, .ref a, rfl, a, _, 1, va, rfl, rfl, hs3, atI_nat (j := 1) rfl, .ref R, rfl, R, zs, rfl, .inl ⟨.inl (.inl eR), fun T hT => ?_⟩⟩
        have s4 := sameUpd (o := .tup zs) hT
        refine ⟨.ref a, rfl, a, _, 3, .int p.n, rfl, rfl, sameTup s4 hs3, atI_nat (j := 3) rfl, (by show 4 ≤ sizeLine; decide), fun U hU => ?_⟩
        have s5 := sameUpd (o := .tup [.str p.c, va, .ref T, .int p.n]) hU
        have sA := (s3.trans s4).trans s5
        have dk : Dp K (upd (upd H3 T (.tup zs)) U (.tup [.str p.c, va, .ref T, .int p.n])) (.ref U) (lkP p) := .tup (.inl (.inl upd_same)) (.cons (.str _) (.cons (dpSame sA _ _ ha) (.cons (.tup (sameTup s5 (.inl (.inl upd_same))) (dpAllSame (s4.trans s5) _ _ hzs)) (.cons (.int _) .nil))))
        have n2 : Nd P w K (upd (upd H3 T (.tup zs)) U (.tup [.str p.c, va, .ref T, .int p.n])) D kvs := ⟨sA _ _ n.o, fun q hq => ⟨(n.k q hq).1, dpSame sA _ _ (n.k q hq).2⟩⟩
        have da := dpSame sA _ _ h3
        have hv2 : ∀ q ∈ kvs, ∃ p', q.1 = lkP p' ∧ Dp K (upd (upd H3 T (.tup zs)) U (.tup [.str p.c, va, .ref T, .int p.n])) q.2.2 (pcD p') := fun q hq => by
          obtain ⟨p', e1, e2⟩ := hv q hq
          exact ⟨p', e1, dpSame sA _ _ e2⟩
        have sB := s1.trans sA
        generalize upd (upd H3 T (.tup zs)) U (.tup [.str p.c, va, .ref T, .int p.n]) = H5 at *
        refine ⟨D, U, lkP p, kvs, rfl, rfl, n2, dk, (plLk p).up (by omega), by rw [sizeLine_eq]; omega, ?_⟩
        have keys : (storeD kvs (lkP p) U (.ref a)).map (·.1) = (dd (ds.take (i + 1))).map lkP := by
          rw [List.take_succ_eq_append_getElem lt2, dd_snoc, hp]
          exact storeIns (fun p => (plLk p).up (by omega)) lkP_inj ek _ _ _
        refine ⟨_, _, _, rfl, fun b o hb => ?_, ndStep n2 dk ((plLk p).up (by omega)), keys, ?_, fun q hq => ?_⟩
        · rw [upd_ne (ne_of_none hb hD)]
          exact sB _ _ hb
        · have := storeLen kvs (lkP p) U (.ref a)
          omega
        · have t : TS H5 (upd H5 D (ndO P w D ((storeD kvs (lkP p) U (.ref a)).map kn))) := TS.put n2.o
          rcases storeVals hq with z | ⟨z1, z2⟩
          · obtain ⟨p', e1, e2⟩ := hv2 q z
            exact ⟨p', e1, dpTS t (plPc p') _ e2⟩
          · have hm : q.1 ∈ (dd (ds.take (i + 1))).map lkP := by rw [← keys]; exact List.mem_map_of_mem hq
            obtain ⟨p', _, e1⟩ := List.mem_map.mp hm
            rw [← e1] at z1
            obtain rfl := lkP_inj (keyInj (plLk p') (plLk p) z1)
            exact ⟨p', e1.symm, by rw [z2]; exact dpTS t (plPc p') _ da⟩
      · obtain ⟨x2, x3, kvs, rfl, s1, n, ek, lk, hv⟩ := h
        rw [List.take_of_length_le (by omega)] at ek
        exact ⟨x2, x3, kvs, rfl, s1, n, ek, hv⟩
    rintro _ H1 ⟨x2, x3, kvs, rfl, s1, n, ek, hv⟩
    obtain ⟨bs, hbs⟩ : ∃ bs : List Bd, bs = kvs.map fun q => (.ref q.2.1, q.1) := ⟨_, rfl⟩
    have b1 : bs.map (·.1) = kvs.map fun q => V.ref q.2.1 := by rw [hbs, List.map_map]; rfl
    have b2 : bs.map (·.2) = (dd ds).map lkP := by rw [← ek, hbs, List.map_map]; rfl
    have bd : ∀ {H' : Hp}, Same H1 H' → ∀ b ∈ bs, Dp K H' b.1 b.2 := fun s b hb => by
      rw [hbs] at hb
      obtain ⟨q, hq, rfl⟩ := List.mem_map.mp hb
      exact dpSame s _ _ (n.k q hq).2
    have hmem : ∀ b ∈ bs, ∃ q ∈ kvs, (V.ref q.2.1, q.1) = b := fun b hb => by
      rw [hbs] at hb
      exact List.mem_map.mp hb
    have bp : ∀ b ∈ bs, ∃ p, b.2 = lkP p := fun b hb => by
      have : b.2 ∈ (dd ds).map lkP := by rw [← b2]; exact List.mem_map_of_mem hb
      obtain ⟨p, _, e⟩ := List.mem_map.mp this
      exact ⟨p, e.symm⟩
    refine ⟨.ref D, rfl, D, kvs, rfl, n, fun L hL2 => ?_⟩
    have s2 := sameUpd (o := .lst (kvs.map fun q => .ref q.2.1)) hL2
    refine ⟨L, bs, rfl, .inl (.inl (by rw [b1]; exact upd_same)), bd s2, ?_, ?_, fun b hb => ?_, fun M hM => ?_⟩
    · rw [b2]; exact PySem.W.AllAlike.of alLkP
    · rw [b2]; exact PySem.W.Sortable.tuples fun p => ⟨_, _, rfl⟩
    · obtain ⟨p, e⟩ := bp b hb
      rw [e]
      exact Nat.le_trans (plDepth (plLk p)) (by omega)
    have s3 := sameUpd (o := .lst ((sortB bs).map (·.1))) hM
    have eM : upd (upd H1 L (.lst (kvs.map fun q => .ref q.2.1))) M (.lst ((sortB bs).map (·.1))) M = some (.lst ((sortB bs).map (·.1))) := upd_same
    have sA := s2.trans s3
    have bd3 := bd sA
    have n3 : Nd P w K (upd (upd H1 L (.lst (kvs.map fun q => .ref q.2.1))) M (.lst ((sortB bs).map (·.1)))) D kvs := ⟨sA _ _ n.o, fun q hq => ⟨(n.k q hq).1, dpSame sA _ _ (n.k q hq).2⟩⟩
    have hv3 : ∀ q ∈ kvs, ∃ p, q.1 = lkP p ∧ Dp K (upd (upd H1 L (.lst (kvs.map fun q => .ref q.2.1))) M (.lst ((sortB bs).map (·.1)))) q.2.2 (pcD p) := fun q hq => by
      obtain ⟨p', e1, e2⟩ := hv q hq
      exact ⟨p', e1, dpSame sA _ _ e2⟩
    have sB := s1.trans sA
    generalize upd (upd H1 L (.lst (kvs.map fun q => .ref q.2.1))) M (.lst ((sortB bs).map (·.1))) = H3 at *
    have es : (sortB bs).map (·.2) = (srt (dd ds)).map lkP := sortOf (g := fun b : Bd => b.2) (r := fun d => d) (k := lkP) b2 (fun p => rfl) rfl
    have lS : (sortB bs).length = (srt (dd ds)).length := by
      have := congrArg List.length es
      rw [List.length_map, List.length_map] at this
      exact this
    have lB : (sortB bs).length ≤ 1000 := by
      unfold sortB
      rw [List.length_mergeSort]
      have h5 := congrArg List.length b2
      rw [List.length_map, List.length_map] at h5
      have h6 : (dd ds).length ≤ ds.length := by
        have all : ∀ (l acc : List Pc), (l.foldl ins acc).length ≤ acc.length + l.length := by
          intro l
          induction l with
          | nil => intro acc; exact Nat.le_refl _
          | cons x l ih =>
            intro acc
            have h7 := ih (ins acc x)
            have h8 : (ins acc x).length ≤ acc.length + 1 := by
              unfold ins
              split
              · omega
              · rw [List.length_append]; exact Nat.le_refl _
            simp only [List.foldl_cons, List.length_cons]
            omega
        simpa [dd] using all ds []
      omega
    refine ⟨M, rfl, ⟨_, .inl (.inl eM)⟩, fun R hR => ?_⟩
    refine lcJ (n := (sortB bs).length) (vs := [5]) (fun i H' => ∃ acc, At H3 R acc H' ∧ DpAll K H' acc (((srt (dd ds)).take i).map pcD)) ⟨[], ⟨sameUpd hR, upd_same⟩, .nil⟩
      (fun i H' lt h => ⟨_, ((sortB bs).map (·.1))[i]'(by rw [List.length_map]; exact lt), .inl (.inl (h.choose_spec.1.1 _ _ eM)), List.getElem?_eq_getElem _⟩) (fun H' h => ⟨_, .inl (.inl (h.choose_spec.1.1 _ _ eM)), by rw [List.length_map]; exact Nat.le_refl _⟩) (fun i H' x H5 lt h y => ?_) (fun H' h => ?_)
    · obtain ⟨rfl, y⟩ := y
      obtain ⟨acc, hat, hacc⟩ := h
      have e1 := y _ (.inl (.inl (hat.1 _ _ eM)))
      rw [List.getElem?_map, List.getElem?_eq_getElem lt] at e1
      have e2 : ((sortB bs)[i]).1 = x := Option.some.inj e1
      have mem : (sortB bs)[i] ∈ bs := by
        have : (sortB bs)[i] ∈ sortB bs := List.getElem_mem lt
        unfold sortB at this
        exact List.mem_mergeSort.mp this
      have lt2 : i < (srt (dd ds)).length := by omega
      have e3 : ((sortB bs)[i]).2 = lkP (srt (dd ds))[i] := by
        have e4 := congrArg (fun l => l[i]?) es
        simp only [List.getElem?_map, List.getElem?_eq_getElem lt, List.getElem?_eq_getElem lt2] at e4
        exact Option.some.inj e4
      have dx : Dp K H5 x (lkP (srt (dd ds))[i]) := by
        rw [← e2, ← e3]
        exact dpSame hat.1 _ _ (bd3 _ mem)
      have hm : ∃ q ∈ kvs, q.1 = lkP (srt (dd ds))[i] := by
        obtain ⟨q, hq, eq⟩ := hmem _ mem
        exact ⟨q, hq, by rw [← e3, ← eq]⟩
      obtain ⟨v, v1, v2⟩ := valAt (fun q hq => by
        obtain ⟨p', e1, e2⟩ := hv3 q hq
        exact ⟨p', e1, dpSame hat.1 _ _ e2⟩) hm
      have n5 : Nd P w K H5 D kvs := ⟨hat.1 _ _ n3.o, fun q hq => ⟨(n3.k q hq).1, dpSame hat.1 _ _ (n3.k q hq).2⟩⟩
      have tupx : ∃ u, x = .ref u := by
        generalize (srt (dd ds))[i] = p at dx
        cases dx with
        | tup _ _ => exact ⟨_, rfl⟩
      obtain ⟨u, rfl⟩ := tupx
      refine ⟨rfl, ?_⟩
      unfold tYes
      dsimp only
      rw [if_pos rfl]
      refine ⟨.ref D, rfl, .ref u, rfl, D, u, _, kvs, v, rfl, rfl, n5, dx, (plLk _).up (by omega), v1, ?_⟩
      obtain ⟨e6, e7⟩ := hat.put (ys := acc ++ [v]) hR (Same.refl _)
      have la := dpLen hacc
      rw [List.length_map, List.length_take] at la
      refine ⟨acc, e6, by rw [sizeLine_eq]; omega, _, e7, ?_⟩
      have t := TS.lst (o := .lst (acc ++ [v])) e6
      rw [List.take_succ_eq_append_getElem lt2, List.map_append]
      refine dpSnoc (dpTS t (plPc _) _ v2) (allPl (n := 4) (fun d hd => ?_) t hacc)
      obtain ⟨p', _, rfl⟩ := List.mem_map.mp hd
      exact plPc p'
    · obtain ⟨acc, hat, hacc⟩ := h
      rw [List.take_of_length_le (by omega)] at hacc
      refine q R acc H' (sB.trans hat.1) ?_ hat.2 hacc
      cases e : H R with
      | none => rfl
      | some o => rw [sB _ _ e] at hR; cases hR
end
end PLC

set_option Elab.async false
set_option linter.all false
set_option maxRecDepth 100000
set_option maxHeartbeats 4000000
/-! dicts with data keys: in, not in, get (None too), len, locked or not -/
namespace ND
open PySem PySem.Spec PyProof.Rows L2
/-- such a dict, locked or not -/
structure NdQ (P : Program) (w : World) (K : PySem.W.Frag) (H : Hp) (d : Addr) (kvs : List KvD) : Prop where
  o : H d = some (ndO P w d (kvs.map kn)) ∨ ∃ od, H d = some (.frz od (ndO P w d (kvs.map kn)))
  k : ∀ q ∈ kvs, Pl 8 q.1 ∧ Dp K H (.ref q.2.1) q.1
theorem Nd.q {P : Program} {w : World} {K : PySem.W.Frag} {H : Hp} {d : Addr} {kvs : List KvD} (n : Nd P w K H d kvs) : NdQ P w K H d kvs := ⟨.inl n.o, n.k⟩
section
variable {X : Cx} {pins : List (Addr × Obj)} {σ : L2.St} {H : Hp} {s : Shared}
theorem NdQ.heap {d : Addr} {kvs : List KvD} (n : NdQ X.prog X.w X.K H d kvs) (I : Inv X pins σ H s) : kvs.length ≤ sizeLine ∧ (d == sysModules) = false ∧ ∃ xs, Paired rKv (kvs.map kn) xs ∧ s.heap.DictOfH (nestedKind X.prog X.w) d xs := by
  have ok : NdR X.prog X.w d (kvs.map kn) s.heap := by
    rcases n.o with e | ⟨od, e⟩
    · have ok : ObjOk X.prog X.w H s.heap d (ndO X.prog X.w d (kvs.map kn)) := I.hok d _ e
      exact ok.1
    · have ok : ObjOk X.prog X.w H s.heap d (.frz od (ndO X.prog X.w d (kvs.map kn))) := I.hok d _ e
      exact ok.2.1
  obtain ⟨z, hs, xs, pr, o, es, ep, ho, hx, hd, he, nd⟩ := ok
  refine ⟨by simpa using z, hs, xs, pr, o, es, ep, ho, hx, hd, he, fun y hy => ?_, nd⟩
  obtain ⟨x, hx, e1, e2, _⟩ := pairedMem pr y hy
  obtain ⟨q, hq, rfl⟩ := List.mem_map.mp hx
  obtain ⟨pl, dp⟩ := n.k q hq
  have := keyIs I dp pl
  rw [← e1, ← e2]
  exact this
theorem pairedAt {ks : List KvN} {xs : List (NestedKey × Addr × Value)} (p : Paired rKv ks xs) (k : NestedKey) : (valN ks k = none ∧ atKey xs k = none) ∨ ∃ v q u, valN ks k = some v ∧ atKey xs k = some (q, u) ∧ RelV v u := by
  cases h : valN ks k with
  | some v =>
    obtain ⟨q, u, a, b⟩ := pairedFind p k h
    exact .inr ⟨v, q, u, rfl, a, b⟩
  | none =>
    refine .inl ⟨rfl, ?_⟩
    have e := atSome p k
    have e2 : (ks.any fun q => decide (q.1 = k)) = false := by
      unfold valN at h
      rw [Option.map_eq_none_iff, List.find?_eq_none] at h
      rw [List.any_eq_false]
      exact h
    rw [e2] at e
    cases h3 : atKey xs k with
    | none => rfl
    | some p => rw [h3] at e; cases e
/-- d[k], locked or not -/
def rIxQ (P : Program) (w : World) (K : PySem.W.Frag) : R2 := fun x y H Q => ∃ (d a : Addr) (e : PyData) (kvs : List KvD) (v : V), x = .ref d ∧ y = .ref a ∧ NdQ P w K H d kvs ∧ Dp K H (.ref a) e ∧ Pl 8 e ∧ valN (kvs.map kn) (keyD e) = some v ∧ Q v H
theorem ix_ndq (hu : X.A.units + 9 < cLine) : IxR X (rIxQ X.prog X.w X.K) := by
  intro value slice pins s σ H x y v u Q I rx ry h hs
  obtain ⟨d, a, e, kvs, z, rfl, rfl, n, he, pl, hv, q⟩ := h
  cases rx
  cases ry
  obtain ⟨_, _, xs, pr, dd⟩ := n.heap I
  obtain ⟨b, t, e1, r1⟩ := pairedFind pr _ hv
  have fin : ∀ tk, EP X pins σ Q t { s with toks := tk } := fun tk => ⟨z, H, I.tok tk, r1, q⟩
  exact subscriptTail_builtinR (x := t) (Q := fun r s' => EP X pins σ Q r s') dd.typeIs PySem.slot_dict_getitem.lookup (wpAny_getItem_heap (knd := nestedKind X.prog X.w) (by show X.A.in1.units + 8 < cLine; rw [Around.in1_units]; omega) (keyIs I he pl) dd e1 ⟨rfl, fin _⟩) hs
/-- k in d, k not in d -/
def rInN (P : Program) (w : World) (K : PySem.W.Frag) (neg : Bool) : R2 := fun y x H Q => ∃ (d a : Addr) (e : PyData) (kvs : List KvD), x = .ref d ∧ y = .ref a ∧ NdQ P w K H d kvs ∧ Dp K H (.ref a) e ∧ Pl 8 e ∧ Q (.bl ((valN (kvs.map kn) (keyD e)).isSome != neg)) H
theorem someAt {ks : List KvN} {xs : List (NestedKey × Addr × Value)} (p : Paired rKv ks xs) (k : NestedKey) : (atKey xs k).isSome = (valN ks k).isSome := by
  rcases pairedAt p k with ⟨a, b⟩ | ⟨v, q, u, a, b, _⟩
  · rw [a, b]; rfl
  · rw [a, b]; rfl
theorem op_inN (hu : X.A.units + 9 < cLine) : OpR X (compareOp .In) (rInN X.prog X.w X.K false) := by
  intro pins s σ H y x v u Q I ry rx h
  obtain ⟨d, a, e, kvs, rfl, rfl, n, he, pl, q⟩ := h
  cases rx
  cases ry
  obtain ⟨_, hd, xs, pr, dd⟩ := n.heap I
  refine wpAny_in_heap (knd := nestedKind X.prog X.w) (by show X.A.in1.units + 8 < cLine; rw [Around.in1_units]; omega) (keyIs I he pl) hd dd ⟨V.bl (atKey xs (keyD e)).isSome, H, I.tok _, rfl, ?_⟩
  rw [someAt pr, ← Bool.bne_false (b := (valN (kvs.map kn) (keyD e)).isSome)]
  exact q
theorem op_notInN (hu : X.A.units + 9 < cLine) : OpR X (compareOp .NotIn) (rInN X.prog X.w X.K true) := by
  intro pins s σ H y x v u Q I ry rx h
  obtain ⟨d, a, e, kvs, rfl, rfl, n, he, pl, q⟩ := h
  cases rx
  cases ry
  obtain ⟨_, hd, xs, pr, dd⟩ := n.heap I
  show wpAny _ _ (do return Value.bool (!(← contains (.ref d) (.ref a)))) _ _ s
  refine wpAny_bind (wpAny_contains_heap (knd := nestedKind X.prog X.w) (by show X.A.in1.units + 8 < cLine; rw [Around.in1_units]; omega) (keyIs I he pl) hd dd (wpAny_pure ⟨.bl (!(valN (kvs.map kn) (keyD e)).isSome), H, I.tok _, ?_, ?_⟩))
  · rw [someAt pr]
    rfl
  · rw [← Bool.bne_true (b := (valN (kvs.map kn) (keyD e)).isSome)]
    exact q
/-- len(d) -/
def rLenN (P : Program) (w : World) (K : PySem.W.Frag) : List V → Hp → VK → Prop := fun xs H Q => ∃ (d : Addr) (kvs : List KvD), xs = [.ref d] ∧ NdQ P w K H d kvs ∧ Q (.int ((kvs.length : Nat) : Int)) H
theorem call_lenN : CallR X (.builtin "len") (rLenN X.prog X.w X.K) := by
  intro pins s σ H xs us Q I r h
  obtain ⟨d, kvs, rfl, n, q⟩ := h
  obtain ⟨u, rfl, rx⟩ := vals1 r
  cases rx
  obtain ⟨z, hd, ys, pr, dd⟩ := n.heap I
  have hl : kvs.length = ys.length := by
    have := pairedLen pr
    rw [List.length_map] at this
    exact this
  refine call_len_dictH hd dd (by rw [← hl]; rw [sizeLine_eq] at z; omega) ?_
  rw [← hl]
  exact ⟨V.int ((kvs.length : Nat) : Int), H, I.tok _, ⟨_, rfl⟩, q⟩
/-! ### None is never there -/
theorem dictFind_non {A : Around} {E : Value → Shared → Prop} {P : Program} {w : World} {s : Shared} {d : Addr} {o : Obj} {es ep} {xs : List (NestedKey × Addr × Value)} {Q : Option Nat → Shared → Prop} (hu : A.units + 8 < cLine) (ho : s.heap.get? d = some o) (hd : o.data = .dict es ep)
    (he : es.toList = xs.map (entryOfKey (nestedKind P w))) (his : ∀ x ∈ xs, (nestedKind P w).is s.heap x.1 x.2.1) (h : Q none s) : wpAny (model P w) A (dictFind d .none (NestedKey.none.hash w)) Q E s := by
  have hmem : ∀ (i : Nat) (e : DictEntry), es[i]? = some e → ∃ x ∈ xs, e = entryOfKey (nestedKind P w) x := by
    intro i e hi
    have hin : e ∈ es := Array.mem_of_getElem? hi
    have : e ∈ xs.map (entryOfKey (nestedKind P w)) := he ▸ Array.mem_toList_iff.mpr hin
    obtain ⟨x, hx, rfl⟩ := List.mem_map.mp this
    exact ⟨x, hx, rfl⟩
  have ne : ∀ (x : NestedKey × Addr × Value), x ∈ xs → ∀ {Q : Bool → Shared → Prop}, Q false s → wpAny (model P w) A (eqBool (.ref x.2.1) .none) Q E s := fun x hx Q hq => by
    have hk := (his x hx).1
    refine eqAt_key x.1 .none A s _ _ hk .none (by have := (his x hx).2; omega) _ _ _ _ ?_
    generalize x.1 = k at hk ⊢
    cases hk with
    | tup _ _ _ _ => exact hq
  have hst : ∀ v ∈ (placesWithHash es.size (fun i => es[i]?.map (·.hash)) (NestedKey.none.hash w)).filterMap (fun i => es[i]?.map (·.key)), ∃ x ∈ xs, v = .ref x.2.1 := by
    intro v hv
    obtain ⟨i, _, hi⟩ := List.mem_filterMap.mp hv
    cases hei : es[i]? with
    | none => rw [hei] at hi; cases hi
    | some e =>
      rw [hei] at hi
      obtain rfl : e.key = v := by simpa using hi
      obtain ⟨x, hx, rfl⟩ := hmem i e hei
      exact ⟨x, hx, rfl⟩
  unfold dictFind
  try with_reducible refine wpAny_holding ?_
  refine wpAny_bind (wpAny_dictEntries ho hd ?_)
  dsimp only
  by_cases hc : ((Value.none :: (placesWithHash es.size (fun i => es[i]?.map (·.hash)) (NestedKey.none.hash w)).filterMap (fun i => es[i]?.map (·.key))).all carriedByValue) = true
  · rw [if_pos hc]
    refine wpAny_bind ?_
    refine wpAny_forIn_list _ (fun rest b s' => s' = s ∧ b = (none, ())) _ ?_ ?_ _ _ ⟨rfl, rfl⟩
    · rintro x rest b s' ⟨rfl, rfl⟩
      cases hx : es[x]? with
      | none => exact wpAny_pure ⟨rfl, rfl⟩
      | some e =>
        obtain ⟨y, hy, rfl⟩ := hmem x e hx
        dsimp only
        by_cases hh : ((entryOfKey (nestedKind P w) y).hash == NestedKey.none.hash w) = true
        · rw [if_pos hh]
          refine wpAny_bind (wpAny_dictEpoch ho hd (wpAny_bind (ne y hy (wpAny_bind (wpAny_dictEpoch ho hd ?_)))))
          show wpAny _ _ (if (ep != ep) = true then _ else _) _ E _
          rw [if_neg (by simp)]
          simp only [Bool.false_eq_true, if_false]
          exact wpAny_bind (wpAny_rule (wpAny_pure ⟨rfl, rfl⟩))
        · rw [if_neg hh]
          exact wpAny_pure ⟨rfl, rfl⟩
    · rintro b s' ⟨rfl, rfl⟩
      exact wpAny_pure h
  · rw [if_neg hc]
    have tell : ∀ {Q : Bool → Shared → Prop}, Q false s → wpAny (model P w) A (tableMayTell .none ((placesWithHash es.size (fun i => es[i]?.map (·.hash)) (NestedKey.none.hash w)).filterMap (fun i => es[i]?.map (·.key)))) Q E s := fun {Q} hq => by
      unfold tableMayTell
      split
      · exact wpAny_pure hq
      · refine wpAny_bind (quiet_key .none .none 8 s .none (Nat.zero_le _) A E _ ?_)
        simp only [Bool.not_true, Bool.false_eq_true, if_false]
        refine wpAny_bind ?_
        refine wpAny_forIn_list _ (fun rest r s' => s' = s ∧ r = (none, ()) ∧ ∀ v ∈ rest, ∃ x ∈ xs, v = .ref x.2.1) _ ?_ ?_ _ _ ⟨rfl, rfl, hst⟩
        · rintro x rest r s' ⟨rfl, rfl, hr⟩
          obtain ⟨y, hy, rfl⟩ := hr x List.mem_cons_self
          refine wpAny_bind ((nestedKind P w).quiet (his y hy) ?_)
          simp only [Bool.not_true, Bool.false_eq_true, if_false]
          exact wpAny_pure ⟨rfl, rfl, fun v hv => hr v (List.mem_cons_of_mem _ hv)⟩
        · rintro r s' ⟨rfl, rfl, _⟩
          exact wpAny_pure hq
    by_cases hone : (((placesWithHash es.size (fun i => es[i]?.map (·.hash)) (NestedKey.none.hash w)).filterMap (fun i => es[i]?.map (·.key))) == [Value.none]) = true <;>
    (first | rw [if_pos hone] | rw [if_neg hone]) <;> (first | refine wpAny_bind (wpAny_pure ?_) | refine wpAny_bind (tell ?_)) <;> (
      rw [if_neg (by simp)]
      refine wpAny_bind ?_
      refine wpAny_forIn_list _ (fun rest b s' => s' = s ∧ b = (none, none)) _ ?_ ?_ _ _ ⟨rfl, rfl⟩
      · rintro x rest b s' ⟨rfl, rfl⟩
        cases hx : es[x]? with
        | none => exact wpAny_pure ⟨rfl, rfl⟩
        | some e =>
          obtain ⟨y, hy, rfl⟩ := hmem x e hx
          dsimp only
          by_cases hh : ((entryOfKey (nestedKind P w) y).hash == NestedKey.none.hash w) = true
          · rw [if_pos hh]
            refine wpAny_bind (wpAny_dictEpoch ho hd (wpAny_bind (ne y hy (wpAny_bind (wpAny_dictEpoch ho hd ?_)))))
            show wpAny _ _ (if (ep != ep) = true then _ else _) _ E _
            rw [if_neg (by simp)]
            simp only [Bool.false_eq_true, if_false]
            refine wpAny_bind (wpAny_rule ?_)
            first | rw [if_neg (by simp)] | skip
            first
              | exact wpAny_pure ⟨rfl, rfl⟩
              | exact wpAny_bind (wpAny_pure (wpAny_pure ⟨rfl, rfl⟩))
          · rw [if_neg hh]
            exact wpAny_pure ⟨rfl, rfl⟩
      · rintro b s' ⟨rfl, rfl⟩
        exact wpAny_pure h)
/-- d.get(k), d.get(k, x): k data or None -/
def rGetN (P : Program) (w : World) (K : PySem.W.Frag) : V → List V → Hp → VK → Prop := fun x xs H Q => ∃ (d : Addr) (kvs : List KvD) (y z : V) (o : Option V), x = .ref d ∧ NdQ P w K H d kvs ∧ ((y = .non ∧ o = none) ∨ ∃ (a : Addr) (e : PyData), y = .ref a ∧ Dp K H y e ∧ Pl 8 e ∧ o = valN (kvs.map kn) (keyD e)) ∧
  ((xs = [y] ∧ z = .non) ∨ xs = [y, z]) ∧ Q (o.getD z) H
theorem dictGet_non {A : Around} {E : Value → Shared → Prop} {P : Program} {w : World} {s : Shared} {d : Addr} {xs : List (NestedKey × Addr × Value)} {Q : Option Value → Shared → Prop} (hu : A.units + 8 < cLine) (dd : s.heap.DictOfH (nestedKind P w) d xs) (h : ∀ tk, Q none { s with toks := tk }) : wpAny (model P w) A (dictGet d .none) Q E s := by
  obtain ⟨o, es, ep, ho, _, hd, he, his, hn⟩ := dd
  unfold dictGet
  try with_reducible refine wpAny_holding ?_
  refine wpAny_bind (pyHash_key .none .none A s _ .none (by show A.units + 0 < cLine; omega) (wpAny_bind (dictFind_non (s := { s with toks := _ }) (P := P) (xs := xs) hu ho hd he his (wpAny_pure (h _)))))
theorem meetsNon {P : Program} {w : World} {d : Addr} (hd : (d == sysModules) = false) :
    MeetsIn P w (Builtin.«dict.get» ⟨[.ref d, .none], []⟩) (fun A R s => A.in1.units + 8 < cLine ∧ ∃ xs, s.heap.DictOfH (nestedKind P w) d xs ∧ ∀ tk, R (.ok (.ret .none)) { s with toks := tk }) :=
  .of_wp fun A R s ⟨hu, xs, hm, h⟩ => by
    show wpAny _ _ (dictGet d .none >>= _) _ _ s
    refine wpAny_bind (dictGet_non hu hm fun tk => ?_)
    show wpAny _ _ (Builtin.Dict.missed d .none >>= _) _ _ _
    exact wpAny_bind (wpAny_missed_other hd (wpAny_pure ⟨.none, rfl, h _⟩))
theorem meetsNonD {P : Program} {w : World} {d : Addr} (hd : (d == sysModules) = false) (dflt : Value) :
    MeetsIn P w (Builtin.«dict.get» ⟨[.ref d, .none, dflt], []⟩) (fun A R s => A.in1.units + 8 < cLine ∧ ∃ xs, s.heap.DictOfH (nestedKind P w) d xs ∧ ∀ tk, R (.ok (.ret dflt)) { s with toks := tk }) :=
  .of_wp fun A R s ⟨hu, xs, hm, h⟩ => by
    show wpAny _ _ (dictGet d .none >>= _) _ _ s
    refine wpAny_bind (dictGet_non hu hm fun tk => ?_)
    show wpAny _ _ (Builtin.Dict.missed d .none >>= _) _ _ _
    exact wpAny_bind (wpAny_missed_other hd (wpAny_pure ⟨dflt, rfl, h _⟩))
theorem mt_getN (hu : X.A.units + 9 < cLine) : MtR X "dict.get" (rGetN X.prog X.w X.K) := by
  intro pins s σ H x xs v us Q I rx rxs h
  obtain ⟨d, kvs, y, z, o, rfl, n, hy, hx, q⟩ := h
  cases rx
  obtain ⟨_, hd, xs', pr, dd⟩ := n.heap I
  have hu1 : X.A.in1.units + 8 < cLine := by rw [Around.in1_units]; omega
  rcases hy with ⟨rfl, rfl⟩ | ⟨a, e, rfl, he, pl, rfl⟩
  · rcases hx with ⟨rfl, rfl⟩ | rfl
    · obtain ⟨u, rfl, ru⟩ := vals1 rxs
      cases ru
      exact call_meetsIn PySem.F.slot_dict_get dd.typeIs PySem.F.entry_dict_get (PySem.F.args_dict_get_2 _ _) (meetsNon hd) ⟨hu1, xs', dd, fun tk => ⟨.non, H, I.tok _, rfl, q⟩⟩
    · obtain ⟨u, u2, rfl, ru, rz⟩ := vals2 rxs
      cases ru
      exact call_meetsIn PySem.F.slot_dict_get dd.typeIs PySem.F.entry_dict_get (PySem.F.args_dict_get_3 _ _ _) (meetsNonD hd u2) ⟨hu1, xs', dd, fun tk => ⟨z, H, I.tok _, rz, q⟩⟩
  · have hk := keyIs I he pl
    have val : ∀ {z : V} {u2 : Value}, RelV z u2 → Q ((valN (kvs.map kn) (keyD e)).getD z) H → RelV ((valN (kvs.map kn) (keyD e)).getD z) (((atKey xs' (keyD e)).map (·.2)).getD u2) := fun {z u2} rz _ => by
      rcases pairedAt pr (keyD e) with ⟨a1, b1⟩ | ⟨v, q1, u, a1, b1, r1⟩
      · rw [a1, b1]; exact rz
      · rw [a1, b1]; exact r1
    rcases hx with ⟨rfl, rfl⟩ | rfl
    · obtain ⟨u, rfl, ru⟩ := vals1 rxs
      cases ru
      exact call_meetsIn PySem.F.slot_dict_get dd.typeIs PySem.F.entry_dict_get (PySem.F.args_dict_get_2 _ _) (meetsH_dict_get (nestedKind X.prog X.w) d a hd) ⟨hu1, _, xs', hk, dd, ⟨_, H, I.tok _, val (z := .non) (u2 := .none) rfl q, q⟩⟩
    · obtain ⟨u, u2, rfl, ru, rz⟩ := vals2 rxs
      cases ru
      exact call_meetsIn PySem.F.slot_dict_get dd.typeIs PySem.F.entry_dict_get (PySem.F.args_dict_get_3 _ _ _) (meetsH_dict_get_default (nestedKind X.prog X.w) d a hd u2) ⟨hu1, _, xs', hk, dd, ⟨_, H, I.tok _, val rz q, q⟩⟩
end
end ND

set_option Elab.async false
set_option linter.all false
set_option maxRecDepth 100000
set_option maxHeartbeats 4000000
/-! for k in d; {k: v for x in xs if t}, the keys data -/
namespace ND
open PySem PySem.Spec PyProof.Rows L2
def ItN (P : Program) (w : World) (d : Addr) (od : Obj) (kvs : List KvD) : It :=
  ⟨fun i H => H d = some (.frz od (ndO P w d (kvs.map kn))) ∧ i < kvs.length, fun i H x H' => H' = H ∧ ∃ q, kvs[i]? = some q ∧ x = .ref q.2.1, fun i H => H d = some (.frz od (ndO P w d (kvs.map kn))) ∧ kvs.length ≤ i⟩
theorem pairedAtI {α β : Type} {F : α → β → Prop} : ∀ {l : List α} {r : List β}, Paired F l r → ∀ {i : Nat} {x : α}, l[i]? = some x → ∃ y, r[i]? = some y ∧ F x y
  | _, _, .nil, i, x, e => by simp at e
  | _, _, .cons h t, 0, x, e => by cases e; exact ⟨_, rfl, h⟩
  | _, _, .cons h t, i + 1, x, e => by
    obtain ⟨y, a, b⟩ := pairedAtI t (i := i) (by simpa using e)
    exact ⟨y, by simpa using a, b⟩
theorem frzN {X : Cx} {pins : List (Addr × Obj)} {σ : L2.St} {H : Hp} {s : Shared} {d : Addr} {od : Obj} {kvs : List KvD} (I : Inv X pins σ H s) (h : H d = some (.frz od (ndO X.prog X.w d (kvs.map kn)))) :
    (d == sysModules) = false ∧ s.heap.get? d = some od ∧ od.ExactDict ∧ ∃ (es : Array DictEntry) (ep : Nat), od.data = .dict es ep ∧ es.size = kvs.length ∧ ∀ (i : Nat) (q : KvD), kvs[i]? = some q → ∃ en : DictEntry, es[i]? = some en ∧ en.key = .ref q.2.1 := by
  have ok : ObjOk X.prog X.w H s.heap d (.frz od (ndO X.prog X.w d (kvs.map kn))) := I.hok d _ h
  obtain ⟨h1, ⟨z, hs, xs, pr, o, es, ep, ho, hx, hd, he, nd⟩, _⟩ := ok
  rw [h1] at ho
  cases ho
  refine ⟨hs, h1, hx, es, ep, hd, ?_, fun i q e => ?_⟩
  · have l1 := size_of_entries he
    have l2 := pairedLen pr
    rw [List.length_map] at l2
    omega
  · have e2 : (kvs.map kn)[i]? = some (kn q) := by rw [List.getElem?_map, e]; rfl
    obtain ⟨y, hy, _, e3, _⟩ := pairedAtI pr e2
    have e4 := entry_at he i
    rw [hy] at e4
    refine ⟨_, e4, ?_⟩
    show Value.ref y.2.1 = .ref q.2.1
    rw [← e3]
    rfl
section
variable {P : Program} {w : World} {K : PySem.W.Frag} {tg : Expr} {d : Addr} {o : Obj} {es : Array DictEntry} {ep : Nat}
theorem turn_nd {kvs : List KvD} (it : Addr) (hod : o.data = .dict es ep) : Turn P w K tg (ItN P w d o kvs) [it] it (fun i h => h.IsKeyIter it d i kvs.length ep) where
  mem := by simp
  obj := fun i h st b hb => by
    have e : b = it := by simpa using hb
    subst e
    obtain ⟨oi, e, c, dd⟩ := st
    exact ⟨oi, e, fun v z => by rw [dd] at z; cases z⟩
  keep := fun i h h' st k => st.at fun oi e => k it (by simp) oi e
  item := by
    intro X hP hw hK hc i pins s σ H E I hf st hg
    subst hP hw hK
    obtain ⟨hd, hi⟩ := hg
    obtain ⟨f0, f1, f2, f3, f4, f5⟩ := hf it (by simp)
    obtain ⟨hs, hgd, hx, es', ep', hdt, hsz, ent⟩ := frzN I hd
    obtain ⟨rfl, rfl⟩ := dict_ep hod hdt
    have hkv : kvs[i]? = some kvs[i] := List.getElem?_eq_getElem hi
    obtain ⟨en, hen, hkey⟩ := ent i _ hkv
    refine next_key_item st hgd hdt hsz hen fun h' st' sb => ?_
    have I1 : Inv X pins σ H { s with heap := h' } := I.turned (t' := s.toks) (fun b ob hb e => (sb.2 b hb).trans e) f0 f1 f3 f4 f5
    obtain ⟨oi, e, c, dd⟩ := id st'
    exact ⟨en.key, rfl, go_of (s := { s with heap := h' }) e c dd (by decide) ⟨.ref kvs[i].2.1, H, I1, hkey, ⟨rfl, _, hkv, rfl⟩, st', fun b hb => (hf b hb).1⟩⟩
  done := by
    intro X hP hw hK hc i pins s σ H E I hf st hg
    subst hP hw hK
    obtain ⟨hd, hi⟩ := hg
    obtain ⟨f0, f1, f2, f3, f4, f5⟩ := hf it (by simp)
    obtain ⟨hs, hgd, hx, es', ep', hdt, hsz, ent⟩ := frzN I hd
    obtain ⟨rfl, rfl⟩ := dict_ep hod hdt
    exact next_key_end (I.ok.hd hc) st hgd hdt hsz hi fun h' eb => ⟨rfl, I.turned (t' := s.toks) (fun b ob hb e => eb b ob hb e) f0 f1 f3 f4 f5⟩
  self := fun A i s Q E st h => by
    refine wpAny_pyIter_slot st.typeIs F.slot_dict_keyiterator_iter (wpAny_call_entry F.slot_dict_keyiterator_iter st.typeIs F.entry_dict_keyiterator_iter ?_ (F.args_dict_keyiterator_iter_1 _))
    show wpAny _ _ (ret (.ref it)) _ _ s
    exact wpAny_pure ⟨_, rfl, "dict_keyiterator", _, st.typeIs, F.slot_dict_keyiterator_next.lookup, h⟩
end
/-- for k in d, d locked -/
def iKeysN (P : Program) (w : World) (td : TE) : TI := fun σ H R => td σ H fun x H1 => ∃ d o kvs, x = .ref d ∧ H1 d = some (.frz o (ndO P w d (kvs.map kn))) ∧ R (ItN P w d o kvs) H1
section
variable {X : Cx}
theorem pi_nd {tg e : Expr} {td : TE} (he : PE X e td) : PI X tg e (iKeysN X.prog X.w td) := by
  refine ⟨fun pins s σ H R I h => ?_⟩
  refine thn (he.run pins s σ H _ I h) fun u s1 ⟨x, H1, I1, rx, d, o, kvs, ex, hd, q⟩ => ?_
  subst ex
  obtain rfl : u = Value.ref d := rx
  obtain ⟨hs, hgd, hx, es, ep, hdt, hsz, ent⟩ := frzN I1 hd
  refine iter_keys hs hgd hx hdt (pi_one (tk := s1.toks) I1 _ (turn_nd _ hdt) ⟨_, Heap.get?_push_size _ rfl, rfl, ?_⟩ q)
  rw [hsz] <;> rfl
/-! ### {k: v for x in xs if t} -/
def turnT (P : Program) (w : World) (K : PySem.W.Frag) (D : Addr) (g : TG) (tt : TT) (tk tv : TE) (vs : List Nat) (σ : L2.St) (x : V) (Nx : Hp → Prop) : Hp → Prop := fun G => g x (wipe σ vs) G fun ρ G2 => wipe ρ vs = wipe σ vs ∧ tt ρ G2 fun b G3 => if b = true then tk ρ G3 fun y G4 => tv ρ G4 fun z G5 =>
  ∃ (kvs : List KvD) (a : Addr) (e : PyData), y = .ref a ∧ Nd P w K G5 D kvs ∧ Dp K G5 (.ref a) e ∧ Pl 8 e ∧ kvs.length < sizeLine ∧ Nx (upd G5 D (ndO P w D ((storeD kvs e a z).map kn))) else Nx G3
def tNdcT (P : Program) (w : World) (K : PySem.W.Frag) (wi : TI) (g : TG) (tt : TT) (tk tv : TE) (vs : List Nat) : TE := fun σ H Q => wi σ H fun J G => ∀ D, G D = none → ∃ W : Nat → Nat → Hp → Prop, (∃ m, W 0 m (upd G D (ndO P w D []))) ∧ ∀ i m T, W i m T →
  (J.stop i T ∧ Q (.ref D) T) ∨ (J.go i T ∧ ∃ Nx : Hp → Prop, (∀ T', Nx T' → ∃ m', m' < m ∧ W (i + 1) m' T') ∧ ∀ x T', J.yld i T x T' → turnT P w K D g tt tk tv vs σ x Nx T')
theorem ndcT_core {pins : List (Addr × Obj)} {s : Shared} {σ : L2.St} {H : Hp} {Q : VK} {kx vx tg iter : Expr} {ifs : List Expr} {sc : Scope} {own : List (Str × Nat)} {pos pos' : Pos} {wi : TI} {g : TG} {tt : TT} {tk tv : TE} {use : Option (Value → Sem Unit)} {Qf : Value → Shared → Prop}
    (hu : X.A.units + 8 < cLine) (calm : X.calm = true) (nd : X.N.Nodup) (I : Inv X pins σ H s) (it0 : PI X tg iter wi) (bk : BlkOk X.N X.env.scope sc own) (pG : InBlk X sc fun Y => PG Y tg g) (pT : InBlk X sc fun Y => PTs Y ifs tt) (pK : InBlk X sc fun Y => PE Y kx tk) (pV : InBlk X sc fun Y => PE Y vx tv)
    (fold : ∀ x, foldedSetIterable iter X.env x = pure x) (hq : tNdcT X.prog X.w X.K wi g tt tk tv (own.map (·.2)) σ H Q)
    (out : ∀ D C t m G, Inv X pins σ G t → Q (.ref D) G → t.heap.Ns C m → FpOk X pins G C → compPost (model X.prog X.w) X.A X.xe use Qf (.ref D) C (.ok .next) t) :
    wpAny (model X.prog X.w) X.A (comprehension (.DictComp kx vx [⟨tg, iter, ifs, 0⟩] sc pos) sc X.env pos' newDict false (eval iter X.env) use) Qf X.xe s := by
  have cells : ∀ y ∈ sc.names, y.2 = .free → ∃ c, X.env.cells.lookup y.1 = some c := by
    intro y hy e
    exact (bk.free y hy e).elim (fun z => I.ok.has _ (.inl z)) fun z => I.ok.has _ (.inr z)
  refine wpAny_comprehension_free (use := use) rfl fold (closure_ok cells) bk.kind (fun y hy e => by rw [bk.uniq y hy, e]) ?_
  refine thn (it0.run pins s σ H _ I hq) fun xv s1 hx => thn hx fun itv s2 ⟨it, fp, tn, J, G, eit, I2, T, st2, f2, q⟩ => ?_
  subst eit
  refine wpAny_newObj_type (newEnv_comp ?_)
  obtain ⟨D, hD⟩ : ∃ D, D = s2.heap.objs.size := ⟨_, rfl⟩
  rw [← hD]
  have free : G D = none := I2.hok.fresh (Nat.le_of_eq hD.symm)
  obtain ⟨W, ⟨m0, w0⟩, turn⟩ := q D free
  obtain ⟨s3, hs3⟩ : ∃ t : Shared, t = { s2 with heap := s2.heap.push { cls := .type "dict", data := .dict #[] } } := ⟨_, rfl⟩
  rw [← hs3]
  have I3 : Inv X pins σ (upd G D (ndO X.prog X.w D [])) s3 := by
    rw [hs3, hD]
    exact I2.laid (t' := s2.toks) (fun b o e => Heap.get?_push_of_some _ e) (Nat.le_refl _) (ndNew s2.heap I2.big)
  have grow : s3.heap = s2.heap.push { cls := .type "dict", data := .dict #[] } := by rw [hs3]
  have below : ∀ b ∈ fp, b < s2.heap.objs.size := fun b hb => (T.obj _ _ st2 b hb).elim fun o e => Heap.lt_size e.1
  have f3 : ∀ b ∈ fp, FpOk X pins (upd G D (ndO X.prog X.w D [])) b ∧ b < s3.heap.objs.size := by
    intro b hb
    have lt := below b hb
    constructor
    · exact ⟨by rw [upd_ne (by rw [hD]; exact Nat.ne_of_lt lt)]; exact (f2 b hb).1, (f2 b hb).2⟩
    · rw [grow, Heap.size_push]
      exact Nat.lt_succ_of_lt lt
  have st3 : tn 0 s3.heap := by
    refine T.keep _ _ _ st2 fun b _ o e => ?_
    rw [grow]
    exact Heap.get?_push_of_some _ e
  have I4 := block_start I3 bk nd f3
  obtain ⟨ce, hce⟩ : ∃ c, c = compEnvC sc (cellsFrom (s3.heap.objs.size + 1) sc.names (cloFrom X.env.cells sc.names [])) s3.heap.objs.size X.env := ⟨_, rfl⟩
  obtain ⟨G3, hG3⟩ : ∃ G3, G3 = upd G D (ndO X.prog X.w D []) := ⟨_, rfl⟩
  have qG : PG (X.blk s3 G3 sc ce fp) tg g := by rw [hce]; exact pG _ _ _ _ _
  have qT : PTs (X.blk s3 G3 sc ce fp) ifs tt := by rw [hce]; exact pT _ _ _ _ _
  have qK : PE (X.blk s3 G3 sc ce fp) kx tk := by rw [hce]; exact pK _ _ _ _ _
  have qV : PE (X.blk s3 G3 sc ce fp) vx tv := by rw [hce]; exact pV _ _ _ _ _
  have loc : ce.locals = s3.heap.objs.size := by rw [hce]; rfl
  obtain ⟨s4, hs4⟩ : ∃ t : Shared, t = { s3 with heap := pushCells (s3.heap.push { cls := .type "dict", data := .dict #[] }) sc.names } := ⟨_, rfl⟩
  rw [← hce, ← hG3, ← hs4] at I4
  rw [← hG3] at I3 w0 f3
  show codeAny _ _ (.compStart (.DictComp kx vx [⟨tg, iter, ifs, 0⟩] sc pos) 0 (.ref it) (.ref D) (compEnvC sc (cellsFrom (s3.heap.objs.size + 1) sc.names (cloFrom X.env.cells sc.names [])) s3.heap.objs.size X.env)) _ _
  rw [← hce, ← hs4]
  have none3 : ∀ b ∈ fp, G3 b = none := fun b hb => (f3 b hb).1.1
  have st4 : tn 0 s4.heap := by
    refine T.keep _ _ _ st3 fun b _ o e => ?_
    rw [hs4]
    exact pushCells_keeps _ _ _ _ (Heap.get?_push_of_some _ e)
  have fps : ∀ {ρ : L2.St} {G' : Hp} {t : Shared}, Inv (X.blk s3 G3 sc ce fp) [] ρ G' t → (∀ b ∈ fp, G' b = none) → ∀ b ∈ fp, FpOk (X.blk s3 G3 sc ce fp) [] G' b := by
    intro ρ G' t J' hn b hb
    refine ⟨hn b hb, (J'.ok.exf b hb).1, J'.ok.exfs b hb, .inl hb, fun x c e => (J'.ok.exf b hb).2 x c e, fun p hp => ?_⟩
    exact absurd (show p ∈ ([] : List (Addr × Obj)) ++ [] from hp) (by simp)
  suffices loop : codeAny (model X.prog X.w) X.A (.compLoop (.DictComp kx vx [⟨tg, iter, ifs, 0⟩] sc pos) 0 (.ref it) (.ref D) ce) (compPost (model X.prog X.w) X.A X.xe use Qf (.ref D) s3.heap.objs.size) s4 from codeAny_compStart_dict loop (T.self X.A 0 _ _ _ st4 loop)
  refine compLoop_anyD (fun n t => ∃ i G', Inv (X.blk s3 G3 sc ce fp) [] (wipe σ (own.map (·.2))) G' t ∧ tn i t.heap ∧ (∀ b ∈ fp, G' b = none) ∧ W i n G') (fun n s5 ⟨i, G5, I5, st5, n5, w5⟩ => ?_) m0 ⟨0, G3, I4, st4, none3, w0⟩
  rcases turn i n G5 w5 with ⟨stop, qq⟩ | ⟨go, Nx, hNx, step⟩
  · refine thnF (T.done (X.blk s3 G3 sc ce fp) rfl rfl rfl calm i [] s5 _ G5 (fun _ _ => False) I5 (fps I5 n5) st5 stop) fun r s6 ⟨er, I6⟩ => ?_
    subst er
    have I7 : Inv X pins σ G5 s6 := I3.call' (ch := fp) I6.os I6.base I6.hok I6.bare fun b hb => by
      obtain ⟨⟨_, a1, a2, a3, a4, a5⟩, _⟩ := f3 b hb
      exact ⟨a3, a1, a4, a5⟩
    have nC : G5 s3.heap.objs.size = none := by
      rw [← loc]
      exact I6.free
    obtain ⟨m, hm, _⟩ := I6.loc
    have hm : s6.heap.Ns ce.locals m := hm
    rw [loc] at hm
    exact out D _ s6 m G5 I7 qq hm (I3.fpOk (Nat.le_refl _) nC)
  · refine thnF (T.item (X.blk s3 G3 sc ce fp) rfl rfl rfl calm i [] s5 _ G5 (fun _ _ => False) I5 (fps I5 n5) st5 go) fun r s6 ⟨u, er, h6⟩ => ?_
    subst er
    refine thnF h6 fun _ s7 ⟨x, G7, I7, r7, y7, st7, n7⟩ => ?_
    refine thnF (qG.run _ s7 _ G7 x u _ (I7.pinned (fps I7 n7) (T.obj _ _ st7)) r7 (step x G7 y7)) fun _ s8 ⟨ρ, G8, I8, hw8, q8⟩ => ?_
    refine thnF (qT.run _ s8 ρ G8 _ I8 q8) fun b s9 ⟨G9, I9, q9⟩ => ?_
    cases b with
    | false =>
      have nx : Nx G9 := q9
      obtain ⟨m', hm, w'⟩ := hNx _ nx
      have pin' : ∀ b ∈ fp, ∀ o, s7.heap.get? b = some o → s9.heap.get? b = some o ∧ G9 b = none := fun b hb o e =>
        let c := I9.pin (b, o) (List.mem_append_right _ (List.mem_append_right _ (mem_pinsAt hb e)))
        ⟨c.1, c.2.1⟩
      refine ⟨m', hm, i + 1, _, (I9.unpinned (pins := [])).weak (by rw [← hw8, wipe_length]) (fun j v e => ?_), T.keep _ _ _ st7 fun b hb o e => (pin' b hb o e).1, fun b hb => ?_, w'⟩
      · rw [← hw8] at e
        exact (wipe_some e).1
      · obtain ⟨o, e, _⟩ := T.obj _ _ st7 b hb
        exact (pin' b hb o e).2
    | true =>
      refine thnF (qK.run _ s9 ρ G9 _ I9 q9) fun kv s10 ⟨y, G10, I10, r10, q10⟩ => ?_
      refine thnF (qV.run _ s10 ρ G10 _ I10 q10) fun vv s11 h11 => ?_
      obtain ⟨z, G11, I11, r11, kvs, a, e, rfl, nN, he, pl, hl, nx⟩ := h11
      cases r10
      refine nd_dictSet (X := X.blk s3 G3 sc ce fp) hu I11 nN he pl r11 hl fun s12 I12 => ?_
      obtain ⟨m', hm, w'⟩ := hNx _ nx
      have pin' : ∀ b ∈ fp, ∀ o, s7.heap.get? b = some o → s12.heap.get? b = some o ∧ upd G11 D (ndO X.prog X.w D ((storeD kvs e a z).map kn)) b = none := fun b hb o e =>
        let c := I12.pin (b, o) (List.mem_append_right _ (List.mem_append_right _ (mem_pinsAt hb e)))
        ⟨c.1, c.2.1⟩
      refine ⟨m', hm, i + 1, _, (I12.unpinned (pins := [])).weak (by rw [← hw8, wipe_length]) (fun j v e => ?_), T.keep _ _ _ st7 fun b hb o e => (pin' b hb o e).1, fun b hb => ?_, w'⟩
      · rw [← hw8] at e
        exact (wipe_some e).1
      · obtain ⟨o, e, _⟩ := T.obj _ _ st7 b hb
        exact (pin' b hb o e).2
theorem pe_ndcT {kx vx tg iter : Expr} {ifs : List Expr} {sc : Scope} {own : List (Str × Nat)} {pos : Pos} {wi : TI} {g : TG} {tt : TT} {tk tv : TE} (hu : X.A.units + 8 < cLine) (calm : X.calm = true) (nd : X.N.Nodup) (it0 : PI X tg iter wi) (bk : BlkOk X.N X.env.scope sc own)
    (pG : InBlk X sc fun Y => PG Y tg g) (pT : InBlk X sc fun Y => PTs Y ifs tt) (pK : InBlk X sc fun Y => PE Y kx tk) (pV : InBlk X sc fun Y => PE Y vx tv) (fold : ∀ x, foldedSetIterable iter X.env x = pure x := by intro _; rfl) :
    PE X (.DictComp kx vx [⟨tg, iter, ifs, 0⟩] sc pos) (tNdcT X.prog X.w X.K wi g tt tk tv (own.map (·.2))) := by
  refine ⟨fun pins s σ H Q I h => ?_⟩
  rw [arm_eval_DictComp]
  refine ndcT_core hu calm nd I it0 bk pG pT pK pV fold h fun D C t m G I' q hm f => ⟨m, hm, fun h2 sb => ?_⟩
  obtain ⟨f0, f1, f2, f3, f4, f5⟩ := f
  exact ⟨.ref D, G, I'.turned (t' := t.toks) (fun b o hb e => (sb.2 b hb).trans e) f0 f1 f3 f4 f5, rfl, q⟩
end
end ND

set_option Elab.async false
set_option linter.all false
set_option maxRecDepth 100000
set_option maxHeartbeats 4000000
/-! dict(xs) of pairs whose keys are data; == of two empty ones -/
namespace ND
open PySem PySem.Spec PyProof.Rows L2
def storeAll (kvs qs : List KvD) : List KvD := qs.foldl (fun acc q => storeD acc q.1 q.2.1 q.2.2) kvs
theorem storeAll_len (qs : List KvD) : ∀ kvs : List KvD, (storeAll kvs qs).length ≤ kvs.length + qs.length := by
  induction qs with
  | nil => intro kvs; exact Nat.le_refl _
  | cons q qs ih =>
    intro kvs
    have h1 := ih (storeD kvs q.1 q.2.1 q.2.2)
    have h2 := storeLen kvs q.1 q.2.1 q.2.2
    show (storeAll (storeD kvs q.1 q.2.1 q.2.2) qs).length ≤ _
    rw [List.length_cons]
    omega
theorem pairedAll {qs : List KvD} {ps : List (NestedKey × Addr × Value)} (h : Paired rKv (qs.map kn) ps) : ∀ {kvs : List KvD} {xs : List (NestedKey × Addr × Value)}, Paired rKv (kvs.map kn) xs → Paired rKv ((storeAll kvs qs).map kn) (storedAllH xs ps) := by
  induction qs generalizing ps with
  | nil =>
    intro kvs xs p
    rw [List.map_nil] at h
    cases h
    exact p
  | cons q qs ih =>
    intro kvs xs p
    rw [List.map_cons] at h
    cases h with
    | @cons _ y _ r hq t =>
      refine ih t ?_
      rw [store_kn]
      obtain ⟨e1, e2, e3⟩ := hq
      have := pairedStore p (keyD q.1) q.2.1 (v := q.2.2) e3
      have e1' : keyD q.1 = y.1 := e1
      have e2' : q.2.1 = y.2.1 := e2
      show Paired rKv _ (storedH xs y.1 y.2.1 y.2.2)
      rw [← e1', ← e2']
      exact this
/-- a pair that stands as a tuple -/
def PrN (K : PySem.W.Frag) (H : Hp) (p : Addr) (q : KvD) : Prop := SqT K H p [.ref q.2.1, q.2.2] ∧ Dp K H (.ref q.2.1) q.1 ∧ Pl 8 q.1
def rDictN (P : Program) (w : World) (K : PySem.W.Frag) : List V → Hp → VK → Prop := fun xs H Q => ∃ (l : Addr) (ps : List Addr) (qs : List KvD), xs = [.ref l] ∧ SqL K H l (ps.map V.ref) ∧ Paired (PrN K H) ps qs ∧ ∀ p, H p = none → Q (.ref p) (upd H p (ndO P w p ((storeAll [] qs).map kn)))
section
variable {X : Cx}
theorem prsOf {pins : List (Addr × Obj)} {σ : L2.St} {H : Hp} {s : Shared} (I : Inv X pins σ H s) : ∀ {ps : List Addr} {qs : List KvD}, Paired (PrN X.K H) ps qs →
    ∃ (xs : List (NestedKey × Addr × Value)) (prs : List (Value × Value)), Paired rKv (qs.map kn) xs ∧ xs.length = ps.length ∧ prs.length = ps.length ∧ (∀ x ∈ xs, (nestedKind X.prog X.w).is s.heap x.1 x.2.1) ∧
      ∀ (j : Nat) (k v : Value), prs[j]? = some (k, v) → ∃ (b : Addr) (n : NestedKey) (a : Addr), ps[j]? = some b ∧ IsTup s.heap b #[k, v] ∧ xs[j]? = some (n, a, v) ∧ k = .ref a
  | _, _, .nil => ⟨[], [], .nil, rfl, rfl, fun x hx => absurd hx (by simp), fun j k v e => by simp at e⟩
  | _, _, .cons (a := p) (b := q) h t => by
    obtain ⟨xs, prs, r, l1, l2, his, hp⟩ := prsOf I t
    obtain ⟨hs, dp, pl⟩ := h
    obtain ⟨its, rv, ht, _⟩ := I.tuple hs
    obtain ⟨u, y, ei, ru, ry⟩ := vals2 rv
    subst ei
    cases ru
    refine ⟨(keyD q.1, q.2.1, y) :: xs, (.ref q.2.1, y) :: prs, .cons ⟨rfl, rfl, ry⟩ r, by rw [List.length_cons, List.length_cons, l1], by rw [List.length_cons, List.length_cons, l2], fun x hx => ?_, fun j k v e => ?_⟩
    · rcases List.mem_cons.mp hx with rfl | hx
      · exact keyIs I dp pl
      · exact his x hx
    · cases j with
      | zero =>
        have e' := Option.some.inj e
        have e1 : Value.ref q.2.1 = k := congrArg Prod.fst e'
        have e2 : y = v := congrArg Prod.snd e'
        subst e1 e2
        exact ⟨p, _, _, rfl, ht, rfl, rfl⟩
      | succ j =>
        obtain ⟨b, n, a, e1, e2, e3, e4⟩ := hp j k v (by simpa using e)
        exact ⟨b, n, a, by simpa using e1, e2, by simpa using e3, e4⟩
theorem call_dictN (hu : X.A.units + 12 < cLine) (calm : X.calm = true) : CallR X (.type "dict") (rDictN X.prog X.w X.K) := by
  intro pins s σ H xs us Q I r q
  obtain ⟨a, ps, qs, ex, hq, hp, q⟩ := q
  subst ex
  obtain ⟨u, eu, rx⟩ := vals1 r
  subst eu
  cases rx
  obtain ⟨its, rv, pl, hz⟩ := I.list hq
  have ei := refs_at rv
  subst ei
  rw [List.length_map] at hz
  obtain ⟨xs, prs, rel, l1, l2, his, hpr⟩ := prsOf I hp
  obtain ⟨o, n, ho, hc, hd, hdat⟩ := pl
  refine call_dict_pairsH (knd := nestedKind X.prog X.w) (ps := xs) (PairArg.list a (ps.map Value.ref).toArray (fun j => ps.getD j 0) prs) (I.ok.hd calm) (by show X.A.units + 1 + 1 + 8 < cLine; omega) ⟨⟨o, n, ho, hc, hd, hdat⟩, ?_, ?_⟩ ⟨?_, ?_⟩ ?_ (by rw [l2]; exact hz) fun h' tk dd keep => ?_
  · simp [l2]
  · intro j k v e
    obtain ⟨b, n, a', e1, e2, e3, e4⟩ := hpr j k v e
    have eg : ps.getD j 0 = b := by rw [List.getD_eq_getElem?_getD, e1]; rfl
    refine ⟨by simp [e1], ?_⟩
    show PairAt s.heap (ps.getD j 0) k v
    rw [eg]
    obtain ⟨o2, h1, h2, n2, h3⟩ := e2
    exact .inl ⟨o2, h1, h2, n2, h3⟩
  · rw [l1, l2]
  · intro j k v e
    obtain ⟨b, n, a', e1, e2, e3, e4⟩ := hpr j k v e
    exact ⟨n, a', e3, e4⟩
  · intro h' hk x hx
    refine nestedKind_stays.stays (h := s.heap) (fun b o vs n hb hd => ?_) (his x hx)
    exact hk b o (Nat.ne_of_lt (Heap.lt_size hb)) (by simp) hb
  · have hm : (s.heap.objs.size == sysModules) = false := beq_eq_false_iff_ne.mpr (Nat.ne_of_gt I.big)
    have hlen : (storeAll [] qs).length ≤ sizeLine := by
      have h1 := storeAll_len qs []
      have h2 := pairedLen hp
      rw [List.length_nil] at h1
      omega
    obtain ⟨o', es, ep, h1, h2, h3, h4, _, h6⟩ := dd
    exact ⟨.ref s.heap.objs.size, upd H s.heap.objs.size (ndO X.prog X.w s.heap.objs.size ((storeAll [] qs).map kn)), I.laid (t' := tk) (fun b o e => keep b o (by simp) e) (Nat.le_refl _) (ndOk ⟨by rw [List.length_map]; exact hlen, hm, _, pairedAll rel .nil, o', es, ep, h1, h2, h3, h4, h6⟩), rfl, q _ (I.hok.fresh (Nat.le_refl _))⟩
/-! ### == of two empty ones -/
def rEq0 (P : Program) (w : World) (K : PySem.W.Frag) : R2 := fun x y H Q => ∃ (a b : Addr), x = .ref a ∧ y = .ref b ∧ NdQ P w K H a [] ∧ NdQ P w K H b [] ∧ Q (.bl true) H
theorem ndEmpty {pins : List (Addr × Obj)} {σ : L2.St} {H : Hp} {s : Shared} {a : Addr} (I : Inv X pins σ H s) (n : NdQ X.prog X.w X.K H a []) : (a == sysModules) = false ∧ s.heap.DictOf (mixKind X.prog X.w) a [] := by
  obtain ⟨_, hs, xs, pr, o, es, ep, ho, hx, hd, he, _, _⟩ := n.heap I
  cases pr
  refine ⟨hs, ?_⟩
  have e0 : es = #[] := by
    cases es with
    | mk l => cases l with
      | nil => rfl
      | cons _ _ => cases he
  subst e0
  obtain ⟨o2, es2, ep2, h1, h2, h3, r⟩ := Heap.DictOf.new (knd := mixKind X.prog X.w) s.heap
  have h4 : (s.heap.push { cls := Value.type "dict", data := Data.dict #[] }).get? s.heap.objs.size = some { cls := Value.type "dict", data := Data.dict #[] } := Heap.get?_push_size _ rfl
  rw [h4] at h1
  cases h1
  cases h3
  exact ⟨o, #[], ep, ho, hx, hd, r⟩
theorem op_eq0 (hu : X.A.units < cLine) : OpR X (compareOp .Eq) (rEq0 X.prog X.w X.K) := by
  intro pins s σ H x y v u Q I rx ry h
  obtain ⟨a, b, rfl, rfl, na, nb, q⟩ := h
  cases rx
  cases ry
  obtain ⟨ha, da⟩ := ndEmpty I na
  obtain ⟨hb, db⟩ := ndEmpty I nb
  exact PySem.W.keq_eq (r := true) ha hb da db hu (fun _ => .nil) ⟨V.bl true, H, I, rfl, q⟩
end
end ND

set_option Elab.async false
set_option linter.all false
set_option maxRecDepth 100000
set_option maxHeartbeats 4000000
/-! tables in the heap: keys and values are data -/
namespace REC
open PySem PySem.Spec PyProof.Rows L2 ND KS KS.La PLC
section
variable {κ α : Type} [DecidableEq κ]
def aLook (T : List (κ × α)) (k : κ) : Option α := (T.find? fun p => decide (p.1 = k)).map (·.2)
def aPut (T : List (κ × α)) (k : κ) (x : α) : List (κ × α) := if (T.any fun p => decide (p.1 = k)) = true then T.map (fun p => if p.1 = k then (p.1, x) else p) else T ++ [(k, x)]
theorem aLook_none {T : List (κ × α)} {k : κ} : aLook T k = none ↔ k ∉ T.map (·.1) := by
  unfold aLook
  rw [Option.map_eq_none_iff, List.find?_eq_none]
  constructor
  · intro h hm
    obtain ⟨p, hp, e⟩ := List.mem_map.mp hm
    exact h p hp (decide_eq_true e)
  · intro h p hp e
    exact h (List.mem_map.mpr ⟨p, hp, of_decide_eq_true e⟩)
theorem aLook_mem {T : List (κ × α)} {k : κ} {x : α} (h : aLook T k = some x) : (k, x) ∈ T := by
  unfold aLook at h
  obtain ⟨p, hp, rfl⟩ := Option.map_eq_some_iff.mp h
  have e := List.find?_some hp
  have := of_decide_eq_true e
  rw [← this]
  exact List.mem_of_find?_eq_some hp
theorem aLook_in {T : List (κ × α)} {k : κ} (h : k ∈ T.map (·.1)) : ∃ x, aLook T k = some x := by
  cases e : aLook T k with
  | some x => exact ⟨x, rfl⟩
  | none => exact absurd h (aLook_none.mp e)
theorem aLook_at {T : List (κ × α)} (nd : (T.map (·.1)).Nodup) {p : κ × α} (h : p ∈ T) : aLook T p.1 = some p.2 := by
  induction T with
  | nil => exact absurd h (by simp)
  | cons q T ih =>
    rw [List.map_cons, List.nodup_cons] at nd
    unfold aLook at ih ⊢
    rw [List.find?_cons]
    rcases List.mem_cons.mp h with rfl | h
    · rw [decide_eq_true rfl]
      rfl
    · have ne : q.1 ≠ p.1 := fun e => nd.1 (e ▸ List.mem_map_of_mem (f := (·.1)) h)
      rw [decide_eq_false ne]
      exact ih nd.2 h
theorem aPut_keys (T : List (κ × α)) (k : κ) (x : α) : (aPut T k x).map (·.1) = if k ∈ T.map (·.1) then T.map (·.1) else T.map (·.1) ++ [k] := by
  have e : (T.any fun p => decide (p.1 = k)) = decide (k ∈ T.map (·.1)) := by
    rw [Bool.eq_iff_iff, List.any_eq_true, decide_eq_true_eq, List.mem_map]
    exact ⟨fun ⟨p, hp, h⟩ => ⟨p, hp, of_decide_eq_true h⟩, fun ⟨p, hp, h⟩ => ⟨p, hp, decide_eq_true h⟩⟩
  unfold aPut
  rw [e]
  by_cases c : k ∈ T.map (·.1)
  · rw [decide_eq_true c, if_pos rfl, if_pos c, List.map_map]
    refine List.map_congr_left fun p _ => ?_
    show (if p.1 = k then (p.1, x) else p).1 = p.1
    split <;> rfl
  · rw [decide_eq_false c, if_neg Bool.false_ne_true, if_neg c, List.map_append]
    rfl
theorem aPut_nd {T : List (κ × α)} {k : κ} {x : α} (h : (T.map (·.1)).Nodup) : ((aPut T k x).map (·.1)).Nodup := by
  rw [aPut_keys]
  split
  · exact h
  · rename_i c
    exact List.nodup_append.mpr ⟨h, by simp, fun a ha b hb e => c (by rw [List.mem_singleton.mp hb] at e; exact e ▸ ha)⟩
theorem aLook_put (T : List (κ × α)) (k : κ) (x : α) (k' : κ) : aLook (aPut T k x) k' = if k = k' then some x else aLook T k' := by
  unfold aPut
  by_cases c : (T.any fun p => decide (p.1 = k)) = true
  · rw [if_pos c]
    have gen : ∀ S : List (κ × α), aLook (S.map fun p => if p.1 = k then (p.1, x) else p) k' = if k = k' then (if (S.any fun p => decide (p.1 = k)) = true then some x else none) else aLook S k' := by
      intro S
      induction S with
      | nil => unfold aLook; split <;> rfl
      | cons q S ih =>
        unfold aLook at ih ⊢
        rw [List.map_cons, List.find?_cons, List.find?_cons, List.any_cons]
        by_cases h1 : q.1 = k
        · rw [if_pos h1, decide_eq_true h1, Bool.true_or, if_pos rfl]
          by_cases h2 : k = k'
          · rw [if_pos h2, show decide ((q.1, x).1 = k') = true from decide_eq_true (h1.trans h2)]
            rfl
          · rw [if_neg h2, show decide ((q.1, x).1 = k') = false from decide_eq_false fun e => h2 (h1.symm.trans e)]
            exact ih.trans (if_neg h2)
        · rw [if_neg h1, decide_eq_false h1, Bool.false_or]
          by_cases h3 : q.1 = k'
          · have h2 : k ≠ k' := fun e => h1 (h3.trans e.symm)
            rw [decide_eq_true h3, if_neg h2]
          · rw [decide_eq_false h3]
            exact ih
    rw [gen, c]
    rfl
  · rw [if_neg c]
    unfold aLook
    rw [List.find?_append]
    by_cases h2 : k = k'
    · subst h2
      have : T.find? (fun p => decide (p.1 = k)) = none := by
        rw [List.find?_eq_none]
        intro p hp e
        exact c (List.any_eq_true.mpr ⟨p, hp, e⟩)
      rw [this, if_pos rfl, Option.none_or, List.find?_cons, show decide ((k, x).1 = k) = true from decide_eq_true rfl]
      rfl
    · rw [if_neg h2, List.find?_cons, show decide ((k, x).1 = k') = false from decide_eq_false h2, List.find?_nil, Option.or_none]
theorem aPut_new {T : List (κ × α)} {k : κ} {x : α} (h : aLook T k = none) : aPut T k x = T ++ [(k, x)] := by
  unfold aPut
  rw [if_neg fun c => ?_]
  obtain ⟨p, hp, e⟩ := List.any_eq_true.mp c
  exact aLook_none.mp h (List.mem_map.mpr ⟨p, hp, of_decide_eq_true e⟩)
theorem aPut_len (T : List (κ × α)) (k : κ) (x : α) : (aPut T k x).length ≤ T.length + 1 := by
  have := congrArg List.length (aPut_keys T k x)
  rw [List.length_map] at this
  rw [this]
  split
  · rw [List.length_map]; omega
  · rw [List.length_append, List.length_map]; exact Nat.le_refl _
end
/-- keys that are data, told apart by what they are -/
structure Kd {κ : Type} (kd : κ → PyData) : Prop where
  pl : ∀ k, Pl 8 (kd k)
  inj : ∀ {a b : κ}, kd a = kd b → a = b
section
variable {P : Program} {w : World} {K : PySem.W.Frag} {κ α : Type} [DecidableEq κ] {kd : κ → PyData} {vd : α → PyData}
def Rw (K : PySem.W.Frag) (H : Hp) (kd : κ → PyData) (vd : α → PyData) (q : KvD) (p : κ × α) : Prop := q.1 = kd p.1 ∧ Dp K H q.2.2 (vd p.2)
def DA (P : Program) (w : World) (K : PySem.W.Frag) (kd : κ → PyData) (vd : α → PyData) (H : Hp) (d : Addr) (T : List (κ × α)) : Prop := ∃ kvs, Nd P w K H d kvs ∧ Paired (Rw K H kd vd) kvs T
theorem rwVal {H : Hp} (kk : Kd kd) {kvs : List KvD} {T : List (κ × α)} (h : Paired (Rw K H kd vd) kvs T) (k : κ) : (valN (kvs.map kn) (keyD (kd k)) = none ∧ aLook T k = none) ∨ ∃ v x, valN (kvs.map kn) (keyD (kd k)) = some v ∧ aLook T k = some x ∧ Dp K H v (vd x) := by
  unfold valN aLook
  induction h with
  | nil => exact .inl ⟨rfl, rfl⟩
  | @cons q p kvs T hq _ ih =>
    rw [List.map_cons, List.find?_cons, List.find?_cons]
    by_cases c : p.1 = k
    · have e : decide ((kn q).1 = keyD (kd k)) = true := decide_eq_true (by show keyD q.1 = _; rw [hq.1, c])
      rw [e, decide_eq_true c]
      exact .inr ⟨_, _, rfl, rfl, hq.2⟩
    · have e : decide ((kn q).1 = keyD (kd k)) = false := decide_eq_false fun e => c (kk.inj (keyInj (kk.pl _) (kk.pl _) (by rw [← hq.1]; exact e)))
      rw [e, decide_eq_false c]
      exact ih
theorem rwAny (kk : Kd kd) {H : Hp} {kvs : List KvD} {T : List (κ × α)} (h : Paired (Rw K H kd vd) kvs T) (k : κ) : (kvs.any fun q => decide (keyD q.1 = keyD (kd k))) = T.any fun p => decide (p.1 = k) := by
  induction h with
  | nil => rfl
  | @cons q p kvs T hq _ ih =>
    rw [List.any_cons, List.any_cons, ih]
    congr 1
    refine decide_eq_decide.mpr ⟨fun e => kk.inj (keyInj (kk.pl _) (kk.pl _) (by rw [← hq.1]; exact e)), fun e => by rw [hq.1, e]⟩
theorem rwPut (kk : Kd kd) {H : Hp} {kvs : List KvD} {T : List (κ × α)} (h : Paired (Rw K H kd vd) kvs T) {k : κ} {x : α} (a : Addr) {v : V} (hv : Dp K H v (vd x)) : Paired (Rw K H kd vd) (storeD kvs (kd k) a v) (aPut T k x) := by
  unfold storeD aPut
  rw [rwAny kk h]
  split
  · have gen : ∀ {kvs : List KvD} {T : List (κ × α)}, Paired (Rw K H kd vd) kvs T → Paired (Rw K H kd vd) (kvs.map fun q => if keyD q.1 = keyD (kd k) then (q.1, q.2.1, v) else q) (T.map fun p => if p.1 = k then (p.1, x) else p) := fun h => by
      induction h with
      | nil => exact .nil
      | @cons q p kvs T hq _ ih =>
        rw [List.map_cons, List.map_cons]
        refine .cons ?_ ih
        by_cases c : p.1 = k
        · rw [if_pos c, if_pos (by rw [hq.1, c])]
          exact ⟨hq.1, hv⟩
        · rw [if_neg c, if_neg fun e => c (kk.inj (keyInj (kk.pl _) (kk.pl _) (by rw [← hq.1]; exact e)))]
          exact hq
    exact gen h
  · exact h.snoc ⟨rfl, hv⟩
theorem rwTS {H H' : Hp} (t : TS H H') (pv : ∀ x, ∃ n, Pl n (vd x)) {kvs : List KvD} {T : List (κ × α)} (h : Paired (Rw K H kd vd) kvs T) : Paired (Rw K H' kd vd) kvs T :=
  L2.Paired.mapP h fun _ p hq => ⟨hq.1, let ⟨_, o⟩ := pv p.2; dpTS t o _ hq.2⟩
theorem DA.ts {H H' : Hp} {d : Addr} {T : List (κ × α)} (h : DA P w K kd vd H d T) (t : TS H H') (pv : ∀ x, ∃ n, Pl n (vd x)) (e : H' d = H d) : DA P w K kd vd H' d T := by
  obtain ⟨kvs, n, p⟩ := h
  exact ⟨kvs, ⟨e.trans n.o, fun q hq => ⟨(n.k q hq).1, dpTS t (n.k q hq).1 _ (n.k q hq).2⟩⟩, rwTS t pv p⟩
theorem DA.same {H H' : Hp} {d : Addr} {T : List (κ × α)} (h : DA P w K kd vd H d T) (s : Same H H') (pv : ∀ x, ∃ n, Pl n (vd x)) : DA P w K kd vd H' d T :=
  h.ts (TS.same s) pv (by obtain ⟨kvs, n, _⟩ := h; rw [n.o, s _ _ n.o])
theorem DA.new {H : Hp} {d : Addr} : DA P w K kd vd (upd H d (ndO P w d [])) d ([] : List (κ × α)) := ⟨[], ⟨upd_same, fun q hq => absurd hq (by simp)⟩, .nil⟩
theorem DA.len {H : Hp} {d : Addr} {T : List (κ × α)} {kvs : List KvD} (h : Paired (Rw K H kd vd) kvs T) : kvs.length = T.length := ND.pairedLen h
theorem DA.put (kk : Kd kd) (pv : ∀ x, ∃ n, Pl n (vd x)) {H : Hp} {d a : Addr} {kvs : List KvD} {T : List (κ × α)} (n : Nd P w K H d kvs) (h : Paired (Rw K H kd vd) kvs T) {k : κ} {x : α} {v : V} (ha : Dp K H (.ref a) (kd k)) (hv : Dp K H v (vd x)) :
    DA P w K kd vd (upd H d (ndO P w d ((storeD kvs (kd k) a v).map kn))) d (aPut T k x) :=
  ⟨_, ndStep n ha (kk.pl k), rwTS (TS.put n.o) pv (rwPut kk h a hv)⟩
end
end REC

set_option Elab.async false
set_option linter.all false
set_option maxRecDepth 100000
set_option maxHeartbeats 4000000
/-! steps as data; what records are about -/
namespace REC
open PySem PySem.Spec PyProof.Rows L2 ND KS KS.La PLC
open TRE (kyD plKy)
inductive Stp
  | stop
  | wr (o z : Str)
  | rd (ks : List (Str × Str))
deriving DecidableEq
def stpD : Stp → PyData
  | .stop => .tuple [.str "stop"]
  | .wr o z => .tuple [.str "write", .str o, .str z]
  | .rd ks => .tuple [.str "read", .tuple (ks.map kyD)]
theorem plStp (s : Stp) : Pl 3 (stpD s) := by
  cases s with
  | stop =>
    refine .tup fun d hd => ?_
    rw [List.mem_singleton.mp hd]
    exact .str _ _
  | wr o z =>
    refine .tup fun d hd => ?_
    have : d = .str "write" ∨ d = .str o ∨ d = .str z := by simpa using hd
    rcases this with rfl | rfl | rfl <;> exact .str _ _
  | rd ks =>
    refine .tup fun d hd => ?_
    have : d = .str "read" ∨ d = .tuple (ks.map kyD) := by simpa using hd
    rcases this with rfl | rfl
    · exact .str _ _
    · refine .tup fun e he => ?_
      obtain ⟨k, _, rfl⟩ := List.mem_map.mp he
      exact plKy k
theorem kyD_inj {a b : Str × Str} (h : kyD a = kyD b) : a = b := by
  have h := PyData.tuple.inj h
  simp only [List.cons.injEq, PyData.str.injEq, and_true] at h
  exact Prod.ext h.1 h.2
theorem stpD_inj {a b : Stp} (h : stpD a = stpD b) : a = b := by
  cases a <;> cases b <;> simp [stpD] at h ⊢
  · exact h
  · exact mapInj kyD_inj h
theorem pvStp (s : Stp) : ∃ n, Pl n (stpD s) := ⟨3, plStp s⟩
theorem eqStp (a b : Stp) : PyData.eqv (stpD a) (stpD b) = decide (a = b) := by
  rw [Bool.eq_iff_iff, eqvPl (plStp a) (plStp b), decide_eq_true_eq]
  exact ⟨stpD_inj, fun e => by rw [e]⟩
/-- a step of few and right texts -/
def StpTx : Stp → Prop
  | .stop => True
  | .wr o z => TOk o ∧ SOk z ∧ z.length ≤ 2000
  | .rd ks => ks.length ≤ 4 ∧ ∀ k ∈ ks, TOk k.1 ∧ TOk k.2
theorem odS {n : Nat} {z : Str} (h : TOk z) : Od n (.str z) := .str _ (PLC.TOk.odS h).1 (PLC.TOk.odS h).2
theorem odStpTx {s : Stp} (h : StpTx s) : Od 3 (stpD s) := by
  cases s with
  | stop =>
    refine .tup (by show 1 ≤ 100; omega) fun d hd => ?_
    rw [List.mem_singleton.mp hd]
    exact odS (by decide +kernel)
  | wr o z =>
    refine .tup (by show 3 ≤ 100; omega) fun d hd => ?_
    have : d = .str "write" ∨ d = .str o ∨ d = .str z := by simpa using hd
    rcases this with rfl | rfl | rfl
    · exact odS (by decide +kernel)
    · exact odS h.1
    · exact .str _ h.2.1 h.2.2
  | rd ks =>
    refine .tup (by show 2 ≤ 100; omega) fun d hd => ?_
    have : d = .str "read" ∨ d = .tuple (ks.map kyD) := by simpa using hd
    rcases this with rfl | rfl
    · exact odS (by decide +kernel)
    · refine .tup (by rw [List.length_map]; have := h.1; omega) fun e he => ?_
      obtain ⟨k, hk, rfl⟩ := List.mem_map.mp he
      exact TRE.odKy (h.2 k hk)
/-- a step of right sizes -/
def StpOk (s : Stp) : Prop := Od 3 (stpD s)
theorem odStp {s : Stp} (h : StpOk s) : Od 3 (stpD s) := h
abbrev K3 : Type := Str × List Str × List (List (Option Str))
def k3D (k : K3) : PyData := .tuple [.str k.1, argsD k.2.1, rowsD k.2.2]
theorem plK3 (k : K3) : Pl 4 (k3D k) := .tup fun d hd => by
  have : d = .str k.1 ∨ d = argsD k.2.1 ∨ d = rowsD k.2.2 := by simpa using hd
  rcases this with rfl | rfl | rfl
  · exact .str _ _
  · exact (plArgs _).up (by omega)
  · exact plRows _
theorem k3D_inj {a b : K3} (h : k3D a = k3D b) : a = b := by
  have h := PyData.tuple.inj h
  simp only [List.cons.injEq, PyData.str.injEq, and_true] at h
  obtain ⟨h1, h2, h3⟩ := h
  exact Prod.ext h1 (Prod.ext (argsD_inj h2) (mapInj rowD_inj (PyData.tuple.inj h3)))
theorem kdPc : Kd pcD := ⟨fun p => (plPc p).up (by omega), pcD_inj⟩
theorem kdK3 : Kd k3D := ⟨fun p => (plK3 p).up (by omega), k3D_inj⟩
theorem pvPc (p : Pc) : ∃ n, Pl n (pcD p) := ⟨4, plPc p⟩
theorem pvArgs (l : List Str) : ∃ n, Pl n (argsD l) := ⟨1, plArgs l⟩
/-! ### in the heap -/
section
variable {K : PySem.W.Frag} {H : Hp}
theorem stopAt {v : V} (h : Dp K H v (stpD .stop)) : ∃ a, v = .ref a ∧ SqT K H a [.str "stop"] := by
  obtain ⟨a, xs, rfl, hs, hx⟩ := TRE.dpTup h
  obtain ⟨y, rfl, hy⟩ := TRE.dpOne hx
  rw [TRE.dpStr hy] at hs
  exact ⟨a, rfl, hs⟩
theorem dpThree {K : PySem.W.Frag} {H : Hp} {xs : List V} {a b c : PyData} (h : DpAll K H xs [a, b, c]) : ∃ x y z, xs = [x, y, z] ∧ Dp K H x a ∧ Dp K H y b ∧ Dp K H z c := by
  cases h with
  | cons h1 r =>
    obtain ⟨y, z, rfl, h2, h3⟩ := TRE.dpTwo r
    exact ⟨_, _, _, rfl, h1, h2, h3⟩
theorem wrAt {v : V} {o z : Str} (h : Dp K H v (stpD (.wr o z))) : ∃ a, v = .ref a ∧ SqT K H a [.str "write", .str o, .str z] := by
  obtain ⟨a, xs, rfl, hs, hx⟩ := TRE.dpTup h
  obtain ⟨x, y, u, rfl, hx1, hx2, hx3⟩ := dpThree hx
  rw [TRE.dpStr hx1, TRE.dpStr hx2, TRE.dpStr hx3] at hs
  exact ⟨a, rfl, hs⟩
theorem rdAt {v : V} {ks : List (Str × Str)} (h : Dp K H v (stpD (.rd ks))) : ∃ a vk, v = .ref a ∧ SqT K H a [.str "read", vk] ∧ Dp K H vk (.tuple (ks.map kyD)) := by
  obtain ⟨a, xs, rfl, hs, hx⟩ := TRE.dpTup h
  obtain ⟨x, y, rfl, hx1, hx2⟩ := TRE.dpTwo hx
  rw [TRE.dpStr hx1] at hs
  exact ⟨a, y, rfl, hs, hx2⟩
def word : Stp → Str
  | .stop => "stop"
  | .wr _ _ => "write"
  | .rd _ => "read"
theorem headAt {v : V} {s : Stp} (h : Dp K H v (stpD s)) : ∃ a xs, v = .ref a ∧ SqT K H a xs ∧ atI xs 0 = some (.str (word s)) := by
  cases s with
  | stop => obtain ⟨a, e, hs⟩ := stopAt h; exact ⟨a, _, e, hs, atI_nat (j := 0) rfl⟩
  | wr o z => obtain ⟨a, e, hs⟩ := wrAt h; exact ⟨a, _, e, hs, atI_nat (j := 0) rfl⟩
  | rd ks => obtain ⟨a, _, e, hs, _⟩ := rdAt h; exact ⟨a, _, e, hs, atI_nat (j := 0) rfl⟩
def isW : Stp → Bool
  | .wr _ _ => true
  | _ => false
def isR : Stp → Bool
  | .rd _ => true
  | _ => false
theorem wordW (s : Stp) : decide (word s = "write") = isW s := by
  cases s with
  | stop => exact (by decide +kernel : decide (("stop" : Str) = "write") = false)
  | wr o z => exact (by decide +kernel : decide (("write" : Str) = "write") = true)
  | rd ks => exact (by decide +kernel : decide (("read" : Str) = "write") = false)
theorem wordR (s : Stp) : decide (word s = "read") = isR s := by
  cases s with
  | stop => exact (by decide +kernel : decide (("stop" : Str) = "read") = false)
  | wr o z => exact (by decide +kernel : decide (("write" : Str) = "read") = false)
  | rd ks => exact (by decide +kernel : decide (("read" : Str) = "read") = true)
end
end REC

set_option Elab.async false
set_option linter.all false
set_option maxRecDepth 100000
set_option maxHeartbeats 8000000
/-! the program's looks at places -/
namespace REC
open PySem PySem.Spec PyProof.Rows L2 ND KS KS.La PLC
abbrev sFst : Stmt := top 19
abbrev sLen : Stmt := top 17
abbrev sLd : Stmt := top 22
abbrev sAh : Stmt := top 21
def isFst (p : Pc) : Bool := decide (p.rs = []) && decide (p.n = 0)
def leads (s : Option Stp) (p : Pc) : Bool := match s with
  | none => false
  | some s => if 0 < p.n then isW s else match s with
    | .rd ks => decide (ks.length = (p.rs.getLastD []).length)
    | _ => false
theorem leadsP {s : Stp} {p : Pc} (h : 0 < p.n) : leads (some s) p = isW s := by
  show (if 0 < p.n then isW s else _) = _
  rw [if_pos h]
theorem leadsN {s : Stp} {p : Pc} (h : ¬ 0 < p.n) : leads (some s) p = match s with | .rd ks => decide (ks.length = (p.rs.getLastD []).length) | _ => false := by
  show (if 0 < p.n then isW s else _) = _
  rw [if_neg h]
abbrev k3 (p : Pc) : K3 := (p.c, p.as, p.rs)
def aheadP (p : Pc) (R : List (K3 × Pc)) : Option Pc := if 0 < p.n then some { p with n := p.n - 1 } else aLook R (p.c, p.as, p.rs.dropLast)
def AtO (K : PySem.W.Frag) (H : Hp) (r : V) (o : Option Pc) : Prop := match o with
  | none => r = .non
  | some q => Dp K H r (pcD q)
theorem AtO.same {K : PySem.W.Frag} {H H' : Hp} {r : V} {o : Option Pc} (s : Same H H') (h : AtO K H r o) : AtO K H' r o := by
  cases o with
  | none => exact h
  | some q => exact dpSame s _ _ h
theorem cutDrop (xs : List V) : cutV xs none (some (-1)) = xs.dropLast := by
  show ((xs.drop 0).take ((if (-1 : Int) < 0 then ((-1 : Int) + (xs.length : Int)).toNat else min (-1 : Int).toNat xs.length) - 0)) = xs.dropLast
  rw [if_pos (by decide), List.drop_zero, List.dropLast_eq_take]
  congr 1
  omega
theorem dpLast {K : PySem.W.Frag} {H : Hp} {d : PyData} : ∀ {ds : List PyData} {xs : List V}, DpAll K H xs (ds ++ [d]) → ∃ ys v, xs = ys ++ [v] ∧ Dp K H v d
  | [], _, .cons h .nil => ⟨[], _, rfl, h⟩
  | _ :: ds, _, .cons h r => by
    obtain ⟨ys, v, rfl, hv⟩ := dpLast (ds := ds) r
    exact ⟨_ :: ys, v, rfl, hv⟩
section
variable {P : Program} {w : World} {K : PySem.W.Frag} {mg : Str → Option Value} {base : Heap} {f : Addr} {fd : FuncData}
def spFst (K : PySem.W.Frag) : Sp := fun vs H Q _ => ∃ v p, vs = [v] ∧ Dp K H v (pcD p) ∧ Q (.bl (isFst p)) H
abbrev nFst : List Str := ["place", "_", "answers", "count"]
theorem scFst : FnScope nFst ["place"] (defScope sFst) := ⟨rfl, rfl, rfl, by decide +kernel, rfl, by decide +kernel, by decide +kernel⟩
theorem okFst {k : Nat} (F : FnP K "is_first" sFst f fd) : FnOk P w K mg base CX0 (k + 1) f fd ["place"] (spFst K) := by
  refine F.ok scFst (fun vs H Q E h => ?_) (fun cdv A outer s H vs Q E hr h => ?_)
  · obtain ⟨v, p, rfl, _⟩ := h
    rfl
  · obtain ⟨v, p, rfl, hd, q⟩ := h
    obtain ⟨a, va, vr, rfl, hs, ha, hv⟩ := pcAt hd
    obtain ⟨b, xs, rfl, hb, hx⟩ := rowsAt hv
    refine ⟨_, PSs.nox (pss_cons (ps_asg (pv 0) (pg_tup rfl (pgs_cons (pg_name (i := 1) scFst.nd rfl (.inl rfl)) (pgs_cons (pg_name (i := 1) scFst.nd rfl (.inl rfl)) (pgs_cons (pg_name (i := 2) scFst.nd rfl (.inl rfl)) (pgs_cons (pg_name (i := 3) scFst.nd rfl (.inl rfl)) pgs_nil)))))) (pss_one (ps_ret (pe_and (pe_notT (pv 2)) (pe_one (pe_cmpR op_eq (pv 3) pe_int (nomark _))))))), ?_⟩
    refine ⟨.ref a, rfl, a, _, rfl, hs, rfl, _, _, rfl, _, _, rfl, _, _, rfl, _, _, rfl, rfl, ?_⟩
    have lx := dpLen hx
    rw [List.length_map] at lx
    refine ⟨.ref b, rfl, _, .inr (.inl ⟨xs, hb, rfl⟩), _, rfl, ?_⟩
    unfold isFst at q
    by_cases c : p.rs = []
    · have e : xs = [] := List.eq_nil_of_length_eq_zero (by rw [lx, c]; rfl)
      rw [e]
      refine iteT ⟨.int p.n, rfl, rfl, ?_⟩
      rw [decide_eq_true c, Bool.true_and] at q
      show Q (.bl (decide (V.int p.n = V.int 0))) H
      rw [show decide (V.int p.n = V.int 0) = decide (p.n = 0) from decide_eq_decide.mpr ⟨fun h => V.int.inj h, fun h => congrArg V.int h⟩]
      exact q
    · have e : xs ≠ [] := fun e => c (List.eq_nil_of_length_eq_zero (by rw [← lx, e]; rfl))
      rw [decide_eq_false c, Bool.false_and] at q
      cases xs with
      | nil => exact absurd rfl e
      | cons x xs => exact iteF q
def lenD : PyData → PyData
  | .tuple [_, _, .tuple rs, n] => .tuple [.int rs.length, n]
  | d => d
abbrev nLen : List Str := ["place", "_", "answers", "count"]
theorem scLen : FnScope nLen ["place"] (defScope sLen) := ⟨rfl, rfl, rfl, by decide +kernel, rfl, by decide +kernel, by decide +kernel⟩
theorem okLen {k : Nat} (F : FnP K "_length" sLen f fd) (B : Bn mg) : FnOk P w K mg base CX0 (k + 1) f fd ["place"] (spKey K isPc lenD) := by
  refine F.ok scLen (fun vs H Q E h => ?_) (fun cdv A outer s H vs Q E hr h => ?_)
  · obtain ⟨v, p, rfl, _⟩ := h
    rfl
  · obtain ⟨v, _, rfl, hd, ⟨p, okp, rfl⟩, q⟩ := h
    obtain ⟨a, va, vr, rfl, hs, ha, hv⟩ := pcAt hd
    obtain ⟨b, xs, rfl, hb, hx⟩ := rowsAt hv
    refine ⟨_, PSs.nox (pss_cons (ps_asg (pv 0) (pg_tup rfl (pgs_cons (pg_name (i := 1) scLen.nd rfl (.inl rfl)) (pgs_cons (pg_name (i := 1) scLen.nd rfl (.inl rfl)) (pgs_cons (pg_name (i := 2) scLen.nd rfl (.inl rfl)) (pgs_cons (pg_name (i := 3) scLen.nd rfl (.inl rfl)) pgs_nil)))))) (pss_one (ps_ret (pe_tup (pa_cons (pe_callB call_len_seq (by rfl) B.len PySem.boot_len (pa_cons (pv 2) pa_nil)) (pa_cons (pv 3) pa_nil)))))), ?_⟩
    refine ⟨.ref a, rfl, a, _, rfl, hs, rfl, _, _, rfl, _, _, rfl, _, _, rfl, _, _, rfl, rfl, ?_⟩
    have lx := dpLen hx
    refine ⟨.ref b, rfl, b, xs, rfl, .inr hb, .int p.n, rfl, (by show 2 ≤ sizeLine; decide), fun u hu => ?_⟩
    have su := sameUpd (o := .tup [.int xs.length, .int p.n]) hu
    refine q _ _ su (.tup (.inl (.inl upd_same)) (.cons ?_ (.cons (.int _) .nil)))
    rw [lx]
    exact .int _
def spLd (K : PySem.W.Frag) : Sp := fun vs H Q _ => ∃ v u so p, vs = [v, u] ∧ ((v = .non ∧ so = none) ∨ ∃ s, so = some s ∧ Dp K H v (stpD s)) ∧ Dp K H u (pcD p) ∧ (¬ 0 < p.n → p.rs ≠ []) ∧ Q (.bl (leads so p)) H
abbrev nLd : List Str := ["step", "place", "_", "answers", "count"]
theorem scLd : FnScope nLd ["step", "place"] (defScope sLd) := ⟨rfl, rfl, rfl, by decide +kernel, rfl, by decide +kernel, by decide +kernel⟩
theorem okLd {k : Nat} (F : FnP K "leads_to" sLd f fd) (B : Bn mg) : FnOk P w K mg base CX0 (k + 1) f fd ["step", "place"] (spLd K) := by
  refine F.ok scLd (fun vs H Q E h => ?_) (fun cdv A outer s H vs Q E hr h => ?_)
  · obtain ⟨v, u, so, p, rfl, _⟩ := h
    rfl
  · obtain ⟨v, u, so, p, rfl, hv0, hd, ne, q⟩ := h
    obtain ⟨a, va, vr, rfl, hs, ha, hv⟩ := pcAt hd
    obtain ⟨b, xs, rfl, hb, hx⟩ := rowsAt hv
    refine ⟨_, PSs.nox (pss_cons (ps_asg (pv 1) (pg_tup rfl (pgs_cons (pg_name (i := 2) scLd.nd rfl (.inl rfl)) (pgs_cons (pg_name (i := 2) scLd.nd rfl (.inl rfl)) (pgs_cons (pg_name (i := 3) scLd.nd rfl (.inl rfl)) (pgs_cons (pg_name (i := 4) scLd.nd rfl (.inl rfl)) pgs_nil)))))) (pss_cons (ps_if (pt_cmp (pc_isN (pv 0))) (pss_one (ps_ret pe_bl)) pss_nil) (pss_cons (ps_if (pt_cmpR op_gt (pv 4) pe_int (nomark _)) (pss_one (ps_ret (pe_cmpR op_eq (pe_ix ix_tup (pv 0) pe_int (fun _ _ => rfl)) pe_str (nomark _)))) pss_nil) (pss_one (ps_ret (pe_and (pe_cmpR op_eq (pe_ix ix_tup (pv 0) pe_int (fun _ _ => rfl)) pe_str (nomark _)) (pe_one (pe_cmpR op_eq (pe_callB call_len_seq (by rfl) B.len PySem.boot_len (pa_cons (pe_ix ix_tup (pv 0) pe_int (fun _ _ => rfl)) pa_nil)) (pe_callB call_len_seq (by rfl) B.len PySem.boot_len (pa_cons (pe_ix ix_tup (pv 3) (pe_un un_neg pe_int) (fun _ _ => rfl)) pa_nil)) (nomark _))))))))), ?_⟩
    refine ⟨.ref a, rfl, a, _, rfl, hs, rfl, _, _, rfl, _, _, rfl, _, _, rfl, _, _, rfl, rfl, ?_⟩
    rcases hv0 with ⟨rfl, rfl⟩ | ⟨s0, rfl, hv0⟩
    · exact ⟨.non, rfl, true, rfl, iteT q⟩
    · obtain ⟨c, ys, rfl, hc, h0⟩ := headAt hv0
      refine ⟨.ref c, rfl, false, rfl, iteF ⟨.int p.n, rfl, p.n, 0, rfl, rfl, _, rfl, ?_⟩⟩
      have hlast : ∀ {n : Int}, n = -1 → ¬ 0 < p.n → ∃ (t : Addr) (us : List V), atI xs n = some (.ref t) ∧ SqT K H t us ∧ us.length = (p.rs.getLastD []).length := fun {n} en hn => by
        have hne := ne hn
        obtain ⟨i, row, e⟩ : ∃ i row, p.rs = i ++ [row] := ⟨p.rs.dropLast, p.rs.getLast hne, (List.dropLast_concat_getLast hne).symm⟩
        rw [e, List.map_append] at hx
        obtain ⟨ys, v, e2, hv2⟩ := dpLast hx
        obtain ⟨t, rfl, ht⟩ := rowAt hv2
        refine ⟨t, _, ?_, ht, ?_⟩
        · rw [en, e2]
          exact atI_last _ _
        · rw [e, List.getLastD_eq_getLast?, List.getLast?_append]
          simp
      refine ite2 (fun e => ?_) (fun e => ?_)
      · have hp : 0 < p.n := of_decide_eq_true e
        refine ⟨.ref c, rfl, c, ys, 0, _, rfl, rfl, hc, h0, rfl, ?_⟩
        rw [TRE.wordEq, wordW]
        rw [leadsP hp] at q
        exact q
      · have hp : ¬ 0 < p.n := fun z => e (decide_eq_true z)
        refine ⟨.ref c, rfl, c, ys, 0, _, rfl, rfl, hc, h0, rfl, _, rfl, ?_⟩
        rw [TRE.wordEq, wordR]
        rw [leadsN hp] at q
        cases s0 with
        | stop => exact iteF q
        | wr o z => exact iteF q
        | rd ks =>
          obtain ⟨c2, vk, e2, hs2, hk⟩ := rdAt hv0
          cases e2
          obtain ⟨t, us, rfl, ht, hus⟩ := TRE.dpTup hk
          have l1 := dpLen hus
          rw [List.length_map] at l1
          obtain ⟨t2, us2, e3, ht2, l2⟩ := hlast rfl hp
          refine iteT ⟨.ref c, rfl, c, _, 1, .ref t, rfl, rfl, hs2, rfl, t, us, rfl, .inr ht, .ref b, rfl, 1, rfl, b, xs, _, .ref t2, rfl, rfl, hb, e3, t2, us2, rfl, .inr ht2, rfl, ?_⟩
          have ed : decide (V.int us.length = V.int us2.length) = decide (ks.length = (p.rs.getLastD []).length) := by
            rw [l1, l2]
            exact decide_eq_decide.mpr ⟨fun h => by have := V.int.inj h; omega, fun h => by rw [h]⟩
          rw [ed]
          exact q
end
end REC

set_option Elab.async false
set_option linter.all false
set_option maxRecDepth 100000
set_option maxHeartbeats 4000000
/-! d.get(k), d.get(k, x) as expressions -/
namespace ND
open PySem PySem.Spec PyProof.Rows L2
def tDGetN1 (P : Program) (w : World) (K : PySem.W.Frag) (td ty : TE) : TE := fun σ H Q => td σ H fun x H1 => (∃ d kvs, x = .ref d ∧ NdQ P w K H1 d kvs) ∧ ty σ H1 fun y H2 => rGetN P w K x [y] H2 Q
def tDGetN2 (P : Program) (w : World) (K : PySem.W.Frag) (td ty tz : TE) : TE := fun σ H Q => td σ H fun x H1 => (∃ d kvs, x = .ref d ∧ NdQ P w K H1 d kvs) ∧ ty σ H1 fun y H2 => tz σ H2 fun z H3 => rGetN P w K x [y, z] H3 Q
section
variable {X : Cx} {o e f : Expr} {apos cpos : Pos} {td ty tx : TE}
theorem ndIs {pins : List (Addr × Obj)} {σ : L2.St} {H : Hp} {s : Shared} {d : Addr} {kvs : List KvD} (n : NdQ X.prog X.w X.K H d kvs) (I : Inv X pins σ H s) : s.TypeIs (.ref d) "dict" ∧ (∀ b, Value.ref d = .ref b → ∃ ob, s.heap.get? b = some ob ∧ ob.dict = none) := by
  obtain ⟨_, _, xs, _, dd⟩ := n.heap I
  obtain ⟨ob, _, _, h1, h2, _⟩ := id dd
  exact ⟨dd.typeIs, fun b q => by cases q; exact ⟨ob, h1, h2.2.1⟩⟩
theorem pe_dgetN1 (hu : X.A.units + 9 < cLine) (ho : PE X o td) (he : PE X e ty) (m : M1 X o "get" apos e cpos) : PE X (.Call (.Attribute o "get" apos) [e] [] cpos) (tDGetN1 X.prog X.w X.K td ty) := by
  refine ⟨fun pins s σ H Q I h => ?_⟩
  refine wpAny_Call_method m.base m.few m.line PySem.F.plainAttrs_dict PySem.F.slot_dict_get PySem.F.type_dict_get (thn (ho.run pins s σ H _ I h) fun u s1 ⟨x, H1, I1, rx, ⟨a, kvs, ex, d⟩, q1⟩ => ?_)
  subst ex
  obtain rfl : u = Value.ref a := rx
  obtain ⟨t1, t2⟩ := ndIs d I1
  refine ⟨t1, t2, ?_⟩
  rw [m.trees]
  refine Calls.callWith_builtin rfl (Calls.evalArgs_plain (Calls.spliced_cons (thn (he.run pins s1 σ H1 _ I1 q1) fun iv s2 ⟨y, H2, I2, ry, g⟩ => Calls.spliced_nil ?_)))
  exact mt_getN hu pins s2 σ H2 (.ref a) [y] (.ref a) [iv] Q I2 rfl (.cons ry .nil) g
theorem pe_dgetN2 (hu : X.A.units + 9 < cLine) (ho : PE X o td) (he : PE X e ty) (hf : PE X f tx) (m : M2 X o "get" apos e f cpos) : PE X (.Call (.Attribute o "get" apos) [e, f] [] cpos) (tDGetN2 X.prog X.w X.K td ty tx) := by
  refine ⟨fun pins s σ H Q I h => ?_⟩
  refine wpAny_Call_method m.base m.few m.line PySem.F.plainAttrs_dict PySem.F.slot_dict_get PySem.F.type_dict_get (thn (ho.run pins s σ H _ I h) fun u s1 ⟨x, H1, I1, rx, ⟨a, kvs, ex, d⟩, q1⟩ => ?_)
  subst ex
  obtain rfl : u = Value.ref a := rx
  obtain ⟨t1, t2⟩ := ndIs d I1
  refine ⟨t1, t2, ?_⟩
  rw [m.trees]
  refine Calls.callWith_builtin rfl (Calls.evalArgs_plain (Calls.spliced_cons (thn (he.run pins s1 σ H1 _ I1 q1) fun iv s2 ⟨y, H2, I2, ry, q2⟩ =>
    Calls.spliced_cons (thn (hf.run pins s2 σ H2 _ I2 q2) fun fv s3 ⟨z, H3, I3, rz, g⟩ => Calls.spliced_nil ?_))))
  exact mt_getN hu pins s3 σ H3 (.ref a) [y, z] (.ref a) [iv, fv] Q I3 rfl (.cons ry (.cons rz .nil)) g
end
end ND

set_option Elab.async false
set_option linter.all false
set_option maxRecDepth 100000
set_option maxHeartbeats 8000000
/-! the place ahead; the reads of a table; a table in growing order -/
namespace REC
open PySem PySem.Spec PyProof.Rows L2 ND KS KS.La PLC
abbrev sRds : Stmt := top 18
abbrev sGrow : Stmt := top 16
abbrev TA (P : Program) (w : World) (K : PySem.W.Frag) := DA P w K pcD stpD
abbrev RA (P : Program) (w : World) (K : PySem.W.Frag) := DA P w K k3D pcD
theorem allDropLast {K : PySem.W.Frag} {H : Hp} : ∀ {xs : List V} {ds : List PyData}, DpAll K H xs ds → DpAll K H xs.dropLast ds.dropLast
  | _, _, .nil => .nil
  | _, _, .cons _ .nil => .nil
  | _, _, .cons h (.cons h2 r) => .cons h (allDropLast (.cons h2 r))
section
variable {P : Program} {w : World} {K : PySem.W.Frag} {mg : Str → Option Value} {base : Heap} {f : Addr} {fd : FuncData}
def spAh (P : Program) (w : World) (K : PySem.W.Frag) : Sp := fun vs H Q _ => ∃ v d p R, vs = [v, .ref d] ∧ Dp K H v (pcD p) ∧ RA P w K H d R ∧ p.rs.length ≤ 1000 ∧ ∀ r H', Same H H' → AtO K H' r (aheadP p R) → Q r H'
abbrev nAh : List Str := ["place", "reads", "recipe", "arguments", "answers", "count"]
theorem scAh : FnScope nAh ["place", "reads"] (defScope sAh) := ⟨rfl, rfl, rfl, by decide +kernel, rfl, by decide +kernel, by decide +kernel⟩
theorem okAh {k : Nat} (F : FnP K "place_ahead" sAh f fd) : FnOk P w K mg base CX0 (k + 1) f fd ["place", "reads"] (spAh P w K) := by
  refine F.ok scAh (fun vs H Q E h => ?_) (fun cdv A outer s H vs Q E hr h => ?_)
  · obtain ⟨v, d, p, R, rfl, _⟩ := h
    rfl
  · obtain ⟨v, d, p, R, rfl, hd, hR, l, q⟩ := h
    obtain ⟨a, va, vr, rfl, hs, ha, hv⟩ := pcAt hd
    obtain ⟨b, xs, rfl, hb, hx⟩ := rowsAt hv
    have hu := hr.units
    refine ⟨_, PSs.nox (pss_cons (ps_asg (pv 0) (pg_tup rfl (pgs_cons (pg_name (i := 2) scAh.nd rfl (.inl rfl)) (pgs_cons (pg_name (i := 3) scAh.nd rfl (.inl rfl)) (pgs_cons (pg_name (i := 4) scAh.nd rfl (.inl rfl)) (pgs_cons (pg_name (i := 5) scAh.nd rfl (.inl rfl)) pgs_nil)))))) (pss_cons (ps_if (pt_cmpR op_gt (pv 5) pe_int (nomark _)) (pss_one (ps_ret (pe_tup (pa_cons (pv 2) (pa_cons (pv 3) (pa_cons (pv 4) (pa_cons (pe_op op_sub (pv 5) pe_int) pa_nil))))))) pss_nil) (pss_one (ps_ret (pe_dgetN1 (Nat.lt_of_le_of_lt (Nat.add_le_add_left (by decide) _) hu) (pv 1) (pe_tup (pa_cons (pv 2) (pa_cons (pv 3) (pa_cons (pe_slice sl_tupA (pv 4) po_none (po_some (pe_un un_neg pe_int))) pa_nil)))) ⟨rfl, rfl, rfl, rfl⟩))))), ?_⟩
    refine ⟨.ref a, rfl, a, _, rfl, hs, rfl, _, _, rfl, _, _, rfl, _, _, rfl, _, _, rfl, rfl, ?_⟩
    refine ⟨.int p.n, rfl, p.n, 0, rfl, rfl, _, rfl, ite2 (fun e => ?_) (fun e => ?_)⟩
    · have hp : 0 < p.n := of_decide_eq_true e
      refine ⟨.str p.c, rfl, va, rfl, .ref b, rfl, .int p.n, rfl, p.n, 1, rfl, rfl, (by show 4 ≤ sizeLine; decide), fun u hu => ?_⟩
      have su := sameUpd (o := .tup [.str p.c, va, .ref b, .int (p.n - 1)]) hu
      refine q _ _ su ?_
      unfold aheadP
      rw [if_pos hp]
      exact pcMk (p := { p with n := p.n - 1 }) (.inl (.inl upd_same)) (dpSame su _ _ ha) (dpSame su _ _ hv)
    · have hp : ¬ 0 < p.n := fun z => e (decide_eq_true z)
      obtain ⟨kvs, n, pr⟩ := hR
      refine ⟨.ref d, rfl, ⟨d, kvs, rfl, n.q⟩, .str p.c, rfl, va, rfl, .ref b, rfl, 1, rfl, -1, rfl, cutAny hb fun t H1 ht s1 => ⟨(by show 3 ≤ sizeLine; decide), fun u hu => ?_⟩⟩
      rw [cutDrop] at ht
      have su := sameUpd (o := .tup [.str p.c, va, .ref t]) hu
      have s2 := s1.trans su
      have dk : Dp K (upd H1 u (.tup [.str p.c, va, .ref t])) (.ref u) (k3D (p.c, p.as, p.rs.dropLast)) := by
        refine .tup (.inl (.inl upd_same)) (.cons (.str _) (.cons (dpSame s2 _ _ ha) (.cons (.tup (sameTup su ht) ?_) .nil)))
        rw [List.map_dropLast]
        exact allDropLast (dpAllSame s2 _ _ hx)
      have hR2 := DA.same (d := d) (T := R) ⟨kvs, n, pr⟩ s2 pvPc
      obtain ⟨kvs2, n2, pr2⟩ := hR2
      refine ⟨d, kvs2, .ref u, .non, _, rfl, n2.q, .inr ⟨u, _, rfl, dk, kdK3.pl _, rfl⟩, .inl ⟨rfl, rfl⟩, ?_⟩
      refine q _ _ s2 ?_
      unfold aheadP
      rw [if_neg hp]
      rcases rwVal kdK3 pr2 (p.c, p.as, p.rs.dropLast) with ⟨e1, e2⟩ | ⟨v, x, e1, e2, e3⟩
      · rw [e1, e2]
        rfl
      · rw [e1, e2]
        exact e3
/-! ### the reads -/
theorem ndcTJ {P : Program} {w : World} {K : PySem.W.Frag} {J : It} {n : Nat} {g : TG} {tt : TT} {tk tv : TE} {vs : List Nat} {σ : L2.St} {H1 : Hp} {D : Addr} {Qd : Hp → Prop} (Pv : Nat → Hp → Prop) (h0 : Pv 0 (upd H1 D (ndO P w D []))) (hgo : ∀ i T, i < n → Pv i T → J.go i T) (hst : ∀ T, Pv n T → J.stop n T)
    (hs : ∀ i T x T', i < n → Pv i T → J.yld i T x T' → turnT P w K D g tt tk tv vs σ x (Pv (i + 1)) T') (hd : ∀ T, Pv n T → Qd T) :
    ∃ W : Nat → Nat → Hp → Prop, (∃ m, W 0 m (upd H1 D (ndO P w D []))) ∧ ∀ i m T, W i m T → (J.stop i T ∧ Qd T) ∨ (J.go i T ∧ ∃ Nx : Hp → Prop, (∀ T', Nx T' → ∃ m', m' < m ∧ W (i + 1) m' T') ∧ ∀ x T', J.yld i T x T' → turnT P w K D g tt tk tv vs σ x Nx T') := by
  refine ⟨fun i m T => m = n - i ∧ i ≤ n ∧ Pv i T, ⟨_, rfl, Nat.zero_le _, h0⟩, fun i m T hW => ?_⟩
  obtain ⟨rfl, hi, hp⟩ := hW
  rcases Nat.lt_or_ge i n with lt | ge
  · exact .inr ⟨hgo i T lt hp, Pv (i + 1), fun T' h => ⟨n - (i + 1), by omega, rfl, lt, h⟩, fun x T' y => hs i T x T' lt hp y⟩
  · have e : i = n := by omega
    subst e
    exact .inl ⟨hst T hp, hd T hp⟩
theorem rwAt {K : PySem.W.Frag} {κ α : Type} {kd : κ → PyData} {vd : α → PyData} {H : Hp} : ∀ {kvs : List KvD} {T : List (κ × α)}, Paired (Rw K H kd vd) kvs T → ∀ {i : Nat} {q : KvD}, kvs[i]? = some q → ∃ p, T[i]? = some p ∧ Rw K H kd vd q p
  | _, _, .nil, i, q, e => by simp at e
  | _, _, .cons h t, 0, q, e => by cases e; exact ⟨_, rfl, h⟩
  | _, _, .cons h t, i + 1, q, e => by
    obtain ⟨p, a, b⟩ := rwAt t (i := i) (by simpa using e)
    exact ⟨p, by simpa using a, b⟩
theorem TS.unlock {P : Program} {w : World} {H : Hp} {d : Addr} {od : Obj} {ks : List KvN} {o : HO} (h : H d = some (.frz od (ndO P w d ks))) : TS H (upd H d o) := fun a u e t => by
  rw [upd_ne fun z => ?_]
  · exact e
  · rw [z, h] at e
    have e2 := Option.some.inj e
    rcases t with ⟨xs, rfl⟩ | ⟨p, xs, rfl⟩ <;> cases e2
def rdS (R : List (K3 × Pc)) (q : Pc × Stp) : List (K3 × Pc) := if isR q.2 = true then aPut R (k3 q.1) q.1 else R
def rdsIn (T : List (Pc × Stp)) : List (K3 × Pc) := T.foldl rdS []
theorem rdsIn_snoc (T : List (Pc × Stp)) (q : Pc × Stp) : rdsIn (T ++ [q]) = rdS (rdsIn T) q := by
  unfold rdsIn
  rw [List.foldl_append]
  rfl
def spRds (P : Program) (w : World) (K : PySem.W.Frag) : Sp := fun vs H Q _ => ∃ d T, vs = [.ref d] ∧ TA P w K H d T ∧ (T.map (·.1)).Nodup ∧ T.length ≤ 1000 ∧ ∀ r H', Same H H' → RA P w K H' r (rdsIn T) → Q (.ref r) H'
theorem scRds : FnScope ["table", "place"] ["table"] (defScope sRds) := ⟨rfl, rfl, rfl, by decide +kernel, rfl, by decide +kernel, by decide +kernel⟩
theorem okRds {k : Nat} (F : FnP K "reads_in" sRds f fd) : FnOk P w K mg base CX0 (k + 1) f fd ["table"] (spRds P w K) := by
  refine F.ok scRds (fun vs H Q E h => ?_) (fun cdv A outer s H vs Q E hr h => ?_)
  · obtain ⟨d, T, rfl, _⟩ := h
    rfl
  · obtain ⟨d, T, rfl, ⟨kvs, n, pr⟩, nd, lT, q⟩ := h
    have hu9 : (A.deeper (envOfC "reads_in" (defScope sRds) s.heap.objs.size f cdv)).units + 9 < cLine := Nat.lt_of_le_of_lt (Nat.add_le_add_left (by decide) _) hr.units
    have hu8 : (A.deeper (envOfC "reads_in" (defScope sRds) s.heap.objs.size f cdv)).units + 8 < cLine := by omega
    refine ⟨_, PSs.nox (pss_one (ps_ret (pe_lock (pe_ndcT (own := [("place", 1)]) (g := gName 1) hu8 rfl scRds.nd (pi_nd (pv 0)) (blkOk_by (N := ["table", "place"]) (sc := defScope sRds) (by decide +kernel))
        (fun _ _ _ _ _ => pg_name (i := 1) scRds.nd rfl (.inl rfl) (hf := .inr rfl)) (fun _ _ _ _ _ => pts_one (pt_cmpR op_eq (pe_ix (r := rIxT K) ix_tup (pe_ix (r := rIxQ P w K) (ix_ndq hu9) (pv 0) (pv 1) (fun _ _ => rfl)) pe_int (fun _ _ => rfl)) pe_str (nomark _))) (fun _ _ _ _ _ => pe_slice (r := rSlA K) sl_tupA (pv 1) po_none (po_some pe_int)) (fun _ _ _ _ _ => pv 1))))), ?_⟩
    refine ⟨d, _, n.o, True.intro, fun od => ⟨.ref d, rfl, d, od, kvs, rfl, upd_same, fun D hD => ?_⟩⟩
    have hDd : D ≠ d := fun z => by rw [z, upd_same] at hD; cases hD
    have lk := ND.pairedLen pr
    have tL : TS H (upd H d (.frz od (ndO P w d (kvs.map kn)))) := TS.put n.o
    have eL : (upd H d (.frz od (ndO P w d (kvs.map kn)))) d = some (.frz od (ndO P w d (kvs.map kn))) := upd_same
    have sL : ∀ b o, b ≠ d → H b = some o → (upd H d (.frz od (ndO P w d (kvs.map kn)))) b = some o := fun b o nb hb => by rw [upd_ne nb]; exact hb
    generalize upd H d (.frz od (ndO P w d (kvs.map kn))) = HL at *
    have prL := rwTS tL pvStp pr
    have kL : ∀ q ∈ kvs, Pl 8 q.1 ∧ Dp K HL (.ref q.2.1) q.1 := fun q hq => ⟨(n.k q hq).1, dpTS tL (n.k q hq).1 _ (n.k q hq).2⟩
    refine ndcTJ (P := P) (w := w) (K := K) (n := kvs.length) (fun i T' => Same HL T' ∧ ∃ kv2, Nd P w K T' D kv2 ∧ Paired (Rw K T' k3D pcD) kv2 (rdsIn (T.take i)) ∧ kv2.length ≤ i) ⟨sameUpd hD, [], ⟨upd_same, fun q hq => absurd hq (by simp)⟩, .nil, Nat.le_refl _⟩
      (fun i T' lt h => ⟨h.1 _ _ eL, lt⟩) (fun T' h => ⟨h.1 _ _ eL, Nat.le_refl _⟩) (fun i T' x T2 lt h y => ?_) (fun T' h => ?_)
    · obtain ⟨rfl, q0, eq0, rfl⟩ := y
      obtain ⟨s1, kv2, n2, pr2, l2⟩ := h
      have lt2 : i < T.length := by omega
      obtain ⟨p0, e0, r1, r2⟩ := rwAt prL eq0
      obtain rfl : T[i] = p0 := by rw [List.getElem?_eq_getElem lt2] at e0; exact Option.some.inj e0
      have dk := (kL q0 (List.mem_of_getElem? eq0)).2
      rw [r1] at dk
      have dk1 := dpSame s1 _ _ dk
      have pr1 : Paired (Rw K T2 pcD stpD) kvs T := L2.Paired.mapP prL fun _ _ h => ⟨h.1, dpSame s1 _ _ h.2⟩
      have al := aLook_at nd (List.getElem_mem lt2)
      obtain ⟨v, ev, dv⟩ : ∃ v, valN (kvs.map kn) (keyD (pcD T[i].1)) = some v ∧ Dp K T2 v (stpD T[i].2) := by
        rcases rwVal kdPc pr1 T[i].1 with ⟨_, b⟩ | ⟨v, x, a, b, c⟩
        · rw [al] at b; cases b
        · rw [al] at b
          cases b
          exact ⟨v, a, c⟩
      obtain ⟨c, ys, rfl, hc, h0⟩ := headAt dv
      refine ⟨rfl, .ref d, rfl, .ref q0.2.1, rfl, d, q0.2.1, _, kvs, .ref c, rfl, rfl, ⟨.inr ⟨od, s1 _ _ eL⟩, fun q hq => ⟨(kL q hq).1, dpSame s1 _ _ (kL q hq).2⟩⟩, dk1, kdPc.pl _, ev, c, ys, 0, _, rfl, rfl, hc, h0, rfl, _, rfl, ?_⟩
      rw [TRE.wordEq, wordR]
      have tk1 : T.take (i + 1) = T.take i ++ [T[i]] := List.take_succ_eq_append_getElem lt2
      cases er : isR T[i].2 with
      | false =>
        refine iteF ⟨s1, kv2, n2, ?_, by omega⟩
        rw [tk1, rdsIn_snoc]
        unfold rdS
        rw [er, if_neg Bool.false_ne_true]
        exact pr2
      | true =>
        obtain ⟨a, va, vr, ea, hs, ha, hv⟩ := pcAt dk1
        have ea2 : q0.2.1 = a := V.ref.inj ea
        rw [← ea2] at hs
        refine iteT ⟨.ref q0.2.1, rfl, 3, rfl, cutAny hs fun t H3 ht s3 => ⟨.ref q0.2.1, rfl, ?_⟩⟩
        have ht : SqT K H3 t [.str T[i].1.c, va, vr] := ht
        have dk3 : Dp K H3 (.ref t) (k3D (k3 T[i].1)) := .tup ht (.cons (.str _) (.cons (dpSame s3 _ _ ha) (.cons (dpSame s3 _ _ hv) .nil)))
        have n3 : Nd P w K H3 D kv2 := ⟨s3 _ _ n2.o, fun q hq => ⟨(n2.k q hq).1, dpSame s3 _ _ (n2.k q hq).2⟩⟩
        have pr3 : Paired (Rw K H3 k3D pcD) kv2 (rdsIn (T.take i)) := L2.Paired.mapP pr2 fun _ _ h => ⟨h.1, dpSame s3 _ _ h.2⟩
        refine ⟨kv2, t, _, rfl, n3, dk3, kdK3.pl _, by rw [sizeLine_eq]; omega, fun b o hb => ?_, ?_⟩
        · rw [upd_ne (ne_of_none hb hD)]
          exact s3 _ _ (s1 _ _ hb)
        · have put := DA.put kdK3 pvPc n3 pr3 dk3 (x := T[i].1) (v := .ref q0.2.1) (dpSame s3 _ _ dk1)
          obtain ⟨kv4, n4, pr4⟩ := put
          refine ⟨storeD kv2 (k3D (k3 T[i].1)) t (.ref q0.2.1), ndStep n3 dk3 (kdK3.pl _), ?_, by have := storeLen kv2 (k3D (k3 T[i].1)) t (.ref q0.2.1); omega⟩
          rw [tk1, rdsIn_snoc]
          unfold rdS
          rw [er, if_pos rfl]
          exact rwTS (TS.put n3.o) pvPc (rwPut kdK3 pr3 t (dpSame s3 _ _ dk1))
    · obtain ⟨s1, kv2, n2, pr2, l2⟩ := h
      rw [List.take_of_length_le (by omega)] at pr2
      refine ⟨s1 _ _ eL, q D _ (fun b o hb => ?_) ?_⟩
      · by_cases c : b = d
        · subst c
          rw [upd_same, ← n.o, hb]
        · rw [upd_ne c]
          exact s1 _ _ (sL b o c hb)
      · refine DA.ts (T := rdsIn T) ⟨kv2, n2, pr2⟩ (TS.unlock (s1 _ _ eL)) pvPc ?_
        rw [upd_ne hDd]
end
end REC

set_option Elab.async false
set_option linter.all false
set_option maxRecDepth 100000
set_option maxHeartbeats 8000000
/-! a table in growing order -/
namespace REC
open PySem PySem.Spec PyProof.Rows L2 ND KS KS.La PLC
def shorter (p q : Pc) : Prop := p.rs.length < q.rs.length ∨ (p.rs.length = q.rs.length ∧ p.n < q.n)
/-- each place behind all shorter ones -/
structure Grows (T : List (Pc × Stp)) (G : List Pc) : Prop where
  pm : G.Perm (T.map (·.1))
  up : G.Pairwise fun a b => ¬ shorter b a
theorem exPerm {α β : Type} {f : α → β} {l m : List β} (h : l.Perm m) : ∀ {D : List α}, m = D.map f → ∃ G : List α, G.Perm D ∧ l = G.map f := by
  induction h with
  | nil =>
    intro D e
    cases D with
    | nil => exact ⟨[], .nil, rfl⟩
    | cons d D => cases e
  | @cons x l m _ ih =>
    intro D e
    cases D with
    | nil => cases e
    | cons d D =>
      rw [List.map_cons, List.cons.injEq] at e
      obtain ⟨G, g1, g2⟩ := ih e.2
      exact ⟨d :: G, g1.cons d, by rw [List.map_cons, ← e.1, g2]⟩
  | swap x y l =>
    intro D e
    match D, e with
    | d1 :: d2 :: D, e =>
      rw [List.map_cons, List.map_cons, List.cons.injEq, List.cons.injEq] at e
      exact ⟨d2 :: d1 :: D, .swap _ _ _, by rw [List.map_cons, List.map_cons, ← e.1, ← e.2.1, ← e.2.2]⟩
  | trans _ _ ih1 ih2 =>
    intro D e
    obtain ⟨G2, g1, g2⟩ := ih2 e
    obtain ⟨G, g3, g4⟩ := ih1 g2
    exact ⟨G, g3.trans g1, g4⟩
theorem rwKeys {K : PySem.W.Frag} {κ α : Type} {kd : κ → PyData} {vd : α → PyData} {H : Hp} {kvs : List KvD} {T : List (κ × α)} (h : Paired (Rw K H kd vd) kvs T) : kvs.map (·.1) = (T.map (·.1)).map kd := by
  induction h with
  | nil => rfl
  | cons a _ ih => rw [List.map_cons, List.map_cons, List.map_cons, ih, a.1]
theorem lenPc (p : Pc) : lenD (pcD p) = .tuple [.int p.rs.length, .int p.n] := by
  show PyData.tuple [.int ((p.rs.map rowD).length : Nat), .int p.n] = _
  rw [List.length_map]
section
variable {P : Program} {w : World} {K : PySem.W.Frag} {mg : Str → Option Value} {base : Heap} {f : Addr} {fd : FuncData}
def spGrow (P : Program) (w : World) (K : PySem.W.Frag) : Sp := fun vs H Q _ => ∃ d T, vs = [.ref d] ∧ TA P w K H d T ∧ (∀ p ∈ T.map (·.1), Ok p) ∧ ∀ r ys G H', Same H H' → H r = none → H' r = some (.lst ys) → DpAll K H' ys (G.map pcD) → Grows T G → Q (.ref r) H'
theorem scGrow : FnScope ["table"] ["table"] (defScope sGrow) := ⟨rfl, rfl, rfl, by decide +kernel, rfl, by decide +kernel, by decide +kernel⟩
theorem okGrow {k fr : Nat} {fdr : FuncData} (F : FnP K "in_growing_order" sGrow f fd) (ms : mg "sorted" = none) (gR : mg "_length" = some (.ref fr)) (bR : Binds K fdr ["place"] []) (GR : FnOk P w K mg base CX0 (k + 1) fr fdr ["place"] (spKey K isPc lenD)) : FnOk P w K mg base CX0 (k + 4) f fd ["table"] (spGrow P w K) := by
  refine F.ok scGrow (fun vs H Q E h => ?_) (fun cdv A outer s H vs Q E hr h => ?_)
  · obtain ⟨d, T, rfl, _⟩ := h
    rfl
  · obtain ⟨d, T, rfl, ⟨kvs, n, pr⟩, ok, q⟩ := h
    have hu := hr.units
    refine ⟨_, PSs.nox (pss_one (ps_ret (pe_callBK (cr_sortedNK GR hr bR (Nat.lt_of_le_of_lt (Nat.add_le_add_left (by decide) _) hu) rfl) (by rfl) ms (by decide +kernel) (pa_cons (pv 0) pa_nil) (pk_cons (pe_glob (v := .ref fr) (by rfl) gR rfl) pk_nil)))), ?_⟩
    have keys := rwKeys pr
    have memb : ∀ q ∈ kvs, ∃ p ∈ T.map (·.1), q.1 = pcD p := fun q hq => by
      have : q.1 ∈ (T.map (·.1)).map pcD := by rw [← keys]; exact List.mem_map_of_mem hq
      obtain ⟨p, hp, e⟩ := List.mem_map.mp this
      exact ⟨p, hp, e.symm⟩
    have er : (kvs.map fun q => lenD q.1) = (T.map (·.1)).map fun p : Pc => PyData.tuple [.int p.rs.length, .int p.n] := by
      have e1 : (kvs.map fun q => lenD q.1) = (kvs.map (·.1)).map lenD := by rw [List.map_map]; rfl
      rw [e1, keys, List.map_map]
      exact List.map_congr_left fun p _ => lenPc p
    refine ⟨.ref d, rfl, d, kvs, rfl, rfl, n, fun q0 hq => ?_, fun q0 hq => ?_, ?_, ?_, fun l hl => ?_⟩
    · obtain ⟨p, hp, e⟩ := memb q0 hq
      exact ⟨p, ok p hp, e⟩
    · obtain ⟨p, hp, e⟩ := memb q0 hq
      rw [e, lenPc]
      refine .tup fun d hd => ?_
      have : d = .int p.rs.length ∨ d = .int p.n := by simpa using hd
      rcases this with rfl | rfl <;> exact .int _ _
    · rw [er]
      exact PySem.W.AllAlike.of fun a b => by simp [PySem.W.alike, PySem.W.alikeAll]
    · rw [er]
      exact PySem.W.Sortable.tuples fun p => ⟨_, _, rfl⟩
    · have sl := sameUpd (o := .lst ((sortK lenD kvs).map fun q => .ref q.2.1)) hl
      have pm : (sortK lenD kvs).Perm kvs := List.mergeSort_perm _ _
      obtain ⟨G, g1, g2⟩ := exPerm (f := pcD) (pm.map (·.1)) keys
      have dp : ∀ m : List KvD, (∀ q ∈ m, q ∈ kvs) → DpAll K (upd H l (.lst ((sortK lenD kvs).map fun q => .ref q.2.1))) (m.map fun q => .ref q.2.1) (m.map (·.1)) := by
        intro m
        induction m with
        | nil => intro _; exact .nil
        | cons q m ih =>
          intro hm
          exact .cons (dpSame sl _ _ (n.k q (hm q List.mem_cons_self)).2) (ih fun c hc => hm c (List.mem_cons_of_mem _ hc))
      refine q l _ G _ sl hl upd_same ?_ ⟨g1, ?_⟩
      · rw [← g2]
        exact dp _ fun q hq => List.mem_mergeSort.mp hq
      · have sp := PySem.W.sort_pairwise (PySem.W.sortLe_total (PyProof.Rows.listOrd PyProof.Rows.itemOrd) false fun q : KvD => PySem.W.keyToks (lenD q.1)) kvs
        have sp2 : ((sortK lenD kvs).map (·.1)).Pairwise fun a b => PySem.W.dataLt (lenD b) (lenD a) = false := by
          rw [List.pairwise_map]
          refine List.Pairwise.imp (fun {a b} h => ?_) sp
          have h2 : (!PySem.W.dataLt (lenD b.1) (lenD a.1)) = true := h
          simpa using h2
        rw [g2, List.pairwise_map] at sp2
        refine List.Pairwise.imp (fun {a b} h => ?_) sp2
        rw [lenPc, lenPc, PySem.W.dataLt_ii, decide_eq_false_iff_not] at h
        intro z
        unfold shorter at z
        exact h (by omega)
end
end REC

set_option Elab.async false
set_option linter.all false
set_option maxRecDepth 100000
set_option maxHeartbeats 4000000
namespace KX
open PySem PySem.Spec PyProof.Rows L2
/-- what a suite under «as n» (n in slot i) leaves: the name is gone behind it -/
def asEnds (i : Nat) (D : Ends) : Ends := { nx := fun σ' H' => D.nx (σ'.set i none) H', rt := D.rt, bk := fun σ' H' => D.bk (σ'.set i none) H', ct := fun σ' H' => D.ct (σ'.set i none) H' }
def asSuite (i : Nat) (ts : Addr → Value → Option Addr → TS) : Addr → Value → Option Addr → TS := fun a cls d D σ H => ts a cls d (asEnds i D) (σ.set i (some (.ref a))) H
/-- except clauses, with a name or without -/
inductive Mix (X : Cx) : List ExceptHandler → List (Value × (Addr → Value → Option Addr → TS)) → Prop
  | nil : Mix X [] []
  | bare {x : Str} {c : Value} {ts : Addr → Value → Option Addr → TS} {b : Stmt} {suite : List Stmt} {np q : Pos} {hds : List ExceptHandler} {l : List (Value × (Addr → Value → Option Addr → TS))} (hc : Names X x c)
      (hsu : ∀ (a : Addr) (oe : Obj) (cls : Value) (d : Option Addr) (pn : List (Addr × Obj)), Zc cls d oe → (∃ vs, oe.data = .fields vs) → PSs (X.suite a ((a, oe) :: pn)) (b :: suite) (ts a cls d)) (r : Mix X hds l) :
      Mix X (.ExceptHandler (some (.Name x np)) none (b :: suite) q :: hds) ((c, ts) :: l)
  | named {x n : Str} {i : Nat} {c : Value} {ts : Addr → Value → Option Addr → TS} {b : Stmt} {suite : List Stmt} {np q : Pos} {hds : List ExceptHandler} {l : List (Value × (Addr → Value → Option Addr → TS))} (hc : Names X x c)
      (hN : X.N.Nodup) (hi : X.N[i]? = some n) (hln : X.env.kindOf n = some .local)
      (hsu : ∀ (a : Addr) (oe : Obj) (cls : Value) (d : Option Addr) (pn : List (Addr × Obj)), Zc cls d oe → (∃ vs, oe.data = .fields vs) → PSs (X.suite a ((a, oe) :: pn)) (b :: suite) (ts a cls d)) (r : Mix X hds l) :
      Mix X (.ExceptHandler (some (.Name x np)) (some n) (b :: suite) q :: hds) ((c, asSuite i ts) :: l)
section
variable {X : Cx} {body : List Stmt} {h0 : ExceptHandler} {hds : List ExceptHandler} {l : List (Value × (Addr → Value → Option Addr → TS))} {pos : Pos} {tb : WX → TS} {Wout : WX}
theorem psTryMix (hs : X.stack = X.env :: X.outer) (hf : X.env.frame = some X.env.locals) (tk : Takes X Wout)
    (hb : ∀ (W : WX) (pn : List (Addr × Obj)) (xe : Value → Shared → Prop), Takes (X.tr pn xe) W → PassesOwn (model X.prog X.w) X.A X.env xe → PSs (X.tr pn xe) body (tb W))
    (hh : Mix X (h0 :: hds) l) : PS X (.Try body (h0 :: hds) [] [] pos) (fun D σ H => tb (wMany X.K Wout D l) D σ H) := by
  refine ⟨fun pins s σ H D I h => ?_⟩
  have ok := I.ok
  have frames : X.A.frames = some (X.env :: X.outer) := by
    rw [ok.frames, hs]
  refine wpAny_Try_except ?_
  have inner := hb (wMany X.K Wout D l) (X.pn ++ pins) (fun e s1 => wpAny (model X.prog X.w) X.A (noteFrame e X.env) (fun _ s2 =>
    wpAny (model X.prog X.w) X.A (setFlight e none) (fun _ s3 => wpAny (model X.prog X.w) X.A (handleBy e X.env (h0 :: hds)) (SP X pins D) X.xe s3) X.xe s2) X.xe s1)
  refine wpAny_mono ((inner (fun u s' xx => ?_) PassesOwn.looking).run [] s σ H D (I.toTry _) h) (fun f s1 hsp => ?_) (fun _ _ z => z)
  · obtain ⟨a, B, sI, pins', σ', H', cls, d, rfl, J', nb, up, sky, na, os, ag, w⟩ := xx
    have J : Inv X pins σ' H' sI := J'.ofTry ok
    have sky' : Sky B (X.env :: X.outer) a (Zc cls d) X.env.locals s'.heap := by
      rw [← hs]
      exact sky
    show wpAny (model X.prog X.w) X.A (noteFrame (.ref a) X.env) _ _ _
    refine Sky.land Zc.steady frames hf sky' fun h3 fl3 up3 => ?_
    have J3 : Inv X pins σ' H' { s' with heap := h3 } := J.landed nb fl3.1 (up.trans up3) os ag
    obtain ⟨oe3, vs3, he3, hz3, hd3⟩ := fl3.there
    have out : a ∉ frs (X.env :: X.outer) := fun hm => by
      obtain ⟨_, o', e', hnf⟩ := fl3.2.2.1.mem hm
      rw [he3] at e'
      cases e'
      exact hnf _ hd3
    have nL : a ≠ X.env.locals := fun z => out (List.mem_filterMap.mpr ⟨X.env, List.mem_cons_self, by rw [hf, z]⟩)
    have nF : a ∉ X.fs := fun hm => by
      obtain ⟨e, he, q⟩ := List.mem_filterMap.mp hm
      exact out (List.mem_filterMap.mpr ⟨e, List.mem_cons_of_mem _ he, q⟩)
    have S3 := J3.suite he3 hd3 na nL nF
    have LT : PySem.W.Looks (model X.prog X.w) h3 (typeOf (.ref a)) cls := fun A Q E s k q => wpAny_typeOf_ref (k _ _ he3) (by rw [hz3.1]; exact q)
    have asked : ∀ {x : Str} {c : Value} {np : Pos} {Q E : Value → Shared → Prop}, Names X x c → Q c { s' with heap := h3 } → wpAny (model X.prog X.w) (X.A.mark (some (.ref a))) (eval (.Name x np) X.env) Q E { s' with heap := h3 } := fun {x c np Q E} hc q => by
      obtain ⟨hg, hdbg, hm | ⟨hm, hv, hnn⟩⟩ := hc
      · exact ld_glob (X := X.suite a ((a, oe3) :: (X.pn ++ pins))) S3 hg hm q hdbg
      · exact ld_blt (X := X.suite a ((a, oe3) :: (X.pn ++ pins))) S3 hg hm hv q hnn hdbg
    have go : ∀ {hds' : List ExceptHandler} {l' : List (Value × (Addr → Value → Option Addr → TS))}, Mix X hds' l' → wMany X.K Wout D l' cls d σ' H' →
        wpAny (model X.prog X.w) X.A (handleBy (.ref a) X.env hds') (SP X pins D) X.xe { s' with heap := h3 } := by
      intro hds' l' hk
      induction hk with
      | nil =>
        intro w
        refine wpAny_handleBy_nil ?_
        obtain ⟨k1, k2, k3, oe, vs, T, oT, ts', he, hz, hd, h1, hr⟩ := id fl3
        unfold PySem.passOn
        refine wpAny_bind (wpAny_field he hd h1 ?_)
        rw [if_neg (show ¬ ((Value.ref T == Value.none) = true) from by simp)]
        have fin : wpAny (model X.prog X.w) X.A (setFlight (.ref a) X.env.frame) (fun _ s4 => wpAny (model X.prog X.w) X.A (throw (.ref a) : Sem Flow) (SP X pins D) X.xe s4) X.xe { s' with heap := h3 } := by
          rw [hf]
          refine HandSPX.setFlight_upZ fl3 fun h4 hh4 up4 => wpAny_throw (tk _ _ ?_)
          exact ⟨a, B, sI, pins, σ', H', cls, d, rfl, J, nb, (up.trans up3).trans up4, .inr (.inr (by rw [hs]; exact hh4)), na, os, ag, w⟩
        first
          | exact wpAny_bind (wpAny_pure (wpAny_bind fin))
          | exact wpAny_bind fin
      | @bare x c ts b suite np q hds2 l2 hc hsu r ih =>
        intro w
        obtain ⟨b, hb1, hyes, hno⟩ := w
        refine wpAny_handleBy_cons (codeAny_handlers_test ?_) (by intro q; cases q)
        have LM := PySem.W.exm_one (M := model X.prog X.w) (J3.kIn) LT hb1
        refine asked hc (LM.here ?_)
        cases b with
        | true =>
          refine codeAny_handlers_suite ?_
          refine HandSPX.lands_againZ fl3 fun h4 fl4 up4 => ?_
          have J4 : Inv X pins σ' H' { s' with heap := h4 } := J.landed nb fl4.1 ((up.trans up3).trans up4) os ag
          obtain ⟨oe4, vs4, he4, hz4, hd4⟩ := fl4.there
          have S4 := J4.suite he4 hd4 na nL nF
          refine wpAny_mono ((hsu a oe4 cls d (X.pn ++ pins) hz4 ⟨_, hd4⟩).run [] _ _ H' _ S4 (hyes rfl a na)) (fun f s6 hsp => ?_) (fun _ _ z => False.elim z)
          cases f with
          | ret u =>
            obtain ⟨v6, σ6, H6, S6, r6, q6⟩ := hsp
            exact ⟨_, _, _, S6.unsuite ok, r6, q6⟩
          | _ =>
            obtain ⟨σ6, H6, S6, q6⟩ := hsp
            exact ⟨_, _, S6.unsuite ok, q6⟩
        | false => exact ih (hno rfl)
      | @named x n i c ts b suite np q hds2 l2 hc hN hi hln hsu r ih =>
        intro w
        obtain ⟨b, hb1, hyes, hno⟩ := w
        refine wpAny_handleBy_cons (codeAny_handlers_test ?_) (by intro q; cases q)
        have LM := PySem.W.exm_one (M := model X.prog X.w) (J3.kIn) LT hb1
        refine asked hc (LM.here ?_)
        cases b with
        | true =>
          refine codeAny_handlers_suite_as ?_
          refine HandSPX.lands_againZ fl3 fun h4 fl4 up4 => ?_
          have J4 : Inv X pins σ' H' { s' with heap := h4 } := J.landed nb fl4.1 ((up.trans up3).trans up4) os ag
          obtain ⟨oe4, vs4, he4, hz4, hd4⟩ := fl4.there
          have S4 := J4.suite he4 hd4 na nL nF
          refine store_ok (X := X.suite a ((a, oe4) :: (X.pn ++ pins))) (v := .ref a) S4 hN hi (.inl hln) rfl (fun s5 S5 => ?_) (.inr hln)
          refine wpAny_mono ((hsu a oe4 cls d (X.pn ++ pins) hz4 ⟨_, hd4⟩).run [] s5 _ H' _ S5 (hyes rfl a na)) (fun f s6 hsp => ?_) (fun _ _ z => False.elim z)
          have fin : ∀ {σ6 : L2.St} {H6 : Hp} {Q : Shared → Prop}, Inv (X.suite a ((a, oe4) :: (X.pn ++ pins))) [] σ6 H6 s6 → (∀ s7, Inv X pins (σ6.set i none) H6 s7 → Q s7) →
              wpAny (model X.prog X.w) X.A (do bindName X.env n .none; unbindBehindTheSuite X.env n q) (fun _ s7 => Q s7) X.xe s6 := fun S6 hq => gone_ok (S6.unsuite ok) hN hi hln hq
          cases f with
          | ret u =>
            obtain ⟨v6, σ6, H6, S6, r6, q6⟩ := hsp
            exact fin S6 fun s7 J7 => ⟨_, _, _, J7, r6, q6⟩
          | next =>
            obtain ⟨σ6, H6, S6, q6⟩ := hsp
            exact fin S6 fun s7 J7 => ⟨_, _, J7, q6⟩
          | brk =>
            obtain ⟨σ6, H6, S6, q6⟩ := hsp
            exact fin S6 fun s7 J7 => ⟨_, _, J7, q6⟩
          | cont =>
            obtain ⟨σ6, H6, S6, q6⟩ := hsp
            exact fin S6 fun s7 J7 => ⟨_, _, J7, q6⟩
        | false => exact ih (hno rfl)
    exact go hh w
  · cases f with
    | ret u =>
      obtain ⟨v, σ', H', J', r, q⟩ := hsp
      exact ⟨v, σ', H', J'.ofTry ok, r, q⟩
    | next =>
      obtain ⟨σ', H', J', q⟩ := hsp
      exact wpAny_execs_nil ⟨σ', H', J'.ofTry ok, q⟩
    | brk =>
      obtain ⟨σ', H', J', q⟩ := hsp
      exact ⟨σ', H', J'.ofTry ok, q⟩
    | cont =>
      obtain ⟨σ', H', J', q⟩ := hsp
      exact ⟨σ', H', J'.ofTry ok, q⟩
end
end KX

set_option Elab.async false
set_option linter.all false
set_option maxRecDepth 100000
set_option maxHeartbeats 16000000
/-! the program's look at the ways of a table -/
namespace REC
open PySem PySem.Spec PyProof.Rows L2 ND KS KS.La PLC
open KX hiding sameUpd
abbrev sWays : Stmt := top 15
/-- a raised error with a place in it -/
def Xs (K : PySem.W.Frag) (C : Addr) (p : Pc) (H : Hp) (E : XK) : Prop := ∀ d v H', Same H H' → Dp K H' v (pcD p) → H' d = some (.xd [("spot", v)]) → E (.ref C) (some d) H'
structure HasX (P : Program) (w : World) (K : PySem.W.Frag) (mg : Str → Option Value) (base : Heap) (k : Nat) (x : Str) (ps : List Str) (sp : Sp) : Prop where
  ex : ∃ (f : Addr) (fd : FuncData), mg x = some (.ref f) ∧ PySem.W.keepIn K (.ref f) = true ∧ Binds K fd ps [] ∧ FnOk P w K mg base (L2.CX P w) k f fd ps sp
/-- what is written ahead of a place -/
def ckW (R : List (K3 × Pc)) (W : List (Pc × List Str)) (p : Pc) : List Str := if isFst p = true then [] else ((aheadP p R).bind (aLook W)).getD []
theorem ckW_ao (R : List (K3 × Pc)) (W : List (Pc × List Str)) (p : Pc) : ckW R W p = (((if isFst p = true then none else aheadP p R) : Option Pc).bind (aLook W)).getD [] := by
  unfold ckW
  cases isFst p <;> rfl
def gapP (T : List (Pc × Stp)) (p : Pc) : Bool := !isFst p && !leads ((aheadP p (rdsIn T)).bind (aLook T)) p
abbrev CkSt := List (Pc × List Str) × List Pc
def ckS (T : List (Pc × Stp)) (st : CkSt) (p : Pc) : CkSt :=
  let w := ckW (rdsIn T) st.1 p
  if gapP T p = true then (aPut st.1 p w, st.2 ++ [p])
  else match aLook T p with
    | some (.wr o _) => (aPut (aPut st.1 p w) p (w ++ [o]), if o ∈ w then st.2 ++ [p] else st.2)
    | _ => (aPut st.1 p w, st.2)
def ways (T : List (Pc × Stp)) (G : List Pc) : CkSt := G.foldl (ckS T) ([], [])
theorem ways_snoc (T : List (Pc × Stp)) (G : List Pc) (p : Pc) : ways T (G ++ [p]) = ckS T (ways T G) p := by
  unfold ways
  rw [List.foldl_append]
  rfl
theorem flatStrs (l : List Str) : (l.map V.str).all flatV = true := by
  induction l with
  | nil => rfl
  | cons a l ih => rw [List.map_cons, List.all_cons, ih]; rfl
theorem inStrs (o : Str) (l : List Str) : inV (.str o) (l.map V.str) = decide (o ∈ l) := by
  unfold inV
  rw [List.any_map, Bool.eq_iff_iff, List.any_eq_true, decide_eq_true_eq]
  constructor
  · rintro ⟨z, hz, e⟩
    have e2 : (z == o) = true := e
    rw [beq_iff_eq] at e2
    exact e2 ▸ hz
  · intro h
    exact ⟨o, h, (beq_self_eq_true o : (o == o) = true)⟩
theorem putVal {K : PySem.W.Frag} {H : Hp} {kvs : List KvD} {W : List (Pc × List Str)} {p : Pc} {x : List Str} (h : Paired (Rw K H pcD argsD) kvs (aPut W p x)) : ∃ v, valN (kvs.map kn) (keyD (pcD p)) = some v ∧ Dp K H v (argsD x) := by
  have e : aLook (aPut W p x) p = some x := by rw [aLook_put, if_pos rfl]
  rcases rwVal kdPc h p with ⟨_, e2⟩ | ⟨v, y, e1, e2, e3⟩
  · rw [e] at e2; cases e2
  · rw [e] at e2
    cases e2
    exact ⟨v, e1, e3⟩
theorem aPut_twice {κ α : Type} [DecidableEq κ] (T : List (κ × α)) (k : κ) (x y : α) : (aPut (aPut T k x) k y).length = (aPut T k x).length := by
  have e1 := congrArg List.length (aPut_keys (aPut T k x) k y)
  have m : k ∈ (aPut T k x).map (·.1) := by
    rw [aPut_keys]
    split
    · assumption
    · exact List.mem_append.mpr (.inr (List.mem_singleton.mpr rfl))
  rw [if_pos m, List.length_map, List.length_map] at e1
  exact e1
theorem aPut_memV {κ α : Type} [DecidableEq κ] {T : List (κ × α)} {k : κ} {x : α} {q : κ × α} (h : q ∈ aPut T k x) : (∃ q' ∈ T, q'.2 = q.2) ∨ q.2 = x := by
  unfold aPut at h
  split at h
  · obtain ⟨q', hq, rfl⟩ := List.mem_map.mp h
    by_cases c : q'.1 = k
    · rw [if_pos c]; exact .inr rfl
    · rw [if_neg c]; exact .inl ⟨q', hq, rfl⟩
  · rcases List.mem_append.mp h with h | h
    · exact .inl ⟨q, h, rfl⟩
    · rw [List.mem_singleton.mp h]; exact .inr rfl
theorem ckW_len {R : List (K3 × Pc)} {W : List (Pc × List Str)} {p : Pc} {n : Nat} (h : ∀ q ∈ W, q.2.length ≤ n) : (ckW R W p).length ≤ n := by
  rw [ckW_ao]
  cases (if isFst p = true then none else aheadP p R : Option Pc) with
  | none => exact Nat.zero_le _
  | some q =>
    show ((aLook W q).getD []).length ≤ n
    cases e : aLook W q with
    | none => exact Nat.zero_le _
    | some x => exact h _ (aLook_mem e)
theorem snocInd {α : Type} {C : List α → Prop} (h0 : C []) (hs : ∀ l a, C l → C (l ++ [a])) (l : List α) : C l := by
  have : ∀ m : List α, C m.reverse := fun m => by
    induction m with
    | nil => exact h0
    | cons a m ih => rw [List.reverse_cons]; exact hs _ _ ih
  have := this l.reverse
  rwa [List.reverse_reverse] at this
theorem ckS_sub (T : List (Pc × Stp)) (st : CkSt) (p : Pc) : (ckS T st p).2 = st.2 ∨ (ckS T st p).2 = st.2 ++ [p] := by
  unfold ckS
  dsimp only
  split
  · exact .inr rfl
  · split
    · split
      · exact .inr rfl
      · exact .inl rfl
    · exact .inl rfl
theorem ckS_val (T : List (Pc × Stp)) (st : CkSt) (p : Pc) {n : Nat} (h : ∀ q ∈ st.1, q.2.length ≤ n) : ∀ q ∈ (ckS T st p).1, q.2.length ≤ n + 1 := by
  have hw := ckW_len (R := rdsIn T) (p := p) h
  have one : ∀ q ∈ aPut st.1 p (ckW (rdsIn T) st.1 p), q.2.length ≤ n := fun q hq => by
    rcases aPut_memV hq with ⟨q', h1, h2⟩ | h2
    · rw [← h2]; exact h q' h1
    · rw [h2]; exact hw
  unfold ckS
  dsimp only
  split
  · exact fun q hq => Nat.le_succ_of_le (one q hq)
  · split
    · intro q hq
      rcases aPut_memV hq with ⟨q', h1, h2⟩ | h2
      · rw [← h2]; exact Nat.le_succ_of_le (one q' h1)
      · rw [h2, List.length_append]
        show _ + 1 ≤ _
        omega
    · exact fun q hq => Nat.le_succ_of_le (one q hq)
theorem ways_val (T : List (Pc × Stp)) (G : List Pc) : ∀ q ∈ (ways T G).1, q.2.length ≤ G.length := by
  induction G using snocInd with
  | h0 => intro q hq; exact absurd hq (by simp [ways])
  | hs G p ih =>
    rw [ways_snoc, List.length_append]
    exact ckS_val T _ p ih
theorem ways_sub (T : List (Pc × Stp)) (G : List Pc) : ∀ q ∈ (ways T G).2, q ∈ G := by
  induction G using snocInd with
  | h0 => intro q hq; exact absurd hq (by simp [ways])
  | hs G p ih =>
    rw [ways_snoc]
    intro q hq
    rcases ckS_sub T (ways T G) p with e | e
    · rw [e] at hq; exact List.mem_append.mpr (.inl (ih q hq))
    · rw [e] at hq
      rcases List.mem_append.mp hq with hq | hq
      · exact List.mem_append.mpr (.inl (ih q hq))
      · exact List.mem_append.mpr (.inr hq)
theorem ways_len (T : List (Pc × Stp)) (G : List Pc) : (ways T G).2.length ≤ G.length := by
  induction G using snocInd with
  | h0 => exact Nat.le_refl _
  | hs G p ih =>
    rw [ways_snoc, List.length_append]
    rcases ckS_sub T (ways T G) p with e | e
    · rw [e]; exact Nat.le_succ_of_le ih
    · rw [e, List.length_append]; exact Nat.add_le_add_right ih _
/-- all but two things stand -/
def Al2 (a b : Addr) (H H' : Hp) : Prop := ∀ c o, c ≠ a → c ≠ b → H c = some o → H' c = some o
theorem Al2.refl {a b : Addr} {H : Hp} : Al2 a b H H := fun _ _ _ _ h => h
theorem Al2.same {a b : Addr} {H H1 H2 : Hp} (h : Al2 a b H H1) (s : Same H1 H2) : Al2 a b H H2 := fun c o n1 n2 e => s _ _ (h c o n1 n2 e)
theorem Al2.putA {a b : Addr} {H H1 : Hp} {u : HO} (h : Al2 a b H H1) : Al2 a b H (upd H1 a u) := fun c o n1 n2 e => by rw [upd_ne n1]; exact h c o n1 n2 e
theorem Al2.putB {a b : Addr} {H H1 : Hp} {u : HO} (h : Al2 a b H H1) : Al2 a b H (upd H1 b u) := fun c o n1 n2 e => by rw [upd_ne n2]; exact h c o n1 n2 e
theorem Al2.ts {P : Program} {w : World} {a b : Addr} {ks : List KvN} {xs : List V} {H H' : Hp} (ha : H a = some (ndO P w a ks)) (hb : H b = some (.lst xs)) (h : Al2 a b H H') : TS H H' := fun c o e t => by
  refine h c o (fun z => ?_) (fun z => ?_) e
  · rw [z, ha] at e
    have e2 := Option.some.inj e
    rcases t with ⟨xs, rfl⟩ | ⟨p, xs, rfl⟩ <;> cases e2
  · rw [z, hb] at e
    have e2 := Option.some.inj e
    rcases t with ⟨xs, rfl⟩ | ⟨p, xs, rfl⟩ <;> cases e2
theorem dpsTS {K : PySem.W.Frag} {H H' : Hp} (t : TS H H') {ps : List Pc} {xs : List V} (h : DpAll K H xs (ps.map pcD)) : DpAll K H' xs (ps.map pcD) :=
  allTS (fun d hd v h => by obtain ⟨p, _, rfl⟩ := List.mem_map.mp hd; exact dpTS t (plPc p) _ h) h
abbrev WA (P : Program) (w : World) (K : PySem.W.Frag) := DA P w K pcD argsD
section
variable {P : Program} {w : World} {K : PySem.W.Frag} {mg : Str → Option Value} {base : Heap} {f : Addr} {fd : FuncData} {CG CW : Addr}
def spWays (P : Program) (w : World) (K : PySem.W.Frag) (CG CW : Addr) : Sp := fun vs H Q E => ∃ d T, vs = [.ref d] ∧ TA P w K H d T ∧ (T.map (·.1)).Nodup ∧ (∀ p ∈ T.map (·.1), Ok p ∧ 0 ≤ p.n) ∧ T.length ≤ 500 ∧
  ∀ G, Grows T G → ((ways T G).2 = [] → ∀ H', Same H H' → Q .non H') ∧ ∀ p r, srt (ways T G).2 = p :: r → ∀ H', Same H H' → (gapP T p = true → Xs K CG p H' E) ∧ (gapP T p = false → Xs K CW p H' E)
abbrev nWays : List Str := ["table", "reads", "written", "faults", "place", "ahead", "step", "first"]
theorem scWays : FnScope nWays ["table"] (defScope sWays) := ⟨rfl, rfl, rfl, by decide +kernel, rfl, by decide +kernel, by decide +kernel⟩
theorem okWays {k : Nat} (B : Bn mg) (xG : Cl1 P w K mg base "Gap" CG "spot") (xW : Cl1 P w K mg base "Rewritten" CW "spot")
    (aR : Has P w K mg base 1 "reads_in" ["table"] (spRds P w K)) (aG : Has P w K mg base 4 "in_growing_order" ["table"] (spGrow P w K)) (aF : Has P w K mg base 1 "is_first" ["place"] (spFst K)) (aA : Has P w K mg base 1 "place_ahead" ["place", "reads"] (spAh P w K))
    (aL : Has P w K mg base 1 "leads_to" ["step", "place"] (spLd K)) (aO : Has P w K mg base 5 "ordered" ["places"] (spOdd K)) (F : FnP K "_check_ways" sWays f fd) : FnOk P w K mg base (L2.CX P w) (k + 6) f fd ["table"] (spWays P w K CG CW) := by
  obtain ⟨fR, dR, gR, kR, bR, GR⟩ := aR.ex
  obtain ⟨fG, dG, gG, kG, bG, GG⟩ := aG.ex
  obtain ⟨fF, dF, gF, kF, bF, GF⟩ := aF.ex
  obtain ⟨fA, dA, gA, kA, bA, GA⟩ := aA.ex
  obtain ⟨fL, dL, gL, kL, bL, GL⟩ := aL.ex
  obtain ⟨fO, dO, gO, kO, bO, GO⟩ := aO.ex
  refine F.ok scWays (fun vs H Q E h => ?_) (fun cdv A outer s H vs Q E hr h => ?_)
  · obtain ⟨d, T, rfl, _⟩ := h
    rfl
  · obtain ⟨d, T, rfl, hT, nd, okT, lT, q⟩ := h
    have hu9 : (A.deeper (envOfC "_check_ways" (defScope sWays) s.heap.objs.size f cdv)).units + 9 < cLine := Nat.lt_of_le_of_lt (Nat.add_le_add_left (by decide) _) hr.units
    have r1 : Room 1 _ := hr.mono (by omega)
    have r4 : Room 4 _ := hr.mono (by omega)
    have r5 : Room 5 _ := hr.mono (by omega)
    have r2 : Room 2 _ := hr.mono (by omega)
    refine ⟨_, (C8.pss_cut (ps_set (i := 1) scWays.nd rfl (.inl rfl) (pe_call GR r1 (by rfl) gR kR bR .nil pass0 (pa_cons (pv 0) pa_nil))) (C8.pss_cut (ps_set (i := 2) scWays.nd rfl (.inl rfl) pe_dnewN) (C8.pss_cut (ps_set (i := 3) scWays.nd rfl (.inl rfl) (pe_lst pa_nil)) (C8.pss_cut (ps_for (passes_of rfl) rfl (pi_list (pe_call GG r4 (by rfl) gG kG bG .nil pass0 (pa_cons (pv 0) pa_nil))) (pg_name (i := 4) scWays.nd rfl (.inl rfl))
        (C8.pss_cut (ps_set (i := 5) scWays.nd rfl (.inl rfl) (pe_ifExp (pt_val (pe_call GF r1 (by rfl) gF kF bF .nil pass0 (pa_cons (pv 4) pa_nil))) pe_non (pe_call GA r1 (by rfl) gA kA bA .nil pass0 (pa_cons (pv 4) (pa_cons (pv 1) pa_nil))))) (C8.pss_cut (ps_asg (pe_dgetN2 hu9 (pv 2) (pv 5) (pe_tup pa_nil) ⟨rfl, rfl, rfl, rfl⟩) (pg_sub (pv 2) (pv 4) (set_nd hu9))) (C8.pss_cut (ps_set (i := 6) scWays.nd rfl (.inl rfl) (pe_ix (ix_ndq hu9) (pv 0) (pv 4) (fun _ _ => rfl))) (pss_one (ps_if (PW.pt (pw_and (pt_not (pt_val (pe_call GF r1 (by rfl) gF kF bF .nil pass0 (pa_cons (pv 4) pa_nil)))) (pw_and1 (pt_not (pt_val (pe_call GL r1 (by rfl) gL kL bL .nil pass0 (pa_cons (pe_dgetN1 hu9 (pv 0) (pv 5) ⟨rfl, rfl, rfl, rfl⟩) (pa_cons (pv 4) pa_nil))))))))
            (pss_one (ps_expr (pe_bm PySem.F.plainAttrs_list PySem.F.slot_list_append PySem.F.type_list_append mt_append (pv 3) (pa_cons (pv 4) pa_nil))))
            (pss_one (ps_if (pt_cmpR op_eq (pe_ix ix_tup (pv 6) pe_int (fun _ _ => rfl)) pe_str (nomark _))
              (C8.pss_cut (ps_if (pt_cmpR (r := rIn K false) op_in_seq (pe_ix ix_tup (pv 6) pe_int (fun _ _ => rfl)) (pe_ix (ix_ndq hu9) (pv 2) (pv 4) (fun _ _ => rfl)) (by rfl)) (pss_one (ps_expr (pe_bm PySem.F.plainAttrs_list PySem.F.slot_list_append PySem.F.type_list_append mt_append (pv 3) (pa_cons (pv 4) pa_nil)))) pss_nil) (pss_one (ps_asg (pe_tup (StX.pa_star (pe_ix (ix_ndq hu9) (pv 2) (pv 4) (fun _ _ => rfl)) (pa_cons (pe_ix ix_tup (pv 6) pe_int (fun _ _ => rfl)) pa_nil))) (pg_sub (pv 2) (pv 4) (set_nd hu9))))) pss_nil)))))))) (pss_one (ps_if (pt_truth (pv 3) (fun _ => rfl)) (C8.pss_cut (ps_set (i := 7) scWays.nd rfl (.inl rfl) (pe_ix ix_list (pe_call GO r5 (by rfl) gO kO bO .nil pass0 (pa_cons (pv 3) pa_nil)) pe_int (fun _ _ => rfl))) (C8.pss_cut (ps_if (PW.pt (pw_and (pt_not (pt_val (pe_call GF r1 (by rfl) gF kF bF .nil pass0 (pa_cons (pv 7) pa_nil)))) (pw_and1 (pt_not (pt_val (pe_call GL r1 (by rfl) gL kL bL .nil pass0 (pa_cons (pe_dgetN1 hu9 (pv 0) (pe_call GA r1 (by rfl) gA kA bA .nil pass0 (pa_cons (pv 7) (pa_cons (pv 1) pa_nil))) ⟨rfl, rfl, rfl, rfl⟩) (pa_cons (pv 7) pa_nil))))))))
          (pss_one (ps_raise rfl (takes_of rfl rfl rfl rfl) (pmkX xG r2 (by rfl) (pa_cons (pv 7) pa_nil)))) pss_nil) (pss_one (ps_raise rfl (takes_of rfl rfl rfl rfl) (pmkX xW r2 (by rfl) (pa_cons (pv 7) pa_nil)))))) pss_nil)))))), ?_⟩
    have okO : ∀ p ∈ T.map (·.1), Ok p := fun p hp => (okT p hp).1
    -- the reads
    refine ⟨fun σ' H' => ∃ r, σ' = [some (.ref d), some (.ref r), none, none, none, none, none, none] ∧ Same H H' ∧ RA P w K H' r (rdsIn T), ⟨.ref d, rfl, d, T, rfl, hT, nd, by omega, fun r H' s1 hR => ⟨r, rfl, s1, hR⟩⟩, ?_⟩
    rintro _ H1 ⟨r, rfl, s1, hR⟩
    refine ⟨fun σ' H' => ∃ Wd, σ' = [some (.ref d), some (.ref r), some (.ref Wd), none, none, none, none, none] ∧ Same H1 H' ∧ WA P w K H' Wd [] ∧ H1 Wd = none, fun Wd hW => ⟨Wd, rfl, sameUpd hW, DA.new, hW⟩, ?_⟩
    rintro _ H2 ⟨Wd, rfl, s2, hW, nW⟩
    refine ⟨fun σ' H' => ∃ L, σ' = [some (.ref d), some (.ref r), some (.ref Wd), some (.ref L), none, none, none, none] ∧ Same H2 H' ∧ H' L = some (.lst []) ∧ H2 L = none, ⟨Nat.zero_le _, fun L hL => ⟨L, rfl, sameUpd hL, upd_same, hL⟩⟩, ?_⟩
    rintro _ H3 ⟨L, rfl, s3, eL, nL⟩
    have hT3 := hT.same (s1.trans (s2.trans s3)) pvStp
    have hR3 := hR.same (s2.trans s3) pvPc
    have hW3 := hW.same s3 pvArgs
    have ndW : d ≠ Wd := fun z => by obtain ⟨kvs, n, _⟩ := hT; have := s1 _ _ n.o; rw [z, nW] at this; cases this
    have ndL : d ≠ L := fun z => by obtain ⟨kvs, n, _⟩ := hT; have := s2 _ _ (s1 _ _ n.o); rw [z, nL] at this; cases this
    have nrW : r ≠ Wd := fun z => by obtain ⟨kvs, n, _⟩ := hR; have := n.o; rw [z, nW] at this; cases this
    have nrL : r ≠ L := fun z => by obtain ⟨kvs, n, _⟩ := hR; have := s2 _ _ n.o; rw [z, nL] at this; cases this
    have nWL : Wd ≠ L := fun z => by obtain ⟨kvs, n, _⟩ := hW; have := n.o; rw [z, nL] at this; cases this
    have s03 : Same H H3 := s1.trans (s2.trans s3)
    -- the places in growing order
    refine ⟨fun σ' H' => ∃ x4 x5 x6 G fs, σ' = [some (.ref d), some (.ref r), some (.ref Wd), some (.ref L), x4, x5, x6, none] ∧ Grows T G ∧ Same H H' ∧ TA P w K H' d T ∧ RA P w K H' r (rdsIn T) ∧ H' L = some (.lst fs) ∧ DpAll K H' fs ((ways T G).2.map pcD), ?_, ?_⟩
    · refine ⟨.ref d, rfl, d, T, rfl, hT3, okO, fun lg ys G H4 s4 nlg elg dys gr => ?_⟩
      refine ⟨lg, rfl, ⟨_, .inl (.inl elg)⟩, ?_⟩
      have lG : G.length = T.length := by have := gr.pm.length_eq; rw [List.length_map] at this; exact this
      have ly := dpLen dys
      rw [List.length_map] at ly
      have hT4 := hT3.same s4 pvStp
      have hR4 := hR3.same s4 pvPc
      have hW4 := hW3.same s4 pvArgs
      have eL4 := s4 _ _ eL
      have nlW : lg ≠ Wd := fun z => by obtain ⟨kvs, n, _⟩ := hW3; have := n.o; rw [← z, nlg] at this; cases this
      have nlL : lg ≠ L := fun z => by rw [← z, nlg] at eL; cases eL
      obtain ⟨kv0, n0, _⟩ := id hW4
      have ts4 : ∀ {H'}, Al2 Wd L H4 H' → TS H4 H' := fun a => Al2.ts n0.o eL4 a
      have dT : ∀ {H'}, Al2 Wd L H4 H' → TA P w K H' d T := fun {H'} a => hT4.ts (ts4 a) pvStp (by obtain ⟨kvs, n, _⟩ := hT4; rw [n.o, a _ _ ndW ndL n.o])
      have dR' : ∀ {H'}, Al2 Wd L H4 H' → RA P w K H' r (rdsIn T) := fun {H'} a => hR4.ts (ts4 a) pvPc (by obtain ⟨kvs, n, _⟩ := hR4; rw [n.o, a _ _ nrW nrL n.o])
      have sH : ∀ {H'}, Al2 Wd L H4 H' → Same H H' := fun {H'} a b o hb => a b o (fun z => by have := s1 _ _ hb; rw [z, nW] at this; cases this) (fun z => by have := s2 _ _ (s1 _ _ hb); rw [z, nL] at this; cases this) (s4 _ _ (s03 _ _ hb))
      refine forJ (n := G.length) (fun i σ' H' => ∃ x4 x5 x6 fs, σ' = [some (.ref d), some (.ref r), some (.ref Wd), some (.ref L), x4, x5, x6, none] ∧ Al2 Wd L H4 H' ∧ WA P w K H' Wd (ways T (G.take i)).1 ∧ H' L = some (.lst fs) ∧ DpAll K H' fs ((ways T (G.take i)).2.map pcD) ∧ (ways T (G.take i)).1.length ≤ 2 * i ∧ fs.length ≤ i)
        ⟨none, none, none, [], rfl, Al2.refl, hW4, eL4, .nil, Nat.le_refl _, Nat.le_refl _⟩
        (fun i σ' H' lt h => by obtain ⟨_, _, _, _, _, a, _⟩ := h; exact ⟨_, ys[i], .inl (.inl (a _ _ nlW nlL elg)), List.getElem?_eq_getElem (by omega)⟩) (fun σ' H' h => by obtain ⟨_, _, _, _, _, a, _⟩ := h; exact ⟨_, .inl (.inl (a _ _ nlW nlL elg)), by omega⟩) (fun i σ' H0 x H5 lt h y => ?_) (fun σ' H' h => ?_)
      · obtain ⟨rfl, y⟩ := y
        obtain ⟨x4, x5, x6, fs, rfl, al, hWi, eLi, dfs, lWi, lfs⟩ := h
        have ex := y _ (.inl (.inl (al _ _ nlW nlL elg)))
        have e2 : (G.map pcD)[i]? = some (pcD G[i]) := by rw [List.getElem?_map, List.getElem?_eq_getElem lt]; rfl
        obtain ⟨v, g1, g2⟩ := dpAt dys e2
        obtain rfl : v = x := Option.some.inj (g1.symm.trans ex)
        have tk1 : G.take (i + 1) = G.take i ++ [G[i]] := List.take_succ_eq_append_getElem lt
        have pT : G[i] ∈ T.map (·.1) := gr.pm.mem_iff.mp (List.getElem_mem lt)
        have dv := dpTS (ts4 al) (plPc _) _ g2
        rw [tk1, ways_snoc]
        have hsm : ∀ q ∈ (ways T (G.take i)).1, q.2.length ≤ i := fun q hq => by have := ways_val T (G.take i) q hq; rw [List.length_take] at this; omega
        generalize G[i] = p at *
        generalize ways T (G.take i) = st at *
        clear e2 g1 g2 ex tk1
        obtain ⟨pa, pva, pvr, rfl, hps, hpa, hpv⟩ := pcAt dv
        have okp := okT p pT
        have hTi := dT al
        have hRi := dR' al
        -- what is ahead
        refine ⟨fun σ' H' => ∃ va, σ' = [some (.ref d), some (.ref r), some (.ref Wd), some (.ref L), some (.ref pa), some va, x6, none] ∧ Same H5 H' ∧ AtO K H' va (if isFst p = true then none else aheadP p (rdsIn T)), ?_, ?_⟩
        · refine ⟨.ref pa, rfl, .ref pa, p, rfl, dv, isFst p, rfl, ?_⟩
          cases hf : isFst p with
          | true => exact iteT ⟨.non, rfl, Same.refl _, rfl⟩
          | false => exact iteF ⟨.ref pa, rfl, .ref r, rfl, .ref pa, r, p, rdsIn T, rfl, dv, hRi, by have := okp.1.rl; omega, fun va H6 s6 h => ⟨va, rfl, s6, by rw [if_neg Bool.false_ne_true]; exact h⟩⟩
        rintro _ H6 ⟨va, rfl, s6, hva⟩
        have al6 := al.same s6
        have hW6 := hWi.same s6 pvArgs
        have eL6 := s6 _ _ eLi
        have dv6 := dpSame s6 _ _ dv
        have dfs6 := dpAllSame s6 _ _ dfs
        clear hTi hRi
        -- what is written ahead
        refine ⟨fun σ' H' => σ' = [some (.ref d), some (.ref r), some (.ref Wd), some (.ref L), some (.ref pa), some va, x6, none] ∧ Al2 Wd L H4 H' ∧ WA P w K H' Wd (aPut st.1 p (ckW (rdsIn T) st.1 p)) ∧ H' L = some (.lst fs) ∧ DpAll K H' fs (st.2.map pcD) ∧ Dp K H' (.ref pa) (pcD p) ∧ AtO K H' va (if isFst p = true then none else aheadP p (rdsIn T)), ?_, ?_⟩
        · obtain ⟨kvs, n, pr⟩ := id hW6
          refine ⟨.ref Wd, rfl, ⟨Wd, kvs, rfl, n.q⟩, va, rfl, Nat.zero_le _, fun u hu => ?_⟩
          have su := sameUpd (o := .tup []) hu
          have eu : upd H6 u (.tup []) u = some (.tup []) := upd_same
          generalize upd H6 u (.tup []) = H7 at su eu ⊢
          obtain ⟨kv7, n7, pr7⟩ := hW6.same su pvArgs
          have du : Dp K H7 (.ref u) (argsD []) := .tup (.inl (.inl eu)) .nil
          have dv7 := dpSame su _ _ dv6
          have hva7 := hva.same su
          obtain ⟨ov, hy, hval⟩ : ∃ ov : Option V, ((va = .non ∧ ov = none) ∨ ∃ (a : Addr) (e : PyData), va = .ref a ∧ Dp K H7 va e ∧ Pl 8 e ∧ ov = valN (kv7.map kn) (keyD e)) ∧ Dp K H7 (ov.getD (.ref u)) (argsD (ckW (rdsIn T) st.1 p)) := by
            rw [ckW_ao]
            generalize (if isFst p = true then none else aheadP p (rdsIn T)) = ao at hva7 ⊢
            cases ao with
            | none =>
              obtain rfl : va = .non := hva7
              exact ⟨none, .inl ⟨rfl, rfl⟩, du⟩
            | some q0 =>
              have hd0 : Dp K H7 va (pcD q0) := hva7
              obtain ⟨qa, _, _, rfl, _⟩ := pcAt hd0
              refine ⟨_, .inr ⟨qa, _, rfl, hd0, kdPc.pl _, rfl⟩, ?_⟩
              rcases rwVal kdPc pr7 q0 with ⟨e1, e2⟩ | ⟨v, x, e1, e2, e3⟩
              · rw [e1]
                show Dp K H7 (.ref u) (argsD ((aLook st.1 q0).getD []))
                rw [e2]
                exact du
              · rw [e1]
                show Dp K H7 v (argsD ((aLook st.1 q0).getD []))
                rw [e2]
                exact e3
          refine ⟨Wd, kv7, va, .ref u, ov, rfl, n7.q, hy, .inr rfl, ?_⟩
          have l7 := ND.pairedLen pr7
          refine ⟨.ref Wd, rfl, .ref pa, rfl, Wd, pa, _, kv7, rfl, rfl, n7, dv7, kdPc.pl _, by rw [l7, sizeLine_eq]; omega, rfl, (al6.same su).putA, DA.put kdPc pvArgs n7 pr7 dv7 hval, ?_, dpsTS (TS.put n7.o) (dpAllSame su _ _ dfs6), dpTS (TS.put n7.o) (plPc _) _ dv7, ?_⟩
          · rw [upd_ne nWL.symm]
            exact su _ _ eL6
          · generalize (if isFst p = true then none else aheadP p (rdsIn T)) = ao at hva7 ⊢
            cases ao with
            | none => exact hva7
            | some q0 => exact dpTS (TS.put n7.o) (plPc _) _ hva7
        rintro _ H7 ⟨rfl, al7, hW7, eL7, dfs7, dv7, hva7⟩
        have hT7 := dT al7
        -- the step
        obtain ⟨s0, hs0⟩ := aLook_in pT
        refine ⟨fun σ' H' => ∃ vs, σ' = [some (.ref d), some (.ref r), some (.ref Wd), some (.ref L), some (.ref pa), some va, some vs, none] ∧ H' = H7 ∧ Dp K H7 vs (stpD s0), ?_, ?_⟩
        · obtain ⟨kvs, n, pr⟩ := id hT7
          rcases rwVal kdPc pr p with ⟨_, e2⟩ | ⟨v, x, e1, e2, e3⟩
          · rw [hs0] at e2; cases e2
          · rw [hs0] at e2
            cases e2
            exact ⟨.ref d, rfl, .ref pa, rfl, d, pa, _, kvs, v, rfl, rfl, n.q, dv7, kdPc.pl _, e1, v, rfl, rfl, e3⟩
        rintro _ H7 ⟨vs, rfl, rfl, dvs⟩
        have hwl : (ckW (rdsIn T) st.1 p).length ≤ i := ckW_len hsm
        have lWp := aPut_len st.1 p (ckW (rdsIn T) st.1 p)
        refine ⟨.ref pa, rfl, .ref pa, p, rfl, dv7, isFst p, rfl, ?_⟩
        have eg : gapP T p = (!isFst p && !leads ((aheadP p (rdsIn T)).bind (aLook T)) p) := rfl
        have gapGo : gapP T p = true → ∃ x4 x5 x6 fs2, ([some (.ref d), some (.ref r), some (.ref Wd), some (.ref L), some (.ref pa), some va, some vs, none] : L2.St) = [some (.ref d), some (.ref r), some (.ref Wd), some (.ref L), x4, x5, x6, none] ∧ Al2 Wd L H4 (upd H7 L (.lst (fs ++ [.ref pa]))) ∧ WA P w K (upd H7 L (.lst (fs ++ [.ref pa]))) Wd (ckS T st p).1 ∧ upd H7 L (.lst (fs ++ [.ref pa])) L = some (.lst fs2) ∧ DpAll K (upd H7 L (.lst (fs ++ [.ref pa]))) fs2 ((ckS T st p).2.map pcD) ∧ (ckS T st p).1.length ≤ 2 * (i + 1) ∧ fs2.length ≤ i + 1 := fun g => by
          unfold ckS
          rw [g]
          refine ⟨_, _, _, fs ++ [.ref pa], rfl, al7.putB, hW7.ts (TS.lst eL7) pvArgs (upd_ne nWL), upd_same, ?_, by show (aPut st.1 p _).length ≤ _; omega, by rw [List.length_append]; show fs.length + 1 ≤ _; omega⟩
          rw [if_pos rfl, List.map_append]
          exact dpSnoc (dpTS (TS.lst eL7) (plPc _) _ dv7) (dpsTS (TS.lst eL7) dfs7)
        cases hf : isFst p with
        | true =>
          refine iteF ?_
          have g : gapP T p = false := by rw [eg, hf]; rfl
          obtain ⟨c, ys', rfl, hc, h0⟩ := headAt dvs
          refine ⟨.ref c, rfl, c, ys', 0, _, rfl, rfl, hc, h0, rfl, _, rfl, ?_⟩
          rw [TRE.wordEq, wordW]
          have stay : isW s0 = false → (ckS T st p) = (aPut st.1 p (ckW (rdsIn T) st.1 p), st.2) := fun hw => by
            unfold ckS
            rw [g, if_neg Bool.false_ne_true, hs0]
            cases s0 with
            | stop => rfl
            | wr o z => cases hw
            | rd ks => rfl
          cases s0 with
          | stop =>
            refine iteF ⟨_, _, _, fs, rfl, al7, ?_, eL7, ?_, ?_, by omega⟩
            · rw [stay rfl]; exact hW7
            · rw [stay rfl]; exact dfs7
            · rw [stay rfl]; show (aPut st.1 p _).length ≤ _; omega
          | rd ks =>
            refine iteF ⟨_, _, _, fs, rfl, al7, ?_, eL7, ?_, ?_, by omega⟩
            · rw [stay rfl]; exact hW7
            · rw [stay rfl]; exact dfs7
            · rw [stay rfl]; show (aPut st.1 p _).length ≤ _; omega
          | wr o z =>
            obtain ⟨c2, ec, hs2⟩ := wrAt dvs
            cases ec
            have wrIs : ckS T st p = (aPut (aPut st.1 p (ckW (rdsIn T) st.1 p)) p (ckW (rdsIn T) st.1 p ++ [o]), if o ∈ ckW (rdsIn T) st.1 p then st.2 ++ [p] else st.2) := by
              unfold ckS
              rw [g, if_neg Bool.false_ne_true, hs0]
            rw [wrIs]
            generalize ckW (rdsIn T) st.1 p = ww at *
            obtain ⟨kvw, nw, prw⟩ := id hW7
            obtain ⟨v0, ev, dvw⟩ := putVal prw
            obtain ⟨b, rfl, hb⟩ := argsAt dvw
            refine iteT ?_
            refine ⟨fun σ' H' => ∃ fs2, σ' = [some (.ref d), some (.ref r), some (.ref Wd), some (.ref L), some (.ref pa), some va, some (.ref c), none] ∧ Al2 Wd L H4 H' ∧ H' L = some (.lst fs2) ∧ DpAll K H' fs2 ((if o ∈ ww then st.2 ++ [p] else st.2).map pcD) ∧ fs2.length ≤ i + 1 ∧ WA P w K H' Wd (aPut st.1 p ww) ∧ Dp K H' (.ref pa) (pcD p) ∧ SqT K H' c [.str "write", .str o, .str z], ?_, ?_⟩
            · refine ⟨.ref c, rfl, c, _, 1, .str o, rfl, rfl, hs2, rfl, .ref Wd, rfl, .ref pa, rfl, Wd, pa, _, kvw, .ref b, rfl, rfl, nw.q, dv7, kdPc.pl _, ev, b, _, rfl, .inr hb, rfl, flatStrs _, _, rfl, ?_⟩
              rw [if_neg Bool.false_ne_true, inStrs]
              by_cases ho : o ∈ ww
              · rw [decide_eq_true ho]
                refine iteT ⟨.ref L, rfl, .inl ⟨rfl, _, .inl (.inl eL7)⟩, .ref pa, rfl, L, _, _, rfl, rfl, eL7, by rw [sizeLine_eq]; omega, fs ++ [.ref pa], rfl, al7.putB, upd_same, ?_, by rw [List.length_append]; show fs.length + 1 ≤ _; omega, hW7.ts (TS.lst eL7) pvArgs (upd_ne nWL), dpTS (TS.lst eL7) (plPc _) _ dv7, (TS.lst eL7).tup hs2⟩
                rw [if_pos ho, List.map_append]
                exact dpSnoc (dpTS (TS.lst eL7) (plPc _) _ dv7) (dpsTS (TS.lst eL7) dfs7)
              · rw [decide_eq_false ho]
                exact iteF ⟨fs, rfl, al7, eL7, by rw [if_neg ho]; exact dfs7, by omega, hW7, dv7, hs2⟩
            rintro _ H8 ⟨fs2, rfl, al8, eL8, dfs8, l8, hW8, dv8, hs8⟩
            obtain ⟨kv8, n8, pr8⟩ := id hW8
            obtain ⟨v8, ev8, dv8'⟩ := putVal pr8
            obtain ⟨b8, rfl, hb8⟩ := argsAt dv8'
            have okw : (ww.map V.str ++ [V.str o]).length ≤ sizeLine := by
              rw [List.length_append, List.length_map, sizeLine_eq]
              show ww.length + 1 ≤ _
              omega
            refine ⟨.ref Wd, rfl, .ref pa, rfl, Wd, pa, _, kv8, .ref b8, rfl, rfl, n8.q, dv8, kdPc.pl _, ev8, b8, _, rfl, .inl hb8, .ref c, rfl, c, _, 1, .str o, rfl, rfl, hs8, rfl, okw, fun t ht => ?_⟩
            have s9 := sameUpd (o := .tup (ww.map V.str ++ [V.str o])) ht
            have et : upd H8 t (.tup (ww.map V.str ++ [V.str o])) t = some (.tup (ww.map V.str ++ [V.str o])) := upd_same
            generalize upd H8 t (.tup (ww.map V.str ++ [V.str o])) = H9 at s9 et ⊢
            obtain ⟨kv9, n9, pr9⟩ := hW8.same s9 pvArgs
            have dt : Dp K H9 (.ref t) (argsD (ww ++ [o])) := argsDp (.inl (.inl (by rw [List.map_append]; exact et)))
            have l9 := ND.pairedLen pr9
            have l10 := aPut_len (aPut st.1 p ww) p (ww ++ [o])
            have dv9 := dpSame s9 _ _ dv8
            refine ⟨.ref Wd, rfl, .ref pa, rfl, Wd, pa, _, kv9, rfl, rfl, n9, dv9, kdPc.pl _, by rw [l9, sizeLine_eq]; omega, _, _, _, fs2, rfl, (al8.same s9).putA, DA.put kdPc pvArgs n9 pr9 dv9 dt, ?_, dpsTS (TS.put n9.o) (dpAllSame s9 _ _ dfs8), ?_, l8⟩
            · rw [upd_ne nWL.symm]
              exact s9 _ _ eL8
            · show (aPut (aPut st.1 p ww) p (ww ++ [o])).length ≤ 2 * (i + 1)
              rw [aPut_twice]
              omega
        | false =>
          rw [hf, if_neg Bool.false_ne_true] at hva7
          obtain ⟨kvs, n, pr⟩ := id hT7
          obtain ⟨ov, hy, hso⟩ : ∃ ov : Option V, ((va = .non ∧ ov = none) ∨ ∃ (a : Addr) (e : PyData), va = .ref a ∧ Dp K H7 va e ∧ Pl 8 e ∧ ov = valN (kvs.map kn) (keyD e)) ∧ ((ov.getD .non = .non ∧ (aheadP p (rdsIn T)).bind (aLook T) = none) ∨ ∃ s, (aheadP p (rdsIn T)).bind (aLook T) = some s ∧ Dp K H7 (ov.getD .non) (stpD s)) := by
            generalize aheadP p (rdsIn T) = ao at hva7 ⊢
            cases ao with
            | none => exact ⟨none, .inl ⟨hva7, rfl⟩, .inl ⟨rfl, rfl⟩⟩
            | some q0 =>
              have hd0 : Dp K H7 va (pcD q0) := hva7
              obtain ⟨qa, _, _, rfl, _⟩ := pcAt hd0
              refine ⟨_, .inr ⟨qa, _, rfl, hd0, kdPc.pl _, rfl⟩, ?_⟩
              rcases rwVal kdPc pr q0 with ⟨e1, e2⟩ | ⟨v, x, e1, e2, e3⟩
              · rw [e1]
                exact .inl ⟨rfl, e2⟩
              · rw [e1]
                exact .inr ⟨x, e2, e3⟩
          refine iteT ⟨.ref d, rfl, ⟨d, kvs, rfl, n.q⟩, va, rfl, d, kvs, va, .non, ov, rfl, n.q, hy, .inl ⟨rfl, rfl⟩, .ref pa, rfl, _, .ref pa, _, p, rfl, hso, dv7, fun hn => ?_, leads ((aheadP p (rdsIn T)).bind (aLook T)) p, rfl, ?_⟩
          · intro e
            unfold isFst at hf
            rw [decide_eq_true e, Bool.true_and] at hf
            exact absurd (of_decide_eq_false hf) (fun z => z (by have := okp.2; omega))
          · cases hl : leads ((aheadP p (rdsIn T)).bind (aLook T)) p with
            | true =>
              refine iteF ?_
              have g : gapP T p = false := by rw [eg, hf, hl]; rfl
              obtain ⟨c, ys', rfl, hc, h0⟩ := headAt dvs
              refine ⟨.ref c, rfl, c, ys', 0, _, rfl, rfl, hc, h0, rfl, _, rfl, ?_⟩
              rw [TRE.wordEq, wordW]
              have stay : isW s0 = false → (ckS T st p) = (aPut st.1 p (ckW (rdsIn T) st.1 p), st.2) := fun hw => by
                unfold ckS
                rw [g, if_neg Bool.false_ne_true, hs0]
                cases s0 with
                | stop => rfl
                | wr o z => cases hw
                | rd ks => rfl
              cases s0 with
              | stop =>
                refine iteF ⟨_, _, _, fs, rfl, al7, ?_, eL7, ?_, ?_, by omega⟩
                · rw [stay rfl]; exact hW7
                · rw [stay rfl]; exact dfs7
                · rw [stay rfl]; show (aPut st.1 p _).length ≤ _; omega
              | rd ks =>
                refine iteF ⟨_, _, _, fs, rfl, al7, ?_, eL7, ?_, ?_, by omega⟩
                · rw [stay rfl]; exact hW7
                · rw [stay rfl]; exact dfs7
                · rw [stay rfl]; show (aPut st.1 p _).length ≤ _; omega
              | wr o z =>
                obtain ⟨c2, ec, hs2⟩ := wrAt dvs
                cases ec
                have wrIs : ckS T st p = (aPut (aPut st.1 p (ckW (rdsIn T) st.1 p)) p (ckW (rdsIn T) st.1 p ++ [o]), if o ∈ ckW (rdsIn T) st.1 p then st.2 ++ [p] else st.2) := by
                  unfold ckS
                  rw [g, if_neg Bool.false_ne_true, hs0]
                rw [wrIs]
                generalize ckW (rdsIn T) st.1 p = ww at *
                obtain ⟨kvw, nw, prw⟩ := id hW7
                obtain ⟨v0, ev, dvw⟩ := putVal prw
                obtain ⟨b, rfl, hb⟩ := argsAt dvw
                refine iteT ?_
                refine ⟨fun σ' H' => ∃ fs2, σ' = [some (.ref d), some (.ref r), some (.ref Wd), some (.ref L), some (.ref pa), some va, some (.ref c), none] ∧ Al2 Wd L H4 H' ∧ H' L = some (.lst fs2) ∧ DpAll K H' fs2 ((if o ∈ ww then st.2 ++ [p] else st.2).map pcD) ∧ fs2.length ≤ i + 1 ∧ WA P w K H' Wd (aPut st.1 p ww) ∧ Dp K H' (.ref pa) (pcD p) ∧ SqT K H' c [.str "write", .str o, .str z], ?_, ?_⟩
                · refine ⟨.ref c, rfl, c, _, 1, .str o, rfl, rfl, hs2, rfl, .ref Wd, rfl, .ref pa, rfl, Wd, pa, _, kvw, .ref b, rfl, rfl, nw.q, dv7, kdPc.pl _, ev, b, _, rfl, .inr hb, rfl, flatStrs _, _, rfl, ?_⟩
                  rw [if_neg Bool.false_ne_true, inStrs]
                  by_cases ho : o ∈ ww
                  · rw [decide_eq_true ho]
                    refine iteT ⟨.ref L, rfl, .inl ⟨rfl, _, .inl (.inl eL7)⟩, .ref pa, rfl, L, _, _, rfl, rfl, eL7, by rw [sizeLine_eq]; omega, fs ++ [.ref pa], rfl, al7.putB, upd_same, ?_, by rw [List.length_append]; show fs.length + 1 ≤ _; omega, hW7.ts (TS.lst eL7) pvArgs (upd_ne nWL), dpTS (TS.lst eL7) (plPc _) _ dv7, (TS.lst eL7).tup hs2⟩
                    rw [if_pos ho, List.map_append]
                    exact dpSnoc (dpTS (TS.lst eL7) (plPc _) _ dv7) (dpsTS (TS.lst eL7) dfs7)
                  · rw [decide_eq_false ho]
                    exact iteF ⟨fs, rfl, al7, eL7, by rw [if_neg ho]; exact dfs7, by omega, hW7, dv7, hs2⟩
                rintro _ H8 ⟨fs2, rfl, al8, eL8, dfs8, l8, hW8, dv8, hs8⟩
                obtain ⟨kv8, n8, pr8⟩ := id hW8
                obtain ⟨v8, ev8, dv8'⟩ := putVal pr8
                obtain ⟨b8, rfl, hb8⟩ := argsAt dv8'
                have okw : (ww.map V.str ++ [V.str o]).length ≤ sizeLine := by
                  rw [List.length_append, List.length_map, sizeLine_eq]
                  show ww.length + 1 ≤ _
                  omega
                refine ⟨.ref Wd, rfl, .ref pa, rfl, Wd, pa, _, kv8, .ref b8, rfl, rfl, n8.q, dv8, kdPc.pl _, ev8, b8, _, rfl, .inl hb8, .ref c, rfl, c, _, 1, .str o, rfl, rfl, hs8, rfl, okw, fun t ht => ?_⟩
                have s9 := sameUpd (o := .tup (ww.map V.str ++ [V.str o])) ht
                have et : upd H8 t (.tup (ww.map V.str ++ [V.str o])) t = some (.tup (ww.map V.str ++ [V.str o])) := upd_same
                generalize upd H8 t (.tup (ww.map V.str ++ [V.str o])) = H9 at s9 et ⊢
                obtain ⟨kv9, n9, pr9⟩ := hW8.same s9 pvArgs
                have dt : Dp K H9 (.ref t) (argsD (ww ++ [o])) := argsDp (.inl (.inl (by rw [List.map_append]; exact et)))
                have l9 := ND.pairedLen pr9
                have l10 := aPut_len (aPut st.1 p ww) p (ww ++ [o])
                have dv9 := dpSame s9 _ _ dv8
                refine ⟨.ref Wd, rfl, .ref pa, rfl, Wd, pa, _, kv9, rfl, rfl, n9, dv9, kdPc.pl _, by rw [l9, sizeLine_eq]; omega, _, _, _, fs2, rfl, (al8.same s9).putA, DA.put kdPc pvArgs n9 pr9 dv9 dt, ?_, dpsTS (TS.put n9.o) (dpAllSame s9 _ _ dfs8), ?_, l8⟩
                · rw [upd_ne nWL.symm]
                  exact s9 _ _ eL8
                · show (aPut (aPut st.1 p ww) p (ww ++ [o])).length ≤ 2 * (i + 1)
                  rw [aPut_twice]
                  omega
            | false =>
              have g : gapP T p = true := by rw [eg, hf, hl]; rfl
              exact iteT ⟨.ref L, rfl, .inl ⟨rfl, _, .inl (.inl eL7)⟩, .ref pa, rfl, L, _, _, rfl, rfl, eL7, by rw [sizeLine_eq]; omega, gapGo g⟩
      · obtain ⟨x4, x5, x6, fs, rfl, al, hWi, eLi, dfs, _, _⟩ := h
        rw [List.take_length] at dfs
        exact ⟨x4, x5, x6, G, fs, rfl, gr, sH al, dT al, dR' al, eLi, dfs⟩
    rintro _ H5 ⟨x4, x5, x6, G, fs, rfl, gr, s5, hT5, hR5, eL5, dfs⟩
    obtain ⟨q1, q2⟩ := q G gr
    have lG : G.length = T.length := by have := gr.pm.length_eq; rw [List.length_map] at this; exact this
    have lF := ways_len T G
    have memF : ∀ p ∈ (ways T G).2, Ok p ∧ 0 ≤ p.n := fun p hp => okT p (gr.pm.mem_iff.mp (ways_sub T G p hp))
    generalize (ways T G).2 = F at *
    refine ⟨.ref L, rfl, _, .inl ⟨fs, .inl (.inl eL5), rfl⟩, ?_⟩
    cases fs with
    | nil =>
      cases F with
      | nil => exact iteF (q1 rfl H5 s5)
      | cons _ _ => cases dfs
    | cons f0 fs =>
      refine iteT ?_
      -- the first of them
      refine ⟨fun σ' H' => ∃ (pa : Addr) (p : Pc) (r2 : List Pc), σ' = [some (.ref d), some (.ref r), some (.ref Wd), some (.ref L), x4, x5, x6, some (.ref pa)] ∧ Same H5 H' ∧ srt F = p :: r2 ∧ p ∈ F ∧ Dp K H' (.ref pa) (pcD p), ?_, ?_⟩
      · refine ⟨.ref L, rfl, L, _, F, rfl, .inl (.inl eL5), dfs, fun p hp => (memF p hp).1, by omega, fun l ys H6 s6 nl el dys => ?_⟩
        cases es : srt F with
        | nil =>
          have lz := congrArg List.length es
          unfold srt at lz
          rw [List.length_mergeSort] at lz
          have := dpLen dfs
          rw [List.length_map, lz] at this
          cases this
        | cons p r2 =>
          rw [es, List.map_cons] at dys
          cases dys with
          | @cons v _ ys' _ dv dr =>
            obtain ⟨pa, _, _, rfl, _⟩ := pcAt dv
            have pF : p ∈ F := by
              have : p ∈ srt F := by rw [es]; exact List.mem_cons_self
              exact List.mem_mergeSort.mp this
            exact ⟨l, _, 0, .ref pa, rfl, rfl, .inl (.inl el), atI_nat (j := 0) rfl, pa, p, r2, rfl, s6, rfl, pF, dv⟩
      rintro _ H6 ⟨pa, p, r2, rfl, s6, es, pF, dv⟩
      have q3 := q2 p r2 es
      have hT6 := hT5.same s6 pvStp
      have hR6 := hR5.same s6 pvPc
      have okp := memF p pF
      have eg : gapP T p = (!isFst p && !leads ((aheadP p (rdsIn T)).bind (aLook T)) p) := rfl
      refine ⟨fun σ' H' => σ' = [some (.ref d), some (.ref r), some (.ref Wd), some (.ref L), x4, x5, x6, some (.ref pa)] ∧ Same H6 H' ∧ gapP T p = false, ?_, ?_⟩
      · refine ⟨.ref pa, rfl, .ref pa, p, rfl, dv, isFst p, rfl, ?_⟩
        cases hf : isFst p with
        | true => exact iteF ⟨rfl, Same.refl _, by rw [eg, hf]; rfl⟩
        | false =>
          obtain ⟨kvs, n, pr⟩ := id hT6
          refine iteT ⟨.ref d, rfl, ⟨d, kvs, rfl, n.q⟩, .ref pa, rfl, .ref r, rfl, .ref pa, r, p, rdsIn T, rfl, dv, hR6, by have := okp.1.rl; omega, fun va H7 s7 hva => ?_⟩
          have hT7 := hT6.same s7 pvStp
          obtain ⟨kv7, n7, pr7⟩ := id hT7
          have dv7 := dpSame s7 _ _ dv
          obtain ⟨ov, hy, hso⟩ : ∃ ov : Option V, ((va = .non ∧ ov = none) ∨ ∃ (a : Addr) (e : PyData), va = .ref a ∧ Dp K H7 va e ∧ Pl 8 e ∧ ov = valN (kv7.map kn) (keyD e)) ∧ ((ov.getD .non = .non ∧ (aheadP p (rdsIn T)).bind (aLook T) = none) ∨ ∃ s, (aheadP p (rdsIn T)).bind (aLook T) = some s ∧ Dp K H7 (ov.getD .non) (stpD s)) := by
            generalize aheadP p (rdsIn T) = ao at hva ⊢
            cases ao with
            | none => exact ⟨none, .inl ⟨hva, rfl⟩, .inl ⟨rfl, rfl⟩⟩
            | some q0 =>
              have hd0 : Dp K H7 va (pcD q0) := hva
              obtain ⟨qa, _, _, rfl, _⟩ := pcAt hd0
              refine ⟨_, .inr ⟨qa, _, rfl, hd0, kdPc.pl _, rfl⟩, ?_⟩
              rcases rwVal kdPc pr7 q0 with ⟨e1, e2⟩ | ⟨v, x, e1, e2, e3⟩
              · rw [e1]
                exact .inl ⟨rfl, e2⟩
              · rw [e1]
                exact .inr ⟨x, e2, e3⟩
          refine ⟨d, kv7, va, .non, ov, rfl, n7.q, hy, .inl ⟨rfl, rfl⟩, .ref pa, rfl, _, .ref pa, _, p, rfl, hso, dv7, fun hn => ?_, leads ((aheadP p (rdsIn T)).bind (aLook T)) p, rfl, ?_⟩
          · intro e
            unfold isFst at hf
            rw [decide_eq_true e, Bool.true_and] at hf
            exact absurd (of_decide_eq_false hf) (fun z => z (by have := okp.2; omega))
          · cases hl : leads ((aheadP p (rdsIn T)).bind (aLook T)) p with
            | true => exact iteF ⟨rfl, s7, by rw [eg, hf, hl]; rfl⟩
            | false =>
              have g : gapP T p = true := by rw [eg, hf, hl]; rfl
              exact iteT ⟨.ref pa, rfl, .ref pa, rfl, fun dd H8 s8 hd => (q3 H7 (s5.trans (s6.trans s7))).1 g dd _ H8 s8 (dpSame s8 _ _ dv7) hd⟩
      rintro _ H7 ⟨rfl, s7, g⟩
      have dv7 := dpSame s7 _ _ dv
      exact ⟨.ref pa, rfl, .ref pa, rfl, fun dd H8 s8 hd => (q3 H7 (s5.trans (s6.trans s7))).2 g dd _ H8 s8 (dpSame s8 _ _ dv7) hd⟩
end
end REC

set_option Elab.async false
set_option linter.all false
set_option maxRecDepth 100000
set_option maxHeartbeats 16000000
/-! a table of pairs -/
namespace REC
open PySem PySem.Spec PyProof.Rows L2 ND KS KS.La PLC
open KX hiding sameUpd
abbrev sTbl : Stmt := top 14
def prD (q : Pc × Stp) : PyData := .tuple [pcD q.1, stpD q.2]
theorem plPr (q : Pc × Stp) : Pl 5 (prD q) := by
  refine .tup fun d hd => ?_
  have : d = pcD q.1 ∨ d = stpD q.2 := by simpa using hd
  rcases this with rfl | rfl
  · exact plPc _
  · exact (plStp _).up (by omega)
theorem prAt {K : PySem.W.Frag} {H : Hp} {v : V} {q : Pc × Stp} (h : Dp K H v (prD q)) : ∃ a vp vs, v = .ref a ∧ SqT K H a [vp, vs] ∧ Dp K H vp (pcD q.1) ∧ Dp K H vs (stpD q.2) := by
  obtain ⟨a, xs, rfl, hs, hx⟩ := TRE.dpTup h
  obtain ⟨y, z, rfl, h1, h2⟩ := TRE.dpTwo hx
  exact ⟨a, y, z, rfl, hs, h1, h2⟩
theorem prsTS {K : PySem.W.Frag} {H H' : Hp} (t : TS H H') {ps : List (Pc × Stp)} {xs : List V} (h : DpAll K H xs (ps.map prD)) : DpAll K H' xs (ps.map prD) :=
  allTS (fun d hd v h => by obtain ⟨p, _, rfl⟩ := List.mem_map.mp hd; exact dpTS t (plPr p) _ h) h
abbrev TbSt := List (Pc × Stp) × List Pc
def tbS (st : TbSt) (q : Pc × Stp) : TbSt := match aLook st.1 q.1 with
  | none => (aPut st.1 q.1 q.2, st.2)
  | some s => if s = q.2 then st else (st.1, st.2 ++ [q.1])
def tbl (L : List (Pc × Stp)) : TbSt := L.foldl tbS ([], [])
theorem tbl_snoc (L : List (Pc × Stp)) (q : Pc × Stp) : tbl (L ++ [q]) = tbS (tbl L) q := by
  unfold tbl
  rw [List.foldl_append]
  rfl
theorem tbS_keys (st : TbSt) (q : Pc × Stp) : ∀ p ∈ (tbS st q).1.map (·.1), p ∈ st.1.map (·.1) ∨ p = q.1 := by
  intro p hp
  unfold tbS at hp
  split at hp
  · rw [aPut_keys] at hp
    split at hp
    · exact .inl hp
    · rcases List.mem_append.mp hp with h | h
      · exact .inl h
      · exact .inr (List.mem_singleton.mp h)
  · split at hp <;> exact .inl hp
theorem tbl_keys (L : List (Pc × Stp)) : ∀ p ∈ (tbl L).1.map (·.1), p ∈ L.map (·.1) := by
  induction L using snocInd with
  | h0 => intro p hp; exact absurd hp (by simp [tbl])
  | hs L q ih =>
    rw [tbl_snoc, List.map_append]
    intro p hp
    rcases tbS_keys _ q p hp with h | h
    · exact List.mem_append.mpr (.inl (ih p h))
    · exact List.mem_append.mpr (.inr (by rw [h]; exact List.mem_singleton.mpr rfl))
theorem tbl_mem (L : List (Pc × Stp)) : ∀ q ∈ (tbl L).1, q ∈ L := by
  induction L using snocInd with
  | h0 => intro p hp; exact absurd hp (by simp [tbl])
  | hs L q ih =>
    rw [tbl_snoc]
    unfold tbS
    intro p hp
    split at hp
    · rename_i e
      rw [aPut_new e] at hp
      rcases List.mem_append.mp hp with h | h
      · exact List.mem_append.mpr (.inl (ih p h))
      · exact List.mem_append.mpr (.inr (by rw [List.mem_singleton.mp h]; exact List.mem_singleton.mpr rfl))
    · split at hp <;> exact List.mem_append.mpr (.inl (ih p hp))
theorem tbl_nd (L : List (Pc × Stp)) : ((tbl L).1.map (·.1)).Nodup := by
  induction L using snocInd with
  | h0 => exact List.nodup_nil
  | hs L q ih =>
    rw [tbl_snoc]
    unfold tbS
    split
    · exact aPut_nd ih
    · split <;> exact ih
theorem tbl_len (L : List (Pc × Stp)) : (tbl L).1.length ≤ L.length ∧ (tbl L).2.length ≤ L.length := by
  induction L using snocInd with
  | h0 => exact ⟨Nat.le_refl _, Nat.le_refl _⟩
  | hs L q ih =>
    rw [tbl_snoc, List.length_append]
    unfold tbS
    have := aPut_len (tbl L).1 q.1 q.2
    split
    · exact ⟨Nat.le_trans this (Nat.add_le_add_right ih.1 _), Nat.le_succ_of_le ih.2⟩
    · split
      · exact ⟨Nat.le_succ_of_le ih.1, Nat.le_succ_of_le ih.2⟩
      · refine ⟨Nat.le_succ_of_le ih.1, ?_⟩
        rw [List.length_append]
        exact Nat.add_le_add_right ih.2 _
theorem tbl_cl (L : List (Pc × Stp)) : ∀ p ∈ (tbl L).2, p ∈ L.map (·.1) := by
  induction L using snocInd with
  | h0 => intro p hp; exact absurd hp (by simp [tbl])
  | hs L q ih =>
    rw [tbl_snoc, List.map_append]
    unfold tbS
    intro p hp
    split at hp
    · exact List.mem_append.mpr (.inl (ih p hp))
    · split at hp
      · exact List.mem_append.mpr (.inl (ih p hp))
      · rcases List.mem_append.mp hp with h | h
        · exact List.mem_append.mpr (.inl (ih p h))
        · exact List.mem_append.mpr (.inr (by rw [List.mem_singleton.mp h]; exact List.mem_singleton.mpr rfl))
/-- an iterator over these things -/
structure SeqJ (H : Hp) (xs : List V) (J : It) : Prop where
  go : ∀ i T, i < xs.length → Same H T → J.go i T
  stop : ∀ T, Same H T → J.stop xs.length T
  yld : ∀ i T x T', Same H T → J.yld i T x T' → T' = T ∧ xs[i]? = some x
/-- for .. in a name: a list or a tuple -/
def iSeqV (K : PySem.W.Frag) (i : Nat) : TI := fun σ H R => ∃ (l : Addr) (xs : List V) (H0 : Hp), σ[i]? = some (some (.ref l)) ∧ Same H0 H ∧ (SqL K H0 l xs ∨ SqT K H0 l xs) ∧ ∀ J, SeqJ H0 xs J → R J H
theorem pi_seqV {X : Cx} {tg e : Expr} {i : Nat} (h1 : PI X tg e (iList X.K (tVar i))) (h2 : PI X tg e (iTup X.K (tVar i))) : PI X tg e (iSeqV X.K i) := by
  refine ⟨fun pins s σ H R I h => ?_⟩
  obtain ⟨l, xs, H0, e, s0, hs, r⟩ := h
  rcases hs with hs | hs
  · exact h1.run pins s σ H R I ⟨.ref l, e, l, rfl, ⟨xs, s0.seq hs⟩, r _ ⟨fun i T lt s => ⟨xs, xs[i], s.seq hs, List.getElem?_eq_getElem lt⟩, fun T s => ⟨xs, s.seq hs, Nat.le_refl _⟩, fun i T x T' s y => ⟨y.1, y.2 xs (s.seq hs)⟩⟩⟩
  · exact h2.run pins s σ H R I ⟨.ref l, e, l, rfl, ⟨xs, sameTup s0 hs⟩, r _ ⟨fun i T lt s => ⟨xs, xs[i], sameTup s hs, List.getElem?_eq_getElem lt⟩, fun T s => ⟨xs, sameTup s hs, Nat.le_refl _⟩, fun i T x T' s y => ⟨y.1, y.2 xs (sameTup s hs)⟩⟩⟩
theorem ddMem {ds : List Pc} {p : Pc} (h : p ∈ ds) : p ∈ dd ds := by
  have all : ∀ (l acc : List Pc), p ∈ acc ∨ p ∈ l → p ∈ l.foldl ins acc := by
    intro l
    induction l with
    | nil => exact fun acc h => h.elim id (fun z => by cases z)
    | cons x l ih =>
      intro acc h
      refine ih (ins acc x) ?_
      unfold ins
      rcases h with h | h
      · refine .inl ?_
        split
        · exact h
        · exact List.mem_append.mpr (.inl h)
      · rcases List.mem_cons.mp h with rfl | h
        · refine .inl ?_
          split
          · assumption
          · exact List.mem_append.mpr (.inr (List.mem_singleton.mpr rfl))
        · exact .inr h
  exact all ds [] (.inr h)
/-- places and steps of right sizes -/
def PrOk (q : Pc × Stp) : Prop := Ok q.1 ∧ 0 ≤ q.1.n ∧ StpOk q.2
section
variable {P : Program} {w : World} {K : PySem.W.Frag} {mg : Str → Option Value} {base : Heap} {f : Addr} {fd : FuncData} {CC CG CW : Addr}
def spTbl (P : Program) (w : World) (K : PySem.W.Frag) (CC CG CW : Addr) : Sp := fun vs H Q E => ∃ l xs L, vs = [.ref l] ∧ (SqL K H l xs ∨ SqT K H l xs) ∧ DpAll K H xs (L.map prD) ∧ (∀ q ∈ L, PrOk q) ∧ L.length ≤ 500 ∧
  (∀ p r, srt (dd (tbl L).2) = p :: r → ∀ H', Same H H' → Xs K CC p H' E) ∧
  ((tbl L).2 = [] → ∀ G, Grows (tbl L).1 G → ((ways (tbl L).1 G).2 = [] → ∀ d H', Same H H' → TA P w K H' d (tbl L).1 → Q (.ref d) H') ∧
    ∀ p r, srt (ways (tbl L).1 G).2 = p :: r → ∀ H', Same H H' → (gapP (tbl L).1 p = true → Xs K CG p H' E) ∧ (gapP (tbl L).1 p = false → Xs K CW p H' E))
abbrev nTbl : List Str := ["pairs", "table", "clashing", "place", "step"]
theorem scTbl : FnScope nTbl ["pairs"] (defScope sTbl) := ⟨rfl, rfl, rfl, by decide +kernel, rfl, by decide +kernel, by decide +kernel⟩
theorem okTbl {k : Nat} (xC : Cl1 P w K mg base "Clash" CC "spot") (aI : Has P w K mg base 6 "in_order" ["places"] (spOrd K false)) (aW : HasX P w K mg base 6 "_check_ways" ["table"] (spWays P w K CG CW)) (F : FnP K "_table_of" sTbl f fd) : FnOk P w K mg base (L2.CX P w) (k + 7) f fd ["pairs"] (spTbl P w K CC CG CW) := by
  obtain ⟨fI, dI, gI, kI, bI, GI⟩ := aI.ex
  obtain ⟨fW, dW, gW, kW, bW, GW⟩ := aW.ex
  refine F.ok scTbl (fun vs H Q E h => ?_) (fun cdv A outer s H vs Q E hr h => ?_)
  · obtain ⟨l, xs, L, rfl, _⟩ := h
    rfl
  · obtain ⟨l, xs, L, rfl, hl, dxs, okL, lL, q1, q2⟩ := h
    have hu9 : (A.deeper (envOfC "_table_of" (defScope sTbl) s.heap.objs.size f cdv)).units + 9 < cLine := Nat.lt_of_le_of_lt (Nat.add_le_add_left (by decide) _) hr.units
    have r5 : Room 6 _ := hr.mono (by omega)
    have r2 : Room 2 _ := hr.mono (by omega)
    have tk := fun σ => passAt (takes_of (X := (cxOf (L2.CX P w) P w K mg base nTbl "_table_of" (defScope sTbl) f cdv A outer s H E)) rfl rfl rfl rfl) σ
    refine ⟨_, (C8.pss_cut (ps_set (i := 1) scTbl.nd rfl (.inl rfl) pe_dnewN) (C8.pss_cut (ps_set (i := 2) scTbl.nd rfl (.inl rfl) (pe_lst pa_nil)) (C8.pss_cut (ps_for (passes_of rfl) rfl (pi_seqV (i := 0) (pi_list (pv 0)) (pi_tup (pv 0))) (pg_tup rfl (pgs_cons ((pg_name (i := 3) scTbl.nd rfl (.inl rfl))) (pgs_cons ((pg_name (i := 4) scTbl.nd rfl (.inl rfl))) pgs_nil)))
        (pss_one (ps_if (pt_cmpR (op_notInN hu9) (pv 3) (pv 1) (by rfl))
          (pss_one (ps_asg (pv 4) (pg_sub (pv 1) (pv 3) (set_nd hu9))))
          (pss_one (ps_if (pt_cmpR (r := rNeD K) (op_neD hr.units) (pe_ix (ix_ndq hu9) (pv 1) (pv 3) (fun _ _ => rfl)) (pv 4) (nomark _))
            (pss_one (ps_expr (pe_bm PySem.F.plainAttrs_list PySem.F.slot_list_append PySem.F.type_list_append mt_append (pv 2) (pa_cons (pv 3) pa_nil)))) pss_nil))))) (C8.pss_cut (ps_if (pt_truth (pv 2) (fun _ => rfl)) (pss_one (ps_raise rfl (takes_of rfl rfl rfl rfl) (pmkX xC r2 (by rfl) (pa_cons (pe_ix ix_list (pe_call GI r5 (by rfl) gI kI bI .nil pass0 (pa_cons (pv 2) pa_nil)) pe_int (fun _ _ => rfl)) pa_nil)))) pss_nil) (C8.pss_cut (ps_expr (pe_callS GW r5 (by rfl) gW kW bW tk (pa_cons (pv 1) pa_nil))) (pss_one (ps_ret (pv 1)))))))), ?_⟩
    have lx := dpLen dxs
    rw [List.length_map] at lx
    refine ⟨fun σ' H' => ∃ D, σ' = [some (.ref l), some (.ref D), none, none, none] ∧ Same H H' ∧ TA P w K H' D [] ∧ H D = none, fun D hD => ⟨D, rfl, sameUpd hD, DA.new, hD⟩, ?_⟩
    rintro _ H1 ⟨D, rfl, s1, hT1, nD⟩
    refine ⟨fun σ' H' => ∃ C, σ' = [some (.ref l), some (.ref D), some (.ref C), none, none] ∧ Same H1 H' ∧ H' C = some (.lst []) ∧ H1 C = none, ⟨Nat.zero_le _, fun C hC => ⟨C, rfl, sameUpd hC, upd_same, hC⟩⟩, ?_⟩
    rintro _ H2 ⟨C, rfl, s2, eC2, nC⟩
    have hT2 := hT1.same s2 pvStp
    have nDC : D ≠ C := fun z => by obtain ⟨kvs, n, _⟩ := hT1; have := n.o; rw [z, nC] at this; cases this
    have s02 : Same H H2 := s1.trans s2
    have nD0 : H D = none := nD
    have nC0 : H C = none := by
      cases e : H C with
      | none => rfl
      | some o => have := s1 _ _ e; rw [nC] at this; cases this
    refine ⟨fun σ' H' => ∃ x3 x4 fs, σ' = [some (.ref l), some (.ref D), some (.ref C), x3, x4] ∧ Same H H' ∧ TA P w K H' D (tbl L).1 ∧ H' C = some (.lst fs) ∧ DpAll K H' fs ((tbl L).2.map pcD), ?_, ?_⟩
    · refine ⟨l, xs, H, rfl, s02, hl, fun J sj => ?_⟩
      refine forJ (n := xs.length) (fun i σ' H' => ∃ x3 x4 fs, σ' = [some (.ref l), some (.ref D), some (.ref C), x3, x4] ∧ (∀ b o, b ≠ D → b ≠ C → H2 b = some o → H' b = some o) ∧ Same H H' ∧ TA P w K H' D (tbl (L.take i)).1 ∧ H' C = some (.lst fs) ∧ DpAll K H' fs ((tbl (L.take i)).2.map pcD) ∧ fs.length ≤ i)
        ⟨none, none, [], rfl, fun _ _ _ _ h => h, s02, hT2, eC2, .nil, Nat.le_refl _⟩ (fun i σ' H' lt h => by obtain ⟨_, _, _, _, _, s, _⟩ := h; exact sj.go i H' lt s) (fun σ' H' h => by obtain ⟨_, _, _, _, _, s, _⟩ := h; exact sj.stop H' s) (fun i σ' H0 x H5 lt h y => ?_) (fun σ' H' h => ?_)
      · obtain ⟨x3, x4, fs, rfl, al, s5, hT5, eC5, dfs, lfs⟩ := h
        obtain ⟨rfl, ex⟩ := sj.yld i _ x H5 s5 y
        have lt2 : i < L.length := by omega
        have e2 : (L.map prD)[i]? = some (prD L[i]) := by rw [List.getElem?_map, List.getElem?_eq_getElem lt2]; rfl
        obtain ⟨v, g1, g2⟩ := dpAt (dpAllSame s5 _ _ dxs) e2
        obtain rfl : v = x := Option.some.inj (g1.symm.trans ex)
        have tk1 : L.take (i + 1) = L.take i ++ [L[i]] := List.take_succ_eq_append_getElem lt2
        have okq := okL _ (List.getElem_mem lt2)
        have lTb := (tbl_len (L.take i)).1
        rw [List.length_take] at lTb
        rw [tk1, tbl_snoc]
        have hval : ∀ q ∈ (tbl (L.take i)).1, StpOk q.2 := fun q hq => (okL q (List.mem_of_mem_take (tbl_mem _ q hq))).2.2
        generalize L[i] = q at *
        generalize tbl (L.take i) = st at *
        obtain ⟨a, vp, vs, rfl, hs, hp, hv⟩ := prAt g2
        obtain ⟨pa, _, _, rfl, _⟩ := pcAt hp
        obtain ⟨kvs, n, pr⟩ := id hT5
        have lk := ND.pairedLen pr
        refine ⟨a, _, rfl, hs, rfl, .ref pa, _, rfl, vs, _, rfl, rfl, ?_⟩
        refine ⟨.ref pa, rfl, .ref D, rfl, D, pa, _, kvs, rfl, rfl, n.q, hp, kdPc.pl _, _, rfl, ?_⟩
        rcases rwVal kdPc pr q.1 with ⟨e1, e3⟩ | ⟨v0, s0, e1, e3, e4⟩
        · rw [e1]
          have st1 : tbS st q = (aPut st.1 q.1 q.2, st.2) := by unfold tbS; rw [e3]
          rw [st1]
          refine iteT ⟨vs, rfl, .ref D, rfl, .ref pa, rfl, D, pa, _, kvs, rfl, rfl, n, hp, kdPc.pl _, by rw [lk, sizeLine_eq]; omega, _, _, fs, rfl, fun b o n1 n2 h => ?_, fun b o h => ?_, DA.put kdPc pvStp n pr hp hv, ?_, dpsTS (TS.put n.o) dfs, by omega⟩
          · rw [upd_ne n1]
            exact al b o n1 n2 h
          · rw [upd_ne (ne_of_none h nD0)]
            exact s5 _ _ h
          · rw [upd_ne nDC.symm]
            exact eC5
        · rw [e1]
          refine iteF ⟨.ref D, rfl, .ref pa, rfl, D, pa, _, kvs, v0, rfl, rfl, n.q, hp, kdPc.pl _, e1, vs, rfl, stpD s0, stpD q.2, e4, hv, (odStp (hval _ (aLook_mem e3))).shaped (by omega), (odStp okq.2.2).shaped (by omega), _, rfl, ?_⟩
          rw [eqStp]
          by_cases es : s0 = q.2
          · have st1 : tbS st q = st := by unfold tbS; rw [e3]; exact if_pos es
            rw [st1, decide_eq_true es]
            exact iteF ⟨_, _, fs, rfl, al, s5, hT5, eC5, dfs, by omega⟩
          · have st1 : tbS st q = (st.1, st.2 ++ [q.1]) := by unfold tbS; rw [e3]; exact if_neg es
            rw [st1, decide_eq_false es]
            refine iteT ⟨.ref C, rfl, .inl ⟨rfl, _, .inl (.inl eC5)⟩, .ref pa, rfl, C, _, _, rfl, rfl, eC5, by rw [sizeLine_eq]; omega, _, _, fs ++ [.ref pa], rfl, fun b o n1 n2 h => ?_, fun b o h => ?_, hT5.ts (TS.lst eC5) pvStp (upd_ne nDC), upd_same, ?_, by rw [List.length_append]; show fs.length + 1 ≤ _; omega⟩
            · rw [upd_ne n2]
              exact al b o n1 n2 h
            · rw [upd_ne (ne_of_none h nC0)]
              exact s5 _ _ h
            · rw [List.map_append]
              exact dpSnoc (dpTS (TS.lst eC5) (plPc _) _ hp) (dpsTS (TS.lst eC5) dfs)
      · obtain ⟨x3, x4, fs, rfl, al, s5, hT5, eC5, dfs, _⟩ := h
        rw [List.take_of_length_le (by omega)] at dfs hT5
        exact ⟨x3, x4, fs, rfl, s5, hT5, eC5, dfs⟩
    rintro _ H5 ⟨x3, x4, fs, rfl, s5, hT5, eC5, dfs⟩
    have lT := tbl_len L
    have ndT := tbl_nd L
    have kT := tbl_keys L
    have clT := tbl_cl L
    have okp : ∀ p ∈ L.map (·.1), Ok p ∧ 0 ≤ p.n := fun p hp => by
      obtain ⟨q, hq, rfl⟩ := List.mem_map.mp hp
      exact ⟨(okL q hq).1, (okL q hq).2.1⟩
    generalize (tbl L).1 = T at *
    generalize (tbl L).2 = F at *
    refine ⟨fun σ' H' => σ' = [some (.ref l), some (.ref D), some (.ref C), x3, x4] ∧ H' = H5 ∧ F = [], ?_, ?_⟩
    · refine ⟨.ref C, rfl, _, .inl ⟨fs, .inl (.inl eC5), rfl⟩, ?_⟩
      cases fs with
      | nil =>
        cases F with
        | nil => exact iteF ⟨rfl, rfl, rfl⟩
        | cons _ _ => cases dfs
      | cons f0 fs =>
        refine iteT ⟨.ref C, rfl, C, _, F, rfl, .inl (.inl eC5), dfs, fun p hp => (okp p (clT p hp)).1, by omega, fun l2 ys H6 s6 nl el dys => ?_⟩
        have dys' : DpAll K H6 ys ((srt (dd F)).map pcD) := dys
        cases es : srt (dd F) with
        | nil =>
          have lz : (srt (dd F)).Perm (dd F) := List.mergeSort_perm _ _
          rw [es] at lz
          cases F with
          | nil => cases dfs
          | cons g F =>
            have m : g ∈ dd (g :: F) := ddMem List.mem_cons_self
            rw [List.nil_perm.mp lz] at m
            cases m
        | cons p r2 =>
          rw [es, List.map_cons] at dys'
          cases dys' with
          | @cons v _ ys' _ dv dr => exact ⟨l2, _, 0, v, rfl, rfl, .inl (.inl el), atI_nat (j := 0) rfl, v, rfl, fun dd H' s hd => q1 p r2 es H6 (s5.trans s6) dd v H' s (dpSame s _ _ dv) hd⟩
    rintro _ H0 ⟨rfl, rfl, eF⟩
    have okT : ∀ p ∈ T.map (·.1), Ok p ∧ 0 ≤ p.n := fun p hp => okp p (kT p hp)
    refine ⟨fun σ' H' => σ' = [some (.ref l), some (.ref D), some (.ref C), x3, x4] ∧ Same H0 H' ∧ ∃ G, Grows T G ∧ (ways T G).2 = [], ?_, ?_⟩
    · refine ⟨.ref D, rfl, D, T, rfl, hT5, ndT, okT, by omega, fun G gr => ⟨fun e H6 s6 => ⟨rfl, s6, G, gr, e⟩, fun p r e H6 s6 => (q2 eF G gr).2 p r e H6 (s5.trans s6)⟩⟩
    rintro _ H6 ⟨rfl, s6, G, gr, e⟩
    exact ⟨.ref D, rfl, (q2 eF G gr).1 e D H6 (s5.trans s6) (hT5.same s6 pvStp)⟩
end
end REC

set_option Elab.async false
set_option linter.all false
set_option maxRecDepth 100000
set_option maxHeartbeats 4000000
/-! for in a generator's body -/
namespace GFr
open PySem PySem.Spec PyProof.Rows GenW L2
section
variable {prog : Program} {w : World} {A : Around} {R : GenEnd} {Y : Protocol} {n : Nat} {s₀ : Shared} {c : Code} {fs : List Frame} {s : Shared} {env : Env}
  {K : Flow → Sem PySem.Fin} {J : Value → Sem PySem.Fin} {gd : Bool → Bool} {lv : List Value → List Value}
theorem seg_For {M : Model} {target iter : Expr} {body : List Stmt} {pos : Pos}
    (h : wpAny M (A.over c fs) (eval iter env) (fun x s1 => wpAny M (A.over c fs) (pyIter x) (fun it s2 => ∀ p, Seg M A R Y n s₀ (.forLoop target it body [] env) (M.den (.forLoop target it body [] env))
      (.ret (fun r => ((match r with | .ok f => (.pure f : Sem Flow) | .error e => .raise e).onRaise (cameBack env)).wrap K J gd lv) none (gd false) (lv []) c p [] :: fs) s2) (fun x s' => Seg M A R Y n s₀ c (J x) fs s') s1) (fun x s' => Seg M A R Y n s₀ c (J x) fs s') s)
    (hs : ∀ x, foldedSetIterable iter env x = pure x) :
    Seg M A R Y n s₀ c ((exec (.For target iter body [] pos) env).wrap K J gd lv) fs s := by
  rw [exec_For]
  refine seg_bind_wrap (wpAny_standAt ?_)
  refine seg_bind_wrap (wpAny_mono h (fun x s1 h1 => ?_) fun _ _ z => z)
  refine seg_bind_wrap (wpAny_of_eq (hs x) ?_)
  refine seg_bind_wrap (wpAny_standAt ?_)
  refine seg_bind_wrap (wpAny_holding (wpAny_mono h1 (fun it s2 h2 => ?_) fun _ _ z => z))
  exact seg_call fun p => h2 p
/-- what a loop does with an exception -/
abbrev noted (env : Env) (e : Value) : Sem PySem.Fin := (do noteFrame e env; theTreesLotGoes e : Sem Unit).wrap (fun _ => .raise e) .raise id id
theorem seg_forLoop {target : Expr} {it : Value} {body : List Stmt}
    (h : wpAny (model prog w) (A.over (.forLoop target it body [] env) fs) (pyNext it) (fun r s1 => match r with
      | none => Seg (model prog w) A R Y n s₀ (.forLoop target it body [] env) (.pure (.again (.block [] env))) fs s1
      | some v => wpAny (model prog w) (A.over (.forLoop target it body [] env) fs) (letOwnedTupleGo target it v) (fun _ s2 => wpAny (model prog w) (A.over (.forLoop target it body [] env) fs) (assign target env v) (fun _ s3 =>
          Seg (model prog w) A R Y n s₀ (.forLoop target it body [] env) ((execs body env).wrap (fun f => match f with
            | .next | .cont => .pure (.again (.forLoop target it body [] env))
            | .brk => .pure (.done .next)
            | .ret v => .pure (.done (.ret v))) (noted env) id id) fs s3)
          (fun x s' => Seg (model prog w) A R Y n s₀ (.forLoop target it body [] env) (noted env x) fs s') s2) (fun x s' => Seg (model prog w) A R Y n s₀ (.forLoop target it body [] env) (noted env x) fs s') s1)
      (fun x s' => Seg (model prog w) A R Y n s₀ (.forLoop target it body [] env) (noted env x) fs s') s) :
    Seg (model prog w) A R Y n s₀ (.forLoop target it body [] env) ((model prog w).den (.forLoop target it body [] env)) fs s := by
  show Seg _ A R Y n s₀ _ ((forTurn target it body [] env).onRaise (fun x => do noteFrame x env; theTreesLotGoes x)) fs s
  rw [Sem.onRaise_eq_wrap]
  rw [Sem.wrap_congr (forTurn target it body [] env) _ _ (K' := .pure) (H' := noted env) (fun _ => rfl) (fun e => by rw [Sem.bind_eq_wrap])]
  unfold forTurn
  refine seg_bind_wrap (wpAny_standAt ?_)
  refine seg_bind_wrap (wpAny_onRaise (wpAny_mono h (fun r s1 h1 => ?_) fun _ _ z => wpAny_standAt z))
  cases r with
  | none => exact h1
  | some v =>
    refine seg_bind_wrap (wpAny_mono h1 (fun _ s2 h2 => ?_) fun _ _ z => z)
    refine seg_bind_wrap (wpAny_mono h2 (fun _ s3 h3 => ?_) fun _ _ z => z)
    rw [Sem.bind_eq_wrap', Sem.wrap_wrap]
    exact Eq.mpr (congrArg (fun t => Seg (model prog w) A R Y n s₀ _ t fs s3) (Sem.wrap_congr (execs body env) id id (fun f => by cases f <;> rfl) (fun _ => rfl))) h3
theorem seg_block0 (h : Seg (model prog w) A R Y n s₀ (.block [] env) (.pure (.done .next)) fs s) : Seg (model prog w) A R Y n s₀ (.block [] env) ((model prog w).den (.block [] env)) fs s := by
  show Seg _ A R Y n s₀ _ (((execs [] env).onRaise (fun x => do noteFrame x env; theTreesLotGoes x)) >>= fun f => return PySem.Fin.done f) fs s
  rw [Sem.onRaise_eq_wrap, Sem.bind_eq_wrap', Sem.wrap_wrap]
  exact seg_execs_nil h
end
section
variable {X : Cx} {tg iter : Expr} {body : List Stmt} {wi : TI} {g : TG} {tb : TGn} {pos : Pos}
def tGFor (wi : TI) (g : TG) (tb : TGn) : TGn := fun D ys σ H => wi σ H fun J H1 => ∃ W : Nat → Nat → List V → L2.St → Hp → Prop, (∃ m, W 0 m ys σ H1) ∧ ∀ i m ys σ H, W i m ys σ H →
  (J.stop i H ∧ D.nx ys σ H) ∨ (J.go i H ∧ ∃ N : List V → L2.St → Hp → Prop, (∀ ys' σ' H', N ys' σ' H' → ∃ m', m' < m ∧ W (i + 1) m' ys' σ' H') ∧ ∀ x H', J.yld i H x H' → g x σ H' fun σ2 H2 => tb { D with nx := N, ct := N, bk := D.nx } ys σ2 H2)
/-- the iterator's objects: what stays true of them -/
def FpS (X : Cx) (S : Addr) (ip : List (Addr × Obj)) (b : Addr) : Prop :=
  b ≠ X.env.locals ∧ b ∉ X.fs ∧ (b ∈ X.ex ∨ X.s_0.heap.objs.size ≤ b) ∧ (∀ x c, X.env.cells.lookup x = some c → c ≠ b) ∧ (∀ p ∈ X.pn ++ ip, p.1 ≠ b) ∧ S ≠ b
theorem FpS.of {S : Addr} {ip : List (Addr × Obj)} {ob : Obj} {H : Hp} {b : Addr} (h : FpOk X ((S, ob) :: ip) H b) : FpS X S ip b := by
  obtain ⟨_, h1, h2, h3, h4, h5⟩ := h
  refine ⟨h1, h2, h3, h4, fun p hp => h5 p ?_, h5 (S, ob) (List.mem_append_right _ List.mem_cons_self)⟩
  rcases List.mem_append.mp hp with z | z
  · exact List.mem_append_left _ z
  · exact List.mem_append_right _ (List.mem_cons_of_mem _ z)
theorem FpS.ok {S : Addr} {ip : List (Addr × Obj)} {b : Addr} (h : FpS X S ip b) (ob : Obj) {H : Hp} (hn : H b = none) : FpOk X ((S, ob) :: ip) H b := by
  obtain ⟨h1, h2, h3, h4, h5, h6⟩ := h
  refine ⟨hn, h1, h2, h3, h4, fun p hp => ?_⟩
  rcases List.mem_append.mp hp with z | z
  · exact h5 p (List.mem_append_left _ z)
  · rcases List.mem_cons.mp z with rfl | z
    · exact h6
    · exact h5 p (List.mem_append_right _ z)
theorem gs_for (hp : PassesOwn (model X.prog X.w) X.A X.env X.xe) (hc : X.calm = true) (hi : PI X tg iter wi) (hg : PG X tg g) (hb : GSs X body tb)
    (hs : ∀ x, foldedSetIterable iter X.env x = pure x := by intro _; rfl) : GS X (.For tg iter body [] pos) (tGFor wi g tb) := by
  refine ⟨fun A S ip R n ys s₀ c fs K J gd lv s σ H D gc hn k hI ht => ?_⟩
  obtain ⟨acc, cc, r, I⟩ := hI
  have ex0 : ∀ (x : Value) (s' : Shared), X.xe x s' → Seg (model X.prog X.w) A R (GY X S) n s₀ c (J x) fs s' := fun x s' hx => k.exc n s₀ x s' hx
  refine seg_For ?_ hs
  rw [gc.over]
  refine wpAny_mono (hi.run _ s σ H _ I ht) (fun v s1 h1 => wpAny_mono h1 (fun itv s2 h2 p => ?_) ex0) ex0
  obtain ⟨it, fp, tn, Jt, H2, e, I2, T, st2, f2, W, ⟨m0, w0⟩, turn⟩ := h2
  subst e
  have stat : ∀ b ∈ fp, FpS X S ip b := fun b hb => FpS.of (f2 b hb)
  have gl := fun (kk : Result → Sem PySem.Fin) => gc_loop (k := kk) (c' := .forLoop tg (.ref it) body [] X.env) (l := lv []) (kp := []) (p := p) gc rfl rfl
  have gl2 := fun (kk : Result → Sem PySem.Fin) => gc_loop (k := kk) (c' := .block [] X.env) (l := lv []) (kp := []) (p := p) gc rfl rfl
  have loop : ∀ (m i n : Nat) (ys : List V) (s₀ s : Shared) (σ : L2.St) (H : Hp), n + ys.length = sizeLine → W i m ys σ H → GI X S ip ys σ H s → tn i s.heap → (∀ b ∈ fp, H b = none) →
      Seg (model X.prog X.w) A R (GY X S) n s₀ (.forLoop tg (.ref it) body [] X.env) ((model X.prog X.w).den (.forLoop tg (.ref it) body [] X.env))
        (.ret (fun r => ((match r with | .ok f => (.pure f : Sem Flow) | .error e => .raise e).onRaise (cameBack X.env)).wrap K J gd lv) none (gd false) (lv []) c p [] :: fs) s := by
    intro m
    induction m using Nat.strongRecOn with
    | ind m ih =>
      intro i n ys s₀ s σ H hn w hI st fr
      have ee : ∀ (n : Nat) (s₀ : Shared) (x : Value) (s' : Shared), X.xe x s' → Seg (model X.prog X.w) A R (GY X S) n s₀ (.forLoop tg (.ref it) body [] X.env) (noted X.env x)
          (.ret (fun r => ((match r with | .ok f => (.pure f : Sem Flow) | .error e => .raise e).onRaise (cameBack X.env)).wrap K J gd lv) none (gd false) (lv []) c p [] :: fs) s' := fun n s₀ x s' hx => by
        refine seg_wrap ?_
        rw [(gl _).over]
        refine wpAny_bind (wpAny_mono (hp x s' hx) (fun _ s'' hcb => wpAny_theTreesLotGoes ?_) fun y s'' hcb => ?_)
        · exact seg_leaf (.error x) (seg_cameBack gc k hcb)
        · exact seg_leaf (.error y) (seg_cameBack gc k hcb)
      refine seg_forLoop ?_
      rw [(gl _).over]
      obtain ⟨acc, cc, r, I⟩ := hI
      have fok : ∀ {H' : Hp} (ob : Obj), (∀ b ∈ fp, H' b = none) → ∀ b ∈ fp, FpOk X ((S, ob) :: ip) H' b := fun ob hn b hb => (stat b hb).ok ob (hn b hb)
      rcases turn i m ys σ H w with ⟨stop, qn⟩ | ⟨go, N, hN, step⟩
      · refine wpAny_mono (T.done X rfl rfl rfl hc i _ s σ H X.xe I (fok _ fr) st stop) (fun r1 s4 ⟨hr, I4⟩ => ?_) fun x s' hx => ee n s₀ x s' hx
        subst hr
        refine seg_again rfl (seg_block0 ?_)
        exact seg_leaf (.ok .next) (k.ok n ys s₀ s4 .next hn ⟨σ, H, ⟨acc, cc, r, I4⟩, qn⟩)
      · refine wpAny_mono (T.item X rfl rfl rfl hc i _ s σ H X.xe I (fok _ fr) st go) (fun r1 s4 ⟨u, hr, h4⟩ => ?_) fun x s' hx => ee n s₀ x s' hx
        subst hr
        refine wpAny_mono h4 (fun _ s5 ⟨x, H5, I5, r5, y5, st5, fr5⟩ => ?_) fun x s' hx => ee n s₀ x s' hx
        have I5' : Inv X ((S, lstObj acc cc) :: (ip ++ pinsAt fp s5.heap)) σ H5 s5 := I5.pinned (fok _ fr5) (T.obj _ _ st5)
        refine wpAny_mono (hg.run _ s5 σ H5 x u _ I5' r5 (step x H5 y5)) (fun _ s6 ⟨σ6, H6, I6, q6⟩ => ?_) fun x s' hx => ee n s₀ x s' hx
        have gl' : GC X S (ip ++ pinsAt fp s5.heap) A (.forLoop tg (.ref it) body [] X.env) (.ret (fun r => ((match r with | .ok f => (.pure f : Sem Flow) | .error e => .raise e).onRaise (cameBack X.env)).wrap K J gd lv) none (gd false) (lv []) c p [] :: fs) id := by
          refine { gl _ with ip := fun q hq => ?_ }
          rcases List.mem_append.mp hq with z | z
          · exact gc.ip q z
          · intro e
            exact (stat q.1 (of_pinsAt z).1).2.2.2.2.2 e.symm
        refine hb.run A S _ R n ys s₀ _ _ _ _ id id s6 σ6 H6 { D with nx := N, ct := N, bk := D.nx } gl' hn ⟨fun n' ys' s₀' s7 f hn' hs7 => ?_, fun n' s₀' x s3 hx => ee n' s₀' x s3 hx⟩ ⟨acc, cc, r, I6⟩ q6
        have un : ∀ {zs : List V} {σ7 : L2.St} {H7 : Hp}, GI X S (ip ++ pinsAt fp s5.heap) zs σ7 H7 s7 → GI X S ip zs σ7 H7 s7 := fun {zs σ7 H7} hI7 => by
          obtain ⟨acc7, c7, r7, I7⟩ := hI7
          exact ⟨acc7, c7, r7, I7.unpinned (pins := (S, lstObj acc7 c7) :: ip)⟩
        have again : ∀ {zs : List V} {σ7 : L2.St} {H7 : Hp}, n' + zs.length = sizeLine → GI X S (ip ++ pinsAt fp s5.heap) zs σ7 H7 s7 → N zs σ7 H7 → Seg (model X.prog X.w) A R (GY X S) n' s₀' (.forLoop tg (.ref it) body [] X.env) (.pure (.again (.forLoop tg (.ref it) body [] X.env)))
            (.ret (fun r => ((match r with | .ok f => (.pure f : Sem Flow) | .error e => .raise e).onRaise (cameBack X.env)).wrap K J gd lv) none (gd false) (lv []) c p [] :: fs) s7 := fun {zs σ7 H7} hz hI7 n7 => by
          obtain ⟨m', hm, w7⟩ := hN zs σ7 H7 n7
          have hu := un hI7
          obtain ⟨acc7, c7, r7, I7⟩ := hI7
          have pinned : ∀ b ∈ fp, ∀ o, s5.heap.get? b = some o → s7.heap.get? b = some o ∧ H7 b = none := fun b hb o e => by
            have := I7.pin (b, o) (List.mem_append_right _ (List.mem_cons_of_mem _ (List.mem_append_right _ (mem_pinsAt hb e))))
            exact ⟨this.1, this.2.1⟩
          refine seg_again rfl (ih m' hm (i + 1) n' zs s₀' s7 σ7 H7 hz w7 hu (T.keep _ _ _ st5 fun b hb o e => (pinned b hb o e).1) fun b hb => ?_)
          obtain ⟨o, e, _⟩ := T.obj _ _ st5 b hb
          exact (pinned b hb o e).2
        cases f with
        | next =>
          obtain ⟨σ7, H7, I7, n7⟩ := hs7
          exact again hn' I7 n7
        | cont =>
          obtain ⟨σ7, H7, I7, n7⟩ := hs7
          exact again hn' I7 n7
        | brk =>
          obtain ⟨σ7, H7, I7, q7⟩ := hs7
          exact seg_leaf (.ok .next) (k.ok n' ys' s₀' s7 .next hn' ⟨σ7, H7, un I7, q7⟩)
        | ret v =>
          obtain ⟨x7, σ7, H7, I7, r7, q7⟩ := hs7
          exact seg_leaf (.ok (.ret v)) (k.ok n' ys' s₀' s7 (.ret v) hn' ⟨x7, σ7, H7, un I7, r7, q7⟩)
  exact loop m0 0 n ys s₀ s2 σ H2 hn w0 ⟨acc, cc, r, I2⟩ st2 fun b hb => (f2 b hb).1
end
end GFr

set_option Elab.async false
set_option linter.all false
set_option maxRecDepth 100000
set_option maxHeartbeats 4000000
/-! C(e, ..) whose __init__ may raise what the place takes -/
namespace MkS
open PySem PySem.Spec PyProof.Rows L2
section
variable {X : Cx} {CX : CXT} {k : Nat} {f C : Addr} {fd : FuncData} {ps : List Str} {sp : Sp} {E : L2.St → XK} {x : Str} {p pos : Pos} {e : Expr} {es : List Expr} {t : TA}
theorem run_makeS {pins : List (Addr × Obj)} {σ : L2.St} {H : Hp} {s : Shared} {Q : VK} {us : List Value} {vs : List V} (M : Mk X.K C f) (F : FnOk X.prog X.w X.K X.mg X.base CX k f fd ps sp) (hr : Room (k + 1) X.A) (hb : Binds X.K fd ps [])
    (hx : PassesAt CX X σ (E σ)) (I : Inv X pins σ H s) (r : Vals vs us)
    (h : ∀ x dx, H x = none → H dx = none → dx ≠ x → sp (.ref x :: vs) (upd (upd H dx (.own x)) x (.ins C dx [])) (fun v H2 => v = .non ∧ Q (.ref x) H2) (E σ)) :
    wpAny (model X.prog X.w) X.A (call (.ref C) us) (EP X pins σ Q) X.xe s := by
  have hq := h (s.heap.objs.size + 1) s.heap.objs.size (I.hok.fresh (Nat.le_succ _)) (I.hok.fresh (Nat.le_refl _)) (Nat.ne_of_lt (Nat.lt_succ_self _))
  have I2 := Inv.made (C := C) I
  have r2 : Vals (V.ref (s.heap.objs.size + 1) :: vs) (Value.ref (s.heap.objs.size + 1) :: us) := .cons rfl r
  have hl : (Value.ref (s.heap.objs.size + 1) :: us ++ []).length = ps.length := by
    have e := r2.length
    rw [F.len _ _ _ _ hq] at e
    rw [List.append_nil]
    exact e.symm
  have hbb := hb _ (Value.ref (s.heap.objs.size + 1) :: us) I2.kIn hl
  rw [List.append_nil] at hbb
  refine wpAny_call (make_map (f := f) I.kIn M.makes M.init (beq_iff_eq.mp M.fn) (codeAny_mono (F.run _ X.stack _ _ ⟨Value.ref (s.heap.objs.size + 1) :: us, []⟩ (Value.ref (s.heap.objs.size + 1) :: us) _ _ (E σ) (hr.make C us [])
    (I2.env0.make C us []) hbb r2 hq) fun r s' hq' => ?_))
  cases r with
  | error e => exact hx pins _ _ e s' I2 hq'
  | ok fl =>
    cases fl with
    | ret u =>
      obtain ⟨v, H', I3, rv, ev, q3⟩ := I2.after hq'
      subst ev
      exact ⟨rv, ⟨V.ref (s.heap.objs.size + 1), H', I3, rfl, q3⟩⟩
    | next => exact False.elim hq'
    | brk => exact False.elim hq'
    | cont => exact False.elim hq'
def tMakeS (C : Addr) (sp : Sp) (E : L2.St → XK) (t : TA) : TE := fun σ H Q => t σ H fun vs H1 => ∀ x dx, H1 x = none → H1 dx = none → dx ≠ x → sp (.ref x :: vs) (upd (upd H1 dx (.own x)) x (.ins C dx [])) (fun v H2 => v = .non ∧ Q (.ref x) H2) (E σ)
theorem pe_makeS (M : Mk X.K C f) (F : FnOk X.prog X.w X.K X.mg X.base CX k f fd ps sp) (hr : Room (k + 1) X.A) (hg : Gl X x) (hm : X.mg x = some (.ref C)) (hb : Binds X.K fd ps []) (hx : ∀ σ, PassesAt CX X σ (E σ))
    (ha : PA X (e :: es) t) (hdb : (x == ("__debug__" : Str)) = false := by decide) (he : starEach (e :: es) X.env = (false, eval e X.env) :: starEach es X.env := by rfl) (hpl : (backTo pos (starEach es X.env)).any (·.1) = false := by rfl) :
    PE X (.Call (.Name x p) (e :: es) [] pos) (tMakeS C sp E t) := by
  refine ⟨fun pins s σ H Q I h => ?_⟩
  refine wpAny_Call_Name_kw (ld_glob I hg hm ?_ hdb)
  refine PySem.W.callWith_K (h₀ := X.base) I.ok.mod.kin M.kp (thn (ha.run pos pins s σ H _ I h) fun us s1 ⟨vs, H1, I1, r, q⟩ => ⟨I1.kIn, ?_⟩) he hpl
  exact run_makeS M F hr hb (hx σ) I1 r q
end
end MkS

set_option Elab.async false
set_option linter.all false
set_option maxRecDepth 100000
set_option maxHeartbeats 8000000
/-! the class of records -/
namespace REC
open PySem PySem.Spec PyProof.Rows L2 ND KS KS.La PLC
open KX hiding sameUpd
abbrev rInit : Stmt := inClass (top 13) 0
abbrev rLen : Stmt := inClass (top 13) 2
abbrev rEq : Stmt := inClass (top 13) 4
abbrev rSteps : Stmt := inClass (top 13) 13
abbrev FnM (K : PySem.W.Frag) (x q : Str) (st : Stmt) (f : Addr) (fd : FuncData) : Prop := FunD K x q (defArgs st) (defBody st) (defScope st) [] [] f fd
/-- what a look at the class of such an object finds -/
structure IsC (K : PySem.W.Frag) (C : Addr) : Prop where
  cl : Cls K C
  ha : PySem.W.findIn K (.ref C) "__class__" = some (some (.builtin "object.__class__"))
  hn : PySem.W.specialIn K (.builtin "object.__class__") "__get__" = some (some (.builtin "getset_descriptor.__get__"))
  ht : PySem.W.takesIn K (.builtin "object.__class__") = some true
  hm : PySem.W.mroIn K C (.type "object") = some true
theorem IsC.ty {K : PySem.W.Frag} {C : Addr} (c : IsC K C) {H : Hp} {a dx : Addr} {fs : List (Str × V)} (h : H a = some (.ins C dx fs)) : TyX K H (.ref a) (.ref C) := .base (.ins h c.cl c.ha c.hn c.ht c.hm)
theorem kitDict : ∀ t ∈ ["list", "tuple"], kitB t "dict" = some false := by decide +kernel
theorem kitLD {K : PySem.W.Frag} : PySem.W.kitOne K (.type "list") (.type "dict") = some false := kit_ty (kitDict _ (by simp))
theorem kitTD {K : PySem.W.Frag} : PySem.W.kitOne K (.type "tuple") (.type "dict") = some false := kit_ty (kitDict _ (by simp))
/-- an object's field is set: tuples stand -/
theorem TS.ins {H : Hp} {x C dx : Addr} {fs : List (Str × V)} {o : HO} (h : H x = some (.ins C dx fs)) : TS H (upd H x o) := fun a u e t => by
  rw [upd_ne fun z => by
    rw [z, h] at e
    cases e
    rcases t with ⟨_, q⟩ | ⟨_, _, q⟩ <;> cases q]
  exact e
section
variable {P : Program} {w : World} {K : PySem.W.Frag} {mg : Str → Option Value} {base : Heap} {f : Addr} {fd : FuncData} {CC CG CW CR : Addr}
def RcAt (P : Program) (w : World) (K : PySem.W.Frag) (CR : Addr) (H : Hp) (x : Addr) (T : List (Pc × Stp)) : Prop := ∃ dx D, H x = some (.ins CR dx [("_steps", .ref D)]) ∧ TA P w K H D T
theorem RcAt.same {H H' : Hp} {x : Addr} {T : List (Pc × Stp)} (h : RcAt P w K CR H x T) (s : Same H H') : RcAt P w K CR H' x T := let ⟨dx, D, a, b⟩ := h; ⟨dx, D, s _ _ a, b.same s pvStp⟩
/-- what becomes of these pairs: the record's table, or an error -/
def Due (K : PySem.W.Frag) (CC CG CW : Addr) (L : List (Pc × Stp)) (H : Hp) (R : Prop) (E : XK) : Prop :=
  (∀ p r, srt (dd (tbl L).2) = p :: r → ∀ H', Same H H' → Xs K CC p H' E) ∧
  ((tbl L).2 = [] → ∀ G, Grows (tbl L).1 G → ((ways (tbl L).1 G).2 = [] → R) ∧
    ∀ p r, srt (ways (tbl L).1 G).2 = p :: r → ∀ H', Same H H' → (gapP (tbl L).1 p = true → Xs K CG p H' E) ∧ (gapP (tbl L).1 p = false → Xs K CW p H' E))
def spRInit (P : Program) (w : World) (K : PySem.W.Frag) (CC CG CW CR : Addr) : Sp := fun vs H Q E => ∃ x dx l xs L, vs = [.ref x, .ref l] ∧ H x = some (.ins CR dx []) ∧ (SqL K H l xs ∨ SqT K H l xs) ∧ DpAll K H xs (L.map prD) ∧ (∀ q ∈ L, PrOk q) ∧ L.length ≤ 500 ∧
  Due K CC CG CW L H (∀ H', (∀ b o, b ≠ x → H b = some o → H' b = some o) → RcAt P w K CR H' x (tbl L).1 → Q .non H') E
theorem scRInit : FnScope ["self", "steps"] ["self", "steps"] (defScope rInit) := ⟨rfl, rfl, rfl, by decide +kernel, rfl, by decide +kernel, by decide +kernel⟩
theorem okRInit {k : Nat} {dvs : List V} (mi : mg "isinstance" = none) (md : mg "dict" = none) (cl : Cls K CR) (nf : NoAttr K CR "_steps") (aT : HasX P w K mg base (k + 7) "_table_of" ["pairs"] (spTbl P w K CC CG CW))
    (F : FunD K "__init__" "Record.__init__" (defArgs rInit) (defBody rInit) (defScope rInit) dvs [] f fd) : FnOk P w K mg base (L2.CX P w) (k + 8) f fd ["self", "steps"] (spRInit P w K CC CG CW CR) := by
  obtain ⟨fT, dT, gT, kT, bT, GT⟩ := aT.ex
  refine F.ok scRInit (fun vs H Q E h => ?_) (fun cdv A outer s H vs Q E hr h => ?_)
  · obtain ⟨x, dx, l, xs, L, rfl, _⟩ := h
    rfl
  · obtain ⟨x, dx, l, xs, L, rfl, hx, hl, dxs, okL, lL, q1, q2⟩ := h
    refine ⟨_, (pss_one (ps_fld (pv 0) (pe_ifExp (pt_val (pe_callB call_isi (by rfl) mi (by decide +kernel) (pa_cons (pv 1) (pa_cons (pe_bltn (v := .ty "dict") (by rfl) md (by decide +kernel) rfl) pa_nil)))) (pv 1) (pe_callS GT hr (by rfl) gT kT bT (fun σ => passAt (takes_of rfl rfl rfl rfl) σ) (pa_cons (pv 1) pa_nil))) rfl)), ?_⟩
    have noD : ∃ t, TyX K H (.ref l) t ∧ PySem.W.kitOne K t (.type "dict") = some false := by
      rcases hl with hl | hl
      · exact ⟨_, dpTy (.lst hl dxs), kitLD⟩
      · exact ⟨_, dpTy (.tup hl dxs), kitTD⟩
    obtain ⟨t, ht, kt⟩ := noD
    refine ⟨.ref l, rfl, .ref l, .ty "dict", t, .type "dict", false, rfl, .ty "dict", ht, kt, false, rfl, iteF ?_⟩
    refine ⟨.ref l, rfl, l, xs, L, rfl, hl, dxs, okL, lL, q1, fun e G gr => ?_⟩
    obtain ⟨a1, a2⟩ := q2 e G gr
    refine ⟨fun e2 D H' s' hT => ⟨.ref x, rfl, x, CR, dx, [], rfl, s' _ _ hx, cl, nf, by decide, ?_⟩, a2⟩
    have hx' := s' _ _ hx
    have ne : D ≠ x := fun z => by
      obtain ⟨kvs, n, _⟩ := hT
      have := n.o
      rw [z, hx'] at this
      cases this
    refine a1 e2 _ (fun b o nb hb => ?_) ⟨dx, D, upd_same, hT.ts (TS.ins hx') pvStp (upd_ne ne)⟩
    rw [upd_ne nb]
    exact s' _ _ hb
def spRLen (P : Program) (w : World) (K : PySem.W.Frag) (CR : Addr) : Sp := fun vs H Q _ => ∃ x T, vs = [.ref x] ∧ RcAt P w K CR H x T ∧ Q (.int ((T.length : Nat) : Int)) H
theorem scRLen : FnScope ["self"] ["self"] (defScope rLen) := ⟨rfl, rfl, rfl, by decide +kernel, rfl, by decide +kernel, by decide +kernel⟩
theorem okRLen {k : Nat} (ml : mg "len" = none) (cl : Cls K CR) (nf : NoAttr K CR "_steps") (F : FnM K "__len__" "Record.__len__" rLen f fd) : FnOk P w K mg base CX0 (k + 1) f fd ["self"] (spRLen P w K CR) := by
  refine F.ok scRLen (fun vs H Q E h => ?_) (fun cdv A outer s H vs Q E hr h => ?_)
  · obtain ⟨x, T, rfl, _⟩ := h
    rfl
  · obtain ⟨x, T, rfl, ⟨dx, D, hx, kvs, n, pr⟩, q⟩ := h
    refine ⟨_, PSs.nox (pss_one (ps_ret (pe_callB call_lenN (by rfl) ml PySem.boot_len (pa_cons (pe_fld (pv 0) rfl) pa_nil)))), ?_⟩
    refine ⟨.ref x, rfl, x, CR, dx, _, .ref D, rfl, hx, cl, nf, rfl, D, kvs, rfl, n.q, ?_⟩
    rw [ND.pairedLen pr]
    exact q
def bothEmpty (P : Program) (w : World) (K : PySem.W.Frag) (CR : Addr) : Addr → Addr → Hp → Prop := fun a b H => RcAt P w K CR H a [] ∧ RcAt P w K CR H b []
theorem scREq : FnScope ["self", "other"] ["self", "other"] (defScope rEq) := ⟨rfl, rfl, rfl, by decide +kernel, rfl, by decide +kernel, by decide +kernel⟩
theorem okREq {k : Nat} (mi : mg "isinstance" = none) (gR : mg "Record" = some (.ref CR)) (iC : IsC K CR) (nf : NoAttr K CR "_steps") (k1 : PySem.W.kitOne K (.ref CR) (.ref CR) = some true) (F : FnM K "__eq__" "Record.__eq__" rEq f fd) : FnOk P w K mg base CX0 (k + 1) f fd ["self", "other"] (spEq (bothEmpty P w K CR)) := by
  refine F.ok scREq (fun vs H Q E h => ?_) (fun cdv A outer s H vs Q E hr h => ?_)
  · obtain ⟨a, b, rfl, _⟩ := h
    rfl
  · obtain ⟨a, b, rfl, ⟨⟨da, D, ha, kvs, n, pr⟩, db, D', hb, kvs', n', pr'⟩, q⟩ := h
    cases pr
    cases pr'
    refine ⟨_, PSs.nox (pss_one (ps_ret (pe_and (pe_callB call_isi (by rfl) mi (by decide +kernel) (pa_cons (pv 1) (pa_cons (pe_glob (v := .ref CR) (by rfl) gR rfl) pa_nil))) (pe_one (pe_cmpR (r := rEq0 P w K) (op_eq0 (Nat.lt_of_le_of_lt (Nat.le_add_right _ _) hr.units)) (pe_fld (pv 0) rfl) (pe_fld (pv 1) rfl) (nomark _)))))), ?_⟩
    refine ⟨.ref b, rfl, .ref b, .ref CR, .ref CR, .ref CR, true, rfl, .own CR, iC.ty hb, k1, true, rfl, iteT ?_⟩
    exact ⟨.ref a, rfl, a, CR, da, _, .ref D, rfl, ha, iC.cl, nf, rfl, .ref b, rfl, b, CR, db, _, .ref D', rfl, hb, iC.cl, nf, rfl, D, D', rfl, rfl, n.q, n'.q, q H fun _ _ h => h⟩
/-! ### steps() -/
def sortedOf (T : List (Pc × Stp)) (S : List Pc) : List (Pc × Stp) := S.filterMap fun p => (aLook T p).map fun s => (p, s)
def sorted (T : List (Pc × Stp)) : List (Pc × Stp) := sortedOf T (srt (T.map (·.1)))
theorem rwDp {H : Hp} {kvs : List KvD} {T : List (Pc × Stp)} (pr : Paired (Rw K H pcD stpD) kvs T) (hk : ∀ q ∈ kvs, Dp K H (.ref q.2.1) q.1) : DpAll K H (kvs.map fun q => V.ref q.2.1) ((T.map (·.1)).map pcD) := by
  induction pr with
  | nil => exact .nil
  | @cons q p kvs T h _ ih =>
    rw [List.map_cons, List.map_cons, List.map_cons]
    exact .cons (by rw [← h.1]; exact hk q List.mem_cons_self) (ih fun q hq => hk q (List.mem_cons_of_mem _ hq))
def spSteps (P : Program) (w : World) (K : PySem.W.Frag) (CR : Addr) : SpG := fun vs H Q _ => ∃ x T, vs = [.ref x] ∧ RcAt P w K CR H x T ∧ T.length ≤ 500 ∧ (∀ p ∈ T.map (·.1), Ok p) ∧ ∀ out H', Same H H' → DpAll K H' out ((sorted T).map prD) → Q out H'
theorem scRSteps : GScope ["self", "place"] ["self"] (defScope rSteps) := ⟨rfl, rfl, rfl, by decide +kernel, rfl, by decide +kernel, by decide +kernel⟩
theorem okRSteps {k : Nat} (B : Bn mg) (cl : Cls K CR) (nf : NoAttr K CR "_steps") (aO : Has P w K mg base (k + 4) "ordered" ["places"] (spOdd K)) (F : FnM K "steps" "Record.steps" rSteps f fd) : GFn P w K mg base (k + 6) f fd ["self"] (spSteps P w K CR) := by
  obtain ⟨fO, dO, gO, kO, bO, GO⟩ := aO.ex
  obtain ⟨oc, od, dV, kV, doc, pm, an, cdv, ct, osl, rfl, lk, hcd, _, _⟩ := F.ex
  refine gfn_of lk hcd scRSteps (fun vs H Q E h => ?_) (fun A outer s H vs Q E pn hr h => ?_)
  · obtain ⟨x, T, rfl, _⟩ := h
    rfl
  · obtain ⟨x, T, rfl, hR, lT, okT, q⟩ := h
    have hu9 : (A.deeper (envOfC "Record.steps" (defScope rSteps) s.heap.objs.size f cdv)).units + 9 < cLine := Nat.lt_of_le_of_lt (Nat.add_le_add_left (by decide) _) hr.units
    refine ⟨_, gss_cons (GFr.gs_for owns_gcx rfl (pi_list (pe_call GO (hr.mono (by omega)) (by rfl) gO kO bO .nil pass0 (pa_cons (pe_callTy (T := "list") (call_listN rfl) (by rfl) B.list (by decide +kernel) (pa_cons (pe_fld (pv 0) rfl) pa_nil)) pa_nil))) (pg_name (i := 1) scRSteps.nd rfl (.inl rfl))
      (gss_cons (gs_yield (pe_tup (pa_cons (pv 1) (pa_cons (pe_ix (ix_ndq hu9) (pe_fld (pv 0) rfl) (pv 1) (fun _ _ => rfl)) pa_nil)))) gss_nil)) gss_nil, ?_⟩
    obtain ⟨dx, D, hx, kvs, n, pr⟩ := id hR
    have dks := rwDp pr fun q hq => (n.k q hq).2
    have lk := ND.pairedLen pr
    refine ⟨.ref x, rfl, x, CR, dx, _, .ref D, rfl, hx, cl, nf, rfl, D, kvs, rfl, n, fun L hL => ?_⟩
    have s1 := sameUpd (o := .lst (kvs.map fun q => V.ref q.2.1)) hL
    have eL : upd H L (.lst (kvs.map fun q => V.ref q.2.1)) L = some (.lst (kvs.map fun q => V.ref q.2.1)) := upd_same
    generalize upd H L (.lst (kvs.map fun q => V.ref q.2.1)) = H1 at s1 eL ⊢
    refine ⟨L, _, T.map (·.1), rfl, .inl (.inl eL), dpAllSame s1 _ _ dks, okT, by rw [List.length_map]; omega, fun r ys H2 s2 nr er dys => ?_⟩
    have s02 := s1.trans s2
    refine ⟨r, rfl, ⟨_, .inl (.inl er)⟩, ?_⟩
    have pmS : (srt (T.map (·.1))).Perm (T.map (·.1)) := List.mergeSort_perm _ _
    have lS : (srt (T.map (·.1))).length = T.length := by rw [pmS.length_eq, List.length_map]
    have mS : ∀ p ∈ srt (T.map (·.1)), ∃ s, aLook T p = some s := fun p hp => by
      cases e : aLook T p with
      | none => exact absurd (pmS.mem_iff.mp hp) (aLook_none.mp e)
      | some s => exact ⟨s, rfl⟩
    have q2 : ∀ out H', Same H H' → DpAll K H' out ((sortedOf T (srt (T.map (·.1)))).map prD) → Q out H' := q
    generalize srt (T.map (·.1)) = S at *
    have lys := dpLen dys
    rw [List.length_map] at lys
    refine ⟨fun i m zs σ' H' => m = S.length - i ∧ i ≤ S.length ∧ ∃ x1, σ' = [some (.ref x), x1] ∧ Same H2 H' ∧ DpAll K H' zs ((sortedOf T (S.take i)).map prD), ⟨S.length, by simp, Nat.zero_le _, none, rfl, fun _ _ h => h, .nil⟩, ?_⟩
    rintro i m zs σ' H' ⟨rfl, li, x1, rfl, s3, dz⟩
    have er3 := s3 _ _ er
    by_cases lt : i < S.length
    · refine .inr ⟨⟨ys, ys[i]'(by omega), .inl (.inl er3), List.getElem?_eq_getElem (by omega)⟩, fun zs' σ'' H'' => i + 1 ≤ S.length ∧ ∃ x1, σ'' = [some (.ref x), x1] ∧ Same H2 H'' ∧ DpAll K H'' zs' ((sortedOf T (S.take (i + 1))).map prD), fun zs' σ'' H'' h => ⟨S.length - (i + 1), by omega, rfl, h⟩, fun v H5 y => ?_⟩
      obtain ⟨rfl, ey⟩ := y
      have e2 : (S.map pcD)[i]? = some (pcD S[i]) := by rw [List.getElem?_map, List.getElem?_eq_getElem lt]; rfl
      obtain ⟨v2, g1, g2⟩ := dpAt dys e2
      obtain rfl : v = v2 := Option.some.inj ((ey _ (.inl (.inl er3))).symm.trans g1)
      obtain ⟨st, est⟩ := mS _ (List.getElem_mem lt)
      have tk1 : S.take (i + 1) = S.take i ++ [S[i]] := List.take_succ_eq_append_getElem lt
      have so1 : sortedOf T (S.take (i + 1)) = sortedOf T (S.take i) ++ [(S[i], st)] := by
        rw [tk1]
        unfold sortedOf
        rw [List.filterMap_append, List.filterMap_cons, est]
        rfl
      have lz := dpLen dz
      have lso : (sortedOf T (S.take i)).length ≤ i := by
        have h1 := List.length_filterMap_le (fun p => (aLook T p).map fun s => (p, s)) (S.take i)
        rw [List.length_take] at h1
        unfold sortedOf
        omega
      rw [List.length_map] at lz
      generalize S[i] = p at *
      have dp3 := dpSame s3 _ _ g2
      obtain ⟨pa, _, _, rfl, _⟩ := pcAt dp3
      have sA : Same H H5 := s02.trans s3
      obtain ⟨kvs3, n3, pr3⟩ := (show TA P w K H D T from ⟨kvs, n, pr⟩).same sA pvStp
      refine ⟨by rw [sizeLine_eq]; omega, .ref pa, rfl, .ref x, rfl, x, CR, dx, _, .ref D, rfl, sA _ _ hx, cl, nf, rfl, .ref pa, rfl, ?_⟩
      rcases rwVal kdPc pr3 p with ⟨_, e3⟩ | ⟨v3, s4, e3, e4, e5⟩
      · rw [est] at e3; cases e3
      rw [est] at e4
      cases e4
      refine ⟨D, pa, _, kvs3, v3, rfl, rfl, n3.q, dp3, kdPc.pl _, e3, by show 2 ≤ sizeLine; decide, fun t ht => ?_⟩
      have s6 := sameUpd (o := .tup [.ref pa, v3]) ht
      have et : upd H5 t (.tup [.ref pa, v3]) t = some (.tup [.ref pa, v3]) := upd_same
      refine ⟨by omega, _, rfl, s3.trans s6, ?_⟩
      rw [so1, List.map_append]
      exact dpSnoc (.tup (.inl (.inl et)) (.cons (dpSame s6 _ _ dp3) (.cons (dpSame s6 _ _ e5) .nil))) (dpAllSame s6 _ _ dz)
    · have e : i = S.length := by omega
      subst e
      rw [List.take_length] at dz
      exact .inl ⟨⟨ys, .inl (.inl er3), by omega⟩, q2 zs H' (s02.trans s3) dz⟩
end
end REC

set_option Elab.async false
set_option linter.all false
set_option maxRecDepth 100000
set_option maxHeartbeats 8000000
/-! what a record tells, or who refuses it -/
namespace REC
open PySem PySem.Spec PyProof.Rows L2 ND KS KS.La PLC
open KX hiding sameUpd
abbrev lRefused : Stmt := top 50
inductive Res
  | made (S : List (Pc × Stp))
  | bad (k : Str) (p : Pc)
/-- what stands there -/
def ResAt (K : PySem.W.Frag) (H : Hp) (v : V) : Res → Prop
  | .made S => ∃ t l xs, v = .ref t ∧ SqT K H t [.str "made", .ref l] ∧ H l = some (.lst xs) ∧ DpAll K H xs (S.map prD)
  | .bad k p => Dp K H v (.tuple [.str k, pcD p])
/-- what becomes of these pairs -/
def Told (L : List (Pc × Stp)) (res : Res) : Prop :=
  (∃ p r, srt (dd (tbl L).2) = p :: r ∧ res = .bad "clash" p) ∨
  ((tbl L).2 = [] ∧ ∃ G, Grows (tbl L).1 G ∧ (((ways (tbl L).1 G).2 = [] ∧ res = .made (sorted (tbl L).1)) ∨ ∃ p r, srt (ways (tbl L).1 G).2 = p :: r ∧ res = .bad (if gapP (tbl L).1 p = true then "gap" else "again") p))
/-- isinstance(e, c), e the error that the suite holds, with its dict -/
def rIsD (K : PySem.W.Frag) (a : Addr) (cls : Value) (d : Option Addr) : List V → Hp → VK → Prop := fun xs H Q => ∃ (D : Addr) (c : V) (cv : Value) (b : Bool) (dd : Addr) (fs : List (Str × V)), xs = [.ref a, c] ∧ cls = .ref D ∧ d = some dd ∧ H dd = some (.xd fs) ∧ XC K D ∧ ClsV c cv ∧ PySem.W.kitOne K (.ref D) cv = some b ∧ Q (.bl b) H
theorem callIsD {X : Cx} {a : Addr} {oe : Obj} {pn : List (Addr × Obj)} {cls : Value} {d : Option Addr} (hz : Zc cls d oe) (hf : ∃ vs, oe.data = .fields vs) : CallR (X.suite a ((a, oe) :: pn)) (.builtin "isinstance") (rIsD X.K a cls d) := by
  intro pins s σ H xs us Q I r h
  obtain ⟨D, c, cv, b, dd, fs, rfl, rfl, rfl, hdd, T, hc, ans, q⟩ := h
  obtain ⟨u1, u2, rfl, r1, r2⟩ := vals2 r
  have e2 := hc.eq r2
  subst e2
  cases (show u1 = Value.ref a from r1)
  obtain ⟨hget, _⟩ := I.pin (a, oe) (List.mem_append.mpr (.inl List.mem_cons_self))
  obtain ⟨vs, hv⟩ := hf
  have hx : ObjOk X.prog X.w H s.heap dd (.xd fs) := I.hok dd _ hdd
  obtain ⟨mA, hns, hr⟩ := hx
  obtain ⟨od, ho, hl⟩ := lookIn_ns hns
  have J : PySem.W.InstAt s.heap a oe D (some od) := ⟨hget, hz.1, by unfold PySem.W.notCls; rw [hv] <;> rfl, by rw [hz.2]; exact ho⟩
  have hcl : (PySem.W.clsIn X.K D).isSome = true := by
    obtain ⟨cd, hcd, _⟩ := PySem.W.any_some T.hd
    rw [hcd]
    rfl
  exact PySem.W.kia_one (PySem.W.kitx_exc hcl T.ga T.gg T.ex T.cl T.gt T.st T.ob) I.kIn J ans (fun z => nomatch z) fun tk => ⟨.bl b, H, I.tok tk, rfl, q⟩
theorem passE0 {P : Program} {w : World} {X : Cx} : Passes (L2.CX P w) X E0 := fun _ _ _ _ _ _ _ h => by
  obtain ⟨_, _, _, _, _, _, _, _, _, _, _, _, hW⟩ := h
  exact hW.elim
/-- the three errors, told apart -/
structure Three (P : Program) (w : World) (K : PySem.W.Frag) (mg : Str → Option Value) (base : Heap) (CC CG CW BE : Addr) : Prop where
  c : Cl1 P w K mg base "Clash" CC "spot"
  g : Cl1 P w K mg base "Gap" CG "spot"
  r : Cl1 P w K mg base "Rewritten" CW "spot"
  be : mg "BuildError" = some (.ref BE)
  ec : PySem.W.exmOne K (.ref CC) (.ref BE) = some true
  eg : PySem.W.exmOne K (.ref CG) (.ref BE) = some true
  er : PySem.W.exmOne K (.ref CW) (.ref BE) = some true
  cc : PySem.W.kitOne K (.ref CC) (.ref CC) = some true
  cg : PySem.W.kitOne K (.ref CC) (.ref CG) = some false
  cr : PySem.W.kitOne K (.ref CC) (.ref CW) = some false
  gc : PySem.W.kitOne K (.ref CG) (.ref CC) = some false
  gg : PySem.W.kitOne K (.ref CG) (.ref CG) = some true
  gr : PySem.W.kitOne K (.ref CG) (.ref CW) = some false
  rc : PySem.W.kitOne K (.ref CW) (.ref CC) = some false
  rg : PySem.W.kitOne K (.ref CW) (.ref CG) = some false
  rr : PySem.W.kitOne K (.ref CW) (.ref CW) = some true
theorem xfOf {P : Program} {w : World} {K : PySem.W.Frag} {mg : Str → Option Value} {base : Heap} {x : Str} {C : Addr} {f : Str} (c : Cl1 P w K mg base x C f) : XfC K C := ⟨c.xc.ga, c.xc.gg, c.xc.ex, c.xc.hd⟩
/-- what the class of records is -/
structure RecC (P : Program) (w : World) (K : PySem.W.Frag) (mg : Str → Option Value) (base : Heap) (k : Nat) (CC CG CW CR : Addr) : Prop where
  gm : mg "Record" = some (.ref CR)
  ic : IsC K CR
  nf : NoAttr K CR "_steps"
  ini : ∃ (f : Addr) (fd : FuncData), Mk K CR f ∧ Binds K fd ["self", "steps"] [] ∧ FnOk P w K mg base (L2.CX P w) (k + 8) f fd ["self", "steps"] (spRInit P w K CC CG CW CR)
  steps : ∃ (f : Addr) (fd : FuncData), Meth K CR "steps" f ∧ Binds K fd ["self"] [] ∧ GFn P w K mg base (k + 7) f fd ["self"] (spSteps P w K CR)
section
variable {P : Program} {w : World} {K : PySem.W.Frag} {mg : Str → Option Value} {base : Heap} {f : Addr} {fd : FuncData} {CC CG CW CR BE : Addr}
def spRefused (K : PySem.W.Frag) : Sp := fun vs H Q _ => ∃ l xs L, vs = [.ref l] ∧ (SqL K H l xs ∨ SqT K H l xs) ∧ DpAll K H xs (L.map prD) ∧ (∀ q ∈ L, PrOk q) ∧ L.length ≤ 500 ∧
  ∀ res, Told L res → ∀ r H', Same H H' → ResAt K H' r res → Q r H'
theorem scRefused : FnScope ["_law_pairs", "_law_found", "e"] ["_law_pairs"] (defScope lRefused) := ⟨rfl, rfl, rfl, by decide +kernel, rfl, by decide +kernel, by decide +kernel⟩
theorem okRefused {k : Nat} (B : Bn mg) (T : Three P w K mg base CC CG CW BE) (R : RecC P w K mg base k CC CG CW CR) (F : FnP K "_law_refused_by" lRefused f fd) : FnOk P w K mg base CX0 (k + 12) f fd ["_law_pairs"] (spRefused K) := by
  obtain ⟨fI, dI, MI, bI, GI⟩ := R.ini
  obtain ⟨fS, dS, mS, bS, GS⟩ := R.steps
  refine F.ok scRefused (fun vs H Q E h => ?_) (fun cdv A outer s H vs Q E hr h => ?_)
  · obtain ⟨l, xs, L, rfl, _⟩ := h
    rfl
  · obtain ⟨l, xs, L, rfl, hl, dxs, okL, lL, q⟩ := h
    refine ⟨_, PSs.nox (pss_cons (ps_set (i := 1) scRefused.nd rfl (.inl rfl) pe_non) (C8.pss_cut (psTryMix rfl rfl takes0
        (fun W pn xe tk _ => (pss_one (ps_set (i := 1) scRefused.nd rfl (.inl rfl) (pe_tup (pa_cons (pe_str) (pa_cons (pe_listG (pgen_meth0 (MkS.pe_makeS MI GI (hr.mono (by omega)) (by rfl) R.gm bI (fun σ => passAt tk σ) (pa_cons (pv 0) pa_nil)) R.ic.cl mS GS (hr.mono (by omega)) bS .nil) passE0 (fun _ _ _ h => h.elim) (hr.mono (by omega)) (by rfl) B.list (by decide +kernel)) pa_nil))))))
        (.named (i := 2) ⟨rfl, by decide, .inl T.be⟩ scRefused.nd rfl rfl (fun a oe cls d pn hz hf => (pss_cons (ps_set (i := 1) scRefused.nd rfl (.inl rfl) (pe_tup (pa_cons (pe_str) pa_nil))) (C8.pss_cut (ps_if (pt_val (pe_callB (callIsD hz hf) (by rfl) B.isi (by decide +kernel) (pa_cons (pv 2) (pa_cons (pe_glob (v := .ref CC) (by rfl) T.c.gm rfl) pa_nil)))) (pss_one (ps_set (i := 1) scRefused.nd rfl (.inl rfl) (pe_tup (pa_cons (pe_str) (pa_cons (pe_xf (xfOf T.c) T.c.no hz hf (pv 2)) pa_nil))))) pss_nil) (C8.pss_cut (ps_if (pt_val (pe_callB (callIsD hz hf) (by rfl) B.isi (by decide +kernel) (pa_cons (pv 2) (pa_cons (pe_glob (v := .ref CG) (by rfl) T.g.gm rfl) pa_nil)))) (pss_one (ps_set (i := 1) scRefused.nd rfl (.inl rfl) (pe_tup (pa_cons (pe_str) (pa_cons (pe_xf (xfOf T.g) T.g.no hz hf (pv 2)) pa_nil))))) pss_nil) (pss_one (ps_if (pt_val (pe_callB (callIsD hz hf) (by rfl) B.isi (by decide +kernel) (pa_cons (pv 2) (pa_cons (pe_glob (v := .ref CW) (by rfl) T.r.gm rfl) pa_nil)))) (pss_one (ps_set (i := 1) scRefused.nd rfl (.inl rfl) (pe_tup (pa_cons (pe_str) (pa_cons (pe_xf (xfOf T.r) T.r.no hz hf (pv 2)) pa_nil))))) pss_nil)))))) .nil)) (pss_one (ps_ret (pv 1))))), ?_⟩
    refine ⟨fun σ' H' => ∃ r res x2, σ' = [some (.ref l), some r, x2] ∧ Same H H' ∧ Told L res ∧ ResAt K H' r res, ?_, fun _ H' ⟨r, res, x2, e, s, told, at_⟩ => by subst e; exact ⟨r, rfl, q res told r H' s at_⟩⟩
    refine ⟨.ref l, rfl, fun x dx nx ndx nex => ?_⟩
    have sN : Same H (upd (upd H dx (.own x)) x (.ins CR dx [])) := fun b o hb => by
      rw [upd_ne (ne_of_none hb nx), upd_ne (ne_of_none hb ndx)]
      exact hb
    refine ⟨x, dx, l, xs, L, rfl, upd_same, hl.elim (fun h => .inl (sN.seq h)) (fun h => .inr (sameTup sN h)), dpAllSame sN _ _ dxs, okL, lL, fun p r e0 H' s' dd0 v HX s'' dv hdd => ?_, fun e0 G gr => ⟨fun e1 H' s' hR => ⟨rfl, ?_⟩, fun p r e1 H' s' => ⟨fun g dd0 v HX s'' dv hdd => ?_, fun g dd0 v HX s'' dv hdd => ?_⟩⟩⟩
    · have sX : Same H HX := (sN.trans s').trans s''
      refine ⟨true, T.ec, fun _ a0 na => ?_, fun z => Bool.noConfusion z⟩
      refine ⟨(by show 1 ≤ sizeLine; decide), fun t0 ht0 => ?_⟩
      have s9 := sameUpd (o := .tup [.str "other"]) ht0
      have hdd9 := s9 _ _ hdd
      have dv9 := dpSame s9 _ _ dv
      generalize upd HX t0 (.tup [.str "other"]) = H9 at *
      refine ⟨fun σ' H' => ∃ t, σ' = [some (.ref l), some (.ref t), some (.ref a0)] ∧ Same H9 H' ∧ H' t = some (.tup [.str "clash", v]), ?_, ?_⟩
      · refine ⟨.ref a0, rfl, CC, .ref CC, .ref CC, true, dd0, _, rfl, rfl, rfl, hdd9, T.c.xc, .own _, T.cc, true, rfl, ?_⟩
        exact iteT ⟨.ref a0, rfl, rfl, rfl, dd0, _, v, rfl, hdd9, rfl, (by show 2 ≤ sizeLine; decide), fun t ht => ⟨t, rfl, sameUpd ht, upd_same⟩⟩
      rintro _ Hm0 ⟨t1, rfl, s10, ee⟩
      have hdd9 := s10 _ _ hdd9
      have dv9 := dpSame s10 _ _ dv9
      have s9 := s9.trans s10
      refine ⟨fun σ' H' => ∃ t, σ' = [some (.ref l), some (.ref t), some (.ref a0)] ∧ Same Hm0 H' ∧ H' t = some (.tup [.str "clash", v]), ?_, ?_⟩
      · refine ⟨.ref a0, rfl, CC, .ref CG, .ref CG, false, dd0, _, rfl, rfl, rfl, hdd9, T.c.xc, .own _, T.cg, false, rfl, ?_⟩
        exact iteF ⟨t1, rfl, fun _ _ h => h, ee⟩
      rintro _ Hm1 ⟨t2, rfl, s11, ee⟩
      have hdd9 := s11 _ _ hdd9
      have dv9 := dpSame s11 _ _ dv9
      have s9 := s9.trans s11
      refine ⟨.ref a0, rfl, CC, .ref CW, .ref CW, false, dd0, _, rfl, rfl, rfl, hdd9, T.c.xc, .own _, T.cr, false, rfl, ?_⟩
      exact iteF ⟨.ref t2, .bad "clash" p, none, rfl, sX.trans s9, .inl ⟨p, r, e0, rfl⟩, .tup (.inl (.inl ee)) (.cons (.str _) (.cons dv9 .nil))⟩
    · have sH : Same H H' := fun b o hb => s' b o (ne_of_none hb nx) (sN _ _ hb)
      obtain ⟨dx', D, hx, hT⟩ := id hR
      have lT := tbl_len L
      have kT := tbl_keys L
      refine ⟨x, dx', _, rfl, hx, rfl, x, _, rfl, hR, by omega, fun p hp => ?_, fun out H2 s2 do_ Lr hLr => ?_⟩
      · obtain ⟨q0, hq, rfl⟩ := List.mem_map.mp (kT p hp)
        exact (okL q0 hq).1
      · refine ⟨by show 2 ≤ sizeLine; decide, fun t ht => ?_⟩
        have s3 := sameUpd (o := .lst out) hLr
        have s4 := sameUpd (o := .tup [.str "made", .ref Lr]) ht
        refine ⟨.ref t, .made (sorted (tbl L).1), none, rfl, ((sH.trans s2).trans s3).trans s4, .inr ⟨e0, G, gr, .inl ⟨e1, rfl⟩⟩, t, Lr, out, rfl, .inl (.inl upd_same), s4 _ _ upd_same, dpAllSame (s3.trans s4) _ _ do_⟩
    · have sX : Same H HX := (sN.trans s').trans s''
      refine ⟨true, T.eg, fun _ a0 na => ?_, fun z => Bool.noConfusion z⟩
      refine ⟨(by show 1 ≤ sizeLine; decide), fun t0 ht0 => ?_⟩
      have s9 := sameUpd (o := .tup [.str "other"]) ht0
      have hdd9 := s9 _ _ hdd
      have dv9 := dpSame s9 _ _ dv
      generalize upd HX t0 (.tup [.str "other"]) = H9 at *
      refine ⟨fun σ' H' => ∃ t, σ' = [some (.ref l), some (.ref t), some (.ref a0)] ∧ Same H9 H' ∧ True, ?_, ?_⟩
      · refine ⟨.ref a0, rfl, CG, .ref CC, .ref CC, false, dd0, _, rfl, rfl, rfl, hdd9, T.g.xc, .own _, T.gc, false, rfl, ?_⟩
        exact iteF ⟨t0, rfl, fun _ _ h => h, trivial⟩
      rintro _ Hm0 ⟨t1, rfl, s10, ee⟩
      have hdd9 := s10 _ _ hdd9
      have dv9 := dpSame s10 _ _ dv9
      have s9 := s9.trans s10
      refine ⟨fun σ' H' => ∃ t, σ' = [some (.ref l), some (.ref t), some (.ref a0)] ∧ Same Hm0 H' ∧ H' t = some (.tup [.str "gap", v]), ?_, ?_⟩
      · refine ⟨.ref a0, rfl, CG, .ref CG, .ref CG, true, dd0, _, rfl, rfl, rfl, hdd9, T.g.xc, .own _, T.gg, true, rfl, ?_⟩
        exact iteT ⟨.ref a0, rfl, rfl, rfl, dd0, _, v, rfl, hdd9, rfl, (by show 2 ≤ sizeLine; decide), fun t ht => ⟨t, rfl, sameUpd ht, upd_same⟩⟩
      rintro _ Hm1 ⟨t2, rfl, s11, ee⟩
      have hdd9 := s11 _ _ hdd9
      have dv9 := dpSame s11 _ _ dv9
      have s9 := s9.trans s11
      refine ⟨.ref a0, rfl, CG, .ref CW, .ref CW, false, dd0, _, rfl, rfl, rfl, hdd9, T.g.xc, .own _, T.gr, false, rfl, ?_⟩
      exact iteF ⟨.ref t2, .bad "gap" p, none, rfl, sX.trans s9, .inr ⟨e0, G, gr, .inr ⟨p, r, e1, by rw [if_pos g]⟩⟩, .tup (.inl (.inl ee)) (.cons (.str _) (.cons dv9 .nil))⟩
    · have sX : Same H HX := (sN.trans s').trans s''
      refine ⟨true, T.er, fun _ a0 na => ?_, fun z => Bool.noConfusion z⟩
      refine ⟨(by show 1 ≤ sizeLine; decide), fun t0 ht0 => ?_⟩
      have s9 := sameUpd (o := .tup [.str "other"]) ht0
      have hdd9 := s9 _ _ hdd
      have dv9 := dpSame s9 _ _ dv
      generalize upd HX t0 (.tup [.str "other"]) = H9 at *
      refine ⟨fun σ' H' => ∃ t, σ' = [some (.ref l), some (.ref t), some (.ref a0)] ∧ Same H9 H' ∧ True, ?_, ?_⟩
      · refine ⟨.ref a0, rfl, CW, .ref CC, .ref CC, false, dd0, _, rfl, rfl, rfl, hdd9, T.r.xc, .own _, T.rc, false, rfl, ?_⟩
        exact iteF ⟨t0, rfl, fun _ _ h => h, trivial⟩
      rintro _ Hm0 ⟨t1, rfl, s10, ee⟩
      have hdd9 := s10 _ _ hdd9
      have dv9 := dpSame s10 _ _ dv9
      have s9 := s9.trans s10
      refine ⟨fun σ' H' => ∃ t, σ' = [some (.ref l), some (.ref t), some (.ref a0)] ∧ Same Hm0 H' ∧ True, ?_, ?_⟩
      · refine ⟨.ref a0, rfl, CW, .ref CG, .ref CG, false, dd0, _, rfl, rfl, rfl, hdd9, T.r.xc, .own _, T.rg, false, rfl, ?_⟩
        exact iteF ⟨t1, rfl, fun _ _ h => h, trivial⟩
      rintro _ Hm1 ⟨t2, rfl, s11, ee⟩
      have hdd9 := s11 _ _ hdd9
      have dv9 := dpSame s11 _ _ dv9
      have s9 := s9.trans s11
      refine ⟨.ref a0, rfl, CW, .ref CW, .ref CW, true, dd0, _, rfl, rfl, rfl, hdd9, T.r.xc, .own _, T.rr, true, rfl, ?_⟩
      exact iteT ⟨.ref a0, rfl, rfl, rfl, dd0, _, v, rfl, hdd9, rfl, (by show 2 ≤ sizeLine; decide), fun t ht => ⟨.ref t, .bad "again" p, none, rfl, (sX.trans s9).trans (sameUpd ht), .inr ⟨e0, G, gr, .inr ⟨p, r, e1, by rw [if_neg (by rw [g]; exact Bool.false_ne_true)]⟩⟩, .tup (.inl (.inl upd_same)) (.cons (.str _) (.cons (dpSame (sameUpd ht) _ _ dv9) .nil))⟩⟩
end
end REC

set_option Elab.async false
set_option linter.all false
set_option maxRecDepth 100000
set_option maxHeartbeats 8000000
/-! the order of places -/
namespace REC
open PySem PySem.Spec PyProof.Rows L2 ND KS KS.La PLC
open PySem.W (dataLt dataLe alike alikeAll keyToks keyToksAll)
theorem toksEqv {x y : PyData} (a : alike x y = true) (e : keyToks x = keyToks y) : PyData.eqv x y = true := by
  cases h : PyData.eqv x y with
  | true => rfl
  | false =>
    have t := (PySem.W.toks_eqv x y a).2 h [.inl 0] [.inl 1]
    rw [e, PySem.W.lex_pre, lex_irrefl (O := itemOrd)] at t
    revert t
    decide +kernel
def ltL (p q : Pc) : Bool := dataLt (lkP p) (lkP q)
abbrev leL : Pc → Pc → Bool := dataLe false lkP
theorem leL_eq (p q : Pc) : leL p q = !ltL q p := rfl
theorem leAnti {p q : Pc} (h1 : leL p q = true) (h2 : leL q p = true) : p = q := by
  rw [leL_eq, Bool.not_eq_true'] at h1 h2
  have e := lex_total (O := itemOrd) _ _ h2 h1
  exact lkP_inj ((eqvPl (plLk p) (plLk q)).mp (toksEqv (alLkP p q) e))
theorem leTotal (p q : Pc) : leL p q = true ∨ leL q p = true := by
  rw [leL_eq, leL_eq, Bool.not_eq_true', Bool.not_eq_true']
  cases h : ltL q p with
  | false => exact .inl rfl
  | true =>
    refine .inr ?_
    cases h2 : ltL p q with
    | false => rfl
    | true =>
      have := lex_trans (O := itemOrd) _ _ _ h h2
      rw [lex_irrefl] at this
      cases this
theorem leTrans {p q r : Pc} (h1 : leL p q = true) (h2 : leL q r = true) : leL p r = true := by
  rw [leL_eq, Bool.not_eq_true'] at *
  cases h : ltL r p with
  | false => rfl
  | true =>
    rcases lex_negTrans (O := itemOrd) _ (keyToks (lkP q)) _ h with h | h
    · exact absurd h (by rw [show PyProof.Rows.lexLt itemOrd (keyToks (lkP r)) (keyToks (lkP q)) = false from h2]; exact Bool.false_ne_true)
    · exact absurd h (by rw [show PyProof.Rows.lexLt itemOrd (keyToks (lkP q)) (keyToks (lkP p)) = false from h1]; exact Bool.false_ne_true)
theorem eqvRefl {n : Nat} {d : PyData} (h : Pl n d) : PyData.eqv d d = true := (eqvPl h h).mpr rfl
theorem alRefl : ∀ {n : Nat} {d : PyData}, Pl n d → alike d d = true := by
  intro n d h
  induction h with
  | non => rfl
  | int => rfl
  | str => rfl
  | @tup n ds _ ih =>
    rw [alike]
    have gen : ∀ xs : List PyData, (∀ d ∈ xs, alike d d = true) → alikeAll xs xs = true := by
      intro xs
      induction xs with
      | nil => intro _; rfl
      | cons x xs ih2 =>
        intro h
        rw [alikeAll, h x List.mem_cons_self, ih2 fun d hd => h d (List.mem_cons_of_mem _ hd)]
        rfl
    exact gen ds ih
theorem plLkRow (r : List (Option Str)) : Pl 2 (lkRow r) := .tup fun d hd => by obtain ⟨a, _, rfl⟩ := List.mem_map.mp hd; exact plLkA a
theorem plLkRows (rs : List (List (Option Str))) : Pl 3 (.tuple (rs.map lkRow)) := .tup fun d hd => by obtain ⟨r, _, rfl⟩ := List.mem_map.mp hd; exact plLkRow r
/-- a smaller count -/
theorem ltCount {p q : Pc} (h1 : p.c = q.c) (h2 : p.as = q.as) (h3 : p.rs = q.rs) (h : p.n < q.n) : ltL p q = true := by
  unfold ltL lkP
  rw [h1, h2, h3, PySem.W.dataLt_tuple, PySem.W.dataLt_cons (alRefl (.str 0 _)), if_pos (eqvRefl (.str 0 _)), PySem.W.dataLt_cons (alRefl (plArgs _)), if_pos (eqvRefl (plArgs _)), PySem.W.dataLt_cons (alRefl (plLkRows _)), if_pos (eqvRefl (plLkRows _)),
    PySem.W.dataLt_cons (by simp [alike]), if_neg (by simp [PyData.eqv]; omega), PySem.W.dataLt_int]
  exact decide_eq_true h
theorem ltRows (r : List (Option Str)) : ∀ xs : List (List (Option Str)), PyProof.Rows.lexLt itemOrd (keyToksAll (xs.map lkRow)) (keyToksAll ((xs ++ [r]).map lkRow)) = true
  | [] => by
    show PyProof.Rows.lexLt itemOrd (keyToksAll []) (keyToksAll [lkRow r]) = true
    simp only [keyToksAll]
    rw [PySem.W.lex_atom (by decide)]
    decide +kernel
  | x :: xs => by
    show PyProof.Rows.lexLt itemOrd (keyToksAll (lkRow x :: xs.map lkRow)) (keyToksAll (lkRow x :: (xs ++ [r]).map lkRow)) = true
    rw [PySem.W.dataLt_cons (alRefl (plLkRow _)), if_pos (eqvRefl (plLkRow _)), ltRows r xs]
/-- fewer answers -/
theorem ltFewer {p q : Pc} {r : List (Option Str)} (h1 : p.c = q.c) (h2 : p.as = q.as) (h3 : q.rs = p.rs ++ [r]) : ltL p q = true := by
  have al : alike (.tuple (p.rs.map lkRow)) (.tuple (q.rs.map lkRow)) = true := by rw [alike]; exact alikeMap (fun x y => by unfold lkRow; rw [alike]; exact alikeMap alLk x y) _ _
  unfold ltL lkP
  rw [h1, h2, PySem.W.dataLt_tuple, PySem.W.dataLt_cons (alRefl (.str 0 _)), if_pos (eqvRefl (.str 0 _)), PySem.W.dataLt_cons (alRefl (plArgs _)), if_pos (eqvRefl (plArgs _)), PySem.W.dataLt_cons al, if_neg (fun e => ?_), PySem.W.dataLt_tuple, h3]
  · exact ltRows r p.rs
  · have := congrArg List.length (PyData.tuple.inj ((eqvPl (plLkRows _) (plLkRows _)).mp e))
    rw [h3] at this
    simp at this
theorem ltIrr (p : Pc) : ltL p p = false := lex_irrefl (O := itemOrd) _
theorem ltLe {p q : Pc} (h : ltL p q = true) : leL p q = true := by
  rcases leTotal p q with z | z
  · exact z
  · rw [leL_eq, h] at z
    cases z
/-- two sorted lists of the same things are one -/
theorem sortedPerm {α : Type} {le : α → α → Prop} (anti : ∀ a b, le a b → le b a → a = b) : ∀ {l m : List α}, l.Pairwise le → m.Pairwise le → l.Perm m → l = m
  | [], m, _, _, p => (List.nil_perm.mp p).symm
  | a :: l, [], _, _, p => absurd p.length_eq (by simp)
  | a :: l, b :: m, h1, h2, p => by
    have ha : a ∈ b :: m := p.mem_iff.mp List.mem_cons_self
    have hb : b ∈ a :: l := p.mem_iff.mpr List.mem_cons_self
    have e : a = b := by
      rcases List.mem_cons.mp ha with z | z
      · exact z
      rcases List.mem_cons.mp hb with y | y
      · exact y.symm
      exact anti a b ((List.pairwise_cons.mp h1).1 b y) ((List.pairwise_cons.mp h2).1 a z)
    subst e
    rw [sortedPerm anti (List.pairwise_cons.mp h1).2 (List.pairwise_cons.mp h2).2 (List.perm_cons a |>.mp p)]
theorem srtPw (l : List Pc) : (srt l).Pairwise fun a b => leL a b = true := List.pairwise_mergeSort (le := leL) (fun a b c h1 h2 => leTrans h1 h2) (fun a b => (Bool.or_eq_true _ _).mpr (leTotal a b)) l
theorem srtPm (l : List Pc) : (srt l).Perm l := List.mergeSort_perm _ _
theorem srtPerm {l m : List Pc} (h : l.Perm m) : srt l = srt m := sortedPerm (fun _ _ => leAnti) (srtPw l) (srtPw m) ((srtPm l).trans (h.trans (srtPm m).symm))
theorem ndPerm {α : Type} : ∀ {l m : List α}, l.Nodup → m.Nodup → (∀ a, a ∈ l ↔ a ∈ m) → l.Perm m := fun h1 h2 h => (List.perm_ext_iff_of_nodup h1 h2).mpr h
theorem ddNd (ds : List Pc) : (dd ds).Nodup := by
  induction ds using snocInd with
  | h0 => exact List.nodup_nil
  | hs l a ih =>
    rw [dd_snoc]
    unfold ins
    split
    · exact ih
    · rename_i c
      exact List.nodup_append.mpr ⟨ih, by simp, fun x hx y hy e => c (by rw [List.mem_singleton.mp hy] at e; exact e ▸ hx)⟩
theorem ddIff {ds : List Pc} {p : Pc} : p ∈ dd ds ↔ p ∈ ds := ⟨ddSub, ddMem⟩
/-- the same things, each once, in order -/
theorem srtDd {l m : List Pc} (h : ∀ p, p ∈ l ↔ p ∈ m) : srt (dd l) = srt (dd m) := srtPerm (ndPerm (ddNd l) (ddNd m) fun p => by rw [ddIff, ddIff]; exact h p)
theorem srtNd {l : List Pc} (h : l.Nodup) : srt (dd l) = srt l := srtPerm (ndPerm (ddNd l) h fun p => ddIff)
/-- the first of some in order -/
theorem srtSome {F S : List Pc} {f : Pc → Bool} (nF : F.Nodup) (nS : S.Nodup) (h : S.Pairwise fun a b => leL a b = true) (hF : ∀ p, p ∈ F ↔ p ∈ S ∧ f p = true) : srt F = S.filter f :=
  sortedPerm (fun _ _ => leAnti) (srtPw F) (h.filter f) ((srtPm F).trans (ndPerm nF (nS.filter f) fun p => by rw [hF p, List.mem_filter]))
end REC

set_option Elab.async false
set_option linter.all false
set_option maxRecDepth 100000
set_option maxHeartbeats 8000000
/-! which places have two steps; the table -/
namespace REC
open PySem PySem.Spec PyProof.Rows L2 ND KS KS.La PLC
/-- the law's way: the last step stands -/
def lwS (st : TbSt) (q : Pc × Stp) : TbSt := (aPut st.1 q.1 q.2, if (aLook st.1 q.1).getD q.2 = q.2 then st.2 else st.2 ++ [q.1])
def lwT (L : List (Pc × Stp)) : TbSt := L.foldl lwS ([], [])
theorem lwT_snoc (L : List (Pc × Stp)) (q : Pc × Stp) : lwT (L ++ [q]) = lwS (lwT L) q := by
  unfold lwT
  rw [List.foldl_append]
  rfl
/-- some place has two steps -/
def Two (L : List (Pc × Stp)) (p : Pc) : Prop := ∃ s t, (p, s) ∈ L ∧ (p, t) ∈ L ∧ s ≠ t
/-- what a table of these pairs is -/
structure TOf (L : List (Pc × Stp)) (st : TbSt) : Prop where
  sub : ∀ p s, aLook st.1 p = some s → (p, s) ∈ L
  all : ∀ p, p ∉ st.2 → ∀ t, (p, t) ∈ L → aLook st.1 p = some t
  two : ∀ p ∈ st.2, Two L p
theorem TOf.iff {L : List (Pc × Stp)} {st : TbSt} (h : TOf L st) (p : Pc) : p ∈ st.2 ↔ Two L p := by
  refine ⟨h.two p, fun ⟨s, t, hs, ht, ne⟩ => ?_⟩
  cases d : decide (p ∈ st.2) with
  | true => exact of_decide_eq_true d
  | false =>
    have n := of_decide_eq_false d
    have e1 := h.all p n s hs
    have e2 := h.all p n t ht
    rw [e1] at e2
    exact absurd (Option.some.inj e2) ne
theorem Two.more {L M : List (Pc × Stp)} {p : Pc} (h : Two L p) (s : ∀ q ∈ L, q ∈ M) : Two M p := let ⟨a, b, h1, h2, h3⟩ := h; ⟨a, b, s _ h1, s _ h2, h3⟩
theorem inSnoc {α : Type} {L : List α} {a b : α} (h : a ∈ L ++ [b]) : a ∈ L ∨ a = b := (List.mem_append.mp h).imp id List.mem_singleton.mp
theorem tblOf (L : List (Pc × Stp)) : TOf L (tbl L) := by
  induction L using snocInd with
  | h0 => exact ⟨fun p s h => (by cases h), fun p _ t h => (by cases h), fun p h => (by cases h)⟩
  | hs L q ih =>
    rw [tbl_snoc]
    have sub : ∀ x ∈ L, x ∈ L ++ [q] := fun x h => List.mem_append.mpr (.inl h)
    have lst : (q.1, q.2) ∈ L ++ [q] := List.mem_append.mpr (.inr List.mem_cons_self)
    unfold tbS
    split
    · rename_i e
      refine ⟨fun p s h => ?_, fun p n t h => ?_, fun p h => (ih.two p h).more sub⟩
      · rw [aLook_put] at h
        split at h
        · rename_i e2; cases h; subst e2; exact lst
        · exact sub _ (ih.sub p s h)
      · rw [aLook_put]
        rcases inSnoc h with h | h
        · have := ih.all p n t h
          rw [if_neg fun z => by rw [← z, e] at this; cases this]
          exact this
        · cases h; exact if_pos rfl
    · rename_i s0 e
      split
      · rename_i e2
        refine ⟨fun p s h => sub _ (ih.sub p s h), fun p n t h => ?_, fun p h => (ih.two p h).more sub⟩
        rcases inSnoc h with h | h
        · exact ih.all p n t h
        · cases h; rw [e, e2]
      · rename_i ne
        refine ⟨fun p s h => sub _ (ih.sub p s h), fun p n t h => ?_, fun p h => ?_⟩
        · rcases inSnoc h with h | h
          · exact ih.all p (fun z => n (List.mem_append.mpr (.inl z))) t h
          · cases h; exact absurd (List.mem_append.mpr (.inr List.mem_cons_self)) n
        · rcases inSnoc h with h | h
          · exact (ih.two p h).more sub
          · subst h; exact ⟨s0, q.2, sub _ (ih.sub _ _ e), lst, ne⟩
theorem lwOf (L : List (Pc × Stp)) : TOf L (lwT L) := by
  induction L using snocInd with
  | h0 => exact ⟨fun p s h => (by cases h), fun p _ t h => (by cases h), fun p h => (by cases h)⟩
  | hs L q ih =>
    rw [lwT_snoc]
    have sub : ∀ x ∈ L, x ∈ L ++ [q] := fun x h => List.mem_append.mpr (.inl h)
    have lst : (q.1, q.2) ∈ L ++ [q] := List.mem_append.mpr (.inr List.mem_cons_self)
    have looks : ∀ p s, aLook (aPut (lwT L).1 q.1 q.2) p = some s → (p, s) ∈ L ++ [q] := fun p s h => by
      rw [aLook_put] at h
      split at h
      · rename_i e2; cases h; subst e2; exact lst
      · exact sub _ (ih.sub p s h)
    unfold lwS
    split
    · rename_i e
      refine ⟨looks, fun p n t h => ?_, fun p h => (ih.two p h).more sub⟩
      show aLook (aPut (lwT L).1 q.1 q.2) p = some t
      rw [aLook_put]
      rcases inSnoc h with h | h
      · have := ih.all p n t h
        split
        · rename_i e2
          rw [e2, this] at e
          rw [← e]; rfl
        · exact this
      · cases h; exact if_pos rfl
    · rename_i ne
      refine ⟨looks, fun p n t h => ?_, fun p h => ?_⟩
      · have n1 : p ∉ (lwT L).2 := fun z => n (List.mem_append.mpr (.inl z))
        have n2 : p ≠ q.1 := fun z => n (List.mem_append.mpr (.inr (by rw [z]; exact List.mem_cons_self)))
        rcases inSnoc h with h | h
        · show aLook (aPut (lwT L).1 q.1 q.2) p = some t
          rw [aLook_put, if_neg (Ne.symm n2)]
          exact ih.all p n1 t h
        · cases h; exact absurd rfl n2
      · rcases inSnoc h with h | h
        · exact (ih.two p h).more sub
        · subst h
          cases e : aLook (lwT L).1 q.1 with
          | none => rw [e] at ne; exact absurd rfl ne
          | some s0 =>
            rw [e] at ne
            exact ⟨s0, q.2, sub _ (ih.sub _ _ e), lst, ne⟩
theorem sameClash (L : List (Pc × Stp)) : srt (dd (tbl L).2) = srt (dd (lwT L).2) := srtDd fun p => ((tblOf L).iff p).trans ((lwOf L).iff p).symm
theorem noClash (L : List (Pc × Stp)) : (tbl L).2 = [] ↔ (lwT L).2 = [] := by
  rw [List.eq_nil_iff_forall_not_mem, List.eq_nil_iff_forall_not_mem]
  exact ⟨fun h p hp => h p (((tblOf L).iff p).mpr (((lwOf L).iff p).mp hp)), fun h p hp => h p (((lwOf L).iff p).mpr (((tblOf L).iff p).mp hp))⟩
theorem aPut_id {κ α : Type} [DecidableEq κ] {T : List (κ × α)} (nd : (T.map (·.1)).Nodup) {k : κ} {x : α} (h : aLook T k = some x) : aPut T k x = T := by
  have m := aLook_mem h
  unfold aPut
  rw [if_pos (List.any_eq_true.mpr ⟨_, m, decide_eq_true rfl⟩)]
  conv => rhs; rw [← List.map_id T]
  refine List.map_congr_left fun q hq => ?_
  by_cases c : q.1 = k
  · rw [if_pos c]
    have : aLook T k = some q.2 := c ▸ aLook_at nd hq
    rw [h] at this
    show (q.1, x) = q
    rw [Option.some.inj this]
  · rw [if_neg c]; rfl
theorem sameTable (L : List (Pc × Stp)) (h : (tbl L).2 = []) : (lwT L).1 = (tbl L).1 := by
  induction L using snocInd with
  | h0 => rfl
  | hs L q ih =>
    have nd := tbl_nd L
    rw [tbl_snoc] at h ⊢
    rw [lwT_snoc]
    unfold tbS at h ⊢
    show aPut (lwT L).1 q.1 q.2 = _
    split at h
    · rw [ih h]
    · rename_i s0 e
      split at h
      · rename_i e2
        rw [ih h, if_pos e2]
        exact aPut_id nd (by rw [e, e2])
      · exact absurd h (by simp)
/-- dict(pairs) -/
def dictT (L : List (Pc × Stp)) : List (Pc × Stp) := L.foldl (fun T q => aPut T q.1 q.2) []
theorem dictLw (L : List (Pc × Stp)) : dictT L = (lwT L).1 := by
  induction L using snocInd with
  | h0 => rfl
  | hs L q ih =>
    rw [lwT_snoc]
    show (L ++ [q]).foldl (fun T q => aPut T q.1 q.2) [] = aPut (lwT L).1 q.1 q.2
    rw [List.foldl_append, ← ih]
    rfl
end REC

set_option Elab.async false
set_option linter.all false
set_option maxRecDepth 100000
set_option maxHeartbeats 8000000
/-! what the program's look at the ways finds -/
namespace REC
open PySem PySem.Spec PyProof.Rows L2 ND KS KS.La PLC
theorem rds_spec (T : List (Pc × Stp)) : (∀ k p, aLook (rdsIn T) k = some p → k3 p = k ∧ ∃ s, (p, s) ∈ T ∧ isR s = true) ∧ (∀ p s, (p, s) ∈ T → isR s = true → ∃ p', aLook (rdsIn T) (k3 p) = some p') := by
  induction T using snocInd with
  | h0 => exact ⟨fun k p h => (by cases h), fun p s h => (by cases h)⟩
  | hs T q ih =>
    obtain ⟨a1, a2⟩ := ih
    have sub : ∀ x ∈ T, x ∈ T ++ [q] := fun x h => List.mem_append.mpr (.inl h)
    rw [rdsIn_snoc]
    unfold rdS
    cases er : isR q.2 with
    | false =>
      rw [if_neg Bool.false_ne_true]
      refine ⟨fun k p h => let ⟨e, s, m, r⟩ := a1 k p h; ⟨e, s, sub _ m, r⟩, fun p s h r => ?_⟩
      rcases inSnoc h with h | h
      · exact a2 p s h r
      · rw [← h] at er
        rw [show isR s = false from er] at r
        cases r
    | true =>
      rw [if_pos rfl]
      refine ⟨fun k p h => ?_, fun p s h r => ?_⟩
      · rw [aLook_put] at h
        split at h
        · rename_i e; cases h; exact ⟨e, q.2, List.mem_append.mpr (.inr List.mem_cons_self), er⟩
        · exact let ⟨e, s, m, r⟩ := a1 k p h; ⟨e, s, sub _ m, r⟩
      · rw [aLook_put]
        split
        · exact ⟨_, rfl⟩
        · rename_i ne
          rcases inSnoc h with h | h
          · exact a2 p s h r
          · rw [← h] at ne; exact absurd rfl ne
/-- the place right ahead, as the program finds it -/
def ahP (T : List (Pc × Stp)) (p : Pc) : Option Pc := if isFst p = true then none else aheadP p (rdsIn T)
theorem ckW_eq (T : List (Pc × Stp)) (W : List (Pc × List Str)) (p : Pc) : ckW (rdsIn T) W p = ((ahP T p).bind (aLook W)).getD [] := ckW_ao _ W p
theorem gapP_eq (T : List (Pc × Stp)) (p : Pc) : gapP T p = (!isFst p && !leads ((ahP T p).bind (aLook T)) p) := by
  unfold gapP ahP
  cases isFst p <;> rfl
theorem shorterIrr (p : Pc) : ¬ shorter p p := fun h => by rcases h with h | ⟨_, h⟩ <;> omega
theorem ahP_case {T : List (Pc × Stp)} {p a : Pc} (h0 : 0 ≤ p.n) (h : ahP T p = some a) : (0 < p.n ∧ a = { p with n := p.n - 1 }) ∨ (p.n = 0 ∧ p.rs ≠ [] ∧ a.c = p.c ∧ a.as = p.as ∧ a.rs = p.rs.dropLast ∧ ∃ s, (a, s) ∈ T ∧ isR s = true) := by
  unfold ahP at h
  split at h
  · cases h
  · rename_i nf
    unfold aheadP at h
    split at h
    · rename_i hn
      exact .inl ⟨hn, (Option.some.inj h).symm⟩
    · rename_i hn
      have n0 : p.n = 0 := by omega
      obtain ⟨e, s, m, r⟩ := (rds_spec T).1 _ _ h
      have e1 := congrArg (fun k : K3 => k.1) e
      have e2 := congrArg (fun k : K3 => k.2.1) e
      have e3 := congrArg (fun k : K3 => k.2.2) e
      refine .inr ⟨n0, fun z => nf ?_, e1, e2, e3, s, m, r⟩
      unfold isFst
      rw [decide_eq_true z, decide_eq_true n0]
      rfl
theorem ahP_short {T : List (Pc × Stp)} {p a : Pc} (h0 : 0 ≤ p.n) (h : ahP T p = some a) : shorter a p := by
  rcases ahP_case h0 h with ⟨hn, rfl⟩ | ⟨_, ne, _, _, e, _⟩
  · exact .inr ⟨rfl, by show p.n - 1 < p.n; omega⟩
  · refine .inl ?_
    rw [e, List.length_dropLast]
    have := List.length_pos_iff.mpr ne
    omega
theorem ahP_lt {T : List (Pc × Stp)} {p a : Pc} (h0 : 0 ≤ p.n) (h : ahP T p = some a) : ltL a p = true := by
  rcases ahP_case h0 h with ⟨hn, rfl⟩ | ⟨_, ne, e1, e2, e, _⟩
  · exact ltCount rfl rfl rfl (by show p.n - 1 < p.n; omega)
  · exact ltFewer (r := p.rs.getLast ne) e1 e2 (by rw [e]; exact (List.dropLast_concat_getLast ne).symm)
/-- what is written up to a place, and there -/
def vP (T : List (Pc × Stp)) (W : List (Pc × List Str)) (p : Pc) : List Str := if gapP T p = true then ((ahP T p).bind (aLook W)).getD [] else match aLook T p with
  | some (.wr o _) => ((ahP T p).bind (aLook W)).getD [] ++ [o]
  | _ => ((ahP T p).bind (aLook W)).getD []
def fP (T : List (Pc × Stp)) (W : List (Pc × List Str)) (p : Pc) : Bool := gapP T p || match aLook T p with
  | some (.wr o _) => decide (o ∈ ((ahP T p).bind (aLook W)).getD [])
  | _ => false
theorem ckS_look (T : List (Pc × Stp)) (st : CkSt) (p k : Pc) : aLook (ckS T st p).1 k = if p = k then some (vP T st.1 p) else aLook st.1 k := by
  unfold ckS vP
  rw [ckW_eq]
  dsimp only
  by_cases g : gapP T p = true
  · rw [if_pos g, if_pos g]
    exact aLook_put _ _ _ _
  · rw [if_neg g, if_neg g]
    cases aLook T p with
    | none => exact aLook_put _ _ _ _
    | some s =>
      cases s with
      | stop => exact aLook_put _ _ _ _
      | rd ks => exact aLook_put _ _ _ _
      | wr o z =>
        refine (aLook_put _ _ _ _).trans ?_
        by_cases c : p = k
        · rw [if_pos c, if_pos c]
        · rw [if_neg c, if_neg c, aLook_put, if_neg c]
theorem ckS_two (T : List (Pc × Stp)) (st : CkSt) (p : Pc) : (ckS T st p).2 = if fP T st.1 p = true then st.2 ++ [p] else st.2 := by
  unfold ckS fP
  rw [ckW_eq]
  dsimp only
  cases g : gapP T p with
  | true => rfl
  | false =>
    rw [if_neg Bool.false_ne_true]
    cases e : aLook T p with
    | none => rfl
    | some s =>
      cases s with
      | stop => rfl
      | rd ks => rfl
      | wr o z =>
        show (if o ∈ ((ahP T p).bind (aLook st.1)).getD [] then st.2 ++ [p] else st.2) = if (false || decide (o ∈ ((ahP T p).bind (aLook st.1)).getD [])) = true then st.2 ++ [p] else st.2
        by_cases h : o ∈ ((ahP T p).bind (aLook st.1)).getD []
        · rw [if_pos h]
          exact (if_pos (by rw [Bool.false_or, decide_eq_true h])).symm
        · rw [if_neg h]
          exact (if_neg (by rw [Bool.false_or, decide_eq_false h]; exact Bool.false_ne_true)).symm
structure WaysOf (T : List (Pc × Stp)) (G : List Pc) (st : CkSt) : Prop where
  nd : st.2.Nodup
  sub : ∀ p ∈ st.2, p ∈ G
  out : ∀ p, p ∉ G → aLook st.1 p = none
  val : ∀ p ∈ G, aLook st.1 p = some (vP T st.1 p)
  bad : ∀ p ∈ G, (p ∈ st.2 ↔ fP T st.1 p = true)
theorem waysOf {T : List (Pc × Stp)} : ∀ {G : List Pc}, G.Pairwise (fun a b => ¬ shorter b a) → G.Nodup → (∀ p ∈ G, 0 ≤ p.n) → WaysOf T G (ways T G) := by
  intro G
  induction G using snocInd with
  | h0 => exact fun _ _ _ => ⟨List.nodup_nil, fun p h => (by cases h), fun p _ => rfl, fun p h => (by cases h), fun p h => (by cases h)⟩
  | hs G p ih =>
    intro up nd pos
    obtain ⟨up1, _, up2⟩ := List.pairwise_append.mp up
    obtain ⟨nd1, _, nd2⟩ := List.nodup_append.mp nd
    have h0 := ih up1 nd1 fun q hq => pos q (List.mem_append.mpr (.inl hq))
    have pp : p ∉ G := fun h => nd2 p h p List.mem_cons_self rfl
    rw [ways_snoc]
    generalize ways T G = st at *
    have ah : ∀ q, (ahP T q ≠ some p) → ((ahP T q).bind (aLook (ckS T st p).1)) = ((ahP T q).bind (aLook st.1)) := fun q hq => by
      cases e : ahP T q with
      | none => rfl
      | some a =>
        show aLook _ a = aLook _ a
        rw [ckS_look, if_neg fun z => hq (by rw [e, z])]
    have notP : ∀ q ∈ G, ahP T q ≠ some p := fun q hq e => up2 q hq p List.mem_cons_self (ahP_short (pos q (List.mem_append.mpr (.inl hq))) e)
    have notSelf : ahP T p ≠ some p := fun e => shorterIrr p (ahP_short (pos p (List.mem_append.mpr (.inr List.mem_cons_self))) e)
    have vq : ∀ q, (ahP T q ≠ some p) → vP T (ckS T st p).1 q = vP T st.1 q := fun q hq => by unfold vP; rw [ah q hq]
    have fq : ∀ q, (ahP T q ≠ some p) → fP T (ckS T st p).1 q = fP T st.1 q := fun q hq => by unfold fP; rw [ah q hq]
    refine ⟨?_, fun q hq => ?_, fun q hq => ?_, fun q hq => ?_, fun q hq => ?_⟩
    · rw [ckS_two]
      split
      · exact List.nodup_append.mpr ⟨h0.nd, by simp, fun x hx y hy e => pp (by rw [List.mem_singleton.mp hy] at e; exact e ▸ h0.sub x hx)⟩
      · exact h0.nd
    · rw [ckS_two] at hq
      split at hq
      · rcases inSnoc hq with h | h
        · exact List.mem_append.mpr (.inl (h0.sub q h))
        · rw [h]; exact List.mem_append.mpr (.inr List.mem_cons_self)
      · exact List.mem_append.mpr (.inl (h0.sub q hq))
    · rw [ckS_look, if_neg fun z => hq (by rw [z]; exact List.mem_append.mpr (.inr List.mem_cons_self))]
      exact h0.out q fun z => hq (List.mem_append.mpr (.inl z))
    · rcases inSnoc hq with h | h
      · rw [ckS_look, if_neg fun z => pp (by rw [z]; exact h), vq q (notP q h)]
        exact h0.val q h
      · subst h
        rw [ckS_look, if_pos rfl, vq q notSelf]
    · rw [ckS_two]
      rcases inSnoc hq with h | h
      · rw [fq q (notP q h), ← h0.bad q h]
        split
        · refine ⟨fun z => ?_, fun z => List.mem_append.mpr (.inl z)⟩
          rcases inSnoc z with z | z
          · exact z
          · exact absurd (z ▸ h) pp
        · exact Iff.rfl
      · subst h
        rw [fq q notSelf]
        split
        · rename_i e
          exact ⟨fun _ => e, fun _ => List.mem_append.mpr (.inr List.mem_cons_self)⟩
        · rename_i e
          exact ⟨fun z => absurd (h0.sub q z) pp, fun z => absurd z e⟩
/-- the faults in order -/
theorem waysSrt {T : List (Pc × Stp)} {G : List Pc} (gr : Grows T G) (nd : (T.map (·.1)).Nodup) (pos : ∀ p ∈ T.map (·.1), 0 ≤ p.n) : ∃ W, WaysOf T G (W, (ways T G).2) ∧ srt (ways T G).2 = (srt (T.map (·.1))).filter (fP T W) := by
  have ndG : G.Nodup := gr.pm.nodup_iff.mpr nd
  have h := waysOf (T := T) gr.up ndG fun p hp => pos p (gr.pm.mem_iff.mp hp)
  refine ⟨(ways T G).1, h, srtSome h.nd ((srtPm _).nodup_iff.mpr nd) (srtPw _) fun p => ?_⟩
  have e : p ∈ srt (T.map (·.1)) ↔ p ∈ G := (srtPm _).mem_iff.trans gr.pm.mem_iff.symm
  rw [e]
  exact ⟨fun hp => ⟨h.sub p hp, (h.bad p (h.sub p hp)).mp hp⟩, fun ⟨h1, h2⟩ => (h.bad p h1).mpr h2⟩
end REC

set_option Elab.async false
set_option linter.all false
set_option maxRecDepth 100000
set_option maxHeartbeats 8000000
/-! the law's look, and that both find the same -/
namespace REC
open PySem PySem.Spec PyProof.Rows L2 ND KS KS.La PLC
theorem ndLe {α : Type} [DecidableEq α] : ∀ {l m : List α}, l.Nodup → (∀ a ∈ l, a ∈ m) → l.length ≤ m.length
  | [], _, _, _ => Nat.zero_le _
  | a :: l, m, nd, sub => by
    have ha := sub a List.mem_cons_self
    have nd2 := List.nodup_cons.mp nd
    have := ndLe (l := l) (m := m.erase a) nd2.2 fun b hb => (List.mem_erase_of_ne (fun e => nd2.1 (by rw [← e]; exact hb))).mpr (sub b (List.mem_cons_of_mem _ hb))
    rw [List.length_erase_of_mem ha] at this
    have pos := List.length_pos_of_mem ha
    show l.length + 1 ≤ m.length
    omega
def isWo (s : Option Stp) : Bool := match s with
  | some s => isW s
  | none => false
/-- the place with this count -/
def atN (p : Pc) (j : Nat) : Pc := ⟨p.c, p.as, p.rs.dropLast, j⟩
/-- how many writes stand ahead -/
def fnw (T : List (Pc × Stp)) (p : Pc) : Nat := ((List.range (T.length + 1)).find? fun j => !isWo (aLook T (atN p j))).getD 0
theorem fewW {T : List (Pc × Stp)} {p : Pc} {m : Nat} (h : ∀ j, j < m → isWo (aLook T (atN p j)) = true) : m ≤ T.length := by
  have l1 : ((List.range m).map (atN p)).length ≤ (T.map (·.1)).length := by
    refine ndLe (List.Pairwise.map (S := fun a b => a ≠ b) (atN p) (fun a b ne e => ne (Int.ofNat.inj (congrArg Pc.n e))) List.nodup_range) fun a ha => ?_
    · obtain ⟨j, hj, rfl⟩ := List.mem_map.mp ha
      have := h j (List.mem_range.mp hj)
      cases e : aLook T (atN p j) with
      | none => rw [e] at this; cases this
      | some s => exact List.mem_map.mpr ⟨_, aLook_mem e, rfl⟩
  rwa [List.length_map, List.length_map, List.length_range] at l1
theorem fnwIs {T : List (Pc × Stp)} {p : Pc} {m : Nat} (h : ∀ j, j < m → isWo (aLook T (atN p j)) = true) (hm : isWo (aLook T (atN p m)) = false) : fnw T p = m := by
  have le := fewW h
  unfold fnw
  have e : (List.range (T.length + 1)).find? (fun j => !isWo (aLook T (atN p j))) = some m := by
    rw [List.find?_eq_some_iff_append]
    refine ⟨by rw [hm]; rfl, List.range m, (List.range (T.length - m)).map (fun x => m + 1 + x), ?_, fun a ha => ?_⟩
    · have e1 : T.length + 1 = m + (1 + (T.length - m)) := by omega
      rw [e1, List.range_add, List.range_add]
      simp [Nat.add_assoc]
    · rw [h a (List.mem_range.mp ha)]; rfl
  rw [e]
  rfl
def aheadL (T : List (Pc × Stp)) (p : Pc) : Option Pc := if 0 < p.n then some { p with n := p.n - 1 } else if p.rs = [] then none else some (atN p (fnw T p))
def gapL (T : List (Pc × Stp)) (p : Pc) : Bool := match aheadL T p with
  | none => false
  | some a => !leads (aLook T a) p
/-- the law's walk over the places in order -/
def lwGo (T : List (Pc × Stp)) : List Pc → List (Pc × List Str) → Option Res
  | [], _ => none
  | p :: S, W => if gapL T p = true then some (.bad "gap" p) else match aLook T p with
    | some (.wr o _) => if o ∈ ((aheadL T p).bind (aLook W)).getD [] then some (.bad "again" p) else lwGo T S (aPut W p (((aheadL T p).bind (aLook W)).getD [] ++ [o]))
    | _ => lwGo T S (aPut W p (((aheadL T p).bind (aLook W)).getD []))
section
variable {T : List (Pc × Stp)}
/-- all places ahead of p in order are without a gap -/
def Calm (T : List (Pc × Stp)) (p : Pc) : Prop := ∀ q ∈ T.map (·.1), ltL q p = true → gapP T q = false
theorem calmDown (pos : ∀ q ∈ T.map (·.1), 0 ≤ q.n) {p : Pc} (c : Calm T p) (ne : p.rs ≠ []) : ∀ (m : Nat), atN p m ∈ T.map (·.1) → ∀ j, j < m → isWo (aLook T (atN p j)) = true := by
  intro m
  induction m with
  | zero => intro _ j h; omega
  | succ m ih =>
    intro hm j hj
    have g := c _ hm (ltFewer (r := p.rs.getLast ne) rfl rfl (List.dropLast_concat_getLast ne).symm)
    have e : ahP T (atN p (m + 1)) = some (atN p m) := by
      unfold ahP
      rw [if_neg (by unfold isFst; rw [Bool.and_eq_true]; rintro ⟨_, z⟩; have := of_decide_eq_true z; simp [atN] at this; omega)]
      unfold aheadP
      rw [if_pos (by show (0 : Int) < ((m + 1 : Nat) : Int); omega)]
      congr 1
      show Pc.mk p.c p.as p.rs.dropLast (((m + 1 : Nat) : Int) - 1) = Pc.mk p.c p.as p.rs.dropLast (m : Int)
      congr 1
      omega
    rw [gapP_eq, e] at g
    have nf : isFst (atN p (m + 1)) = false := by
      cases hh : isFst (atN p (m + 1)) with
      | false => rfl
      | true =>
        unfold ahP at e
        rw [if_pos hh] at e
        cases e
    rw [nf] at g
    have ld : leads (aLook T (atN p m)) (atN p (m + 1)) = true := by
      cases hh : leads (aLook T (atN p m)) (atN p (m + 1)) with
      | true => rfl
      | false =>
        have g2 : (!false && !leads (aLook T (atN p m)) (atN p (m + 1))) = false := g
        rw [hh] at g2
        cases g2
    cases es : aLook T (atN p m) with
    | none => rw [es] at ld; cases ld
    | some s =>
      rw [es, leadsP (by show (0 : Int) < ((m + 1 : Nat) : Int); omega)] at ld
      have w : isWo (aLook T (atN p m)) = true := by rw [es]; exact ld
      rcases Nat.lt_succ_iff_lt_or_eq.mp hj with h | h
      · exact ih (List.mem_map.mpr ⟨_, aLook_mem es, rfl⟩) j h
      · rw [h]; exact w
/-- both find the same place ahead, or a gap -/
theorem sameAhead (nd : (T.map (·.1)).Nodup) (pos : ∀ q ∈ T.map (·.1), 0 ≤ q.n) {p : Pc} (p0 : 0 ≤ p.n) (c : Calm T p) : gapP T p = gapL T p ∧ (gapL T p = false → ahP T p = aheadL T p) := by
  rw [gapP_eq]
  unfold gapL aheadL
  by_cases hn : 0 < p.n
  · have nf : isFst p = false := by unfold isFst; rw [decide_eq_false (show ¬ p.n = 0 by omega), Bool.and_false]
    have e : ahP T p = some { p with n := p.n - 1 } := by
      unfold ahP
      rw [nf, if_neg Bool.false_ne_true]
      unfold aheadP
      rw [if_pos hn]
    rw [if_pos hn, e, nf]
    exact ⟨rfl, fun _ => rfl⟩
  · have n0 : p.n = 0 := by omega
    rw [if_neg hn]
    by_cases hr : p.rs = []
    · have f : isFst p = true := by unfold isFst; rw [decide_eq_true hr, decide_eq_true n0]; rfl
      have e : ahP T p = none := by unfold ahP; rw [if_pos f]
      rw [if_pos hr, e, f]
      exact ⟨rfl, fun _ => rfl⟩
    · have nf : isFst p = false := by unfold isFst; rw [decide_eq_false hr]; rfl
      have e : ahP T p = aLook (rdsIn T) (p.c, p.as, p.rs.dropLast) := by
        unfold ahP
        rw [nf, if_neg Bool.false_ne_true]
        unfold aheadP
        rw [if_neg hn]
      rw [if_neg hr, nf]
      have rd : ∀ a s, (a, s) ∈ T → isR s = true → k3 a = (p.c, p.as, p.rs.dropLast) → a = atN p (fnw T p) := fun a s hm hs hk => by
        have ka : a ∈ T.map (·.1) := List.mem_map.mpr ⟨_, hm, rfl⟩
        obtain ⟨m, em⟩ : ∃ m : Nat, a.n = m := ⟨a.n.toNat, (Int.toNat_of_nonneg (pos a ka)).symm⟩
        have ea : a = atN p m := by
          have e1 := congrArg (fun k : K3 => k.1) hk
          have e2 := congrArg (fun k : K3 => k.2.1) hk
          have e3 := congrArg (fun k : K3 => k.2.2) hk
          cases a
          simp only at e1 e2 e3 em
          subst e1 e2 e3 em
          rfl
        have lk := aLook_at nd hm
        rw [ea] at ka lk ⊢
        have w := calmDown pos c hr m ka
        rw [fnwIs w (by
          have lk2 : aLook T (atN p m) = some s := lk
          rw [lk2]
          show isW s = false
          cases s <;> first | rfl | cases hs)]
      cases er : aLook (rdsIn T) (p.c, p.as, p.rs.dropLast) with
      | some a =>
        obtain ⟨hk, s, hm, hs⟩ := (rds_spec T).1 _ _ er
        have ea := rd a s hm hs hk
        rw [e, er, ea]
        exact ⟨rfl, fun _ => rfl⟩
      | none =>
        rw [e, er]
        have nr : leads (aLook T (atN p (fnw T p))) p = false := by
          cases es : aLook T (atN p (fnw T p)) with
          | none => rfl
          | some s =>
            rw [leadsN hn]
            cases s with
            | stop => rfl
            | wr o z => rfl
            | rd ks =>
              obtain ⟨p', e'⟩ := (rds_spec T).2 _ _ (aLook_mem es) rfl
              have e2 : aLook (rdsIn T) (p.c, p.as, p.rs.dropLast) = some p' := e'
              rw [er] at e2
              cases e2
        have g : (!leads (aLook T (atN p (fnw T p))) p) = true := by rw [nr]; rfl
        refine ⟨?_, fun z => ?_⟩
        · show (!false && !leads none p) = !leads (aLook T (atN p (fnw T p))) p
          rw [g]
          rfl
        · have z2 : (!leads (aLook T (atN p (fnw T p))) p) = false := z
          rw [g] at z2
          cases z2
/-- what the law says of the rest -/
def endOf (T : List (Pc × Stp)) : List Pc → Option Res
  | [] => none
  | p :: _ => some (.bad (if gapP T p = true then "gap" else "again") p)
theorem lwSame {W : List (Pc × List Str)} {G F : List Pc} (hW : WaysOf T G (W, F)) (hG : ∀ p, p ∈ G ↔ p ∈ T.map (·.1)) (nd : (T.map (·.1)).Nodup) (pos : ∀ q ∈ T.map (·.1), 0 ≤ q.n) : ∀ (S2 S1 : List Pc) (Wl : List (Pc × List Str)), S1 ++ S2 = srt (T.map (·.1)) → (∀ q ∈ S1, fP T W q = false) → (∀ q ∈ S1, aLook Wl q = aLook W q) →
    lwGo T S2 Wl = endOf T (S2.filter (fP T W)) := by
  intro S2
  induction S2 with
  | nil => intro S1 Wl _ _ _; rfl
  | cons p S2 ih =>
    intro S1 Wl hS cl hl
    have pw := srtPw (T.map (·.1))
    have ndS : (srt (T.map (·.1))).Nodup := (srtPm _).nodup_iff.mpr nd
    have memS : ∀ q, q ∈ S1 ++ p :: S2 ↔ q ∈ T.map (·.1) := fun q => by rw [hS]; exact (srtPm _).mem_iff
    rw [← hS] at pw ndS
    have pk : p ∈ T.map (·.1) := (memS p).mp (List.mem_append.mpr (.inr List.mem_cons_self))
    have before : ∀ q ∈ T.map (·.1), ltL q p = true → q ∈ S1 := fun q hq hlt => by
      rcases List.mem_append.mp ((memS q).mpr hq) with h | h
      · exact h
      · exfalso
        rcases List.mem_cons.mp h with h | h
        · subst h
          rw [ltIrr] at hlt
          cases hlt
        · have := (List.pairwise_cons.mp (List.pairwise_append.mp pw).2.1).1 q h
          rw [leL_eq, hlt] at this
          cases this
    have gapOf : ∀ q, fP T W q = false → gapP T q = false := fun q h => by
      unfold fP at h
      exact (Bool.or_eq_false_iff.mp h).1
    have calm : Calm T p := fun q hq hlt => gapOf q (cl q (before q hq hlt))
    obtain ⟨g1, g2⟩ := sameAhead nd pos (pos p pk) calm
    rw [lwGo]
    cases g : gapL T p with
    | true =>
      rw [if_pos rfl]
      rw [g] at g1
      have f : fP T W p = true := by unfold fP; rw [g1]; rfl
      rw [List.filter_cons, if_pos f]
      show _ = some (Res.bad (if gapP T p = true then "gap" else "again") p)
      rw [g1, if_pos rfl]
    | false =>
      rw [if_neg Bool.false_ne_true]
      rw [g] at g1
      have ea := g2 g
      have ew : ((aheadL T p).bind (aLook Wl)).getD [] = ((ahP T p).bind (aLook W)).getD [] := by
        rw [← ea]
        cases e : ahP T p with
        | none => rfl
        | some a =>
          have hlt := ahP_lt (pos p pk) e
          have ka : a ∈ T.map (·.1) := by
            have g3 := g1
            rw [gapP_eq, e] at g3
            have nf : isFst p = false := by
              cases hh : isFst p with
              | false => rfl
              | true => unfold ahP at e; rw [if_pos hh] at e; cases e
            rw [nf] at g3
            cases es : aLook T a with
            | some s => exact List.mem_map.mpr ⟨_, aLook_mem es, rfl⟩
            | none =>
              have g4 : (!false && !leads (aLook T a) p) = false := g3
              rw [es] at g4
              cases g4
          show (aLook Wl a).getD [] = (aLook W a).getD []
          rw [hl a (before a ka hlt)]
      rw [ew]
      have go : ∀ v, fP T W p = false → vP T W p = v → lwGo T S2 (aPut Wl p v) = endOf T (List.filter (fP T W) (p :: S2)) := fun v hf hv => by
        rw [List.filter_cons, if_neg (by rw [hf]; exact Bool.false_ne_true)]
        refine ih (S1 ++ [p]) _ (by rw [← hS, List.append_assoc]; rfl) (fun q hq => ?_) fun q hq => ?_
        · rcases inSnoc hq with h | h
          · exact cl q h
          · rw [h]; exact hf
        · rw [aLook_put]
          rcases inSnoc hq with h | h
          · rw [if_neg fun z => (List.nodup_append.mp ndS).2.2 q h p List.mem_cons_self z.symm]
            exact hl q h
          · rw [if_pos h.symm, h, ← hv]
            exact (hW.val p ((hG p).mpr pk)).symm
      cases es : aLook T p with
      | none =>
        refine go _ ?_ ?_
        · unfold fP; rw [g1, es]; rfl
        · unfold vP; rw [g1, es]; rfl
      | some s =>
        cases s with
        | stop =>
          refine go _ ?_ ?_
          · unfold fP; rw [g1, es]; rfl
          · unfold vP; rw [g1, es]; rfl
        | rd ks =>
          refine go _ ?_ ?_
          · unfold fP; rw [g1, es]; rfl
          · unfold vP; rw [g1, es]; rfl
        | wr o z =>
          show (if o ∈ ((ahP T p).bind (aLook W)).getD [] then _ else _) = _
          by_cases ho : o ∈ ((ahP T p).bind (aLook W)).getD []
          · rw [if_pos ho]
            have f : fP T W p = true := by
              unfold fP
              rw [g1, es]
              show (false || decide (o ∈ ((ahP T p).bind (aLook W)).getD [])) = true
              rw [decide_eq_true ho]
              rfl
            rw [List.filter_cons, if_pos f]
            show _ = some (Res.bad (if gapP T p = true then "gap" else "again") p)
            rw [g1, if_neg Bool.false_ne_true]
          · rw [if_neg ho]
            refine go _ ?_ ?_
            · unfold fP
              rw [g1, es]
              show (false || decide (o ∈ ((ahP T p).bind (aLook W)).getD [])) = false
              rw [decide_eq_false ho]
              rfl
            · unfold vP; rw [g1, es]; rfl
end
/-- what the law says of these pairs -/
def lawBad (L : List (Pc × Stp)) : Option Res := match srt (dd (lwT L).2) with
  | p :: _ => some (.bad "clash" p)
  | [] => lwGo (lwT L).1 (srt ((lwT L).1.map (·.1))) []
def lawRes (L : List (Pc × Stp)) : Res := (lawBad L).getD (.made (sorted (dictT L)))
theorem toldIs {L : List (Pc × Stp)} {res : Res} (pos : ∀ q ∈ L, 0 ≤ q.1.n) (h : Told L res) : res = lawRes L := by
  unfold lawRes lawBad
  rcases h with ⟨p, r, e, rfl⟩ | ⟨e, G, gr, h⟩
  · rw [← sameClash, e]
    rfl
  · have e2 := (noClash L).mp e
    rw [e2]
    have nil : srt (dd ([] : List Pc)) = [] := List.perm_nil.mp (srtPm _)
    rw [nil]
    have nd := tbl_nd L
    have ps : ∀ p ∈ (tbl L).1.map (·.1), 0 ≤ p.n := fun p hp => by
      obtain ⟨q, hq, rfl⟩ := List.mem_map.mp (tbl_keys L p hp)
      exact pos q hq
    rw [dictLw, sameTable L e]
    obtain ⟨W, hW, eF⟩ := waysSrt gr nd ps
    have s := lwSame hW (fun p => gr.pm.mem_iff) nd ps (srt ((tbl L).1.map (·.1))) [] [] rfl (fun q h => by cases h) fun q h => by cases h
    show res = (lwGo (tbl L).1 (srt ((tbl L).1.map (·.1))) []).getD _
    rw [s, ← eF]
    rcases h with ⟨h, rfl⟩ | ⟨p, r, h, rfl⟩
    · rw [h, List.perm_nil.mp (srtPm _)]
      rfl
    · rw [h]
      rfl
end REC

set_option Elab.async false
set_option linter.all false
set_option maxRecDepth 100000
set_option maxHeartbeats 8000000
/-! the law's place ahead -/
namespace REC
open PySem PySem.Spec PyProof.Rows L2 ND KS KS.La PLC
open KX hiding sameUpd
abbrev lAhead : Stmt := top 47
section
variable {P : Program} {w : World} {K : PySem.W.Frag} {mg : Str → Option Value} {base : Heap} {f : Addr} {fd : FuncData}
def spLAhead (P : Program) (w : World) (K : PySem.W.Frag) : Sp := fun vs H Q _ => ∃ d v p T, vs = [.ref d, v] ∧ TA P w K H d T ∧ Dp K H v (pcD p) ∧ Ok p ∧ 0 ≤ p.n ∧ T.length ≤ 500 ∧ ∀ r H', Same H H' → AtO K H' r (aheadL T p) → Q r H'
abbrev nLAh : List Str := ["_law_steps", "_law_place", "_law_call", "_law_arguments", "_law_rows", "_law_count", "_law_many"]
theorem scLAhead : FnScope nLAh ["_law_steps", "_law_place"] (defScope lAhead) := ⟨rfl, rfl, rfl, by decide +kernel, rfl, by decide +kernel, by decide +kernel⟩
theorem okLAhead {k : Nat} (F : FnP K "_law_ahead_of" lAhead f fd) : FnOk P w K mg base CX0 (k + 1) f fd ["_law_steps", "_law_place"] (spLAhead P w K) := by
  refine F.ok scLAhead (fun vs H Q E h => ?_) (fun cdv A outer s H vs Q E hr h => ?_)
  · obtain ⟨d, v, p, T, rfl, _⟩ := h
    rfl
  · obtain ⟨d, v, p, T, rfl, hT, hd, ok, p0, lT, q⟩ := h
    obtain ⟨a, va, vr, rfl, hs, ha, hv⟩ := pcAt hd
    obtain ⟨b, xs, rfl, hb, hx⟩ := rowsAt hv
    have hu := hr.units
    have hu9 : (A.deeper (envOfC "_law_ahead_of" (defScope lAhead) s.heap.objs.size f cdv)).units + 9 < cLine := Nat.lt_of_le_of_lt (Nat.add_le_add_left (by decide) _) hu
    refine ⟨_, PSs.nox (pss_cons (ps_asg (pv 1) (pg_tup rfl (pgs_cons (pg_name (i := 2) scLAhead.nd rfl (.inl rfl)) (pgs_cons (pg_name (i := 3) scLAhead.nd rfl (.inl rfl)) (pgs_cons (pg_name (i := 4) scLAhead.nd rfl (.inl rfl)) (pgs_cons (pg_name (i := 5) scLAhead.nd rfl (.inl rfl)) pgs_nil)))))) (pss_cons (ps_if (pt_cmpR op_gt (pv 5) pe_int (nomark _)) (pss_one (ps_ret (pe_tup (pa_cons (pv 2) (pa_cons (pv 3) (pa_cons (pv 4) (pa_cons (pe_op op_sub (pv 5) pe_int) pa_nil))))))) pss_nil) (pss_cons (ps_if (pt_cmpR (r := rEqD K) (op_eqD hr.units) (pv 4) (pe_tup pa_nil) (nomark _)) (pss_one (ps_ret pe_non)) pss_nil) (pss_cons (ps_set (i := 6) scLAhead.nd rfl (.inl rfl) pe_int) (C8.pss_cut (ps_while PassesOwn.never (pt_cmpR op_eq (pe_ix ix_tup (pe_dgetN2 hu9 (pv 0) (pe_tup (pa_cons (pv 2) (pa_cons (pv 3) (pa_cons (pe_slice sl_tupA (pv 4) po_none (po_some (pe_un un_neg pe_int))) (pa_cons (pv 6) pa_nil))))) (pe_tup (pa_cons (pe_str) pa_nil)) ⟨rfl, rfl, rfl, rfl⟩) pe_int (fun _ _ => rfl)) pe_str (nomark _))
        (pss_one (ps_set (i := 6) scLAhead.nd rfl (.inl rfl) (pe_op op_add (pv 6) pe_int)))) (pss_one (ps_ret (pe_tup (pa_cons (pv 2) (pa_cons (pv 3) (pa_cons (pe_slice sl_tupA (pv 4) po_none (po_some (pe_un un_neg pe_int))) (pa_cons (pv 6) pa_nil)))))))))))), ?_⟩
    refine ⟨.ref a, rfl, a, _, rfl, hs, rfl, _, _, rfl, _, _, rfl, _, _, rfl, _, _, rfl, rfl, ?_⟩
    refine ⟨.int p.n, rfl, p.n, 0, rfl, rfl, _, rfl, ite2 (fun e => ?_) (fun e => ?_)⟩
    · have hp : 0 < p.n := of_decide_eq_true e
      refine ⟨.str p.c, rfl, va, rfl, .ref b, rfl, .int p.n, rfl, p.n, 1, rfl, rfl, (by show 4 ≤ sizeLine; decide), fun u hu => ?_⟩
      have su := sameUpd (o := .tup [.str p.c, va, .ref b, .int (p.n - 1)]) hu
      refine q _ _ su ?_
      unfold aheadL
      rw [if_pos hp]
      exact pcMk (p := { p with n := p.n - 1 }) (.inl (.inl upd_same)) (dpSame su _ _ ha) (dpSame su _ _ hv)
    · have hp : ¬ 0 < p.n := fun z => e (decide_eq_true z)
      refine ⟨.ref b, rfl, Nat.zero_le _, fun t0 ht0 => ?_⟩
      have s0 := sameUpd (o := .tup []) ht0
      have d0 : Dp K (upd H t0 (.tup [])) (.ref t0) (rowsD []) := .tup (.inl (.inl upd_same)) .nil
      generalize upd H t0 (.tup []) = H0 at s0 d0 ⊢
      refine ⟨rowsD p.rs, rowsD [], dpSame s0 _ _ hv, d0, (odRows ok.rs ok.rl).shaped (by omega), (odRows (rs := []) (fun r h => by cases h) (Nat.zero_le _)).shaped (by omega), _, rfl, ?_⟩
      rw [eqRows]
      refine ite2 (fun e2 => ?_) (fun e2 => ?_)
      · have hr0 : p.rs = [] := of_decide_eq_true e2
        refine q _ _ s0 ?_
        unfold aheadL
        rw [if_neg hp, if_pos hr0]
        rfl
      · have hr0 : p.rs ≠ [] := fun z => e2 (decide_eq_true z)
        -- made anew each turn
        have key : ∀ (j : Nat) {H' : Hp} {t u : Addr}, Same H H' → SqT K H' t xs.dropLast → SqT K H' u [.str p.c, va, .ref t, .int j] → Dp K H' (.ref u) (pcD (atN p j)) := fun j H' t u s h1 h2 => by
          refine pcMk (p := atN p j) h2 (dpSame s _ _ ha) (.tup h1 ?_)
          show DpAll K H' xs.dropLast (p.rs.dropLast.map rowD)
          rw [List.map_dropLast]
          exact allDropLast (dpAllSame s _ _ hx)
        refine ⟨fun σ' H' => ∃ m : Nat, σ' = [some (.ref d), some (.ref a), some (.str p.c), some va, some (.ref b), some (.int p.n), some (.int m)] ∧ Same H H' ∧ fnw T p = m, ?_, ?_⟩
        · refine ⟨fun n σ' H' => ∃ m : Nat, n = T.length + 1 - m ∧ σ' = [some (.ref d), some (.ref a), some (.str p.c), some va, some (.ref b), some (.int p.n), some (.int m)] ∧ Same H H' ∧ ∀ j, j < m → isWo (aLook T (atN p j)) = true, ⟨_, 0, rfl, rfl, s0, fun j h => absurd h (Nat.not_lt_zero _)⟩, ?_⟩
          rintro n σ' H1 ⟨m, rfl, rfl, s1, wr⟩
          have few := fewW wr
          obtain ⟨kvs, n1, pr1⟩ := hT.same s1 pvStp
          refine ⟨.ref d, rfl, ⟨d, kvs, rfl, n1.q⟩, .str p.c, rfl, va, rfl, .ref b, rfl, 1, rfl, -1, rfl, cutAny (sameTup s1 hb) fun t H2 ht s2 => ⟨.int m, rfl, (by show 4 ≤ sizeLine; decide), fun u hu => ?_⟩⟩
          rw [cutDrop] at ht
          have s3 := sameUpd (o := .tup [.str p.c, va, .ref t, .int m]) hu
          have dk := key m ((s1.trans s2).trans s3) (sameTup s3 ht) (.inl (.inl upd_same))
          generalize upd H2 u (.tup [.str p.c, va, .ref t, .int m]) = H3 at s3 dk ⊢
          refine ⟨(by show 1 ≤ sizeLine; decide), fun u2 hu2 => ?_⟩
          have s4 := sameUpd (o := .tup [.str "stop"]) hu2
          have d4 : Dp K (upd H3 u2 (.tup [.str "stop"])) (.ref u2) (stpD .stop) := .tup (.inl (.inl upd_same)) (.cons (.str _) .nil)
          generalize upd H3 u2 (.tup [.str "stop"]) = H4 at s4 d4 ⊢
          have sA := ((s1.trans s2).trans s3).trans s4
          obtain ⟨kv4, n4, pr4⟩ := hT.same sA pvStp
          have dk4 := dpSame s4 _ _ dk
          refine ⟨d, kv4, .ref u, .ref u2, _, rfl, n4.q, .inr ⟨u, _, rfl, dk4, kdPc.pl _, rfl⟩, .inr rfl, ?_⟩
          have got : ∃ s, Dp K H4 ((valN (kv4.map kn) (keyD (pcD (atN p m)))).getD (.ref u2)) (stpD s) ∧ isW s = isWo (aLook T (atN p m)) := by
            rcases rwVal kdPc pr4 (atN p m) with ⟨e1, e3⟩ | ⟨v0, s0, e1, e3, e4⟩
            · rw [e1, e3]
              exact ⟨.stop, d4, rfl⟩
            · rw [e1, e3]
              exact ⟨s0, e4, rfl⟩
          obtain ⟨st, hst, ew⟩ := got
          obtain ⟨c, ys, ec, hc, h0⟩ := headAt hst
          refine ⟨c, ys, 0, _, ec, rfl, hc, h0, rfl, _, rfl, ?_⟩
          rw [TRE.wordEq, wordW, ew]
          cases hw : isWo (aLook T (atN p m)) with
          | true =>
            refine iteT ⟨fun σ' H' => σ' = [some (.ref d), some (.ref a), some (.str p.c), some va, some (.ref b), some (.int p.n), some (.int ((m + 1 : Nat) : Int))] ∧ Same H H', fun σ' H' h => ⟨T.length + 1 - (m + 1), by omega, m + 1, rfl, h.1, h.2, fun j hj => ?_⟩, .int m, rfl, m, 1, rfl, rfl, rfl, sA⟩
            rcases Nat.lt_succ_iff_lt_or_eq.mp hj with h | h
            · exact wr j h
            · rw [h]; exact hw
          | false => exact iteF ⟨m, rfl, sA, fnwIs wr hw⟩
        rintro _ H1 ⟨m, rfl, s1, em⟩
        refine ⟨.str p.c, rfl, va, rfl, .ref b, rfl, 1, rfl, -1, rfl, cutAny (sameTup s1 hb) fun t H2 ht s2 => ⟨.int m, rfl, (by show 4 ≤ sizeLine; decide), fun u hu => ?_⟩⟩
        rw [cutDrop] at ht
        have s3 := sameUpd (o := .tup [.str p.c, va, .ref t, .int m]) hu
        refine q _ _ ((s1.trans s2).trans s3) ?_
        unfold aheadL
        rw [if_neg hp, if_neg hr0, em]
        exact key m ((s1.trans s2).trans s3) (sameTup s3 ht) (.inl (.inl upd_same))
end
end REC

set_option Elab.async false
set_option linter.all false
set_option maxRecDepth 100000
set_option maxHeartbeats 8000000
/-! the law's pairs of a table -/
namespace REC
open PySem PySem.Spec PyProof.Rows L2 ND KS KS.La PLC
open KX hiding sameUpd
abbrev lPairs : Stmt := top 48
section
variable {P : Program} {w : World} {K : PySem.W.Frag} {mg : Str → Option Value} {base : Heap} {f : Addr} {fd : FuncData}
def spPairs (P : Program) (w : World) (K : PySem.W.Frag) : Sp := fun vs H Q _ => ∃ d T, vs = [.ref d] ∧ TA P w K H d T ∧ (T.map (·.1)).Nodup ∧ (∀ p ∈ T.map (·.1), Ok p) ∧ T.length ≤ 500 ∧ ∀ r xs H', Same H H' → H r = none → H' r = some (.lst xs) → DpAll K H' xs ((sorted T).map prD) → Q (.ref r) H'
abbrev nPairs : List Str := ["_law_steps", "_law_place"]
theorem scPairs : FnScope nPairs ["_law_steps"] (defScope lPairs) := ⟨rfl, rfl, rfl, by decide +kernel, rfl, by decide +kernel, by decide +kernel⟩
theorem okPairs {k : Nat} (B : Bn mg) (aO : Has P w K mg base k "_law_ordered" ["_law_places"] (spOrd K false)) (F : FnP K "_law_pairs_of" lPairs f fd) : FnOk P w K mg base CX0 (k + 1) f fd ["_law_steps"] (spPairs P w K) := by
  obtain ⟨fO, dO, gO, kO, bO, GO⟩ := aO.ex
  refine F.ok scPairs (fun vs H Q E h => ?_) (fun cdv A outer s H vs Q E hr h => ?_)
  · obtain ⟨d, T, rfl, _⟩ := h
    rfl
  · obtain ⟨d, T, rfl, hT, nd, okT, lT, q⟩ := h
    have hu9 : (A.deeper (envOfC "_law_pairs_of" (defScope lPairs) s.heap.objs.size f cdv)).units + 9 < cLine := Nat.lt_of_le_of_lt (Nat.add_le_add_left (by decide) _) hr.units
    refine ⟨_, PSs.nox (pss_one (ps_ret (pe_lc (own := [("_law_place", 1)]) (g := gName 1) rfl scPairs.nd (pi_list (pe_call GO hr (by rfl) gO kO bO .nil pass0 (pa_cons (pe_callTy (T := "list") (call_listN rfl) (by rfl) B.list (by decide +kernel) (pa_cons (pv 0) pa_nil)) pa_nil))) (blkOk_by (N := nPairs) (sc := defScope lPairs) (by decide +kernel))
        (fun _ _ _ _ _ => pg_name (i := 1) scPairs.nd rfl (.inl rfl) (hf := .inr rfl)) (fun _ _ _ _ _ => pts_nil) (fun _ _ _ _ _ => pe_tup (pa_cons (pv 1) (pa_cons (pe_ix (r := rIxQ P w K) (ix_ndq hu9) (pv 0) (pv 1) (fun _ _ => rfl)) pa_nil)))))), ?_⟩
    obtain ⟨kvs, n, pr⟩ := id hT
    have dks := rwDp pr fun q hq => (n.k q hq).2
    refine ⟨.ref d, rfl, d, kvs, rfl, n, fun L hL => ?_⟩
    have s1 := sameUpd (o := .lst (kvs.map fun q => V.ref q.2.1)) hL
    have eL : upd H L (.lst (kvs.map fun q => V.ref q.2.1)) L = some (.lst (kvs.map fun q => V.ref q.2.1)) := upd_same
    generalize upd H L (.lst (kvs.map fun q => V.ref q.2.1)) = H1 at s1 eL ⊢
    refine ⟨L, _, T.map (·.1), rfl, .inl (.inl eL), dpAllSame s1 _ _ dks, okT, by rw [List.length_map]; omega, fun r ys H2 s2 nr er dys => ?_⟩
    rw [srtNd nd] at dys
    have s02 := s1.trans s2
    have pmS : (srt (T.map (·.1))).Perm (T.map (·.1)) := List.mergeSort_perm _ _
    have lS : (srt (T.map (·.1))).length = T.length := by rw [pmS.length_eq, List.length_map]
    have mS : ∀ p ∈ srt (T.map (·.1)), ∃ s, aLook T p = some s := fun p hp => aLook_in (pmS.mem_iff.mp hp)
    have q2 : ∀ r xs H', Same H H' → H r = none → H' r = some (.lst xs) → DpAll K H' xs ((sortedOf T (srt (T.map (·.1)))).map prD) → Q (.ref r) H' := q
    generalize srt (T.map (·.1)) = S at *
    have lys := dpLen dys
    rw [List.length_map] at lys
    refine ⟨r, rfl, ⟨_, .inl (.inl er)⟩, fun D hD => ?_⟩
    have nD0 : H D = none := by
      cases e : H D with
      | none => rfl
      | some o => have := s02 _ _ e; rw [hD] at this; cases this
    refine lcJ (n := S.length) (fun i H' => ∃ zs, Same H2 H' ∧ H' D = some (.lst zs) ∧ DpAll K H' zs ((sortedOf T (S.take i)).map prD) ∧ zs.length ≤ i) ⟨[], sameUpd hD, upd_same, .nil, Nat.le_refl _⟩
      (fun i H' lt h => ⟨ys, ys[i]'(by omega), .inl (.inl (h.choose_spec.1 _ _ er)), List.getElem?_eq_getElem (by omega)⟩) (fun H' h => ⟨ys, .inl (.inl (h.choose_spec.1 _ _ er)), by omega⟩) (fun i H4 v H5 lt h y => ?_) (fun H' h => ?_)
    · obtain ⟨rfl, ey⟩ := y
      obtain ⟨zs, s3, eD, dz, lz⟩ := h
      have er3 := s3 _ _ er
      have e2 : (S.map pcD)[i]? = some (pcD S[i]) := by rw [List.getElem?_map, List.getElem?_eq_getElem lt]; rfl
      obtain ⟨v2, g1, g2⟩ := dpAt dys e2
      obtain rfl : v = v2 := Option.some.inj ((ey _ (.inl (.inl er3))).symm.trans g1)
      obtain ⟨st, est⟩ := mS _ (List.getElem_mem lt)
      have so1 : sortedOf T (S.take (i + 1)) = sortedOf T (S.take i) ++ [(S[i], st)] := by
        rw [show S.take (i + 1) = S.take i ++ [S[i]] from List.take_succ_eq_append_getElem lt]
        unfold sortedOf
        rw [List.filterMap_append, List.filterMap_cons, est]
        rfl
      generalize S[i] = p at *
      have dp3 := dpSame s3 _ _ g2
      obtain ⟨pa, _, _, rfl, _⟩ := pcAt dp3
      have sA : Same H H5 := s02.trans s3
      obtain ⟨kvs3, n3, pr3⟩ := hT.same sA pvStp
      refine ⟨rfl, .ref pa, rfl, .ref d, rfl, .ref pa, rfl, ?_⟩
      rcases rwVal kdPc pr3 p with ⟨_, e3⟩ | ⟨v3, s4, e3, e4, e5⟩
      · rw [est] at e3; cases e3
      rw [est] at e4
      cases e4
      refine ⟨d, pa, _, kvs3, v3, rfl, rfl, n3.q, dp3, kdPc.pl _, e3, by show 2 ≤ sizeLine; decide, fun t ht => ?_⟩
      have s6 := sameUpd (o := .tup [.ref pa, v3]) ht
      have et : upd H5 t (.tup [.ref pa, v3]) t = some (.tup [.ref pa, v3]) := upd_same
      have dt : Dp K (upd H5 t (.tup [.ref pa, v3])) (.ref t) (prD (p, st)) := .tup (.inl (.inl et)) (.cons (dpSame s6 _ _ dp3) (.cons (dpSame s6 _ _ e5) .nil))
      have tD := TS.lst (s6 _ _ eD) (o := .lst (zs ++ [.ref t]))
      refine ⟨zs, s6 _ _ eD, by rw [sizeLine_eq]; omega, zs ++ [.ref t], fun b o hb => ?_, upd_same, ?_, by rw [List.length_append]; show zs.length + 1 ≤ _; omega⟩
      · rw [upd_ne (ne_of_none hb hD)]
        exact (s3.trans s6) _ _ hb
      · rw [so1, List.map_append]
        exact dpSnoc (dpTS tD (plPr _) _ dt) (prsTS tD (dpAllSame s6 _ _ dz))
    · obtain ⟨zs, s3, eD, dz, _⟩ := h
      rw [List.take_length] at dz
      exact q2 D zs H' (s02.trans s3) nD0 eD dz
end
end REC

set_option Elab.async false
set_option linter.all false
set_option maxRecDepth 100000
set_option maxHeartbeats 8000000
/-! the first fault by the law -/
namespace REC
open PySem PySem.Spec PyProof.Rows L2 ND KS KS.La PLC
open KX hiding sameUpd
abbrev lFault : Stmt := top 49
section
variable {P : Program} {w : World} {K : PySem.W.Frag} {κ α : Type} [DecidableEq κ] {kd : κ → PyData} {R : V → α → Prop}
theorem rgVal (kk : Kd kd) {kvs : List KvD} {T : List (κ × α)} (h : Paired (fun (q : KvD) (p : κ × α) => q.1 = kd p.1 ∧ R q.2.2 p.2) kvs T) (k : κ) : (valN (kvs.map kn) (keyD (kd k)) = none ∧ aLook T k = none) ∨ ∃ v x, valN (kvs.map kn) (keyD (kd k)) = some v ∧ aLook T k = some x ∧ R v x := by
  unfold valN aLook
  induction h with
  | nil => exact .inl ⟨rfl, rfl⟩
  | @cons q p kvs T hq _ ih =>
    rw [List.map_cons, List.find?_cons, List.find?_cons]
    by_cases c : p.1 = k
    · have e : decide ((kn q).1 = keyD (kd k)) = true := decide_eq_true (by show keyD q.1 = _; rw [hq.1, c])
      rw [e, decide_eq_true c]
      exact .inr ⟨_, _, rfl, rfl, hq.2⟩
    · have e : decide ((kn q).1 = keyD (kd k)) = false := decide_eq_false fun e => c (kk.inj (keyInj (kk.pl _) (kk.pl _) (by rw [← hq.1]; exact e)))
      rw [e, decide_eq_false c]
      exact ih
theorem rgAny (kk : Kd kd) {kvs : List KvD} {T : List (κ × α)} (h : Paired (fun (q : KvD) (p : κ × α) => q.1 = kd p.1 ∧ R q.2.2 p.2) kvs T) (k : κ) : (kvs.any fun q => decide (keyD q.1 = keyD (kd k))) = T.any fun p => decide (p.1 = k) := by
  induction h with
  | nil => rfl
  | @cons q p kvs T hq _ ih =>
    rw [List.any_cons, List.any_cons, ih]
    congr 1
    refine decide_eq_decide.mpr ⟨fun e => kk.inj (keyInj (kk.pl _) (kk.pl _) (by rw [← hq.1]; exact e)), fun e => by rw [hq.1, e]⟩
theorem rgPut (kk : Kd kd) {kvs : List KvD} {T : List (κ × α)} (h : Paired (fun (q : KvD) (p : κ × α) => q.1 = kd p.1 ∧ R q.2.2 p.2) kvs T) {k : κ} {x : α} (a : Addr) {v : V} (hv : R v x) : Paired (fun (q : KvD) (p : κ × α) => q.1 = kd p.1 ∧ R q.2.2 p.2) (storeD kvs (kd k) a v) (aPut T k x) := by
  unfold storeD aPut
  rw [rgAny kk h]
  split
  · have gen : ∀ {kvs : List KvD} {T : List (κ × α)}, Paired (fun (q : KvD) (p : κ × α) => q.1 = kd p.1 ∧ R q.2.2 p.2) kvs T → Paired (fun (q : KvD) (p : κ × α) => q.1 = kd p.1 ∧ R q.2.2 p.2) (kvs.map fun q => if keyD q.1 = keyD (kd k) then (q.1, q.2.1, v) else q) (T.map fun p => if p.1 = k then (p.1, x) else p) := fun h => by
      induction h with
      | nil => exact .nil
      | @cons q p kvs T hq _ ih =>
        rw [List.map_cons, List.map_cons]
        refine .cons ?_ ih
        by_cases c : p.1 = k
        · rw [if_pos c, if_pos (by rw [hq.1, c])]
          exact ⟨hq.1, hv⟩
        · rw [if_neg c, if_neg fun e => c (kk.inj (keyInj (kk.pl _) (kk.pl _) (by rw [← hq.1]; exact e)))]
          exact hq
    exact gen h
  · exact h.snoc ⟨rfl, hv⟩
end
/-- a list of texts -/
def LsAt (H : Hp) (v : V) (ws : List Str) : Prop := ∃ l, v = .ref l ∧ H l = some (.lst (ws.map V.str))
/-- a dict of lists of texts, by places -/
def LA (P : Program) (w : World) (K : PySem.W.Frag) (H : Hp) (d : Addr) (W : List (Pc × List Str)) : Prop := ∃ kvs, Nd P w K H d kvs ∧ Paired (fun (q : KvD) (p : Pc × List Str) => q.1 = pcD p.1 ∧ LsAt H q.2.2 p.2) kvs W
section
variable {P : Program} {w : World} {K : PySem.W.Frag} {H H' : Hp} {d : Addr} {W : List (Pc × List Str)}
theorem LA.new : LA P w K (upd H d (ndO P w d [])) d [] := ⟨[], ⟨upd_same, fun q hq => absurd hq (by simp)⟩, .nil⟩
theorem LA.same (h : LA P w K H d W) (s : Same H H') : LA P w K H' d W := by
  obtain ⟨kvs, n, p⟩ := h
  exact ⟨kvs, ⟨s _ _ n.o, fun q hq => ⟨(n.k q hq).1, dpSame s _ _ (n.k q hq).2⟩⟩, L2.Paired.mapP p fun _ _ h => ⟨h.1, let ⟨l, e, hl⟩ := h.2; ⟨l, e, s _ _ hl⟩⟩⟩
theorem LA.put {kvs : List KvD} {a : Addr} {p : Pc} {ws : List Str} {v : V} (n : Nd P w K H d kvs) (pr : Paired (fun (q : KvD) (p : Pc × List Str) => q.1 = pcD p.1 ∧ LsAt H q.2.2 p.2) kvs W) (ha : Dp K H (.ref a) (pcD p)) (hv : LsAt H v ws) :
    LA P w K (upd H d (ndO P w d ((storeD kvs (pcD p) a v).map kn))) d (aPut W p ws) := by
  have up : ∀ {u us}, LsAt H u us → LsAt (upd H d (ndO P w d ((storeD kvs (pcD p) a v).map kn))) u us := fun {u us} h => by
    obtain ⟨l, e, hl⟩ := h
    refine ⟨l, e, ?_⟩
    rw [upd_ne fun z => ?_]
    · exact hl
    · have := n.o
      rw [← z, hl] at this
      cases this
  exact ⟨_, ndStep n ha (kdPc.pl p), rgPut (R := LsAt (upd H d (ndO P w d ((storeD kvs (pcD p) a v).map kn)))) kdPc (L2.Paired.mapP pr fun _ _ h => ⟨h.1, up h.2⟩) a (up hv)⟩
end
/-- what is read at the place ahead -/
def wordO : Option Stp → Str
  | none => "none"
  | some s => word s
theorem wordOW (s : Option Stp) : decide (wordO s = "write") = isWo s := by
  cases s with
  | none => exact (by decide +kernel : decide (("none" : Str) = "write") = false)
  | some s => exact wordW s
def isRo : Option Stp → Bool
  | none => false
  | some s => isR s
theorem wordOR (s : Option Stp) : decide (wordO s = "read") = isRo s := by
  cases s with
  | none => exact (by decide +kernel : decide (("none" : Str) = "read") = false)
  | some s => exact wordR s
def LeadAt (K : PySem.W.Frag) (H : Hp) (v : V) : Option Stp → Prop
  | none => ∃ c, v = .ref c ∧ SqT K H c [.str "none"]
  | some s => Dp K H v (stpD s)
theorem LeadAt.head {K : PySem.W.Frag} {H : Hp} {v : V} {so : Option Stp} (h : LeadAt K H v so) : ∃ c ys, v = .ref c ∧ SqT K H c ys ∧ atI ys 0 = some (.str (wordO so)) := by
  cases so with
  | none => obtain ⟨c, e, hc⟩ := h; exact ⟨c, _, e, hc, atI_nat (j := 0) rfl⟩
  | some s => exact headAt h
theorem nePcs {K : PySem.W.Frag} {H : Hp} {D e : Addr} {zs : List V} {ps : List Pc} {Q : VK} (hD : H D = some (.lst zs)) (he : H e = some (.lst [])) (hz : DpAll K H zs (ps.map pcD)) (ok : ∀ p ∈ ps, Ok p) (h : Q (.bl (!decide (ps = []))) H) : rNeD K (.ref D) (.ref e) H Q := by
  obtain ⟨a, b⟩ := allLay (ds := ps.map pcD) (n := 3) fun d hd => by
    obtain ⟨r, hr, rfl⟩ := List.mem_map.mp hd
    exact (odPc (ok r hr)).lay
  refine ⟨.list (ps.map pcD), .list [], .lst (.inl (.inl hD)) hz, .lst (.inl (.inl he)) .nil, ?_, rfl, ?_⟩
  · have e1 : (PyData.list (ps.map pcD)).canLay0 = true := a
    unfold SeqAt.shaped
    rw [e1, Bool.true_and]
    refine decide_eq_true ?_
    simp only [PyData.depth]
    omega
  · cases ps with
    | nil => exact h
    | cons t ts => exact h
theorem lw_len (L : List (Pc × Stp)) : (lwT L).1.length ≤ L.length := by
  induction L using snocInd with
  | h0 => exact Nat.le_refl _
  | hs L q ih =>
    rw [lwT_snoc, List.length_append]
    exact Nat.le_trans (aPut_len _ _ _) (Nat.add_le_add_right ih 1)
theorem aheadL_lt {T : List (Pc × Stp)} {p a : Pc} (h0 : 0 ≤ p.n) (h : aheadL T p = some a) : ltL a p = true := by
  unfold aheadL at h
  split at h
  · rename_i hn
    rw [← Option.some.inj h]
    exact ltCount rfl rfl rfl (by show p.n - 1 < p.n; omega)
  · split at h
    · cases h
    · rename_i hr
      rw [← Option.some.inj h]
      exact ltFewer (r := p.rs.getLast hr) rfl rfl (List.dropLast_concat_getLast hr).symm
def FaultAt (K : PySem.W.Frag) (H : Hp) (v : V) : Option Res → Prop
  | none => v = .non
  | some res => ResAt K H v res
section
variable {P : Program} {w : World} {K : PySem.W.Frag} {mg : Str → Option Value} {base : Heap} {f : Addr} {fd : FuncData}
def spFault (P : Program) (w : World) (K : PySem.W.Frag) : Sp := fun vs H Q _ => ∃ l xs L, vs = [.ref l] ∧ SqL K H l xs ∧ DpAll K H xs (L.map prD) ∧ (∀ q ∈ L, PrOk q) ∧ L.length ≤ 500 ∧ ∀ r H', Same H H' → FaultAt K H' r (lawBad L) → Q r H'
abbrev nFault : List Str := ["_law_pairs", "_law_steps", "_law_clashes", "_law_place", "_law_found", "_law_written", "_law_ahead", "_law_outs_here", "_law_lead"]
theorem scFault : FnScope nFault ["_law_pairs"] (defScope lFault) := ⟨rfl, rfl, rfl, by decide +kernel, rfl, by decide +kernel, by decide +kernel⟩
theorem okFault {k : Nat} (B : Bn mg) (aO : Has P w K mg base 1 "_law_ordered" ["_law_places"] (spOrd K false)) (aA : Has P w K mg base 1 "_law_ahead_of" ["_law_steps", "_law_place"] (spLAhead P w K)) (F : FnP K "_law_fault_of" lFault f fd) : FnOk P w K mg base CX0 (k + 2) f fd ["_law_pairs"] (spFault P w K) := by
  obtain ⟨fO, dO, gO, kO, bO, GO⟩ := aO.ex
  obtain ⟨fA, dA, gA, kA, bA, GA⟩ := aA.ex
  refine F.ok scFault (fun vs H Q E h => ?_) (fun cdv A outer s H vs Q E hr h => ?_)
  · obtain ⟨l, xs, L, rfl, _⟩ := h
    rfl
  · obtain ⟨l, xs, L, rfl, hl, dxs, okL, lL, q⟩ := h
    have hu := hr.units
    have hu9 : (A.deeper (envOfC "_law_fault_of" (defScope lFault) s.heap.objs.size f cdv)).units + 9 < cLine := Nat.lt_of_le_of_lt (Nat.add_le_add_left (by decide) _) hu
    have r1 : Room 1 _ := hr.mono (by omega)
    refine ⟨_, PSs.nox (C8.pss_cut (ps_par (i := 1) (j := 2) rfl scFault.nd rfl rfl (by decide) rfl rfl (pa_cons (pe_dnewN) (pa_cons (pe_lst pa_nil) pa_nil)) (by rfl)) (C8.pss_cut (ps_for PassesOwn.never rfl (pi_list (pv 0)) (pg_tup rfl (pgs_cons (pg_name (i := 3) scFault.nd rfl (.inl rfl)) (pgs_cons (pg_name (i := 4) scFault.nd rfl (.inl rfl)) pgs_nil)))
        (C8.pss_cut (ps_if (pt_cmpR (r := rNeD K) (op_neD hu) (pe_dgetN2 hu9 (pv 1) (pv 3) (pv 4) ⟨rfl, rfl, rfl, rfl⟩) (pv 4) (nomark _)) (pss_one (ps_expr (pe_bm PySem.F.plainAttrs_list PySem.F.slot_list_append PySem.F.type_list_append mt_append (pv 2) (pa_cons (pv 3) pa_nil)))) pss_nil) (pss_one (ps_asg (pv 4) (pg_sub (pv 1) (pv 3) (set_nd hu9)))))) (C8.pss_cut (ps_if (pt_cmpR (r := rNeD K) (op_neD hu) (pv 2) (pe_lst pa_nil) (nomark _)) (pss_one (ps_ret (pe_tup (pa_cons (pe_str) (pa_cons (pe_ix ix_list (pe_call GO r1 (by rfl) gO kO bO .nil pass0 (pa_cons (pv 2) pa_nil)) pe_int (fun _ _ => rfl)) pa_nil))))) pss_nil) (C8.pss_cut (ps_set (i := 5) scFault.nd rfl (.inl rfl) pe_dnewN) (C8.pss_cut (ps_for PassesOwn.never rfl (pi_list (pe_call GO r1 (by rfl) gO kO bO .nil pass0 (pa_cons (pe_callTy (T := "list") (call_listN rfl) (by rfl) B.list (by decide +kernel) (pa_cons (pv 1) pa_nil)) pa_nil))) (pg_name (i := 3) scFault.nd rfl (.inl rfl))
        (C8.pss_cut (ps_par (i := 6) (j := 7) rfl scFault.nd rfl rfl (by decide) rfl rfl (pa_cons (pe_call GA r1 (by rfl) gA kA bA .nil pass0 (pa_cons (pv 1) (pa_cons (pv 3) pa_nil))) (pa_cons (pe_lst pa_nil) pa_nil)) (by rfl)) (C8.pss_cut (ps_if (pt_cmp (pc_notN (pv 6)))
            (C8.pss_cut (ps_set (i := 8) scFault.nd rfl (.inl rfl) (pe_dgetN2 hu9 (pv 1) (pv 6) (pe_tup (pa_cons (pe_str) pa_nil)) ⟨rfl, rfl, rfl, rfl⟩)) (C8.pss_cut (ps_if (PW.pt (pw_and (pt_cmpR op_gt (pe_ix ix_tup (pv 3) pe_int (fun _ _ => rfl)) pe_int (nomark _)) (pw_and1 (pt_cmpR op_ne (pe_ix ix_tup (pv 8) pe_int (fun _ _ => rfl)) pe_str (nomark _))))) (pss_one (ps_ret (pe_tup (pa_cons (pe_str) (pa_cons (pv 3) pa_nil))))) pss_nil) (C8.pss_cut (ps_if (PW.pt (pw_and (pt_cmpR op_eq (pe_ix ix_tup (pv 3) pe_int (fun _ _ => rfl)) pe_int (nomark _)) (pw_and1 (PW.pt (pw_or (pt_cmpR op_ne (pe_ix ix_tup (pv 8) pe_int (fun _ _ => rfl)) pe_str (nomark _)) (pw_or1 (pt_cmpR op_ne (pe_callB call_len_seq (by rfl) B.len PySem.boot_len (pa_cons (pe_ix ix_tup (pv 8) pe_int (fun _ _ => rfl)) pa_nil)) (pe_callB call_len_seq (by rfl) B.len PySem.boot_len (pa_cons (pe_ix ix_tup (pe_ix ix_tup (pv 3) pe_int (fun _ _ => rfl)) (pe_un un_neg pe_int) (fun _ _ => rfl)) pa_nil)) (nomark _)))))))) (pss_one (ps_ret (pe_tup (pa_cons (pe_str) (pa_cons (pv 3) pa_nil))))) pss_nil) (pss_one (ps_set (i := 7) scFault.nd rfl (.inl rfl) (pe_ix (ix_ndq hu9) (pv 5) (pv 6) (fun _ _ => rfl))))))) pss_nil) (C8.pss_cut (ps_if (PW.pt (pw_and (pt_cmpR op_eq (pe_ix ix_tup (pe_ix (ix_ndq hu9) (pv 1) (pv 3) (fun _ _ => rfl)) pe_int (fun _ _ => rfl)) pe_str (nomark _)) (pw_and1 (pt_cmpR (r := rIn K false) op_in_seq (pe_ix ix_tup (pe_ix (ix_ndq hu9) (pv 1) (pv 3) (fun _ _ => rfl)) pe_int (fun _ _ => rfl)) (pv 7) (by rfl))))) (pss_one (ps_ret (pe_tup (pa_cons (pe_str) (pa_cons (pv 3) pa_nil))))) pss_nil) (pss_one (ps_asg (pe_ifExp (pt_cmpR op_eq (pe_ix ix_tup (pe_ix (ix_ndq hu9) (pv 1) (pv 3) (fun _ _ => rfl)) pe_int (fun _ _ => rfl)) pe_str (nomark _)) (pe_op op_cat (pv 7) (pe_lst (pa_cons (pe_ix ix_tup (pe_ix (ix_ndq hu9) (pv 1) (pv 3) (fun _ _ => rfl)) pe_int (fun _ _ => rfl)) pa_nil))) (pv 7)) (pg_sub (pv 5) (pv 3) (set_nd hu9)))))))) (pss_one (ps_ret pe_non))))))), ?_⟩
    refine ⟨fun σ' H' => ∃ D C, σ' = [some (.ref l), some (.ref D), some (.ref C), none, none, none, none, none, none] ∧ Same H H' ∧ TA P w K H' D [] ∧ H' C = some (.lst []) ∧ H D = none ∧ H C = none ∧ D ≠ C, ?_, ?_⟩
    · refine fun D hD => ⟨Nat.zero_le _, fun C hC => ?_⟩
      have hC' : upd H D (ndO P w D []) C = none := hC
      have s1 := sameUpd (o := ndO P w D []) hD
      have s2 := sameUpd (o := .lst []) hC'
      have hC0 : H C = none := by
        cases e : H C with
        | none => rfl
        | some o => have := s1 _ _ e; rw [hC'] at this; cases this
      have nDC : D ≠ C := fun z => by rw [← z, upd_same] at hC'; cases hC'
      exact ⟨_, _, rfl, D, C, rfl, s1.trans s2, DA.new.same s2 pvStp, upd_same, hD, hC0, nDC⟩
    rintro _ H1 ⟨D, C, rfl, s1, hT1, eC1, nD, nC, nDC⟩
    refine ⟨fun σ' H' => ∃ x3 x4 fs, σ' = [some (.ref l), some (.ref D), some (.ref C), x3, x4, none, none, none, none] ∧ Same H H' ∧ TA P w K H' D (lwT L).1 ∧ H' C = some (.lst fs) ∧ DpAll K H' fs ((lwT L).2.map pcD) ∧ fs.length ≤ L.length, ?_, ?_⟩
    · have lx := dpLen dxs
      rw [List.length_map] at lx
      refine ⟨.ref l, rfl, l, rfl, ⟨xs, s1.seq hl⟩, ?_⟩
      refine forJ (n := xs.length) (fun i σ' H' => ∃ x3 x4 fs, σ' = [some (.ref l), some (.ref D), some (.ref C), x3, x4, none, none, none, none] ∧ Same H H' ∧ TA P w K H' D (lwT (L.take i)).1 ∧ H' C = some (.lst fs) ∧ DpAll K H' fs ((lwT (L.take i)).2.map pcD) ∧ fs.length ≤ i)
        ⟨none, none, [], rfl, s1, hT1, eC1, .nil, Nat.le_refl _⟩ (fun i σ' H' lt h => by obtain ⟨_, _, _, _, s, _⟩ := h; exact ⟨xs, xs[i], s.seq hl, List.getElem?_eq_getElem lt⟩) (fun σ' H' h => by obtain ⟨_, _, _, _, s, _⟩ := h; exact ⟨xs, s.seq hl, Nat.le_refl _⟩) (fun i σ' H0 x H5 lt h y => ?_) (fun σ' H' h => ?_)
      · obtain ⟨rfl, y⟩ := y
        obtain ⟨x3, x4, fs, rfl, s5, hT5, eC5, dfs, lfs⟩ := h
        have ex := y xs (s5.seq hl)
        have lt2 : i < L.length := by omega
        have e2 : (L.map prD)[i]? = some (prD L[i]) := by rw [List.getElem?_map, List.getElem?_eq_getElem lt2]; rfl
        obtain ⟨v, g1, g2⟩ := dpAt (dpAllSame s5 _ _ dxs) e2
        obtain rfl : v = x := Option.some.inj (g1.symm.trans ex)
        have tk1 : L.take (i + 1) = L.take i ++ [L[i]] := List.take_succ_eq_append_getElem lt2
        have okq := okL _ (List.getElem_mem lt2)
        have lTb := lw_len (L.take i)
        rw [List.length_take] at lTb
        rw [tk1, lwT_snoc]
        have hval : ∀ p s, aLook (lwT (L.take i)).1 p = some s → StpOk s := fun p s h => (okL (p, s) (List.mem_of_mem_take ((lwOf (L.take i)).sub p s h))).2.2
        generalize L[i] = q at *
        generalize lwT (L.take i) = st at *
        obtain ⟨a, vp, vs, rfl, hs, hp, hv⟩ := prAt g2
        obtain ⟨pa, _, _, rfl, _⟩ := pcAt hp
        obtain ⟨kvs, n, pr⟩ := id hT5
        have lk := ND.pairedLen pr
        refine ⟨a, _, rfl, hs, rfl, .ref pa, _, rfl, vs, _, rfl, rfl, ?_⟩
        refine ⟨fun σ' H' => ∃ fs2, σ' = [some (.ref l), some (.ref D), some (.ref C), some (.ref pa), some vs, none, none, none, none] ∧ Same H H' ∧ TA P w K H' D st.1 ∧ H' C = some (.lst fs2) ∧ DpAll K H' fs2 ((lwS st q).2.map pcD) ∧ fs2.length ≤ i + 1 ∧ Dp K H' (.ref pa) (pcD q.1) ∧ Dp K H' vs (stpD q.2), ?_, ?_⟩
        · refine ⟨.ref D, rfl, ⟨D, kvs, rfl, n.q⟩, .ref pa, rfl, vs, rfl, D, kvs, .ref pa, vs, _, rfl, n.q, .inr ⟨pa, _, rfl, hp, kdPc.pl _, rfl⟩, .inr rfl, vs, rfl, ?_⟩
          have got : Dp K H5 ((valN (kvs.map kn) (keyD (pcD q.1))).getD vs) (stpD ((aLook st.1 q.1).getD q.2)) ∧ StpOk ((aLook st.1 q.1).getD q.2) := by
            rcases rwVal kdPc pr q.1 with ⟨e1, e3⟩ | ⟨v0, s0, e1, e3, e4⟩
            · rw [e1, e3]
              exact ⟨hv, okq.2.2⟩
            · rw [e1, e3]
              exact ⟨e4, hval _ _ e3⟩
          refine ⟨stpD ((aLook st.1 q.1).getD q.2), stpD q.2, got.1, hv, (odStp got.2).shaped (by omega), (odStp okq.2.2).shaped (by omega), _, rfl, ?_⟩
          rw [eqStp]
          by_cases es : (aLook st.1 q.1).getD q.2 = q.2
          · have e2 : (lwS st q).2 = st.2 := if_pos es
            rw [decide_eq_true es]
            exact iteF ⟨fs, rfl, s5, hT5, eC5, by rw [e2]; exact dfs, by omega, hp, hv⟩
          · have e2 : (lwS st q).2 = st.2 ++ [q.1] := if_neg es
            rw [decide_eq_false es]
            have tC := TS.lst eC5 (o := .lst (fs ++ [.ref pa]))
            refine iteT ⟨.ref C, rfl, .inl ⟨rfl, _, .inl (.inl eC5)⟩, .ref pa, rfl, C, _, _, rfl, rfl, eC5, by rw [sizeLine_eq]; omega, fs ++ [.ref pa], rfl, fun b o h => ?_, hT5.ts tC pvStp (upd_ne nDC), upd_same, ?_, by rw [List.length_append]; show fs.length + 1 ≤ _; omega, dpTS tC (plPc _) _ hp, dpTS tC (plStp _) _ hv⟩
            · rw [upd_ne (ne_of_none h nC)]
              exact s5 _ _ h
            · rw [e2, List.map_append]
              exact dpSnoc (dpTS tC (plPc _) _ hp) (dpsTS tC dfs)
        rintro _ H6 ⟨fs2, rfl, s6, hT6, eC6, dfs6, l6, hp6, hv6⟩
        obtain ⟨kv6, n6, pr6⟩ := id hT6
        have lk6 := ND.pairedLen pr6
        refine ⟨vs, rfl, .ref D, rfl, .ref pa, rfl, D, pa, _, kv6, rfl, rfl, n6, hp6, kdPc.pl _, by rw [lk6, sizeLine_eq]; omega, _, _, fs2, rfl, fun b o h => ?_, DA.put kdPc pvStp n6 pr6 hp6 hv6, ?_, dpsTS (TS.put n6.o) dfs6, l6⟩
        · rw [upd_ne (ne_of_none h nD)]
          exact s6 _ _ h
        · rw [upd_ne nDC.symm]
          exact eC6
      · obtain ⟨x3, x4, fs, rfl, s5, hT5, eC5, dfs, _⟩ := h
        rw [List.take_of_length_le (by omega)] at dfs hT5
        exact ⟨x3, x4, fs, rfl, s5, hT5, eC5, dfs, by omega⟩
    rintro _ H2 ⟨x3, x4, fs, rfl, s2, hT2, eC2, dfs, lfs⟩
    have okF : ∀ p ∈ (lwT L).2, Ok p := fun p hp => by
      obtain ⟨a, b, h1, _⟩ := (lwOf L).two p hp
      exact (okL _ h1).1
    have nClash : (lwT L).2 = [] → (lwT L).1 = (tbl L).1 := fun e => sameTable L ((noClash L).mpr e)
    have bad : lawBad L = match srt (dd (lwT L).2) with | p :: _ => some (.bad "clash" p) | [] => lwGo (lwT L).1 (srt ((lwT L).1.map (·.1))) [] := rfl
    have lF := dpLen dfs
    rw [List.length_map] at lF
    refine ⟨fun σ' H' => σ' = [some (.ref l), some (.ref D), some (.ref C), x3, x4, none, none, none, none] ∧ Same H2 H' ∧ (lwT L).2 = [], ?_, ?_⟩
    · refine ⟨.ref C, rfl, Nat.zero_le _, fun e he => ?_⟩
      have s3 := sameUpd (o := .lst []) he
      refine nePcs (s3 _ _ eC2) upd_same (dpAllSame s3 _ _ dfs) okF ⟨_, rfl, ?_⟩
      by_cases eF : (lwT L).2 = []
      · rw [decide_eq_true eF]
        exact iteF ⟨rfl, s3, eF⟩
      · rw [decide_eq_false eF]
        refine iteT ⟨.ref C, rfl, C, _, _, rfl, .inl (.inl (s3 _ _ eC2)), dpAllSame s3 _ _ dfs, okF, by omega, fun l2 ys H6 s6 nl el dys => ?_⟩
        have dys' : DpAll K H6 ys ((srt (dd (lwT L).2)).map pcD) := dys
        cases es : srt (dd (lwT L).2) with
        | nil =>
          exfalso
          obtain ⟨g, hg⟩ := List.exists_mem_of_ne_nil _ eF
          have m : g ∈ srt (dd (lwT L).2) := (srtPm _).mem_iff.mpr (ddMem hg)
          rw [es] at m
          cases m
        | cons p r2 =>
          rw [es, List.map_cons] at dys'
          cases dys' with
          | @cons v _ ys' _ dv dr =>
            refine ⟨l2, _, 0, v, rfl, rfl, .inl (.inl el), atI_nat (j := 0) rfl, (by show 2 ≤ sizeLine; decide), fun t ht => ?_⟩
            have s7 := sameUpd (o := .tup [.str "clash", v]) ht
            refine q _ _ (((s2.trans s3).trans s6).trans s7) ?_
            rw [bad, es]
            exact .tup (.inl (.inl upd_same)) (.cons (.str _) (.cons (dpSame s7 _ _ dv) .nil))
    rintro _ H3 ⟨rfl, s3, eF⟩
    have eT := nClash eF
    have ndT := tbl_nd L
    have kT := tbl_keys L
    have lT := (tbl_len L).1
    have okK : ∀ p ∈ (tbl L).1.map (·.1), Ok p ∧ 0 ≤ p.n := fun p hp => by
      obtain ⟨q, hq, rfl⟩ := List.mem_map.mp (kT p hp)
      exact ⟨(okL q hq).1, (okL q hq).2.1⟩
    rw [eF, eT, show srt (dd ([] : List Pc)) = [] from List.perm_nil.mp (srtPm _)] at bad
    have hT3 := hT2.same s3 pvStp
    rw [eT] at hT3
    have s03 := s2.trans s3
    clear eT nClash
    generalize (tbl L).1 = T at *
    have bad' : lawBad L = lwGo T (srt (T.map (·.1))) [] := bad
    clear bad
    have s0 : Same H H3 := s03
    refine ⟨fun σ' H' => ∃ Wd, σ' = [some (.ref l), some (.ref D), some (.ref C), x3, x4, some (.ref Wd), none, none, none] ∧ H3 Wd = none ∧ H' = upd H3 Wd (ndO P w Wd []), fun Wd hWd => ⟨Wd, rfl, hWd, rfl⟩, ?_⟩
    rintro _ H4 ⟨Wd, rfl, hWd, e4⟩
    have s4 := sameUpd (o := ndO P w Wd []) hWd
    have hW4 : LA P w K (upd H3 Wd (ndO P w Wd [])) Wd [] := LA.new
    have hT4 := hT3.same s4 pvStp
    have s04 := s0.trans s4
    have nWd0 : H Wd = none := by
      cases e : H Wd with
      | none => rfl
      | some o => have := s0 _ _ e; rw [show H3 Wd = none from hWd] at this; cases this
    have nDW : D ≠ Wd := fun z => by obtain ⟨kvs, n, _⟩ := hT3; have := n.o; rw [z, show H3 Wd = none from hWd] at this; cases this
    rw [← e4] at s4 hW4 hT4 s04
    clear e4
    obtain ⟨kvs, n, pr⟩ := id hT4
    have dks := rwDp pr fun q hq => (n.k q hq).2
    have pmS : (srt (T.map (·.1))).Perm (T.map (·.1)) := List.mergeSort_perm _ _
    have pwS := srtPw (T.map (·.1))
    have ndS : (srt (T.map (·.1))).Nodup := pmS.nodup_iff.mpr ndT
    have lS : (srt (T.map (·.1))).length = T.length := by rw [pmS.length_eq, List.length_map]
    refine ⟨fun σ' H' => Same H H' ∧ lawBad L = none, ?_, fun _ H' h => q _ _ h.1 (by rw [h.2]; rfl)⟩
    refine ⟨.ref D, rfl, D, kvs, rfl, n, fun Lk hLk => ?_⟩
    have s5 := sameUpd (o := .lst (kvs.map fun q => V.ref q.2.1)) hLk
    have eLk : upd H4 Lk (.lst (kvs.map fun q => V.ref q.2.1)) Lk = some (.lst (kvs.map fun q => V.ref q.2.1)) := upd_same
    generalize upd H4 Lk (.lst (kvs.map fun q => V.ref q.2.1)) = H5 at s5 eLk ⊢
    refine ⟨Lk, _, T.map (·.1), rfl, .inl (.inl eLk), dpAllSame s5 _ _ dks, fun p hp => (okK p hp).1, by rw [List.length_map]; omega, fun lg ys H6 s6 nlg elg dys => ?_⟩
    have dys' : DpAll K H6 ys ((srt (T.map (·.1))).map pcD) := by rw [← srtNd ndT]; exact dys
    refine ⟨lg, rfl, ⟨_, .inl (.inl elg)⟩, ?_⟩
    have hW6 : LA P w K H6 Wd [] := (hW4.same s5).same s6
    have hT6 := (hT4.same s5 pvStp).same s6 pvStp
    have s06 : Same H H6 := (s04.trans s5).trans s6
    have memS : ∀ p, p ∈ srt (T.map (·.1)) ↔ p ∈ T.map (·.1) := fun p => pmS.mem_iff
    generalize srt (T.map (·.1)) = S at *
    have lys := dpLen dys'
    rw [List.length_map] at lys
    have nlgW : lg ≠ Wd := fun z => by
      obtain ⟨kw, nw, _⟩ := hW4.same s5
      have := nw.o
      rw [← z, nlg] at this
      cases this
    -- all but the written ones stands
    have keepT : ∀ {H'}, (∀ b o, b ≠ Wd → H6 b = some o → H' b = some o) → TA P w K H' D T := fun {H'} al => by
      obtain ⟨kw, nw, _⟩ := id hW6
      refine hT6.ts (fun b o e t => al b o (fun z => by
        rw [z, nw.o] at e
        cases e
        rcases t with ⟨_, h⟩ | ⟨_, _, h⟩ <;> cases h) e) pvStp ?_
      obtain ⟨kt, nt, _⟩ := hT6
      rw [nt.o, al _ _ nDW nt.o]
    have keepS : ∀ {H'}, (∀ b o, b ≠ Wd → H6 b = some o → H' b = some o) → Same H H' := fun {H'} al b o e => al b o (ne_of_none e nWd0) (s06 _ _ e)
    have keepP : ∀ {H'}, (∀ b o, b ≠ Wd → H6 b = some o → H' b = some o) → ∀ {v p}, Dp K H6 v (pcD p) → Dp K H' v (pcD p) := fun {H'} al {v p} h => by
      obtain ⟨kw, nw, _⟩ := id hW6
      exact dpTS (fun b o e t => al b o (fun z => by
        rw [z, nw.o] at e
        cases e
        rcases t with ⟨_, h⟩ | ⟨_, _, h⟩ <;> cases h) e) (plPc _) _ h
    refine forJ (n := S.length) (fun i σ' H' => ∃ x3 x6 x7 x8 W, σ' = [some (.ref l), some (.ref D), some (.ref C), x3, x4, some (.ref Wd), x6, x7, x8] ∧ (∀ b o, b ≠ Wd → H6 b = some o → H' b = some o) ∧ LA P w K H' Wd W ∧ lawBad L = lwGo T (S.drop i) W ∧ (∀ q ∈ S.take i, ∃ ws, aLook W q = some ws) ∧ (∀ q ∈ W, q.2.length ≤ i) ∧ W.length ≤ i)
      ⟨x3, none, none, none, [], rfl, fun _ _ _ h => h, hW6, bad', fun q h => (by cases h), fun q h => (by cases h), Nat.le_refl _⟩
      (fun i σ' H' lt h => by obtain ⟨_, _, _, _, _, _, al, _⟩ := h; exact ⟨ys, ys[i]'(by omega), .inl (.inl (al _ _ nlgW elg)), List.getElem?_eq_getElem (by omega)⟩) (fun σ' H' h => by obtain ⟨_, _, _, _, _, _, al, _⟩ := h; exact ⟨ys, .inl (.inl (al _ _ nlgW elg)), by omega⟩) (fun i σ' H0 x H7 lt h y => ?_) (fun σ' H' h => ?_)
    · obtain ⟨rfl, y⟩ := y
      obtain ⟨x3', x6, x7, x8, W, rfl, al, hW, hb, hin, hlen, lW⟩ := h
      have ex := y ys (.inl (.inl (al _ _ nlgW elg)))
      have e2 : (S.map pcD)[i]? = some (pcD S[i]) := by rw [List.getElem?_map, List.getElem?_eq_getElem lt]; rfl
      obtain ⟨v, g1, g2⟩ := dpAt dys' e2
      obtain rfl : v = x := Option.some.inj (g1.symm.trans ex)
      have dr : S.drop i = S[i] :: S.drop (i + 1) := List.drop_eq_getElem_cons lt
      have tk1 : S.take (i + 1) = S.take i ++ [S[i]] := List.take_succ_eq_append_getElem lt
      have pk : S[i] ∈ T.map (·.1) := (memS _).mp (List.getElem_mem lt)
      have before : ∀ q ∈ T.map (·.1), ltL q S[i] = true → q ∈ S.take i := fun q hq hlt => by
        have hS : q ∈ S.take i ++ S.drop i := by rw [List.take_append_drop]; exact (memS q).mpr hq
        rcases List.mem_append.mp hS with h | h
        · exact h
        · exfalso
          rw [dr] at h
          rcases List.mem_cons.mp h with h | h
          · rw [h, ltIrr] at hlt
            cases hlt
          · have pw2 : (S.drop i).Pairwise fun a b => leL a b = true := pwS.sublist (List.drop_sublist _ _)
            rw [dr] at pw2
            have := (List.pairwise_cons.mp pw2).1 q h
            rw [leL_eq, hlt] at this
            cases this
      rw [dr, lwGo] at hb
      rw [tk1]
      have dp7 := keepP al g2
      have okp := okK _ pk
      have hT7 := keepT al
      have lv : ∃ st, aLook T S[i] = some st := aLook_in pk
      generalize S[i] = p at *
      clear g1 g2 ex e2 y
      obtain ⟨pa, pva, pvr, rfl, hps, hpa, hpv⟩ := pcAt dp7
      refine ⟨fun σ' H' => ∃ ra o, σ' = [some (.ref l), some (.ref D), some (.ref C), some (.ref pa), x4, some (.ref Wd), some ra, some (.ref o), x8] ∧ Same H7 H' ∧ AtO K H' ra (aheadL T p) ∧ H' o = some (.lst []), ?_, ?_⟩
      · refine ⟨.ref D, rfl, .ref pa, rfl, D, .ref pa, p, T, rfl, hT7, dp7, okp.1, okp.2, by omega, fun ra H8 s8 hra => ⟨Nat.zero_le _, fun o ho => ?_⟩⟩
        exact ⟨_, _, rfl, ra, o, rfl, s8.trans (sameUpd ho), hra.same (sameUpd ho), upd_same⟩
      rintro _ H8 ⟨ra, o, rfl, s8, hra, eo⟩
      have al8 : ∀ b o, b ≠ Wd → H6 b = some o → H8 b = some o := fun b o nb h => s8 _ _ (al b o nb h)
      have hT8 := hT7.same s8 pvStp
      have dp8 := dpSame s8 _ _ dp7
      have hW8 := hW.same s8
      have hps8 := sameTup s8 hps
      refine ⟨fun σ' H' => ∃ ov x8', σ' = [some (.ref l), some (.ref D), some (.ref C), some (.ref pa), x4, some (.ref Wd), some ra, some ov, x8'] ∧ Same H8 H' ∧ LsAt H' ov (((aheadL T p).bind (aLook W)).getD []) ∧ gapL T p = false, ?_, ?_⟩
      · cases ea : aheadL T p with
        | none =>
          rw [ea] at hra
          have hra' : ra = .non := hra
          subst hra'
          refine ⟨.non, rfl, false, rfl, iteF ⟨.ref o, x8, rfl, fun _ _ h => h, ⟨o, rfl, eo⟩, ?_⟩⟩
          unfold gapL
          rw [ea]
        | some a =>
          rw [ea] at hra
          have da : Dp K H8 ra (pcD a) := hra
          obtain ⟨aa, _, _, rfl, _⟩ := pcAt da
          refine ⟨.ref aa, rfl, true, rfl, iteT ?_⟩
          have eg : gapL T p = !leads (aLook T a) p := by unfold gapL; rw [ea]
          refine ⟨fun σ' H' => ∃ lv, σ' = [some (.ref l), some (.ref D), some (.ref C), some (.ref pa), x4, some (.ref Wd), some (.ref aa), some (.ref o), some lv] ∧ Same H8 H' ∧ LeadAt K H' lv (aLook T a), ?_, ?_⟩
          · obtain ⟨kt, nt, prt⟩ := id hT8
            refine ⟨.ref D, rfl, ⟨D, kt, rfl, nt.q⟩, .ref aa, rfl, (by show 1 ≤ sizeLine; decide), fun u hu => ?_⟩
            have s9 := sameUpd (o := .tup [.str "none"]) hu
            obtain ⟨k9, n9, pr9⟩ := hT8.same s9 pvStp
            have da9 := dpSame s9 _ _ da
            refine ⟨D, k9, .ref aa, .ref u, _, rfl, n9.q, .inr ⟨aa, _, rfl, da9, kdPc.pl _, rfl⟩, .inr rfl, _, rfl, s9, ?_⟩
            rcases rwVal kdPc pr9 a with ⟨e1, e3⟩ | ⟨v0, s0, e1, e3, e4⟩
            · rw [e1, e3]
              exact ⟨u, rfl, .inl (.inl upd_same)⟩
            · rw [e1, e3]
              exact e4
          rintro _ H9 ⟨lv, rfl, s9, hlv⟩
          obtain ⟨c, zs, rfl, hc, h0⟩ := hlv.head
          have hps9 := sameTup s9 hps8
          have dp9 := dpSame s9 _ _ dp8
          have sH9 : Same H H9 := (keepS al8).trans s9
          have retGap : gapL T p = true → ∀ u, H9 u = none → FaultAt K (upd H9 u (.tup [.str "gap", .ref pa])) (.ref u) (lawBad L) := fun g u hu => by
            rw [hb, g, if_pos rfl]
            exact .tup (.inl (.inl upd_same)) (.cons (.str _) (.cons (dpSame (sameUpd hu) _ _ dp9) .nil))
          refine ⟨fun σ' H' => σ' = [some (.ref l), some (.ref D), some (.ref C), some (.ref pa), x4, some (.ref Wd), some (.ref aa), some (.ref o), some (.ref c)] ∧ H' = H9 ∧ (0 < p.n → gapL T p = false), ?_, ?_⟩
          · refine ⟨.ref pa, rfl, pa, _, 3, .int p.n, rfl, rfl, hps9, atI_nat (j := 3) rfl, p.n, 0, rfl, rfl, _, rfl, ite2 (fun e => ?_) (fun e => ?_)⟩
            · have hp : 0 < p.n := of_decide_eq_true e
              have eg2 : gapL T p = !isWo (aLook T a) := by
                rw [eg]
                cases aLook T a with
                | none => rfl
                | some s => rw [leadsP hp]; rfl
              refine ⟨.ref c, rfl, c, zs, 0, _, rfl, rfl, hc, h0, rfl, _, rfl, ?_⟩
              rw [TRE.wordEq, wordOW]
              cases hw : isWo (aLook T a) with
              | true => exact iteF ⟨rfl, rfl, fun _ => by rw [eg2, hw]; rfl⟩
              | false => exact iteT ⟨.ref pa, rfl, (by show 2 ≤ sizeLine; decide), fun u hu => q _ _ (sH9.trans (sameUpd hu)) (retGap (by rw [eg2, hw]; rfl) u hu)⟩
            · exact ⟨rfl, rfl, fun z => absurd (decide_eq_true z) e⟩
          rintro _ H9 ⟨rfl, rfl, gp⟩
          refine ⟨fun σ' H' => σ' = [some (.ref l), some (.ref D), some (.ref C), some (.ref pa), x4, some (.ref Wd), some (.ref aa), some (.ref o), some (.ref c)] ∧ H' = H9 ∧ gapL T p = false, ?_, ?_⟩
          · refine ⟨.ref pa, rfl, pa, _, 3, .int p.n, rfl, rfl, hps9, atI_nat (j := 3) rfl, rfl, _, rfl, ite2 (fun e => ?_) (fun e => ?_)⟩
            · have hp0 : p.n = 0 := V.int.inj (of_decide_eq_true e)
              have hp : ¬ 0 < p.n := by omega
              have hr0 : p.rs ≠ [] := fun z => by
                unfold aheadL at ea
                rw [if_neg hp, if_pos z] at ea
                cases ea
              refine ⟨.ref c, rfl, c, zs, 0, _, rfl, rfl, hc, h0, rfl, _, rfl, ?_⟩
              rw [TRE.wordEq, wordOR]
              cases hw : isRo (aLook T a) with
              | false =>
                refine iteT ⟨.ref pa, rfl, (by show 2 ≤ sizeLine; decide), fun u hu => q _ _ (sH9.trans (sameUpd hu)) (retGap ?_ u hu)⟩
                rw [eg]
                cases es : aLook T a with
                | none => rfl
                | some s =>
                  rw [leadsN hp]
                  rw [es] at hw
                  cases s with
                  | stop => rfl
                  | wr o z => rfl
                  | rd ks => cases hw
              | true =>
                cases es : aLook T a with
                | none => rw [es] at hw; cases hw
                | some s =>
                  cases s with
                  | stop => rw [es] at hw; cases hw
                  | wr o z => rw [es] at hw; cases hw
                  | rd ks =>
                    rw [es] at hlv eg
                    rw [leadsN hp] at eg
                    obtain ⟨c2, vk, e2, hs2, hk⟩ := rdAt hlv
                    cases e2
                    obtain ⟨t, us, rfl, ht, hus⟩ := TRE.dpTup hk
                    have l1 := dpLen hus
                    rw [List.length_map] at l1
                    obtain ⟨b, bx, rfl, hbr, hbx⟩ := rowsAt (dpSame s9 _ _ (dpSame s8 _ _ hpv))
                    obtain ⟨i0, row, e0⟩ : ∃ i row, p.rs = i ++ [row] := ⟨p.rs.dropLast, p.rs.getLast hr0, (List.dropLast_concat_getLast hr0).symm⟩
                    have ll : (p.rs.getLastD []).length = row.length := by
                      rw [e0, List.getLastD_eq_getLast?, List.getLast?_append]
                      simp
                    rw [e0, List.map_append] at hbx
                    obtain ⟨yz, v2, e3, hv2⟩ := dpLast hbx
                    obtain ⟨t2, rfl, ht2⟩ := rowAt hv2
                    rw [ll] at eg
                    refine iteF ⟨.ref c, rfl, c, _, 1, .ref t, rfl, rfl, hs2, rfl, t, us, rfl, .inr ht, .ref pa, rfl, pa, _, 2, .ref b, rfl, rfl, hps9, atI_nat (j := 2) rfl, 1, rfl, b, bx, _, .ref t2, rfl, rfl, hbr, by rw [e3]; exact atI_last _ _, t2, _, rfl, .inr ht2, rfl, _, rfl, ?_⟩
                    have ed : decide (V.int us.length = V.int (row.map vA).length) = decide (ks.length = row.length) := by
                      rw [l1, List.length_map]
                      refine decide_eq_decide.mpr ⟨fun z => ?_, fun z => by rw [z]⟩
                      have := V.int.inj z
                      omega
                    rw [ed]
                    have eg : gapL T p = !decide (ks.length = row.length) := eg
                    by_cases hl2 : ks.length = row.length
                    · rw [decide_eq_true hl2] at eg ⊢
                      exact iteF ⟨rfl, rfl, eg⟩
                    · rw [decide_eq_false hl2] at eg ⊢
                      exact iteT ⟨.ref pa, rfl, (by show 2 ≤ sizeLine; decide), fun u hu => q _ _ (sH9.trans (sameUpd hu)) (retGap eg u hu)⟩
            · refine ⟨rfl, rfl, gp ?_⟩
              have : p.n ≠ 0 := fun z => e (decide_eq_true (by rw [z]))
              have := okp.2
              omega
          rintro _ H9 ⟨rfl, rfl, g⟩
          have ha : ∃ ws, aLook W a = some ws := by
            refine hin a (before a ?_ (aheadL_lt okp.2 ea))
            rw [eg] at g
            cases es : aLook T a with
            | none => rw [es] at g; cases g
            | some s => exact List.mem_map.mpr ⟨_, aLook_mem es, rfl⟩
          obtain ⟨ws, hws⟩ := ha
          obtain ⟨kw, nw, prw⟩ := hW8.same s9
          rcases rgVal (R := LsAt H9) kdPc prw a with ⟨e1, e3⟩ | ⟨v0, w0, e1, e3, e4⟩
          · rw [hws] at e3; cases e3
          refine ⟨.ref Wd, rfl, .ref aa, rfl, Wd, aa, _, kw, v0, rfl, rfl, nw.q, dpSame s9 _ _ da, kdPc.pl _, e1, v0, _, rfl, s9, ?_, g⟩
          show LsAt H9 v0 ((aLook W a).getD [])
          rw [e3]
          exact e4
      rintro _ H9 ⟨ov, x8', rfl, s9, hov, g⟩
      rw [g, if_neg Bool.false_ne_true] at hb
      have al9 : ∀ b o, b ≠ Wd → H6 b = some o → H9 b = some o := fun b o nb h => s9 _ _ (al8 b o nb h)
      have hT9 := hT8.same s9 pvStp
      have dp9 := dpSame s9 _ _ dp8
      have hW9 := hW8.same s9
      have lws : (((aheadL T p).bind (aLook W)).getD []).length ≤ i := by
        cases aheadL T p with
        | none => exact Nat.zero_le _
        | some a =>
          show ((aLook W a).getD []).length ≤ i
          cases e : aLook W a with
          | none => exact Nat.zero_le _
          | some ws => exact hlen _ (aLook_mem e)
      generalize ((aheadL T p).bind (aLook W)).getD [] = ws at *
      obtain ⟨lo, rfl, elo⟩ := hov
      obtain ⟨st, est⟩ := lv
      rw [est] at hb
      obtain ⟨kt, nt, prt⟩ := id hT9
      rcases rwVal kdPc prt p with ⟨e1, e3⟩ | ⟨vst, st', ev, e3, hst⟩
      · rw [est] at e3; cases e3
      rw [est] at e3
      cases e3
      obtain ⟨c, ys2, ec, hc, h0⟩ := headAt hst
      subst ec
      refine ⟨fun σ' H' => σ' = [some (.ref l), some (.ref D), some (.ref C), some (.ref pa), x4, some (.ref Wd), some ra, some (.ref lo), x8'] ∧ H' = H9 ∧ ∀ o z, st = .wr o z → o ∉ ws, ?_, ?_⟩
      · refine ⟨.ref D, rfl, .ref pa, rfl, D, pa, _, kt, .ref c, rfl, rfl, nt.q, dp9, kdPc.pl _, ev, c, ys2, 0, _, rfl, rfl, hc, h0, rfl, _, rfl, ?_⟩
        rw [TRE.wordEq, wordW]
        cases st with
        | stop => exact iteF ⟨rfl, rfl, fun o z h => (by cases h)⟩
        | rd ks => exact iteF ⟨rfl, rfl, fun o z h => (by cases h)⟩
        | wr o z =>
          obtain ⟨c2, e2, hs2⟩ := wrAt hst
          cases e2
          refine iteT ⟨.ref D, rfl, .ref pa, rfl, D, pa, _, kt, .ref c, rfl, rfl, nt.q, dp9, kdPc.pl _, ev, c, _, 1, .str o, rfl, rfl, hs2, rfl, .ref lo, rfl, lo, _, rfl, .inl (.inl (.inl elo)), rfl, flatStrs _, _, rfl, ?_⟩
          rw [if_neg Bool.false_ne_true, inStrs]
          by_cases ho : o ∈ ws
          · rw [decide_eq_true ho]
            refine iteT ⟨.ref pa, rfl, (by show 2 ≤ sizeLine; decide), fun u hu => q _ _ ((keepS al9).trans (sameUpd hu)) ?_⟩
            have hb2 : lawBad L = some (.bad "again" p) := by rw [hb]; exact if_pos ho
            rw [hb2]
            exact .tup (.inl (.inl upd_same)) (.cons (.str _) (.cons (dpSame (sameUpd hu) _ _ dp9) .nil))
          · rw [decide_eq_false ho]
            exact iteF ⟨rfl, rfl, fun o' z' h => by cases h; exact ho⟩
      rintro _ H9 ⟨rfl, rfl, notIn⟩
      -- what is written there
      have fin : ∀ (ws' : List Str) (lo' : Addr) (H' : Hp), Same H9 H' → H' lo' = some (.lst (ws'.map V.str)) → ws'.length ≤ i + 1 → lawBad L = lwGo T (S.drop (i + 1)) (aPut W p ws') → ∃ kw, Nd P w K H' Wd kw ∧ Dp K H' (.ref pa) (pcD p) ∧ kw.length < sizeLine ∧ LA P w K (upd H' Wd (ndO P w Wd ((storeD kw (pcD p) pa (.ref lo')).map kn))) Wd (aPut W p ws') ∧
          (∀ b o, b ≠ Wd → H6 b = some o → upd H' Wd (ndO P w Wd ((storeD kw (pcD p) pa (.ref lo')).map kn)) b = some o) := fun ws' lo' H' s' e' l' hb' => by
        obtain ⟨kw, nw, prw⟩ := hW9.same s'
        have lk := ND.pairedLen prw
        have dpp := dpSame s' _ _ dp9
        refine ⟨kw, nw, dpp, by rw [lk, sizeLine_eq]; omega, LA.put nw prw dpp ⟨lo', rfl, e'⟩, fun b o nb h => ?_⟩
        rw [upd_ne nb]
        exact s' _ _ (al9 b o nb h)
      have rest : ∀ (ws' : List Str), ws'.length ≤ i + 1 → (∀ q ∈ S.take i ++ [p], ∃ us, aLook (aPut W p ws') q = some us) ∧ (∀ q ∈ aPut W p ws', q.2.length ≤ i + 1) ∧ (aPut W p ws').length ≤ i + 1 := fun ws' l' => by
        refine ⟨fun q hq => ?_, fun q hq => ?_, Nat.le_trans (aPut_len _ _ _) (Nat.add_le_add_right lW 1)⟩
        · rw [aLook_put]
          split
          · exact ⟨_, rfl⟩
          · rename_i ne
            rcases inSnoc hq with h | h
            · exact hin q h
            · exact absurd h.symm ne
        · rcases aPut_memV hq with ⟨q', h1, h2⟩ | h2
          · rw [← h2]
            exact Nat.le_succ_of_le (hlen q' h1)
          · rw [h2]
            exact l'
      refine ⟨.ref D, rfl, .ref pa, rfl, D, pa, _, kt, .ref c, rfl, rfl, nt.q, dp9, kdPc.pl _, ev, c, ys2, 0, _, rfl, rfl, hc, h0, rfl, _, rfl, ?_⟩
      rw [TRE.wordEq, wordW]
      rcases (show (isW st = false ∧ lawBad L = lwGo T (S.drop (i + 1)) (aPut W p ws)) ∨ ∃ o z, st = .wr o z by
        cases st with
        | stop => exact .inl ⟨rfl, hb⟩
        | rd ks => exact .inl ⟨rfl, hb⟩
        | wr o z => exact .inr ⟨o, z, rfl⟩) with ⟨hw, hb'⟩ | ⟨o, z, rfl⟩
      · obtain ⟨r1, r2, r3⟩ := rest ws (by omega)
        obtain ⟨kw, nw, dpp, lk, la, al'⟩ := fin ws lo H9 (Same.refl _) elo (by omega) hb'
        rw [hw]
        exact iteF ⟨.ref lo, rfl, .ref Wd, rfl, .ref pa, rfl, Wd, pa, _, kw, rfl, rfl, nw, dpp, kdPc.pl _, lk, _, _, _, _, aPut W p ws, rfl, al', la, hb', r1, r2, r3⟩
      · skip
        obtain ⟨c2, e2, hs2⟩ := wrAt hst
        cases e2
        have hb' : lawBad L = lwGo T (S.drop (i + 1)) (aPut W p (ws ++ [o])) := by rw [hb]; exact if_neg (notIn o z rfl)
        refine iteT ⟨.ref lo, rfl, .ref D, rfl, .ref pa, rfl, D, pa, _, kt, .ref c, rfl, rfl, nt.q, dp9, kdPc.pl _, ev, c, _, 1, .str o, rfl, rfl, hs2, rfl, (by show 1 ≤ sizeLine; decide), fun u hu => ?_⟩
        have sA := sameUpd (o := .lst [.str o]) hu
        refine ⟨lo, u, _, [.str o], rfl, rfl, sA _ _ elo, upd_same, by rw [List.length_map, sizeLine_eq]; show ws.length + 1 ≤ _; omega, fun n2 hn2 => ?_⟩
        have sB := sameUpd (o := .lst (ws.map V.str ++ [V.str o])) hn2
        obtain ⟨r1, r2, r3⟩ := rest (ws ++ [o]) (by rw [List.length_append]; show ws.length + 1 ≤ _; omega)
        obtain ⟨kw, nw, dpp, lk, la, al'⟩ := fin (ws ++ [o]) n2 _ (sA.trans sB) (by rw [upd_same, List.map_append]; rfl) (by rw [List.length_append]; show ws.length + 1 ≤ _; omega) hb'
        exact ⟨.ref Wd, rfl, .ref pa, rfl, Wd, pa, _, kw, rfl, rfl, nw, dpp, kdPc.pl _, lk, _, _, _, _, aPut W p (ws ++ [o]), rfl, al', la, hb', r1, r2, r3⟩
    · obtain ⟨x3', x6, x7, x8, W, rfl, al, hW, hb, _⟩ := h
      rw [List.drop_length] at hb
      exact ⟨keepS al, hb⟩
end
end REC

set_option Elab.async false
set_option linter.all false
set_option maxRecDepth 100000
set_option maxHeartbeats 8000000
namespace TRE
open PySem PySem.Spec PyProof.Rows L2 ND KS KS.La PLC
abbrev lNodeB : Stmt := top 44
section
variable {P : Program} {w : World} {K : PySem.W.Frag} {mg : Str → Option Value} {base : Heap} {f : Addr} {fd : FuncData}
abbrev nNA : List Str := ["_law_node", "_law_rows", "_law_row", "_law_found", "_law_case", "_law_inner"]
theorem scNA : FnScope nNA ["_law_node", "_law_rows"] (defScope lNodeB) := ⟨rfl, rfl, rfl, by decide +kernel, rfl, by decide +kernel, by decide +kernel⟩
theorem okNodeB {k : Nat} (F : FnP K "_law_node_behind" lNodeB f fd) (B : Bn mg) : FnOk P w K mg base CX0 (k + 1) f fd ["_law_node", "_law_rows"] (spNodeAt K) := by
  refine F.ok scNA (fun vs H Q E h => ?_) (fun cdv A outer s H vs Q E hr h => ?_)
  · obtain ⟨v, u, t, rs, rfl, _⟩ := h
    rfl
  · obtain ⟨v, u, t, rs, rfl, dv, ht, hod, hv, hrok, hw, q⟩ := h
    obtain ⟨b, xs, rfl, hb, hxs⟩ := rowsAt hv
    have lx := dpLen hxs
    rw [List.length_map] at lx
    refine ⟨_, PSs.nox (C8.pss_cut (ps_for PassesOwn.never rfl (pi_tup (pv 1)) (pg_name (i := 2) scNA.nd rfl (.inr rfl))
        (C8.pss_cut (ps_while PassesOwn.never (pt_cmpR op_eq (pe_ix ix_tup (pv 0) pe_int (fun _ _ => rfl)) pe_str (nomark _)) (pss_one (ps_set (i := 0) scNA.nd rfl (.inl rfl) (pe_ix ix_tup (pv 0) pe_int (fun _ _ => rfl))))) (C8.pss_cut (ps_setLc (i := 3) (own := [("_law_case", 4), ("_law_inner", 5)]) (g := gTup K 2 (gCons (gName 4) (gCons (gName 5) gNil))) (by rfl) scNA.nd rfl rfl (sw_true rfl rfl (by decide +kernel) (by decide +kernel)) (pi_tup (pe_ix ix_tup (pv 0) pe_int (fun _ _ => rfl))) (blkOk_by (N := nNA) (sc := defScope lNodeB) (by decide +kernel))
            (fun _ _ _ _ _ => pg_tup rfl (pgs_cons (pg_name (i := 4) scNA.nd rfl (.inl rfl) (hf := .inr rfl)) (pgs_cons (pg_name (i := 5) scNA.nd rfl (.inl rfl) (hf := .inr rfl)) pgs_nil))) (fun _ _ _ _ _ => pts_one (pt_cmpR (r := rEqD K) (op_eqD hr.units) (pv 4) (pv 2) (nomark _))) (fun _ _ _ _ _ => pv 5)) (pss_one (ps_set (i := 0) scNA.nd rfl (.inl rfl) (pe_ifExp (pt_cmpR (r := rNeD K) (op_neD hr.units) (pv 3) (pe_lst pa_nil) (nomark _)) (pe_ix ix_list (pv 3) pe_int (fun _ _ => rfl)) (pe_ix ix_tup (pv 0) pe_int (fun _ _ => rfl)))))))) (C8.pss_cut (ps_while PassesOwn.never (pt_cmpR op_eq (pe_ix ix_tup (pv 0) pe_int (fun _ _ => rfl)) pe_str (nomark _)) (pss_one (ps_set (i := 0) scNA.nd rfl (.inl rfl) (pe_ix ix_tup (pv 0) pe_int (fun _ _ => rfl))))) (pss_one (ps_ret (pe_ifExp (pt_cmpR op_eq (pe_ix ix_tup (pv 0) pe_int (fun _ _ => rfl)) pe_str (nomark _)) (pv 0) pe_non))))), ?_⟩
    refine ⟨fun σ' H' => ∃ v x2 x3, σ' = [some v, some (.ref b), x2, x3, none, none] ∧ Same H H' ∧ Dp K H' v (trD (walk t rs)), ?_, ?_⟩
    · refine ⟨.ref b, rfl, b, rfl, ⟨xs, hb⟩, ?_⟩
      refine forJ (n := rs.length) (fun i σ' H' => ∃ v x2 x3, σ' = [some v, some (.ref b), x2, x3, none, none] ∧ Same H H' ∧ Dp K H' v (trD (walk t (rs.take i)))) ⟨v, none, none, rfl, Same.refl _, dv⟩
        (fun i σ' H' lt h => by obtain ⟨_, _, _, _, s, _⟩ := h; exact ⟨xs, xs[i], sameTup s hb, List.getElem?_eq_getElem (by omega)⟩) (fun σ' H' h => by obtain ⟨_, _, _, _, s, _⟩ := h; exact ⟨xs, sameTup s hb, by omega⟩) (fun i σ' H2 u H3 lt h y => ?_) (fun σ' H' h => ?_)
      · obtain ⟨rfl, y⟩ := y
        obtain ⟨v, x2, x3, rfl, s3, dv⟩ := h
        have eu := y xs (sameTup s3 hb)
        have er : (rs.map rowD)[i]? = some (rowD rs[i]) := by rw [List.getElem?_map, List.getElem?_eq_getElem lt]; rfl
        obtain ⟨u', e1, e2⟩ := dpAt hxs er
        obtain rfl : u' = u := Option.some.inj (e1.symm.trans eu)
        obtain ⟨ks, cs, l, e3⟩ := canW_at hw lt
        have ok1 : TrOk (nextRead (walk t (rs.take i))) := okNextT (okWalk ht)
        have od1 : Od 58 (trD (nextRead (walk t (rs.take i)))) := odNext (odWalk hod)
        rw [e3] at od1
        rw [e3, TrOk] at ok1
        have rok := hrok _ (List.getElem_mem lt)
        -- past the writes
        refine ⟨fun σ' H' => ∃ v, σ' = [some v, some (.ref b), some u', x3, none, none] ∧ H3 = H' ∧ Dp K H3 v (trD (.rd ks cs l)), ?_, ?_⟩
        · refine ⟨fun m σ' H' => H3 = H' ∧ ∃ v' t', σ' = [some v', some (.ref b), some u', x3, none, none] ∧ m = wrs t' ∧ Dp K H3 v' (trD t') ∧ nextRead t' = .rd ks cs l, ⟨_, rfl, v, _, rfl, rfl, dv, e3⟩, fun m σ' H' hw => ?_⟩
          obtain ⟨rfl, v', t', rfl, rfl, hd', e⟩ := hw
          obtain ⟨a', xs', rfl, hs', h0⟩ := headAt hd'
          refine ⟨.ref a', rfl, a', xs', 0, .str (word t'), rfl, rfl, hs', h0, rfl, _, rfl, ?_⟩
          rw [wordEq]
          cases t' with
          | stop => cases e
          | rd ks' cs' l' =>
            rw [show word (.rd ks' cs' l') = "read" from rfl, rw']
            exact iteF ⟨_, rfl, rfl, by rw [← e]; exact hd'⟩
          | wr o ps n =>
            rw [show word (.wr o ps n) = "write" from rfl, ww]
            obtain ⟨a2, vp, vn, ea, hs2, _, hn⟩ := wrAt hd'
            cases ea
            refine iteT ⟨fun σ2 H4 => ∃ m', m' < wrs (.wr o ps n) ∧ H3 = H4 ∧ ∃ v' t', σ2 = [some v', some (.ref b), some u', x3, none, none] ∧ m' = wrs t' ∧ Dp K H3 v' (trD t') ∧ nextRead t' = .rd ks cs l, fun _ _ z => z, ?_⟩
            exact ⟨.ref a', rfl, a', _, 3, vn, rfl, rfl, hs2, atI_nat (j := 3) rfl, wrs n, by show wrs n < wrs n + 1; omega, rfl, vn, n, rfl, rfl, hn, e⟩
        rintro _ _ ⟨v, rfl, rfl, dv⟩
        obtain ⟨a4, vk, vc, vl, rfl, hs4, _, hc4, hl4⟩ := rdAt dv
        obtain ⟨b4, zs4, rfl, hb4, hz4⟩ := dpTup hc4
        have l4 := dpLen hz4
        rw [csD_map] at hz4
        rw [csD_map, List.length_map] at l4
        have lcs := ok1.1.1
        -- the cases with this row
        refine ⟨fun σ' H' => ∃ D zs, σ' = [some (.ref a4), some (.ref b), some u', some (.ref D), none, none] ∧ Same H3 H' ∧ H' D = some (.lst zs) ∧ DpAll K H' zs ((hits rs[i] cs).map trD), ?_, ?_⟩
        · refine ⟨.ref a4, rfl, a4, _, 2, .ref b4, rfl, rfl, hs4, atI_nat (j := 2) rfl, b4, rfl, ⟨zs4, hb4⟩, fun D hD => ?_⟩
          refine lcJ (n := cs.length) (vs := [4, 5]) (fun m H' => ∃ zs, At H3 D zs H' ∧ DpAll K H' zs ((hits rs[i] (cs.take m)).map trD)) ⟨[], ⟨sameUpd hD, upd_same⟩, .nil⟩
            (fun m H' lt h => ⟨zs4, zs4[m], sameTup h.choose_spec.1.1 hb4, List.getElem?_eq_getElem (by omega)⟩) (fun H' h => ⟨zs4, sameTup h.choose_spec.1.1 hb4, by omega⟩) (fun m H' x H5 ltm h y => ?_) (fun H' h => ?_)
          · obtain ⟨rfl, y⟩ := y
            obtain ⟨zs, hat, hzs⟩ := h
            have ex := y zs4 (sameTup hat.1 hb4)
            have em : (cs.map fun c => PyData.tuple [rowD c.1, trD c.2])[m]? = some (.tuple [rowD (cs[m]).1, trD (cs[m]).2]) := by rw [List.getElem?_map, List.getElem?_eq_getElem ltm]; rfl
            obtain ⟨x', g1, g2⟩ := dpAt hz4 em
            obtain rfl : x' = x := Option.some.inj (g1.symm.trans ex)
            obtain ⟨c4, ws4, rfl, hc5, hw5⟩ := dpTup (dpSame hat.1 _ _ g2)
            obtain ⟨g, t4, rfl, hg, ht4⟩ := dpTwo hw5
            refine ⟨c4, _, rfl, hc5, rfl, _, _, rfl, _, _, rfl, rfl, rfl, ?_⟩
            refine ⟨g, rfl, u', rfl, _, _, hg, dpSame (s3.trans hat.1) _ _ e2, rowShaped (csOk_mem ok1.1.2 _ (List.getElem_mem ltm)).1, rowShaped rok, _, rfl, ?_⟩
            rw [eqRow]
            have ek : hits rs[i] (cs.take (m + 1)) = if (cs[m]).1 = rs[i] then hits rs[i] (cs.take m) ++ [(cs[m]).2] else hits rs[i] (cs.take m) := by
              rw [List.take_succ_eq_append_getElem ltm, hitsSnoc]
            by_cases hr2 : (cs[m]).1 = rs[i]
            · rw [if_pos hr2] at ek
              rw [decide_eq_true hr2, ek]
              obtain ⟨e6, e7⟩ := hat.put (ys := zs ++ [t4]) hD (Same.refl _)
              have lz := dpLen hzs
              rw [List.length_map] at lz
              have lh := hitsLen rs[i] (cs.take m)
              rw [List.length_take] at lh
              refine iteT ⟨t4, rfl, zs, e6, by rw [sizeLine_eq]; omega, zs ++ [t4], e7, ?_⟩
              have t6 := TS.lst (o := .lst (zs ++ [t4])) e6
              rw [List.map_append]
              exact dpSnoc (trTS t6 _ _ ht4) (trsTS t6 _ hzs)
            · rw [if_neg hr2] at ek
              rw [decide_eq_false hr2, ek]
              exact iteF ⟨zs, hat, hzs⟩
          · obtain ⟨zs, hat, hzs⟩ := h
            rw [List.take_length] at hzs
            exact ⟨D, zs, rfl, hat.1, hat.2, hzs⟩
        rintro _ H4 ⟨D, zs, rfl, s4, eD, hzs⟩
        -- the node behind it
        have fin : ∀ (v' : V) H5, Same H4 H5 → Dp K H5 v' (trD (pickC rs[i] cs l)) → ∃ v x2 x3, [some v', some (.ref b), some u', some (.ref D), none, none] = ([some v, some (.ref b), x2, x3, none, none] : L2.St) ∧ Same H H5 ∧ Dp K H5 v (trD (walk t (rs.take (i + 1)))) := fun v' H5 s5 dv' => by
          refine ⟨v', _, _, rfl, (s3.trans s4).trans s5, ?_⟩
          rw [List.take_succ_eq_append_getElem lt, walkSnoc, e3]
          exact dv'
        refine ⟨.ref D, rfl, Nat.zero_le _, fun p' hp' => ?_⟩
        have s5 := sameUpd (o := .lst []) hp'
        refine neTrees (n := 58) (by omega) (s5 _ _ eD) upd_same (dpAllSame s5 _ _ hzs) (fun t' ht' => by
          obtain ⟨c', hc', rfl⟩ := hitsMem ht'
          exact (odRd od1).2 c' hc') ⟨_, rfl, ?_⟩
        rw [pickHits] at fin
        cases hh : hits rs[i] cs with
        | nil =>
          rw [hh] at fin
          rw [decide_eq_true rfl]
          exact iteF ⟨.ref a4, rfl, a4, _, 3, vl, rfl, rfl, sameTup (s4.trans s5) hs4, atI_nat (j := 3) rfl, fin vl _ s5 (dpSame (s4.trans s5) _ _ hl4)⟩
        | cons t0 ts =>
          rw [hh] at fin
          rw [decide_eq_false (by simp)]
          rw [hh] at hzs
          cases hzs with
          | cons hz0 hzr =>
            exact iteT ⟨.ref D, rfl, D, _, 0, _, rfl, rfl, .inl (.inl (s5 _ _ eD)), atI_nat (j := 0) rfl, fin _ _ s5 (dpSame s5 _ _ hz0)⟩
      · obtain ⟨v, x2, x3, rfl, s3, dv⟩ := h
        rw [List.take_length] at dv
        exact ⟨v, x2, x3, rfl, s3, dv⟩
    rintro _ H2 ⟨v, x2, x3, rfl, s2, dv⟩
    refine ⟨fun σ' H' => ∃ v, σ' = [some v, some (.ref b), x2, x3, none, none] ∧ H2 = H' ∧ Dp K H2 v (trD (nextRead (walk t rs))), ?_, ?_⟩
    · refine ⟨fun m σ' H' => H2 = H' ∧ ∃ v' t', σ' = [some v', some (.ref b), x2, x3, none, none] ∧ m = wrs t' ∧ Dp K H2 v' (trD t') ∧ nextRead t' = nextRead (walk t rs), ⟨_, rfl, v, _, rfl, rfl, dv, rfl⟩, fun m σ' H' hw => ?_⟩
      obtain ⟨rfl, v', t', rfl, rfl, hd', e⟩ := hw
      obtain ⟨a', xs', rfl, hs', h0⟩ := headAt hd'
      refine ⟨.ref a', rfl, a', xs', 0, .str (word t'), rfl, rfl, hs', h0, rfl, _, rfl, ?_⟩
      rw [wordEq]
      cases t' with
      | stop =>
        rw [show word .stop = "stop" from rfl, sw]
        exact iteF ⟨_, rfl, rfl, by rw [← e]; exact hd'⟩
      | rd ks' cs' l' =>
        rw [show word (.rd ks' cs' l') = "read" from rfl, rw']
        exact iteF ⟨_, rfl, rfl, by rw [← e]; exact hd'⟩
      | wr o ps n =>
        rw [show word (.wr o ps n) = "write" from rfl, ww]
        obtain ⟨a2, vp, vn, ea, hs2, _, hn⟩ := wrAt hd'
        cases ea
        refine iteT ⟨fun σ2 H4 => ∃ m', m' < wrs (.wr o ps n) ∧ H2 = H4 ∧ ∃ v' t', σ2 = [some v', some (.ref b), x2, x3, none, none] ∧ m' = wrs t' ∧ Dp K H2 v' (trD t') ∧ nextRead t' = nextRead (walk t rs), fun _ _ z => z, ?_⟩
        exact ⟨.ref a', rfl, a', _, 3, vn, rfl, rfl, hs2, atI_nat (j := 3) rfl, wrs n, by show wrs n < wrs n + 1; omega, rfl, vn, n, rfl, rfl, hn, e⟩
    rintro _ _ ⟨v, rfl, rfl, dv⟩
    generalize nextRead (walk t rs) = T at *
    obtain ⟨a0, xs0, ev, hs0, h0⟩ := headAt dv
    subst ev
    refine ⟨.ref a0, rfl, a0, xs0, 0, .str (word T), rfl, rfl, hs0, h0, rfl, _, rfl, ?_⟩
    rw [wordEq]
    cases T with
    | stop =>
      rw [show word .stop = "stop" from rfl, sr]
      exact iteF (q _ _ s2 .non)
    | wr o ps n =>
      rw [show word (.wr o ps n) = "write" from rfl, wr']
      exact iteF (q _ _ s2 .non)
    | rd ks cs l =>
      rw [show word (.rd ks cs l) = "read" from rfl, rr]
      exact iteT ⟨_, rfl, q _ _ s2 dv⟩
end
end TRE

set_option Elab.async false
set_option linter.all false
set_option maxRecDepth 100000
set_option maxHeartbeats 8000000
/-! the law's next place -/
namespace TRE
open PySem PySem.Spec PyProof.Rows L2 ND KS KS.La PLC
abbrev lNext : Stmt := top 45
/-- the tree of a name; a name without one stops -/
def TreeOf (K : PySem.W.Frag) (H : Hp) (kvs : List (Key × V)) (c : Str) (t : Tr) : Prop := (∃ v, valV kvs (.inr c) = some v ∧ Dp K H v (trD t)) ∨ (valV kvs (.inr c) = none ∧ t = .stop)
theorem TreeOf.ts {K : PySem.W.Frag} {H H' : Hp} {kvs : List (Key × V)} {c : Str} {t : Tr} (h : TreeOf K H kvs c t) (s : TS H H') : TreeOf K H' kvs c t := h.imp (fun ⟨v, e, d⟩ => ⟨v, e, trTS s _ _ d⟩) id
/-- a tree of right sizes -/
structure TrFit (t : Tr) : Prop where
  ok : TrOk t
  od : Od 58 (trD t)
  ks : ∀ rs ks cs l, nextRead (walk t rs) = .rd ks cs l → ks.length ≤ 4
section
variable {P : Program} {w : World} {K : PySem.W.Frag} {mg : Str → Option Value} {base : Heap} {f : Addr} {fd : FuncData}
def spNext (K : PySem.W.Frag) : Sp := fun vs H Q _ => ∃ f d kvs pl p t, vs = [.ref f, .ref d, pl] ∧ Fd H f ∧ H d = some (.dK kvs) ∧ d ≠ f ∧ Dp K H pl (pcD p) ∧ Ok p ∧ TreeOf K H kvs p.c t ∧ TrFit t ∧ AtRun t p.c p.as p ∧ p.rs.length ≤ 50 ∧ p.n ≤ 50 ∧
  (∀ H', Kp f H H' → Fd H' f → Q .non H') ∧ ∀ r p' H', AtRun t p.c p.as p' → p'.rs.length ≤ p.rs.length + 1 → p'.n ≤ p.n + 1 → Dp K H' r (pcD p') → Kp f H H' → Fd H' f → Q r H'
abbrev nNext : List Str := ["_law_feed", "_law_recipes", "_law_place", "_law_found", "_law_row"]
theorem scNext : FnScope nNext ["_law_feed", "_law_recipes", "_law_place"] (defScope lNext) := ⟨rfl, rfl, rfl, by decide +kernel, rfl, by decide +kernel, by decide +kernel⟩
theorem okNext {k : Nat} (F : FnP K "_law_next_place" lNext f fd) (St : Has P w K mg base (k + 5) "_law_step_at" ["_law_recipes", "_law_place"] (spLStep K)) (Nr : Has P w K mg base (k + 5) "_law_rows_near" ["_law_feed", "_law_node"] (spNearR K)) (Na : Has P w K mg base (k + 5) "_law_node_behind" ["_law_node", "_law_rows"] (spNodeAt K)) :
    FnOk P w K mg base CX0 (k + 6) f fd ["_law_feed", "_law_recipes", "_law_place"] (spNext K) := by
  obtain ⟨fS, fdS, gS, kS, bS, GS⟩ := St.ex
  obtain ⟨fN, fdN, gN, kN, bN, GN⟩ := Nr.ex
  obtain ⟨fA, fdA, gA, kA, bA, GA⟩ := Na.ex
  refine F.ok scNext (fun vs H Q E h => ?_) (fun cdv A outer s H vs Q E hr h => ?_)
  · obtain ⟨a, d, kvs, pl, p, t, rfl, _⟩ := h
    rfl
  · obtain ⟨a, d, kvs, pl, p, t, rfl, hF, ed, nd, dpl, okp, htr, ft, hat, lrs, ln, q0, q1⟩ := h
    refine ⟨_, PSs.nox (C8.pss_cut (ps_set (i := 3) scNext.nd rfl (.inl rfl) (pe_call GS hr (by rfl) gS kS bS .nil pass0 (pa_cons (pv 1) (pa_cons (pv 2) pa_nil)))) (pss_cons (ps_if (pt_cmpR op_eq (pe_ix ix_tup (pv 3) pe_int (fun _ _ => rfl)) pe_str (nomark _)) (pss_one (ps_ret pe_non)) pss_nil) (pss_cons (ps_if (pt_cmpR op_eq (pe_ix ix_tup (pv 3) pe_int (fun _ _ => rfl)) pe_str (nomark _)) (pss_one (ps_ret (pe_tup (pa_cons (pe_ix ix_tup (pv 2) pe_int (fun _ _ => rfl)) (pa_cons (pe_ix ix_tup (pv 2) pe_int (fun _ _ => rfl)) (pa_cons (pe_ix ix_tup (pv 2) pe_int (fun _ _ => rfl)) (pa_cons (pe_op op_add (pe_ix ix_tup (pv 2) pe_int (fun _ _ => rfl)) pe_int) pa_nil))))))) pss_nil) (pss_cons (ps_set (i := 4) scNext.nd rfl (.inl rfl) (pe_call GN hr (by rfl) gN kN bN .nil pass0 (pa_cons (pv 0) (pa_cons (pe_call GA hr (by rfl) gA kA bA .nil pass0 (pa_cons (pe_dget (Nat.lt_of_le_of_lt (Nat.add_le_add_left (by decide) _) hr.units) (pv 1) (pe_ix ix_tup (pv 2) pe_int (fun _ _ => rfl)) (fun _ _ => rfl)) (pa_cons (pe_ix ix_tup (pv 2) pe_int (fun _ _ => rfl)) pa_nil))) pa_nil)))) (pss_one (ps_ret (pe_tup (pa_cons (pe_ix ix_tup (pv 2) pe_int (fun _ _ => rfl)) (pa_cons (pe_ix ix_tup (pv 2) pe_int (fun _ _ => rfl)) (pa_cons (pe_op op_catA (pe_ix ix_tup (pv 2) pe_int (fun _ _ => rfl)) (pe_tup (pa_cons (pv 4) pa_nil))) (pa_cons (pe_int) pa_nil))))))))))), ?_⟩
    obtain ⟨hc1, hc2, hw, hrok, n', en, hcd⟩ := hat
    refine ⟨fun σ' H' => ∃ st, σ' = [some (.ref a), some (.ref d), some pl, some st, none] ∧ Same H H' ∧ Dp K H' st (stepD (p.as.map some :: p.rs) (down (walk t p.rs) n')), ?_, ?_⟩
    · exact ⟨.ref d, rfl, pl, rfl, d, kvs, pl, p, t, rfl, ed, dpl, okp, htr, ft.ok, ft.od, hw, n', en, hcd, by omega, fun r H' s' hd' => ⟨r, rfl, s', hd'⟩⟩
    rintro _ H5 ⟨st, rfl, s5, dst⟩
    have dpl5 := dpSame s5 _ _ dpl
    have F5 := hF.same s5
    have ed5 := s5 _ _ ed
    obtain ⟨ap, va, vr, rfl, hsp, hap, hvr⟩ := pcAt dpl5
    generalize eT : down (walk t p.rs) n' = T at *
    have head : ∃ a9 xs9 z, st = .ref a9 ∧ SqT K H5 a9 xs9 ∧ atI xs9 0 = some (.str z) ∧ (z = "stop" ∨ (z = "write" ∧ ∃ o ps m, T = .wr o ps m) ∨ (z = "read" ∧ ∃ ks cs l, T = .rd ks cs l)) := by
      have hd1 : ∀ {z : Str} {r : List PyData}, Dp K H5 st (.tuple (.str z :: r)) → ∃ a9 xs9, st = .ref a9 ∧ SqT K H5 a9 xs9 ∧ atI xs9 0 = some (.str z) := fun h => by
        obtain ⟨a9, xs9, rfl, hs9, hx9⟩ := dpTup h
        cases hx9 with
        | cons h1 h2 =>
          cases h1
          exact ⟨a9, _, rfl, hs9, atI_nat (j := 0) rfl⟩
      cases T with
      | stop => obtain ⟨x, y, e, g1, g2⟩ := hd1 dst; exact ⟨x, y, _, e, g1, g2, .inl rfl⟩
      | rd ks cs l => obtain ⟨x, y, e, g1, g2⟩ := hd1 dst; exact ⟨x, y, _, e, g1, g2, .inr (.inr ⟨rfl, _, _, _, rfl⟩)⟩
      | wr o ps m =>
        have dst2 : Dp K H5 st (if (Txt.join "" (ps.map (pieceS (p.as.map some :: p.rs)))).length ≤ 400 then .tuple [.str "write", .str o, .str (Txt.join "" (ps.map (pieceS (p.as.map some :: p.rs))))] else .tuple [.str "stop"]) := dst
        split at dst2
        · obtain ⟨x, y, e, g1, g2⟩ := hd1 dst2; exact ⟨x, y, _, e, g1, g2, .inr (.inl ⟨rfl, _, _, _, rfl⟩)⟩
        · obtain ⟨x, y, e, g1, g2⟩ := hd1 dst2; exact ⟨x, y, _, e, g1, g2, .inl rfl⟩
    obtain ⟨a9, xs9, z, rfl, hs9, h90, hz⟩ := head
    refine ⟨.ref a9, rfl, a9, xs9, 0, .str z, rfl, rfl, hs9, h90, rfl, _, rfl, ?_⟩
    rw [wordEq]
    rcases hz with rfl | ⟨rfl, o, ps, m, rfl⟩ | ⟨rfl, ks, cs, l, rfl⟩
    · rw [ss]
      exact iteT (q0 _ (Kp.same s5) F5)
    · rw [ws]
      refine iteF ⟨.ref a9, rfl, a9, xs9, 0, .str "write", rfl, rfl, hs9, h90, rfl, _, rfl, ?_⟩
      rw [wordEq, ww]
      refine iteT ⟨.ref ap, rfl, ap, _, 0, .str p.c, rfl, rfl, hsp, atI_nat (j := 0) rfl, .ref ap, rfl, ap, _, 1, va, rfl, rfl, hsp, atI_nat (j := 1) rfl, .ref ap, rfl, ap, _, 2, vr, rfl, rfl, hsp, atI_nat (j := 2) rfl, .ref ap, rfl, ap, _, 3, .int p.n, rfl, rfl, hsp, atI_nat (j := 3) rfl, p.n, 1, rfl, rfl, (by show 4 ≤ sizeLine; decide), fun U hU => ?_⟩
      have sU := sameUpd (o := .tup [.str p.c, va, vr, .int (p.n + 1)]) hU
      exact q1 (.ref U) ⟨p.c, p.as, p.rs, p.n + 1⟩ _ ⟨rfl, rfl, hw, hrok, n' + 1, by show p.n + 1 = _; omega, canDSnoc hcd eT⟩ (by show p.rs.length ≤ p.rs.length + 1; omega) (Int.le_refl _) (pcMk (p := ⟨p.c, p.as, p.rs, p.n + 1⟩) (.inl (.inl upd_same)) (dpSame sU _ _ hap) (dpSame sU _ _ hvr)) ((Kp.same s5).trans (Kp.same sU)) (F5.same sU)
    · have rs' : (decide (("read" : Str) = "stop")) = false := by decide +kernel
      rw [rs']
      refine iteF ⟨.ref a9, rfl, a9, xs9, 0, .str "read", rfl, rfl, hs9, h90, rfl, _, rfl, ?_⟩
      rw [wordEq, rw']
      have nx : nextRead (walk t p.rs) = .rd ks cs l := nextDown hcd eT
      rcases htr with ⟨v, ev, hv⟩ | ⟨_, et⟩
      · have dv5 : Dp K H5 v (trD t) := dpSame s5 _ _ hv
        have okT : TrOk (.rd ks cs l) := by rw [← nx]; exact okNextT (okWalk ft.ok)
        refine iteF ⟨.ref a, rfl, .ref d, rfl, .ref ap, rfl, ap, _, 0, .str p.c, rfl, rfl, hsp, atI_nat (j := 0) rfl, d, v, rfl, DGet.k (k := .inr p.c) ed5 |> fun g => (by rw [ev] at g; exact g), .ref ap, rfl, ap, _, 2, vr, rfl, rfl, hsp, atI_nat (j := 2) rfl, ?_⟩
        refine ⟨v, vr, t, p.rs, rfl, dv5, ft.ok, ft.od, hvr, hrok, hw, fun nd6 H6 s6 dn6 => ?_⟩
        rw [nx] at dn6
        refine ⟨a, nd6, ks, cs, l, rfl, F5.same s6, dn6, okT, ft.ks _ _ _ _ nx, fun u r H7 rok du k7 F7 => ?_⟩
        have k57 : Kp a H5 H7 := (Kp.same s6).trans k7
        have t57 := tsKp F5 k57
        have hsp7 := t57.tup hsp
        refine ⟨.ref ap, rfl, ap, _, 0, .str p.c, rfl, rfl, hsp7, atI_nat (j := 0) rfl, .ref ap, rfl, ap, _, 1, va, rfl, rfl, hsp7, atI_nat (j := 1) rfl, .ref ap, rfl, ap, _, 2, vr, rfl, rfl, hsp7, atI_nat (j := 2) rfl, u, rfl, (by show 1 ≤ sizeLine; decide), fun T1 hT1 => ?_⟩
        have s8 := sameUpd (o := .tup [u]) hT1
        have d1 : Dp K (upd H7 T1 (.tup [u])) (.ref T1) (.tuple [rowD r]) := .tup (.inl (.inl upd_same)) (.cons (dpSame s8 _ _ du) .nil)
        have dr7 : Dp K (upd H7 T1 (.tup [u])) vr (.tuple (p.rs.map rowD)) := dpSame s8 _ _ (dpTS t57 (plRows _) _ hvr)
        refine catD dr7 d1 (by rw [List.length_map]; show p.rs.length + 1 ≤ 1000; omega) fun y H9 s9 dz => ⟨(by show 4 ≤ sizeLine; decide), fun U hU => ?_⟩
        have sU := sameUpd (o := .tup [.str p.c, va, y, .int 0]) hU
        have dz2 : Dp K H9 y (rowsD (p.rs ++ [r])) := by
          unfold rowsD
          rw [List.map_append]
          exact dz
        have kA : Kp a H5 (upd H9 U (.tup [.str p.c, va, y, .int 0])) := k57.trans (Kp.same ((s8.trans s9).trans sU))
        have tA := tsKp F5 kA
        have FA := F7.same ((s8.trans s9).trans sU)
        refine q1 (.ref U) ⟨p.c, p.as, p.rs ++ [r], 0⟩ _ ⟨rfl, rfl, canWSnoc hw ⟨_, _, _, nx⟩, fun r' hr' => ?_, 0, rfl, ?_⟩ (by show (p.rs ++ [r]).length ≤ p.rs.length + 1; rw [List.length_append]; exact Nat.le_refl _) (by show (0 : Int) ≤ p.n + 1; omega) (pcMk (p := ⟨p.c, p.as, p.rs ++ [r], 0⟩) (.inl (.inl upd_same)) (dpTS tA (plArgs _) _ hap) (dpSame sU _ _ dz2)) ((Kp.same s5).trans kA) FA
        · rcases List.mem_append.mp hr' with z | z
          · exact hrok r' z
          · rw [List.mem_singleton.mp z]; exact rok
        · show CanD (walk t (p.rs ++ [r])) 0
          cases walk t (p.rs ++ [r]) <;> trivial
      · subst et
        have w0 : ∀ rs, walk .stop rs = .stop := fun rs => by induction rs with | nil => rfl | cons r rs ih => exact ih
        rw [w0] at nx
        cases nx
end
end TRE

set_option Elab.async false
set_option linter.all false
set_option maxRecDepth 100000
set_option maxHeartbeats 8000000
/-! the law's walks -/
namespace TRE
open PySem PySem.Spec PyProof.Rows L2 ND KS KS.La PLC
theorem odDownT {n : Nat} : ∀ {c : Nat} {t : Tr}, Od n (trD t) → Od n (trD (down t c))
  | 0, t, h => by cases t <;> exact h
  | c + 1, .wr o ps m, h => odDownT (c := c) (odWr h)
  | c + 1, .stop, h => h
  | c + 1, .rd _ _ _, h => h
end TRE
namespace REC
open PySem PySem.Spec PyProof.Rows L2 ND KS KS.La PLC
open TRE (Tr trD kyD stepD TrOk RowsOk goodT RK RecOk callsL TreeOf TrFit AtRun spNext spLStep)
abbrev lWalked : Stmt := top 46
theorem odFlat {m : Nat} {z : Str} (h : Od m (.str z)) : Od 0 (.str z) := by
  cases h with
  | str _ h h2 => exact .str _ h h2
theorem odKyD {m : Nat} {k : Str × Str} (h : Od m (kyD k)) : Od 1 (kyD k) := by
  cases h with
  | tup h1 h2 =>
    refine .tup h1 fun d hd => ?_
    have h3 := h2 d hd
    have : d = .str k.1 ∨ d = .str k.2 := by simpa using hd
    rcases this with rfl | rfl <;> exact odFlat h3
theorem stepStp {n : Nat} {rows : List (List (Option Str))} {t : Tr} (h : Od (n + 1) (trD t)) (ok : TrOk t) (hr : RowsOk rows) : ∃ s, stepD rows t = stpD s ∧ StpOk s := by
  have od := TRE.odStep h ok hr
  cases t with
  | stop => exact ⟨.stop, rfl, odStpTx trivial⟩
  | rd ks cs l =>
    refine ⟨.rd ks, rfl, ?_⟩
    have od2 : Od (n + 1) (.tuple [.str "read", .tuple (ks.map kyD)]) := od
    cases od2 with
    | tup h1 h2 =>
      refine .tup h1 fun d hd => ?_
      have h3 := h2 d hd
      have : d = .str "read" ∨ d = .tuple (ks.map kyD) := by simpa using hd
      rcases this with rfl | rfl
      · exact (odFlat h3).up (by omega)
      · cases h3 with
        | tup g1 g2 =>
          refine .tup g1 fun e he => ?_
          obtain ⟨k, hk, rfl⟩ := List.mem_map.mp he
          exact odKyD (g2 _ he)
  | wr o ps m =>
    have od2 : Od (n + 1) (if (Txt.join "" (ps.map (TRE.pieceS rows))).length ≤ 400 then .tuple [.str "write", .str o, .str (Txt.join "" (ps.map (TRE.pieceS rows)))] else .tuple [.str "stop"]) := od
    by_cases hl : (Txt.join "" (ps.map (TRE.pieceS rows))).length ≤ 400
    · rw [if_pos hl] at od2
      refine ⟨.wr o (Txt.join "" (ps.map (TRE.pieceS rows))), if_pos hl, ?_⟩
      cases od2 with
      | tup h1 h2 =>
        refine .tup h1 fun d hd => ?_
        have h3 := h2 d hd
        have : d = .str "write" ∨ d = .str o ∨ d = .str (Txt.join "" (ps.map (TRE.pieceS rows))) := by simpa using hd
        rcases this with rfl | rfl | rfl <;> exact (odFlat h3).up (by omega)
    · exact ⟨.stop, if_neg hl, odStpTx trivial⟩
theorem rowsOk {p : Pc} (h : Ok p) : RowsOk (p.as.map some :: p.rs) := fun r hr z hz => by
  rcases List.mem_cons.mp hr with rfl | hr
  · obtain ⟨a, ha, e⟩ := List.mem_map.mp hz
    cases e
    exact h.as _ ha
  · exact (h.rs r hr).2 z hz
theorem fitGood {t : Tr} (h : goodT t) : TrFit t := by
  obtain ⟨⟨zs, _, z⟩, od⟩ := h
  exact ⟨TRE.zOk z, od.up (by omega), fun rs ks cs l e => TRE.zFew z rs e⟩
theorem fitStop : TrFit .stop := ⟨by rw [TrOk]; trivial, .tup (by show 1 ≤ 100; omega) fun d hd => by rw [List.mem_singleton.mp hd]; exact .str _ (by unfold SOk; decide +kernel) (by decide +kernel), fun rs ks cs l e => by
  have w0 : ∀ rs, TRE.walk .stop rs = .stop := fun rs => by induction rs with | nil => rfl | cons r rs ih => exact ih
  rw [w0] at e
  cases e⟩
theorem aPut_of {κ α : Type} [DecidableEq κ] {T : List (κ × α)} {k : κ} {x : α} {q : κ × α} (h : q ∈ aPut T k x) : q ∈ T ∨ q = (k, x) := by
  unfold aPut at h
  split at h
  · obtain ⟨q', hq, rfl⟩ := List.mem_map.mp h
    by_cases c : q'.1 = k
    · rw [if_pos c, c]; exact .inr rfl
    · rw [if_neg c]; exact .inl hq
  · rcases List.mem_append.mp h with h | h
    · exact .inl h
    · exact .inr (List.mem_singleton.mp h)
theorem rkKeys {K : PySem.W.Frag} {H : Hp} {kvs : List (Key × V)} {L : List (Str × Tr)} (h : RK K H kvs L) : (kvs.map fun kv => kV kv.1) = (L.map (·.1)).map V.str := by
  induction h with
  | nil => rfl
  | cons _ _ ih => rw [List.map_cons, List.map_cons, List.map_cons, ih]; rfl
theorem noneCall : ("none" : Str) ∉ callsL := by unfold callsL; decide +kernel
section
variable {P : Program} {w : World} {K : PySem.W.Frag} {mg : Str → Option Value} {base : Heap} {f : Addr} {fd : FuncData}
/-- places and steps of right sizes, few answers -/
def PrB (m : Nat) (q : Pc × Stp) : Prop := PrOk q ∧ q.1.rs.length ≤ m
/-- a table of right sizes -/
structure TbFit (T : List (Pc × Stp)) (n : Nat) : Prop where
  nd : (T.map (·.1)).Nodup
  ok : ∀ q ∈ T, PrB 10 q
  len : T.length ≤ n
def spWalked (P : Program) (w : World) (K : PySem.W.Frag) : Sp := fun vs H Q _ => ∃ (f d : Addr) (kvs : List (Key × V)) (L : List (Str × Tr)) (m : Int), vs = [.ref f, .ref d, .int m] ∧ 0 ≤ m ∧ m ≤ 7 ∧ Fd H f ∧ H d = some (.dK kvs) ∧ d ≠ f ∧ RK K H kvs L ∧ RecOk L ∧ (∀ q ∈ L, q.1 ∈ callsL) ∧ L.length ≤ 12 ∧
  ∀ D T H', H D = none → TA P w K H' D T → TbFit T 63 → Kp f H H' → Fd H' f → Q (.ref D) H'
abbrev nWk : List Str := ["_law_feed", "_law_recipes", "_law_many", "_law_found", "_law_calls_here", "_law_turn", "_law_place", "_law_more", "_law_following"]
theorem scWalked : FnScope nWk ["_law_feed", "_law_recipes", "_law_many"] (defScope lWalked) := ⟨rfl, rfl, rfl, by decide +kernel, rfl, by decide +kernel, by decide +kernel⟩
theorem okWalked {k : Nat} (B : Bn mg) (F : FnP K "_law_walked" lWalked f fd) (Dr : Has P w K mg base (k + 1) "_law_draw" ["_law_feed", "_law_many"] spDraw) (Pk : Has P w K mg base (k + 2) "_law_pick" ["_law_feed", "_law_items"] (spPick K)) (St : Has P w K mg base (k + 5) "_law_step_at" ["_law_recipes", "_law_place"] (spLStep K))
    (Nx : Has P w K mg base (k + 6) "_law_next_place" ["_law_feed", "_law_recipes", "_law_place"] (spNext K)) : FnOk P w K mg base CX0 (k + 7) f fd ["_law_feed", "_law_recipes", "_law_many"] (spWalked P w K) := by
  obtain ⟨fD, dD, gD, kD, bD, GD⟩ := Dr.ex
  obtain ⟨fP, dP, gP, kP, bP, GP⟩ := Pk.ex
  obtain ⟨fS, dS, gS, kS, bS, GS⟩ := St.ex
  obtain ⟨fN, dN, gN, kN, bN, GN⟩ := Nx.ex
  refine F.ok scWalked (fun vs H Q E h => ?_) (fun cdv A outer s H vs Q E hr h => ?_)
  · obtain ⟨a, d, kvs, L, m, rfl, _⟩ := h
    rfl
  · obtain ⟨a, d, kvs, L, m, rfl, m0, m7, hF, ed, nd, rk, rok, cal, lL, q⟩ := h
    have hu9 : (A.deeper (envOfC "_law_walked" (defScope lWalked) s.heap.objs.size f cdv)).units + 9 < cLine := Nat.lt_of_le_of_lt (Nat.add_le_add_left (by decide) _) hr.units
    have r1 : Room (k + 1) _ := hr.mono (by omega)
    have r2 : Room (k + 2) _ := hr.mono (by omega)
    have r5 : Room (k + 5) _ := hr.mono (by omega)
    refine ⟨_, PSs.nox (C8.pss_cut (ps_par (i := 3) (j := 4) rfl scWalked.nd rfl rfl (by decide) rfl rfl (pa_cons (pe_dnewN) (pa_cons (pe_op op_cat (pe_callTy (T := "list") (call_listD rfl) (by rfl) B.list (by decide +kernel) (pa_cons (pv 1) pa_nil)) (pe_lst (pa_cons (pe_str) pa_nil))) pa_nil)) (by rfl)) (C8.pss_cut (ps_for PassesOwn.never rfl (pi_range1 (by rfl) B.range (pa_cons (pv 2) pa_nil)) (pg_name (i := 5) scWalked.nd rfl (.inl rfl))
        (C8.pss_cut (ps_set (i := 6) scWalked.nd rfl (.inl rfl) (pe_tup (pa_cons (pe_call GP r2 (by rfl) gP kP bP .nil pass0 (pa_cons (pv 0) (pa_cons (pv 4) pa_nil))) (pa_cons (pe_ix ix_list (pe_lst (pa_cons (pe_tup pa_nil) (pa_cons (pe_tup (pa_cons (pe_str) pa_nil)) (pa_cons (pe_tup (pa_cons (pe_str) (pa_cons (pe_str) pa_nil))) pa_nil)))) (pe_call GD r1 (by rfl) gD kD bD .nil pass0 (pa_cons (pv 0) (pa_cons (pe_int) pa_nil))) (fun _ _ => rfl)) (pa_cons (pe_tup pa_nil) (pa_cons (pe_int) pa_nil)))))) (pss_one (ps_for PassesOwn.never rfl (pi_range1 (by rfl) B.range (pa_cons (pe_op op_add pe_int (pe_call GD r1 (by rfl) gD kD bD .nil pass0 (pa_cons (pv 0) (pa_cons (pe_int) pa_nil)))) pa_nil)) (pg_name (i := 7) scWalked.nd rfl (.inl rfl))
            (C8.pss_cut (ps_asg (pe_call GS r5 (by rfl) gS kS bS .nil pass0 (pa_cons (pv 1) (pa_cons (pv 6) pa_nil))) (pg_sub (pv 3) (pv 6) (set_nd hu9))) (C8.pss_cut (ps_set (i := 8) scWalked.nd rfl (.inl rfl) (pe_call GN hr (by rfl) gN kN bN .nil pass0 (pa_cons (pv 0) (pa_cons (pv 1) (pa_cons (pv 6) pa_nil))))) (C8.pss_cut (ps_if (pt_cmp (pc_isN (pv 8))) (pss_one (ps_break)) pss_nil) (pss_one (ps_set (i := 6) scWalked.nd rfl (.inl rfl) (pv 8)))))))))) (pss_one (ps_ret (pv 3))))), ?_⟩
    refine ⟨fun σ' H' => ∃ D C, σ' = [some (.ref a), some (.ref d), some (.int m), some (.ref D), some (.ref C), none, none, none, none] ∧ Same H H' ∧ H D = none ∧ H C = none ∧ D ≠ C ∧ TA P w K H' D [] ∧ H' C = some (.lst ((L.map (fun q => q.1) ++ [("none" : Str)]).map V.str)), ?_, ?_⟩
    · refine fun D hD => ?_
      have s1 := sameUpd (o := ndO P w D []) hD
      refine ⟨.ref d, rfl, d, kvs, rfl, .inl (s1 _ _ ed), fun L1 h1 => ⟨(by show 1 ≤ sizeLine; decide), fun L2 h2 => ?_⟩⟩
      have h1' : upd H D (ndO P w D []) L1 = none := h1
      have s2 := sameUpd (o := .lst (kvs.map fun kv => kV kv.1)) h1'
      have s3 := sameUpd (o := .lst [.str "none"]) h2
      refine ⟨L1, L2, _, _, rfl, rfl, s3 _ _ upd_same, upd_same, ?_, fun C hC => ?_⟩
      · rw [List.length_map, rk.len, sizeLine_eq]
        show L.length + 1 ≤ _
        omega
      have s4 := sameUpd (o := .lst ((kvs.map fun kv => kV kv.1) ++ [.str "none"])) hC
      have sA : Same H _ := (s1.trans s2).trans s3
      refine ⟨_, _, rfl, D, C, rfl, sA.trans s4, hD, ?_, fun z => ?_, DA.same (H := upd H D (ndO P w D [])) (DA.new (P := P) (w := w) (K := K) (kd := pcD) (vd := stpD)) ((s2.trans s3).trans s4) pvStp, ?_⟩
      · cases e : H C with
        | none => rfl
        | some o => have := sA _ _ e; rw [hC] at this; cases this
      · subst z
        exact absurd (((s2.trans s3) D _ (upd_same (H := H) (a := D) (o := ndO P w D []))).symm.trans hC) (by simp)
      · rw [upd_same, rkKeys rk, List.map_append]
        rfl
    rintro _ H1 ⟨D, C, rfl, s1, nD, nC, nDC, hT1, eC1⟩
    have nDa := TRE.fdNe hF nD
    have nCa := TRE.fdNe hF nC
    have none5 : ("none" : Str) ∉ L.map (·.1) := fun h => by
      obtain ⟨q0, hq, e⟩ := List.mem_map.mp h
      exact noneCall (e ▸ cal q0 hq)
    obtain ⟨nms, enm⟩ : ∃ nms, nms = L.map (fun q => q.1) ++ [("none" : Str)] := ⟨_, rfl⟩
    rw [← enm] at eC1
    have lnm : nms.length = L.length + 1 := by rw [enm, List.length_append, List.length_map]; rfl
    have tr : ∀ c ∈ nms, TOk c ∧ ∃ t, TrFit t ∧ ∀ H', Kp a H H' → TreeOf K H' kvs c t := fun c hc => by
      rw [enm] at hc
      rcases inSnoc hc with h | h
      · obtain ⟨v, t, e, dv, m⟩ := rk.some h
        have g := rok.2 _ m
        exact ⟨g.1, t, fitGood g.2, fun H' k => .inl ⟨v, e, TRE.trTS (TRE.tsKp hF k) _ _ dv⟩⟩
      · subst h
        exact ⟨by decide +kernel, .stop, fitStop, fun H' _ => .inr ⟨rk.none none5, rfl⟩⟩
    clear enm none5
    have keepT : ∀ {Ha Hb : Hp} {T : List (Pc × Stp)}, Fd Ha a → Kp a Ha Hb → TA P w K Ha D T → TA P w K Hb D T := fun {Ha Hb T} fa ka h => by
      refine h.ts (TRE.tsKp fa ka) pvStp ?_
      obtain ⟨kv, n, _⟩ := h
      rw [n.o, ka _ _ nDa n.o]
    refine ⟨fun σ' H' => ∃ x5 x6 x7 x8 T, σ' = [some (.ref a), some (.ref d), some (.int m), some (.ref D), some (.ref C), x5, x6, x7, x8] ∧ Kp a H H' ∧ Fd H' a ∧ TA P w K H' D T ∧ TbFit T 63, ?_, fun _ H' ⟨x5, x6, x7, x8, T, e, k, F', hT, fit⟩ => by subst e; exact ⟨.ref D, rfl, q D T H' nD hT fit k F'⟩⟩
    refine ⟨.int m, rfl, m, rfl, by omega, by omega, ?_⟩
    refine forJ (n := m.toNat) (fun i σ' H' => ∃ x5 x6 x7 x8 T, σ' = [some (.ref a), some (.ref d), some (.int m), some (.ref D), some (.ref C), x5, x6, x7, x8] ∧ Kp a H H' ∧ Fd H' a ∧ TA P w K H' D T ∧ TbFit T (9 * i) ∧ H' C = some (.lst (nms.map V.str)))
      ⟨none, none, none, none, [], rfl, Kp.same s1, hF.same s1, hT1, ⟨List.nodup_nil, fun q h => (by cases h), Nat.le_refl _⟩, eC1⟩ (fun i σ' H' lt _ => lt) (fun σ' H' _ => Nat.le_refl _) (fun i σ' H2 x H3 lt h y => ?_) (fun σ' H' h => ?_)
    · obtain ⟨rfl, rfl⟩ := y
      obtain ⟨x5, x6, x7, x8, T, rfl, k3, F3, hT3, fit3, eC3⟩ := h
      refine ⟨fun σ' H' => ∃ pa p t, σ' = [some (.ref a), some (.ref d), some (.int m), some (.ref D), some (.ref C), some (.int (0 + i)), some (.ref pa), x7, x8] ∧ Kp a H H' ∧ Fd H' a ∧ TA P w K H' D T ∧ H' C = some (.lst (nms.map V.str)) ∧ Dp K H' (.ref pa) (pcD p) ∧ Ok p ∧ TrFit t ∧ AtRun t p.c p.as p ∧ p.rs = [] ∧ p.n = 0 ∧ ∀ H', Kp a H H' → TreeOf K H' kvs p.c t, ?_, ?_⟩
      · refine ⟨.ref a, rfl, .ref C, rfl, a, C, nms.map V.str, rfl, F3, .inl (.inl eC3), nCa, by rw [List.length_map]; omega, by rw [List.length_map]; omega, fun j v H4 ej k4 F4 => ?_⟩
        rw [List.getElem?_map] at ej
        obtain ⟨c, ec, rfl⟩ := Option.map_eq_some_iff.mp ej
        obtain ⟨tc, t, ft, tof⟩ := tr c (List.mem_of_getElem? ec)
        refine ⟨Nat.zero_le _, fun a0 h0 => ⟨(by show 1 ≤ sizeLine; decide), fun a1 h1 => ⟨(by show 2 ≤ sizeLine; decide), fun a2 h2 => ⟨(by show 3 ≤ sizeLine; decide), fun Lx hLx => ?_⟩⟩⟩⟩
        have s0 := sameUpd (o := .tup []) h0
        have s1' := sameUpd (o := .tup [.str "1"]) h1
        have s2 := sameUpd (o := .tup [.str "0", .str ""]) h2
        have s3 := sameUpd (o := .lst [.ref a0, .ref a1, .ref a2]) hLx
        have d0 : Dp K _ (.ref a0) (argsD []) := dpSame ((s1'.trans s2).trans s3) _ _ (.tup (.inl (.inl upd_same)) .nil)
        have d1 : Dp K _ (.ref a1) (argsD ["1"]) := dpSame (s2.trans s3) _ _ (.tup (.inl (.inl upd_same)) (.cons (.str _) .nil))
        have d2 : Dp K _ (.ref a2) (argsD ["0", ""]) := dpSame s3 _ _ (.tup (.inl (.inl upd_same)) (.cons (.str _) (.cons (.str _) .nil)))
        have sA := ((s0.trans s1').trans s2).trans s3
        have eLx : upd (upd (upd (upd H4 a0 (.tup [])) a1 (.tup [.str "1"])) a2 (.tup [.str "0", .str ""])) Lx (.lst [.ref a0, .ref a1, .ref a2]) Lx = some (.lst [.ref a0, .ref a1, .ref a2]) := upd_same
        have nLx : Lx ≠ a := TRE.fdNe (F4.same ((s0.trans s1').trans s2)) hLx
        generalize upd (upd (upd (upd H4 a0 (.tup [])) a1 (.tup [.str "1"])) a2 (.tup [.str "0", .str ""])) Lx (.lst [.ref a0, .ref a1, .ref a2]) = H5 at d0 d1 d2 sA eLx ⊢
        have F5 := F4.same sA
        refine ⟨.ref a, rfl, a, 3, rfl, F5, by omega, by omega, fun r H6 r0 r3 k6 F6 => ?_⟩
        have t56 := TRE.tsKp F5 k6
        have arg : ∃ aa as, atI [V.ref a0, .ref a1, .ref a2] r = some (.ref aa) ∧ Dp K H6 (.ref aa) (argsD as) ∧ (∀ z ∈ as, TOk z) ∧ as.length ≤ 4 := by
          have h3 : r = 0 ∨ r = 1 ∨ r = 2 := by omega
          rcases h3 with rfl | rfl | rfl
          · exact ⟨a0, [], atI_nat (j := 0) rfl, dpTS t56 (plArgs _) _ d0, fun z h => (by cases h), by decide⟩
          · exact ⟨a1, ["1"], atI_nat (j := 1) rfl, dpTS t56 (plArgs _) _ d1, by decide +kernel, by decide⟩
          · exact ⟨a2, ["0", ""], atI_nat (j := 2) rfl, dpTS t56 (plArgs _) _ d2, by decide +kernel, by decide⟩
        obtain ⟨aa, as, ea, da, oa, la⟩ := arg
        refine ⟨Lx, _, r, .ref aa, rfl, rfl, .inl (.inl (k6 _ _ nLx eLx)), ea, Nat.zero_le _, fun e0 he => ⟨(by show 4 ≤ sizeLine; decide), fun pa hpa => ?_⟩⟩
        have s7 := sameUpd (o := .tup []) he
        have s8 := sameUpd (o := .tup [.str c, .ref aa, .ref e0, .int 0]) hpa
        have kA : Kp a H3 _ := ((k4.trans (Kp.same sA)).trans k6).trans (Kp.same (s7.trans s8))
        refine ⟨pa, ⟨c, as, [], 0⟩, t, rfl, k3.trans kA, F6.same (s7.trans s8), keepT F3 kA hT3, kA _ _ nCa eC3, pcMk (p := ⟨c, as, [], 0⟩) (.inl (.inl upd_same)) (dpSame (s7.trans s8) _ _ da) (dpSame s8 _ _ (.tup (.inl (.inl upd_same)) .nil)), ⟨tc, oa, la, fun r h => (by cases h), Nat.zero_le _⟩, ft, ⟨rfl, rfl, trivial, fun r h => (by cases h), 0, rfl, ?_⟩, rfl, rfl, tof⟩
        cases t <;> trivial
      rintro _ H4 ⟨pa, p, t, rfl, k4, F4, hT4, eC4, dp4, okp, ft, hat, ers, en, tof⟩
      refine ⟨.ref a, rfl, a, 9, rfl, F4, by omega, by omega, fun r H5 r0 r9 k5 F5 => ⟨1, r, rfl, rfl, 1 + r, rfl, by omega, by omega, ?_⟩⟩
      have k35 := k4.trans k5
      refine forJ (n := (1 + r).toNat) (fun j σ' H' => ∃ x7 x8 pa p t T', σ' = [some (.ref a), some (.ref d), some (.int m), some (.ref D), some (.ref C), some (.int (0 + i)), some (.ref pa), x7, x8] ∧ Kp a H H' ∧ Fd H' a ∧ TA P w K H' D T' ∧ TbFit T' (9 * i + j) ∧ H' C = some (.lst (nms.map V.str)) ∧ Dp K H' (.ref pa) (pcD p) ∧ Ok p ∧ TrFit t ∧ AtRun t p.c p.as p ∧ p.rs.length ≤ j ∧ p.n ≤ j ∧ ∀ H', Kp a H H' → TreeOf K H' kvs p.c t)
        ⟨x7, x8, pa, p, t, T, rfl, k35, F5, keepT F4 k5 hT4, ⟨fit3.nd, fit3.ok, fit3.len⟩, k5 _ _ nCa eC4, dpTS (TRE.tsKp F4 k5) (plPc _) _ dp4, okp, ft, hat, by rw [ers]; exact Nat.le_refl _, by rw [en]; exact Int.le_refl _, tof⟩
        (fun i σ' H' lt _ => lt) (fun σ' H' _ => Nat.le_refl _) (fun j σ' H6 x H7 ltj h y => ?_) (fun σ' H' h => ?_)
      · obtain ⟨rfl, rfl⟩ := y
        obtain ⟨x7, x8, pa, p, t, T', rfl, k7, F7, hT7, fit7, eC7, dp7, okp, ft, hat, lrs, ln, tof⟩ := h
        have hat0 := hat
        obtain ⟨_, _, hw, hrok, n', en, hcd⟩ := hat
        have lj : j ≤ 8 := by omega
        obtain ⟨st, est, okst⟩ := stepStp (n := 57) (rows := p.as.map some :: p.rs) (t := TRE.down (TRE.walk t p.rs) n') (TRE.odDownT (TRE.odWalk ft.od)) (TRE.okDown (TRE.okWalk ft.ok)) (rowsOk okp)
        have out : ∀ T', TbFit T' (9 * i + (j + 1)) → TbFit T' (9 * (i + 1)) := fun T' h => ⟨h.nd, h.ok, Nat.le_trans h.len (by omega)⟩
        refine ⟨fun σ' H' => σ' = [some (.ref a), some (.ref d), some (.int m), some (.ref D), some (.ref C), some (.int (0 + i)), some (.ref pa), some (.int (0 + j)), x8] ∧ Kp a H H' ∧ Fd H' a ∧ TA P w K H' D (aPut T' p st) ∧ TbFit (aPut T' p st) (9 * i + (j + 1)) ∧ H' C = some (.lst (nms.map V.str)) ∧ Dp K H' (.ref pa) (pcD p), ?_, ?_⟩
        · refine ⟨.ref d, rfl, .ref pa, rfl, d, kvs, .ref pa, p, t, rfl, k7 _ _ nd ed, dp7, okp, tof _ k7, ft.ok, ft.od, hw, n', en, hcd, by omega, fun r8 H8 s8 d8 => ?_⟩
          rw [est] at d8
          have hT8 := hT7.same s8 pvStp
          obtain ⟨kv8, n8, pr8⟩ := id hT8
          have lk := ND.pairedLen pr8
          have dp8 := dpSame s8 _ _ dp7
          have tD := TS.put (o := ndO P w D ((storeD kv8 (pcD p) pa r8).map kn)) n8.o
          have l63 := fit7.len
          refine ⟨.ref D, rfl, .ref pa, rfl, D, pa, _, kv8, rfl, rfl, n8, dp8, kdPc.pl _, by rw [lk, sizeLine_eq]; omega, rfl, fun b o nb hb => ?_, ?_, DA.put kdPc pvStp n8 pr8 dp8 d8, ⟨aPut_nd fit7.nd, fun q hq => ?_, Nat.le_trans (aPut_len _ _ _) (Nat.add_le_add_right fit7.len 1)⟩, ?_, dpTS tD (plPc _) _ dp8⟩
          · rw [upd_ne (ne_of_none hb nD)]
            exact s8 _ _ (k7 _ _ nb hb)
          · obtain ⟨u1, u2, e, g⟩ := F7.same s8
            exact ⟨u1, u2, by rw [upd_ne (Ne.symm nDa)]; exact e, g⟩
          · rcases aPut_of hq with h | h
            · exact fit7.ok q h
            · rw [h]
              exact ⟨⟨okp, by show 0 ≤ p.n; omega, okst⟩, by show p.rs.length ≤ 10; omega⟩
          · rw [upd_ne nDC.symm]
            exact s8 _ _ eC7
        rintro _ H8 ⟨rfl, k8, F8, hT8, fit8, eC8, dp8⟩
        refine ⟨fun σ' H' => ∃ r8, σ' = [some (.ref a), some (.ref d), some (.int m), some (.ref D), some (.ref C), some (.int (0 + i)), some (.ref pa), some (.int (0 + j)), some r8] ∧ Kp a H H' ∧ Fd H' a ∧ TA P w K H' D (aPut T' p st) ∧ H' C = some (.lst (nms.map V.str)) ∧ (r8 = .non ∨ ∃ pb p', r8 = .ref pb ∧ Dp K H' (.ref pb) (pcD p') ∧ AtRun t p.c p.as p' ∧ p'.rs.length ≤ p.rs.length + 1 ∧ p'.n ≤ p.n + 1), ?_, ?_⟩
        · refine ⟨.ref a, rfl, .ref d, rfl, .ref pa, rfl, a, d, kvs, .ref pa, p, t, rfl, F8, k8 _ _ nd ed, nd, dp8, okp, tof _ k8, ft, hat0, by omega, by omega, fun H9 k9 F9 => ?_, fun r9 p' H9 at9 l9 n9 d9 k9 F9 => ?_⟩
          · exact ⟨.non, rfl, k8.trans k9, F9, keepT F8 k9 hT8, k9 _ _ nCa eC8, .inl rfl⟩
          · obtain ⟨pb, _, _, rfl, _⟩ := pcAt d9
            exact ⟨.ref pb, rfl, k8.trans k9, F9, keepT F8 k9 hT8, k9 _ _ nCa eC8, .inr ⟨pb, p', rfl, d9, at9, l9, n9⟩⟩
        rintro _ H9 ⟨r8, rfl, k9, F9, hT9, eC9, hr8⟩
        refine ⟨fun σ' H' => σ' = [some (.ref a), some (.ref d), some (.int m), some (.ref D), some (.ref C), some (.int (0 + i)), some (.ref pa), some (.int (0 + j)), some r8] ∧ H' = H9 ∧ ∃ pb p', r8 = .ref pb ∧ Dp K H' (.ref pb) (pcD p') ∧ AtRun t p.c p.as p' ∧ p'.rs.length ≤ p.rs.length + 1 ∧ p'.n ≤ p.n + 1, ?_, ?_⟩
        · rcases hr8 with rfl | ⟨pb, p', rfl, h⟩
          · exact ⟨.non, rfl, true, rfl, iteT ⟨_, _, _, _, _, rfl, k9, F9, hT9, out _ fit8, eC9⟩⟩
          · exact ⟨.ref pb, rfl, false, rfl, iteF ⟨rfl, rfl, pb, p', rfl, h⟩⟩
        rintro _ H9 ⟨rfl, rfl, pb, p', rfl, d9, at9, l9, n9⟩
        have okp' : Ok p' := TRE.atOk at9 okp.c okp.as okp.al (by omega)
        obtain ⟨e1, e2, a3⟩ := id at9
        refine ⟨.ref pb, rfl, _, _, pb, p', t, aPut T' p st, rfl, k9, F9, hT9, fit8, eC9, d9, okp', ft, ?_, by omega, by show p'.n ≤ ((j + 1 : Nat) : Int); omega, ?_⟩
        · rw [e1, e2]
          exact at9
        · rw [e1]
          exact tof
      · obtain ⟨x7, x8, pa, p, t, T', rfl, k7, F7, hT7, fit7, eC7, _⟩ := h
        exact ⟨_, _, _, _, T', rfl, k7, F7, hT7, ⟨fit7.nd, fit7.ok, Nat.le_trans fit7.len (by omega)⟩, eC7⟩
    · obtain ⟨x5, x6, x7, x8, T, rfl, k3, F3, hT3, fit3, _⟩ := h
      exact ⟨_, _, _, _, T, rfl, k3, F3, hT3, ⟨fit3.nd, fit3.ok, Nat.le_trans fit3.len (by omega)⟩⟩
end
end REC

set_option Elab.async false
set_option linter.all false
set_option maxRecDepth 100000
set_option maxHeartbeats 8000000
/-! steps that are otherwise -/
namespace REC
open PySem PySem.Spec PyProof.Rows L2 ND KS KS.La PLC
open TRE (kyD catD)
abbrev lOddS : Stmt := top 51
def okTx : TOk "o" ∧ TOk "out" ∧ TOk "a" ∧ TOk "b" := by decide +kernel
theorem sokTx : (SOk "1" ∧ ("1" : Str).length ≤ 2000) ∧ (SOk "" ∧ ("" : Str).length ≤ 2000) ∧ (SOk "odd" ∧ ("odd" : Str).length ≤ 2000) := ⟨⟨by unfold SOk; decide +kernel, by decide +kernel⟩, ⟨by unfold SOk; decide +kernel, by decide +kernel⟩, ⟨by unfold SOk; decide +kernel, by decide +kernel⟩⟩
def steps6 : List Stp := [.stop, .wr "o" "1", .wr "out" "", .rd [("a", "o")]]
theorem steps6Ok : ∀ s ∈ steps6, StpOk s := fun s hs => by
  have : s = .stop ∨ s = .wr "o" "1" ∨ s = .wr "out" "" ∨ s = .rd [("a", "o")] := by simpa [steps6] using hs
  rcases this with rfl | rfl | rfl | rfl
  · exact odStpTx trivial
  · exact odStpTx ⟨okTx.1, sokTx.1⟩
  · exact odStpTx ⟨okTx.2.1, sokTx.2.1⟩
  · exact odStpTx ⟨by decide, fun k hk => by rw [List.mem_singleton.mp hk]; exact ⟨okTx.2.2.1, okTx.1⟩⟩
def two6 : List (Str × Str) := [("a", "o"), ("b", "o")]
theorem two6Ok : StpOk (.rd two6) := odStpTx ⟨by decide, fun k hk => by
  have : k = (("a" : Str), ("o" : Str)) ∨ k = (("b" : Str), ("o" : Str)) := by simpa [two6] using hk
  rcases this with rfl | rfl
  · exact ⟨okTx.2.2.1, okTx.1⟩
  · exact ⟨okTx.2.2.2, okTx.1⟩⟩
def oddOf : Stp → Stp
  | .wr o _ => .wr o "odd"
  | s => s
theorem oddOk {s : Stp} (h : StpOk s) : StpOk (oddOf s) := by
  cases s with
  | stop => exact h
  | rd ks => exact h
  | wr o z =>
    cases h with
    | tup h1 h2 =>
      refine .tup h1 fun d hd => ?_
      have : d = .str "write" ∨ d = .str o ∨ d = .str "odd" := by simpa using hd
      rcases this with rfl | rfl | rfl
      · exact h2 _ (by simp)
      · exact h2 _ (by simp)
      · exact .str _ sokTx.2.2.1 sokTx.2.2.2
section
variable {P : Program} {w : World} {K : PySem.W.Frag} {mg : Str → Option Value} {base : Heap} {f : Addr} {fd : FuncData}
theorem rdMk {H : Hp} {a b : Addr} {ks : List (Str × Str)} {xs : List V} (ha : SqT K H a [.str "read", .ref b]) (hb : SqT K H b xs) (hx : DpAll K H xs (ks.map kyD)) : Dp K H (.ref a) (stpD (.rd ks)) := .tup ha (.cons (.str _) (.cons (.tup hb hx) .nil))
theorem kyMk {H : Hp} {a : Addr} {x y : Str} (h : SqT K H a [.str x, .str y]) : Dp K H (.ref a) (kyD (x, y)) := .tup h (.cons (.str _) (.cons (.str _) .nil))
theorem dpAppMap {H : Hp} {xs ys : List V} {as bs : List Stp} (h1 : DpAll K H xs (as.map stpD)) (h2 : DpAll K H ys (bs.map stpD)) : DpAll K H (xs ++ ys) ((as ++ bs).map stpD) := by
  rw [List.map_append]
  exact TRE.dpAppend h2 h1
def spOddS (K : PySem.W.Frag) : Sp := fun vs H Q _ => ∃ f v s, vs = [.ref f, v] ∧ Fd H f ∧ Dp K H v (stpD s) ∧ StpOk s ∧ ∀ r s' H', StpOk s' → Dp K H' r (stpD s') → Kp f H H' → Fd H' f → Q r H'
abbrev nOddS : List Str := ["_law_feed", "_law_found", "_law_steps", "_law_more"]
theorem scOddS : FnScope nOddS ["_law_feed", "_law_found"] (defScope lOddS) := ⟨rfl, rfl, rfl, by decide +kernel, rfl, by decide +kernel, by decide +kernel⟩
theorem okOddS {k : Nat} (B : Bn mg) (F : FnP K "_law_odd_step" lOddS f fd) (Pk : Has P w K mg base k "_law_pick" ["_law_feed", "_law_items"] (spPick K)) : FnOk P w K mg base CX0 (k + 1) f fd ["_law_feed", "_law_found"] (spOddS K) := by
  obtain ⟨fP, dP, gP, kP, bP, GP⟩ := Pk.ex
  refine F.ok scOddS (fun vs H Q E h => ?_) (fun cdv A outer s H vs Q E hr h => ?_)
  · obtain ⟨a, v, st, rfl, _⟩ := h
    rfl
  · obtain ⟨a, v, st, rfl, hF, dv, ok, q⟩ := h
    refine ⟨_, PSs.nox (C8.pss_cut (ps_set (i := 2) scOddS.nd rfl (.inl rfl) (pe_lst (pa_cons (pe_tup (pa_cons (pe_str) pa_nil)) (pa_cons (pe_tup (pa_cons (pe_str) (pa_cons (pe_str) (pa_cons (pe_str) pa_nil)))) (pa_cons (pe_tup (pa_cons (pe_str) (pa_cons (pe_str) (pa_cons (pe_str) pa_nil)))) (pa_cons (pe_tup (pa_cons (pe_str) (pa_cons (pe_tup (pa_cons (pe_tup (pa_cons (pe_str) (pa_cons (pe_str) pa_nil))) pa_nil)) pa_nil))) (pa_cons (pv 1) pa_nil))))))) (C8.pss_cut (ps_set (i := 3) scOddS.nd rfl (.inl rfl) (pe_ifExp (pt_cmpR op_eq (pe_callB call_len_seq (by rfl) B.len PySem.boot_len (pa_cons (pv 1) pa_nil)) pe_int (nomark _)) (pe_op op_catA (pe_slice sl_tupA (pv 1) po_none (po_some pe_int)) (pe_tup (pa_cons (pe_str) pa_nil))) (pv 1))) (pss_one (ps_ret (pe_call GP hr (by rfl) gP kP bP .nil pass0 (pa_cons (pv 0) (pa_cons (pe_op op_cat (pv 2) (pe_lst (pa_cons (pe_tup (pa_cons (pe_str) (pa_cons (pe_tup (pa_cons (pe_tup (pa_cons (pe_str) (pa_cons (pe_str) pa_nil))) (pa_cons (pe_tup (pa_cons (pe_str) (pa_cons (pe_str) pa_nil))) pa_nil))) pa_nil))) (pa_cons (pv 3) pa_nil)))) pa_nil))))))), ?_⟩
    refine ⟨fun σ' H' => ∃ Ls xs, σ' = [some (.ref a), some v, some (.ref Ls), none] ∧ Same H H' ∧ H Ls = none ∧ H' Ls = some (.lst xs) ∧ DpAll K H' xs ((steps6 ++ [st]).map stpD), ?_, ?_⟩
    · refine ⟨(by show 1 ≤ sizeLine; decide), fun a0 h0 => ⟨(by show 3 ≤ sizeLine; decide), fun a1 h1 => ⟨(by show 3 ≤ sizeLine; decide), fun a2 h2 => ?_⟩⟩⟩
      refine ⟨(by show 2 ≤ sizeLine; decide), fun a3 h3 => ⟨(by show 1 ≤ sizeLine; decide), fun a4 h4 => ⟨(by show 2 ≤ sizeLine; decide), fun a5 h5 => ?_⟩⟩⟩
      refine ⟨v, rfl, (by show 5 ≤ sizeLine; decide), fun Ls hLs => ?_⟩
      have s0 := sameUpd (o := .tup [.str "stop"]) h0
      have s1 := sameUpd (o := .tup [.str "write", .str "o", .str "1"]) h1
      have s2 := sameUpd (o := .tup [.str "write", .str "out", .str ""]) h2
      have s3 := sameUpd (o := .tup [.str "a", .str "o"]) h3
      have s4 := sameUpd (o := .tup [.ref a3]) h4
      have s5 := sameUpd (o := .tup [.str "read", .ref a4]) h5
      have s6 := sameUpd (o := .lst [.ref a0, .ref a1, .ref a2, .ref a5, v]) hLs
      have e0 := (((((s1.trans s2).trans s3).trans s4).trans s5).trans s6) _ _ (upd_same (H := H) (a := a0) (o := .tup [.str "stop"]))
      have e1 := ((((s2.trans s3).trans s4).trans s5).trans s6) _ _ (upd_same (a := a1) (o := .tup [.str "write", .str "o", .str "1"]))
      have e2 := (((s3.trans s4).trans s5).trans s6) _ _ (upd_same (a := a2) (o := .tup [.str "write", .str "out", .str ""]))
      have e3 := ((s4.trans s5).trans s6) _ _ (upd_same (a := a3) (o := .tup [.str "a", .str "o"]))
      have e4 := (s5.trans s6) _ _ (upd_same (a := a4) (o := .tup [.ref a3]))
      have e5 := s6 _ _ (upd_same (a := a5) (o := .tup [.str "read", .ref a4]))
      have sA : Same H _ := (((((s0.trans s1).trans s2).trans s3).trans s4).trans s5).trans s6
      refine ⟨Ls, _, rfl, sA, ?_, upd_same, ?_⟩
      · cases e : H Ls with
        | none => rfl
        | some o =>
          have := (((((s0.trans s1).trans s2).trans s3).trans s4).trans s5) _ _ e
          exact absurd (this.symm.trans hLs) (by simp)
      · exact .cons (.tup (.inl (.inl e0)) (.cons (.str _) .nil)) (.cons (.tup (.inl (.inl e1)) (.cons (.str _) (.cons (.str _) (.cons (.str _) .nil)))) (.cons (.tup (.inl (.inl e2)) (.cons (.str _) (.cons (.str _) (.cons (.str _) .nil)))) (.cons (rdMk (ks := [("a", "o")]) (.inl (.inl e5)) (.inl (.inl e4)) (.cons (kyMk (.inl (.inl e3))) .nil)) (.cons (dpSame sA _ _ dv) .nil))))
    rintro _ H1 ⟨Ls, xs, rfl, s1, nLs, eL, dxs⟩
    have dv1 := dpSame s1 _ _ dv
    refine ⟨fun σ' H' => ∃ mv, σ' = [some (.ref a), some v, some (.ref Ls), some mv] ∧ Same H1 H' ∧ Dp K H' mv (stpD (oddOf st)), ?_, ?_⟩
    · cases st with
      | stop =>
        obtain ⟨t, rfl, ht⟩ := stopAt dv1
        refine ⟨.ref t, rfl, t, _, rfl, .inr ht, rfl, _, rfl, ?_⟩
        rw [show decide (V.int (([V.str "stop"] : List V).length : Nat) = V.int 3) = false from by decide +kernel]
        exact iteF ⟨.ref t, rfl, .ref t, rfl, Same.refl _, dv1⟩
      | rd ks =>
        obtain ⟨t, vk, rfl, ht, hk⟩ := rdAt dv1
        refine ⟨.ref t, rfl, t, _, rfl, .inr ht, rfl, _, rfl, ?_⟩
        rw [show decide (V.int (([V.str "read", vk] : List V).length : Nat) = V.int 3) = false from (by decide +kernel : decide (V.int ((2 : Nat) : Int) = V.int 3) = false)]
        exact iteF ⟨.ref t, rfl, .ref t, rfl, Same.refl _, dv1⟩
      | wr o z =>
        obtain ⟨t, rfl, ht⟩ := wrAt dv1
        refine ⟨.ref t, rfl, t, _, rfl, .inr ht, rfl, _, rfl, ?_⟩
        rw [show decide (V.int (([V.str "write", V.str o, V.str z] : List V).length : Nat) = V.int 3) = true from (by decide +kernel : decide (V.int ((3 : Nat) : Int) = V.int 3) = true)]
        refine iteT ⟨.ref t, rfl, 2, rfl, cutAny ht fun t2 H2 ht2 s2 => ⟨(by show 1 ≤ sizeLine; decide), fun u hu => ?_⟩⟩
        have su := sameUpd (o := .tup [.str "odd"]) hu
        have d1 : Dp K (upd H2 u (.tup [.str "odd"])) (.ref t2) (.tuple [.str "write", .str o]) := .tup (sameTup su ht2) (.cons (.str _) (.cons (.str _) .nil))
        have d2 : Dp K (upd H2 u (.tup [.str "odd"])) (.ref u) (.tuple [.str "odd"]) := .tup (.inl (.inl upd_same)) (.cons (.str _) .nil)
        exact catD d1 d2 (by show 2 + 1 ≤ 1000; decide) fun y H3 s3 d3 => ⟨y, rfl, (s2.trans su).trans s3, d3⟩
    rintro _ H2 ⟨mv, rfl, s2, dm⟩
    refine ⟨.ref a, rfl, .ref Ls, rfl, (by show 2 ≤ sizeLine; decide), fun a0 h0 => ⟨(by show 2 ≤ sizeLine; decide), fun a1 h1 => ⟨(by show 2 ≤ sizeLine; decide), fun a2 h2 => ⟨(by show 2 ≤ sizeLine; decide), fun a3 h3 => ?_⟩⟩⟩⟩
    have s3 := sameUpd (o := .tup [.str "a", .str "o"]) h0
    have s4 := sameUpd (o := .tup [.str "b", .str "o"]) h1
    have s5 := sameUpd (o := .tup [.ref a0, .ref a1]) h2
    have s6 := sameUpd (o := .tup [.str "read", .ref a2]) h3
    refine ⟨mv, rfl, (by show 2 ≤ sizeLine; decide), fun M hM => ?_⟩
    have s7 := sameUpd (o := .lst [.ref a3, mv]) hM
    have sB := (((s3.trans s4).trans s5).trans s6).trans s7
    have lx := dpLen dxs
    have lx6 : xs.length = 5 := lx
    have eL7 := sB _ _ (s2 _ _ eL)
    refine ⟨Ls, M, xs, _, rfl, rfl, eL7, upd_same, by rw [lx6, sizeLine_eq]; show 5 + 2 ≤ _; decide, fun N hN => ?_⟩
    have s8 := sameUpd (o := .lst (xs ++ [.ref a3, mv])) hN
    have e0 := ((((s4.trans s5).trans s6).trans s7).trans s8) _ _ (upd_same (a := a0) (o := .tup [.str "a", .str "o"]))
    have e1 := (((s5.trans s6).trans s7).trans s8) _ _ (upd_same (a := a1) (o := .tup [.str "b", .str "o"]))
    have e2 := ((s6.trans s7).trans s8) _ _ (upd_same (a := a2) (o := .tup [.ref a0, .ref a1]))
    have e3 := (s7.trans s8) _ _ (upd_same (a := a3) (o := .tup [.str "read", .ref a2]))
    have dtw := rdMk (K := K) (ks := two6) (.inl (.inl e3)) (.inl (.inl e2)) (.cons (kyMk (.inl (.inl e0))) (.cons (kyMk (.inl (.inl e1))) .nil))
    have sC := (s1.trans s2).trans (sB.trans s8)
    have dall := dpAppMap (dpAllSame (s2.trans (sB.trans s8)) _ _ dxs) (bs := [.rd two6, oddOf st]) (.cons dtw (.cons (dpSame (sB.trans s8) _ _ dm) .nil))
    have nN : N ≠ a := TRE.fdNe (hF.same ((s1.trans s2).trans sB)) hN
    refine ⟨a, N, _, rfl, hF.same sC, .inl (.inl upd_same), nN, by rw [List.length_append, lx6]; show 0 < 5 + 2; decide, by rw [List.length_append, lx6]; show 5 + 2 < 1000; decide, fun j v2 H9 ej k9 F9 => ?_⟩
    obtain ⟨d, ed, dd2⟩ := TRE.dpAtV dall ej
    rw [List.getElem?_map] at ed
    obtain ⟨s', es, rfl⟩ := Option.map_eq_some_iff.mp ed
    have okS : StpOk s' := by
      rcases List.mem_append.mp (List.mem_of_getElem? es) with h | h
      · rcases inSnoc h with h | h
        · exact steps6Ok _ h
        · rw [h]; exact ok
      · have : s' = .rd two6 ∨ s' = oddOf st := by simpa using h
        rcases this with rfl | rfl
        · exact two6Ok
        · exact oddOk ok
    exact q v2 s' H9 okS (dpTS (TRE.tsKp (hF.same sC) k9) (plStp _) _ dd2) ((Kp.same sC).trans k9) F9
end
end REC

set_option Elab.async false
set_option linter.all false
set_option maxRecDepth 100000
set_option maxHeartbeats 8000000
/-! pairs that are otherwise -/
namespace REC
open PySem PySem.Spec PyProof.Rows L2 ND KS KS.La PLC
open TRE (catD lcFeedX fdNe tsKp)
abbrev lOddP : Stmt := top 52
theorem dpDrop {K : PySem.W.Frag} {H : Hp} : ∀ {n : Nat} {xs : List V} {ds : List PyData}, DpAll K H xs ds → DpAll K H (xs.drop n) (ds.drop n)
  | 0, _, _, h => h
  | n + 1, _, _, .nil => .nil
  | n + 1, _, _, .cons _ r => dpDrop (n := n) r
theorem dpTake {K : PySem.W.Frag} {H : Hp} : ∀ {n : Nat} {xs : List V} {ds : List PyData}, DpAll K H xs ds → DpAll K H (xs.take n) (ds.take n)
  | 0, _, _, _ => .nil
  | n + 1, _, _, .nil => .nil
  | n + 1, _, _, .cons h r => .cons h (dpTake (n := n) r)
theorem cutPrs {K : PySem.W.Frag} {H : Hp} {xs : List V} {L : List (Pc × Stp)} (h : DpAll K H xs (L.map prD)) (lo hi : Option Int) : ∃ M : List (Pc × Stp), DpAll K H (cutV xs lo hi) (M.map prD) ∧ (∀ q ∈ M, q ∈ L) ∧ M.length ≤ L.length := by
  unfold cutV
  generalize HT.sIx xs.length 0 lo = i
  generalize HT.sIx xs.length xs.length hi - i = j
  refine ⟨(L.drop i).take j, ?_, fun q hq => List.mem_of_mem_drop (List.mem_of_mem_take hq), ?_⟩
  · rw [List.map_take, List.map_drop]
    exact dpTake (dpDrop h)
  · rw [List.length_take, List.length_drop]
    omega
theorem cutDel {K : PySem.W.Frag} {H : Hp} {xs : List V} {L : List (Pc × Stp)} (h : DpAll K H xs (L.map prD)) {i : Nat} (hi : i < L.length) : ∃ M N : List (Pc × Stp), DpAll K H (cutV xs none (some i)) (M.map prD) ∧ DpAll K H (cutV xs (some (i + 1)) none) (N.map prD) ∧ (∀ q ∈ M, q ∈ L) ∧ (∀ q ∈ N, q ∈ L) ∧ M.length + N.length ≤ L.length := by
  have lx := dpLen h
  rw [List.length_map] at lx
  refine ⟨L.take i, L.drop (i + 1), ?_, ?_, fun q hq => List.mem_of_mem_take hq, fun q hq => List.mem_of_mem_drop hq, ?_⟩
  · have e : cutV xs none (some i) = xs.take i := by
      show (xs.drop 0).take (HT.sIx xs.length xs.length (some (i : Int)) - 0) = xs.take i
      rw [show HT.sIx xs.length xs.length (some (i : Int)) = i from by unfold HT.sIx; dsimp only; split <;> omega]
      rfl
    rw [e, List.map_take]
    exact dpTake h
  · have e : cutV xs (some ((i : Int) + 1)) none = xs.drop (i + 1) := by
      show (xs.drop (HT.sIx xs.length 0 (some ((i : Int) + 1)))).take (xs.length - HT.sIx xs.length 0 (some ((i : Int) + 1))) = xs.drop (i + 1)
      rw [show HT.sIx xs.length 0 (some ((i : Int) + 1)) = i + 1 from by unfold HT.sIx; dsimp only; split <;> omega]
      exact List.take_of_length_le (by rw [List.length_drop]; exact Nat.le_refl _)
    rw [e, List.map_drop]
    exact dpDrop h
  · rw [List.length_take, List.length_drop]
    omega
theorem odPr {q : Pc × Stp} (h : PrOk q) : Od 4 (prD q) := .tup (by show 2 ≤ 100; omega) fun d hd => by
  have : d = pcD q.1 ∨ d = stpD q.2 := by simpa using hd
  rcases this with rfl | rfl
  · exact odPc h.1
  · exact h.2.2
theorem shPrs {L : List (Pc × Stp)} (ok : ∀ q ∈ L, PrOk q) : SeqAt.shaped (.list (L.map prD)) = true := by
  obtain ⟨a, b⟩ := allLay (ds := L.map prD) (n := 4) fun d hd => by
    obtain ⟨r, hr, rfl⟩ := List.mem_map.mp hd
    exact (odPr (ok r hr)).lay
  have e1 : (PyData.list (L.map prD)).canLay0 = true := a
  unfold SeqAt.shaped
  rw [e1, Bool.true_and]
  refine decide_eq_true ?_
  simp only [PyData.depth]
  omega
theorem eqPrs {K : PySem.W.Frag} {H : Hp} {D e : Addr} {zs : List V} {L : List (Pc × Stp)} {Q : VK} (hD : H D = some (.lst zs)) (he : H e = some (.lst [])) (hz : DpAll K H zs (L.map prD)) (ok : ∀ q ∈ L, PrOk q) (h : Q (.bl (decide (L = []))) H) : rEqD K (.ref D) (.ref e) H Q := by
  refine ⟨.list (L.map prD), .list [], .lst (.inl (.inl hD)) hz, .lst (.inl (.inl he)) .nil, shPrs ok, rfl, ?_⟩
  cases L with
  | nil => exact h
  | cons t ts => exact h
section
variable {P : Program} {w : World} {K : PySem.W.Frag} {mg : Str → Option Value} {base : Heap} {f : Addr} {fd : FuncData}
def spOddP (K : PySem.W.Frag) : Sp := fun vs H Q _ => ∃ (f l : Addr) (xs : List V) (L : List (Pc × Stp)) (m : Nat), vs = [.ref f, .ref l] ∧ Fd H f ∧ H l = some (.lst xs) ∧ l ≠ f ∧ DpAll K H xs (L.map prD) ∧ (∀ q ∈ L, PrB m q) ∧ m ≤ 50 ∧ L.length ≤ 90 ∧
  ∀ (r : Addr) (ys : List V) (L' : List (Pc × Stp)) (H' : Hp), H r = none → H' r = some (.lst ys) → DpAll K H' ys (L'.map prD) → (∀ q ∈ L', PrB (m + 1) q) → L'.length ≤ L.length + 1 → Kp f H H' → Fd H' f → Q (.ref r) H'
abbrev nOddP : List Str := ["_law_feed", "_law_pairs", "_law_spot", "_law_form", "_law_place", "_law_found", "_law_row", "_law_part"]
theorem scOddP : FnScope nOddP ["_law_feed", "_law_pairs"] (defScope lOddP) := ⟨rfl, rfl, rfl, by decide +kernel, rfl, by decide +kernel, by decide +kernel⟩
theorem okOddP {k : Nat} (B : Bn mg) (F : FnP K "_law_odd_pairs" lOddP f fd) (Dr : Has P w K mg base k "_law_draw" ["_law_feed", "_law_many"] spDraw) (Tx : Has P w K mg base k "_law_some_text" ["_law_feed"] spText) (An : Has P w K mg base k "_law_some_answer" ["_law_feed"] spAns)
    (So : Has P w K mg base k "_law_odd_step" ["_law_feed", "_law_found"] (spOddS K)) : FnOk P w K mg base CX0 (k + 1) f fd ["_law_feed", "_law_pairs"] (spOddP K) := by
  obtain ⟨fD, dD, gD, kD, bD, GD⟩ := Dr.ex
  obtain ⟨fT, dT, gT, kT, bT, GT⟩ := Tx.ex
  obtain ⟨fA, dA, gA, kA, bA, GA⟩ := An.ex
  obtain ⟨fS, dS, gS, kS, bS, GS⟩ := So.ex
  refine F.ok scOddP (fun vs H Q E h => ?_) (fun cdv A outer s H vs Q E hr h => ?_)
  · obtain ⟨a, l, xs, L, m, rfl, _⟩ := h
    rfl
  · obtain ⟨a, l, xs, L, m, rfl, hF, el, nl, dxs, okL, m50, lL, q⟩ := h
    refine ⟨_, PSs.nox (C8.pss_cut (ps_if (pt_cmpR (r := rEqD K) (op_eqD hr.units) (pv 1) (pe_lst pa_nil) (nomark _))
        (pss_one (ps_ret (pe_lst (pa_cons (pe_tup (pa_cons (pe_tup (pa_cons (pe_call GT hr (by rfl) gT kT bT .nil pass0 (pa_cons (pv 0) pa_nil)) (pa_cons (pe_tup pa_nil) (pa_cons (pe_tup (pa_cons (pe_tup (pa_cons (pe_call GA hr (by rfl) gA kA bA .nil pass0 (pa_cons (pv 0) pa_nil)) pa_nil)) pa_nil)) (pa_cons (pe_call GD hr (by rfl) gD kD bD .nil pass0 (pa_cons (pv 0) (pa_cons (pe_int) pa_nil))) pa_nil))))) (pa_cons (pe_tup (pa_cons (pe_str) pa_nil)) pa_nil))) pa_nil)))) pss_nil) (C8.pss_cut (ps_par (i := 2) (j := 3) rfl scOddP.nd rfl rfl (by decide) rfl rfl (pa_cons (pe_call GD hr (by rfl) gD kD bD .nil pass0 (pa_cons (pv 0) (pa_cons (pe_callB call_len_seq (by rfl) B.len PySem.boot_len (pa_cons (pv 1) pa_nil)) pa_nil))) (pa_cons (pe_call GD hr (by rfl) gD kD bD .nil pass0 (pa_cons (pv 0) (pa_cons (pe_int) pa_nil))) pa_nil)) (by rfl)) (C8.pss_cut (ps_asg (pe_ix ix_list (pv 1) (pv 2) (fun _ _ => rfl)) (pg_tup rfl (pgs_cons (pg_name (i := 4) scOddP.nd rfl (.inl rfl)) (pgs_cons (pg_name (i := 5) scOddP.nd rfl (.inl rfl)) pgs_nil)))) (C8.pss_cut (ps_if (pt_cmpR op_eq (pv 3) pe_int (nomark _)) (pss_one (ps_ret (pe_op op_cat (pe_slice sl_list (pv 1) po_none (po_some (pv 2))) (pe_slice sl_list (pv 1) (po_some (pe_op op_add (pv 2) pe_int)) po_none)))) pss_nil) (C8.pss_cut (ps_if (pt_cmpR op_eq (pv 3) pe_int (nomark _)) (pss_one (ps_ret (pe_op op_cat (pv 1) (pe_lst (pa_cons (pe_tup (pa_cons (pv 4) (pa_cons (pe_call GS hr (by rfl) gS kS bS .nil pass0 (pa_cons (pv 0) (pa_cons (pv 5) pa_nil))) pa_nil))) pa_nil))))) pss_nil) (C8.pss_cut (ps_if (pt_cmpR op_eq (pv 3) pe_int (nomark _)) (pss_one (ps_ret (pe_op op_cat (pe_op op_cat (pe_slice sl_list (pv 1) po_none (po_some (pv 2))) (pe_lst (pa_cons (pe_tup (pa_cons (pv 4) (pa_cons (pe_call GS hr (by rfl) gS kS bS .nil pass0 (pa_cons (pv 0) (pa_cons (pv 5) pa_nil))) pa_nil))) pa_nil))) (pe_slice sl_list (pv 1) (po_some (pe_op op_add (pv 2) pe_int)) po_none)))) pss_nil) (C8.pss_cut (ps_if (pt_cmpR op_eq (pv 3) pe_int (nomark _)) (pss_one (ps_ret (pe_op op_cat (pv 1) (pe_lst (pa_cons (pe_tup (pa_cons (pe_op op_catA (pe_slice sl_tupA (pv 4) po_none (po_some pe_int)) (pe_tup (pa_cons (pe_op op_add (pe_op op_add (pe_ix ix_tup (pv 4) pe_int (fun _ _ => rfl)) pe_int) (pe_call GD hr (by rfl) gD kD bD .nil pass0 (pa_cons (pv 0) (pa_cons (pe_int) pa_nil)))) pa_nil))) (pa_cons (pe_call GS hr (by rfl) gS kS bS .nil pass0 (pa_cons (pv 0) (pa_cons (pv 5) pa_nil))) pa_nil))) pa_nil))))) pss_nil) (C8.pss_cut (ps_set (i := 6) scOddP.nd rfl (.inl rfl) (pe_callTy (r := TRE.rTup K) (T := "tuple") call_tuple_of (by rfl) B.tuple (by decide +kernel) (pa_cons (pe_lc (own := [("_law_part", 7)]) (g := gName 7) rfl scOddP.nd (pi_range1 (by rfl) B.range (pa_cons (pe_op op_add pe_int (pe_call GD hr (by rfl) gD kD bD .nil pass0 (pa_cons (pv 0) (pa_cons (pe_int) pa_nil)))) pa_nil)) (blkOk_by (N := nOddP) (sc := defScope lOddP) (by decide +kernel))
        (fun _ _ _ _ _ => pg_name (i := 7) scOddP.nd rfl (.inl rfl) (hf := .inr rfl)) (fun _ _ _ _ _ => pts_nil) (fun _ _ _ _ _ => pe_call GA hr (by rfl) gA kA bA .nil pass0 (pa_cons (pv 0) pa_nil))) pa_nil))) (pss_one (ps_ret (pe_op op_cat (pv 1) (pe_lst (pa_cons (pe_tup (pa_cons (pe_op op_catA (pe_slice sl_tupA (pv 4) po_none (po_some pe_int)) (pe_tup (pa_cons (pe_op op_catA (pe_ix ix_tup (pv 4) pe_int (fun _ _ => rfl)) (pe_tup (pa_cons (pv 6) pa_nil))) (pa_cons (pe_op op_fdiv (pe_call GD hr (by rfl) gD kD bD .nil pass0 (pa_cons (pv 0) (pa_cons (pe_int) pa_nil))) pe_int) pa_nil)))) (pa_cons (pe_call GS hr (by rfl) gS kS bS .nil pass0 (pa_cons (pv 0) (pa_cons (pv 5) pa_nil))) pa_nil))) pa_nil))))))))))))), ?_⟩
    have lx := dpLen dxs
    rw [List.length_map] at lx
    have okP : ∀ q ∈ L, PrOk q := fun q hq => (okL q hq).1
    have newOf : ∀ {Hz : Hp} {n : Addr}, Kp a H Hz → Fd Hz a → Hz n = none → H n = none := fun {Hz n} k f hn => by
      cases e : H n with
      | none => rfl
      | some o =>
        have := k n o (fdNe f hn) e
        rw [hn] at this
        cases this
    have up : ∀ q ∈ L, PrB (m + 1) q := fun q hq => ⟨(okL q hq).1, Nat.le_succ_of_le (okL q hq).2⟩
    refine ⟨fun σ' H' => σ' = [some (.ref a), some (.ref l), none, none, none, none, none, none] ∧ Same H H' ∧ L ≠ [], ?_, ?_⟩
    · refine ⟨.ref l, rfl, Nat.zero_le _, fun e he => ?_⟩
      have s0 := sameUpd (o := .lst []) he
      refine eqPrs (s0 _ _ el) upd_same (dpAllSame s0 _ _ dxs) okP ⟨_, rfl, ?_⟩
      by_cases e0 : L = []
      · rw [decide_eq_true e0]
        have F0 := hF.same s0
        generalize upd H e (.lst []) = H0 at s0 F0 ⊢
        refine iteT ⟨.ref a, rfl, a, rfl, F0, fun z H1 tz k1 F1 => ⟨Nat.zero_le _, fun t0 h0 => ?_⟩⟩
        have s1 := sameUpd (o := .tup []) h0
        refine ⟨.ref a, rfl, a, rfl, F1.same s1, fun v H2 hv k2 F2 => ⟨(by show 1 ≤ sizeLine; decide), fun t1 h1 => ⟨(by show 1 ≤ sizeLine; decide), fun t2 h2 => ?_⟩⟩⟩
        have s2 := sameUpd (o := .tup [v]) h1
        have s3 := sameUpd (o := .tup [.ref t1]) h2
        have F3 := F2.same (s2.trans s3)
        obtain ⟨an, rfl, oan⟩ : ∃ an : Option Str, v = vA an ∧ ∀ z, an = some z → TOk z := by
          rcases hv with rfl | ⟨z, rfl, hz⟩
          · exact ⟨none, rfl, fun z e => by cases e⟩
          · exact ⟨some z, rfl, fun z' e => by cases e; exact hz⟩
        refine ⟨.ref a, rfl, a, 2, rfl, F3, by omega, by omega, fun r H4 r0 r2 k4 F4 => ⟨(by show 4 ≤ sizeLine; decide), fun t3 h3 => ⟨(by show 1 ≤ sizeLine; decide), fun t4 h4 => ⟨(by show 2 ≤ sizeLine; decide), fun t5 h5 => ⟨(by show 1 ≤ sizeLine; decide), fun n hn => ?_⟩⟩⟩⟩⟩
        have s4 := sameUpd (o := .tup [.str z, .ref t0, .ref t2, .int r]) h3
        have s5 := sameUpd (o := .tup [.str "stop"]) h4
        have s6 := sameUpd (o := .tup [.ref t3, .ref t4]) h5
        have s7 := sameUpd (o := .lst [.ref t5]) hn
        have kA := (Kp.same s1).trans (k2.trans (Kp.same (s2.trans s3)))
        have t14 := tsKp F1 (kA.trans k4)
        have t34 := tsKp F3 k4
        have dA : Dp K H4 (.ref t0) (argsD []) := dpTS (tsKp (F1.same s1) ((k2.trans (Kp.same (s2.trans s3))).trans k4)) (plArgs _) _ (.tup (.inl (.inl upd_same)) .nil)
        have dR : Dp K H4 (.ref t2) (rowsD [[an]]) := dpTS t34 (plRows _) _ (.tup (.inl (.inl upd_same)) (.cons (dpSame s3 _ _ (rowDp (r := [an]) (.inl (.inl upd_same)))) .nil))
        have e3 := ((s5.trans s6).trans s7) _ _ (upd_same (a := t3) (o := .tup [.str z, .ref t0, .ref t2, .int r]))
        have e4 := (s6.trans s7) _ _ (upd_same (a := t4) (o := .tup [.str "stop"]))
        have e5 := s7 _ _ (upd_same (a := t5) (o := .tup [.ref t3, .ref t4]))
        have s47 := ((s4.trans s5).trans s6).trans s7
        have dp := pcMk (K := K) (p := ⟨z, [], [[an]], r⟩) (.inl (.inl e3)) (dpSame s47 _ _ dA) (dpSame s47 _ _ dR)
        have okp : Ok ⟨z, [], [[an]], r⟩ := ⟨tz, fun z h => (by cases h), Nat.zero_le _, fun r hr => by
          rw [List.mem_singleton.mp hr]
          exact ⟨by show 1 ≤ 4; omega, fun z' h' => oan z' (List.mem_singleton.mp h').symm⟩, by show 1 ≤ 100; omega⟩
        have kF := ((((Kp.same s0).trans k1).trans kA).trans k4).trans (Kp.same s47)
        refine q n _ [(⟨z, [], [[an]], r⟩, .stop)] _ (newOf (((((Kp.same s0).trans k1).trans kA).trans k4).trans (Kp.same ((s4.trans s5).trans s6))) (F4.same ((s4.trans s5).trans s6)) hn) upd_same (.cons (.tup (.inl (.inl e5)) (.cons dp (.cons (.tup (.inl (.inl e4)) (.cons (.str _) .nil)) .nil))) .nil) (fun q' hq' => ?_) (by rw [e0]; exact Nat.le_refl _) kF (F4.same s47)
        rw [List.mem_singleton.mp hq']
        exact ⟨⟨okp, r0, odStpTx trivial⟩, by show 1 ≤ m + 1; omega⟩
      · rw [decide_eq_false e0]
        exact iteF ⟨rfl, s0, e0⟩
    rintro _ H0 ⟨rfl, s0, ne⟩
    have posL : 0 < L.length := List.length_pos_iff.mpr ne
    have F0 := hF.same s0
    refine ⟨fun σ' H' => ∃ (i : Nat) (fm : Int), σ' = [some (.ref a), some (.ref l), some (.int (i : Int)), some (.int fm), none, none, none, none] ∧ i < L.length ∧ Kp a H H' ∧ Fd H' a, ?_, ?_⟩
    · refine ⟨.ref a, rfl, .ref l, rfl, l, xs, rfl, .inl (.inl (.inl (s0 _ _ el))), a, (xs.length : Int), rfl, F0, by omega, by omega, fun r H1 r0 r1 k1 F1 => ?_⟩
      refine ⟨.ref a, rfl, a, 6, rfl, F1, by omega, by omega, fun fm H2 f0 f6 k2 F2 => ?_⟩
      exact ⟨_, _, rfl, r.toNat, fm, by rw [Int.toNat_of_nonneg r0]; rfl, by omega, ((Kp.same s0).trans k1).trans k2, F2⟩
    rintro _ H1 ⟨i, fm, rfl, hi, k1, F1⟩
    have okq := okL _ (List.getElem_mem hi)
    have e2 : (L.map prD)[i]? = some (prD L[i]) := by rw [List.getElem?_map, List.getElem?_eq_getElem hi]; rfl
    obtain ⟨vq, g1, g2⟩ := dpAt dxs e2
    generalize L[i] = pq at *
    obtain ⟨p, st⟩ := pq
    have dq := dpTS (tsKp hF k1) (plPr _) _ g2
    obtain ⟨t, vp, vs, rfl, ht, hp, hs⟩ := prAt dq
    obtain ⟨pa, pva, pvr, rfl, hps, hpa, hpv⟩ := pcAt hp
    have el1 := k1 _ _ nl el
    have dx1 : DpAll K H1 xs (L.map prD) := prsTS (tsKp hF k1) dxs
    refine ⟨fun σ' H' => σ' = [some (.ref a), some (.ref l), some (.int (i : Int)), some (.int fm), some (.ref pa), some vs, none, none] ∧ H' = H1, ?_, ?_⟩
    · exact ⟨.ref l, rfl, .int (i : Int), rfl, l, xs, (i : Int), .ref t, rfl, rfl, .inl (.inl el1), atI_nat g1, t, _, rfl, ht, rfl, _, _, rfl, _, _, rfl, rfl, rfl, rfl⟩
    rintro _ H1 ⟨rfl, rfl⟩
    -- behind all others
    have fin1 : ∀ {vp vs : V} {p' : Pc} {s' : Stp} {Hn : Hp}, Kp a H1 Hn → Fd Hn a → Dp K Hn vp (pcD p') → Dp K Hn vs (stpD s') → PrB (m + 1) (p', s') → ∀ t, Hn t = none → ∀ M, upd Hn t (.tup [vp, vs]) M = none → rCat (.ref l) (.ref M) (upd (upd Hn t (.tup [vp, vs])) M (.lst [.ref t])) Q := fun {vp vs p' s' Hn} k f dp ds ok t ht M hM => by
      have s1 := sameUpd (o := .tup [vp, vs]) ht
      have s2 := sameUpd (o := .lst [.ref t]) hM
      have kA := (k1.trans k).trans (Kp.same (s1.trans s2))
      refine ⟨l, M, xs, [.ref t], rfl, rfl, kA _ _ nl el, upd_same, by rw [lx, sizeLine_eq]; show L.length + 1 ≤ _; omega, fun n hn => ?_⟩
      have s3 := sameUpd (o := .lst (xs ++ [.ref t])) hn
      have dt := dpSame (s2.trans s3) _ _ (Dp.tup (K := K) (.inl (.inl (upd_same (H := Hn) (a := t) (o := .tup [vp, vs])))) (.cons (dpSame s1 _ _ dp) (.cons (dpSame s1 _ _ ds) .nil)))
      have dx2 := prsTS (tsKp hF (kA.trans (Kp.same s3))) dxs
      refine q n _ (L ++ [(p', s')]) _ (newOf kA (f.same (s1.trans s2)) hn) upd_same ?_ (fun q' hq' => ?_) (by rw [List.length_append]; exact Nat.le_refl _) (kA.trans (Kp.same s3)) (f.same ((s1.trans s2).trans s3))
      · rw [List.map_append]
        exact dpSnoc dt dx2
      · rcases inSnoc hq' with h | h
        · exact up q' h
        · rw [h]; exact ok
    have okst : ∀ {s' : Stp}, StpOk s' → PrB (m + 1) (p, s') := fun {s'} h => ⟨⟨okq.1.1, okq.1.2.1, h⟩, Nat.le_succ_of_le okq.2⟩
    refine ⟨fun σ' H' => σ' = [some (.ref a), some (.ref l), some (.int (i : Int)), some (.int fm), some (.ref pa), some vs, none, none] ∧ H' = H1, ?_, ?_⟩
    · refine ⟨.int fm, rfl, rfl, _, rfl, ite2 (fun _ => ?_) (fun _ => ⟨rfl, rfl⟩)⟩
      obtain ⟨M, N, dM, dN, sM, sN, lMN⟩ := cutDel dx1 hi
      refine ⟨.ref l, rfl, .int (i : Int), rfl, (i : Int), rfl, l, xs, rfl, .inl (.inl el1), fun p1 h1 => ?_⟩
      have s1 := sameUpd (o := .lst (cutV xs none (some (i : Int)))) h1
      refine ⟨.ref l, rfl, .int (i : Int), rfl, (i : Int), 1, rfl, rfl, (i : Int) + 1, rfl, l, xs, rfl, .inl (.inl (s1 _ _ el1)), fun p2 h2 => ?_⟩
      have s2 := sameUpd (o := .lst (cutV xs (some ((i : Int) + 1)) none)) h2
      refine ⟨p1, p2, _, _, rfl, rfl, s2 _ _ upd_same, upd_same, by have := cutV_length xs none (some (i : Int)); have := cutV_length xs (some ((i : Int) + 1)) none; rw [sizeLine_eq]; omega, fun n hn => ?_⟩
      have s3 := sameUpd (o := .lst (cutV xs none (some (i : Int)) ++ cutV xs (some ((i : Int) + 1)) none)) hn
      have sA := (s1.trans s2).trans s3
      refine q n _ (M ++ N) _ (newOf (k1.trans (Kp.same (s1.trans s2))) (F1.same (s1.trans s2)) hn) upd_same ?_ (fun q' hq' => ?_) (by rw [List.length_append]; omega) (k1.trans (Kp.same sA)) (F1.same sA)
      · rw [List.map_append]
        exact TRE.dpAppend (dpAllSame sA _ _ dN) (dpAllSame sA _ _ dM)
      · rcases List.mem_append.mp hq' with h | h
        · exact up q' (sM q' h)
        · exact up q' (sN q' h)
    rintro _ H1 ⟨rfl, rfl⟩
    refine ⟨fun σ' H' => σ' = [some (.ref a), some (.ref l), some (.int (i : Int)), some (.int fm), some (.ref pa), some vs, none, none] ∧ H' = H1, ?_, ?_⟩
    · refine ⟨.int fm, rfl, rfl, _, rfl, ite2 (fun _ => ?_) (fun _ => ⟨rfl, rfl⟩)⟩
      refine ⟨.ref l, rfl, .ref pa, rfl, .ref a, rfl, vs, rfl, a, vs, st, rfl, F1, hs, okq.1.2.2, fun r s' H2 ok' dr k2 F2 => ⟨(by show 2 ≤ sizeLine; decide), fun t2 ht2 => ⟨(by show 1 ≤ sizeLine; decide), fun M hM => ?_⟩⟩⟩
      exact fin1 k2 F2 (dpTS (tsKp F1 k2) (plPc _) _ hp) dr (okst ok') t2 ht2 M hM
    rintro _ H1 ⟨rfl, rfl⟩
    refine ⟨fun σ' H' => σ' = [some (.ref a), some (.ref l), some (.int (i : Int)), some (.int fm), some (.ref pa), some vs, none, none] ∧ H' = H1, ?_, ?_⟩
    · refine ⟨.int fm, rfl, rfl, _, rfl, ite2 (fun _ => ?_) (fun _ => ⟨rfl, rfl⟩)⟩
      obtain ⟨M, N, dM, dN, sM, sN, lMN⟩ := cutDel dx1 hi
      refine ⟨.ref l, rfl, .int (i : Int), rfl, (i : Int), rfl, l, xs, rfl, .inl (.inl el1), fun p1 h1 => ?_⟩
      have s1 := sameUpd (o := .lst (cutV xs none (some (i : Int)))) h1
      refine ⟨.ref pa, rfl, .ref a, rfl, vs, rfl, a, vs, st, rfl, F1.same s1, dpSame s1 _ _ hs, okq.1.2.2, fun r s' H2 ok' dr k2 F2 => ⟨(by show 2 ≤ sizeLine; decide), fun t2 ht2 => ⟨(by show 1 ≤ sizeLine; decide), fun M2 hM2 => ?_⟩⟩⟩
      have s2 := sameUpd (o := .tup [.ref pa, r]) ht2
      have s3 := sameUpd (o := .lst [.ref t2]) hM2
      have e1 := (s2.trans s3) _ _ (k2 _ _ (fdNe F1 h1) (upd_same (H := H1) (a := p1) (o := .lst (cutV xs none (some (i : Int))))))
      refine ⟨p1, M2, _, _, rfl, rfl, e1, upd_same, by have := cutV_length xs none (some (i : Int)); rw [sizeLine_eq]; show _ + 1 ≤ _; omega, fun n1 hn1 => ?_⟩
      have s4 := sameUpd (o := .lst (cutV xs none (some (i : Int)) ++ [.ref t2])) hn1
      have k12 := (Kp.same (f := a) s1).trans k2
      have k14 := k12.trans (Kp.same ((s2.trans s3).trans s4))
      refine ⟨.ref l, rfl, .int (i : Int), rfl, (i : Int), 1, rfl, rfl, (i : Int) + 1, rfl, l, xs, rfl, .inl (.inl (k14 _ _ nl el1)), fun p2 h2 => ?_⟩
      have s5 := sameUpd (o := .lst (cutV xs (some ((i : Int) + 1)) none)) h2
      refine ⟨n1, p2, _, _, rfl, rfl, s5 _ _ upd_same, upd_same, by have := cutV_length xs none (some (i : Int)); have := cutV_length xs (some ((i : Int) + 1)) none; rw [List.length_append, sizeLine_eq]; show _ + 1 + _ ≤ _; omega, fun n hn => ?_⟩
      have s6 := sameUpd (o := .lst (cutV xs none (some (i : Int)) ++ [.ref t2] ++ cutV xs (some ((i : Int) + 1)) none)) hn
      have s26 := (((s2.trans s3).trans s4).trans s5).trans s6
      have s36 := ((s3.trans s4).trans s5).trans s6
      have kA := k12.trans (Kp.same s26)
      have tA := tsKp F1 kA
      have dt := dpSame s36 _ _ (Dp.tup (K := K) (.inl (.inl (upd_same (H := H2) (a := t2) (o := .tup [.ref pa, r])))) (.cons (dpSame s2 _ _ (dpTS (tsKp F1 k12) (plPc _) _ hp)) (.cons (dpSame s2 _ _ dr) .nil)))
      refine q n _ ((M ++ [(p, s')]) ++ N) _ (newOf (k1.trans (k12.trans (Kp.same (((s2.trans s3).trans s4).trans s5)))) (F2.same (((s2.trans s3).trans s4).trans s5)) hn) upd_same ?_ (fun q' hq' => ?_) (by rw [List.length_append, List.length_append]; show M.length + 1 + N.length ≤ _; omega) (k1.trans kA) (F2.same s26)
      · rw [List.map_append, List.map_append]
        exact TRE.dpAppend (prsTS tA dN) (dpSnoc dt (prsTS tA dM))
      · rcases List.mem_append.mp hq' with h | h
        · rcases inSnoc h with h | h
          · exact up q' (sM q' h)
          · rw [h]; exact okst ok'
        · exact up q' (sN q' h)
    rintro _ H1 ⟨rfl, rfl⟩
    refine ⟨fun σ' H' => σ' = [some (.ref a), some (.ref l), some (.int (i : Int)), some (.int fm), some (.ref pa), some vs, none, none] ∧ H' = H1, ?_, ?_⟩
    · refine ⟨.int fm, rfl, rfl, _, rfl, ite2 (fun _ => ?_) (fun _ => ⟨rfl, rfl⟩)⟩
      refine ⟨.ref l, rfl, .ref pa, rfl, 3, rfl, cutAny hps fun t3 H2 ht3 s2 => ?_⟩
      have ht3' : SqT K H2 t3 [.str p.c, pva, pvr] := ht3
      refine ⟨.ref pa, rfl, pa, _, 3, .int p.n, rfl, rfl, sameTup s2 hps, atI_nat (j := 3) rfl, p.n, 1, rfl, rfl, .ref a, rfl, a, 2, rfl, F1.same s2, by omega, by omega, fun r H3 r0 r2 k3 F3 => ⟨p.n + 1, r, rfl, rfl, (by show 1 ≤ sizeLine; decide), fun u hu => ?_⟩⟩
      have su := sameUpd (o := .tup [.int (p.n + 1 + r)]) hu
      have k23 := (Kp.same (f := a) s2).trans k3
      have t13 := tsKp F1 k23
      have d1 : Dp K (upd H3 u (.tup [.int (p.n + 1 + r)])) (.ref t3) (.tuple [.str p.c, argsD p.as, rowsD p.rs]) := dpSame su _ _ (.tup ((tsKp (F1.same s2) k3).tup ht3') (.cons (.str _) (.cons (dpTS t13 (plArgs _) _ hpa) (.cons (dpTS t13 (plRows _) _ hpv) .nil))))
      have d2 : Dp K (upd H3 u (.tup [.int (p.n + 1 + r)])) (.ref u) (.tuple [.int (p.n + 1 + r)]) := .tup (.inl (.inl upd_same)) (.cons (.int _) .nil)
      refine catD d1 d2 (by show 3 + 1 ≤ 1000; omega) fun y H4 s4 dy => ?_
      have dp' : Dp K H4 y (pcD ⟨p.c, p.as, p.rs, p.n + 1 + r⟩) := dy
      have k14 := k23.trans (Kp.same (su.trans s4))
      have F4 := F3.same (su.trans s4)
      refine ⟨.ref a, rfl, vs, rfl, a, vs, st, rfl, F4, dpTS (tsKp F1 k14) (plStp _) _ hs, okq.1.2.2, fun r5 s' H5 ok' dr k5 F5 => ⟨(by show 2 ≤ sizeLine; decide), fun t2 ht2 => ⟨(by show 1 ≤ sizeLine; decide), fun M hM => ?_⟩⟩⟩
      have p0 : 0 ≤ p.n := okq.1.2.1
      exact fin1 (k14.trans k5) F5 (dpTS (tsKp F4 k5) (plPc _) _ dp') dr ⟨⟨⟨okq.1.1.c, okq.1.1.as, okq.1.1.al, okq.1.1.rs, okq.1.1.rl⟩, by show 0 ≤ p.n + 1 + r; omega, ok'⟩, Nat.le_succ_of_le okq.2⟩ t2 ht2 M hM
    rintro _ H1 ⟨rfl, rfl⟩
    refine ⟨fun σ' H' => ∃ row U, σ' = [some (.ref a), some (.ref l), some (.int (i : Int)), some (.int fm), some (.ref pa), some vs, some (.ref U), none] ∧ Kp a H1 H' ∧ Fd H' a ∧ Dp K H' (.ref U) (rowD row) ∧ row.length ≤ 4 ∧ ∀ z, some z ∈ row → TOk z, ?_, ?_⟩
    · refine ⟨.ref a, rfl, a, 2, rfl, F1, by omega, by omega, fun r H2 r0 r2 k2 F2 => ⟨1, r, rfl, rfl, 1 + r, rfl, by omega, by omega, fun D hD => ?_⟩⟩
      refine lcFeedX (m := (1 + r).toNat) (fun o => ∀ z, o = some z → TOk z) hD F2 (by omega) (fun v => rfl) (fun i H' lt k => lt) (fun H' k => Nat.le_refl _) (fun i x H6 H7 lt k6 F6 y => ?_) (fun H6 row e6 elr hpr k6 F6 => ?_)
      · obtain ⟨rfl, rfl⟩ := y
        refine ⟨rfl, fun R hR => ⟨.ref a, rfl, a, rfl, F6, fun v H8 hv8 k8 F8 => ?_⟩⟩
        rcases hv8 with rfl | ⟨z, rfl, hz⟩
        · exact hR none H8 (fun z e => by cases e) k8 F8
        · exact hR (some z) H8 (fun z' e => by cases e; exact hz) k8 F8
      · refine ⟨D, row.map vA, rfl, .inl ⟨.inl (.inl e6), fun U hU => ?_⟩⟩
        have sU := sameUpd (o := .tup (row.map vA)) hU
        exact ⟨row, U, rfl, (k2.trans k6).trans (Kp.same sU), F6.same sU, rowDp (.inl (.inl upd_same)), by omega, fun z hz => hpr _ hz z rfl⟩
    rintro _ H2 ⟨row, U, rfl, k2, F2, dU, lrow, orow⟩
    have t12 := tsKp F1 k2
    have hps2 := t12.tup hps
    refine ⟨.ref l, rfl, .ref pa, rfl, 2, rfl, cutAny hps2 fun t2 H3 ht2 s3 => ?_⟩
    have ht2' : SqT K H3 t2 [.str p.c, pva] := ht2
    refine ⟨.ref pa, rfl, pa, _, 2, pvr, rfl, rfl, sameTup s3 hps2, atI_nat (j := 2) rfl, .ref U, rfl, (by show 1 ≤ sizeLine; decide), fun u1 hu1 => ?_⟩
    have s4 := sameUpd (o := .tup [.ref U]) hu1
    have dr1 : Dp K (upd H3 u1 (.tup [.ref U])) pvr (.tuple (p.rs.map rowD)) := dpSame (s3.trans s4) _ _ (dpTS t12 (plRows _) _ hpv)
    have dr2 : Dp K (upd H3 u1 (.tup [.ref U])) (.ref u1) (.tuple [rowD row]) := .tup (.inl (.inl upd_same)) (.cons (dpSame (s3.trans s4) _ _ dU) .nil)
    refine catD dr1 dr2 (by rw [List.length_map]; have h5 : p.rs.length ≤ m := okq.2; show p.rs.length + 1 ≤ 1000; omega) fun y H5 s5 dy => ?_
    have dy2 : Dp K H5 y (rowsD (p.rs ++ [row])) := by
      unfold rowsD
      rw [List.map_append]
      exact dy
    have F5 := F2.same ((s3.trans s4).trans s5)
    refine ⟨.ref a, rfl, a, 8, rfl, F5, by omega, by omega, fun r H6 r0 r8 k6 F6 => ⟨r, 6, rfl, rfl, ⟨by decide, by decide⟩, (by show 2 ≤ sizeLine; decide), fun u2 hu2 => ?_⟩⟩
    have s7 := sameUpd (o := .tup [y, .int (r / 6)]) hu2
    have k16 := (k2.trans (Kp.same ((s3.trans s4).trans s5))).trans k6
    have t16 := tsKp F1 k16
    have d1 : Dp K (upd H6 u2 (.tup [y, .int (r / 6)])) (.ref t2) (.tuple [.str p.c, argsD p.as]) := dpSame s7 _ _ (.tup ((tsKp F5 k6).tup (sameTup (s4.trans s5) ht2')) (.cons (.str _) (.cons (dpTS t16 (plArgs _) _ hpa) .nil)))
    have d2 : Dp K (upd H6 u2 (.tup [y, .int (r / 6)])) (.ref u2) (.tuple [rowsD (p.rs ++ [row]), .int (r / 6)]) := .tup (.inl (.inl upd_same)) (.cons (dpSame s7 _ _ (dpTS (tsKp F5 k6) (plRows _) _ dy2)) (.cons (.int _) .nil))
    refine catD d1 d2 (by show 2 + 2 ≤ 1000; omega) fun y2 H8 s8 dy8 => ?_
    have dp' : Dp K H8 y2 (pcD ⟨p.c, p.as, p.rs ++ [row], r / 6⟩) := dy8
    have k18 := k16.trans (Kp.same (s7.trans s8))
    have F8 := F6.same (s7.trans s8)
    refine ⟨.ref a, rfl, vs, rfl, a, vs, st, rfl, F8, dpTS (tsKp F1 k18) (plStp _) _ hs, okq.1.2.2, fun r5 s' H9 ok' dr k9 F9 => ⟨(by show 2 ≤ sizeLine; decide), fun t5 ht5 => ⟨(by show 1 ≤ sizeLine; decide), fun M hM => ?_⟩⟩⟩
    have lrs := okq.2
    have lrs' : p.rs.length ≤ m := lrs
    refine fin1 (k18.trans k9) F9 (dpTS (tsKp F8 k9) (plPc _) _ dp') dr ⟨⟨⟨okq.1.1.c, okq.1.1.as, okq.1.1.al, fun r' hr' => ?_, ?_⟩, by show 0 ≤ r / 6; omega, ok'⟩, ?_⟩ t5 ht5 M hM
    · rcases List.mem_append.mp hr' with h | h
      · exact okq.1.1.rs r' h
      · rw [List.mem_singleton.mp h]; exact ⟨lrow, orow⟩
    · show (p.rs ++ [row]).length ≤ 100
      rw [List.length_append]
      show p.rs.length + 1 ≤ 100
      omega
    · show (p.rs ++ [row]).length ≤ m + 1
      rw [List.length_append]
      show p.rs.length + 1 ≤ m + 1
      omega
end
end REC

set_option Elab.async false
set_option linter.all false
set_option maxRecDepth 100000
set_option maxHeartbeats 8000000
/-! for the law: what is due is of right sizes; both are alike; dict(pairs) -/
namespace REC
open PySem PySem.Spec PyProof.Rows L2 ND KS KS.La PLC
def ResFit (n : Nat) : Res → Prop
  | .made S => (∀ q ∈ S, PrOk q) ∧ S.length ≤ n
  | .bad k p => Ok p ∧ SOk k ∧ k.length ≤ 2000
theorem words3 : (SOk "clash" ∧ ("clash" : Str).length ≤ 2000) ∧ (SOk "gap" ∧ ("gap" : Str).length ≤ 2000) ∧ (SOk "again" ∧ ("again" : Str).length ≤ 2000) ∧ SOk "made" ∧ ("made" : Str).length ≤ 2000 := ⟨⟨by unfold SOk; decide +kernel, by decide +kernel⟩, ⟨by unfold SOk; decide +kernel, by decide +kernel⟩, ⟨by unfold SOk; decide +kernel, by decide +kernel⟩, by unfold SOk; decide +kernel, by decide +kernel⟩
theorem lwGo_bad {T : List (Pc × Stp)} : ∀ {S : List Pc} {W : List (Pc × List Str)} {r : Res}, lwGo T S W = some r → ∃ k p, r = .bad k p ∧ p ∈ S ∧ SOk k ∧ k.length ≤ 2000
  | [], _, _, h => by cases h
  | p :: S, W, r, h => by
    have go : ∀ {W'}, lwGo T S W' = some r → ∃ k q, r = .bad k q ∧ q ∈ p :: S ∧ SOk k ∧ k.length ≤ 2000 := fun h => by
      obtain ⟨k, q, e, m, o⟩ := lwGo_bad h
      exact ⟨k, q, e, List.mem_cons_of_mem _ m, o⟩
    rw [lwGo] at h
    split at h
    · cases h
      exact ⟨_, p, rfl, List.mem_cons_self, words3.2.1⟩
    · split at h
      · split at h
        · cases h
          exact ⟨_, p, rfl, List.mem_cons_self, words3.2.2.1⟩
        · exact go h
      · exact go h
theorem sorted_mem {T : List (Pc × Stp)} {q : Pc × Stp} (h : q ∈ sorted T) : q ∈ T := by
  obtain ⟨p, _, e⟩ := List.mem_filterMap.mp h
  obtain ⟨s, hs, rfl⟩ := Option.map_eq_some_iff.mp e
  exact aLook_mem hs
theorem dict_mem {L : List (Pc × Stp)} {q : Pc × Stp} (h : q ∈ dictT L) : q ∈ L := by
  induction L using snocInd with
  | h0 => cases h
  | hs L x ih =>
    have e : dictT (L ++ [x]) = aPut (dictT L) x.1 x.2 := by
      show (L ++ [x]).foldl (fun T q => aPut T q.1 q.2) [] = _
      rw [List.foldl_append]
      rfl
    rw [e] at h
    rcases aPut_of h with h | h
    · exact List.mem_append.mpr (.inl (ih h))
    · exact List.mem_append.mpr (.inr (by rw [h]; exact List.mem_cons_self))
theorem dict_nd (L : List (Pc × Stp)) : ((dictT L).map (·.1)).Nodup := by
  induction L using snocInd with
  | h0 => exact List.nodup_nil
  | hs L x ih =>
    have e : dictT (L ++ [x]) = aPut (dictT L) x.1 x.2 := by
      show (L ++ [x]).foldl (fun T q => aPut T q.1 q.2) [] = _
      rw [List.foldl_append]
      rfl
    rw [e]
    exact aPut_nd ih
theorem dict_len (L : List (Pc × Stp)) : (dictT L).length ≤ L.length := by
  rw [dictLw]
  exact lw_len L
theorem lawFit {L : List (Pc × Stp)} (ok : ∀ q ∈ L, PrOk q) : ResFit L.length (lawRes L) := by
  unfold lawRes
  cases e : lawBad L with
  | none =>
    refine ⟨fun q hq => ok q (dict_mem (sorted_mem hq)), Nat.le_trans (List.length_filterMap_le _ _) ?_⟩
    rw [(srtPm _).length_eq, List.length_map]
    exact dict_len L
  | some r =>
    unfold lawBad at e
    have keys : ∀ p ∈ (lwT L).1.map (·.1), Ok p := fun p hp => by
      obtain ⟨q, hq, rfl⟩ := List.mem_map.mp hp
      rw [← dictLw] at hq
      exact (ok q (dict_mem hq)).1
    split at e
    · rename_i p r2 es
      cases e
      have m : p ∈ srt (dd (lwT L).2) := by rw [es]; exact List.mem_cons_self
      obtain ⟨s, t, h1, _⟩ := (lwOf L).two p (ddSub ((srtPm _).mem_iff.mp m))
      exact ⟨(ok _ h1).1, words3.1⟩
    · obtain ⟨k, p, rfl, m, o⟩ := lwGo_bad e
      exact ⟨keys p ((srtPm _).mem_iff.mp m), o⟩
theorem sameRes {K : PySem.W.Frag} {H : Hp} {v u : V} {res : Res} {n : Nat} (hn : n ≤ 1000) (ft : ResFit n res) (a : ResAt K H v res) (b : ResAt K H u res) : Sv K H 6 v u := by
  cases res with
  | made S =>
    obtain ⟨t, l, xs, rfl, ht, hl, hx⟩ := a
    obtain ⟨t', l', xs', rfl, ht', hl', hx'⟩ := b
    refine .tup ht ht' rfl (by show 2 ≤ 1000; omega) fun i v w e1 e2 => ?_
    match i, e1, e2 with
    | 0, e1, e2 =>
      cases e1
      cases e2
      exact .flat (.str _)
    | 1, e1, e2 =>
      cases e1
      cases e2
      exact TRE.svLst (n := 4) (ds := S.map prD) (fun d hd => by obtain ⟨q, hq, rfl⟩ := List.mem_map.mp hd; exact odPr (ft.1 q hq)) (by rw [List.length_map]; exact Nat.le_trans ft.2 hn) hl hl' hx hx'
    | i + 2, e1, _ => cases e1
  | bad k p =>
    refine TRE.svDp (n := 6) (d := .tuple [.str k, pcD p]) (Od.up (n := 4) (.tup (by show 2 ≤ 100; omega) fun d hd => ?_) (by omega)) a b
    have : d = .str k ∨ d = pcD p := by simpa using hd
    rcases this with rfl | rfl
    · exact .str _ ft.2.1 ft.2.2
    · exact odPc ft.1
theorem nePrs {K : PySem.W.Frag} {H : Hp} {a b : Addr} {xs ys : List V} {L : List (Pc × Stp)} {Q : VK} (ha : H a = some (.lst xs)) (hb : H b = some (.lst ys)) (hx : DpAll K H xs (L.map prD)) (hy : DpAll K H ys (L.map prD)) (ok : ∀ q ∈ L, PrOk q) (q : Q (.bl false) H) : rNeD K (.ref a) (.ref b) H Q := by
  refine ⟨.list (L.map prD), .list (L.map prD), .lst (.inl (.inl ha)) hx, .lst (.inl (.inl hb)) hy, shPrs ok, shPrs ok, ?_⟩
  rw [SeqAt.eqv_refl _ (SeqAt.canLay_of_shaped (shPrs ok))]
  exact q
/-! ### dict(pairs) -/
theorem store_mem {kvs : List KvD} {e : PyData} {a : Addr} {v : V} {q : KvD} (h : q ∈ storeD kvs e a v) : (∃ q0 ∈ kvs, q.1 = q0.1 ∧ q.2.1 = q0.2.1) ∨ q = (e, a, v) := by
  unfold storeD at h
  split at h
  · obtain ⟨q0, h0, rfl⟩ := List.mem_map.mp h
    refine .inl ⟨q0, h0, ?_⟩
    split <;> exact ⟨rfl, rfl⟩
  · rcases List.mem_append.mp h with h | h
    · exact .inl ⟨q, h, rfl, rfl⟩
    · exact .inr (List.mem_singleton.mp h)
def Q3 (K : PySem.W.Frag) (H : Hp) (q : KvD) (x : Pc × Stp) : Prop := q.1 = pcD x.1 ∧ Dp K H (.ref q.2.1) q.1 ∧ Dp K H q.2.2 (stpD x.2)
theorem prsSplit {K : PySem.W.Frag} {H : Hp} : ∀ {L : List (Pc × Stp)} {xs : List V}, DpAll K H xs (L.map prD) → ∃ (ps : List Addr) (qs : List KvD), xs = ps.map V.ref ∧ Paired (PrN K H) ps qs ∧ Paired (Q3 K H) qs L
  | [], _, .nil => ⟨[], [], rfl, .nil, .nil⟩
  | x :: L, _, .cons h r => by
    obtain ⟨ps, qs, rfl, p1, p2⟩ := prsSplit (L := L) r
    obtain ⟨t, vp, vs, rfl, ht, hp, hs⟩ := prAt h
    obtain ⟨pa, _, _, rfl, _⟩ := pcAt hp
    exact ⟨t :: ps, (pcD x.1, pa, vs) :: qs, rfl, .cons ⟨ht, hp, kdPc.pl _⟩ p1, .cons ⟨rfl, hp, hs⟩ p2⟩
theorem storeTab {K : PySem.W.Frag} {H : Hp} {qs : List KvD} {L : List (Pc × Stp)} (h : Paired (Q3 K H) qs L) : ∀ {kvs : List KvD} {T : List (Pc × Stp)}, Paired (Rw K H pcD stpD) kvs T → (∀ q ∈ kvs, Pl 8 q.1 ∧ Dp K H (.ref q.2.1) q.1) →
    Paired (Rw K H pcD stpD) (storeAll kvs qs) (L.foldl (fun T q => aPut T q.1 q.2) T) ∧ ∀ q ∈ storeAll kvs qs, Pl 8 q.1 ∧ Dp K H (.ref q.2.1) q.1 := by
  induction h with
  | nil => exact fun p k => ⟨p, k⟩
  | @cons q x qs L hq _ ih =>
    intro kvs T p k
    obtain ⟨e, h1, h2⟩ := hq
    refine ih (kvs := storeD kvs q.1 q.2.1 q.2.2) (T := aPut T x.1 x.2) ?_ fun q' hq' => ?_
    · rw [e]
      exact rwPut kdPc p _ h2
    · rcases store_mem hq' with ⟨q0, h0, e1, e2⟩ | rfl
      · rw [e1, e2]
        exact k q0 h0
      · refine ⟨?_, h1⟩
        show Pl 8 q.1
        rw [e]
        exact kdPc.pl _
theorem dictMk {P : Program} {w : World} {K : PySem.W.Frag} {H : Hp} {L : List (Pc × Stp)} {xs : List V} (h : DpAll K H xs (L.map prD)) : ∃ (ps : List Addr) (qs : List KvD), xs = ps.map V.ref ∧ Paired (PrN K H) ps qs ∧ ∀ p, H p = none → TA P w K (upd H p (ndO P w p ((storeAll [] qs).map kn))) p (dictT L) := by
  obtain ⟨ps, qs, e, p1, p2⟩ := prsSplit h
  refine ⟨ps, qs, e, p1, fun p hp => ?_⟩
  obtain ⟨r1, r2⟩ := storeTab p2 (kvs := []) (T := []) .nil fun q h => by cases h
  have s := sameUpd (o := ndO P w p ((storeAll [] qs).map kn)) hp
  exact ⟨_, ⟨upd_same, fun q hq => ⟨(r2 q hq).1, dpSame s _ _ (r2 q hq).2⟩⟩, rwTS (TS.same s) pvStp r1⟩
end REC

set_option Elab.async false
set_option linter.all false
set_option maxRecDepth 100000
set_option maxHeartbeats 4000000
/-! x in o, len(o), o[k], o(), o(k = v) by the methods of an own class -/
namespace OC
open PySem PySem.Spec PyProof.Rows L2 StX
def rInOwn (C : Addr) (sp : Sp) (E : XK) (g : Bool → Bool) : R2 := fun x y H Q => ∃ a dx fs, y = .ref a ∧ H a = some (.ins C dx fs) ∧ sp [y, x] H (fun v H' => ∃ c, v = .bl c ∧ Q (.bl (g c)) H') E
def rLenOwn (C : Addr) (sp : Sp) (E : XK) : List V → Hp → VK → Prop := fun xs H Q => ∃ a dx fs, xs = [.ref a] ∧ H a = some (.ins C dx fs) ∧ sp [.ref a] H (fun v H' => ∃ n : Int, v = .int n ∧ 0 ≤ n ∧ n < 2 ^ 63 ∧ Q (.int n) H') E
section
variable {X : Cx} {CX : CXT} {n : Nat} {C f : Addr} {sp : Sp} {E : XK}
theorem op_inOwn (F : FnR X.prog X.w X.K X.mg X.base CX n f sp) (hr : Room n X.A) (hs : PySem.W.findIn X.K (.ref C) "__contains__" = some (some (.ref f))) (hf : PySem.W.isFn X.K (.ref f) = true) (hx : Passes CX X E) : OpR X (compareOp .In) (rInOwn C sp E id) := by
  intro pins s σ H x y v u Q I rx ry h
  obtain ⟨a, dx, fs, rfl, ha, hsp⟩ := h
  cases ry
  obtain ⟨mA, J, _⟩ := ins_get I.hok ha
  obtain ⟨od, J, _⟩ := J.look
  obtain ⟨m, hF⟩ := I.fr
  refine PySem.W.in_K hF I.ok.mod.kin J hs hf ?_
  refine thn (wpAny_call (run_fnR (us := [.ref a, v]) (vs := [V.ref a, x]) F hr hx I (.cons rfl (.cons rx .nil)) hsp)) fun r s' ⟨z, H', I', rz, c, ez, q⟩ => ?_
  subst ez
  cases rz
  exact wpAny_truthy_bool ⟨.bl c, H', I', rfl, q⟩
theorem op_notInOwn (F : FnR X.prog X.w X.K X.mg X.base CX n f sp) (hr : Room n X.A) (hs : PySem.W.findIn X.K (.ref C) "__contains__" = some (some (.ref f))) (hf : PySem.W.isFn X.K (.ref f) = true) (hx : Passes CX X E) : OpR X (compareOp .NotIn) (rInOwn C sp E not) := by
  intro pins s σ H x y v u Q I rx ry h
  obtain ⟨a, dx, fs, rfl, ha, hsp⟩ := h
  cases ry
  obtain ⟨mA, J, _⟩ := ins_get I.hok ha
  obtain ⟨od, J, _⟩ := J.look
  obtain ⟨m, hF⟩ := I.fr
  refine PySem.W.notIn_K hF I.ok.mod.kin J hs hf ?_
  refine thn (wpAny_call (run_fnR (us := [.ref a, v]) (vs := [V.ref a, x]) F hr hx I (.cons rfl (.cons rx .nil)) hsp)) fun r s' ⟨z, H', I', rz, c, ez, q⟩ => ?_
  subst ez
  cases rz
  exact wpAny_truthy_bool ⟨.bl (!c), H', I', rfl, q⟩
theorem call_lenOwn (F : FnR X.prog X.w X.K X.mg X.base CX n f sp) (hr : Room (n + 1) X.A) (hs : PySem.W.findIn X.K (.ref C) "__len__" = some (some (.ref f))) (hf : PySem.W.isFn X.K (.ref f) = true) (hx : Passes CX X E) : CallR X (.builtin "len") (rLenOwn C sp E) := by
  intro pins s σ H xs us Q I r h
  obtain ⟨a, dx, fs, rfl, ha, hsp⟩ := h
  obtain ⟨u, rfl, ru⟩ := vals1 r
  cases ru
  obtain ⟨mA, J, _⟩ := ins_get I.hok ha
  obtain ⟨od, J, _⟩ := J.look
  obtain ⟨m, hF⟩ := I.fr
  refine PySem.W.len_K hF I.ok.mod.kin J hs hf ?_
  refine wpAny_call (codeAny_mono (F X.A.in1 X.stack s H [.ref a] [V.ref a] _ E hr.in1 I.env0.in1 (.cons rfl .nil) hsp) fun r s' hq => ?_)
  cases r with
  | error e => exact hx pins σ H s e s' I hq
  | ok fl =>
    cases fl with
    | ret u =>
      obtain ⟨z, H', I', rz, k, ez, h0, h1, q⟩ := I.after hq
      subst ez
      obtain ⟨t, rfl⟩ := rz
      exact ⟨⟨h0, h1⟩, .int k, H', I'.tok _, ⟨_, rfl⟩, q⟩
    | next => exact False.elim hq
    | brk => exact False.elim hq
    | cont => exact False.elim hq
end
section
variable {M : Model} {A : Around} {E : Value → Shared → Prop} {s : Shared} {a : Addr} {pos : Pos} {Q : Value → Shared → Prop} {args : List (Bool × Sem Value)} {kws : List (Option Str × Sem Value)}
theorem callsOwn (hplain : (args.any (·.1) || kws.any (·.1.isNone)) = false)
    (h : wpAny M A (evalArgs (.ref a) true args kws) (fun z t => (∃ C ox od, PySem.W.InstAt t.heap a ox C od ∧ ox.data = .plain) ∧ wpAny M A (call (.ref a) ([] ++ z.pos) z.kw) Q E t) E s) : wpAny M A (callWith pos (.ref a) [] args kws) Q E s := by
  unfold callWith
  refine wpAny_bind (wpAny_holding (thn h fun z t ⟨⟨C, ox, od, J, hd⟩, hq⟩ => wpAny_bind (wpAny_standAt ?_)))
  have L := PySem.W.kco_keeper (M := M) J hd
  simp only [hplain]
  refine wpAny_bind (L.here ?_)
  have last : ∀ {m : Sem Value}, wpAny M A m Q E t → wpAny M A (do let r ← m; holding [r] point; pure r) Q E t := fun hm => wpAny_bind (thn hm fun r t2 hr => wpAny_bind (wpAny_holding (wpAny_point (wpAny_pure hr))))
  exact last (wpAny_operateT hq)
end
section
variable {X : Cx} {CX : CXT} {k : Nat} {C g : Addr} {fd : FuncData} {ps ks : List Str} {sp : Sp} {E : XK} {fe : Expr} {tf : TE} {tk : TA} {pos : Pos} {kws : List Keyword} {gg : List Value → List Value → List Value} {gV : List V → List V → List V}
/-- o() -/
theorem pe_callO0 (hf : PE X fe tf) (c : CallO X.K C g) (F : FnR X.prog X.w X.K X.mg X.base CX k g sp) (hr : Room k X.A) (hx : Passes CX X E)
    (ht : eval (.Call fe [] [] pos) X.env = (do callWith pos (← eval fe X.env) [] (backTo pos (starEach [] X.env)) (backToKw pos (keywordEach [] X.env))) := by rfl) : PE X (.Call fe [] [] pos) (tCallO X C sp E tf tNil) := by
  refine ⟨fun pins s σ H Q I h => ?_⟩
  refine Call_ (thn (hf.run pins s σ H _ I h) fun u s1 ⟨y, H1, I1, ry, a, ey, hi, q⟩ => ?_) ht
  subst ey
  obtain rfl : u = Value.ref a := ry
  obtain ⟨ox, od, J, hd⟩ := insC_at I1 hi
  exact callsOwn rfl (evalArgs_nil3 ⟨⟨C, ox, od, J, hd⟩, run_callO c F hr hx I1 hi .nil q⟩)
/-- o(x = e, ..) -/
def tCallOK (X : Cx) (C : Addr) (sp : Sp) (gV : List V → List V → List V) (E : XK) (tf : TE) (tk : TA) : TE := fun σ H Q => tf σ H fun y H1 => ∃ a, y = V.ref a ∧ tk σ H1 fun zs H2 => InsC X H2 a C ∧ sp (gV [.ref a] zs) H2 Q E
theorem pe_callOK (hf : PE X fe tf) (c : CallO X.K C g) (F : FnOk X.prog X.w X.K X.mg X.base CX k g fd ps sp) (hr : Room k X.A) (hb : KBinds X.K fd ps ks gg gV) (hx : Passes CX X E) (hkw : PK X kws tk)
    (ht : eval (.Call fe [] kws pos) X.env = (do callWith pos (← eval fe X.env) [] (backTo pos (starEach [] X.env)) (backToKw pos (keywordEach kws X.env))) := by rfl)
    (hall : (backToKw pos (keywordEach kws X.env)).all (·.1.isSome) = true := by rfl) (hnone : (backToKw pos (keywordEach kws X.env)).any (·.1.isNone) = false := by rfl) (hks : (backToKw pos (keywordEach kws X.env)).filterMap (·.1) = ks := by rfl) :
    PE X (.Call fe [] kws pos) (tCallOK X C sp gV E tf tk) := by
  refine ⟨fun pins s σ H Q I h => ?_⟩
  rw [ht]
  refine wpAny_bind (thn (hf.run pins s σ H _ I h) fun u s1 ⟨y, H1, I1, ry, a, ey, q⟩ => ?_)
  subst ey
  obtain rfl : u = Value.ref a := ry
  refine callsOwn hnone (evalArgs_kw_nil hall (thn (hkw.run pos pins s1 σ H1 _ I1 q) fun ws s2 ⟨zs, H2, I2, rz, hi, q2⟩ => ?_))
  obtain ⟨ox, od, J, hd⟩ := insC_at I2 hi
  refine ⟨⟨C, ox, od, J, hd⟩, ?_⟩
  rw [hks]
  have r2 := hb.rel (us := [.ref a]) (vs := [.ref a]) (.cons rfl .nil) rz
  have hl : (gg [.ref a] ws).length = ps.length := by rw [← r2.length]; exact F.len _ _ _ _ q2
  refine wpAny_call (PySem.W.kco_code I2.kIn J hd c.at_ c.fn c.fi (codeAny_mono (F.run X.A X.stack s2 H2 ⟨[.ref a], ks.zip ws⟩ (gg [.ref a] ws) (gV [.ref a] zs) Q E hr I2.env0 (hb.to s2 [.ref a] ws I2.kIn hl) r2 q2) fun r s' hq => ?_))
  cases r with
  | error e => exact hx pins σ H2 s2 e s' I2 hq
  | ok fl =>
    cases fl with
    | ret u => exact I2.after hq
    | next => exact False.elim hq
    | brk => exact False.elim hq
    | cont => exact False.elim hq
end
end OC

set_option Elab.async false
set_option linter.all false
set_option maxRecDepth 100000
set_option maxHeartbeats 16000000
/-! the law -/
namespace REC
open PySem PySem.Spec PyProof.Rows L2 ND KS KS.La PLC
open KX hiding sameUpd
open TRE (fdNe tsKp RK RecOk callsL)
abbrev lLaw : Stmt := top 53
abbrev nLaw : List Str := ["_law_script", "_law_k", "_law_feed", "_law_recipes", "_law_targets", "_law_steps", "_law_good", "_law_lots", "_law_pairs", "_law_kept", "_law_due", "_law_told"]
def spLaw (K : PySem.W.Frag) : Sp := fun vs H Q _ => ∃ (a : Addr) (ns : List Int), vs = [.ref a] ∧ SqL K H a (ns.map V.int) ∧ ns.length ≤ 63 ∧ ∀ H', Q (.bl true) H'
abbrev stt (s : Addr) (x1 x2 x3 x4 x5 x6 x7 x8 x9 x10 x11 : Option V) : L2.St := [some (.ref s), x1, x2, x3, x4, x5, x6, x7, x8, x9, x10, x11]
theorem scLaw : FnScope nLaw ["_law_script"] (defScope lLaw) := ⟨rfl, rfl, rfl, by decide +kernel, rfl, by decide +kernel, by decide +kernel⟩
/-- a list of pairs, none of these objects -/
def Lot (K : PySem.W.Frag) (ex : List Addr) (m n : Nat) (H : Hp) (v : V) : Prop := ∃ (l : Addr) (xs : List V) (L : List (Pc × Stp)), v = .ref l ∧ H l = some (.lst xs) ∧ (∀ b ∈ ex, l ≠ b) ∧ DpAll K H xs (L.map prD) ∧ (∀ q ∈ L, PrB m q) ∧ L.length ≤ n
theorem Lot.keep {K : PySem.W.Frag} {ex : List Addr} {m n : Nat} {H H' : Hp} {v : V} (h : Lot K ex m n H v) (t : TS H H') (k : ∀ b o, b ∉ ex → H b = some o → H' b = some o) : Lot K ex m n H' v := by
  obtain ⟨l, xs, L, rfl, e, ne, d, o, ln⟩ := h
  exact ⟨l, xs, L, rfl, k l _ (fun m => ne l m rfl) e, ne, prsTS t d, o, ln⟩
theorem Lot.same {K : PySem.W.Frag} {ex : List Addr} {m n : Nat} {H H' : Hp} {v : V} (h : Lot K ex m n H v) (s : Same H H') : Lot K ex m n H' v := h.keep (TS.same s) fun b o _ e => s b o e
theorem Lot.fit {K : PySem.W.Frag} {ex : List Addr} {m n m' n' : Nat} {H : Hp} {v : V} (h : Lot K ex m n H v) (hm : m ≤ m') (hn : n ≤ n') : Lot K [] m' n' H v := by
  obtain ⟨l, xs, L, rfl, e, ne, d, o, ln⟩ := h
  exact ⟨l, xs, L, rfl, e, fun b hb => (by cases hb), d, fun q hq => ⟨(o q hq).1, Nat.le_trans (o q hq).2 hm⟩, Nat.le_trans ln hn⟩
theorem cutPre {K : PySem.W.Frag} {H : Hp} {xs : List V} {L : List (Pc × Stp)} (h : DpAll K H xs (L.map prD)) (i : Nat) : ∃ M : List (Pc × Stp), DpAll K H (cutV xs none (some (i : Int))) (M.map prD) ∧ (∀ q ∈ M, q ∈ L) ∧ M.length ≤ i := by
  have e : cutV xs none (some (i : Int)) = xs.take (min i xs.length) := by
    show (xs.drop 0).take (HT.sIx xs.length xs.length (some (i : Int)) - 0) = _
    rw [HT.sIx_nat]
    rfl
  refine ⟨L.take (min i xs.length), ?_, fun q hq => List.mem_of_mem_take hq, ?_⟩
  · rw [e, List.map_take]
    exact dpTake h
  · rw [List.length_take]
    omega
theorem ResAt.same {K : PySem.W.Frag} {H H' : Hp} {v : V} {res : Res} (h : ResAt K H v res) (s : Same H H') : ResAt K H' v res := by
  cases res with
  | made S =>
    obtain ⟨t, l, xs, e, ht, hl, hx⟩ := h
    exact ⟨t, l, xs, e, sameTup s ht, s _ _ hl, dpAllSame s _ _ hx⟩
  | bad k p => exact dpSame s _ _ h
/-- what the law rests on -/
structure RecL (P : Program) (w : World) (K : PySem.W.Frag) (mg : Str → Option Value) (base : Heap) (M : Nat) (CC CG CW CR : Addr) : Prop where
  gm : mg "Record" = some (.ref CR)
  ini : ∃ (f : Addr) (fd : FuncData) (t : Addr) (ds : List Value), Mk K CR f ∧ Vals [V.ref t] ds ∧ (∀ H, SqT K H t []) ∧ Binds K fd ["self", "steps"] [] ∧ Binds K fd ["self", "steps"] ds ∧ FnOk P w K mg base (L2.CX P w) M f fd ["self", "steps"] (spRInit P w K CC CG CW CR)
  len : ∃ (f : Addr) (fd : FuncData), PySem.W.findIn K (.ref CR) "__len__" = some (some (.ref f)) ∧ PySem.W.isFn K (.ref f) = true ∧ Binds K fd ["self"] [] ∧ FnOk P w K mg base CX0 1 f fd ["self"] (spRLen P w K CR)
  eq : ∃ (f : Addr) (fd : FuncData), PySem.W.findIn K (.ref CR) "__eq__" = some (some (.ref f)) ∧ PySem.W.isFn K (.ref f) = true ∧ Binds K fd ["self", "other"] [] ∧ FnOk P w K mg base CX0 1 f fd ["self", "other"] (spEq (bothEmpty P w K CR))
theorem not2 {l a b : Addr} (h1 : l ≠ a) (h2 : l ≠ b) : ∀ c ∈ [a, b], l ≠ c := fun c hc => by
  have : c = a ∨ c = b := by simpa using hc
  rcases this with rfl | rfl
  · exact h1
  · exact h2
/-- a record of nothing -/
theorem recEmpty {P : Program} {w : World} {K : PySem.W.Frag} {CC CG CW CR : Addr} {H : Hp} {x dx l : Addr} {R : Hp → Prop} (hx : H x = none) (hdx : H dx = none) (_ne : dx ≠ x) (hl : SqL K H l [] ∨ SqT K H l []) (q : ∀ H', Same H H' → RcAt P w K CR H' x [] → R H') :
    spRInit P w K CC CG CW CR [.ref x, .ref l] (upd (upd H dx (.own x)) x (.ins CR dx [])) (fun v H2 => v = .non ∧ R H2) E0 := by
  have sN : Same H (upd (upd H dx (.own x)) x (.ins CR dx [])) := fun b o hb => by
    rw [upd_ne (ne_of_none hb hx), upd_ne (ne_of_none hb hdx)]
    exact hb
  have nil : srt (dd ([] : List Pc)) = [] := List.perm_nil.mp (srtPm _)
  refine ⟨x, dx, l, [], [], rfl, upd_same, hl.elim (fun h => .inl (sN.seq h)) (fun h => .inr (sameTup sN h)), .nil, fun q h => (by cases h), Nat.zero_le _, fun p r e => ?_, fun _ G gr => ⟨fun _ H' k hR => ⟨rfl, q H' (fun b o hb => k b o (ne_of_none hb hx) (sN _ _ hb)) hR⟩, fun p r e => ?_⟩⟩
  · have e2 : srt (dd ([] : List Pc)) = p :: r := e
    rw [nil] at e2
    cases e2
  · have eG : G = [] := List.perm_nil.mp gr.pm
    subst eG
    have e2 : srt [] = p :: r := e
    rw [List.perm_nil.mp (srtPm _)] at e2
    cases e2
section
variable {P : Program} {w : World} {K : PySem.W.Frag} {mg : Str → Option Value} {base : Heap} {f : Addr} {fd : FuncData}
theorem okLaw {M : Nat} {CC CG CW CR : Addr} (hM : 3 ≤ M) (F : FnP K "law" lLaw f fd) (B : Bn mg) (md : mg "dict" = none) (RL : RecL P w K mg base M CC CG CW CR)
    (Fe : Has P w K mg base M "_law_feed_of" ["_law_script", "_law_k"] (spFeed K)) (Dr : Has P w K mg base M "_law_draw" ["_law_feed", "_law_many"] spDraw)
    (Wo : ∃ (f : Addr) (fd : FuncData) (ds : List Value), mg "_law_world" = some (.ref f) ∧ PySem.W.keepIn K (.ref f) = true ∧ Vals [V.bl false] ds ∧ Binds K fd ["_law_feed", "_law_many", "_law_has_knots"] ds ∧ FnOk P w K mg base CX0 M f fd ["_law_feed", "_law_many", "_law_has_knots"] (TRE.spWorld K))
    (Wk : Has P w K mg base M "_law_walked" ["_law_feed", "_law_recipes", "_law_many"] (spWalked P w K)) (Mx : Has P w K mg base M "_law_mixed" ["_law_feed", "_law_items"] (TRE.spMixG K prD)) (Po : Has P w K mg base M "_law_pairs_of" ["_law_steps"] (spPairs P w K))
    (Op : Has P w K mg base M "_law_odd_pairs" ["_law_feed", "_law_pairs"] (spOddP K)) (Fa : Has P w K mg base M "_law_fault_of" ["_law_pairs"] (spFault P w K)) (Re : Has P w K mg base M "_law_refused_by" ["_law_pairs"] (spRefused K)) (Sm : Has P w K mg base M "_law_same" ["_law_found", "_law_due"] (spSame K 6)) :
    FnOk P w K mg base CX0 (M + 2) f fd ["_law_script"] (spLaw K) := by
  obtain ⟨f1, d1, g1, k1, b1, G1⟩ := Fe.ex
  obtain ⟨f2, d2, g2, k2, b2, G2⟩ := Dr.ex
  obtain ⟨fW, dW, dsW, gW, kW, vW, bW, GW⟩ := Wo
  obtain ⟨f3, d3, g3, k3, b3, G3⟩ := Wk.ex
  obtain ⟨f4, d4, g4, k4, b4, G4⟩ := Mx.ex
  obtain ⟨f5, d5, g5, k5, b5, G5⟩ := Po.ex
  obtain ⟨f6, d6, g6, k6, b6, G6⟩ := Op.ex
  obtain ⟨f7, d7, g7, k7, b7, G7⟩ := Fa.ex
  obtain ⟨f8, d8, g8, k8, b8, G8⟩ := Re.ex
  obtain ⟨f9, d9, g9, k9, b9, G9⟩ := Sm.ex
  obtain ⟨fI, dI, tI, dsI, MI, vI, eI, bI, bI0, GI⟩ := RL.ini
  obtain ⟨fL, dL, hL1, hL2, bL, GL⟩ := RL.len
  obtain ⟨fE, dE, hE1, hE2, bE, GE⟩ := RL.eq
  refine F.ok scLaw (fun vs H Q E h => ?_) (fun cdv A outer s H vs Q E hr h => ?_)
  · obtain ⟨a, ns, rfl, _⟩ := h
    rfl
  · obtain ⟨sc, ns, rfl, hSc, hlen, q⟩ := h
    have hu := hr.units
    have hu12 : (A.deeper (envOfC "law" (defScope lLaw) s.heap.objs.size f cdv)).units + 12 < cLine := Nat.lt_of_le_of_lt (Nat.add_le_add_left (by decide) _) hu
    have r0 : Room M _ := hr.mono (by omega)
    have r1 : Room 1 _ := hr.mono (by omega)
    have r2 : Room 2 _ := hr.mono (by omega)
    refine ⟨_, PSs.nox (C8.pss_cut (ps_for PassesOwn.never rfl (pi_range1 (by rfl) B.range (pa_cons (pe_callB (call_max2 rfl) (by rfl) B.max (by decide +kernel) (pa_cons (pe_int) (pa_cons (pe_callB (call_min2 rfl) (by rfl) B.min (by decide +kernel) (pa_cons (pe_int) (pa_cons (pe_callB call_len_seq (by rfl) B.len PySem.boot_len (pa_cons (pv 0) pa_nil)) pa_nil))) pa_nil))) pa_nil)) (pg_name (i := 1) scLaw.nd rfl (.inl rfl))
      (C8.pss_cut (ps_set (i := 2) scLaw.nd rfl (.inl rfl) (pe_call G1 r0 (by rfl) g1 k1 b1 .nil pass0 (pa_cons (pv 0) (pa_cons (pv 1) pa_nil)))) (C8.pss_cut (ps_asg (pe_call GW r0 (by rfl) gW kW bW vW pass0 (pa_cons (pv 2) (pa_cons (pe_op op_add pe_int (pe_call G2 r0 (by rfl) g2 k2 b2 .nil pass0 (pa_cons (pv 2) (pa_cons (pe_int) pa_nil)))) pa_nil))) (pg_tup rfl (pgs_cons (pg_name (i := 3) scLaw.nd rfl (.inl rfl)) (pgs_cons (pg_name (i := 4) scLaw.nd rfl (.inl rfl)) pgs_nil)))) (C8.pss_cut (ps_set (i := 5) scLaw.nd rfl (.inl rfl) (pe_call G3 r0 (by rfl) g3 k3 b3 .nil pass0 (pa_cons (pv 2) (pa_cons (pv 3) (pa_cons (pe_call G2 r0 (by rfl) g2 k2 b2 .nil pass0 (pa_cons (pv 2) (pa_cons (pe_int) pa_nil))) pa_nil))))) (C8.pss_cut (ps_set (i := 6) scLaw.nd rfl (.inl rfl) (pe_call G4 r0 (by rfl) g4 k4 b4 .nil pass0 (pa_cons (pv 2) (pa_cons (pe_call G5 r0 (by rfl) g5 k5 b5 .nil pass0 (pa_cons (pv 5) pa_nil)) pa_nil)))) (C8.pss_cut (ps_set (i := 6) scLaw.nd rfl (.inl rfl) (pe_op op_cat (pv 6) (pe_slice sl_list (pv 6) po_none (po_some (pe_call G2 r0 (by rfl) g2 k2 b2 .nil pass0 (pa_cons (pv 2) (pa_cons (pe_int) pa_nil))))))) (C8.pss_cut (ps_set (i := 7) scLaw.nd rfl (.inl rfl) (pe_lst (pa_cons (pv 6) (pa_cons (pe_call G6 r0 (by rfl) g6 k6 b6 .nil pass0 (pa_cons (pv 2) (pa_cons (pv 6) pa_nil))) (pa_cons (pe_call G6 r0 (by rfl) g6 k6 b6 .nil pass0 (pa_cons (pv 2) (pa_cons (pv 6) pa_nil))) pa_nil))))) (C8.pss_cut (ps_expr (pe_bm PySem.F.plainAttrs_list PySem.F.slot_list_append PySem.F.type_list_append mt_append (pv 7) (pa_cons (pe_call G6 r0 (by rfl) g6 k6 b6 .nil pass0 (pa_cons (pv 2) (pa_cons (pe_call G6 r0 (by rfl) g6 k6 b6 .nil pass0 (pa_cons (pv 2) (pa_cons (pv 6) pa_nil))) pa_nil))) pa_nil))) (C8.pss_cut (ps_expr (pe_bm PySem.F.plainAttrs_list PySem.F.slot_list_append PySem.F.type_list_append mt_append (pv 7) (pa_cons (pe_call G6 r0 (by rfl) g6 k6 b6 .nil pass0 (pa_cons (pv 2) (pa_cons (pe_call G4 r0 (by rfl) g4 k4 b4 .nil pass0 (pa_cons (pv 2) (pa_cons (pe_call G6 r0 (by rfl) g6 k6 b6 .nil pass0 (pa_cons (pv 2) (pa_cons (pe_ix ix_list (pv 7) pe_int (fun _ _ => rfl)) pa_nil))) pa_nil))) pa_nil))) pa_nil))) (pss_one (ps_for PassesOwn.never rfl (pi_list (pv 7)) (pg_name (i := 8) scLaw.nd rfl (.inl rfl))
          (C8.pss_cut (ps_par (i := 9) (j := 10) rfl scLaw.nd rfl rfl (by decide) rfl rfl (pa_cons (pe_callTy (T := "list") call_list_of (by rfl) B.list (by decide +kernel) (pa_cons (pv 8) pa_nil)) (pa_cons (pe_call G7 r0 (by rfl) g7 k7 b7 .nil pass0 (pa_cons (pv 8) pa_nil)) pa_nil)) (by rfl)) (C8.pss_cut (ps_if (pt_cmp (pc_isN (pv 10))) (pss_one (ps_set (i := 10) scLaw.nd rfl (.inl rfl) (pe_tup (pa_cons (pe_str) (pa_cons (pe_call G5 r0 (by rfl) g5 k5 b5 .nil pass0 (pa_cons (pe_callTy (T := "dict") (call_dictN hu12 rfl) (by rfl) md (by decide +kernel) (pa_cons (pv 8) pa_nil)) pa_nil)) pa_nil))))) pss_nil) (pss_one (ps_for PassesOwn.never rfl (pi_tup (pe_tup (pa_cons (pv 8) (pa_cons (pe_callTy (r := TRE.rTup K) (T := "tuple") call_tuple_of (by rfl) B.tuple (by decide +kernel) (pa_cons (pv 8) pa_nil)) pa_nil)))) (pg_name (i := 11) scLaw.nd rfl (.inl rfl))
              (pss_one (ps_if (PW.pt (pw_or (pt_not (pt_val (pe_call G9 r0 (by rfl) g9 k9 b9 .nil pass0 (pa_cons (pe_call G8 r0 (by rfl) g8 k8 b8 .nil pass0 (pa_cons (pv 11) pa_nil)) (pa_cons (pv 10) pa_nil))))) (pw_or1 (pt_cmpR (r := rNeD K) (op_neD hu) (pv 8) (pv 9) (nomark _))))) (pss_one (ps_ret pe_bl)) pss_nil))))))))))))))))) (pss_one (ps_ret (pe_and (pe_cmpR op_eq (pe_callB (OC.call_lenOwn (E := E0) (FnOk.raw GL bL .nil) r2 hL1 hL2 pass0) (by rfl) B.len PySem.boot_len (pa_cons (pe_make0 MI GI hr (by rfl) RL.gm bI0 vI passE0) pa_nil)) pe_int (nomark _)) (pe_one (pe_cmpR (r := rEqG (DIns CR (bothEmpty P w K CR))) (op_eqG (rcG_ins GE hE1 hE2 bE pass0) r1) (pe_make MI GI hr (by rfl) RL.gm bI .nil passE0 (pa_cons (pe_lst pa_nil) pa_nil)) (pe_make MI GI hr (by rfl) RL.gm bI .nil passE0 (pa_cons (pe_tup pa_nil) pa_nil)) (nomark _))))))), ?_⟩
    refine ⟨fun σ' H' => True, ?_, ?_⟩
    · refine ⟨.ref sc, rfl, sc, _, rfl, .inl hSc, 5, _, rfl, 2, _, rfl, _, rfl, ?b1, ?b2, ?main⟩
      case b1 => split <;> (try split) <;> omega
      case b2 => split <;> (try split) <;> omega
      case main =>
      have hN : ∀ L : Int, 0 ≤ L → (if (if L < 5 then L else 5) > 2 then (if L < 5 then L else 5) else 2).toNat ≤ 5 := fun L hL => by split <;> (try split) <;> omega
      refine forJ (n := _) (fun i σ' H' => (∃ x1 x2 x3 x4 x5 x6 x7 x8 x9 x10 x11, σ' = stt sc x1 x2 x3 x4 x5 x6 x7 x8 x9 x10 x11) ∧ SqL K H' sc (ns.map V.int)) ⟨⟨none, none, none, none, none, none, none, none, none, none, none, rfl⟩, hSc⟩ (fun i σ' H' lt _ => lt) (fun σ' H' _ => Nat.le_refl _) (fun i σ' H0 x H1 lt h y => ?_) (fun σ' H' h => trivial)
      obtain ⟨rfl, rfl⟩ := y
      obtain ⟨⟨x1, x2, x3, x4, x5, x6, x7, x8, x9, x10, x11, rfl⟩, hT⟩ := h
      have li : i < 5 := Nat.lt_of_lt_of_le lt (hN _ (Int.natCast_nonneg _))
      -- the feed
      refine ⟨fun σ' H2 => ∃ a, σ' = stt sc (some (.int (0 + i))) (some (.ref a)) x3 x4 x5 x6 x7 x8 x9 x10 x11 ∧ Same H1 H2 ∧ Fd H2 a ∧ H1 a = none, ?_, ?_⟩
      · exact ⟨.ref sc, rfl, .int (0 + i), rfl, sc, ns, 0 + i, rfl, hT, hlen, by omega, by omega, fun p Hp sm np fd => ⟨p, rfl, sm, fd, np⟩⟩
      rintro _ H2 ⟨a, rfl, s2, F2, na⟩
      have script : ∀ {H' : Hp}, Kp a H2 H' → SqL K H' sc (ns.map V.int) := fun k => Same.seq (fun b o hb => k b o (ne_of_none hb na) (s2 b o hb)) hT
      have newOf : ∀ {Hz : Hp} {n : Addr}, Kp a H2 Hz → Fd Hz a → Hz n = none → H2 n = none := fun {Hz n} k f hn => by
        cases e : H2 n with
        | none => rfl
        | some o =>
          have := k n o (fdNe f hn) e
          rw [hn] at this
          cases this
      -- the world
      refine ⟨fun σ' H3 => ∃ R y4 kvs L, σ' = stt sc (some (.int (0 + i))) (some (.ref a)) (some (.ref R)) y4 x5 x6 x7 x8 x9 x10 x11 ∧ H3 R = some (.dK kvs) ∧ R ≠ a ∧ RK K H3 kvs L ∧ RecOk L ∧ (∀ p ∈ L, p.1 ∈ callsL) ∧ L.length ≤ 12 ∧ Kp a H2 H3 ∧ Fd H3 a, ?_, ?_⟩
      · refine ⟨.ref a, rfl, .ref a, rfl, a, 3, rfl, F2, by decide, by decide, fun r H3 r0 r1 k3 F3 => ⟨4, r, rfl, rfl, a, (4 + r).toNat, ?_, F3, by omega, by omega, fun p R G kvs L H4 hp nR eR rk ok ca lL k4 F4 => ?_⟩⟩
        · show [V.ref a, V.int (4 + r), V.bl false] = _
          rw [Int.toNat_of_nonneg (by omega)]
        · exact ⟨p, _, rfl, hp, rfl, _, _, rfl, _, _, rfl, rfl, R, _, kvs, L, rfl, eR, fdNe F3 nR, rk, ok, ca, lL, k3.trans k4, F4⟩
      rintro _ H3 ⟨R, y4, kvs, L0, rfl, eR3, Ra, rk3, ok3, ca3, lL3, k3, F3⟩
      -- the steps
      refine ⟨fun σ' H4 => ∃ D T, σ' = stt sc (some (.int (0 + i))) (some (.ref a)) (some (.ref R)) y4 (some (.ref D)) x6 x7 x8 x9 x10 x11 ∧ TA P w K H4 D T ∧ TbFit T 63 ∧ Kp a H2 H4 ∧ Fd H4 a, ?_, ?_⟩
      · refine ⟨.ref a, rfl, .ref R, rfl, .ref a, rfl, a, 8, rfl, F3, by decide, by decide, fun r H4 r0 r1 k4 F4 => ?_⟩
        refine ⟨a, R, kvs, L0, r, rfl, r0, by omega, F4, k4 _ _ Ra eR3, Ra, rk3.ts (tsKp F3 k4), ok3, ca3, lL3, fun D T H5 nD hT5 fit k5 F5 => ?_⟩
        exact ⟨D, T, rfl, hT5, fit, (k3.trans k4).trans k5, F5⟩
      rintro _ H4 ⟨D, T, rfl, hT4, fit, k4, F4⟩
      -- the pairs, mixed
      refine ⟨fun σ' H5 => ∃ (g : Addr) (xs : List V) (L : List (Pc × Stp)), σ' = stt sc (some (.int (0 + i))) (some (.ref a)) (some (.ref R)) y4 (some (.ref D)) (some (.ref g)) x7 x8 x9 x10 x11 ∧ H5 g = some (.lst xs) ∧ g ≠ a ∧ DpAll K H5 xs (L.map prD) ∧ (∀ q ∈ L, PrB 10 q) ∧ L.length ≤ 63 ∧ Kp a H2 H5 ∧ Fd H5 a, ?_, ?_⟩
      · refine ⟨.ref a, rfl, .ref D, rfl, D, T, rfl, hT4, fit.nd, fun p hp => ?_, by have := fit.len; omega, fun r xs H5 s5 nr er dx => ?_⟩
        · obtain ⟨q0, hq, rfl⟩ := List.mem_map.mp hp
          exact (fit.ok q0 hq).1.1
        · have lso : (sorted T).length ≤ 63 := Nat.le_trans (List.length_filterMap_le _ _) (by rw [(srtPm _).length_eq, List.length_map]; exact fit.len)
          refine ⟨a, r, xs, sorted T, rfl, F4.same s5, .inl (.inl er), by omega, dx, fun q0 hq => (odPr (fit.ok q0 (sorted_mem hq)).1).up (by omega), fun p ys es H6 np k6 F6 ep dy pm => ?_⟩
          exact ⟨p, ys, es, rfl, ep, fdNe (F4.same s5) np, dy, fun q0 hq => fit.ok q0 (sorted_mem (pm.mem_iff.mp hq)), by rw [pm.length_eq]; exact lso, (k4.trans (Kp.same s5)).trans k6, F6⟩
      rintro _ H5 ⟨g, xs, L, rfl, eg, ga, dx5, okL, lL, k5, F5⟩
      -- some of them twice
      refine ⟨fun σ' H6 => ∃ (g : Addr) (xs : List V) (L : List (Pc × Stp)), σ' = stt sc (some (.int (0 + i))) (some (.ref a)) (some (.ref R)) y4 (some (.ref D)) (some (.ref g)) x7 x8 x9 x10 x11 ∧ H6 g = some (.lst xs) ∧ g ≠ a ∧ DpAll K H6 xs (L.map prD) ∧ (∀ q ∈ L, PrB 10 q) ∧ L.length ≤ 66 ∧ Kp a H2 H6 ∧ Fd H6 a, ?_, ?_⟩
      · refine ⟨.ref g, rfl, .ref g, rfl, .ref a, rfl, a, 4, rfl, F5, by decide, by decide, fun r H6 r0 r1 k6 F6 => ⟨r, rfl, g, xs, rfl, .inl (.inl (k6 _ _ ga eg)), fun p1 h1 => ?_⟩⟩
        have dx6 := prsTS (tsKp F5 k6) dx5
        have er : r = ((r.toNat : Nat) : Int) := (Int.toNat_of_nonneg r0).symm
        obtain ⟨M, dM, sM, lM⟩ := cutPre dx6 r.toNat
        rw [← er] at dM
        have s7 := sameUpd (o := .lst (cutV xs none (some r))) h1
        have lx := dpLen dx5
        rw [List.length_map] at lx
        refine ⟨g, p1, xs, _, rfl, rfl, s7 _ _ (k6 _ _ ga eg), upd_same, by have := cutV_length xs none (some r); rw [sizeLine_eq]; omega, fun n hn => ?_⟩
        have s8 := sameUpd (o := .lst (xs ++ cutV xs none (some r))) hn
        refine ⟨n, _, L ++ M, rfl, upd_same, fdNe (F6.same s7) hn, ?_, fun q0 hq => ?_, by rw [List.length_append]; omega, (k5.trans k6).trans (Kp.same (s7.trans s8)), F6.same (s7.trans s8)⟩
        · rw [List.map_append]
          exact TRE.dpAppend (dpAllSame (s7.trans s8) _ _ dM) (dpAllSame (s7.trans s8) _ _ dx6)
        · rcases List.mem_append.mp hq with h | h
          · exact okL q0 h
          · exact okL q0 (sM q0 h)
      clear dx5 okL lL eg ga k5 F5
      rintro _ H6 ⟨g, xs, L, rfl, eg, ga, dx6, okL, lL, k6, F6⟩
      -- the lots
      refine ⟨fun σ' H7 => ∃ Lo v1 v2, σ' = stt sc (some (.int (0 + i))) (some (.ref a)) (some (.ref R)) y4 (some (.ref D)) (some (.ref g)) (some (.ref Lo)) x8 x9 x10 x11 ∧ H7 Lo = some (.lst [.ref g, v1, v2]) ∧ Lo ≠ a ∧ H2 Lo = none ∧ g ≠ Lo ∧ Lot K [a, Lo] 10 66 H7 (.ref g) ∧ Lot K [a, Lo] 11 67 H7 v1 ∧ Lot K [a, Lo] 11 67 H7 v2 ∧ Kp a H2 H7 ∧ Fd H7 a, ?_, ?_⟩
      · refine ⟨.ref g, rfl, .ref a, rfl, .ref g, rfl, a, g, xs, L, 10, rfl, F6, eg, ga, dx6, okL, by omega, by omega, fun r1 ys1 L1 H7 n1 e1 dy1 ok1 l1 k7 F7 => ?_⟩
        refine ⟨.ref a, rfl, .ref g, rfl, a, g, xs, L, 10, rfl, F7, k7 _ _ ga eg, ga, prsTS (tsKp F6 k7) dx6, okL, by omega, by omega, fun r2 ys2 L2 H8 n2 e2 dy2 ok2 l2 k8 F8 => ⟨(by show 3 ≤ sizeLine; decide), fun Lo hLo => ?_⟩⟩
        have s9 := sameUpd (o := .lst [.ref g, .ref r1, .ref r2]) hLo
        have k68 := k7.trans k8
        have eg8 := k68 _ _ ga eg
        have r1a := fdNe F6 n1
        have r2a := fdNe F7 n2
        have e18 := k8 _ _ r1a e1
        have nLo : ∀ {b : Addr} {o : HO}, H8 b = some o → b ≠ Lo := fun {b o} e z => by rw [z, hLo] at e; cases e
        have dx8 := prsTS (tsKp F6 k68) dx6
        have dy18 := prsTS (tsKp F7 k8) dy1
        refine ⟨Lo, .ref r1, .ref r2, rfl, upd_same, fdNe F8 hLo, newOf (k6.trans k68) F8 hLo, nLo eg8, ⟨g, xs, L, rfl, s9 _ _ eg8, not2 ga (nLo eg8), dpAllSame s9 _ _ dx8, okL, lL⟩, ⟨r1, ys1, L1, rfl, s9 _ _ e18, not2 r1a (nLo e18), dpAllSame s9 _ _ dy18, ok1, by omega⟩, ⟨r2, ys2, L2, rfl, s9 _ _ e2, not2 r2a (nLo e2), dpAllSame s9 _ _ dy2, ok2, by omega⟩, (k6.trans k68).trans (Kp.same s9), F8.same s9⟩
      rintro _ H7 ⟨Lo, v1, v2, rfl, eLo, nLa, nLo, gL, lot0, lot1, lot2, k7, F7⟩
      refine ⟨fun σ' H8 => ∃ v3, σ' = stt sc (some (.int (0 + i))) (some (.ref a)) (some (.ref R)) y4 (some (.ref D)) (some (.ref g)) (some (.ref Lo)) x8 x9 x10 x11 ∧ H8 Lo = some (.lst [.ref g, v1, v2, v3]) ∧ Lot K [a, Lo] 10 66 H8 (.ref g) ∧ Lot K [a, Lo] 11 67 H8 v1 ∧ Lot K [a, Lo] 11 67 H8 v2 ∧ Lot K [a, Lo] 12 68 H8 v3 ∧ Kp a H2 H8 ∧ Fd H8 a, ?_, ?_⟩
      · obtain ⟨g2, xs7, L7, eg2, eg7, _, dx7, ok7, ll7⟩ := id lot0
        cases eg2
        refine ⟨.ref Lo, rfl, .inl ⟨rfl, _, .inl (.inl eLo)⟩, .ref a, rfl, .ref a, rfl, .ref g, rfl, a, g, xs7, L7, 10, rfl, F7, eg7, ga, dx7, ok7, by omega, by omega, fun r1 ys1 L1 H8 n1 e1 dy1 ok1 l1 k8 F8 => ?_⟩
        have r1a := fdNe F7 n1
        refine ⟨a, r1, ys1, L1, 11, rfl, F8, e1, r1a, dy1, ok1, by omega, by omega, fun r2 ys2 L2 H9 n2 e2 dy2 ok2 l2 k9 F9 => ?_⟩
        have k79 := k8.trans k9
        have eLo9 := k79 _ _ nLa eLo
        have t79 := tsKp F7 k79
        have tL := TS.lst (o := .lst [.ref g, v1, v2, .ref r2]) eLo9
        have r2a := fdNe F8 n2
        have r2L : r2 ≠ Lo := fun z => by rw [z, k8 _ _ nLa eLo] at n2; cases n2
        have kp : ∀ b o, b ∉ [a, Lo] → H7 b = some o → upd H9 Lo (.lst [.ref g, v1, v2, .ref r2]) b = some o := fun b o hb e => by
          have nb : b ≠ a ∧ b ≠ Lo := by simpa using hb
          rw [upd_ne nb.2]
          exact k79 b o nb.1 e
        refine ⟨Lo, _, _, rfl, rfl, eLo9, (by show 3 < sizeLine; decide), .ref r2, rfl, upd_same, lot0.keep (t79.trans tL) kp, lot1.keep (t79.trans tL) kp, lot2.keep (t79.trans tL) kp, ⟨r2, ys2, L2, rfl, by rw [upd_ne r2L]; exact e2, not2 r2a r2L, prsTS tL dy2, ok2, by omega⟩, fun b o nb e => ?_, ?_⟩
        · rw [upd_ne (ne_of_none e nLo)]
          exact k79 b o nb (k7 b o nb e)
        · obtain ⟨u1, u2, e, w2⟩ := F9
          exact ⟨u1, u2, by rw [upd_ne (Ne.symm nLa)]; exact e, w2⟩
      rintro _ H8 ⟨v3, rfl, eLo8, lot0, lot1, lot2, lot3, k8, F8⟩
      refine ⟨fun σ' H9 => ∃ vs, σ' = stt sc (some (.int (0 + i))) (some (.ref a)) (some (.ref R)) y4 (some (.ref D)) (some (.ref g)) (some (.ref Lo)) x8 x9 x10 x11 ∧ H9 Lo = some (.lst vs) ∧ (∀ v ∈ vs, Lot K [] 20 80 H9 v) ∧ Kp a H2 H9 ∧ Fd H9 a, ?_, ?_⟩
      · obtain ⟨l3, xs3, L3, rfl, el3, ne3, dx3, ok3', ll3⟩ := id lot3
        have l3a := ne3 a List.mem_cons_self
        refine ⟨.ref Lo, rfl, .inl ⟨rfl, _, .inl (.inl eLo8)⟩, .ref a, rfl, .ref a, rfl, .ref a, rfl, .ref Lo, rfl, Lo, _, 3, .ref l3, rfl, rfl, .inl (.inl eLo8), atI_nat (j := 3) rfl, a, l3, xs3, L3, 12, rfl, F8, el3, l3a, dx3, ok3', by omega, by omega, fun r1 ys1 L1 H9 n1 e1 dy1 ok1 l1 k9 F9 => ?_⟩
        refine ⟨a, r1, ys1, L1, rfl, F9, .inl (.inl e1), by omega, dy1, fun q0 hq => (odPr (ok1 q0 hq).1).up (by omega), fun p2 ys2 L2 H10 n2 k10 F10 e2 dy2 pm => ?_⟩
        have p2a := fdNe F9 n2
        have l2 : L2.length ≤ 69 := by rw [pm.length_eq]; omega
        refine ⟨a, p2, ys2, L2, 13, rfl, F10, e2, p2a, dy2, fun q0 hq => ok1 q0 (pm.mem_iff.mp hq), by omega, by omega, fun r4 ys4 L4 H11 n4 e4 dy4 ok4 l4 k11 F11 => ?_⟩
        have kA := (k9.trans k10).trans k11
        have eLo11 := kA _ _ nLa eLo8
        have tA := tsKp F8 kA
        have tL := TS.lst (o := .lst [.ref g, v1, v2, .ref l3, .ref r4]) eLo11
        have r4a := fdNe F10 n4
        have r4L : r4 ≠ Lo := fun z => by rw [z, (k9.trans k10) _ _ nLa eLo8] at n4; cases n4
        have kp : ∀ b o, b ∉ [a, Lo] → H8 b = some o → upd H11 Lo (.lst [.ref g, v1, v2, .ref l3, .ref r4]) b = some o := fun b o hb e => by
          have nb : b ≠ a ∧ b ≠ Lo := by simpa using hb
          rw [upd_ne nb.2]
          exact kA b o nb.1 e
        have lot4 : Lot K [a, Lo] 14 70 (upd H11 Lo (.lst [.ref g, v1, v2, .ref l3, .ref r4])) (.ref r4) := ⟨r4, ys4, L4, rfl, by rw [upd_ne r4L]; exact e4, not2 r4a r4L, prsTS tL dy4, ok4, by omega⟩
        refine ⟨Lo, _, _, rfl, rfl, eLo11, (by show 4 < sizeLine; decide), [.ref g, v1, v2, .ref l3, .ref r4], rfl, upd_same, fun v hv => ?_, fun b o nb e => ?_, ?_⟩
        · have hv5 : v = .ref g ∨ v = v1 ∨ v = v2 ∨ v = .ref l3 ∨ v = .ref r4 := by simpa using hv
          rcases hv5 with rfl | rfl | rfl | rfl | rfl
          · exact (lot0.keep (tA.trans tL) kp).fit (by omega) (by omega)
          · exact (lot1.keep (tA.trans tL) kp).fit (by omega) (by omega)
          · exact (lot2.keep (tA.trans tL) kp).fit (by omega) (by omega)
          · exact (lot3.keep (tA.trans tL) kp).fit (by omega) (by omega)
          · exact lot4.fit (by omega) (by omega)
        · rw [upd_ne (ne_of_none e nLo)]
          exact kA b o nb (k8 b o nb e)
        · obtain ⟨u1, u2, e, w2⟩ := F11
          exact ⟨u1, u2, by rw [upd_ne (Ne.symm nLa)]; exact e, w2⟩
      rintro _ H9 ⟨vs, rfl, eLo9, lots, k9, F9⟩
      -- each of them
      refine ⟨.ref Lo, rfl, Lo, rfl, ⟨vs, .inl (.inl eLo9)⟩, ?_⟩
      refine forJ (n := vs.length) (fun j σ' H' => (∃ x8 x9 x10 x11, σ' = stt sc (some (.int (0 + i))) (some (.ref a)) (some (.ref R)) y4 (some (.ref D)) (some (.ref g)) (some (.ref Lo)) x8 x9 x10 x11) ∧ Same H9 H') ⟨⟨_, _, _, _, rfl⟩, Same.refl _⟩ (fun j σ' H' lt h => ⟨vs, vs[j], .inl (.inl (h.2 _ _ eLo9)), List.getElem?_eq_getElem lt⟩) (fun σ' H' h => ⟨vs, .inl (.inl (h.2 _ _ eLo9)), Nat.le_refl _⟩) (fun j σ' Hz v H10 ltj h y => ?_) (fun σ' H' h => ?_)
      · obtain ⟨rfl, y⟩ := y
        obtain ⟨⟨x8, x9, x10, x11, rfl⟩, s10⟩ := h
        have ev := y vs (.inl (.inl (s10 _ _ eLo9)))
        obtain ⟨l, xs, L, rfl, el9, _, dx9, okL9, lL9⟩ := lots v (List.mem_of_getElem? ev)
        have okL' : ∀ q ∈ L, PrOk q := fun q0 hq => (okL9 q0 hq).1
        have el10 := s10 _ _ el9
        have dx10 := dpAllSame s10 _ _ dx9
        have lx := dpLen dx9
        rw [List.length_map] at lx
        refine ⟨fun σ' H' => ∃ kp r, σ' = stt sc (some (.int (0 + i))) (some (.ref a)) (some (.ref R)) y4 (some (.ref D)) (some (.ref g)) (some (.ref Lo)) (some (.ref l)) (some (.ref kp)) (some r) x11 ∧ Same H10 H' ∧ H' kp = some (.lst xs) ∧ FaultAt K H' r (lawBad L), ?_, ?_⟩
        · refine ⟨.ref l, rfl, l, xs, rfl, .inl (.inl (.inl el10)), fun kp hkp => ?_⟩
          have s11 := sameUpd (o := .lst xs) hkp
          refine ⟨.ref l, rfl, l, xs, L, rfl, .inl (.inl (s11 _ _ el10)), dpAllSame s11 _ _ dx10, okL', by omega, fun r H' s' fr => ?_⟩
          exact ⟨_, _, rfl, kp, r, rfl, s11.trans s', s' _ _ upd_same, fr⟩
        rintro _ H11 ⟨kp, r, rfl, s11, ekp, fr⟩
        have el11 := s11 _ _ el10
        have dx11 := dpAllSame s11 _ _ dx10
        refine ⟨fun σ' H' => ∃ u, σ' = stt sc (some (.int (0 + i))) (some (.ref a)) (some (.ref R)) y4 (some (.ref D)) (some (.ref g)) (some (.ref Lo)) (some (.ref l)) (some (.ref kp)) (some u) x11 ∧ Same H11 H' ∧ ResAt K H' u (lawRes L), ?_, ?_⟩
        · cases eb : lawBad L with
          | none =>
            rw [eb] at fr
            have fr' : r = .non := fr
            subst fr'
            refine ⟨.non, rfl, true, rfl, iteT ?_⟩
            obtain ⟨ps, qs, eps, pq, mk⟩ := dictMk (P := P) (w := w) dx11
            refine ⟨.ref l, rfl, l, ps, qs, rfl, .inl (.inl (by rw [← eps]; exact el11)), pq, fun p hp => ?_⟩
            have sp := sameUpd (o := ndO P w p ((storeAll [] qs).map kn)) hp
            refine ⟨p, dictT L, rfl, mk p hp, dict_nd L, fun p0 h0 => ?_, by have := dict_len L; omega, fun r2 xs2 H' s' nr er dy => ⟨(by show 2 ≤ sizeLine; decide), fun t ht => ?_⟩⟩
            · obtain ⟨q0, hq, rfl⟩ := List.mem_map.mp h0
              exact (okL' q0 (dict_mem hq)).1
            · have st := sameUpd (o := .tup [.str "made", .ref r2]) ht
              refine ⟨.ref t, rfl, (sp.trans s').trans st, ?_⟩
              have e2 : lawRes L = .made (sorted (dictT L)) := by unfold lawRes; rw [eb]; rfl
              rw [e2]
              exact ⟨t, r2, xs2, rfl, .inl (.inl upd_same), st _ _ er, dpAllSame st _ _ dy⟩
          | some res =>
            rw [eb] at fr
            have fr' : ResAt K H11 r res := fr
            have e2 : lawRes L = res := by unfold lawRes; rw [eb]; rfl
            have ra : ∃ ra, r = .ref ra := by
              cases res with
              | made S => obtain ⟨t, _, _, e, _⟩ := fr'; exact ⟨t, e⟩
              | bad k p => obtain ⟨t, _, e, _⟩ := TRE.dpTup fr'; exact ⟨t, e⟩
            obtain ⟨ra, rfl⟩ := ra
            exact ⟨.ref ra, rfl, false, rfl, iteF ⟨.ref ra, rfl, Same.refl _, by rw [e2]; exact fr'⟩⟩
        rintro _ H12 ⟨u, rfl, s12, hu12'⟩
        have el12 := s12 _ _ el11
        have dx12 := dpAllSame s12 _ _ dx11
        refine ⟨.ref l, rfl, .ref l, rfl, l, xs, rfl, .inl ⟨.inl (.inl el12), fun t ht => ⟨(by show 2 ≤ sizeLine; decide), fun w2 hw2 => ⟨w2, rfl, ⟨_, .inl (.inl upd_same)⟩, ?_⟩⟩⟩⟩
        have s13 := sameUpd (o := .tup xs) ht
        have s14 := sameUpd (o := .tup [.ref l, .ref t]) hw2
        have et : upd (upd H12 t (.tup xs)) w2 (.tup [.ref l, .ref t]) t = some (.tup xs) := s14 _ _ upd_same
        have ew : upd (upd H12 t (.tup xs)) w2 (.tup [.ref l, .ref t]) w2 = some (.tup [.ref l, .ref t]) := upd_same
        have sA := s13.trans s14
        generalize upd (upd H12 t (.tup xs)) w2 (.tup [.ref l, .ref t]) = H13 at et ew sA ⊢
        have el13 := sA _ _ el12
        have dx13 := dpAllSame sA _ _ dx12
        have ek13 := sA _ _ (s12 _ _ ekp)
        have hu13 : ResAt K H13 u (lawRes L) := hu12'.same sA
        refine forJ (n := 2) (fun j σ' H' => (∃ x11, σ' = stt sc (some (.int (0 + i))) (some (.ref a)) (some (.ref R)) y4 (some (.ref D)) (some (.ref g)) (some (.ref Lo)) (some (.ref l)) (some (.ref kp)) (some u) x11) ∧ Same H13 H') ⟨⟨_, rfl⟩, Same.refl _⟩ (fun j σ' H' lt h => ⟨_, [V.ref l, V.ref t][j]'lt, .inl (.inl (h.2 _ _ ew)), List.getElem?_eq_getElem lt⟩) (fun σ' H' h => ⟨_, .inl (.inl (h.2 _ _ ew)), Nat.le_refl _⟩) (fun j σ' Hy v H14 ltj h y => ?_) (fun σ' H' h => ?_)
        · obtain ⟨rfl, y⟩ := y
          obtain ⟨⟨x11, rfl⟩, s15⟩ := h
          have ev := y _ (.inl (.inl (s15 _ _ ew)))
          have told : ∃ td, v = .ref td ∧ (SqL K H14 td xs ∨ SqT K H14 td xs) := by
            have h2 : j = 0 ∨ j = 1 := by omega
            rcases h2 with rfl | rfl
            · cases ev; exact ⟨l, rfl, .inl (.inl (.inl (s15 _ _ el13)))⟩
            · cases ev; exact ⟨t, rfl, .inr (.inl (.inl (s15 _ _ et)))⟩
          obtain ⟨td, rfl, htd⟩ := told
          have dx14 := dpAllSame s15 _ _ dx13
          refine ⟨.ref td, rfl, td, xs, L, rfl, htd, dx14, okL', by omega, fun res tl r3 H15 s16 at3 => ?_⟩
          have er := toldIs (fun q0 hq => (okL' q0 hq).2.1) tl
          subst er
          have sB := s15.trans s16
          refine ⟨u, rfl, r3, u, rfl, sameRes (by omega) (lawFit okL') at3 (hu13.same sB), fun H16 s17 => ⟨_, rfl, iteF ?_⟩⟩
          have sC := sB.trans s17
          exact ⟨.ref l, rfl, .ref kp, rfl, nePrs (sC _ _ el13) (sC _ _ ek13) (dpAllSame sC _ _ dx13) (dpAllSame sC _ _ dx13) okL' ⟨_, rfl, iteF ⟨⟨_, rfl⟩, sC⟩⟩⟩
        · obtain ⟨⟨x11, rfl⟩, s15⟩ := h
          exact ⟨⟨_, _, _, _, rfl⟩, (((s10.trans s11).trans s12).trans sA).trans s15⟩
      · obtain ⟨⟨x8, x9, x10, x11, rfl⟩, s10⟩ := h
        exact ⟨⟨_, _, _, _, _, _, _, _, _, _, _, rfl⟩, script (k9.trans (Kp.same s10))⟩
    rintro σ2 H2 _
    refine fun x1 dx1 n1 m1 ne1 => recEmpty n1 m1 ne1 (.inr (eI _)) fun H3 s3 hR3 => ?_
    obtain ⟨dx1', D1, hx1, hD1⟩ := id hR3
    refine ⟨x1, dx1', _, rfl, hx1, x1, [], rfl, hR3, 0, rfl, by decide, by decide, rfl, ?_⟩
    rw [show decide (V.int 0 = V.int 0) = true from by decide +kernel]
    refine ⟨true, rfl, iteT ⟨Nat.zero_le _, fun l1 hl1 x2 dx2 n2 m2 ne2 => recEmpty n2 m2 ne2 (.inl (.inl (.inl upd_same))) fun H4 s4 hR4 => ⟨Nat.zero_le _, fun t1 ht1 x3 dx3 n3 m3 ne3 => recEmpty n3 m3 ne3 (.inr (.inl (.inl upd_same))) fun H5 s5 hR5 => ?_⟩⟩⟩
    have hR4' := (hR4.same (sameUpd ht1)).same s5
    obtain ⟨dx2', D2, hx2, hD2⟩ := id hR4'
    obtain ⟨dx3', D3, hx3, hD3⟩ := id hR5
    exact ⟨⟨x2, x3, dx2', dx3', _, _, rfl, rfl, hx2, hx3, hR4', hR5⟩, fun H6 _ => q H6⟩
end
end REC

set_option Elab.async false
set_option linter.all false
set_option maxRecDepth 100000
set_option maxHeartbeats 0
namespace REC.HD
open PySem PySem.Spec PyProof.Rows L2 ND KS KS.La PLC
open KX hiding sameUpd
open He (ga ma)
section
variable {P : Program} {w : World} {K : PySem.W.Frag} {mg : Str → Option Value} {base h : Heap}
theorem hasMono {j k : Nat} {x : Str} {ps : List Str} {sp : Sp} (A : Has P w K mg base j x ps sp) (h : j ≤ k) : Has P w K mg base k x ps sp := by
  obtain ⟨f, fd, a, b, c, F⟩ := A.ex
  exact ⟨f, fd, a, b, c, F.mono h⟩
theorem factM (c : He.SaysD fa fn K) {f : He.Fa} (hm : f ∈ fa) : f.ok K = true := by
  obtain ⟨i, hi, e⟩ := List.mem_iff_getElem.mp hm
  exact c.fact i (f := f) (by rw [List.getElem?_eq_getElem hi, e])
theorem factX (c : He.SaysD fa fn K) {f : He.Fa} (hm : f ∈ faC ++ (faN ++ faM)) : f.ok K = true := factM c (List.mem_append_right _ (List.mem_append_right _ hm))
theorem factC (c : He.SaysD fa fn K) {f : He.Fa} (hm : f ∈ faC) : f.ok K = true := factX c (List.mem_append_left _ hm)
theorem factN (c : He.SaysD fa fn K) {f : He.Fa} (hm : f ∈ faN) : f.ok K = true := factX c (List.mem_append_right _ (List.mem_append_left _ hm))
theorem factT (c : He.SaysD fa fn K) {f : He.Fa} (hm : f ∈ faM) : f.ok K = true := factX c (List.mem_append_right _ (List.mem_append_right _ hm))
theorem kbnOf {x q : Str} {params : Arguments} {body : List Stmt} {scope : Scope} {f : Addr} {fd : FuncData} {ps ks : List Str} {n : Nat} {g : List Value → List Value → List Value} {gV : List V → List V → List V} (F : FunD K x q params body scope [] [] f fd)
    (hto : ∀ (kV doc pm : Value) (an : Option Addr) (cdv ct : Value) (us ws : List Value), us.length = n → ws.length = ks.length → bindArgs (PySem.W.fnOf x q params body scope .none kV doc pm an cdv ct) ⟨us, ks.zip ws⟩ = pure (ps.zip (g us ws)))
    (hrel : ∀ {vs : List V} {us : List Value} {zs : List V} {ws : List Value}, Vals vs us → Vals zs ws → Vals (gV vs zs) (g us ws)) : KBn K fd ps n ks g gV := by
  obtain ⟨oc, od, dV, kV, doc, pm, an, cdv, ct, osl, rfl, lk, hcd, hD, _⟩ := F.ex
  rcases hD with ⟨_, rfl⟩ | ⟨e, _⟩
  · exact ⟨fun s us ws _ h1 h2 => .of_eq (hto kV doc pm an cdv ct us ws h1 h2), hrel⟩
  · exact absurd rfl e
theorem plKy5 : ∀ d : Str × Str, ∃ n, Pl n (TRE.kyD d) := fun d => ⟨1, TRE.plKy d⟩
theorem plPr5 : ∀ d : Pc × Stp, ∃ n, Pl n (prD d) := fun d => ⟨5, plPr d⟩
theorem exB_parts (e : exB K = true) : xcB K (ga K "Clash") veB "ValueError.__new__" = true ∧
    PySem.W.findIn K (.ref (ga K "Clash")) "spot" = some none ∧
    PySem.W.findIn K (.ref (ga K "Clash")) "__init__" = some (some (.ref (ma K (ga K "Clash") "__init__"))) ∧
    PySem.W.typeIn K (.ref (ma K (ga K "Clash") "__init__")) = some (.type "function") ∧
    xcB K (ga K "Gap") veB "ValueError.__new__" = true ∧
    PySem.W.findIn K (.ref (ga K "Gap")) "spot" = some none ∧
    PySem.W.findIn K (.ref (ga K "Gap")) "__init__" = some (some (.ref (ma K (ga K "Gap") "__init__"))) ∧
    PySem.W.typeIn K (.ref (ma K (ga K "Gap") "__init__")) = some (.type "function") ∧
    xcB K (ga K "Rewritten") veB "ValueError.__new__" = true ∧
    PySem.W.findIn K (.ref (ga K "Rewritten")) "spot" = some none ∧
    PySem.W.findIn K (.ref (ga K "Rewritten")) "__init__" = some (some (.ref (ma K (ga K "Rewritten") "__init__"))) ∧
    PySem.W.typeIn K (.ref (ma K (ga K "Rewritten") "__init__")) = some (.type "function") ∧
    PySem.W.findIn K (.ref (ga K "Record")) "__class__" = some (some (.builtin "object.__class__")) ∧
    PySem.W.mroIn K (ga K "Record") (.type "object") = some true ∧
    PySem.W.specialIn K (.builtin "object.__class__") "__get__" = some (some (.builtin "getset_descriptor.__get__")) ∧
    PySem.W.takesIn K (.builtin "object.__class__") = some true ∧
    PySem.W.kitOne K (.ref (ga K "Record")) (.ref (ga K "Record")) = some true ∧
    PySem.W.kitOne K (.ref (ga K "Clash")) (.ref (ga K "Clash")) = some true ∧
    PySem.W.kitOne K (.ref (ga K "Clash")) (.ref (ga K "Gap")) = some false ∧
    PySem.W.kitOne K (.ref (ga K "Clash")) (.ref (ga K "Rewritten")) = some false ∧
    PySem.W.kitOne K (.ref (ga K "Gap")) (.ref (ga K "Clash")) = some false ∧
    PySem.W.kitOne K (.ref (ga K "Gap")) (.ref (ga K "Gap")) = some true ∧
    PySem.W.kitOne K (.ref (ga K "Gap")) (.ref (ga K "Rewritten")) = some false ∧
    PySem.W.kitOne K (.ref (ga K "Rewritten")) (.ref (ga K "Clash")) = some false ∧
    PySem.W.kitOne K (.ref (ga K "Rewritten")) (.ref (ga K "Gap")) = some false ∧
    PySem.W.kitOne K (.ref (ga K "Rewritten")) (.ref (ga K "Rewritten")) = some true ∧
    PySem.W.exmOne K (.ref (ga K "Clash")) (.ref (ga K "BuildError")) = some true ∧
    PySem.W.exmOne K (.ref (ga K "Gap")) (.ref (ga K "BuildError")) = some true ∧
    PySem.W.exmOne K (.ref (ga K "Rewritten")) (.ref (ga K "BuildError")) = some true ∧
    emB K (He.dflAt ("Record", some "__init__") 0 K) = true := by
  unfold exB at e
  simp only [Bool.and_eq_true, decide_eq_true_eq] at e
  exact e
theorem facts {f : Addr} (X : K.In h) (G : h.Ns mainGlobals mg) (hfa : mg ("law" : Str) = some (.ref f)) (y : Says K) :
    ∃ fd : FuncData, (∀ (s : Shared) (v : Value), BindsTo s fd ⟨[v], []⟩ [("_law_script", v)]) ∧ ∀ base : Heap, K.In base → base.Ns mainGlobals mg → FnOk P w K mg base CX0 66 f fd ["_law_script"] (REC.spLaw K) := by
  obtain ⟨c, e⟩ := y
  obtain ⟨p1, p2, p3, p4, p5, p6, p7, p8, p9, p10, p11, p12, p13, p14, p15, p16, p17, p18, p19, p20, p21, p22, p23, p24, p25, p26, p27, p28, p29, p30⟩ := exB_parts e
  have glo : ∀ x ∈ glos ++ ([("law" : Str)] : List Str), mg x = some (.ref (ga K x)) := fun x hx => He.glo_ok X G (factM c (f := .glo x) (List.mem_append_left _ (List.mem_map_of_mem hx)))
  have fre : ∀ x ∈ frees, mg x = none := fun x hx => He.free_ok X G (factM c (f := .free x) (List.mem_append_right _ (List.mem_append_left _ (List.mem_map_of_mem hx))))
  have clRecord : Cls K (ga K "Record") := He.cls_ok (factC c (f := .cls "Record") (by simp [faC]))
  have mkRecord : Mk K (ga K "Record") (ma K (ga K "Record") "__init__") := He.mkr_ok (factC c (f := .mkr "Record") (by simp [faC]))
  have naRecord_steps : NoAttr K (ga K "Record") "_steps" := He.noat_ok (factN c (f := .noat "Record" "_steps") (by simp [faN]))
  have meRecord__len__ : Meth K (ga K "Record") "__len__" (ma K (ga K "Record") "__len__") := He.meth_ok (factT c (f := .meth "Record" "__len__") (by simp [faM]))
  have meRecord__eq__ : Meth K (ga K "Record") "__eq__" (ma K (ga K "Record") "__eq__") := He.meth_ok (factT c (f := .meth "Record" "__eq__") (by simp [faM]))
  have meRecordsteps : Meth K (ga K "Record") "steps" (ma K (ga K "Record") "steps") := He.meth_ok (factT c (f := .meth "Record" "steps") (by simp [faM]))
  have B : Bn mg := ⟨fre _ (by decide +kernel), fre _ (by decide +kernel), fre _ (by decide +kernel), fre _ (by decide +kernel), fre _ (by decide +kernel), fre _ (by decide +kernel), fre _ (by decide +kernel), fre _ (by decide +kernel), fre _ (by decide +kernel), fre _ (by decide +kernel), fre _ (by decide +kernel), fre _ (by decide +kernel), fre _ (by decide +kernel), fre _ (by decide +kernel)⟩
  obtain ⟨fd, F⟩ := c.def_ 41 (d := dOf "law" 53) rfl
  have ef := hfa.symm.trans (glo "law" (by decide +kernel))
  cases ef
  have b := FunD.bindsA (ps := ["_law_script"]) F fun _ _ _ _ _ _ us hl => match us, hl with | [_], _ => rfl
  refine ⟨fd, fun s v => b s [v] rfl, fun base hb hg => ?_⟩
  obtain ⟨d0, F0⟩ := c.def_ 0 (d := dOf "in_order" 8) rfl
  have g0 : mg "in_order" = some (.ref (ga K "in_order")) := glo _ (by decide +kernel)
  have b0 : Binds K d0 ["places"] [] := F0.bindsN (fun _ _ _ _ _ _ us hl => match us, hl with | [_], _ => rfl)
  obtain ⟨d1, F1⟩ := c.def_ 1 (d := dOf "ordered" 9) rfl
  have g1 : mg "ordered" = some (.ref (ga K "ordered")) := glo _ (by decide +kernel)
  have b1 : Binds K d1 ["places"] [] := F1.bindsN (fun _ _ _ _ _ _ us hl => match us, hl with | [_], _ => rfl)
  obtain ⟨d2, F2⟩ := c.def_ 2 (d := dOf "_rank" 10) rfl
  have g2 : mg "_rank" = some (.ref (ga K "_rank")) := glo _ (by decide +kernel)
  have b2 : Binds K d2 ["place"] [] := F2.bindsN (fun _ _ _ _ _ _ us hl => match us, hl with | [_], _ => rfl)
  obtain ⟨d3, F3⟩ := c.def_ 3 (d := dOf "_rank_of_answers" 11) rfl
  have g3 : mg "_rank_of_answers" = some (.ref (ga K "_rank_of_answers")) := glo _ (by decide +kernel)
  have b3 : Binds K d3 ["answers"] [] := F3.bindsN (fun _ _ _ _ _ _ us hl => match us, hl with | [_], _ => rfl)
  obtain ⟨d4, F4⟩ := c.def_ 4 (d := dOf "_table_of" 14) rfl
  have g4 : mg "_table_of" = some (.ref (ga K "_table_of")) := glo _ (by decide +kernel)
  have b4 : Binds K d4 ["pairs"] [] := F4.bindsN (fun _ _ _ _ _ _ us hl => match us, hl with | [_], _ => rfl)
  obtain ⟨d5, F5⟩ := c.def_ 5 (d := dOf "_check_ways" 15) rfl
  have g5 : mg "_check_ways" = some (.ref (ga K "_check_ways")) := glo _ (by decide +kernel)
  have b5 : Binds K d5 ["table"] [] := F5.bindsN (fun _ _ _ _ _ _ us hl => match us, hl with | [_], _ => rfl)
  obtain ⟨d6, F6⟩ := c.def_ 6 (d := dOf "in_growing_order" 16) rfl
  have g6 : mg "in_growing_order" = some (.ref (ga K "in_growing_order")) := glo _ (by decide +kernel)
  have b6 : Binds K d6 ["table"] [] := F6.bindsN (fun _ _ _ _ _ _ us hl => match us, hl with | [_], _ => rfl)
  obtain ⟨d7, F7⟩ := c.def_ 7 (d := dOf "_length" 17) rfl
  have g7 : mg "_length" = some (.ref (ga K "_length")) := glo _ (by decide +kernel)
  have b7 : Binds K d7 ["place"] [] := F7.bindsN (fun _ _ _ _ _ _ us hl => match us, hl with | [_], _ => rfl)
  obtain ⟨d8, F8⟩ := c.def_ 8 (d := dOf "reads_in" 18) rfl
  have g8 : mg "reads_in" = some (.ref (ga K "reads_in")) := glo _ (by decide +kernel)
  have b8 : Binds K d8 ["table"] [] := F8.bindsN (fun _ _ _ _ _ _ us hl => match us, hl with | [_], _ => rfl)
  obtain ⟨d9, F9⟩ := c.def_ 9 (d := dOf "is_first" 19) rfl
  have g9 : mg "is_first" = some (.ref (ga K "is_first")) := glo _ (by decide +kernel)
  have b9 : Binds K d9 ["place"] [] := F9.bindsN (fun _ _ _ _ _ _ us hl => match us, hl with | [_], _ => rfl)
  obtain ⟨d10, F10⟩ := c.def_ 10 (d := dOf "place_ahead" 21) rfl
  have g10 : mg "place_ahead" = some (.ref (ga K "place_ahead")) := glo _ (by decide +kernel)
  have b10 : Binds K d10 ["place", "reads"] [] := F10.bindsN (fun _ _ _ _ _ _ us hl => match us, hl with | [_, _], _ => rfl)
  obtain ⟨d11, F11⟩ := c.def_ 11 (d := dOf "leads_to" 22) rfl
  have g11 : mg "leads_to" = some (.ref (ga K "leads_to")) := glo _ (by decide +kernel)
  have b11 : Binds K d11 ["step", "place"] [] := F11.bindsN (fun _ _ _ _ _ _ us hl => match us, hl with | [_, _], _ => rfl)
  obtain ⟨d12, F12⟩ := c.def_ 12 (d := dOf "_law_feed_of" 24) rfl
  have g12 : mg "_law_feed_of" = some (.ref (ga K "_law_feed_of")) := glo _ (by decide +kernel)
  have b12 : Binds K d12 ["_law_script", "_law_k"] [] := F12.bindsN (fun _ _ _ _ _ _ us hl => match us, hl with | [_, _], _ => rfl)
  obtain ⟨d13, F13⟩ := c.def_ 13 (d := dOf "_law_draw" 25) rfl
  have g13 : mg "_law_draw" = some (.ref (ga K "_law_draw")) := glo _ (by decide +kernel)
  have b13 : Binds K d13 ["_law_feed", "_law_many"] [] := F13.bindsN (fun _ _ _ _ _ _ us hl => match us, hl with | [_, _], _ => rfl)
  obtain ⟨d14, F14⟩ := c.def_ 14 (d := dOf "_law_mixed" 26) rfl
  have g14 : mg "_law_mixed" = some (.ref (ga K "_law_mixed")) := glo _ (by decide +kernel)
  have b14 : Binds K d14 ["_law_feed", "_law_items"] [] := F14.bindsN (fun _ _ _ _ _ _ us hl => match us, hl with | [_, _], _ => rfl)
  obtain ⟨d15, F15⟩ := c.def_ 15 (d := dOf "_law_pick" 27) rfl
  have g15 : mg "_law_pick" = some (.ref (ga K "_law_pick")) := glo _ (by decide +kernel)
  have b15 : Binds K d15 ["_law_feed", "_law_items"] [] := F15.bindsN (fun _ _ _ _ _ _ us hl => match us, hl with | [_, _], _ => rfl)
  obtain ⟨d16, F16⟩ := c.def_ 16 (d := dOf "_law_outs" 28) rfl
  have g16 : mg "_law_outs" = some (.ref (ga K "_law_outs")) := glo _ (by decide +kernel)
  have b16 : Binds K d16 [] [] := F16.bindsN (fun _ _ _ _ _ _ us hl => match us, hl with | [], _ => rfl)
  obtain ⟨d17, F17⟩ := c.def_ 17 (d := dOf "_law_calls" 29) rfl
  have g17 : mg "_law_calls" = some (.ref (ga K "_law_calls")) := glo _ (by decide +kernel)
  have b17 : Binds K d17 [] [] := F17.bindsN (fun _ _ _ _ _ _ us hl => match us, hl with | [], _ => rfl)
  obtain ⟨d18, F18⟩ := c.def_ 18 (d := dOf "_law_some_names" 30) rfl
  have g18 : mg "_law_some_names" = some (.ref (ga K "_law_some_names")) := glo _ (by decide +kernel)
  have b18 : Binds K d18 ["_law_feed", "_law_many"] [] := F18.bindsN (fun _ _ _ _ _ _ us hl => match us, hl with | [_, _], _ => rfl)
  obtain ⟨d19, F19⟩ := c.def_ 19 (d := dOf "_law_some_text" 31) rfl
  have g19 : mg "_law_some_text" = some (.ref (ga K "_law_some_text")) := glo _ (by decide +kernel)
  have b19 : Binds K d19 ["_law_feed"] [] := F19.bindsN (fun _ _ _ _ _ _ us hl => match us, hl with | [_], _ => rfl)
  obtain ⟨d20, F20⟩ := c.def_ 20 (d := dOf "_law_some_answer" 32) rfl
  have g20 : mg "_law_some_answer" = some (.ref (ga K "_law_some_answer")) := glo _ (by decide +kernel)
  have b20 : Binds K d20 ["_law_feed"] [] := F20.bindsN (fun _ _ _ _ _ _ us hl => match us, hl with | [_], _ => rfl)
  obtain ⟨d21, F21⟩ := c.def_ 21 (d := dOf "_law_some_parts" 33) rfl
  have g21 : mg "_law_some_parts" = some (.ref (ga K "_law_some_parts")) := glo _ (by decide +kernel)
  have b21 : Binds K d21 ["_law_feed"] [] := F21.bindsN (fun _ _ _ _ _ _ us hl => match us, hl with | [_], _ => rfl)
  obtain ⟨d22, F22⟩ := c.def_ 22 (d := dOf "_law_some_tree" 34) rfl
  have g22 : mg "_law_some_tree" = some (.ref (ga K "_law_some_tree")) := glo _ (by decide +kernel)
  have b22 : Binds K d22 ["_law_feed", "_law_keys", "_law_outs_here", "_law_deep"] [] := F22.bindsN (fun _ _ _ _ _ _ us hl => match us, hl with | [_, _, _, _], _ => rfl)
  obtain ⟨d23, F23⟩ := c.def_ 23 (d := dOf "_law_some_keys" 35) rfl
  have g23 : mg "_law_some_keys" = some (.ref (ga K "_law_some_keys")) := glo _ (by decide +kernel)
  have b23 : Binds K d23 ["_law_feed", "_law_names"] [] := F23.bindsN (fun _ _ _ _ _ _ us hl => match us, hl with | [_, _], _ => rfl)
  obtain ⟨d24, F24⟩ := c.def_ 24 (d := dOf "_law_some_outputs" 36) rfl
  have g24 : mg "_law_some_outputs" = some (.ref (ga K "_law_some_outputs")) := glo _ (by decide +kernel)
  have b24 : Binds K d24 ["_law_feed"] [] := F24.bindsN (fun _ _ _ _ _ _ us hl => match us, hl with | [_], _ => rfl)
  obtain ⟨d25, F25⟩ := c.def_ 25 (d := dOf "_law_drawn_made" 37) rfl
  have g25 : mg "_law_drawn_made" = some (.ref (ga K "_law_drawn_made")) := glo _ (by decide +kernel)
  have b25 : Binds K d25 ["_law_feed", "_law_near", "_law_recipes"] [] := F25.bindsN (fun _ _ _ _ _ _ us hl => match us, hl with | [_, _, _], _ => rfl)
  obtain ⟨d26, F26⟩ := c.def_ 26 (d := dOf1 "_law_world" 38) rfl
  have g26 : mg "_law_world" = some (.ref (ga K "_law_world")) := glo _ (by decide +kernel)
  obtain ⟨d27, F27⟩ := c.def_ 27 (d := dOf "_law_part_text" 39) rfl
  have g27 : mg "_law_part_text" = some (.ref (ga K "_law_part_text")) := glo _ (by decide +kernel)
  have b27 : Binds K d27 ["_law_part", "_law_rows"] [] := F27.bindsN (fun _ _ _ _ _ _ us hl => match us, hl with | [_, _], _ => rfl)
  obtain ⟨d28, F28⟩ := c.def_ 28 (d := dOf "_law_step_at" 40) rfl
  have g28 : mg "_law_step_at" = some (.ref (ga K "_law_step_at")) := glo _ (by decide +kernel)
  have b28 : Binds K d28 ["_law_recipes", "_law_place"] [] := F28.bindsN (fun _ _ _ _ _ _ us hl => match us, hl with | [_, _], _ => rfl)
  obtain ⟨d29, F29⟩ := c.def_ 29 (d := dOf "_law_ordered" 41) rfl
  have g29 : mg "_law_ordered" = some (.ref (ga K "_law_ordered")) := glo _ (by decide +kernel)
  have b29 : Binds K d29 ["_law_places"] [] := F29.bindsN (fun _ _ _ _ _ _ us hl => match us, hl with | [_], _ => rfl)
  obtain ⟨d30, F30⟩ := c.def_ 30 (d := dOf "_law_same" 42) rfl
  have g30 : mg "_law_same" = some (.ref (ga K "_law_same")) := glo _ (by decide +kernel)
  have b30 : Binds K d30 ["_law_found", "_law_due"] [] := F30.bindsN (fun _ _ _ _ _ _ us hl => match us, hl with | [_, _], _ => rfl)
  obtain ⟨d31, F31⟩ := c.def_ 31 (d := dOf "_law_rows_near" 43) rfl
  have g31 : mg "_law_rows_near" = some (.ref (ga K "_law_rows_near")) := glo _ (by decide +kernel)
  have b31 : Binds K d31 ["_law_feed", "_law_node"] [] := F31.bindsN (fun _ _ _ _ _ _ us hl => match us, hl with | [_, _], _ => rfl)
  obtain ⟨d32, F32⟩ := c.def_ 32 (d := dOf "_law_node_behind" 44) rfl
  have g32 : mg "_law_node_behind" = some (.ref (ga K "_law_node_behind")) := glo _ (by decide +kernel)
  have b32 : Binds K d32 ["_law_node", "_law_rows"] [] := F32.bindsN (fun _ _ _ _ _ _ us hl => match us, hl with | [_, _], _ => rfl)
  obtain ⟨d33, F33⟩ := c.def_ 33 (d := dOf "_law_next_place" 45) rfl
  have g33 : mg "_law_next_place" = some (.ref (ga K "_law_next_place")) := glo _ (by decide +kernel)
  have b33 : Binds K d33 ["_law_feed", "_law_recipes", "_law_place"] [] := F33.bindsN (fun _ _ _ _ _ _ us hl => match us, hl with | [_, _, _], _ => rfl)
  obtain ⟨d34, F34⟩ := c.def_ 34 (d := dOf "_law_walked" 46) rfl
  have g34 : mg "_law_walked" = some (.ref (ga K "_law_walked")) := glo _ (by decide +kernel)
  have b34 : Binds K d34 ["_law_feed", "_law_recipes", "_law_many"] [] := F34.bindsN (fun _ _ _ _ _ _ us hl => match us, hl with | [_, _, _], _ => rfl)
  obtain ⟨d35, F35⟩ := c.def_ 35 (d := dOf "_law_ahead_of" 47) rfl
  have g35 : mg "_law_ahead_of" = some (.ref (ga K "_law_ahead_of")) := glo _ (by decide +kernel)
  have b35 : Binds K d35 ["_law_steps", "_law_place"] [] := F35.bindsN (fun _ _ _ _ _ _ us hl => match us, hl with | [_, _], _ => rfl)
  obtain ⟨d36, F36⟩ := c.def_ 36 (d := dOf "_law_pairs_of" 48) rfl
  have g36 : mg "_law_pairs_of" = some (.ref (ga K "_law_pairs_of")) := glo _ (by decide +kernel)
  have b36 : Binds K d36 ["_law_steps"] [] := F36.bindsN (fun _ _ _ _ _ _ us hl => match us, hl with | [_], _ => rfl)
  obtain ⟨d37, F37⟩ := c.def_ 37 (d := dOf "_law_fault_of" 49) rfl
  have g37 : mg "_law_fault_of" = some (.ref (ga K "_law_fault_of")) := glo _ (by decide +kernel)
  have b37 : Binds K d37 ["_law_pairs"] [] := F37.bindsN (fun _ _ _ _ _ _ us hl => match us, hl with | [_], _ => rfl)
  obtain ⟨d38, F38⟩ := c.def_ 38 (d := dOf "_law_refused_by" 50) rfl
  have g38 : mg "_law_refused_by" = some (.ref (ga K "_law_refused_by")) := glo _ (by decide +kernel)
  have b38 : Binds K d38 ["_law_pairs"] [] := F38.bindsN (fun _ _ _ _ _ _ us hl => match us, hl with | [_], _ => rfl)
  obtain ⟨d39, F39⟩ := c.def_ 39 (d := dOf "_law_odd_step" 51) rfl
  have g39 : mg "_law_odd_step" = some (.ref (ga K "_law_odd_step")) := glo _ (by decide +kernel)
  have b39 : Binds K d39 ["_law_feed", "_law_found"] [] := F39.bindsN (fun _ _ _ _ _ _ us hl => match us, hl with | [_, _], _ => rfl)
  obtain ⟨d40, F40⟩ := c.def_ 40 (d := dOf "_law_odd_pairs" 52) rfl
  have g40 : mg "_law_odd_pairs" = some (.ref (ga K "_law_odd_pairs")) := glo _ (by decide +kernel)
  have b40 : Binds K d40 ["_law_feed", "_law_pairs"] [] := F40.bindsN (fun _ _ _ _ _ _ us hl => match us, hl with | [_, _], _ => rfl)
  obtain ⟨eClash__init__, FClash__init__⟩ := c.def_ 42 (d := dIn "Clash" "__init__" "Clash.__init__" 3 0) rfl
  have bClash__init__ : Binds K eClash__init__ ["self", "spot"] [] := FunD.bindsN FClash__init__ (fun _ _ _ _ _ _ us hl => match us, hl with | [_, _], _ => rfl)
  obtain ⟨eGap__init__, FGap__init__⟩ := c.def_ 43 (d := dIn "Gap" "__init__" "Gap.__init__" 4 0) rfl
  have bGap__init__ : Binds K eGap__init__ ["self", "spot"] [] := FunD.bindsN FGap__init__ (fun _ _ _ _ _ _ us hl => match us, hl with | [_, _], _ => rfl)
  obtain ⟨eRewritten__init__, FRewritten__init__⟩ := c.def_ 44 (d := dIn "Rewritten" "__init__" "Rewritten.__init__" 5 0) rfl
  have bRewritten__init__ : Binds K eRewritten__init__ ["self", "spot"] [] := FunD.bindsN FRewritten__init__ (fun _ _ _ _ _ _ us hl => match us, hl with | [_, _], _ => rfl)
  obtain ⟨eRecord__init__, FRecord__init__⟩ := c.def_ 45 (d := dInD "Record" "__init__" "Record.__init__" 13 0) rfl
  obtain ⟨dsDRecord__init__, vDRecord__init__, bDRecord__init__⟩ := FRecord__init__.binds1 (ps := ["self", "steps"]) 1 0 (by simp [dInD, He.DefD.dvs]) rfl (fun _ _ _ _ _ _ _ us its hl hi => by
    rcases us with _ | ⟨u0, _ | ⟨u1, us⟩⟩ <;> first | (cases hl; done) | skip
    rcases its with _ | ⟨i0, _ | ⟨i1, its⟩⟩ <;> first | (cases hi; done) | skip
    exact ⟨_, rfl, rfl⟩)
  obtain ⟨dsARecord__init__, vARecord__init__, bARecord__init__⟩ := FRecord__init__.binds1 (ps := ["self", "steps"]) 2 1 (by simp [dInD, He.DefD.dvs]) rfl (fun _ _ _ _ _ _ _ us its hl hi => by
    rcases us with _ | ⟨u0, _ | ⟨u1, _ | ⟨u2, us⟩⟩⟩ <;> first | (cases hl; done) | skip
    rcases its with _ | ⟨i0, _ | ⟨i1, its⟩⟩ <;> first | (cases hi; done) | skip
    exact ⟨_, rfl, rfl⟩)
  cases vARecord__init__
  obtain ⟨eRecord__len__, FRecord__len__⟩ := c.def_ 46 (d := dIn "Record" "__len__" "Record.__len__" 13 2) rfl
  have bRecord__len__ : Binds K eRecord__len__ ["self"] [] := FunD.bindsN FRecord__len__ (fun _ _ _ _ _ _ us hl => match us, hl with | [_], _ => rfl)
  obtain ⟨eRecord__eq__, FRecord__eq__⟩ := c.def_ 47 (d := dIn "Record" "__eq__" "Record.__eq__" 13 4) rfl
  have bRecord__eq__ : Binds K eRecord__eq__ ["self", "other"] [] := FunD.bindsN FRecord__eq__ (fun _ _ _ _ _ _ us hl => match us, hl with | [_, _], _ => rfl)
  obtain ⟨eRecordsteps, FRecordsteps⟩ := c.def_ 48 (d := dIn "Record" "steps" "Record.steps" 13 13) rfl
  have bRecordsteps : Binds K eRecordsteps ["self"] [] := FunD.bindsN FRecordsteps (fun _ _ _ _ _ _ us hl => match us, hl with | [_], _ => rfl)
  have xC : Cl1 P w K mg base "Clash" (ga K "Clash") "spot" := ⟨xcB_ok kdVe p1, glo _ (by decide +kernel), p2, _, _, p3, p4, okIni FClash__init__ ⟨rfl, rfl, rfl, by decide +kernel, rfl, by decide +kernel, by decide +kernel⟩ rfl rfl (by decide) (by decide),
    kbnOf FClash__init__ (fun _ _ _ _ _ _ us ws h1 h2 => match us, h1, ws, h2 with | [_, _], _, [], _ => rfl) (fun r _ => r), kbnOf FClash__init__ (fun _ _ _ _ _ _ us ws h1 h2 => match us, h1, ws, h2 with | [_], _, [_], _ => rfl) (fun r t => r.append t)⟩
  have xG : Cl1 P w K mg base "Gap" (ga K "Gap") "spot" := ⟨xcB_ok kdVe p5, glo _ (by decide +kernel), p6, _, _, p7, p8, okIni FGap__init__ ⟨rfl, rfl, rfl, by decide +kernel, rfl, by decide +kernel, by decide +kernel⟩ rfl rfl (by decide) (by decide),
    kbnOf FGap__init__ (fun _ _ _ _ _ _ us ws h1 h2 => match us, h1, ws, h2 with | [_, _], _, [], _ => rfl) (fun r _ => r), kbnOf FGap__init__ (fun _ _ _ _ _ _ us ws h1 h2 => match us, h1, ws, h2 with | [_], _, [_], _ => rfl) (fun r t => r.append t)⟩
  have xW : Cl1 P w K mg base "Rewritten" (ga K "Rewritten") "spot" := ⟨xcB_ok kdVe p9, glo _ (by decide +kernel), p10, _, _, p11, p12, okIni FRewritten__init__ ⟨rfl, rfl, rfl, by decide +kernel, rfl, by decide +kernel, by decide +kernel⟩ rfl rfl (by decide) (by decide),
    kbnOf FRewritten__init__ (fun _ _ _ _ _ _ us ws h1 h2 => match us, h1, ws, h2 with | [_, _], _, [], _ => rfl) (fun r _ => r), kbnOf FRewritten__init__ (fun _ _ _ _ _ _ us ws h1 h2 => match us, h1, ws, h2 with | [_], _, [_], _ => rfl) (fun r t => r.append t)⟩
  have iR : REC.IsC K (ga K "Record") := ⟨clRecord, p13, p15, p16, p14⟩
  have mi : mg "isinstance" = none := fre _ (by decide +kernel)
  have md : mg "dict" = none := fre _ (by decide +kernel)
  have ms : mg "sorted" = none := fre _ (by decide +kernel)
  have my : mg "any" = none := fre _ (by decide +kernel)
  have Th : REC.Three P w K mg base (ga K "Clash") (ga K "Gap") (ga K "Rewritten") (ga K "BuildError") := ⟨xC, xG, xW, glo _ (by decide +kernel), p27, p28, p29, p18, p19, p20, p21, p22, p23, p24, p25, p26⟩
  have aRA : Has P w K mg base 1 "_rank_of_answers" ["answers"] (PLC.spRA K) := ⟨_, d3, g3, F3.kp, b3, PLC.okRA (k := 0) F3 B⟩
  have aRank := PLC.okRank (P := P) (w := w) (mg := mg) (base := base) (k := 0) F2 B aRA
  have aOdd : Has P w K mg base 5 "ordered" ["places"] (PLC.spOdd K) := ⟨_, d1, g1, F1.kp, b1, PLC.okOdd (k := 1) F1 B my ms g2 b2 aRank⟩
  have aOrd : Has P w K mg base 6 "in_order" ["places"] (PLC.spOrd K false) := ⟨_, d0, g0, F0.kp, b0, PLC.okOrdL (k := 1) F0 B aOdd⟩
  have aFst : Has P w K mg base 1 "is_first" ["place"] (REC.spFst K) := ⟨_, d9, g9, F9.kp, b9, REC.okFst (k := 0) F9⟩
  have aLen := REC.okLen (P := P) (w := w) (mg := mg) (base := base) (k := 0) F7 B
  have aLd : Has P w K mg base 1 "leads_to" ["step", "place"] (REC.spLd K) := ⟨_, d11, g11, F11.kp, b11, REC.okLd (k := 0) F11 B⟩
  have aAh : Has P w K mg base 1 "place_ahead" ["place", "reads"] (REC.spAh P w K) := ⟨_, d10, g10, F10.kp, b10, REC.okAh (k := 0) F10⟩
  have aRds : Has P w K mg base 1 "reads_in" ["table"] (REC.spRds P w K) := ⟨_, d8, g8, F8.kp, b8, REC.okRds (k := 0) F8⟩
  have aGrow : Has P w K mg base 4 "in_growing_order" ["table"] (REC.spGrow P w K) := ⟨_, d6, g6, F6.kp, b6, REC.okGrow (k := 0) F6 ms g7 b7 aLen⟩
  have aWays : REC.HasX P w K mg base 6 "_check_ways" ["table"] (REC.spWays P w K (ga K "Gap") (ga K "Rewritten")) := ⟨_, d5, g5, F5.kp, b5, REC.okWays (k := 0) B xG xW aRds aGrow aFst aAh aLd aOdd F5⟩
  have aTbl : REC.HasX P w K mg base 7 "_table_of" ["pairs"] (REC.spTbl P w K (ga K "Clash") (ga K "Gap") (ga K "Rewritten")) := ⟨_, d4, g4, F4.kp, b4, REC.okTbl (k := 0) xC aOrd aWays F4⟩
  have oRI := REC.okRInit (P := P) (w := w) (mg := mg) (base := base) (k := 0) mi md clRecord naRecord_steps aTbl FRecord__init__
  have oRS := REC.okRSteps (P := P) (w := w) (mg := mg) (base := base) (k := 1) B clRecord naRecord_steps aOdd FRecordsteps
  have oRL := REC.okRLen (P := P) (w := w) (mg := mg) (base := base) (k := 0) (fre _ (by decide +kernel)) clRecord naRecord_steps FRecord__len__
  have oRE := REC.okREq (P := P) (w := w) (mg := mg) (base := base) (k := 0) mi (glo _ (by decide +kernel)) iR naRecord_steps p17 FRecord__eq__
  have RC : REC.RecC P w K mg base 0 (ga K "Clash") (ga K "Gap") (ga K "Rewritten") (ga K "Record") := ⟨glo _ (by decide +kernel), iR, naRecord_steps, ⟨_, _, mkRecord, bARecord__init__, oRI⟩, ⟨_, _, meRecordsteps, bRecordsteps, oRS⟩⟩
  have RL : REC.RecL P w K mg base 64 (ga K "Clash") (ga K "Gap") (ga K "Rewritten") (ga K "Record") := ⟨glo _ (by decide +kernel), ⟨_, _, _, _, mkRecord, vDRecord__init__, emB_ok p30, bARecord__init__, bDRecord__init__, oRI.mono (by decide)⟩, ⟨_, _, meRecord__len__.at_, meRecord__len__.fn, bRecord__len__, oRL⟩, ⟨_, _, meRecord__eq__.at_, meRecord__eq__.fn, bRecord__eq__, oRE⟩⟩
  have aFeed : Has P w K mg base 1 "_law_feed_of" ["_law_script", "_law_k"] (spFeed K) := ⟨_, d12, g12, F12.kp, b12, okFeed (k := 0) F12 B.len⟩
  have aDraw : Has P w K mg base 1 "_law_draw" ["_law_feed", "_law_many"] (spDraw) := ⟨_, d13, g13, F13.kp, b13, okDraw (k := 0) F13⟩
  have aMixK : Has P w K mg base 2 "_law_mixed" ["_law_feed", "_law_items"] (TRE.spMixG K TRE.kyD) := ⟨_, d14, g14, F14.kp, b14, TRE.okMixG (k := 0) TRE.kyD plKy5 F14 B aDraw⟩
  have aMixP : Has P w K mg base 2 "_law_mixed" ["_law_feed", "_law_items"] (TRE.spMixG K prD) := ⟨_, d14, g14, F14.kp, b14, TRE.okMixG (k := 0) prD plPr5 F14 B aDraw⟩
  have aPick : Has P w K mg base 2 "_law_pick" ["_law_feed", "_law_items"] (spPick K) := ⟨_, d15, g15, F15.kp, b15, KS.La.okPick (k := 0) F15 B.len aDraw⟩
  have aOuts : Has P w K mg base 1 "_law_outs" [] (TRE.spOutsT) := ⟨_, d16, g16, F16.kp, b16, TRE.okOutsT (k := 0) F16⟩
  have aCalls : Has P w K mg base 1 "_law_calls" [] (spCalls) := ⟨_, d17, g17, F17.kp, b17, okCalls (k := 0) F17⟩
  have aText : Has P w K mg base 3 "_law_some_text" ["_law_feed"] (spText) := ⟨_, d19, g19, F19.kp, b19, okTxt (k := 0) F19 aDraw aPick aCalls⟩
  have aAns : Has P w K mg base 4 "_law_some_answer" ["_law_feed"] (spAns) := ⟨_, d20, g20, F20.kp, b20, KS.La.okAns (k := 0) F20 aDraw aText⟩
  have aParts : Has P w K mg base 4 "_law_some_parts" ["_law_feed"] (TRE.spParts K) := ⟨_, d21, g21, F21.kp, b21, TRE.okSomeParts (k := 0) F21 B aDraw aText⟩
  have aTree : Has P w K mg base 11 "_law_some_tree" ["_law_feed", "_law_keys", "_law_outs_here", "_law_deep"] (TRE.spTree K 6) := ⟨_, d22, g22, F22.kp, b22, TRE.okTree (k := 0) F22 g22 b22 B aDraw aPick aMixK aParts aAns 6 (by decide)⟩
  have aKeys : Has P w K mg base 2 "_law_some_keys" ["_law_feed", "_law_names"] (TRE.spKeys) := ⟨_, d23, g23, F23.kp, b23, TRE.okSomeKeys (k := 0) F23 B aDraw aOuts⟩
  have aNames : Has P w K mg base 2 "_law_some_names" ["_law_feed", "_law_many"] (TRE.spNames) := ⟨_, d18, g18, F18.kp, b18, TRE.okNames (k := 0) F18 B aDraw⟩
  have aOutp : Has P w K mg base 4 "_law_some_outputs" ["_law_feed"] (TRE.spOutputs) := ⟨_, d24, g24, F24.kp, b24, TRE.okOutputs (k := 0) F24 (fre _ (by decide +kernel)) aDraw aText aOuts⟩
  have aMade : Has P w K mg base 12 "_law_drawn_made" ["_law_feed", "_law_near", "_law_recipes"] (TRE.spMade K) := ⟨_, d25, g25, F25.kp, b25, TRE.okMade (k := 0) F25 B aDraw aPick aCalls aKeys aOuts aText aTree⟩
  obtain ⟨dsW, vW, bW⟩ := F26.binds1 (ps := ["_law_feed", "_law_many", "_law_has_knots"]) 2 0 (by simp [dOf1, He.DefD.dvs]) rfl (fun _ _ _ _ _ _ _ us its hl hi => by
    rcases us with _ | ⟨u1, _ | ⟨u2, _ | ⟨u3, us⟩⟩⟩ <;> first | (cases hl) | skip
    rcases its with _ | ⟨i1, _ | ⟨i2, its⟩⟩ <;> first | (cases hi) | skip
    exact ⟨_, rfl, rfl⟩)
  have aWorld := TRE.okWorld (P := P) (w := w) (mg := mg) (base := base) (k := 0) F26 B (fre _ (by decide +kernel)) aDraw aNames aOutp aMade
  have aSame : Has P w K mg base 7 "_law_same" ["_law_found", "_law_due"] (spSame K 6) := ⟨_, d30, g30, F30.kp, b30, okSame F30 g30 B 6 0⟩
  have aPart : Has P w K mg base 1 "_law_part_text" ["_law_part", "_law_rows"] (TRE.spPieceL K) := ⟨_, d27, g27, F27.kp, b27, TRE.okPartText (k := 0) F27 B⟩
  have aStep : Has P w K mg base 2 "_law_step_at" ["_law_recipes", "_law_place"] (TRE.spLStep K) := ⟨_, d28, g28, F28.kp, b28, TRE.okLStep (k := 0) F28 B aPart⟩
  have aNear : Has P w K mg base 5 "_law_rows_near" ["_law_feed", "_law_node"] (TRE.spNearR K) := ⟨_, d31, g31, F31.kp, b31, TRE.okNearR (k := 0) F31 B aDraw aPick aAns⟩
  have aNode : Has P w K mg base 1 "_law_node_behind" ["_law_node", "_law_rows"] (TRE.spNodeAt K) := ⟨_, d32, g32, F32.kp, b32, TRE.okNodeB (k := 0) F32 B⟩
  have aNext : Has P w K mg base 6 "_law_next_place" ["_law_feed", "_law_recipes", "_law_place"] (TRE.spNext K) := ⟨_, d33, g33, F33.kp, b33, TRE.okNext (k := 0) F33 (hasMono aStep (by decide)) aNear (hasMono aNode (by decide))⟩
  have aWalk : Has P w K mg base 7 "_law_walked" ["_law_feed", "_law_recipes", "_law_many"] (REC.spWalked P w K) := ⟨_, d34, g34, F34.kp, b34, REC.okWalked (k := 0) B F34 aDraw aPick (hasMono aStep (by decide)) aNext⟩
  have aLO : Has P w K mg base 1 "_law_ordered" ["_law_places"] (PLC.spOrd K false) := ⟨_, d29, g29, F29.kp, b29, PLC.okLO (k := 0) F29 B ms⟩
  have aLAh : Has P w K mg base 1 "_law_ahead_of" ["_law_steps", "_law_place"] (REC.spLAhead P w K) := ⟨_, d35, g35, F35.kp, b35, REC.okLAhead (k := 0) F35⟩
  have aPrs : Has P w K mg base 2 "_law_pairs_of" ["_law_steps"] (REC.spPairs P w K) := ⟨_, d36, g36, F36.kp, b36, REC.okPairs (k := 1) B aLO F36⟩
  have aFlt : Has P w K mg base 2 "_law_fault_of" ["_law_pairs"] (REC.spFault P w K) := ⟨_, d37, g37, F37.kp, b37, REC.okFault (k := 0) B aLO aLAh F37⟩
  have aRef : Has P w K mg base 12 "_law_refused_by" ["_law_pairs"] (REC.spRefused K) := ⟨_, d38, g38, F38.kp, b38, REC.okRefused (k := 0) B Th RC F38⟩
  have aOS : Has P w K mg base 3 "_law_odd_step" ["_law_feed", "_law_found"] (REC.spOddS K) := ⟨_, d39, g39, F39.kp, b39, REC.okOddS (k := 2) B F39 aPick⟩
  have aOP : Has P w K mg base 5 "_law_odd_pairs" ["_law_feed", "_law_pairs"] (REC.spOddP K) := ⟨_, d40, g40, F40.kp, b40, REC.okOddP (k := 4) B F40 (hasMono aDraw (by decide)) (hasMono aText (by decide)) aAns (hasMono aOS (by decide))⟩
  exact REC.okLaw (M := 64) (by decide) F B md RL (hasMono aFeed (by decide)) (hasMono aDraw (by decide)) ⟨_, d26, dsW, g26, F26.kp, vW, bW, aWorld.mono (by decide)⟩ (hasMono aWalk (by decide)) (hasMono aMixP (by decide)) (hasMono aPrs (by decide)) (hasMono aOP (by decide)) (hasMono aFlt (by decide)) (hasMono aRef (by decide)) (hasMono aSame (by decide))
end
end REC.HD

set_option Elab.async false
set_option linter.all false
set_option maxRecDepth 100000
set_option maxHeartbeats 0
open PySem PySem.W PySem.Calls PyProof.Rows
theorem PySem.Challenge.cw_farenough_k11_records_made_holds : PySem.Challenge.rw_farenough_k11_records_made.Holds := by
  w_on; o_law
  refine HandSHeadRun.head_any (r := OpenLaw.row PySem.Challenge.rw_farenough_k11_records_made) (q := view (OpenLaw.row PySem.Challenge.rw_farenough_k11_records_made).prog [53]) (H := REC.HD.hk) (ob := REC.HD.ob) (M := 20000) (loose := REC.HD.loose)
    (d := HandSHeadRun.topDef (OpenLaw.row PySem.Challenge.rw_farenough_k11_records_made).prog 53) (kwd := []) REC.HD.ob_eq
    (by kernel_rfl) (fun s => by kernel_rfl) REC.HD.run (by kernel_rfl) (by kernel_rfl) (by kernel_rfl) (by rfl) (by first | assumption | decide +kernel) (by decide +kernel) ⟨rfl, rfl, rfl, rfl, rfl, by decide +kernel⟩ ?hw ?hc
  case hw => w_witness2
  case hc =>
    refine L2.walk_ofE (l := PySem.Challenge.rw_farenough_k11_records_made) (n := 63) (k := 66) (x := "_law_script") (CX := L2.CX0) rfl (by decide) (by kernel_rfl) ⟨rfl, by decide, by decide⟩ ?F (fun _ _ _ _ z => z)
    intro w mg fa h Y G hmg0
    obtain ⟨K, KX, y⟩ := Y
    have hmg : mg ("law" : PySem.Str) = some (.ref fa) := by
      have e : (HandSHeadRun.topDef (OpenLaw.row PySem.Challenge.rw_farenough_k11_records_made).prog 53).name = ("law" : PySem.Str) := by kernel_rfl
      rw [← e]
      exact hmg0
    obtain ⟨fd, hb, hF⟩ := REC.HD.facts (P := (PySem.Challenge.rw_farenough_k11_records_made).prog) (w := w) KX G hmg y
    exact ⟨K, fd, REC.spLaw K, KX, hb, fun H a ns hl _ hS => ⟨a, ns, rfl, hS, hl, fun _ => rfl⟩, hF⟩


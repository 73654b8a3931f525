import PyProof.Rows.All
import HandS.ForMost
import HandS.Style
import HandS.IsInst
import HandS.Zip
import HandS.TupAny
import HandS.Codes
import HandS.Words
import HandS.Defaults
import PySem.Challenge.RW_farenough_k49_versions_of_a_project
import Wide.All
import OpenK.AllK
import Wide.FinOn
import HandS.ForExc
import HandS.ExcInit
import HandS.ExcField
import HandS.ExcIs
import HandS.ExcValue
import PyProof.ExcBaseAll.IndexError
import PyProof.ExcBaseAll.LookupError
import KE.KExcInit
import KE.KExcIs
import HandS.MakeKw
import KE.KStateDown
import HandS.More
import HandS.Head0
import HandS.Head1
import HandS.Head2
import HandS.HeadEnd
import HandS.HeadHook2
import HandS.DictEq
import HandS.DictComp
import PyProof.Rows.StrJoinRep
import HandS.WordsDict
import HandS.OwnEq
import OpenK.KMeth
import PyProof.InstEq
import HandS.New
import HandS.Iter
import HandS.Dict
import HandS.Star
import OpenK.KOps
import HandS.TryMany
import HandS.Property
import PyProof.EqKinds
import HandS.TupSets
import HandS.Strs
import HandS.SetTxt0
import HandS.SetBool
import HandS.SetFor
import HandS.FStr
import HandS.NoneIn
import HandS.WideBits
import PyProof.Rows.SortStr
import PyProof.Rows.StrMeet
import PyProof.Rows.TmSorted
import KE.DataCmp
import HandS.Small
set_option Elab.async false
set_option linter.all false
set_option maxRecDepth 100000
set_option maxHeartbeats 4000000
namespace KS
open PySem PySem.Spec PyProof.Rows L2
def top (i : Nat) : Stmt := PySem.Challenge.pw_farenough_k49_versions_of_a_project.main.body.getD i (.Pass ⟨0, 0, 0, 0⟩)
abbrev FnP (K : PySem.W.Frag) (x : Str) (st : Stmt) (f : Addr) (fd : FuncData) : Prop := FunD K x x (defArgs st) (defBody st) (defScope st) [] [] f fd
abbrev lFeed : Stmt := top 21
abbrev lDraw : Stmt := top 22
abbrev lPick : Stmt := top 23
abbrev lCalls : Stmt := top 25
abbrev lText : Stmt := top 26
end KS

set_option Elab.async false
set_option linter.all false
set_option maxRecDepth 100000
set_option maxHeartbeats 4000000
namespace KX
open PySem PySem.Spec PyProof.Rows
abbrev veB : List Value := [.type "ValueError", .type "Exception", .type "BaseException", .type "object"]
abbrev keB : List Value := [.type "KeyError", .type "LookupError", .type "Exception", .type "BaseException", .type "object"]
abbrev ieB : List Value := [.type "IndexError", .type "LookupError", .type "Exception", .type "BaseException", .type "object"]
theorem storeKey : StoreFacts "KeyError" keB "object.__setattr__" "object" where
  mro := by kernel_rfl
  slot := .of (owner := "object") (n := "__setattr__")
    (by rw [typeLookup_type, builtinLookup_eq_fast]; kernel_rfl)
    (by decide +kernel)
    (by decide +kernel) (by decide +kernel)
    (by first
      | exact .inl (by decide +kernel)
      | exact .inr (by decide +kernel))
    (by rw [isSubtype_type]; kernel_rfl)
  entry := F.entry_object_sa
  kind := by decide +kernel
  split := by decide +kernel
  hasOwner := by decide +kernel
  args := fun a b c => by unfold argsOk; kernel_rfl
  passes := fun self => by kernel_rfl
/-- a chain of classes over a built-in error, made by newId -/
structure Kd (bmB : List Value) (newId : String) : Prop where
  made : ∃ B initId bmF, ExcBaseFacts B newId initId bmF ∧ bmB.contains (.type B) = true ∧ bmB.contains (.type "AttributeError") = false ∧ bmB.contains (.type "NameError") = false
  st : ∃ S, StoreFacts S bmB "object.__setattr__" "object"
theorem kdVe : Kd veB "ValueError.__new__" := ⟨⟨_, _, _, F.excBase_ValueError, by decide +kernel, by decide +kernel, by decide +kernel⟩, ⟨_, F.store_ValueError⟩⟩
theorem kdKe : Kd keB "LookupError.__new__" := ⟨⟨_, _, _, F.excBase_LookupError, by decide +kernel, by decide +kernel, by decide +kernel⟩, ⟨_, storeKey⟩⟩
theorem kdIe : Kd ieB "IndexError.__new__" := ⟨⟨_, _, _, F.excBase_IndexError, by decide +kernel, by decide +kernel, by decide +kernel⟩, ⟨_, F.store_IndexError⟩⟩
section
variable {prog : Program} {w : World} {A : Around} {E : Value → Shared → Prop} {R : Result → Shared → Prop} {h : Heap} {g : Array GenState} {d : Drawn} {t : Nat} {os : OsState}
variable {nm q : Str} {C N : Addr} {bs bm bmF : List Value} {hdct : Bool} {sn : List Str} {sub : List Value} {ab : Bool} {col : Option Bool} {dd : Option Addr} {k0 k1 k2 k3 k5 : Option Value} {B newId initId : String}
abbrev Stands (h : Heap) (nm q : Str) (C N : Addr) (bs bm : List Value) (hdct : Bool) (sn : List Str) (sub : List Value) (ab : Bool) (col : Option Bool) (dd : Option Addr) (k0 k1 k2 k3 k5 : Option Value) (newId : String) : Prop :=
  h.get? C = some (excClassObj nm q C N bs bm hdct sn sub ab col dd k0 k1 k2 k3 k5 newId)
theorem chkNew {M : Model} (F : ExcBaseFacts B newId initId bmF) (hB : bm.contains (.type B) = true) {rest : List Value} {kw : List (Str × Value)} {Q : Unit → Shared → Prop}
    (hC : Stands h nm q C N bs bm hdct sn sub ab col dd k0 k1 k2 k3 k5 newId) (hq : Q () ⟨h, g, d, t, os⟩) :
    wpAny M A (checkBuiltinCall newId ⟨.ref C :: rest, kw⟩) Q E ⟨h, g, d, t, os⟩ := by
  have hin : (Value.ref C :: bm).contains (.type B) = true := by
    rw [List.contains_cons, hB, Bool.or_true]
  have star := F.noStar
  simp only [checkBuiltinCall, F.newKind, F.newSplit, F.newRow]
  repeat (first
    | refine wpAny_loadPart_at hC ?_
    | (refine wpAny_isSubtype_exc hC ?_; rw [hin])
    | refine wpAny_staticBase_exc hC ?_
    | refine wpAny_madeBy_exc hC ?_
    | simp only [bne_self_eq_false, Bool.false_eq_true, if_false]
    | wp_step)
  exact hq
theorem newG (F : ExcBaseFacts B newId initId bmF) (hB : bm.contains (.type B) = true) (hA : bm.contains (.type "AttributeError") = false) (hN : bm.contains (.type "NameError") = false)
    {rest : List Value} {kw : List (Str × Value)} (hC : Stands h nm q C N bs bm hdct sn sub ab col dd k0 k1 k2 k3 k5 newId)
    (hq : R (.ok (.ret (.ref (h.objs.size + 1)))) ⟨(h.push (W.kdv_tup rest)).push (HandSPX.excO C h.objs.size), g, d, t, os⟩) (hrest : rest.length ≤ sizeLine) :
    codeAny (model prog w) A (.builtin newId ⟨.ref C :: rest, kw⟩) R ⟨h, g, d, t, os⟩ := by
  have ends := F.ends
  have i1 : (Value.ref C :: bm).contains (.type B) = true := by
    rw [List.contains_cons, hB, Bool.or_true]
  have i2 : (Value.ref C :: bm).contains (.type "AttributeError") = false := by
    rw [List.contains_cons, hA]; rfl
  have i3 : (Value.ref C :: bm).contains (.type "NameError") = false := by
    rw [List.contains_cons, hN]; rfl
  refine codeAny_builtinAt F.entry ?_
  unfold Builtin.«BaseException.__new__»
  refine PySem.wpAt_bind ?_
  show PySem.wpAt _ _ _ (PySem.stack >>= _) _ _ _
  refine PySem.wpAt_bind (PySem.wpAt_stack fun p below => PySem.wpAt_of_wpAny ?_)
  wp_walk
  refine PySem.wpAt_of_wpAny ?_
  rw [F.owner]
  repeat (first
    | with_reducible refine wpAny_madeHere_exc F.canon hC ?_
    | with_reducible refine wpAny_loadPart_at hC ?_
    | (with_reducible refine wpAny_isSubtype_exc hC ?_
       first | rw [i1] | rw [i2] | rw [i3])
    | wp_step)
  show R _ _
  rw [Heap.size_push]
  exact hq
theorem tcallG (F : ExcBaseFacts B newId initId bmF) (hB : bm.contains (.type B) = true) (hA : bm.contains (.type "AttributeError") = false) (hN : bm.contains (.type "NameError") = false)
    {rest : List Value} {kw : List (Str × Value)} {fI : Addr} {Q : Fin → Shared → Prop} (hC : Stands h nm q C N bs bm hdct sn sub ab col dd k0 k1 k2 k3 k5 newId)
    (hi : W.Looks (model prog w) h (typeLookup (.ref C) "__init__") (some (.ref fI))) (hb : ∀ self, W.Looks (model prog w) h (bindSpecial (.ref fI) self) (.ref fI, [self])) (hrest : rest.length ≤ sizeLine)
    (hq : codeAny (model prog w) A (.call (.ref fI) ⟨.ref (h.objs.size + 1) :: rest, kw⟩)
      (fun r s' => match r with
        | .ok (.ret v) => v = .none ∧ Q (.done (.ret (.ref (h.objs.size + 1)))) s'
        | .ok _ => False
        | .error e => E e s')
      ⟨(h.push (W.kdv_tup rest)).push (HandSPX.excO C h.objs.size), g, d, t, os⟩) :
    wpAny (model prog w) A (Builtin.«type.__call__» ⟨.ref C :: rest, kw⟩) Q E ⟨h, g, d, t, os⟩ := by
  repeat (first
    | with_reducible refine wpAny_loadPart_at hC ?_
    | with_reducible refine wpAny_madeBy_exc hC ?_
    | wp_step)
  refine codeAny_call_builtin_code (Code.quiet_builtin _ F.quiet) (chkNew F hB hC ?_)
  refine newG F hB hA hN hC ?_ hrest
  show wpAny _ _ _ _ _ _
  have k : ∀ b o, h.get? b = some o → ((h.push (W.kdv_tup rest)).push (HandSPX.excO C h.objs.size)).get? b = some o := fun b o e =>
    Heap.get?_push_of_some _ (Heap.get?_push_of_some _ e)
  have hC1 := k _ _ hC
  have there : ((h.push (W.kdv_tup rest)).push (HandSPX.excO C h.objs.size)).get? (h.objs.size + 1) = some (HandSPX.excO C h.objs.size) := by
    heap_get
  have self : (Value.ref C :: bm).contains (.ref C) = true := by simp
  have j1 := hi.keeps k
  have j2 := (hb (.ref (h.objs.size + 1))).keeps k
  unfold isInstance
  repeat (first
    | with_reducible refine wpAny_loadPart_at there ?_
    | (with_reducible refine wpAny_isSubtype_exc hC1 ?_
       rw [self])
    | wp_step)
  show wpAny _ _ (typeLookup (.ref C) _) _ _ _
  refine j1.at ?_
  refine wpAny_holding (wpAny_bind (j2.at ?_))
  refine wpAny_bind (wpAny_call (codeAny_mono hq fun r s' z => ?_))
  rcases r with e | (v | _ | _ | _) <;> first | exact z | exact z.elim | skip
  obtain ⟨rfl, z⟩ := z
  first
    | exact wpAny_pure (wpAny_pure z)
    | (wp_walk; exact z)
theorem callG (F : ExcBaseFacts B newId initId bmF) (hB : bm.contains (.type B) = true) (hA : bm.contains (.type "AttributeError") = false) (hN : bm.contains (.type "NameError") = false)
    {rest : List Value} {kw : List (Str × Value)} {fI : Addr} (hC : Stands h nm q C N bs bm hdct sn sub ab col dd k0 k1 k2 k3 k5 newId)
    (hi : W.Looks (model prog w) h (typeLookup (.ref C) "__init__") (some (.ref fI))) (hb : ∀ self, W.Looks (model prog w) h (bindSpecial (.ref fI) self) (.ref fI, [self])) (hrest : rest.length ≤ sizeLine)
    (hq : codeAny (model prog w) (A.under (.builtin "type.__call__" ⟨.ref C :: rest, kw⟩)) (.call (.ref fI) ⟨.ref (h.objs.size + 1) :: rest, kw⟩) (W.InitBack (h.objs.size + 1) R)
      ⟨(h.push (W.kdv_tup rest)).push (HandSPX.excO C h.objs.size), g, d, t, os⟩) :
    codeAny (model prog w) A (.call (.ref C) ⟨rest, kw⟩) R ⟨h, g, d, t, os⟩ := by
  have f1 := tc_lookup
  have f2 := tc_bind (.ref C)
  have isT : (⟨h, g, d, t, os⟩ : Shared).TypeIs (.ref C) "type" := ⟨_, hC, rfl⟩
  refine codeAny_of_tree ?_
  show wpAny _ _ (callAny (.ref C) _) _ _ _
  repeat (any_goals (first
    | assumption
    | with_reducible refine wpAny_loadPart_at hC ?_
    | wp_step))
  refine ⟨rfl, ?_⟩
  refine codeAny_call_builtin_at (Code.quiet_builtin _ (by decide +kernel)) entry_typeCall (wpAny_check_type_call_sub hC (tcallG F hB hA hN hC hi hb hrest ?_))
  refine codeAny_mono hq fun r s' z => ?_
  rcases r with e | (v | _ | _ | _) <;> exact z
end
end KX

set_option Elab.async false
set_option linter.all false
set_option maxRecDepth 100000
set_option maxHeartbeats 4000000
namespace KX
open PySem PySem.Spec PyProof.Rows L2
open Builtin.ObjectAttr (storeInOwnDict ownDictForStores)
open PySem.W (Frag findIn subIn typeIn keepIn hasDictIn mroIn specialIn takesIn excInitIn excOver clsIn takerIn)
/-! ### a class of errors, as the written part has it -/
structure XC (K : Frag) (C : Addr) : Prop where
  kd : ∃ bmB newId, Kd bmB newId ∧ excInitIn K C bmB newId = true ∧ excOver K C bmB = true
  sa : findIn K (.ref C) "__setattr__" = some (some (.builtin "object.__setattr__"))
  ga : findIn K (.ref C) "__getattribute__" = some (some (.builtin "BaseException.__getattribute__"))
  gg : findIn K (.ref C) "__getattr__" = some none
  ex : subIn K (.ref C) (.type "BaseException") = some true
  ty : typeIn K (.ref C) = some (.type "type")
  kp : keepIn K (.ref C) = true
  hd : hasDictIn K C = true
  cl : findIn K (.ref C) "__class__" = some (some (.builtin "object.__class__"))
  gt : specialIn K (.builtin "object.__class__") "__get__" = some (some (.builtin "getset_descriptor.__get__"))
  st : takesIn K (.builtin "object.__class__") = some true
  ob : mroIn K C (.type "object") = some true
def xcB (K : Frag) (C : Addr) (bmB : List Value) (newId : String) : Bool :=
  excInitIn K C bmB newId && (excOver K C bmB && (decide (findIn K (.ref C) "__setattr__" = some (some (.builtin "object.__setattr__")))
    && (decide (findIn K (.ref C) "__getattribute__" = some (some (.builtin "BaseException.__getattribute__"))) && (decide (findIn K (.ref C) "__getattr__" = some none)
    && (decide (subIn K (.ref C) (.type "BaseException") = some true) && (decide (typeIn K (.ref C) = some (.type "type")) && (keepIn K (.ref C) && (hasDictIn K C
    && (decide (findIn K (.ref C) "__class__" = some (some (.builtin "object.__class__"))) && (decide (specialIn K (.builtin "object.__class__") "__get__" = some (some (.builtin "getset_descriptor.__get__")))
    && (decide (takesIn K (.builtin "object.__class__") = some true) && decide (mroIn K C (.type "object") = some true))))))))))))
theorem xcB_ok {K : Frag} {C : Addr} {bmB : List Value} {newId : String} (k : Kd bmB newId) (h : xcB K C bmB newId = true) : XC K C := by
  unfold xcB at h
  simp only [Bool.and_eq_true, decide_eq_true_eq] at h
  obtain ⟨h1, h2, h3, h4, h5, h6, h7, h8, h9, h10, h11, h12, h13⟩ := h
  exact ⟨⟨_, _, k, h1, h2⟩, h3, h4, h5, h6, h7, h8, h9, h10, h11, h12, h13⟩
/-! ### self.name = v -/
section
variable {prog : Program} {w : World} {A : Around} {R : Result → Shared → Prop} {hp : Heap} {g : Array GenState} {d : Drawn} {t : Nat} {os : OsState}
theorem osaNew {K : Frag} {name : Str} {tk : Tok} {v : Value} {x C : Addr} {fv : Array Value} {S : String} {bmB : List Value} (SF : StoreFacts S bmB "object.__setattr__" "object")
    (X : K.In hp) (hx : hp.get? x = some { cls := .ref C, data := .fields fv }) (ov : excOver K C bmB = true) (hh : hasDictIn K C = true) (ha : findIn K (.ref C) name = some none)
    (hq : ∀ h' tk' dx, (∀ b o, b ≠ x → hp.get? b = some o → h'.get? b = some o) → hp.objs.size ≤ dx → dx ≠ x →
      h'.get? x = some { cls := .ref C, dict := some dx, data := .fields fv } → h'.Ns1 dx (fun y => if y = name then some v else none) → R (.ok (.ret .none)) ⟨h', g, d, tk', os⟩) :
    codeAny (model prog w) A (.call (.builtin "object.__setattr__") ⟨[.ref x, .str name tk, v], []⟩) R ⟨hp, g, d, t, os⟩ := by
  have hxs : x ≠ hp.objs.size := Nat.ne_of_lt (Heap.lt_size hx)
  have tkr : takerIn K C name = some none := by
    unfold PySem.W.takerIn
    rw [ha]
    rfl
  refine PySem.W.osa_openX (s := ⟨hp, g, d, t, os⟩) (od := none) SF X ⟨hx, rfl, rfl, trivial⟩ ov tkr fun b => ?_
  obtain ⟨cd, hcd, hdd⟩ := PySem.W.any_some hh
  have hcls : PySem.W.Looks (model prog w) hp (classData C) cd := PySem.W.looks_clsIn X hcd
  show wpAny _ _ (storeInOwnDict (.ref x) (.ref C) (.str name tk) name v b) _ _ _
  obtain ⟨nm, bs, mro, ns, qn, hd, sn, sb, ab, col, del⟩ := cd
  dsimp only at hdd
  subst hdd
  unfold storeInOwnDict ownDictForStores
  repeat (first
    | with_reducible refine HandSPX.store_in_new ?_ ?_
    | with_reducible refine wpAny_loadPart_at hx ?_
    | with_reducible refine hcls.at ?_
    | wp_step)
  · exact ⟨_, #[], _, (Heap.get?_update_ne _ _ _ _ hxs.symm).trans (Heap.get?_push_at rfl rfl), rfl, fun e he => absurd he (by simp), fun _ => rfl⟩
  · intro h' tk' hn' hs
    have hx1 : (hp.push { cls := .type "dict", data := .dict #[] }).get? x = some { cls := .ref C, data := .fields fv } := Heap.get?_push_of_some _ hx
    refine hq h' tk' hp.objs.size (fun b o hb ho => ?_) (Nat.le_refl _) hxs.symm ?_ hn'
    · refine (hs.2 b (Nat.ne_of_lt (Heap.lt_size ho))).trans ?_
      exact (Heap.get?_update_ne _ _ _ _ hb).trans (Heap.get?_push_of_some _ ho)
    · exact (hs.2 x hxs).trans (Heap.get?_update_self _ hx1 rfl)
theorem osaOld {K : Frag} {name : Str} {tk : Tok} {v : Value} {x C dx : Addr} {fv : Array Value} {m0 : Str → Option Value} {nl : List Str} {S : String} {bmB : List Value} (SF : StoreFacts S bmB "object.__setattr__" "object")
    (X : K.In hp) (hx : hp.get? x = some { cls := .ref C, dict := some dx, data := .fields fv }) (hns : hp.Ns1 dx m0) (hw : Within m0 nl) (hz : nl.length ≤ 1000)
    (ov : excOver K C bmB = true) (hh : hasDictIn K C = true) (ha : findIn K (.ref C) name = some none)
    (hq : ∀ h' tk', (∀ b o, b ≠ dx → hp.get? b = some o → h'.get? b = some o) → h'.Ns1 dx (fun y => if y = name then some v else m0 y) → R (.ok (.ret .none)) ⟨h', g, d, tk', os⟩) :
    codeAny (model prog w) A (.call (.builtin "object.__setattr__") ⟨[.ref x, .str name tk, v], []⟩) R ⟨hp, g, d, t, os⟩ := by
  obtain ⟨oD, esD, epD, hoD, hdD, _⟩ := hns.count hw
  have tkr : takerIn K C name = some none := by
    unfold PySem.W.takerIn
    rw [ha]
    rfl
  refine PySem.W.osa_openX (s := ⟨hp, g, d, t, os⟩) (od := some oD) SF X ⟨hx, rfl, rfl, hoD⟩ ov tkr fun b => ?_
  obtain ⟨cd, hcd, hdd⟩ := PySem.W.any_some hh
  have hcls : PySem.W.Looks (model prog w) hp (classData C) cd := PySem.W.looks_clsIn X hcd
  show wpAny _ _ (storeInOwnDict (.ref x) (.ref C) (.str name tk) name v b) _ _ _
  obtain ⟨nm, bs, mro, ns, qn, hd, sn, sb, ab, col, del⟩ := cd
  dsimp only at hdd
  subst hdd
  unfold storeInOwnDict ownDictForStores
  repeat (first
    | with_reducible refine OEX.store_in_old hns hw hz ?_
    | with_reducible refine wpAny_loadPart_at hx ?_
    | with_reducible refine hcls.at ?_
    | wp_step)
  intro h' tk' hn' hs
  exact hq h' tk' (fun b o hb ho => (hs.2 b hb).trans ho) hn'
end
end KX

set_option Elab.async false
set_option linter.all false
set_option maxRecDepth 100000
set_option maxHeartbeats 4000000
namespace KX
open PySem PySem.Spec PyProof.Rows L2
open PySem.W (Frag findIn subIn typeIn keepIn hasDictIn mroIn specialIn takesIn excInitIn excOver clsIn takerIn)
/-! ### stores, reads, isinstance, over the abstract heap -/
section
variable {X : Cx} {pins : List (Addr × Obj)} {σ : L2.St} {H : Hp} {s : Shared} {a C dx : Addr} {f : Str} {y : V} {u : Value} {fs : List (Str × V)} {E : Value → Shared → Prop} {A : Around}
theorem unTwo {hp h' : Heap} {dx : Addr} (e : H a = some (exo a C none)) (hnd : H dx = none) (dn : hp.objs.size ≤ dx) (k : ∀ b o, b ≠ a → hp.get? b = some o → h'.get? b = some o)
    (hx : ∃ o, h'.get? a = some o) : Un X.fs [] H (upd (upd H dx (exd dx fs)) a (exo a C (some dx))) hp h' := by
  have fresh : ∀ {b : Addr} {o : Obj}, hp.get? b = some o → b ≠ dx := fun q => Nat.ne_of_lt (Nat.lt_of_lt_of_le (Heap.lt_size q) dn)
  have off : ∀ {b : Addr}, H b = none → b ≠ a := fun n z => by
    rw [z, e] at n
    cases n
  constructor
  · exact fun b o q n _ _ => k b o (off n) q
  · exact fun b o q n _ _ => ⟨o.slots, k b o (off n) q⟩
  · intro b o q n _
    rw [upd_ne (off n), upd_ne (fresh q)]
    exact n
  · intro b o q _
    by_cases hb : b = a
    · rw [hb]
      exact hx
    · exact ⟨o, k b o hb q⟩
  · intro b xs q
    rw [upd_ne (at_ne e q exo_tup), upd_ne (ne_of_none q hnd)]
    exact q
  · intro b o v q
    rw [upd_ne (at_ne e q exo_frz), upd_ne (ne_of_none q hnd)]
    exact q
  · intro b ps q
    refine ⟨#[], ?_⟩
    rw [upd_ne (at_ne e q exo_tbl), upd_ne (ne_of_none q hnd), q]
    simp
theorem ostNew {Q : Unit → Shared → Prop} (T : XC X.K C) (I : Inv X pins σ H s) (e : H a = some (exo a C none)) (hno : findIn X.K (.ref C) f = some none) (ry : RelV y u)
    (h : ∀ dx s', H dx = none → dx ≠ a → Inv X pins σ (upd (upd H dx (exd dx [(f, y)])) a (exo a C (some dx))) s' → Q () s') :
    wpAny (model X.prog X.w) A (setAttr (.ref a) f u) Q E s := by
  obtain ⟨bmB, newId, ⟨_, S, SF⟩, _, ov⟩ := T.kd
  obtain ⟨t1, ho⟩ := exo_at I.hok e
  obtain ⟨hp, gs, dr, tk, os⟩ := s
  refine PySem.W.set_plain I.kIn (ox := HandSPX.excO C t1) (od := none) ⟨ho, rfl, rfl, trivial⟩ T.sa ?_
  refine osaNew SF I.kIn ho ov T.hd hno (fun h' tk' dx k dn dne hx hn => ?_)
  have hnd : H dx = none := I.hok.fresh dn
  refine h dx _ hnd dne (I.un (t' := tk') (unTwo e hnd dn k ⟨_, hx⟩) fun b o q => ?_)
  by_cases hb : b = a
  · subst hb
    rw [upd_same] at q
    cases q
    exact exo_ok hx
  · rw [upd_ne hb] at q
    by_cases hd : b = dx
    · subst hd
      rw [upd_same] at q
      cases q
      exact exd_ok hn (relO_put (fs := []) ry fun _ => True.intro)
    · rw [upd_ne hd] at q
      refine (I.hok b o q).stay (fun c v hc z => k c v ?_ z) (fun c hc => ?_) fun c xs hc => ?_
      · rcases hc with hc | hc
        · rw [hc]
          exact hb
        · exact at_ne e hc exo_own
      · rw [upd_ne (at_ne e hc exo_own), upd_ne (ne_of_none hc hnd)]
        exact hc
      · rw [upd_ne (at_ne e hc exo_tup), upd_ne (ne_of_none hc hnd)]
        exact hc
theorem ostOld {Q : Unit → Shared → Prop} (T : XC X.K C) (I : Inv X pins σ H s) (e : H a = some (exo a C (some dx))) (ed : H dx = some (exd dx fs)) (hl : fs.length ≤ 900) (hno : findIn X.K (.ref C) f = some none) (ry : RelV y u)
    (h : ∀ s', Inv X pins σ (upd H dx (exd dx ((f, y) :: fs))) s' → Q () s') :
    wpAny (model X.prog X.w) A (setAttr (.ref a) f u) Q E s := by
  obtain ⟨bmB, newId, ⟨_, S, SF⟩, _, ov⟩ := T.kd
  obtain ⟨t1, ho⟩ := exo_at I.hok e
  obtain ⟨mA, hns, rel⟩ := exd_at I.hok ed
  have hw := within_of rel
  obtain ⟨hp, gs, dr, tk, os⟩ := s
  obtain ⟨oD, _, _, hoD, _, _⟩ := hns.count hw
  refine PySem.W.set_plain I.kIn (ox := { HandSPX.excO C t1 with dict := some dx }) (od := some oD) ⟨ho, rfl, rfl, hoD⟩ T.sa ?_
  refine osaOld SF I.kIn ho hns hw (by rw [List.length_map]; omega) ov T.hd hno (fun h' tk' k hn => ?_)
  have there : ∃ o, h'.get? dx = some o := by
    obtain ⟨o, _, _, e', _⟩ := hn
    exact ⟨o, e'⟩
  refine h _ (I.write (t' := tk') (x := dx) (e := dx) (o := exd dx ((f, y) :: fs)) ?_ (.inl rfl) k there (exd_ok hn (relO_put ry rel)))
  rw [ed]
  exact True.intro
/-- at e: an error of the class at C whose dict holds fs | that has no dict -/
def ErD (H : Hp) (e C : Addr) (fs : List (Str × V)) : Prop := ∃ d, H e = some (exo e C (some d)) ∧ H d = some (exd d fs)
def Er0 (H : Hp) (e C : Addr) : Prop := H e = some (exo e C none)
def Er (H : Hp) (e C : Addr) : Prop := Er0 H e C ∨ ∃ fs, ErD H e C fs
theorem ErD.same {H H' : Hp} {e C : Addr} {fs : List (Str × V)} (k : Same H H') : ErD H e C fs → ErD H' e C fs := fun ⟨d, h1, h2⟩ => ⟨d, k _ _ h1, k _ _ h2⟩
theorem Er0.same {H H' : Hp} {e C : Addr} (k : Same H H') : Er0 H e C → Er0 H' e C := fun h => k _ _ h
theorem Er.same {H H' : Hp} {e C : Addr} (k : Same H H') : Er H e C → Er H' e C
  | .inl h => .inl (h.same k)
  | .inr ⟨fs, h⟩ => .inr ⟨fs, h.same k⟩
/-- an error as an instance -/
theorem Er.inst (I : Inv X pins σ H s) {e C : Addr} (h : Er H e C) : ∃ ox od, PySem.W.InstAt s.heap e ox C od := by
  rcases h with h | ⟨fs, d, h1, h2⟩
  · obtain ⟨t1, ho⟩ := exo_at I.hok h
    exact ⟨_, none, ho, rfl, rfl, trivial⟩
  · obtain ⟨t1, ho⟩ := exo_at I.hok h1
    obtain ⟨mA, hns, rel⟩ := exd_at I.hok h2
    obtain ⟨oD, _, _, hoD, _, _⟩ := hns.count (within_of rel)
    exact ⟨_, some oD, ho, rfl, rfl, hoD⟩
/-- isinstance(e, c), c one class -/
def rIsX (K : Frag) : List V → Hp → VK → Prop := fun xs H Q => ∃ (e C : Addr) (c : V) (cv : Value) (b : Bool), xs = [.ref e, c] ∧ Er H e C ∧ XC K C ∧ ClsV c cv ∧ PySem.W.kitOne K (.ref C) cv = some b ∧ Q (.bl b) H
theorem callIsX : CallR X (.builtin "isinstance") (rIsX X.K) := by
  intro pins s σ H xs us Q I r h
  obtain ⟨e, C, c, cv, b, rfl, he, T, hc, ans, q⟩ := h
  obtain ⟨u1, u2, rfl, r1, r2⟩ := vals2 r
  have e2 := hc.eq r2
  subst e2
  cases (show u1 = Value.ref e from r1)
  obtain ⟨ox, od, J⟩ := he.inst I
  have hcl : (clsIn X.K C).isSome = true := by
    obtain ⟨cd, hcd, _⟩ := PySem.W.any_some T.hd
    rw [hcd]
    rfl
  exact PySem.W.kia_one (PySem.W.kitx_exc hcl T.ga T.gg T.ex T.cl T.gt T.st T.ob) I.kIn J ans (fun z => nomatch z) fun tk => ⟨.bl b, H, I.tok tk, rfl, q⟩
/-- e.f, e an error that is held -/
def tXfld (K : Frag) (f : Str) (te : TE) : TE := fun σ H Q => te σ H fun x H1 => ∃ (e C : Addr) (fs : List (Str × V)) (v : V), x = .ref e ∧ ErD H1 e C fs ∧ XC K C ∧ findIn K (.ref C) f = some none ∧ fs.lookup f = some v ∧ Q v H1
theorem peXfld {o : Expr} {te : TE} {pos : Pos} (ho : PE X o te) (hb : attributeBase o f X.env (eval o X.env) = eval o X.env := by rfl) : PE X (.Attribute o f pos) (tXfld X.K f te) := by
  refine ⟨fun pins s σ H Q I h => ?_⟩
  refine attr_of hb (thn (ho.run pins s σ H _ I h) fun w s1 hh => ?_)
  obtain ⟨x, H1, I1, rx, e, C, fs, v, ex, ⟨d, h1, h2⟩, T, hno, l, q⟩ := hh
  subst ex
  cases (show w = Value.ref e from rx)
  obtain ⟨t1, he⟩ := exo_at I1.hok h1
  obtain ⟨mA, hns, rel⟩ := exd_at I1.hok h2
  obtain ⟨od, hod, hl⟩ := lookIn_ns hns
  obtain ⟨u, hu, ru⟩ := RelO.some_of (v := v) (o := mA f) (by rw [← l]; exact rel f)
  have J : PySem.W.InstAt s1.heap e { HandSPX.excO C t1 with dict := some d } C (some od) := ⟨he, rfl, rfl, hod⟩
  exact HandSPX.exc_get I1.kIn J T.ga T.gg T.ex (PySem.W.findObj_own T.hd hno rfl (by rw [hl, hu])) (handed_of ru) ⟨v, H1, I1.tok _, ru, q⟩
/-- self.f = e -/
def tOstX (K : Frag) (f : Str) (to te : TE) : TS := fun D σ H => te σ H fun y H1 => to σ H1 fun x H2 => ∃ a C : Addr, x = .ref a ∧ XC K C ∧ findIn K (.ref C) f = some none ∧
  ((H2 a = some (exo a C none) ∧ ∀ dx, H2 dx = none → dx ≠ a → D.nx σ (upd (upd H2 dx (exd dx [(f, y)])) a (exo a C (some dx)))) ∨
    ∃ (dx : Addr) (fs : List (Str × V)), H2 a = some (exo a C (some dx)) ∧ H2 dx = some (exd dx fs) ∧ fs.length ≤ 900 ∧ D.nx σ (upd H2 dx (exd dx ((f, y) :: fs))))
theorem psOstX {o e : Expr} {to te : TE} {p' pos : Pos} (ho : PE X o to) (he : PE X e te) (hs : swapsWith e (some (.Attribute o f p')) pos.line X.env = pure false := by rfl) : PS X (.Assign [.Attribute o f p'] e pos) (tOstX X.K f to te) := by
  refine ⟨fun pins s σ H D I h => ?_⟩
  refine plainObj_wpAny_Assign_Attribute (thn (he.run pins s σ H _ I h) fun v s1 ⟨y, H1, I1, r1, q1⟩ => ?_) hs
  refine thn (ho.run pins s1 σ H1 _ I1 q1) fun u s2 ⟨x, H2, I2, r2, a, C, ex, T, hno, q⟩ => ?_
  subst ex
  cases (show u = Value.ref a from r2)
  rcases q with ⟨ea, q⟩ | ⟨dx, fs, ea, ed, hl, q⟩
  · exact ostNew T I2 ea hno r1 fun dx s' n ne J => ⟨σ, _, J, q dx n ne⟩
  · exact ostOld T I2 ea ed hl hno r1 fun s' J => ⟨σ, _, J, q⟩
end
end KX

set_option Elab.async false
set_option linter.all false
set_option maxRecDepth 100000
set_option maxHeartbeats 4000000
namespace KX
open PySem PySem.Spec PyProof.Rows L2
open PySem.W (Frag findIn subIn typeIn keepIn hasDictIn mroIn specialIn takesIn excInitIn excOver clsIn takerIn)
/-! ### C(e, ..), an error with an __init__ of its own -/
section
variable {X : Cx} {CX : CXT} {k n : Nat} {fI C : Addr} {fd : FuncData} {ps ks : List Str} {sp : Sp} {g : List Value → List Value → List Value} {gV : List V → List V → List V}
variable {pins : List (Addr × Obj)} {σ : L2.St} {H : Hp} {s : Shared} {us ws : List Value} {vs zs : List V}
/-- the making, down to the __init__: R what is wanted of its end -/
theorem mkRun {R : Value → Shared → Prop} {Er' : Value → Shared → Prop} {E : XK} {Qi : Addr → VK} (T : XC X.K C) (iC : findIn X.K (.ref C) "__init__" = some (some (.ref fI))) (tI : typeIn X.K (.ref fI) = some (.type "function"))
    (F : FnOk X.prog X.w X.K X.mg X.base CX k fI fd ps sp) (hr : Room (k + 1) X.A) (hb : KBn X.K fd ps (n + 1) ks g gV) (I : Inv X pins σ H s) (r : Vals vs us) (rz : Vals zs ws)
    (l1 : vs.length = n) (l2 : zs.length = ks.length) (small : n ≤ 1000)
    (h : ∀ a, H a = none → s.heap.objs.size ≤ a → sp (gV (.ref a :: vs) zs) (upd H a (exo a C none)) (Qi a) E)
    (q : ∀ a t' h0 r' s', H a = none → s.heap.objs.size ≤ a → (∀ b o, s.heap.get? b = some o → h0.get? b = some o) → Inv X pins σ (upd H a (exo a C none)) { s with heap := h0, toks := t' } →
      CR CX X.stack X.prog X.w (upd H a (exo a C none)) { s with heap := h0, toks := t' } (Qi a) E r' s' →
      W.InitBack a (fun r s' => match r with | .ok (.ret v) => R v s' | .ok _ => False | .error e => Er' e s') r' s') :
    wpAny (model X.prog X.w) X.A (call (.ref C) us (ks.zip ws)) R Er' s := by
  obtain ⟨bmB, newId, ⟨⟨B, initId, bmF, F0, hB, hA, hN⟩, _⟩, qI, _⟩ := T.kd
  obtain ⟨nm, N, qn, bs, bm, hdct, sn, sub, ab, col, dd, k0, k1, k2, k3, k5, hC, hT⟩ := PySem.W.excInit_of I.kIn qI
  obtain ⟨hp, gs, dr, tk, os⟩ := s
  have hsz : hp.objs.size ≤ hp.objs.size + 1 := Nat.le_succ _
  have free : H (hp.objs.size + 1) = none := I.hok.fresh hsz
  have hq := h (hp.objs.size + 1) free hsz
  have kk : ∀ b o, hp.get? b = some o → ((hp.push (PySem.W.kdv_tup us)).push (HandSPX.excO C hp.objs.size)).get? b = some o := fun b o e =>
    Heap.get?_push_of_some _ (Heap.get?_push_of_some _ e)
  have there : ((hp.push (PySem.W.kdv_tup us)).push (HandSPX.excO C hp.objs.size)).get? (hp.objs.size + 1) = some (HandSPX.excO C hp.objs.size) := by
    heap_get
  have I2 : Inv X pins σ (upd H (hp.objs.size + 1) (exo (hp.objs.size + 1) C none)) ⟨(hp.push (PySem.W.kdv_tup us)).push (HandSPX.excO C hp.objs.size), gs, dr, tk, os⟩ :=
    I.laid (t' := tk) (a := hp.objs.size + 1) (o := exo (hp.objs.size + 1) C none) kk hsz (exo_ok there)
  have r1 : Vals (V.ref (hp.objs.size + 1) :: vs) (Value.ref (hp.objs.size + 1) :: us) := .cons rfl r
  have r2 := hb.rel r1 rz
  have e1 : (Value.ref (hp.objs.size + 1) :: us).length = n + 1 := r1.length.symm.trans (congrArg Nat.succ l1)
  have e2 : ws.length = ks.length := rz.length.symm.trans l2
  have lus : us.length ≤ sizeLine := by
    rw [← Paired.length r, sizeLine_eq]
    omega
  refine wpAny_call (callG F0 (by rw [hT]; exact hB) (by rw [hT]; exact hA) (by rw [hT]; exact hN) hC (PySem.W.looks_findIn I.kIn iC) (fun self => PySem.W.bind_fn I.kIn self tI) lus ?_)
  refine codeAny_mono (F.run _ X.stack _ _ ⟨Value.ref (hp.objs.size + 1) :: us, ks.zip ws⟩ (g (Value.ref (hp.objs.size + 1) :: us) ws) _ _ E (hr.make C us (ks.zip ws)) (I2.env0.make C us (ks.zip ws)) (hb.to _ _ ws I2.kIn e1 e2) r2 hq) fun r' s' z => ?_
  exact q _ tk _ r' s' free hsz kk I2 z
theorem runMkX {Q : VK} {E : XK} (T : XC X.K C) (iC : findIn X.K (.ref C) "__init__" = some (some (.ref fI))) (tI : typeIn X.K (.ref fI) = some (.type "function"))
    (F : FnOk X.prog X.w X.K X.mg X.base CX k fI fd ps sp) (hr : Room (k + 1) X.A) (hb : KBn X.K fd ps (n + 1) ks g gV) (hx : Passes CX X E) (I : Inv X pins σ H s) (r : Vals vs us) (rz : Vals zs ws)
    (l1 : vs.length = n) (l2 : zs.length = ks.length) (small : n ≤ 1000)
    (h : ∀ a, H a = none → sp (gV (.ref a :: vs) zs) (upd H a (exo a C none)) (fun v H2 => v = .non ∧ Q (.ref a) H2) E) :
    wpAny (model X.prog X.w) X.A (call (.ref C) us (ks.zip ws)) (EP X pins σ Q) X.xe s := by
  refine mkRun (Qi := fun a v H2 => v = .non ∧ Q (.ref a) H2) T iC tI F hr hb I r rz l1 l2 small (E := E) (fun a ha _ => h a ha) ?_
  intro a t' h0 r' s' _ _ _ I2 z
  cases r' with
  | error e => exact hx pins σ _ _ e s' I2 z
  | ok fl =>
    cases fl with
    | ret u =>
      obtain ⟨v, H', I3, rv, ev, q3⟩ := I2.after z
      subst ev
      exact ⟨rv, ⟨V.ref a, H', I3, rfl, q3⟩⟩
    | next => exact False.elim z
    | brk => exact False.elim z
    | cont => exact False.elim z
theorem runMkE {Q : XK} (T : XC X.K C) (iC : findIn X.K (.ref C) "__init__" = some (some (.ref fI))) (tI : typeIn X.K (.ref fI) = some (.type "function"))
    (F : FnOk X.prog X.w X.K X.mg X.base CX k fI fd ps sp) (hr : Room (k + 1) X.A) (hb : KBn X.K fd ps (n + 1) ks g gV) (hx : Passes CX X (fun _ _ _ => False)) (I : Inv X pins σ H s) (r : Vals vs us) (rz : Vals zs ws)
    (l1 : vs.length = n) (l2 : zs.length = ks.length) (small : n ≤ 1000)
    (h : ∀ a, H a = none → sp (gV (.ref a :: vs) zs) (upd H a (exo a C none)) (fun v H2 => v = .non ∧ ∃ (d : Addr) (fs : List (Str × V)), H2 a = some (exo a C (some d)) ∧ H2 d = some (exd d fs) ∧ H d = none ∧ Q (.ref C) (some d) (upd (del H2 a) d (.xd fs))) (fun _ _ _ => False)) :
    wpAny (model X.prog X.w) X.A (call (.ref C) us (ks.zip ws)) (MkP X pins σ Q) X.xe s := by
  refine mkRun (Qi := fun a v H2 => v = .non ∧ ∃ (d : Addr) (fs : List (Str × V)), H2 a = some (exo a C (some d)) ∧ H2 d = some (exd d fs) ∧ H d = none ∧ Q (.ref C) (some d) (upd (del H2 a) d (.xd fs)))
    T iC tI F hr hb I r rz l1 l2 small (fun a ha _ => h a ha) ?_
  intro a t' h0 r' s' _ ge kk I2 z
  cases r' with
  | error e => exact hx pins σ _ _ e s' I2 z
  | ok fl =>
    cases fl with
    | ret u =>
      obtain ⟨v, H2, os2, bare2, un2, hok2, rv, ev, d, fs, ea, ed, hd1, q2⟩ := z
      subst ev
      obtain ⟨hp, g1, d1, t1, o1⟩ := s
      obtain ⟨h2, g2, d2, t2, os'⟩ := s'
      exact ⟨rv, mk_end (raises_own T.ex T.ty) I ge kk un2 hok2 os2 bare2 ea ed hd1 q2⟩
    | next => exact False.elim z
    | brk => exact False.elim z
    | cont => exact False.elim z
end
end KX

set_option Elab.async false
set_option linter.all false
set_option maxRecDepth 100000
set_option maxHeartbeats 4000000
namespace KX
open PySem PySem.Spec PyProof.Rows L2
open PySem.W (Frag findIn subIn typeIn keepIn hasDictIn mroIn specialIn takesIn excInitIn excOver clsIn takerIn)
theorem sameUpd {H : Hp} {p : Addr} {o : HO} (h : H p = none) : Same H (upd H p o) := fun b x e => by
  rw [upd_ne (ne_of_none e h)]
  exact e
/-- __init__(self, f): self.f = f -/
def spIni (K : Frag) (f : Str) : Sp := fun vs H Q _ => ∃ (a C : Addr) (v : V), vs = [.ref a, v] ∧ XC K C ∧ findIn K (.ref C) f = some none ∧ H a = some (exo a C none) ∧
  ∀ dx, H dx = none → dx ≠ a → Q .non (upd (upd H dx (exd dx [(f, v)])) a (exo a C (some dx)))
def spIni2 (K : Frag) (f f2 : Str) : Sp := fun vs H Q _ => ∃ (a C : Addr) (v v2 : V), vs = [.ref a, v, v2] ∧ XC K C ∧ findIn K (.ref C) f = some none ∧ findIn K (.ref C) f2 = some none ∧ H a = some (exo a C none) ∧
  ∀ dx H', Same H (upd H' a (exo a C none)) → H' a = some (exo a C (some dx)) → H' dx = some (exd dx [(f2, v2), (f, v)]) → H dx = none → Q .non H'
section
variable {P : Program} {w : World} {K : Frag} {mg : Str → Option Value} {base : Heap} {fI : Addr} {fd : FuncData} {q f f2 : Str} {params : Arguments} {scope : Scope}
theorem okIni {p1 p2 p3 p4 : Pos} (Fd : FunD K "__init__" q params [.Assign [.Attribute (.Name "self" p1) f p2] (.Name f p3) p4] scope [] [] fI fd) (S : FnScope ["self", f] ["self", f] scope)
    (v0 : scope.names.lookup ("self" : Str) = some .local) (v1 : scope.names.lookup f = some .local) (d1 : (f == ("__debug__" : Str)) = false) (d2 : (f == ("__classdict__" : Str)) = false) :
    FnOk P w K mg base CX0 1 fI fd ["self", f] (spIni K f) := by
  refine Fd.ok S (fun vs H Q E h => ?_) (fun cdv A outer s H vs Q E hr h => ?_)
  · obtain ⟨a, C, v, rfl, _⟩ := h
    rfl
  · refine ⟨_, PSs.nox (pss_one (psOstX (pe_var (i := 0) rfl (.inl v0)) (pe_var (i := 1) rfl (.inl v1) d1 d2))), ?_⟩
    obtain ⟨a, C, v, rfl, T, hno, ha, k⟩ := h
    exact ⟨v, rfl, .ref a, rfl, a, C, rfl, T, hno, .inl ⟨ha, fun dx n ne => k dx n ne⟩⟩
theorem okIni2 {p1 p2 p3 p4 q1 q2 q3 q4 : Pos} (Fd : FunD K "__init__" q params [.Assign [.Attribute (.Name "self" p1) f p2] (.Name f p3) p4, .Assign [.Attribute (.Name "self" q1) f2 q2] (.Name f2 q3) q4] scope [] [] fI fd)
    (S : FnScope ["self", f, f2] ["self", f, f2] scope)
    (v0 : scope.names.lookup ("self" : Str) = some .local) (v1 : scope.names.lookup f = some .local) (v2 : scope.names.lookup f2 = some .local) (d1 : (f == ("__debug__" : Str)) = false) (d2 : (f == ("__classdict__" : Str)) = false)
    (d3 : (f2 == ("__debug__" : Str)) = false) (d4 : (f2 == ("__classdict__" : Str)) = false) : FnOk P w K mg base CX0 1 fI fd ["self", f, f2] (spIni2 K f f2) := by
  refine Fd.ok S (fun vs H Q E h => ?_) (fun cdv A outer s H vs Q E hr h => ?_)
  · obtain ⟨a, C, v, w, rfl, _⟩ := h
    rfl
  · refine ⟨_, PSs.nox (pss_cons (psOstX (pe_var (i := 0) rfl (.inl v0)) (pe_var (i := 1) rfl (.inl v1) d1 d2)) (pss_one (psOstX (pe_var (i := 0) rfl (.inl v0)) (pe_var (i := 2) rfl (.inl v2) d3 d4)))), ?_⟩
    obtain ⟨a, C, v, w, rfl, T, hno, hno2, ha, k⟩ := h
    refine ⟨v, rfl, .ref a, rfl, a, C, rfl, T, hno, .inl ⟨ha, fun dx n ne => ?_⟩⟩
    refine ⟨w, rfl, .ref a, rfl, a, C, rfl, T, hno2, .inr ⟨dx, [(f, v)], upd_same, ?_, (by show 1 ≤ 900; decide), ?_⟩⟩
    · rw [upd_ne ne, upd_same]
    · refine k dx _ (fun b o e => ?_) ?_ upd_same n
      · by_cases hb : b = a
        · rw [hb, upd_same, ← ha, ← hb, e]
        · have hd : b ≠ dx := ne_of_none e n
          rw [upd_ne hb, upd_ne hd, upd_ne hb, upd_ne hd]
          exact e
      · rw [upd_ne (Ne.symm ne), upd_same]
end
/-- the class x of errors with one field f; with two | with none of its own -/
structure Cl1 (P : Program) (w : World) (K : Frag) (mg : Str → Option Value) (base : Heap) (x : Str) (C : Addr) (f : Str) : Prop where
  xc : XC K C
  gm : mg x = some (.ref C)
  no : findIn K (.ref C) f = some none
  ini : ∃ fI fd, findIn K (.ref C) "__init__" = some (some (.ref fI)) ∧ typeIn K (.ref fI) = some (.type "function") ∧ FnOk P w K mg base CX0 1 fI fd ["self", f] (spIni K f) ∧
    KBn K fd ["self", f] 2 [] (fun us _ => us) (fun vs _ => vs) ∧ KBn K fd ["self", f] 1 [f] (fun us ws => us ++ ws) (fun vs zs => vs ++ zs)
structure Cl2 (P : Program) (w : World) (K : Frag) (mg : Str → Option Value) (base : Heap) (x : Str) (C : Addr) (f f2 : Str) : Prop where
  xc : XC K C
  gm : mg x = some (.ref C)
  no : findIn K (.ref C) f = some none
  no2 : findIn K (.ref C) f2 = some none
  ini : ∃ fI fd, findIn K (.ref C) "__init__" = some (some (.ref fI)) ∧ typeIn K (.ref fI) = some (.type "function") ∧ FnOk P w K mg base CX0 1 fI fd ["self", f, f2] (spIni2 K f f2) ∧
    KBn K fd ["self", f, f2] 3 [] (fun us _ => us) (fun vs _ => vs) ∧ KBn K fd ["self", f, f2] 1 [f2, f] (fun us ws => us ++ ws.reverse) (fun vs zs => vs ++ zs.reverse)
structure Cl0 (K : Frag) (mg : Str → Option Value) (x : Str) (C : Addr) : Prop where
  xc : XC K C
  gm : mg x = some (.ref C)
  own : PySem.W.excIn K C veB "ValueError.__new__" = true
section
variable {X : Cx} {C : Addr} {x f f2 : Str} {p pos : Pos} {e e2 : Expr} {te : TE} {ta : TA} {k1 k2 : Pos}
/-- C(e) -/
def tMk1 (C : Addr) (f : Str) (ta : TA) : TE := fun σ H Q => ta σ H fun vs H1 => ∃ v, vs = [v] ∧ ∀ a H2, H1 a = none → Same H1 H2 → ErD H2 a C [(f, v)] → Q (.ref a) H2
theorem mk1_end {H1 : Hp} {Q : VK} {v : V} (T : XC X.K C) (no : findIn X.K (.ref C) f = some none) (q : ∀ a H2, H1 a = none → Same H1 H2 → ErD H2 a C [(f, v)] → Q (.ref a) H2) (a : Addr) (ha : H1 a = none) :
    spIni X.K f [.ref a, v] (upd H1 a (exo a C none)) (fun v H2 => v = .non ∧ Q (.ref a) H2) E0 := by
  refine ⟨a, C, v, rfl, T, no, upd_same, fun dx hdx hne => ⟨rfl, ?_⟩⟩
  have n1 : H1 dx = none := by
    rw [upd_ne hne] at hdx
    exact hdx
  refine q a _ ha (fun b o hb => ?_) ⟨dx, upd_same, ?_⟩
  · have b1 := ne_of_none hb ha
    have b2 := ne_of_none hb n1
    rw [upd_ne b1, upd_ne b2, upd_ne b1]
    exact hb
  · rw [upd_ne hne, upd_same]
theorem peMk1 (T : Cl1 X.prog X.w X.K X.mg X.base x C f) (hr : Room 2 X.A) (hg : Gl X x) (ha : PA X [e] ta) (hdb : (x == ("__debug__" : Str)) = false := by decide)
    (he : starEach [e] X.env = (false, eval e X.env) :: starEach [] X.env := by rfl) (hpl : (backTo pos (starEach [] X.env)).any (·.1) = false := by rfl) :
    PE X (.Call (.Name x p) [e] [] pos) (tMk1 C f ta) := by
  refine ⟨fun pins s σ H Q I h => ?_⟩
  obtain ⟨fI, fd, iC, tI, F, hb, _⟩ := T.ini
  refine wpAny_Call_Name_kw (ld_glob I hg T.gm ?_ hdb)
  refine PySem.W.callWith_K (h₀ := X.base) I.ok.mod.kin T.xc.kp (thn (ha.run pos pins s σ H _ I h) fun us s1 ⟨vs, H1, I1, r, v, ev, q⟩ => ⟨I1.kIn, ?_⟩) he hpl
  subst ev
  exact runMkX (n := 1) (ks := []) (ws := []) (zs := []) T.xc iC tI F hr hb pass0 I1 r .nil rfl rfl (by decide) (fun a ha => mk1_end T.xc T.no q a ha)
/-- C(f = e) -/
theorem peMk1K (T : Cl1 X.prog X.w X.K X.mg X.base x C f) (hr : Room 2 X.A) (hg : Gl X x) (ha : PK X [⟨some f, e, k1⟩] ta) (hdb : (x == ("__debug__" : Str)) = false := by decide)
    (hall : (backToKw pos (keywordEach [⟨some f, e, k1⟩] X.env)).all (·.1.isSome) = true := by rfl) (hks : (backToKw pos (keywordEach [⟨some f, e, k1⟩] X.env)).filterMap (·.1) = [f] := by rfl)
    (hpl : ((backTo pos (starEach [] X.env)).any (·.1) || (backToKw pos (keywordEach [⟨some f, e, k1⟩] X.env)).any (·.1.isNone)) = false := by rfl) :
    PE X (.Call (.Name x p) [] [⟨some f, e, k1⟩] pos) (tMk1 C f ta) := by
  refine ⟨fun pins s σ H Q I h => ?_⟩
  obtain ⟨fI, fd, iC, tI, F, _, hb⟩ := T.ini
  refine wpAny_Call_Name_kw (ld_glob I hg T.gm ?_ hdb)
  refine PySem.W.callWith_KW0 (h₀ := X.base) I.ok.mod.kin T.xc.kp hall (thn (ha.run pos pins s σ H _ I h) fun ws s1 ⟨zs, H1, I1, rz, v, ev, q⟩ => ⟨I1.kIn, ?_⟩) hpl
  subst ev
  rw [hks]
  exact runMkX (n := 0) (ks := [f]) (us := []) (vs := []) T.xc iC tI F hr hb pass0 I1 .nil rz rfl rfl (by decide) (fun a ha => mk1_end T.xc T.no q a ha)
/-- C(e, e2) -/
def tMk2 (C : Addr) (f f2 : Str) (ta : TA) : TE := fun σ H Q => ta σ H fun vs H1 => ∃ v v2, vs = [v, v2] ∧ ∀ a H2, H1 a = none → Same H1 H2 → ErD H2 a C [(f2, v2), (f, v)] → Q (.ref a) H2
theorem mk2_end {H1 : Hp} {Q : VK} {v v2 : V} (T : XC X.K C) (no : findIn X.K (.ref C) f = some none) (no2 : findIn X.K (.ref C) f2 = some none) (q : ∀ a H2, H1 a = none → Same H1 H2 → ErD H2 a C [(f2, v2), (f, v)] → Q (.ref a) H2) (a : Addr) (ha : H1 a = none) :
    spIni2 X.K f f2 [.ref a, v, v2] (upd H1 a (exo a C none)) (fun v H2 => v = .non ∧ Q (.ref a) H2) E0 := by
  refine ⟨a, C, v, v2, rfl, T, no, no2, upd_same, fun dx H' sm h1 h2 hdx => ⟨rfl, ?_⟩⟩
  refine q a _ ha (fun b o hb => ?_) ⟨dx, h1, h2⟩
  have b1 := ne_of_none hb ha
  have z := sm b o (by rw [upd_ne b1]; exact hb)
  rw [upd_ne b1] at z
  exact z
theorem peMk2 (T : Cl2 X.prog X.w X.K X.mg X.base x C f f2) (hr : Room 2 X.A) (hg : Gl X x) (ha : PA X [e, e2] ta) (hdb : (x == ("__debug__" : Str)) = false := by decide)
    (he : starEach [e, e2] X.env = (false, eval e X.env) :: starEach [e2] X.env := by rfl) (hpl : (backTo pos (starEach [e2] X.env)).any (·.1) = false := by rfl) :
    PE X (.Call (.Name x p) [e, e2] [] pos) (tMk2 C f f2 ta) := by
  refine ⟨fun pins s σ H Q I h => ?_⟩
  obtain ⟨fI, fd, iC, tI, F, hb, _⟩ := T.ini
  refine wpAny_Call_Name_kw (ld_glob I hg T.gm ?_ hdb)
  refine PySem.W.callWith_K (h₀ := X.base) I.ok.mod.kin T.xc.kp (thn (ha.run pos pins s σ H _ I h) fun us s1 ⟨vs, H1, I1, r, v, v2, ev, q⟩ => ⟨I1.kIn, ?_⟩) he hpl
  subst ev
  exact runMkX (n := 2) (ks := []) (ws := []) (zs := []) T.xc iC tI F hr hb pass0 I1 r .nil rfl rfl (by decide) (fun a ha => mk2_end T.xc T.no T.no2 q a ha)
/-- C(f2 = e, f = e2) -/
def tMk2K (C : Addr) (f f2 : Str) (ta : TA) : TE := fun σ H Q => ta σ H fun vs H1 => ∃ v v2, vs = [v2, v] ∧ ∀ a H2, H1 a = none → Same H1 H2 → ErD H2 a C [(f2, v2), (f, v)] → Q (.ref a) H2
theorem peMk2K (T : Cl2 X.prog X.w X.K X.mg X.base x C f f2) (hr : Room 2 X.A) (hg : Gl X x) (ha : PK X [⟨some f2, e, k1⟩, ⟨some f, e2, k2⟩] ta) (hdb : (x == ("__debug__" : Str)) = false := by decide)
    (hall : (backToKw pos (keywordEach [⟨some f2, e, k1⟩, ⟨some f, e2, k2⟩] X.env)).all (·.1.isSome) = true := by rfl) (hks : (backToKw pos (keywordEach [⟨some f2, e, k1⟩, ⟨some f, e2, k2⟩] X.env)).filterMap (·.1) = [f2, f] := by rfl)
    (hpl : ((backTo pos (starEach [] X.env)).any (·.1) || (backToKw pos (keywordEach [⟨some f2, e, k1⟩, ⟨some f, e2, k2⟩] X.env)).any (·.1.isNone)) = false := by rfl) :
    PE X (.Call (.Name x p) [] [⟨some f2, e, k1⟩, ⟨some f, e2, k2⟩] pos) (tMk2K C f f2 ta) := by
  refine ⟨fun pins s σ H Q I h => ?_⟩
  obtain ⟨fI, fd, iC, tI, F, _, hb⟩ := T.ini
  refine wpAny_Call_Name_kw (ld_glob I hg T.gm ?_ hdb)
  refine PySem.W.callWith_KW0 (h₀ := X.base) I.ok.mod.kin T.xc.kp hall (thn (ha.run pos pins s σ H _ I h) fun ws s1 ⟨zs, H1, I1, rz, v, v2, ev, q⟩ => ⟨I1.kIn, ?_⟩) hpl
  subst ev
  rw [hks]
  exact runMkX (n := 0) (ks := [f2, f]) (us := []) (vs := []) T.xc iC tI F hr hb pass0 I1 .nil rz rfl rfl (by decide) (fun a ha => mk2_end T.xc T.no T.no2 q a ha)
/-- C(), no __init__ of its own -/
def tMk0 (C : Addr) : TE := fun _ H Q => ∀ a, H a = none → Q (.ref a) (upd H a (exo a C none))
theorem peMk0 (T : Cl0 X.K X.mg x C) (hg : Gl X x) (hdb : (x == ("__debug__" : Str)) = false := by decide) : PE X (.Call (.Name x p) [] [] pos) (tMk0 C) := by
  refine ⟨fun pins s σ H Q I h => ?_⟩
  refine wpAny_Call_Name_kw (ld_glob I hg T.gm ?_ hdb)
  refine PySem.W.callWith_K0 I.kIn T.xc.kp ?_
  show wpAny _ _ (call (.ref C) []) _ _ _
  obtain ⟨bm, N, nm, qn, bs, hdct, sn, sub, ab, col, dd, k0, k1, k2, k3, k5, mN, hC, hN, hni, O⟩ := exc_obj I.kIn T.own
  refine wpAny_call_exc_subT F.excBase_ValueError O hC hN hni (fun h' a hm => ?_) (Nat.zero_le _)
  have hn : H a = none := I.hok.gone hm.new
  obtain ⟨t, ht, _, _⟩ := hm.there
  exact ⟨.ref a, upd H a (exo a C none), I.laidN hm.keeps hm.new hn (exo_ok ht), rfl, h a hn⟩
/-- raise C(e) | raise C() -/
def tMkE (C : Addr) (f : Str) (ta : TA) : L2.St → Hp → XK → Prop := fun σ H Q => ta σ H fun vs H1 => ∃ v, vs = [v] ∧ ∀ d H2, Same H1 H2 → H2 d = some (.xd [(f, v)]) → Q (.ref C) (some d) H2
theorem pmkX (T : Cl1 X.prog X.w X.K X.mg X.base x C f) (hr : Room 2 X.A) (hg : Gl X x) (ha : PA X [e] ta) (hdb : (x == ("__debug__" : Str)) = false := by decide)
    (he : starEach [e] X.env = (false, eval e X.env) :: starEach [] X.env := by rfl) (hpl : (backTo pos (starEach [] X.env)).any (·.1) = false := by rfl) :
    PMk X (.Call (.Name x p) [e] [] pos) (tMkE C f ta) := by
  intro pins s σ H Q I h
  obtain ⟨fI, fd, iC, tI, F, hb, _⟩ := T.ini
  refine wpAny_Call_Name_kw (ld_glob I hg T.gm ?_ hdb)
  refine PySem.W.callWith_K (h₀ := X.base) I.ok.mod.kin T.xc.kp (thn (ha.run pos pins s σ H _ I h) fun us s1 ⟨vs, H1, I1, r, v, ev, q⟩ => ⟨I1.kIn, ?_⟩) he hpl
  subst ev
  refine runMkE (n := 1) (ks := []) (ws := []) (zs := []) T.xc iC tI F hr hb pass0 I1 r .nil rfl rfl (by decide) (fun a ha => ?_)
  refine ⟨a, C, v, rfl, T.xc, T.no, upd_same, fun dx hdx hne => ⟨rfl, dx, [(f, v)], upd_same, ?_, ?_, ?_⟩⟩
  · rw [upd_ne hne, upd_same]
  · rw [upd_ne hne] at hdx
    exact hdx
  · have n1 : H1 dx = none := by
      rw [upd_ne hne] at hdx
      exact hdx
    refine q dx _ (fun b o hb => ?_) upd_same
    have b1 := ne_of_none hb ha
    have b2 := ne_of_none hb n1
    rw [upd_ne b2, del_ne b1, upd_ne b1, upd_ne b2, upd_ne b1]
    exact hb
theorem pmk0 (T : Cl0 X.K X.mg x C) (hg : Gl X x) (hdb : (x == ("__debug__" : Str)) = false := by decide) : PMk X (.Call (.Name x p) [] [] pos) (fun _ H Q => Q (.ref C) none H) := by
  intro pins s σ H Q I h
  refine wpAny_Call_Name_kw (ld_glob I hg T.gm ?_ hdb)
  refine PySem.W.callWith_K0 I.kIn T.xc.kp ?_
  show wpAny _ _ (call (.ref C) []) _ _ _
  obtain ⟨bm, N, nm, qn, bs, hdct, sn, sub, ab, col, dd, k0, k1, k2, k3, k5, mN, hC, hN, hni, O⟩ := exc_obj I.kIn T.own
  refine wpAny_call_exc_subT F.excBase_ValueError O hC hN hni (fun h' e hm => ?_) (Nat.zero_le _)
  exact mk_of I hm (raises_own T.xc.ex T.xc.ty) h (I.hok.gone hm.new)
end
end KX

set_option Elab.async false
set_option linter.all false
set_option maxRecDepth 100000
set_option maxHeartbeats 0
namespace PJ.HD
open PySem PySem.Spec PyProof.Rows L2 KS
open KX hiding sameUpd
open He (ga ma)
abbrev R : PySem.W.OpenRow := PySem.W.OpenLaw.row PySem.Challenge.rw_farenough_k49_versions_of_a_project
def dOf (x : Str) (i : Nat) : He.DefD := ⟨(x, none), x, x, defArgs (top i), defBody (top i), defScope (top i), [], []⟩
def dIn (x m q : Str) (i j : Nat) : He.DefD := ⟨(x, some m), m, q, defArgs (inClass (top i) j), defBody (inClass (top i) j), defScope (inClass (top i) j), [], []⟩
def dInD (x m q : Str) (i j : Nat) : He.DefD := ⟨(x, some m), m, q, defArgs (inClass (top i) j), defBody (inClass (top i) j), defScope (inClass (top i) j), [.adr (He.dflAt (x, some m) 0)], []⟩
def fn1 : List He.DefD := [
  dOf "_wall" 0,
  dOf "_may_choose" 14,
  dOf "_chosen" 15,
  dOf "is_integer" 17,
  dOf "_law_feed_of" 21,
  dOf "_law_draw" 22,
  dOf "_law_pick" 23,
  dOf "_law_outs" 24,
  dOf "_law_calls" 25,
  dOf "_law_text" 26,
  dOf "_law_source" 27,
  dOf "_law_target" 28,
  dOf "_law_one" 29,
  dOf "_law_names" 30,
  dOf "_law_drawn" 31,
  dOf "_law_moved" 32,
  dOf "_law_package" 33,
  dOf "_law_is_project" 34,
  dOf "_law_lineage" 35,
  dOf "_law_base" 36,
  dOf "_law_merged_outputs" 37,
  dOf "_law_merged" 38,
  dOf "_law_grown" 39,
  dOf "_law_told" 40,
  dOf "_law_trunk" 41,
  dOf "_law_is_right" 42,
  dOf "_law_lost" 43,
  dOf "law" 44]
def fn2 : List He.DefD := [
  dIn "NoTarget" "__init__" "NoTarget.__init__" 3 0,
  dIn "NotSource" "__init__" "NotSource.__init__" 4 0,
  dIn "Conflict" "__init__" "Conflict.__init__" 5 0,
  dIn "NoVersion" "__init__" "NoVersion.__init__" 6 0,
  dIn "Source" "__init__" "Source.__init__" 9 0,
  dIn "Source" "__eq__" "Source.__eq__" 9 1,
  dInD "Made" "__init__" "Made.__init__" 10 0,
  dIn "Made" "__eq__" "Made.__eq__" 10 1,
  dIn "Project" "__init__" "Project.__init__" 11 0,
  dIn "Project" "__getitem__" "Project.__getitem__" 11 1,
  dIn "Project" "__contains__" "Project.__contains__" 11 3,
  dIn "Project" "__eq__" "Project.__eq__" 11 5,
  dIn "Merger" "__init__" "Merger.__init__" 13 0,
  dIn "Merger" "result" "Merger.result" 13 1,
  dIn "Merger" "failed" "Merger.failed" 13 2,
  dIn "Merger" "_merge_target" "Merger._merge_target" 13 3,
  dIn "Merger" "_merged_source" "Merger._merged_source" 13 4,
  dIn "History" "__init__" "History.__init__" 19 0,
  dIn "History" "commit" "History.commit" 19 1,
  dIn "History" "__getitem__" "History.__getitem__" 19 2,
  dIn "History" "__contains__" "History.__contains__" 19 4,
  dIn "History" "__len__" "History.__len__" 19 5,
  dIn "History" "parents" "History.parents" 19 6,
  dIn "History" "trunk" "History.trunk" 19 9,
  dIn "History" "base" "History.base" 19 7,
  dIn "History" "merge" "History.merge" 19 8,
  dIn "History" "_check" "History._check" 19 10,
  dIn "History" "_add" "History._add" 19 11]
def fn : List He.DefD := fn1 ++ fn2
def frees : List Str := ["isinstance", "len", "zip", "all", "list", "tuple", "bool", "int", "str", "range", "ord", "set", "max", "min", "dict", "sorted", "ValueError", "IndexError"]
def glos0 : List Str := ["BuildError", "NoTarget", "NotSource", "Conflict", "NoVersion", "Target", "Source", "Made", "Project", "Merger", "History", "_wall", "_may_choose", "_chosen", "is_integer", "_law_feed_of", "_law_draw", "_law_pick"]
def glos1 : List Str := ["_law_outs", "_law_calls", "_law_text", "_law_source", "_law_target", "_law_one", "_law_names", "_law_drawn", "_law_moved", "_law_package", "_law_is_project", "_law_lineage", "_law_base", "_law_merged_outputs", "_law_merged", "_law_grown", "_law_told", "_law_trunk"]
def glos2 : List Str := ["_law_is_right", "_law_lost"]
def glos : List Str := glos0 ++ glos1 ++ glos2
def loose : List Str := glos
def faC : List He.Fa := [He.Fa.cls "Source", He.Fa.cls "Made", He.Fa.cls "Project", He.Fa.cls "Merger", He.Fa.cls "History", He.Fa.mkr "Source", He.Fa.mkr "Made", He.Fa.mkr "Project", He.Fa.mkr "Merger", He.Fa.mkr "History"]
def faN : List He.Fa := [He.Fa.noat "Source" "_outputs", He.Fa.noat "Made" "_recipe", He.Fa.noat "Made" "_arguments", He.Fa.noat "Project" "_targets", He.Fa.noat "Merger" "_projects", He.Fa.noat "Merger" "_targets", He.Fa.noat "Merger" "_conflicts", He.Fa.noat "History" "_projects", He.Fa.noat "History" "_parents", He.Fa.noat "History" "_lines"]
def faM : List He.Fa := [He.Fa.meth "Source" "__eq__", He.Fa.meth "Made" "__eq__", He.Fa.meth "Project" "__getitem__", He.Fa.meth "Project" "__contains__", He.Fa.meth "Project" "__eq__", He.Fa.meth "Merger" "result", He.Fa.meth "Merger" "failed", He.Fa.meth "Merger" "_merge_target", He.Fa.meth "Merger" "_merged_source", He.Fa.meth "History" "commit", He.Fa.meth "History" "__getitem__", He.Fa.meth "History" "__contains__", He.Fa.meth "History" "__len__", He.Fa.meth "History" "parents", He.Fa.meth "History" "trunk", He.Fa.meth "History" "base", He.Fa.meth "History" "merge", He.Fa.meth "History" "_check", He.Fa.meth "History" "_add"]
def fa : List He.Fa := (glos ++ ([("law" : Str)] : List Str)).map He.Fa.glo ++ (frees.map He.Fa.free ++ (faC ++ (faN ++ faM)))
/-- a property of a class, its getter -/
def pAd (K : PySem.W.Frag) (c m : Str) : Addr := ma K (ga K c) m
def gAd (K : PySem.W.Frag) (c m : Str) : Addr := match PySem.W.recIn K (pAd K c m) "property" with
  | some (.ref g :: _) => g
  | _ => 0
/-- an empty tuple -/
def emB (K : PySem.W.Frag) (a : Addr) : Bool := match K.lookup a with
  | some ⟨.type c, _, .seq its _, _⟩ => decide (c = "tuple") && its.isEmpty
  | _ => false
theorem emB_ok {K : PySem.W.Frag} {a : Addr} (h : emB K a = true) (H : Hp) : SqT K H a [] := by
  unfold emB at h
  cases q : K.lookup a with
  | none =>
    rw [q] at h
    cases h
  | some o =>
    obtain ⟨oc, od, dt, osl⟩ := o
    rw [q] at h
    cases oc with
    | type c =>
      cases dt with
      | seq its n =>
        obtain ⟨h1, h2⟩ := He.ba (show (decide (c = "tuple") && its.isEmpty) = true from h)
        have e : its = #[] := Array.isEmpty_iff.mp h2
        subst e
        exact .inr ⟨_, #[], n, q, congrArg Value.type (of_decide_eq_true h1), rfl, Nat.zero_le _, .nil⟩
      | _ => cases h
    | _ => cases dt <;> cases h
def fnAt (K : PySem.W.Frag) (a : Addr) : He.FnW := match K.lookup a with
  | some o => (match o.data with
    | .func u => some (u.name, u.qualname, u.params, u.body, u.scope, u.globals, u.closure, u.builtins)
    | _ => none)
  | none => none
def okAt (K : PySem.W.Frag) (a : Addr) (q : Str) : Bool := PySem.W.keepIn K (.ref a) && (match K.lookup a with
  | some o => (match o.data with
    | .func u => PySem.W.codeIn K u.code q && (He.dflB K u.defaults [] && He.kwdB K u.kwdefaults [])
    | _ => false)
  | none => false)
theorem funAt {K : PySem.W.Frag} {a : Addr} {x q : Str} {ps : Arguments} {b : List Stmt} {sc : Scope} (e : fnAt K a = some (x, q, ps, .stmts b, sc, mainGlobals, [], builtinsNs)) (c : okAt K a q = true) : ∃ fd, FunD K x q ps b sc [] [] a fd := by
  unfold okAt at c
  unfold fnAt at e
  rw [Bool.and_eq_true] at c
  obtain ⟨kp, c⟩ := c
  generalize hl : K.lookup a = o at c e
  rcases o with _ | ⟨oc, od, dt, sl⟩
  · cases c
  · dsimp only at c e
    cases dt with
    | func u =>
      dsimp only at c e
      rw [Bool.and_eq_true, Bool.and_eq_true] at c
      obtain ⟨c1, c2, c3⟩ := c
      obtain ⟨m1, m2, m3, m4, m5, m6, m7, m8, m9, m10, m11, m12, m13, m14, m15⟩ := u
      dsimp only at c1 c2 c3 e
      injection e with e
      simp only [Prod.mk.injEq] at e
      obtain ⟨rfl, rfl, rfl, rfl, rfl, rfl, rfl, rfl⟩ := e
      refine ⟨_, ⟨oc, od, m8, m9, m10, m11, m12, m13, m14, sl, rfl, hl, c1, ?_, ?_⟩, kp⟩
      · exact He.dflB_ok c2
      · exact He.kwdB_ok c3
    | _ => cases c
/-- the other facts, as one Bool -/
def exB (K : PySem.W.Frag) : Bool :=
  xcB K (ga K "NoTarget") veB "ValueError.__new__"
  && (decide (PySem.W.findIn K (.ref (ga K "NoTarget")) "name" = some none)
  && (decide (PySem.W.findIn K (.ref (ga K "NoTarget")) "__init__" = some (some (.ref (ma K (ga K "NoTarget") "__init__"))))
  && (decide (PySem.W.typeIn K (.ref (ma K (ga K "NoTarget") "__init__")) = some (.type "function"))
  && (xcB K (ga K "NotSource") veB "ValueError.__new__"
  && (decide (PySem.W.findIn K (.ref (ga K "NotSource")) "name" = some none)
  && (decide (PySem.W.findIn K (.ref (ga K "NotSource")) "__init__" = some (some (.ref (ma K (ga K "NotSource") "__init__"))))
  && (decide (PySem.W.typeIn K (.ref (ma K (ga K "NotSource") "__init__")) = some (.type "function"))
  && (xcB K (ga K "Conflict") veB "ValueError.__new__"
  && (decide (PySem.W.findIn K (.ref (ga K "Conflict")) "conflicts" = some none)
  && (decide (PySem.W.findIn K (.ref (ga K "Conflict")) "__init__" = some (some (.ref (ma K (ga K "Conflict") "__init__"))))
  && (decide (PySem.W.typeIn K (.ref (ma K (ga K "Conflict") "__init__")) = some (.type "function"))
  && (xcB K (ga K "NoVersion") ieB "IndexError.__new__"
  && (decide (PySem.W.findIn K (.ref (ga K "NoVersion")) "number" = some none)
  && (decide (PySem.W.findIn K (.ref (ga K "NoVersion")) "__init__" = some (some (.ref (ma K (ga K "NoVersion") "__init__"))))
  && (decide (PySem.W.typeIn K (.ref (ma K (ga K "NoVersion") "__init__")) = some (.type "function"))
  && (decide (PySem.W.findIn K (.ref (ga K "Source")) "__class__" = some (some (.builtin "object.__class__")))
  && (decide (PySem.W.mroIn K (ga K "Source") (.type "object") = some true)
  && (decide (PySem.W.findIn K (.ref (ga K "Made")) "__class__" = some (some (.builtin "object.__class__")))
  && (decide (PySem.W.mroIn K (ga K "Made") (.type "object") = some true)
  && (decide (PySem.W.findIn K (.ref (ga K "Project")) "__class__" = some (some (.builtin "object.__class__")))
  && (decide (PySem.W.mroIn K (ga K "Project") (.type "object") = some true)
  && (decide (PySem.W.findIn K (.ref (ga K "Merger")) "__class__" = some (some (.builtin "object.__class__")))
  && (decide (PySem.W.mroIn K (ga K "Merger") (.type "object") = some true)
  && (decide (PySem.W.findIn K (.ref (ga K "History")) "__class__" = some (some (.builtin "object.__class__")))
  && (decide (PySem.W.mroIn K (ga K "History") (.type "object") = some true)
  && (decide (PySem.W.subIn K (.type "dict") (.ref (ga K "Source")) = some false)
  && (decide (PySem.W.subIn K (.type "dict") (.ref (ga K "Made")) = some false)
  && (decide (PySem.W.subIn K (.type "dict") (.ref (ga K "Project")) = some false)
  && (decide (PySem.W.subIn K (.type "NoneType") (.ref (ga K "Source")) = some false)
  && (decide (PySem.W.subIn K (.ref (ga K "Source")) (.type "NoneType") = some false)
  && (decide (PySem.W.kitOne K (.type "NoneType") (.ref (ga K "Source")) = some false)
  && (decide (PySem.W.subIn K (.type "NoneType") (.ref (ga K "Made")) = some false)
  && (decide (PySem.W.subIn K (.ref (ga K "Made")) (.type "NoneType") = some false)
  && (decide (PySem.W.kitOne K (.type "NoneType") (.ref (ga K "Made")) = some false)
  && (decide (PySem.W.specialIn K (.builtin "object.__class__") "__get__" = some (some (.builtin "getset_descriptor.__get__")))
  && (decide (PySem.W.takesIn K (.builtin "object.__class__") = some true)
  && (decide (PySem.W.kitOne K (.ref (ga K "Source")) (.ref (ga K "Source")) = some true)
  && (decide (PySem.W.kitOne K (.ref (ga K "Made")) (.ref (ga K "Source")) = some false)
  && (decide (PySem.W.kitOne K (.ref (ga K "Source")) (.ref (ga K "Made")) = some false)
  && (decide (PySem.W.kitOne K (.ref (ga K "Made")) (.ref (ga K "Made")) = some true)
  && (decide (PySem.W.kitOne K (.ref (ga K "Project")) (.ref (ga K "Project")) = some true)
  && (decide (PySem.W.kitOne K (.ref (ga K "Source")) (.ref (ga K "Target")) = some true)
  && (decide (PySem.W.kitOne K (.ref (ga K "Made")) (.ref (ga K "Target")) = some true)
  && (decide (PySem.W.kitOne K (.ref (ga K "Conflict")) (.ref (ga K "BuildError")) = some true)
  && (decide (PySem.W.kitOne K (.ref (ga K "NoVersion")) (.ref (ga K "BuildError")) = some false)
  && (decide (PySem.W.kitOne K (.type "dict") (.ref (ga K "Project")) = some false)
  && (decide (PySem.W.kitOne K (.ref (ga K "Project")) (.type "str") = some false)
  && (decide (PySem.W.kitOne K (.ref (ga K "NoVersion")) (.type "IndexError") = some true)
  && (decide (PySem.W.subIn K (.ref (ga K "Made")) (.ref (ga K "Source")) = some false)
  && (decide (PySem.W.subIn K (.ref (ga K "Source")) (.ref (ga K "Made")) = some false)
  && (decide (PySem.W.findIn K (.ref (ga K "Project")) "__ne__" = some (some (.builtin "object.__ne__")))
  && (decide (PySem.W.findIn K (.ref (ga K "Made")) "__ne__" = some (some (.builtin "object.__ne__")))
  && (decide (PySem.W.findIn K (.ref (ga K "Source")) "__ne__" = some (some (.builtin "object.__ne__")))
  && (decide (PySem.W.exmOne K (.ref (ga K "NoVersion")) (.ref (ga K "NoVersion")) = some true)
  && (PySem.W.fnIn K (ma K (ga K "Project") "__getitem__")
  && (PySem.W.fnIn K (ma K (ga K "History") "__getitem__")
  && (emB K (He.dflAt ("Made", some "__init__") 0 K)
  && (decide (PySem.W.findIn K (.ref (ga K "Source")) "outputs" = some (some (.ref (pAd K "Source" "outputs"))))
  && (decide (PySem.W.specialIn K (.ref (pAd K "Source" "outputs")) "__get__" = some (some (.builtin "property.__get__")))
  && (decide (PySem.W.takesIn K (.ref (pAd K "Source" "outputs")) = some true)
  && (decide ((PySem.W.recIn K (pAd K "Source" "outputs") "property").map (fun l => l.head?) = some (some (.ref (gAd K "Source" "outputs"))))
  && (okAt K (gAd K "Source" "outputs") "Source.outputs"
  && (decide (PySem.W.findIn K (.ref (ga K "Made")) "recipe" = some (some (.ref (pAd K "Made" "recipe"))))
  && (decide (PySem.W.specialIn K (.ref (pAd K "Made" "recipe")) "__get__" = some (some (.builtin "property.__get__")))
  && (decide (PySem.W.takesIn K (.ref (pAd K "Made" "recipe")) = some true)
  && (decide ((PySem.W.recIn K (pAd K "Made" "recipe") "property").map (fun l => l.head?) = some (some (.ref (gAd K "Made" "recipe"))))
  && (okAt K (gAd K "Made" "recipe") "Made.recipe"
  && (decide (PySem.W.findIn K (.ref (ga K "Made")) "arguments" = some (some (.ref (pAd K "Made" "arguments"))))
  && (decide (PySem.W.specialIn K (.ref (pAd K "Made" "arguments")) "__get__" = some (some (.builtin "property.__get__")))
  && (decide (PySem.W.takesIn K (.ref (pAd K "Made" "arguments")) = some true)
  && (decide ((PySem.W.recIn K (pAd K "Made" "arguments") "property").map (fun l => l.head?) = some (some (.ref (gAd K "Made" "arguments"))))
  && (okAt K (gAd K "Made" "arguments") "Made.arguments"
  && (decide (PySem.W.findIn K (.ref (ga K "Project")) "names" = some (some (.ref (pAd K "Project" "names"))))
  && (decide (PySem.W.specialIn K (.ref (pAd K "Project" "names")) "__get__" = some (some (.builtin "property.__get__")))
  && (decide (PySem.W.takesIn K (.ref (pAd K "Project" "names")) = some true)
  && (decide ((PySem.W.recIn K (pAd K "Project" "names") "property").map (fun l => l.head?) = some (some (.ref (gAd K "Project" "names"))))
  && (okAt K (gAd K "Project" "names") "Project.names")))))))))))))))))))))))))))))))))))))))))))))))))))))))))))))))))))))))))))))
def vSourceoutputs : He.FnW := some ("outputs", "Source.outputs", defArgs (inClass (top 9) 2), .stmts (defBody (inClass (top 9) 2)), defScope (inClass (top 9) 2), mainGlobals, [], builtinsNs)
def vMaderecipe : He.FnW := some ("recipe", "Made.recipe", defArgs (inClass (top 10) 2), .stmts (defBody (inClass (top 10) 2)), defScope (inClass (top 10) 2), mainGlobals, [], builtinsNs)
def vMadearguments : He.FnW := some ("arguments", "Made.arguments", defArgs (inClass (top 10) 3), .stmts (defBody (inClass (top 10) 3)), defScope (inClass (top 10) 3), mainGlobals, [], builtinsNs)
def vProjectnames : He.FnW := some ("names", "Project.names", defArgs (inClass (top 11) 6), .stmts (defBody (inClass (top 11) 6)), defScope (inClass (top 11) 6), mainGlobals, [], builtinsNs)
/-- the head's look: defs, names, numbers, these -/
abbrev Al : Type := He.AlD × (Bool × (He.FnW × He.FnW × He.FnW × He.FnW))
def obsK (K : PySem.W.Frag) : Al := (He.obsD fa fn K, exB K, fnAt K (gAd K "Source" "outputs"), fnAt K (gAd K "Made" "recipe"), fnAt K (gAd K "Made" "arguments"), fnAt K (gAd K "Project" "names"))
def obsM (n : Nat) (g : Addr → Option Obj) : Al := obsK (He.frG g (He.asD g n))
structure Says (K : PySem.W.Frag) : Prop where
  d : He.SaysD fa fn K
  e : exB K = true
  g : (fnAt K (gAd K "Source" "outputs"), fnAt K (gAd K "Made" "recipe"), fnAt K (gAd K "Made" "arguments"), fnAt K (gAd K "Project" "names")) = (vSourceoutputs, vMaderecipe, vMadearguments, vProjectnames)
def hk : PySem.W.Hook where
  α := Al
  obs := fun s => obsM 6 s.heap.get?
  val := fun _ => (He.valD fn, true, vSourceoutputs, vMaderecipe, vMadearguments, vProjectnames)
  says := fun _ h => ∃ K : PySem.W.Frag, K.In h ∧ Says K
  of := fun _ _ e => ⟨_, He.frG_in, ⟨congrArg (fun z : Al => z.1) e, congrArg (fun z : Al => z.2.1) e, congrArg (fun z : Al => z.2.2) e⟩⟩
  keeps := fun _ _ _ ⟨K, hK, c⟩ k => ⟨K, PySem.W.Frag.In.keeps hK k, c⟩
def ob (s : PySem.W.SharedT) : Al := obsM 6 (HandSHeadRun.getT s)
theorem ob_eq (s : PySem.W.SharedT) : ob s = hk.obs s.abs := by
  have e : HandSHeadRun.getT s = s.abs.heap.get? := funext (HandSHeadRun.getT_eq s)
  unfold ob
  rw [e] <;> rfl
theorem run (w : World) : HandSHeadRun.RunEq R (PySem.W.view R.prog [44]) hk ob 20000 loose w := by
  intro os
  kernel_rfl
end PJ.HD

set_option Elab.async false
set_option linter.all false
set_option maxRecDepth 100000
set_option maxHeartbeats 4000000
namespace KS
open PySem PySem.Spec PyProof.Rows L2
theorem sameUpd {H : Hp} {p : Addr} {o : HO} (h : H p = none) : Same H (upd H p o) := fun b u e => by
  rw [upd_ne (ne_of_none e h)]
  exact e
theorem sameTup {K : PySem.W.Frag} {H H' : Hp} {a : Addr} {xs : List V} (e : Same H H') (h : SqT K H a xs) : SqT K H' a xs := by
  rcases h with (h | ⟨o, h⟩) | h
  · exact .inl (.inl (e _ _ h))
  · exact .inl (.inr ⟨o, e _ _ h⟩)
  · exact .inr h
mutual
theorem dpSame {K : PySem.W.Frag} {H H' : Hp} (e : Same H H') : ∀ (d : PyData) (v : V), Dp K H v d → Dp K H' v d
  | .none, _, h => by cases h; exact .non
  | .bool b, _, h => by cases h; exact .bl b
  | .int i, _, h => by cases h; exact .int i
  | .str x, _, h => by cases h; exact .str x
  | .list ds, _, h => by
    cases h with
    | lst ha hd => exact .lst (e.seq ha) (dpAllSame e ds _ hd)
  | .tuple ds, _, h => by
    cases h with
    | tup ha hd => exact .tup (sameTup e ha) (dpAllSame e ds _ hd)
  | .dict _, _, h => nomatch h
theorem dpAllSame {K : PySem.W.Frag} {H H' : Hp} (e : Same H H') : ∀ (ds : List PyData) (vs : List V), DpAll K H vs ds → DpAll K H' vs ds
  | [], _, h => by cases h; exact .nil
  | d :: ds, _, h => by
    cases h with
    | cons h1 h2 => exact .cons (dpSame e d _ h1) (dpAllSame e ds _ h2)
end
theorem dpLen {K : PySem.W.Frag} {H : Hp} : ∀ {vs : List V} {ds : List PyData}, DpAll K H vs ds → vs.length = ds.length
  | _, _, .nil => rfl
  | _, _, .cons _ r => by rw [List.length_cons, List.length_cons, dpLen r]
theorem dpAt {K : PySem.W.Frag} {H : Hp} : ∀ {vs : List V} {ds : List PyData}, DpAll K H vs ds → ∀ {i : Nat} {d : PyData}, ds[i]? = some d → ∃ v, vs[i]? = some v ∧ Dp K H v d
  | _, _, .nil, _, _, h => by simp at h
  | _, _, .cons h1 r, 0, _, h => by
    cases h
    exact ⟨_, rfl, h1⟩
  | _, _, .cons h1 r, i + 1, _, h => dpAt r (by simpa using h)
def SOk (z : Str) : Prop := z.cps.all (· < 0x110000) = true
/-- data down to the depth n: texts not too long, tuples not too wide, no lists -/
inductive Od : Nat → PyData → Prop
  | non (n : Nat) : Od n .none
  | bl (n : Nat) (b : Bool) : Od n (.bool b)
  | int (n : Nat) (i : Int) : Od n (.int i)
  | str (n : Nat) {z : Str} (h : SOk z) (h2 : z.length ≤ 2000) : Od n (.str z)
  | tup {n : Nat} {ds : List PyData} (h : ds.length ≤ 100) (h2 : ∀ d ∈ ds, Od n d) : Od (n + 1) (.tuple ds)
theorem Od.up {n : Nat} {d : PyData} (h : Od n d) : ∀ {m : Nat}, n ≤ m → Od m d := by
  induction h with
  | non n => exact fun _ => .non _
  | bl n b => exact fun _ => .bl _ b
  | int n i => exact fun _ => .int _ i
  | str n h h2 => exact fun _ => .str _ h h2
  | @tup n ds h h2 ih =>
    intro m hm
    obtain ⟨k, rfl⟩ : ∃ k, m = k + 1 := ⟨m - 1, by omega⟩
    exact .tup h fun d hd => ih d hd (by omega)
theorem allLay : ∀ {ds : List PyData} {n : Nat}, (∀ d ∈ ds, d.canLay0 = true ∧ d.depth ≤ n) → PyData.canLayAll0 ds = true ∧ PyData.depthAll ds ≤ n
  | [], n, _ => ⟨rfl, Nat.zero_le _⟩
  | d :: ds, n, h => by
    obtain ⟨h1, h2⟩ := h d List.mem_cons_self
    obtain ⟨h3, h4⟩ := allLay (n := n) fun x hx => h x (List.mem_cons_of_mem _ hx)
    constructor
    · simp only [PyData.canLayAll0, h1, h3, Bool.and_self]
    · simp only [PyData.depthAll]
      exact Nat.max_le.mpr ⟨h2, h4⟩
theorem Od.lay {n : Nat} {d : PyData} (h : Od n d) : d.canLay0 = true ∧ d.depth ≤ n := by
  induction h with
  | non n => exact ⟨rfl, Nat.zero_le _⟩
  | bl n b => exact ⟨rfl, Nat.zero_le _⟩
  | int n i => exact ⟨rfl, Nat.zero_le _⟩
  | str n h h2 => exact ⟨h, Nat.zero_le _⟩
  | @tup n ds h h2 ih =>
    obtain ⟨a, b⟩ := allLay (n := n) ih
    refine ⟨a, ?_⟩
    simp only [PyData.depth]
    omega
theorem Od.shaped {n : Nat} {d : PyData} (h : Od n d) (hn : n ≤ 64) : SeqAt.shaped d = true := by
  obtain ⟨a, b⟩ := h.lay
  unfold SeqAt.shaped
  rw [a, Bool.true_and]
  exact decide_eq_true (by omega)
/-! kinds -/
def tyD : PyData → String
  | .none => "NoneType" | .bool _ => "bool" | .int _ => "int" | .str _ => "str" | .list _ => "list" | .tuple _ => "tuple" | .dict _ => "dict"
def isT (t c : String) : Bool := t == c || (t == "bool" && c == "int")
def isD (d : PyData) (c : String) : Bool := isT (tyD d) c
theorem kitAll : ∀ t ∈ ["NoneType", "bool", "int", "str", "list", "tuple"], ∀ c ∈ ["tuple", "str", "int", "bool", "list"], kitB t c = some (isT t c) := by decide +kernel
theorem dpTy {K : PySem.W.Frag} {H : Hp} {v : V} {d : PyData} (h : Dp K H v d) : TyX K H v (.type (tyD d)) := by
  cases h with
  | non => exact .base .non
  | bl b => exact .base (.bl b)
  | int i => exact .base (.int i)
  | str x => exact .base (.str x)
  | lst h _ =>
    rcases h with (h | ⟨o, h⟩) | ⟨o, its, n, h, c, _⟩
    · exact .base (.lst h)
    · exact .base (.frz h)
    · exact .kList h c
  | tup h _ =>
    rcases h with (h | ⟨o, h⟩) | ⟨o, its, n, h, c, _⟩
    · exact .base (.tup h)
    · exact .fTuple h
    · exact .kTuple h c
theorem dpKit {K : PySem.W.Frag} {H : Hp} {v : V} {d : PyData} (h : Dp K H v d) {c : String} (hc : c = "tuple" ∨ c = "str" ∨ c = "int" ∨ c = "bool" ∨ c = "list") : PySem.W.kitOne K (.type (tyD d)) (.type c) = some (isD d c) := by
  have hc' : c ∈ ["tuple", "str", "int", "bool", "list"] := by rcases hc with rfl | rfl | rfl | rfl | rfl <;> simp
  refine kit_ty (kitAll _ ?_ _ hc')
  cases h <;> simp [tyD]
theorem isi {K : PySem.W.Frag} {H : Hp} {v : V} {d : PyData} (h : Dp K H v d) {c : String} (hc : c = "tuple" ∨ c = "str" ∨ c = "int" ∨ c = "bool" ∨ c = "list") {Q : VK} (q : Q (.bl (isD d c)) H) : rIsi K [v, .ty c] H Q :=
  ⟨v, .ty c, _, _, _, rfl, .ty c, dpTy h, dpKit h hc, q⟩
/-- the built-in names that are read -/
structure Bn (mg : Str → Option Value) : Prop where
  isi : mg "isinstance" = none
  len : mg "len" = none
  zip : mg "zip" = none
  all : mg "all" = none
  list : mg "list" = none
  tuple : mg "tuple" = none
  bool : mg "bool" = none
  int : mg "int" = none
  str : mg "str" = none
  range : mg "range" = none
  ord : mg "ord" = none
  set : mg "set" = none
  max : mg "max" = none
  min : mg "min" = none
/-! comprehensions with one name -/
theorem lcJ {J : It} {n : Nat} {g : TG} {tt : TT} {te : TE} {vs : List Nat} {σ : L2.St} {H1 : Hp} {D : Addr} {Qd : Hp → Prop} (Pv : Nat → Hp → Prop) (h0 : Pv 0 (upd H1 D (.lst [])))
    (hgo : ∀ i H, i < n → Pv i H → J.go i H) (hst : ∀ H, Pv n H → J.stop n H)
    (hs : ∀ i H x H', i < n → Pv i H → J.yld i H x H' → g x (wipe σ vs) H' fun σ2 H2 => wipe σ2 vs = wipe σ vs ∧ tt σ2 H2 fun b H3 =>
      if b = true then te σ2 H3 fun y H4 => ∃ acc, H4 D = some (.lst acc) ∧ acc.length < sizeLine ∧ Pv (i + 1) (upd H4 D (.lst (acc ++ [y]))) else Pv (i + 1) H3)
    (hd : ∀ H, Pv n H → Qd H) :
    ∃ W : Nat → Nat → Hp → Prop, (∃ m, W 0 m (upd H1 D (.lst []))) ∧ ∀ i m H, W i m H →
      (J.stop i H ∧ Qd H) ∨ (J.go i H ∧ ∃ Nx : Hp → Prop, (∀ H', Nx H' → ∃ m', m' < m ∧ W (i + 1) m' H') ∧ ∀ x H', J.yld i H x H' → g x (wipe σ vs) H' fun σ2 H2 => wipe σ2 vs = wipe σ vs ∧ tt σ2 H2 fun b H3 =>
        if b = true then te σ2 H3 fun y H4 => ∃ acc, H4 D = some (.lst acc) ∧ acc.length < sizeLine ∧ Nx (upd H4 D (.lst (acc ++ [y]))) else Nx H3) := by
  refine ⟨fun i m H => m = n - i ∧ i ≤ n ∧ Pv i H, ⟨n, by simp, Nat.zero_le _, h0⟩, fun i m H hW => ?_⟩
  obtain ⟨rfl, hi, p⟩ := hW
  by_cases lt : i < n
  · refine .inr ⟨hgo i H lt p, Pv (i + 1), fun H' p' => ⟨n - (i + 1), by omega, rfl, lt, p'⟩, fun x H' y => ?_⟩
    exact hs i H x H' lt p y
  · have e : i = n := by omega
    subst e
    exact .inl ⟨hst H p, hd H p⟩
/-- the list at D, all else as it was -/
def At (H1 : Hp) (D : Addr) (xs : List V) (H : Hp) : Prop := Same H1 H ∧ H D = some (.lst xs)
theorem At.put {H1 H H' : Hp} {D : Addr} {xs ys : List V} (hD : H1 D = none) (h : At H1 D xs H) (s : Same H H') : H' D = some (.lst xs) ∧ At H1 D ys (upd H' D (.lst ys)) := by
  obtain ⟨a, b⟩ := h
  refine ⟨s _ _ b, fun c o e => ?_, upd_same⟩
  rw [upd_ne (ne_of_none e hD)]
  exact s _ _ (a _ _ e)
theorem dpSnoc {K : PySem.W.Frag} {H : Hp} {y : V} {e : PyData} (hy : Dp K H y e) : ∀ {xs : List V} {ds : List PyData}, DpAll K H xs ds → DpAll K H (xs ++ [y]) (ds ++ [e])
  | _, _, .nil => .cons hy .nil
  | _, _, .cons h r => .cons h (dpSnoc hy r)
/-- every item answers a Bool -/
theorem lcAll {J : It} {n j : Nat} {te : TE} {σ : L2.St} {H1 : Hp} {D : Addr} {Qd : Hp → Prop} (b : Nat → Bool) (hD : H1 D = none) (hn : n ≤ 1000000) (hw : ∀ v, wipe ((wipe σ [j]).set j (some v)) [j] = wipe σ [j])
    (hgo : ∀ i H, i < n → Same H1 H → J.go i H) (hst : ∀ H, Same H1 H → J.stop n H)
    (hs : ∀ i H x H', i < n → Same H1 H → J.yld i H x H' → Same H H' ∧ ∀ (R : VK), (∀ H2, Same H' H2 → R (.bl (b i)) H2) → te ((wipe σ [j]).set j (some x)) H' R)
    (hd : ∀ H, Same H1 H → H D = some (.lst (((List.range n).map b).map V.bl)) → Qd H) :
    ∃ W : Nat → Nat → Hp → Prop, (∃ m, W 0 m (upd H1 D (.lst []))) ∧ ∀ i m H, W i m H →
      (J.stop i H ∧ Qd H) ∨ (J.go i H ∧ ∃ Nx : Hp → Prop, (∀ H', Nx H' → ∃ m', m' < m ∧ W (i + 1) m' H') ∧ ∀ x H', J.yld i H x H' → gName j x (wipe σ [j]) H' fun σ2 H2 => wipe σ2 [j] = wipe σ [j] ∧ tYes σ2 H2 fun b H3 =>
        if b = true then te σ2 H3 fun y H4 => ∃ acc, H4 D = some (.lst acc) ∧ acc.length < sizeLine ∧ Nx (upd H4 D (.lst (acc ++ [y]))) else Nx H3) := by
  refine lcJ (n := n) (fun i H => At H1 D (((List.range i).map b).map V.bl) H) ⟨sameUpd hD, upd_same⟩ (fun i H lt h => hgo i H lt h.1) (fun H h => hst H h.1) (fun i H x H' lt h y => ?_) (fun H h => hd H h.1 h.2)
  obtain ⟨s1, s2⟩ := hs i H x H' lt h.1 y
  refine ⟨hw x, ?_⟩
  unfold tYes
  dsimp only
  rw [if_pos rfl]
  refine s2 _ fun H2 s3 => ?_
  obtain ⟨e1, e2⟩ := h.put (ys := ((List.range (i + 1)).map b).map V.bl) hD (s1.trans s3)
  refine ⟨_, e1, ?_, ?_⟩
  · rw [List.length_map, List.length_map, List.length_range, sizeLine_eq]
    omega
  · have e3 : ((List.range (i + 1)).map b).map V.bl = ((List.range i).map b).map V.bl ++ [V.bl (b i)] := by
      rw [List.range_succ, List.map_append, List.map_append]
      rfl
    rw [← e3]
    exact e2
/-- the ones that answer true are kept -/
theorem lcSome {K : PySem.W.Frag} {J : It} {n j : Nat} {tt : TT} {te : TE} {σ : L2.St} {H1 : Hp} {D : Addr} {Qd : Hp → Prop} (b : Nat → Bool) (hD : H1 D = none) (hn : n ≤ 1000000) (hw : ∀ v, wipe ((wipe σ [j]).set j (some v)) [j] = wipe σ [j])
    (hgo : ∀ i H, i < n → Same H1 H → J.go i H) (hst : ∀ H, Same H1 H → J.stop n H)
    (hs : ∀ i H x H', i < n → Same H1 H → J.yld i H x H' → Same H H' ∧ (∀ (F : Bool → Hp → Prop), (∀ H2, Same H' H2 → F (b i) H2) → tt ((wipe σ [j]).set j (some x)) H' F) ∧ ∃ y d, (∀ H, Dp K H y d) ∧ Od 0 d ∧ ∀ (R : VK) H2, R y H2 → te ((wipe σ [j]).set j (some x)) H2 R)
    (hd : ∀ H xs, Same H1 H → H D = some (.lst xs) → (xs = [] ↔ ∀ i, i < n → b i = false) → (∃ ds, (∀ H, DpAll K H xs ds) ∧ (∀ d ∈ ds, Od 0 d) ∧ ds.length ≤ n) → Qd H) :
    ∃ W : Nat → Nat → Hp → Prop, (∃ m, W 0 m (upd H1 D (.lst []))) ∧ ∀ i m H, W i m H →
      (J.stop i H ∧ Qd H) ∨ (J.go i H ∧ ∃ Nx : Hp → Prop, (∀ H', Nx H' → ∃ m', m' < m ∧ W (i + 1) m' H') ∧ ∀ x H', J.yld i H x H' → gName j x (wipe σ [j]) H' fun σ2 H2 => wipe σ2 [j] = wipe σ [j] ∧ tt σ2 H2 fun b H3 =>
        if b = true then te σ2 H3 fun y H4 => ∃ acc, H4 D = some (.lst acc) ∧ acc.length < sizeLine ∧ Nx (upd H4 D (.lst (acc ++ [y]))) else Nx H3) := by
  refine lcJ (n := n) (fun i H => ∃ xs, At H1 D xs H ∧ (xs = [] ↔ ∀ k, k < i → b k = false) ∧ xs.length ≤ i ∧ ∃ ds, (∀ H, DpAll K H xs ds) ∧ ∀ d ∈ ds, Od 0 d) ⟨[], ⟨sameUpd hD, upd_same⟩, ⟨fun _ k hk => absurd hk (Nat.not_lt_zero _), fun _ => rfl⟩, Nat.le_refl _, [], fun _ => .nil, fun d hd => absurd hd (by simp)⟩ (fun i H lt h => hgo i H lt h.choose_spec.1.1) (fun H h => hst H h.choose_spec.1.1) (fun i H x H' lt h y => ?_)
    (fun H h => by obtain ⟨xs, h1, h2, h3, h4⟩ := h; obtain ⟨ds, g1, g2⟩ := h4; exact hd H xs h1.1 h1.2 h2 ⟨ds, g1, g2, by have := dpLen (g1 H); omega⟩)
  obtain ⟨xs, h, e0, hl, ds, hda, hod⟩ := h
  obtain ⟨s1, s2, z, zd, z1, z2, s4⟩ := hs i H x H' lt h.1 y
  refine ⟨hw x, s2 _ fun H2 s3 => ?_⟩
  cases hb : b i with
  | true =>
    refine iteT (s4 _ _ ?_)
    obtain ⟨e1, e2⟩ := h.put (ys := xs ++ [z]) hD (s1.trans s3)
    refine ⟨_, e1, by rw [sizeLine_eq]; omega, _, e2, ⟨fun q => absurd q (by simp), fun q => ?_⟩, by rw [List.length_append]; exact Nat.succ_le_succ hl, ds ++ [zd], fun H => dpSnoc (z1 H) (hda H), fun d hd => ?_⟩
    · rw [q i (Nat.lt_succ_self _)] at hb
      cases hb
    · rcases List.mem_append.mp hd with y | y
      · exact hod d y
      · rw [List.mem_singleton.mp y]
        exact z2
  | false =>
    refine iteF ⟨xs, ⟨(h.1.trans s1).trans s3, s3 _ _ (s1 _ _ h.2)⟩, ⟨fun q k hk => ?_, fun q => e0.mpr fun k hk => q k (by omega)⟩, by omega, ds, hda, hod⟩
    rcases Nat.lt_succ_iff_lt_or_eq.mp hk with c | c
    · exact e0.mp q k c
    · rw [c]
      exact hb
/-- all(..) over a tuple -/
theorem lcAllT {K : PySem.W.Frag} {a : Addr} {xs : List V} {ds : List PyData} {j : Nat} {te : TE} {σ : L2.St} {H1 : Hp} {D : Addr} {Qd : Hp → Prop} (p : PyData → Bool) (ha : SqT K H1 a xs) (hx : DpAll K H1 xs ds) (hn : ds.length ≤ 1000) (hD : H1 D = none) (hw : ∀ v, wipe ((wipe σ [j]).set j (some v)) [j] = wipe σ [j])
    (hs : ∀ v d H, d ∈ ds → Same H1 H → Dp K H v d → ∀ (R : VK), (∀ H2, Same H H2 → R (.bl (p d)) H2) → te ((wipe σ [j]).set j (some v)) H R)
    (hd : ∀ H, Same H1 H → H D = some (.lst ((ds.map p).map V.bl)) → Qd H) :
    ∃ W : Nat → Nat → Hp → Prop, (∃ m, W 0 m (upd H1 D (.lst []))) ∧ ∀ i m H, W i m H →
      ((Itt K a).stop i H ∧ Qd H) ∨ ((Itt K a).go i H ∧ ∃ Nx : Hp → Prop, (∀ H', Nx H' → ∃ m', m' < m ∧ W (i + 1) m' H') ∧ ∀ x H', (Itt K a).yld i H x H' → gName j x (wipe σ [j]) H' fun σ2 H2 => wipe σ2 [j] = wipe σ [j] ∧ tYes σ2 H2 fun b H3 =>
        if b = true then te σ2 H3 fun y H4 => ∃ acc, H4 D = some (.lst acc) ∧ acc.length < sizeLine ∧ Nx (upd H4 D (.lst (acc ++ [y]))) else Nx H3) := by
  have hl := dpLen hx
  refine lcAll (n := ds.length) (fun i => p (ds.getD i .none)) hD (by omega) hw (fun i H lt s => ?_) (fun H s => ⟨xs, sameTup s ha, by omega⟩) (fun i H x H' lt s y => ?_) (fun H s e => hd H s ?_)
  · exact ⟨xs, xs[i], sameTup s ha, List.getElem?_eq_getElem (by omega)⟩
  · obtain ⟨rfl, y⟩ := y
    refine ⟨Same.refl _, fun R hR => ?_⟩
    have e := y xs (sameTup s ha)
    have e2 : ds[i]? = some ds[i] := List.getElem?_eq_getElem lt
    obtain ⟨v, h1, h2⟩ := dpAt hx e2
    obtain rfl : v = x := Option.some.inj (h1.symm.trans e)
    rw [List.getD_eq_getElem?_getD, e2] at hR
    exact hs v ds[i] _ (List.getElem_mem lt) s (dpSame s _ _ h2) R hR
  · rw [e]
    have : (List.range ds.length).map (fun i => p (ds.getD i .none)) = ds.map p := by
      refine List.ext_getElem (by simp) fun i h1 h2 => ?_
      simp only [List.getElem_map, List.getElem_range]
      rw [List.getD_eq_getElem?_getD, List.getElem?_eq_getElem (by simpa using h1)]
      rfl
    rw [this]
/-- the kept ones of a tuple -/
theorem lcSomeT {K : PySem.W.Frag} {a : Addr} {xs : List V} {ds : List PyData} {j : Nat} {tt : TT} {te : TE} {σ : L2.St} {H1 : Hp} {D : Addr} {Qd : Hp → Prop} (p : PyData → Bool) (ha : SqT K H1 a xs) (hx : DpAll K H1 xs ds) (hn : ds.length ≤ 1000) (hD : H1 D = none) (hw : ∀ v, wipe ((wipe σ [j]).set j (some v)) [j] = wipe σ [j])
    (hs : ∀ v d H, d ∈ ds → Same H1 H → Dp K H v d → (∀ (F : Bool → Hp → Prop), (∀ H2, Same H H2 → F (p d) H2) → tt ((wipe σ [j]).set j (some v)) H F) ∧ ∃ y d, (∀ H, Dp K H y d) ∧ Od 0 d ∧ ∀ (R : VK) H2, R y H2 → te ((wipe σ [j]).set j (some v)) H2 R)
    (hd : ∀ H zs, Same H1 H → H D = some (.lst zs) → (zs = [] ↔ ∀ d ∈ ds, p d = false) → (∃ es, (∀ H, DpAll K H zs es) ∧ (∀ d ∈ es, Od 0 d) ∧ es.length ≤ ds.length) → Qd H) :
    ∃ W : Nat → Nat → Hp → Prop, (∃ m, W 0 m (upd H1 D (.lst []))) ∧ ∀ i m H, W i m H →
      ((Itt K a).stop i H ∧ Qd H) ∨ ((Itt K a).go i H ∧ ∃ Nx : Hp → Prop, (∀ H', Nx H' → ∃ m', m' < m ∧ W (i + 1) m' H') ∧ ∀ x H', (Itt K a).yld i H x H' → gName j x (wipe σ [j]) H' fun σ2 H2 => wipe σ2 [j] = wipe σ [j] ∧ tt σ2 H2 fun b H3 =>
        if b = true then te σ2 H3 fun y H4 => ∃ acc, H4 D = some (.lst acc) ∧ acc.length < sizeLine ∧ Nx (upd H4 D (.lst (acc ++ [y]))) else Nx H3) := by
  have hl := dpLen hx
  refine lcSome (K := K) (n := ds.length) (fun i => p (ds.getD i .none)) hD (by omega) hw (fun i H lt s => ?_) (fun H s => ⟨xs, sameTup s ha, by omega⟩) (fun i H x H' lt s y => ?_) (fun H zs s e e0 es => hd H zs s e (e0.trans ?_) es)
  · exact ⟨xs, xs[i], sameTup s ha, List.getElem?_eq_getElem (by omega)⟩
  · obtain ⟨rfl, y⟩ := y
    have e := y xs (sameTup s ha)
    have e2 : ds[i]? = some ds[i] := List.getElem?_eq_getElem lt
    obtain ⟨v, h1, h2⟩ := dpAt hx e2
    obtain rfl : v = x := Option.some.inj (h1.symm.trans e)
    rw [List.getD_eq_getElem?_getD, e2]
    exact ⟨Same.refl _, hs v ds[i] _ (List.getElem_mem lt) s (dpSame s _ _ h2)⟩
  · constructor
    · intro h d hd
      obtain ⟨i, hi, e⟩ := List.getElem_of_mem hd
      have := h i hi
      rw [List.getD_eq_getElem?_getD, List.getElem?_eq_getElem hi] at this
      rw [← e]
      exact this
    · intro h i hi
      rw [List.getD_eq_getElem?_getD, List.getElem?_eq_getElem hi]
      exact h _ (List.getElem_mem hi)
/-- a kept list against [] -/
theorem eqNil {K : PySem.W.Frag} {H : Hp} {D e : Addr} {zs : List V} {Q : VK} {n : Nat} (hD : H D = some (.lst zs)) (he : H e = some (.lst [])) (es : ∃ es, (∀ H, DpAll K H zs es) ∧ (∀ d ∈ es, Od 0 d) ∧ es.length ≤ n) (h : Q (.bl (decide (zs = []))) H) : rEqD K (.ref D) (.ref e) H Q := by
  obtain ⟨ds, h1, h2, _⟩ := es
  refine ⟨.list ds, .list [], .lst (.inl (.inl hD)) (h1 H), .lst (.inl (.inl he)) .nil, ?_, rfl, ?_⟩
  · obtain ⟨a, b⟩ := allLay (ds := ds) (n := 0) fun d hd => (h2 d hd).lay
    have e1 : (PyData.list ds).canLay0 = true := a
    unfold SeqAt.shaped
    rw [e1, Bool.true_and]
    refine decide_eq_true ?_
    simp only [PyData.depth]
    omega
  · have hl := dpLen (h1 H)
    cases ds with
    | nil =>
      have : zs = [] := List.eq_nil_of_length_eq_zero hl
      subst this
      exact h
    | cons d ds =>
      have : ¬ zs = [] := fun z => by rw [z] at hl; cases hl
      rw [decide_eq_false this] at h
      exact h
theorem neNil {K : PySem.W.Frag} {H : Hp} {D e : Addr} {zs : List V} {Q : VK} {n : Nat} (hD : H D = some (.lst zs)) (he : H e = some (.lst [])) (es : ∃ es, (∀ H, DpAll K H zs es) ∧ (∀ d ∈ es, Od 0 d) ∧ es.length ≤ n) (h : Q (.bl (!decide (zs = []))) H) : rNeD K (.ref D) (.ref e) H Q := by
  obtain ⟨d, e, h1, h2, h3, h4, h5⟩ := eqNil (Q := fun x H => Q (match x with | .bl b => .bl (!b) | _ => x) H) hD he es h
  exact ⟨d, e, h1, h2, h3, h4, h5⟩
end KS

set_option Elab.async false
set_option linter.all false
set_option maxRecDepth 100000
set_option maxHeartbeats 4000000
namespace KS
open PySem PySem.Spec PyProof.Rows L2
/-- a def's bundle -/
structure Has (P : Program) (w : World) (K : PySem.W.Frag) (mg : Str → Option Value) (base : Heap) (k : Nat) (x : Str) (ps : List Str) (sp : Sp) : Prop where
  ex : ∃ (f : Addr) (fd : FuncData), mg x = some (.ref f) ∧ PySem.W.keepIn K (.ref f) = true ∧ Binds K fd ps [] ∧ FnOk P w K mg base CX0 k f fd ps sp
/-- one that may raise -/
structure HasX (P : Program) (w : World) (K : PySem.W.Frag) (mg : Str → Option Value) (base : Heap) (k : Nat) (x : Str) (ps : List Str) (sp : Sp) : Prop where
  ex : ∃ (f : Addr) (fd : FuncData), mg x = some (.ref f) ∧ PySem.W.keepIn K (.ref f) = true ∧ Binds K fd ps [] ∧ FnOk P w K mg base (L2.CX P w) k f fd ps sp
end KS

set_option Elab.async false
set_option linter.all false
set_option maxRecDepth 100000
set_option maxHeartbeats 4000000
/-! == of data that may hold dicts, either way -/
namespace PySem.SeqAt
open AutoSeq1 (wpAny_loadPart')
open MeetsSeq MeetsSeq2 MeetsSeq3 SeqRoads2
section
variable {prog : Program} {w : World}
/-- pairs compared from the left, no further than the first unlike ones -/
inductive Cmp (prog : Program) (w : World) (A : Around) (s : Shared) : List (Value × Value) → Bool → Prop
  | nil : Cmp prog w A s [] true
  | cons {x y : Value} {r : List (Value × Value)} {a b : Bool} (h : EqP prog w A s x y a) (t : a = true → Cmp prog w A s r b) : Cmp prog w A s ((x, y) :: r) (a && b)
theorem Cmp.inv {A : Around} {s : Shared} {x y : Value} {r : List (Value × Value)} {c : Bool} (h : Cmp prog w A s ((x, y) :: r) c) : ∃ a b, c = (a && b) ∧ EqP prog w A s x y a ∧ (a = true → Cmp prog w A s r b) := by
  cases h with
  | cons h t => exact ⟨_, _, rfl, h, t⟩
theorem tupCmp (l b : Addr) (p q : Array Value) (n m : Nat) (d1 d2 : Option Addr) (sl1 sl2 : Array (Option Value)) :
    MeetsIn prog w (Builtin.«tuple.__eq__» ⟨[.ref l, .ref b], []⟩)
      (fun A R s => s.heap.get? l = some { cls := .type "tuple", dict := d1, data := .seq p n, slots := sl1 } ∧ s.heap.get? b = some { cls := .type "tuple", dict := d2, data := .seq q m, slots := sl2 } ∧
        ∃ c, Cmp prog w A.in1 s (p.toList.zip q.toList) c ∧ R (.ok (.ret (.bool (c && p.size == q.size)))) s) :=
  .of_wp fun A R s0 h => by
    obtain ⟨g1, g2, c0, hc, hR⟩ := h
    obtain ⟨hp, g, d, tk, os⟩ := s0
    have sub := AutoSeq1.sub_tuple_tuple
    wp_walk using wpAny_loadPart' g1, wpAny_loadPart' g2, wpAny_forIn_list _ (fun rest z s' => z.1 = none ∧ s' = ⟨hp, g, d, tk, os⟩ ∧ ∃ c, Cmp prog w A.in1 ⟨hp, g, d, tk, os⟩ rest c ∧ R (.ok (.ret (.bool (c && p.size == q.size)))) ⟨hp, g, d, tk, os⟩) _
    case turn =>
      rintro ⟨x, y⟩ rest z s' ⟨_, rfl, c, hc, hR⟩
      obtain ⟨a, b, rfl, hxy, hr⟩ := hc.inv
      refine wpAny_bind (hxy _ _ ?_)
      cases a with
      | false =>
        wp_walk
        exact ⟨_, rfl, hR⟩
      | true =>
        wp_walk
        exact ⟨rfl, rfl, b, hr rfl, hR⟩
    case fin =>
      rintro ⟨z1, z2⟩ s' ⟨hz, rfl, c, hc, hR⟩
      cases hc
      have e : z1 = none := hz
      subst e
      wp_walk
      exact ⟨_, rfl, by simpa [Builtin.Tuple.tupleCompareSizes] using hR⟩
    case h =>
      exact ⟨rfl, rfl, c0, hc, hR⟩
theorem rcCmp {A : Around} {s : Shared} {l b : Addr} {p q : Array Value} {c : Bool} (h1 : s.heap.IsTuple l p) (h2 : s.heap.IsTuple b q) (hu : A.units < cLine) (hc : Cmp prog w A.in1 s (p.toList.zip q.toList) c)
    (E Q : Value → Shared → Prop) (k : Q (.bool (c && p.size == q.size)) s) : wpAny (model prog w) A (richCompare .Eq (.ref l) (.ref b)) Q E s := by
  obtain ⟨⟨_, d1, _, sl1⟩, o1, e1, n, e2⟩ := h1
  obtain ⟨⟨_, d2, _, sl2⟩, o2, e3, m, e4⟩ := h2
  simp only at e1 e2 e3 e4
  subst e1 e2 e3 e4
  have t1 : s.TypeIs (.ref l) "tuple" := ⟨_, o1, rfl⟩
  have t2 : s.TypeIs (.ref b) "tuple" := ⟨_, o2, rfl⟩
  refine wpAny_richCompare_same_room (op := .Eq) t1 t2 F.slot_tuple_eq (call_meetsIn F.slot_tuple_eq t1 F.entry_tuple_eq (F.args_tuple_eq_2 _ _) (tupCmp l b p q n m d1 d2 sl1 sl2) ⟨o1, o2, c, hc, ?_⟩) hu
  exact ⟨(fun z => nomatch z), k⟩
end
end PySem.SeqAt
namespace DB
open PySem PySem.Spec PyProof.Rows L2
/-- data, or flat ones -/
def EbD (K : PySem.W.Frag) (H : Hp) (x y : V) (c : Bool) : Prop := (flatV x = true ∧ flatV y = true ∧ c = eqV x y) ∨ ∃ d1 d2, Dp K H x d1 ∧ Dp K H y d2 ∧ SeqAt.shaped d1 = true ∧ SeqAt.shaped d2 = true ∧ c = PyData.eqv d1 d2
/-- two rows compared from the left -/
inductive EbL (F : V → V → Bool → Prop) : List V → List V → Bool → Prop
  | nilL {ys : List V} : EbL F [] ys true
  | nilR {xs : List V} : EbL F xs [] true
  | cons {x y : V} {xs ys : List V} {a b : Bool} (h : F x y a) (t : a = true → EbL F xs ys b) : EbL F (x :: xs) (y :: ys) (a && b)
/-- how two values compare: data, tuples, dicts, down to the depth n -/
def Eb (K : PySem.W.Frag) (H : Hp) : Nat → V → V → Bool → Prop
  | 0 => fun x y c => EbD K H x y c
  | n + 1 => fun x y c => EbD K H x y c ∨
      (∃ (a b : Addr) (xs ys : List V) (e : Bool), x = .ref a ∧ y = .ref b ∧ SqT K H a xs ∧ SqT K H b ys ∧ (a = b → c = true) ∧ EbL (Eb K H n) xs ys e ∧ c = (e && xs.length == ys.length)) ∨
      ∃ (a b : Addr) (ka kb : List (Key × V)) (e : Key → Bool), x = .ref a ∧ y = .ref b ∧ H a = some (.dK ka) ∧ H b = some (.dK kb) ∧ (a = b → c = true) ∧ (∀ k v u, (k, v) ∈ ka → valV kb k = some u → Eb K H n v u (e k)) ∧ c = (ka.length == kb.length && ka.all fun p => (valV kb p.1).isSome && e p.1)
section
variable {X : Cx} {pins : List (Addr × Obj)} {σ : L2.St} {H : Hp} {s : Shared}
theorem hitsB {A : Around} {n : Nat} {e : Key → Bool} (ih : ∀ x y v u c, Eb X.K H n x y c → RelV x v → RelV y u → SeqAt.EqP X.prog X.w A s v u c) {ls : List (Key × V)} {vb : List (Key × Value)} (rb : KV ls vb) {ks : List (Key × V)} {va : List (Key × Value)}
    (ra : KV ks va) : (∀ k v u, (k, v) ∈ ks → valV ls k = some u → Eb X.K H n v u (e k)) → PySem.W.KeqHitsP X.prog X.w A s vb va (ks.all fun p => (valV ls p.1).isSome && e p.1) := by
  unfold KV at ra
  induction ra with
  | nil => intro _; exact .nil
  | @cons p q ps qs h t k =>
    intro hp
    obtain ⟨h1, h2⟩ := h
    obtain ⟨key, v⟩ := q
    obtain ⟨kk, pv⟩ := p
    have h1' : kk = key := h1
    subst h1'
    have rr := rb.val kk
    rw [List.all_cons]
    cases hv : valV ls kk with
    | none =>
      rw [hv] at rr
      have hn : valueAt vb kk = none := by
        cases hb : valueAt vb kk with
        | none => rfl
        | some y => rw [hb] at rr; exact (show False from rr).elim
      exact .miss hn
    | some u =>
      rw [hv] at rr
      obtain ⟨y, hy, ry⟩ := rr.some_of
      exact .hit hy (ih _ _ _ _ _ (hp kk pv u List.mem_cons_self hv) h2 ry) (k fun k' v' u' hm hv' => hp k' v' u' (List.mem_cons_of_mem _ hm) hv')
theorem data_run (I : Inv X pins σ H s) {A : Around} (hu : A.units + 70 < cLine) {x y : V} {v u : Value} {c : Bool} (h : EbD X.K H x y c) (rx : RelV x v) (ry : RelV y u) : SeqAt.EqP X.prog X.w A s v u c := by
  rcases h with ⟨f1, f2, rfl⟩ | ⟨d1, d2, h1, h2, s1, s2, rfl⟩
  · exact (eqAt_V rx ry f1 f2).eqP
  obtain ⟨as, r1⟩ := Dp.reads I d1 x v h1 rx
  obtain ⟨bs, r2⟩ := Dp.reads I d2 y u h2 ry
  exact (SeqAt.eqAt_reads d1 d2 A s v u as bs r1 r2 (SeqAt.canLay_of_shaped s1) (SeqAt.canLay_of_shaped s2) (SeqAt.room_of_shaped s1 (by omega))).eqP
/-- the comparison itself of two objects -/
theorem rc_run (I : Inv X pins σ H s) {A : Around} {n : Nat} (hu : A.units + 1 < cLine) (ih : ∀ x y v u c, Eb X.K H n x y c → RelV x v → RelV y u → SeqAt.EqP X.prog X.w A.in1 s v u c) {a b : Addr} {c : Bool} 
    (h : (∃ (xs ys : List V) (e : Bool), SqT X.K H a xs ∧ SqT X.K H b ys ∧ EbL (Eb X.K H n) xs ys e ∧ c = (e && xs.length == ys.length)) ∨
      ∃ (ka kb : List (Key × V)) (e : Key → Bool), H a = some (.dK ka) ∧ H b = some (.dK kb) ∧ (∀ k v u, (k, v) ∈ ka → valV kb k = some u → Eb X.K H n v u (e k)) ∧ c = (ka.length == kb.length && ka.all fun p => (valV kb p.1).isSome && e p.1))
    (E Q : Value → Shared → Prop) (q : Q (.bool c) s) : wpAny (model X.prog X.w) A (richCompare .Eq (.ref a) (.ref b)) Q E s := by
  rcases h with ⟨xs, ys, e, ha, hb, hp, rfl⟩ | ⟨ka, kb, e, ha, hb, hp, rfl⟩
  · obtain ⟨us, r1, p1, -⟩ := I.tuple ha
    obtain ⟨ws, r2, p2, -⟩ := I.tuple hb
    refine SeqAt.rcCmp (c := e) p1 p2 (by omega) ?_ E Q ?_
    · show SeqAt.Cmp X.prog X.w A.in1 s (us.zip ws) e
      clear p1 p2 ha hb q
      induction hp generalizing us ws with
      | nilL => cases r1; exact .nil
      | nilR => cases r2; rw [List.zip_nil_right]; exact .nil
      | cons h _ k =>
        cases r1 with
        | cons a1 b1 =>
          cases r2 with
          | cons a2 b2 => exact .cons (ih _ _ _ _ _ h a1 a2) fun z => k z _ b1 _ b2
    · rw [List.size_toArray, List.size_toArray, ← r1.length, ← r2.length]
      exact q
  · obtain ⟨_, ya, va, ra, da⟩ := (show ObjOk X.prog X.w H s.heap a (.dK ka) from I.hok a _ ha)
    obtain ⟨_, yb, vb, rb, db⟩ := (show ObjOk X.prog X.w H s.heap b (.dK kb) from I.hok b _ hb)
    refine PySem.W.rcP_dicts (knd := mixKind X.prog X.w) (r := ka.all fun p => (valV kb p.1).isSome && e p.1) ya yb da db (by omega) (fun _ => hitsB ih rb ra hp) E Q ?_
    rw [ra.length, rb.length] at q
    exact q
theorem eb_run (I : Inv X pins σ H s) : ∀ (n : Nat) (A : Around), A.units + n + 70 < cLine → ∀ (x y : V) (v u : Value) (c : Bool), Eb X.K H n x y c → RelV x v → RelV y u → SeqAt.EqP X.prog X.w A s v u c
  | 0, A, hu, x, y, v, u, c, h, rx, ry => by
    exact data_run I (by omega) h rx ry
  | n + 1, A, hu, x, y, v, u, c, h, rx, ry => by
    have ih := eb_run I n A.in1 (by show A.units + 1 + n + 70 < cLine; omega)
    rcases h with h | ⟨a, b, xs, ys, e, rfl, rfl, ha, hb, hs, hp, hc⟩ | ⟨a, b, ka, kb, e, rfl, rfl, ha, hb, hs, hp, hc⟩
    · exact data_run I (by omega) h rx ry
    · cases (show v = Value.ref a from rx)
      cases (show u = Value.ref b from ry)
      by_cases e1 : a = b
      · rw [hs e1, e1]
        exact (SeqAt.EqAt.same _).eqP
      · exact SeqAt.eqP_refs e1 fun E Q q => rc_run I (by omega) ih (.inl ⟨xs, ys, e, ha, hb, hp, hc⟩) E Q q
    · cases (show v = Value.ref a from rx)
      cases (show u = Value.ref b from ry)
      by_cases e1 : a = b
      · rw [hs e1, e1]
        exact (SeqAt.EqAt.same _).eqP
      · exact SeqAt.eqP_refs e1 fun E Q q => rc_run I (by omega) ih (.inr ⟨ka, kb, e, ha, hb, hp, hc⟩) E Q q
end
/-- d == e of two dicts of data -/
def rEqDB (K : PySem.W.Frag) : R2 := fun x y H Q => ∃ (n : Nat) (a b : Addr) (ka kb : List (Key × V)) (e : Key → Bool), n ≤ 20 ∧ x = .ref a ∧ y = .ref b ∧ H a = some (.dK ka) ∧ H b = some (.dK kb) ∧ (∀ k v u, (k, v) ∈ ka → valV kb k = some u → Eb K H n v u (e k)) ∧ Q (.bl (ka.length == kb.length && ka.all fun p => (valV kb p.1).isSome && e p.1)) H
theorem op_eqDB {X : Cx} (hu : X.A.units + 100 < cLine) : OpR X (compareOp .Eq) (rEqDB X.K) := by
  intro pins s σ H x y v u Q I rx ry h
  obtain ⟨n, a, b, ka, kb, e, hn, rfl, rfl, ha, hb, hp, q⟩ := h
  cases (show v = Value.ref a from rx)
  cases (show u = Value.ref b from ry)
  exact rc_run I (by omega) (eb_run I n X.A.in1 (by show X.A.units + 1 + n + 70 < cLine; omega)) (.inr ⟨ka, kb, e, ha, hb, hp, rfl⟩) _ _ ⟨.bl _, H, I, rfl, q⟩
theorem op_or {X : Cx} {f : Value → Value → Sem Value} {r1 r2 : R2} (h1 : OpR X f r1) (h2 : OpR X f r2) : OpR X f (fun x y H Q => r1 x y H Q ∨ r2 x y H Q) := fun pins s σ H x y v u Q I rx ry h => h.elim (h1 pins s σ H x y v u Q I rx ry) (h2 pins s σ H x y v u Q I rx ry)
theorem un100 {k : Nat} {A : Around} (r : Room k A) : A.units + 100 < cLine := by
  have := r.un
  omega
end DB

set_option Elab.async false
set_option linter.all false
set_option maxRecDepth 100000
set_option maxHeartbeats 4000000
namespace KS.La
open PySem PySem.Spec PyProof.Rows L2
/-! ### the feed -/
/-- all but the list at f stands -/
def Kp (f : Addr) (H H' : Hp) : Prop := ∀ b o, b ≠ f → H b = some o → H' b = some o
def Fd (H : Hp) (f : Addr) : Prop := ∃ x y : Int, H f = some (.lst [.int x, .int y]) ∧ 0 ≤ x ∧ 0 ≤ y
theorem Kp.refl (f : Addr) (H : Hp) : Kp f H H := fun _ _ _ h => h
theorem Kp.trans {f : Addr} {H H1 H2 : Hp} (a : Kp f H H1) (b : Kp f H1 H2) : Kp f H H2 := fun c o n h => b c o n (a c o n h)
theorem Kp.put {f : Addr} {H : Hp} {o : HO} : Kp f H (upd H f o) := fun b u n h => by
  rw [upd_ne n]
  exact h
theorem Kp.new {f p : Addr} {H : Hp} {o : HO} (h : H p = none) : Kp f H (upd H p o) := fun b u _ e => by
  rw [upd_ne (ne_of_none e h)]
  exact e
theorem Kp.same {f : Addr} {H H' : Hp} (s : Same H H') : Kp f H H' := fun b o _ h => s b o h
theorem Fd.same {f : Addr} {H H' : Hp} (s : Same H H') : Fd H f → Fd H' f := fun ⟨x, y, h, a, b⟩ => ⟨x, y, s _ _ h, a, b⟩
theorem Fd.new {f p : Addr} {H : Hp} {o : HO} (h : H p = none) (e : Fd H f) : Fd (upd H p o) f := e.same (sameUpd h)
theorem Fd.put {f : Addr} {H : Hp} {x y : Int} (hx : 0 ≤ x) (hy : 0 ≤ y) : Fd (upd H f (.lst [.int x, .int y])) f := ⟨x, y, upd_same, hx, hy⟩
/-! ### promises -/
def spFeed (K : PySem.W.Frag) : Sp := fun vs H Q _ => ∃ (a : Addr) (ns : List Int) (k : Int), vs = [.ref a, .int k] ∧ SqL K H a (ns.map V.int) ∧ ns.length ≤ 63 ∧ 0 ≤ k ∧ k < 1000 ∧ ∀ p H', Same H H' → H p = none → Fd H' p → Q (.ref p) H'
def spDraw : Sp := fun vs H Q _ => ∃ (f : Addr) (n : Int), vs = [.ref f, .int n] ∧ Fd H f ∧ 0 < n ∧ n < 1000000 ∧ ∀ (r : Int) H', 0 ≤ r → r < n → Kp f H H' → Fd H' f → Q (.int r) H'
def spPick (K : PySem.W.Frag) : Sp := fun vs H Q _ => ∃ (f l : Addr) (xs : List V), vs = [.ref f, .ref l] ∧ Fd H f ∧ SqL K H l xs ∧ l ≠ f ∧ 0 < xs.length ∧ xs.length < 1000 ∧ ∀ (i : Nat) (v : V) H', xs[i]? = some v → Kp f H H' → Fd H' f → Q v H'
def spCalls : Sp := fun vs H Q _ => vs = [] ∧ ∀ p, H p = none → Q (.ref p) (upd H p (.lst [.str "make", .str "", .str "r 2", .str "Mend!"]))
def TOk (z : Str) : Prop := SOk z ∧ z.length ≤ 1000
instance (z : Str) : Decidable (TOk z) := by unfold TOk SOk; infer_instance
theorem sokFold : ∀ (l : List (Array Nat)) (a : Array Nat), a.all (· < 0x110000) = true → (∀ b ∈ l, b.all (· < 0x110000) = true) → (l.foldl (· ++ ·) a).all (· < 0x110000) = true
  | [], _, h, _ => h
  | b :: l, a, h, k => sokFold l (a ++ b) (by rw [Array.all_append, h, k b (List.mem_cons_self ..)]; rfl) fun c hc => k c (List.mem_cons_of_mem _ hc)
theorem sokMul {z : Str} {n : Int} (h : SOk z) : SOk (Txt.mul z n) := by
  unfold Txt.mul
  split
  · (show Str.empty.cps.all (· < 0x110000) = true; decide +kernel)
  · split
    · exact h
    · exact sokFold _ #[] (by simp) fun b hb => by rw [List.eq_of_mem_replicate hb]; exact h
theorem tokMul {z : Str} {n : Int} {c : Nat} (h : SOk z) (e : z = ⟨#[c]⟩) (m : n ≤ 1000) : TOk (Txt.mul z n) := ⟨sokMul h, len_mul_one (N := 1000) e m⟩
def spText : Sp := fun vs H Q _ => ∃ f : Addr, vs = [.ref f] ∧ Fd H f ∧ ∀ (z : Str) H', TOk z → Kp f H H' → Fd H' f → Q (.str z) H'
section
variable {P : Program} {w : World} {K : PySem.W.Frag} {mg : Str → Option Value} {base : Heap} {f : Addr} {fd : FuncData}
theorem scFeed : FnScope ["_law_script", "_law_k", "_law_cell", "_law_great"] ["_law_script", "_law_k"] (defScope lFeed) := ⟨rfl, rfl, rfl, by decide +kernel, rfl, by decide +kernel, by decide +kernel⟩
theorem seqNat {ns : List Int} {k : Int} (h0 : 0 ≤ k) (h : k < (ns.length : Int)) : ∃ n : Int, atI (ns.map V.int) k = some (.int n) := by
  obtain ⟨j, rfl⟩ : ∃ j : Nat, k = (j : Int) := ⟨k.toNat, by omega⟩
  have hj : j < ns.length := by omega
  refine ⟨ns[j], atI_nat ?_⟩
  rw [List.getElem?_map, List.getElem?_eq_getElem hj]
  rfl
theorem okFeed {k : Nat} (F : FnP K "_law_feed_of" lFeed f fd) (ml : mg "len" = none) : FnOk P w K mg base CX0 (k + 1) f fd ["_law_script", "_law_k"] (spFeed K) := by
  refine F.ok scFeed (fun vs H Q E h => ?_) (fun cdv A outer s H vs Q E hr h => ?_)
  · obtain ⟨a, ns, k, rfl, _⟩ := h
    rfl
  · obtain ⟨a, ns, n, rfl, hS, hlen, hn0, hn1, q⟩ := h
    refine ⟨_, PSs.nox (pss_cons (ps_set (i := 2) scFeed.nd rfl (.inl rfl) (pe_op op_add (pe_op op_mul pe_int (pv 1)) pe_int))
      (C8.pss_cut (ps_if (pt_cmpR op_lt (pv 1) (pe_callB call_len_seq (by rfl) ml PySem.boot_len (pa_cons (pv 0) pa_nil)) (nomark _)) (pss_one (ps_set (i := 2) scFeed.nd rfl (.inl rfl) (pe_ix ix_list (pv 0) (pv 1) (fun _ _ => rfl)))) pss_nil)
      (C8.pss_cut (ps_if (pt_cmpR op_lt (pv 2) pe_int (nomark _)) (pss_one (ps_set (i := 2) scFeed.nd rfl (.inl rfl) (pe_op op_sub pe_int (pe_op op_mul pe_int (pv 2))))) pss_nil)
      (C8.pss_cut (ps_set (i := 3) scFeed.nd rfl (.inl rfl) (pe_ifExp (pt_cmpR op_ge (pv 2) (pe_op op_pow pe_int pe_int) (nomark _)) (pv 2) pe_int))
      (pss_one (ps_ret (pe_lst (pa_cons (pv 3) (pa_cons (pe_op op_add (pe_op op_add (pe_op op_mod (pv 2) pe_int) (pe_op op_mul pe_int (pv 1))) pe_int) pa_nil))))))))), ?_⟩
    refine ⟨.int n, rfl, 9029, n, rfl, rfl, .inl ⟨by decide, by decide⟩, 9029 * n, 31, rfl, rfl, ?_⟩
    refine ⟨fun σ' H' => H' = H ∧ ∃ c : Int, σ' = [some (.ref a), some (.int n), some (.int c), none], ?_, ?_⟩
    · refine ⟨.int n, rfl, .ref a, rfl, a, _, rfl, .inl hS, n, _, rfl, rfl, _, rfl, ite2 (fun e => ?_) (fun _ => ?_)⟩
      · have e1 : n < ((ns.map V.int).length : Int) := of_decide_eq_true e
        rw [List.length_map] at e1
        obtain ⟨c, hc⟩ := seqNat hn0 e1
        exact ⟨.ref a, rfl, .int n, rfl, a, _, n, _, rfl, rfl, hS, hc, rfl, c, rfl⟩
      · exact ⟨rfl, _, rfl⟩
    rintro σ' H' ⟨rfl, c, rfl⟩
    refine ⟨fun σ' H2 => H2 = H' ∧ ∃ c : Int, 0 ≤ c ∧ σ' = [some (.ref a), some (.int n), some (.int c), none], ?_, ?_⟩
    · refine ⟨.int c, rfl, c, 0, rfl, rfl, _, rfl, ite2 (fun e => ?_) (fun e => ?_)⟩
      · have e1 : c < 0 := of_decide_eq_true e
        exact ⟨.int c, rfl, 7, c, rfl, rfl, .inl ⟨by decide, by decide⟩, 5, 7 * c, rfl, rfl, rfl, 5 - 7 * c, by omega, rfl⟩
      · have e1 : ¬ c < 0 := fun z => e (decide_eq_true z)
        exact ⟨rfl, c, by omega, rfl⟩
    rintro σ' H2 ⟨rfl, d, hd, rfl⟩
    refine ⟨fun σ' H3 => H3 = H2 ∧ ∃ g : Int, 0 ≤ g ∧ σ' = [some (.ref a), some (.int n), some (.int d), some (.int g)], ?_, ?_⟩
    · refine ⟨.int d, rfl, 10, 18, rfl, rfl, ⟨by decide, by decide, by decide⟩, d, _, rfl, rfl, _, rfl, ite2 (fun _ => ?_) (fun _ => ?_)⟩
      · exact ⟨.int d, rfl, rfl, d, hd, rfl⟩
      · exact ⟨rfl, 0, by decide, rfl⟩
    rintro σ' H3 ⟨rfl, g, hg, rfl⟩
    refine ⟨.int g, rfl, .int d, rfl, d, 1000003, rfl, rfl, (by show (0 : Int) < 1000003; decide), .int n, rfl, 11, n, rfl, rfl, .inl ⟨by decide, by decide⟩, _, _, rfl, rfl, _, _, rfl, rfl, (by show 2 ≤ sizeLine; decide), fun p hp => ?_⟩
    refine q p _ (sameUpd hp) hp ⟨_, _, upd_same, hg, ?_⟩
    have := Int.emod_nonneg d (show (1000003 : Int) ≠ 0 by decide)
    omega
theorem scDraw : FnScope ["_law_feed", "_law_many", "_law_digit"] ["_law_feed", "_law_many"] (defScope lDraw) := ⟨rfl, rfl, rfl, by decide +kernel, rfl, by decide +kernel, by decide +kernel⟩
theorem okDraw {k : Nat} (F : FnP K "_law_draw" lDraw f fd) : FnOk P w K mg base CX0 (k + 1) f fd ["_law_feed", "_law_many"] spDraw := by
  refine F.ok scDraw (fun vs H Q E h => ?_) (fun cdv A outer s H vs Q E hr h => ?_)
  · obtain ⟨a, n, rfl, _⟩ := h
    rfl
  · obtain ⟨a, n, rfl, ⟨x, y, hf, hx, hy⟩, hn0, hn1, q⟩ := h
    have hS : ∀ {x y : Int} {H : Hp}, H a = some (.lst [.int x, .int y]) → SqL K H a [.int x, .int y] := fun h => .inl (.inl h)
    refine ⟨_, PSs.nox (pss_cons (ps_if (pt_cmpR op_gt (pe_ix ix_list (pv 0) pe_int (fun _ _ => rfl)) pe_int (nomark _))
        (pss_cons (ps_set (i := 2) scDraw.nd rfl (.inl rfl) (pe_op op_modN (pe_ix ix_list (pv 0) pe_int (fun _ _ => rfl)) (pv 1)))
        (pss_cons (ps_asg (pe_op op_fdivN (pe_ix ix_list (pv 0) pe_int (fun _ _ => rfl)) (pv 1)) (pg_sub (pv 0) pe_int set_list))
        (pss_one (ps_ret (pv 2))))) pss_nil)
      (pss_cons (ps_asg (pe_op op_mod (pe_op op_add (pe_op op_mul (pe_ix ix_list (pv 0) pe_int (fun _ _ => rfl)) pe_int) pe_int) pe_int) (pg_sub (pv 0) pe_int set_list))
      (pss_one (ps_ret (pe_op op_modN (pe_op op_fdiv (pe_ix ix_list (pv 0) pe_int (fun _ _ => rfl)) pe_int) (pv 1)))))), ?_⟩
    refine ⟨.ref a, rfl, a, _, 0, .int x, rfl, rfl, hS hf, atI_nat (j := 0) rfl, x, 0, rfl, rfl, _, rfl, ite2 (fun e => ?_) (fun e => ?_)⟩
    · refine ⟨.ref a, rfl, a, _, 0, .int x, rfl, rfl, hS hf, atI_nat (j := 0) rfl, .int n, rfl, x, n, rfl, rfl, (by show n ≠ 0; omega), ?_⟩
      refine ⟨.ref a, rfl, a, _, 0, .int x, rfl, rfl, hS hf, atI_nat (j := 0) rfl, .int n, rfl, x, n, rfl, rfl, ⟨(by omega), (by omega)⟩, ?_⟩
      refine ⟨.ref a, rfl, a, _, _, 0, rfl, rfl, hf, rfl, ?_⟩
      refine ⟨_, rfl, ?_⟩
      show Q (.int (x.fmod n)) (upd H a (.lst [.int (x.fdiv n), .int y]))
      rw [Int.fmod_eq_emod_of_nonneg x (by omega), Int.fdiv_eq_ediv_of_nonneg x (by omega)]
      exact q (x % n) _ (Int.emod_nonneg x (by omega)) (Int.emod_lt_of_pos x hn0) Kp.put (Fd.put (Int.ediv_nonneg hx (by omega)) hy)
    · refine ⟨.ref a, rfl, a, _, 1, .int y, rfl, rfl, hS hf, atI_nat (j := 1) rfl, y, 48271, rfl, rfl, .inr ⟨by decide, by decide⟩, _, 11, rfl, rfl, _, 2147483647, rfl, rfl, (by show (0 : Int) < 2147483647; decide), ?_⟩
      refine ⟨.ref a, rfl, a, _, _, 1, rfl, rfl, hf, rfl, ?_⟩
      have hm := Int.emod_nonneg (y * 48271 + 11) (show (2147483647 : Int) ≠ 0 by decide)
      refine ⟨.ref a, rfl, a, [.int x, .int ((y * 48271 + 11) % 2147483647)], 1, .int ((y * 48271 + 11) % 2147483647), rfl, rfl, hS upd_same, atI_nat (j := 1) rfl, (y * 48271 + 11) % 2147483647, 127, rfl, rfl, ⟨by decide, by decide⟩, ?_⟩
      refine ⟨.int n, rfl, _, n, rfl, rfl, (by show n ≠ 0; omega), ?_⟩
      show Q (.int (((y * 48271 + 11) % 2147483647 / 127).fmod n)) (upd H a (.lst [.int x, .int ((y * 48271 + 11) % 2147483647)]))
      rw [Int.fmod_eq_emod_of_nonneg _ (by omega)]
      exact q _ _ (Int.emod_nonneg _ (by omega)) (Int.emod_lt_of_pos _ hn0) Kp.put (Fd.put hx hm)
theorem scPick : FnScope ["_law_feed", "_law_items"] ["_law_feed", "_law_items"] (defScope lPick) := ⟨rfl, rfl, rfl, by decide +kernel, rfl, by decide +kernel, by decide +kernel⟩
theorem okPick {k : Nat} (F : FnP K "_law_pick" lPick f fd) (ml : mg "len" = none) (D : Has P w K mg base (k + 1) "_law_draw" ["_law_feed", "_law_many"] spDraw) : FnOk P w K mg base CX0 (k + 2) f fd ["_law_feed", "_law_items"] (spPick K) := by
  obtain ⟨fD, fdD, gD, kD, bD, GD⟩ := D.ex
  refine F.ok scPick (fun vs H Q E h => ?_) (fun cdv A outer s H vs Q E hr h => ?_)
  · obtain ⟨a, l, xs, rfl, _⟩ := h
    rfl
  · obtain ⟨a, l, xs, rfl, hF, hL, ne, h0, h1, q⟩ := h
    refine ⟨_, PSs.nox (pss_one (ps_ret (pe_ix ix_list (pv 1) (pe_call GD hr (by rfl) gD kD bD .nil pass0 (pa_cons (pv 0) (pa_cons (pe_callB call_len_seq (by rfl) ml PySem.boot_len (pa_cons (pv 1) pa_nil)) pa_nil))) (fun _ _ => rfl)))), ?_⟩
    refine ⟨.ref l, rfl, .ref a, rfl, .ref l, rfl, l, xs, rfl, .inl hL, ?_⟩
    refine ⟨a, (xs.length : Int), rfl, hF, by omega, by omega, fun r H' r0 r1 kp fd' => ?_⟩
    obtain ⟨j, rfl⟩ : ∃ j : Nat, r = (j : Int) := ⟨r.toNat, by omega⟩
    have hj : j < xs.length := by omega
    have hv : xs[j]? = some xs[j] := List.getElem?_eq_getElem hj
    have hL' : SqL K H' l xs := by
      rcases hL with (h | ⟨o, h⟩) | h
      · exact .inl (.inl (kp _ _ ne h))
      · exact .inl (.inr ⟨o, kp _ _ ne h⟩)
      · exact .inr h
    exact ⟨l, xs, _, _, rfl, rfl, hL', atI_nat hv, q j _ H' hv kp fd'⟩
theorem scCalls : FnScope [] [] (defScope lCalls) := ⟨rfl, rfl, rfl, by decide +kernel, rfl, by decide +kernel, by decide +kernel⟩
theorem okCalls {k : Nat} (F : FnP K "_law_calls" lCalls f fd) : FnOk P w K mg base CX0 (k + 1) f fd [] spCalls := by
  refine F.ok scCalls (fun vs H Q E h => ?_) (fun cdv A outer s H vs Q E hr h => ?_)
  · obtain ⟨rfl, _⟩ := h
    rfl
  · obtain ⟨rfl, q⟩ := h
    refine ⟨_, PSs.nox (pss_one (ps_ret (pe_lst (pa_cons pe_str (pa_cons pe_str (pa_cons pe_str (pa_cons pe_str pa_nil))))))), ?_⟩
    exact ⟨(by show 4 ≤ sizeLine; decide), fun p hp => q p hp⟩
/-- z * n, z one sign -/
def rRepX : R2 := fun x y H Q => ∃ (z : Str) (n : Int), x = .str z ∧ y = .int n ∧ z.length = 1 ∧ 0 ≤ n ∧ n ≤ 1000 ∧ Q (.str (Txt.mul z n)) H
theorem opRepX {X : Cx} : OpR X (binaryOp .Mult) rRepX := by
  intro pins s σ H x y v u Q I rx ry h
  obtain ⟨z, n, rfl, rfl, hz, h0, h1, q⟩ := h
  obtain ⟨t, rfl⟩ := rx
  obtain ⟨t', rfl⟩ := ry
  refine SB.mul ⟨?_, fun g _ => ?_, fun _ _ => ?_⟩ fun t2 k => ⟨.str (Txt.mul z n), H, I.tok k, ⟨t2, rfl⟩, q⟩
  · simp
    omega
  · rw [hz]
    have hn : 0 < n := by omega
    have hle : (1 : Int) ≤ (2 ^ 63 - 1) / n := by
      rw [Int.le_ediv_iff_mul_le hn]
      omega
    show ¬ ((1 : Nat) : Int) > (2 ^ 63 - 1) / n
    omega
  · rw [hz]
    unfold Builtin.Str.tooLong
    rw [decide_eq_false_iff_not, sizeLine_eq]
    omega
theorem scTxt : FnScope ["_law_feed", "_law_some"] ["_law_feed"] (defScope lText) := ⟨rfl, rfl, rfl, by decide +kernel, rfl, by decide +kernel, by decide +kernel⟩
theorem okTxt {k : Nat} (F : FnP K "_law_text" lText f fd) (D : Has P w K mg base (k + 1) "_law_draw" ["_law_feed", "_law_many"] spDraw) (Pk : Has P w K mg base (k + 2) "_law_pick" ["_law_feed", "_law_items"] (spPick K))
    (Ca : Has P w K mg base (k + 1) "_law_calls" [] spCalls) : FnOk P w K mg base CX0 (k + 3) f fd ["_law_feed"] spText := by
  obtain ⟨fD, fdD, gD, kD, bD, GD⟩ := D.ex
  obtain ⟨fP, fdP, gP, kP, bP, GP⟩ := Pk.ex
  obtain ⟨fC, fdC, gC, kC, bC, GC⟩ := Ca.ex
  refine F.ok scTxt (fun vs H Q E h => ?_) (fun cdv A outer s H vs Q E hr h => ?_)
  · obtain ⟨a, rfl, _⟩ := h
    rfl
  · obtain ⟨a, rfl, hF, q⟩ := h
    have hr1 : Room (k + 1) _ := hr.mono (by omega)
    refine ⟨_, PSs.nox (pss_cons (ps_set (i := 1) scTxt.nd rfl (.inl rfl) (pe_lst (pa_cons (pe_str) (pa_cons (pe_str) (pa_cons (pe_str) (pa_cons (pe_str) (pa_cons (pe_str) (pa_cons (pe_str) (pa_cons (pe_str) (pa_cons (pe_str) (pa_cons (pe_str) (pa_cons (pe_op opRepX pe_str (pe_op op_add pe_int (pe_call GD hr1 (by rfl) gD kD bD .nil pass0 (pa_cons (pv 0) (pa_cons (pe_int) pa_nil))))) pa_nil)))))))))))) (pss_one (ps_ret (pe_call GP hr (by rfl) gP kP bP .nil pass0 (pa_cons (pv 0) (pa_cons (pe_op op_cat (pv 1) (pe_slice sl_list (pe_call0 GC hr1 (by rfl) gC kC bC .nil pass0) po_none (po_some (pe_op op_add pe_int (pe_call GD hr1 (by rfl) gD kD bD .nil pass0 (pa_cons (pv 0) (pa_cons (pe_int) pa_nil))))))) pa_nil)))))), ?_⟩
    have neF : ∀ {H : Hp} {p : Addr}, Fd H a → H p = none → p ≠ a := fun ⟨x, y, e, _⟩ hp z => by
      rw [z, e] at hp
      cases hp
    refine ⟨.ref a, rfl, a, 40, rfl, hF, by decide, by decide, fun r H1 r0 r1 k1 F1 => ⟨1, r, rfl, rfl, _, 1 + r, rfl, rfl, rfl, by omega, by omega, (by show 10 ≤ sizeLine; decide), fun p hp => ?_⟩⟩
    have ep : (upd H1 p (.lst ([.str "0", .str "1", .str "0", .str "1", .str "", .str "10", .str " ", .str "a b", .str "None", .str (Txt.mul "x" (1 + r))] : List V))) p = some (.lst [.str "0", .str "1", .str "0", .str "1", .str "", .str "10", .str " ", .str "a b", .str "None", .str (Txt.mul "x" (1 + r))]) := upd_same
    have np := neF F1 hp
    have F2 := F1.new (o := .lst ([.str "0", .str "1", .str "0", .str "1", .str "", .str "10", .str " ", .str "a b", .str "None", .str (Txt.mul "x" (1 + r))] : List V)) hp
    have k2 := k1.trans (Kp.new (o := .lst ([.str "0", .str "1", .str "0", .str "1", .str "", .str "10", .str " ", .str "a b", .str "None", .str (Txt.mul "x" (1 + r))] : List V)) hp)
    have good : ∀ v ∈ ([.str "0", .str "1", .str "0", .str "1", .str "", .str "10", .str " ", .str "a b", .str "None", .str (Txt.mul "x" (1 + r)), .str "make", .str "", .str "r 2", .str "Mend!"] : List V), ∃ z, v = .str z ∧ TOk z := fun v hv => by
      simp only [List.mem_cons, List.not_mem_nil, or_false] at hv
      rcases hv with rfl | rfl | rfl | rfl | rfl | rfl | rfl | rfl | rfl | rfl | rfl | rfl | rfl | rfl
      all_goals first
        | exact ⟨_, rfl, by decide +kernel⟩
        | exact ⟨_, rfl, tokMul (by show SOk _; unfold SOk; decide +kernel) rfl (by omega)⟩
    refine ⟨.ref a, rfl, .ref p, rfl, rfl, fun pc hpc => ?_⟩
    have nc := neF F2 hpc
    have ncp : pc ≠ p := fun z => by rw [z, ep] at hpc; cases hpc
    refine ⟨.ref a, rfl, a, 4, rfl, F2.new hpc, by decide, by decide, fun r2 H4 r20 r21 k4 F4 => ⟨1, r2, rfl, rfl, 1 + r2, rfl, pc, _, rfl, .inl (.inl (k4 _ _ nc upd_same)), fun p2 hp2 => ?_⟩⟩
    have ep4 : H4 p = some _ := k4 _ _ np (KS.sameUpd hpc _ _ ep)
    have n2p : p2 ≠ p := fun z => by rw [z, ep4] at hp2; cases hp2
    have lc := cutV_length ([.str "make", .str "", .str "r 2", .str "Mend!"] : List V) none (some (1 + r2))
    refine ⟨p, p2, _, _, rfl, rfl, KS.sameUpd hp2 _ _ ep4, upd_same, ?_, fun p3 hp3 => ?_⟩
    · rw [sizeLine_eq]
      have : ([.str "make", .str "", .str "r 2", .str "Mend!"] : List V).length = 4 := rfl
      show 10 + _ ≤ _
      omega
    have F5 := F4.new (o := .lst (cutV ([.str "make", .str "", .str "r 2", .str "Mend!"] : List V) none (some (1 + r2)))) hp2
    refine ⟨a, p3, _, rfl, F5.new hp3, .inl (.inl upd_same), neF F5 hp3, ?_, ?_, fun i v H6 hv k6 F6 => ?_⟩
    · rw [List.length_append]
      show 0 < 10 + _
      omega
    · rw [List.length_append]
      have : ([.str "make", .str "", .str "r 2", .str "Mend!"] : List V).length = 4 := rfl
      show 10 + _ < 1000
      omega
    · obtain ⟨z, rfl, tz⟩ := good v (by
        rcases List.mem_append.mp (List.mem_of_getElem? hv) with h | h
        · exact List.mem_append_left [.str "make", .str "", .str "r 2", .str "Mend!"] h
        · exact List.mem_append_right [.str "0", .str "1", .str "0", .str "1", .str "", .str "10", .str " ", .str "a b", .str "None", .str (Txt.mul "x" (1 + r))] (List.mem_of_mem_drop (List.mem_of_mem_take h)))
      exact q z H6 tz (((((k2.trans (Kp.new hpc)).trans k4).trans (Kp.new hp2)).trans (Kp.new hp3)).trans k6) F6
end
/-! ### values that are alike -/
inductive Fl : V → String → Prop
  | non : Fl .non "NoneType"
  | bl (b : Bool) : Fl (.bl b) "bool"
  | int (i : Int) : Fl (.int i) "int"
  | str (z : Str) : Fl (.str z) "str"
section
variable {K : PySem.W.Frag} {H : Hp}
theorem Fl.tyX {v : V} {t : String} (h : Fl v t) : TyX K H v (.type t) := by
  cases h
  · exact .base .non
  · exact .base (.bl _)
  · exact .base (.int _)
  · exact .base (.str _)
theorem Fl.noSeq {v : V} {t : String} (h : Fl v t) : PySem.W.kitAny K (.type t) [.type "list", .type "tuple"] = some false := by
  cases h <;> exact kitAny_cons (b := false) (kit_ty (by decide +kernel)) (fun _ => kitAny_cons (b := false) (kit_ty (by decide +kernel)) (fun _ => kitAny_nil) (fun z => z)) (fun z => z)
theorem Fl.kit {v : V} {t : String} (h : Fl v t) (c : String) (hc : c = "bool" ∨ c = "int" ∨ c = "str") : ∃ b, PySem.W.kitOne K (.type t) (.type c) = some b := by
  rcases hc with rfl | rfl | rfl <;> cases h <;> first | exact ⟨true, kit_ty (by decide +kernel)⟩ | exact ⟨false, kit_ty (by decide +kernel)⟩
theorem Fl.scal {v : V} {t : String} (h : Fl v t) : L2.scal v v = true := by
  cases h <;> rfl
theorem kitSeqL : PySem.W.kitAny K (.type "list") [.type "list", .type "tuple"] = some true := kitAny_cons (b := true) (kit_ty (by decide +kernel)) (fun z => by cases z) (fun _ => rfl)
theorem kitSeqT : PySem.W.kitAny K (.type "tuple") [.type "list", .type "tuple"] = some true := kitAny_cons (b := false) (kit_ty (by decide +kernel)) (fun _ => kitAny_cons (b := true) (kit_ty (by decide +kernel)) (fun z => by cases z) (fun _ => rfl)) (fun _ => rfl)
theorem SqL.tyX {a : Addr} {xs : List V} (h : SqL K H a xs) : TyX K H (.ref a) (.type "list") := by
  rcases h with (h | ⟨o, h⟩) | ⟨o, its, n, h, c, _⟩
  · exact .base (.lst h)
  · exact .base (.frz h)
  · exact .kList h c
theorem SqT.tyX {a : Addr} {xs : List V} (h : SqT K H a xs) : TyX K H (.ref a) (.type "tuple") := by
  rcases h with (h | ⟨o, h⟩) | ⟨o, its, n, h, c, _⟩
  · exact .base (.tup h)
  · exact .fTuple h
  · exact .kTuple h c
end
/-- alike down to the depth n -/
inductive Sv (K : PySem.W.Frag) (H : Hp) : Nat → V → V → Prop
  | flat {n : Nat} {v : V} {t : String} (h : Fl v t) : Sv K H n v v
  | lst {n : Nat} {a b : Addr} {xs ys : List V} (ha : SqL K H a xs) (hb : SqL K H b ys) (hl : xs.length = ys.length) (hz : xs.length ≤ 1000) (h : ∀ (i : Nat) v w, xs[i]? = some v → ys[i]? = some w → Sv K H n v w) : Sv K H (n + 1) (.ref a) (.ref b)
  | tup {n : Nat} {a b : Addr} {xs ys : List V} (ha : SqT K H a xs) (hb : SqT K H b ys) (hl : xs.length = ys.length) (hz : xs.length ≤ 1000) (h : ∀ (i : Nat) v w, xs[i]? = some v → ys[i]? = some w → Sv K H n v w) : Sv K H (n + 1) (.ref a) (.ref b)
  | dct {n : Nat} {a b : Addr} {ka kb : List (Key × V)} (ha : H a = some (.dK ka)) (hb : H b = some (.dK kb)) (hl : ka.length = kb.length) (h : ∀ p ∈ ka, ∃ z, p.2 = .str z ∧ valV kb p.1 = some p.2) : Sv K H n (.ref a) (.ref b)
theorem Sv.same {K : PySem.W.Frag} {H H' : Hp} (e : Same H H') {n : Nat} {v w : V} (h : Sv K H n v w) : Sv K H' n v w := by
  induction h with
  | flat h => exact .flat h
  | lst ha hb hl hz _ ih => exact .lst (e.seq ha) (e.seq hb) hl hz ih
  | tup ha hb hl hz _ ih => exact .tup (sameTup e ha) (sameTup e hb) hl hz ih
  | dct ha hb hl h => exact .dct (e _ _ ha) (e _ _ hb) hl h
theorem dctEb {K : PySem.W.Frag} {H : Hp} {ka kb : List (Key × V)} (h : ∀ p ∈ ka, ∃ z, p.2 = .str z ∧ valV kb p.1 = some p.2) : ∀ k v u, (k, v) ∈ ka → valV kb k = some u → DB.Eb K H 0 v u true := fun k v u hm hv => by
  obtain ⟨z, e, e2⟩ := h _ hm
  rw [hv] at e2
  have e3 := Option.some.inj e2
  have e4 : v = .str z := e
  have e5 : u = v := e3
  subst e5
  subst e4
  exact .inl ⟨rfl, rfl, (by show true = (z == z); simp)⟩
theorem dctAll {ka kb : List (Key × V)} (hl : ka.length = kb.length) (h : ∀ p ∈ ka, ∃ z, p.2 = .str z ∧ valV kb p.1 = some p.2) : (ka.length == kb.length && ka.all fun p => (valV kb p.1).isSome && true) = true := by
  rw [hl]
  simp only [beq_self_eq_true, Bool.true_and, Bool.and_true, List.all_eq_true]
  intro p hp
  obtain ⟨z, _, e⟩ := h p hp
  rw [e]
  rfl
theorem kitDct {K : PySem.W.Frag} : PySem.W.kitAny K (.type "dict") [.type "list", .type "tuple"] = some false := kitAny_cons (b := false) (kit_ty (by decide +kernel)) (fun _ => kitAny_cons (b := false) (kit_ty (by decide +kernel)) (fun _ => kitAny_nil) (fun z => z)) (fun z => z)
theorem tyDct {K : PySem.W.Frag} {H : Hp} {a : Addr} {ka : List (Key × V)} (h : H a = some (.dK ka)) : TyX K H (.ref a) (.type "dict") := .base (.dK h)
end KS.La

set_option Elab.async false
set_option linter.all false
set_option maxRecDepth 100000
set_option maxHeartbeats 4000000
/-! targets and tables of targets -/
namespace PJ
open PySem PySem.Spec PyProof.Rows L2 KS KS.La
abbrev Outs := List (Str × Str)
def kvO (p : Str × Str) : Key × V := (.inr p.1, .str p.2)
def oK (os : Outs) : List (Key × V) := os.map kvO
inductive Rc where
  | txt (z : Str)
  | key (a b : Str)
def rcD : Rc → PyData
  | .txt z => .str z
  | .key a b => .tuple [.str a, .str b]
def argsD (as : List Str) : PyData := .tuple (as.map .str)
inductive Tg where
  | src (os : Outs)
  | mad (r : Rc) (as : List Str)
abbrev Tb := List (Str × Tg)
def tLook (T : Tb) (k : Str) : Option Tg := (T.find? fun p => decide (p.1 = k)).map (·.2)
def tPut (T : Tb) (k : Str) (t : Tg) : Tb := if (T.any fun p => decide (p.1 = k)) = true then T.map (fun p => if p.1 = k then (p.1, t) else p) else T ++ [(k, t)]
def tDrop (T : Tb) (k : Str) : Tb := T.filter fun p => decide (p.1 ≠ k)
def oPut (os : Outs) (k : Str) (z : Str) : Outs := if (os.any fun p => decide (p.1 = k)) = true then os.map (fun p => if p.1 = k then (p.1, z) else p) else os ++ [(k, z)]
def oDrop (os : Outs) (k : Str) : Outs := os.filter fun p => decide (p.1 ≠ k)
/-! ### outputs -/
theorem oK_any (k : Str) : ∀ (os : Outs), ((oK os).any fun kv => decide (kv.1 = (.inr k : Key))) = os.any fun p => decide (p.1 = k)
  | [] => rfl
  | p :: os => by
    show (decide ((.inr p.1 : Key) = .inr k) || _) = (decide (p.1 = k) || _)
    have ih := oK_any k os
    unfold oK at ih
    rw [ih]
    congr 1
    exact decide_eq_decide.mpr ⟨fun h => Sum.inr.inj h, fun h => by rw [h]⟩
theorem oK_put (os : Outs) (k z : Str) : putK (oK os) (.inr k) (.str z) = oK (oPut os k z) := by
  unfold putK oPut
  rw [oK_any]
  split
  · unfold oK
    rw [List.map_map, List.map_map]
    refine List.map_congr_left fun p _ => ?_
    by_cases e : p.1 = k
    · show (if (.inr p.1 : Key) = .inr k then ((.inr p.1 : Key), V.str z) else kvO p) = kvO (if p.1 = k then (p.1, z) else p)
      rw [if_pos e, if_pos (by rw [e])]
      rfl
    · show (if (.inr p.1 : Key) = .inr k then ((.inr p.1 : Key), V.str z) else kvO p) = kvO (if p.1 = k then (p.1, z) else p)
      rw [if_neg e, if_neg fun h => e (Sum.inr.inj h)]
  · unfold oK
    rw [List.map_append]
    rfl
theorem oK_drop (os : Outs) (k : Str) : dropK (oK os) (.inr k) = oK (oDrop os k) := by
  unfold dropK oK oDrop
  rw [List.filter_map]
  congr 1
  refine List.filter_congr fun p _ => ?_
  show decide ((.inr p.1 : Key) ≠ .inr k) = decide (p.1 ≠ k)
  exact decide_eq_decide.mpr ⟨fun h e => h (by rw [e]), fun h e => h (Sum.inr.inj e)⟩
theorem oK_len (os : Outs) : (oK os).length = os.length := List.length_map _
theorem oK_keys (os : Outs) : (oK os).map (·.1) = (os.map (·.1)).map Sum.inr := by
  unfold oK
  rw [List.map_map, List.map_map]
  rfl
theorem oK_str {os : Outs} : ∀ p ∈ oK os, ∃ z, p.2 = .str z := fun p hp => by
  obtain ⟨q, _, rfl⟩ := List.mem_map.mp hp
  exact ⟨q.2, rfl⟩
theorem oK_nd {os : Outs} (h : (os.map (·.1)).Nodup) : ((oK os).map (·.1)).Nodup := by
  rw [oK_keys, List.nodup_iff_pairwise_ne, List.pairwise_map]
  rw [List.nodup_iff_pairwise_ne] at h
  exact h.imp fun n e => n (Sum.inr.inj e)
theorem valMem : ∀ {ka : List (Key × V)}, (ka.map (·.1)).Nodup → ∀ {k : Key} {v : V}, (k, v) ∈ ka → valV ka k = some v
  | [], _, _, _, h => absurd h (by simp)
  | (k0, v0) :: r, nd, k, v, h => by
    rw [List.map_cons, List.nodup_cons] at nd
    rcases List.mem_cons.mp h with e | h
    · injection e with e1 e2
      subst e1 e2
      exact valV_pos (p := (k, v)) rfl
    · have ne : ¬ k0 = k := fun e => nd.1 (List.mem_map.mpr ⟨(k, v), h, e.symm⟩)
      rw [valV_neg (p := (k0, v0)) ne]
      exact valMem nd.2 h
/-! ### how tables compare -/
def eF (ka kb : List (Key × V)) (k : Key) : Bool := match valV ka k, valV kb k with
  | some v, some u => eqV v u
  | _, _ => false
def osE (os os' : Outs) : Bool := (oK os).length == (oK os').length && (oK os).all fun p => (valV (oK os') p.1).isSome && eF (oK os) (oK os') p.1
def tgE : Tg → Tg → Bool
  | .src os, .src os' => osE os os'
  | .mad r as, .mad r' as' => PyData.eqv (rcD r) (rcD r') && PyData.eqv (argsD as) (argsD as')
  | _, _ => false
def teF (T T' : Tb) (k : Str) : Bool := match tLook T k, tLook T' k with
  | some t, some t' => tgE t t'
  | _, _ => false
def tbE (T T' : Tb) : Bool := T.length == T'.length && T.all fun p => (tLook T' p.1).isSome && teF T T' p.1
theorem osE_refl {os : Outs} (nd : (os.map (·.1)).Nodup) : osE os os = true := by
  unfold osE
  rw [beq_self_eq_true, Bool.true_and, List.all_eq_true]
  intro p hp
  obtain ⟨z, ez⟩ := oK_str p hp
  have hv : valV (oK os) p.1 = some p.2 := valMem (oK_nd nd) hp
  unfold eF
  rw [hv, ez]
  show (true && (z == z)) = true
  simp
/-! ### a table of things -/
inductive Tab (R : V → Tg → Prop) : List (Key × V) → Tb → Prop
  | nil : Tab R [] []
  | cons {k : Str} {v : V} {t : Tg} {kvs : List (Key × V)} {T : Tb} (h : R v t) (r : Tab R kvs T) : Tab R ((.inr k, v) :: kvs) ((k, t) :: T)
section
variable {R R' : V → Tg → Prop} {kvs : List (Key × V)} {T : Tb}
theorem Tab.len (h : Tab R kvs T) : kvs.length = T.length := by
  induction h with
  | nil => rfl
  | cons _ _ ih => rw [List.length_cons, List.length_cons, ih]
theorem Tab.keys (h : Tab R kvs T) : kvs.map (·.1) = (T.map (·.1)).map Sum.inr := by
  induction h with
  | nil => rfl
  | cons _ _ ih => rw [List.map_cons, List.map_cons, List.map_cons, ih]
theorem Tab.imp (h : Tab R kvs T) (i : ∀ k v t, (.inr k, v) ∈ kvs → (k, t) ∈ T → R v t → R' v t) : Tab R' kvs T := by
  induction h with
  | nil => exact .nil
  | cons h r ih => exact .cons (i _ _ _ List.mem_cons_self List.mem_cons_self h) (ih fun k v t a b => i k v t (List.mem_cons_of_mem _ a) (List.mem_cons_of_mem _ b))
theorem Tab.look (h : Tab R kvs T) (k : Str) : (valV kvs (.inr k) = none ∧ tLook T k = none) ∨ ∃ v t, valV kvs (.inr k) = some v ∧ tLook T k = some t ∧ R v t := by
  induction h with
  | nil => exact .inl ⟨rfl, rfl⟩
  | @cons k0 v t kvs T h r ih =>
    by_cases e : k0 = k
    · subst e
      exact .inr ⟨v, t, valV_pos (p := ((Sum.inr k0 : Key), v)) rfl, by simp [tLook], h⟩
    · rw [valV_neg (p := ((Sum.inr k0 : Key), v)) fun q => e (Sum.inr.inj q)]
      have : tLook ((k0, t) :: T) k = tLook T k := by simp [tLook, e]
      rw [this]
      exact ih
theorem Tab.any (h : Tab R kvs T) (k : Str) : (kvs.any fun kv => decide (kv.1 = (.inr k : Key))) = T.any fun p => decide (p.1 = k) := by
  induction h with
  | nil => rfl
  | @cons k0 v t kvs T h r ih =>
    rw [List.any_cons, List.any_cons, ih]
    congr 1
    exact decide_eq_decide.mpr ⟨fun h => Sum.inr.inj h, fun (h : k0 = k) => congrArg Sum.inr h⟩
theorem Tab.append {k : Str} {v : V} {t : Tg} (h : Tab R kvs T) (hv : R v t) : Tab R (kvs ++ [(.inr k, v)]) (T ++ [(k, t)]) := by
  induction h with
  | nil => exact .cons hv .nil
  | cons h r ih => exact .cons h ih
theorem Tab.set {k : Str} {v : V} {t : Tg} (h : Tab R kvs T) (hv : R v t) : Tab R (kvs.map fun kv => if kv.1 = (.inr k : Key) then (kv.1, v) else kv) (T.map fun p => if p.1 = k then (p.1, t) else p) := by
  induction h with
  | nil => exact .nil
  | @cons k0 v0 t0 kvs T h r ih =>
    rw [List.map_cons, List.map_cons]
    by_cases e : k0 = k
    · rw [if_pos (by rw [e]), if_pos e]
      exact .cons hv ih
    · rw [if_neg fun q => e (Sum.inr.inj q), if_neg e]
      exact .cons h ih
theorem Tab.put {k : Str} {v : V} {t : Tg} (h : Tab R kvs T) (hv : R v t) : Tab R (putK kvs (.inr k) v) (tPut T k t) := by
  unfold putK tPut
  rw [h.any k]
  split
  · exact h.set hv
  · exact h.append hv
theorem Tab.drop (k : Str) (h : Tab R kvs T) : Tab R (dropK kvs (.inr k)) (tDrop T k) := by
  unfold dropK tDrop
  induction h with
  | nil => exact .nil
  | @cons k0 v0 t0 kvs T h r ih =>
    rw [List.filter_cons, List.filter_cons]
    by_cases e : k0 = k
    · rw [if_neg (by simp [e]), if_neg (by simp [e])]
      exact ih
    · rw [if_pos (by simpa using e), if_pos (by simpa using e)]
      exact .cons h ih
theorem Tab.mem (h : Tab R kvs T) : ∀ k v, (k, v) ∈ kvs → ∃ z t, k = .inr z ∧ (z, t) ∈ T ∧ R v t := by
  induction h with
  | nil => exact fun k v h => absurd h (by simp)
  | cons h r ih =>
    intro k v hm
    rcases List.mem_cons.mp hm with e | hm
    · injection e with e1 e2
      subst e1 e2
      exact ⟨_, _, rfl, List.mem_cons_self, h⟩
    · obtain ⟨z, t, a, b, c⟩ := ih k v hm
      exact ⟨z, t, a, List.mem_cons_of_mem _ b, c⟩
end
theorem keysInj {T : Tb} (h : (T.map (·.1)).Nodup) : ((T.map (·.1)).map (Sum.inr : Str → Key)).Nodup := by
  rw [List.nodup_iff_pairwise_ne, List.pairwise_map]
  rw [List.nodup_iff_pairwise_ne] at h
  exact h.imp fun n e => n (Sum.inr.inj e)
theorem Tab.nd {R : V → Tg → Prop} {kvs : List (Key × V)} {T : Tb} (h : Tab R kvs T) (nd : (T.map (·.1)).Nodup) : (kvs.map (·.1)).Nodup := by
  rw [h.keys]
  exact keysInj nd
theorem tMem {T : Tb} (nd : (T.map (·.1)).Nodup) {k : Str} {t : Tg} (h : (k, t) ∈ T) : tLook T k = some t := by
  induction T with
  | nil => exact absurd h (by simp)
  | cons p T ih =>
    obtain ⟨k0, t0⟩ := p
    rw [List.map_cons, List.nodup_cons] at nd
    rcases List.mem_cons.mp h with e | h
    · injection e with e1 e2
      subst e1 e2
      simp [tLook]
    · have ne : ¬ k0 = k := fun e => nd.1 (List.mem_map.mpr ⟨(k, t), h, e.symm⟩)
      have : tLook ((k0, t0) :: T) k = tLook T k := by simp [tLook, ne]
      rw [this]
      exact ih nd.2 h
/-- two tables of like things compare as their targets do -/
theorem tabAll {R R' : V → Tg → Prop} {kvs ls : List (Key × V)} {T T' : Tb} (h : Tab R kvs T) (h' : Tab R' ls T') (e : Key → Bool) (he : ∀ k, e (.inr k) = teF T T' k) : (kvs.length == ls.length && kvs.all fun p => (valV ls p.1).isSome && e p.1) = tbE T T' := by
  unfold tbE
  rw [h.len, h'.len]
  congr 1
  have : ∀ {ks : List (Key × V)} {S : Tb}, Tab R ks S → (ks.all fun p => (valV ls p.1).isSome && e p.1) = S.all fun p => (tLook T' p.1).isSome && teF T T' p.1 := fun {ks S} g => by
    induction g with
    | nil => rfl
    | @cons k0 v t ks S _ _ ih =>
      rw [List.all_cons, List.all_cons, ih, he]
      congr 2
      rcases h'.look k0 with ⟨a, b⟩ | ⟨_, _, a, b, _⟩ <;> rw [a, b] <;> rfl
  exact this h
/-! ### where a target stands: the program's, the law's -/
def RcIn (H : Hp) (v : V) : Rc → Prop
  | .txt z => v = .str z ∧ TOk z
  | .key a b => (∃ t, v = .ref t ∧ H t = some (.tup [.str a, .str b])) ∧ TOk a ∧ TOk b
def AsIn (H : Hp) (v : V) (as : List Str) : Prop := ∃ t, v = .ref t ∧ H t = some (.tup (as.map .str)) ∧ as.length ≤ 100 ∧ ∀ z ∈ as, TOk z
def OsIn (H : Hp) (d : Addr) (os : Outs) : Prop := H d = some (.dK (oK os)) ∧ (os.map (·.1)).Nodup ∧ os.length ≤ 100
def TgAt (CS CM : Addr) (H : Hp) (v : V) : Tg → Prop
  | .src os => ∃ x dx d, v = .ref x ∧ H x = some (.ins CS dx [("_outputs", .ref d)]) ∧ OsIn H d os
  | .mad r as => ∃ x dx vr va, v = .ref x ∧ H x = some (.ins CM dx [("_recipe", vr), ("_arguments", va)]) ∧ RcIn H vr r ∧ AsIn H va as
def ToAt (H : Hp) (v : V) : Tg → Prop
  | .src os => ∃ t d, v = .ref t ∧ H t = some (.tup [.str "source", .ref d]) ∧ OsIn H d os
  | .mad r as => ∃ t vr va, v = .ref t ∧ H t = some (.tup [.str "made", vr, va]) ∧ RcIn H vr r ∧ AsIn H va as
/-- all but lists stands -/
def Stl (H H' : Hp) : Prop := ∀ b o, H b = some o → (∀ xs, o ≠ .lst xs) → H' b = some o
theorem Stl.refl (H : Hp) : Stl H H := fun _ _ e _ => e
theorem Stl.trans {H H1 H2 : Hp} (a : Stl H H1) (b : Stl H1 H2) : Stl H H2 := fun x o e t => b x o (a x o e t) t
theorem Stl.same {H H' : Hp} (s : Same H H') : Stl H H' := fun a o e _ => s a o e
theorem Stl.lst {H H' : Hp} {a : Addr} {xs : List V} (h : H a = some (.lst xs)) (k : Kp a H H') : Stl H H' := fun b o e t => by
  refine k b o (fun z => ?_) e
  subst z
  exact t xs (Option.some.inj (h.symm.trans e)).symm
theorem Stl.fd {H H' : Hp} {a : Addr} (h : Fd H a) (k : Kp a H H') : Stl H H' := by
  obtain ⟨x, y, e, _⟩ := h
  exact Stl.lst e k
theorem RcIn.stl {H H' : Hp} {v : V} {r : Rc} (h : RcIn H v r) (s : Stl H H') : RcIn H' v r := by
  cases r with
  | txt z => exact h
  | key a b => exact ⟨let ⟨t, e, h⟩ := h.1; ⟨t, e, s _ _ h (fun _ z => nomatch z)⟩, h.2⟩
theorem AsIn.stl {H H' : Hp} {v : V} {as : List Str} (h : AsIn H v as) (s : Stl H H') : AsIn H' v as := let ⟨t, e, h, z⟩ := h; ⟨t, e, s _ _ h (fun _ z => nomatch z), z⟩
theorem OsIn.stl {H H' : Hp} {d : Addr} {os : Outs} (h : OsIn H d os) (s : Stl H H') : OsIn H' d os := ⟨s _ _ h.1 (fun _ z => nomatch z), h.2⟩
theorem TgAt.stl {CS CM : Addr} {H H' : Hp} {v : V} {t : Tg} (h : TgAt CS CM H v t) (s : Stl H H') : TgAt CS CM H' v t := by
  cases t with
  | src os => obtain ⟨x, dx, d, e, h1, h2⟩ := h; exact ⟨x, dx, d, e, s _ _ h1 (fun _ z => nomatch z), h2.stl s⟩
  | mad r as => obtain ⟨x, dx, vr, va, e, h1, h2, h3⟩ := h; exact ⟨x, dx, vr, va, e, s _ _ h1 (fun _ z => nomatch z), h2.stl s, h3.stl s⟩
theorem ToAt.stl {H H' : Hp} {v : V} {t : Tg} (h : ToAt H v t) (s : Stl H H') : ToAt H' v t := by
  cases t with
  | src os => obtain ⟨x, d, e, h1, h2⟩ := h; exact ⟨x, d, e, s _ _ h1 (fun _ z => nomatch z), h2.stl s⟩
  | mad r as => obtain ⟨x, vr, va, e, h1, h2, h3⟩ := h; exact ⟨x, vr, va, e, s _ _ h1 (fun _ z => nomatch z), h2.stl s, h3.stl s⟩
theorem Tab.tg {CS CM : Addr} {H H' : Hp} {kvs : List (Key × V)} {T : Tb} (h : Tab (TgAt CS CM H) kvs T) (s : Stl H H') : Tab (TgAt CS CM H') kvs T := h.imp fun _ _ _ _ _ h => h.stl s
theorem Tab.to {H H' : Hp} {kvs : List (Key × V)} {T : Tb} (h : Tab (ToAt H) kvs T) (s : Stl H H') : Tab (ToAt H') kvs T := h.imp fun _ _ _ _ _ h => h.stl s
def rOd (z : Str) (h : TOk z) : Od 0 (.str z) := .str _ h.1 (by have := h.2; omega)
theorem RcIn.dp {K : PySem.W.Frag} {H : Hp} {v : V} {r : Rc} (h : RcIn H v r) : Dp K H v (rcD r) ∧ SeqAt.shaped (rcD r) = true := by
  cases r with
  | txt z =>
    obtain ⟨rfl, hz⟩ := h
    exact ⟨.str z, (rOd z hz).shaped (by decide)⟩
  | key a b =>
    obtain ⟨⟨t, rfl, h⟩, ha, hb⟩ := h
    refine ⟨.tup (.inl (.inl h)) (.cons (.str a) (.cons (.str b) .nil)), (Od.tup (n := 0) (by show 2 ≤ 100; decide) fun d hd => ?_).shaped (by decide)⟩
    simp only [List.mem_cons, List.not_mem_nil, or_false] at hd
    rcases hd with rfl | rfl
    · exact rOd _ ha
    · exact rOd _ hb
theorem dpStrs {K : PySem.W.Frag} {H : Hp} : ∀ (as : List Str), DpAll K H (as.map .str) (as.map .str)
  | [] => .nil
  | z :: as => .cons (.str z) (dpStrs as)
theorem argsShaped {as : List Str} (hl : as.length ≤ 100) (h : ∀ z ∈ as, TOk z) : SeqAt.shaped (argsD as) = true := by
  refine (Od.tup (n := 0) (by rw [List.length_map]; exact hl) fun d hd => ?_).shaped (by decide)
  obtain ⟨z, hz, rfl⟩ := List.mem_map.mp hd
  exact rOd z (h z hz)
theorem AsIn.dp {K : PySem.W.Frag} {H : Hp} {v : V} {as : List Str} (h : AsIn H v as) : Dp K H v (argsD as) ∧ SeqAt.shaped (argsD as) = true := by
  obtain ⟨t, rfl, h, hl, hz⟩ := h
  exact ⟨.tup (.inl (.inl h)) (dpStrs as), argsShaped hl hz⟩
end PJ

set_option Elab.async false
set_option linter.all false
set_option maxRecDepth 100000
set_option maxHeartbeats 4000000
/-! o[k], o.m(..) where it may raise; x != y by an own __eq__ -/
namespace OD
open PySem PySem.Spec PyProof.Rows L2
section
variable {X : Cx} {CX : CXT} {k : Nat} {C f : Addr} {fd : FuncData} {ps : List Str} {sp : Sp} {E : L2.St → XK} {o e i : Expr} {es : List Expr} {ta tb : TE} {t : TA} {pos apos : Pos} {m : Str}
/-- o[i] -/
def tIxO (C : Addr) (sp : Sp) (E : L2.St → XK) (ta tb : TE) : TE := fun σ H Q => ta σ H fun x H1 => tb σ H1 fun y H2 => ∃ a dx fs, x = .ref a ∧ H2 a = some (.ins C dx fs) ∧ sp [.ref a, y] H2 Q (E σ)
theorem pe_ixO (ha : PE X o ta) (hi : PE X i tb) (F : FnOk X.prog X.w X.K X.mg X.base CX k f fd ps sp) (hr : Room (k + 1) X.A) (hs : PySem.W.findIn X.K (.ref C) "__getitem__" = some (some (.ref f))) (hf : PySem.W.fnIn X.K f = true) (hfn : PySem.W.isFn X.K (.ref f) = true)
    (hb : Binds X.K fd ps []) (hx : ∀ σ, PassesAt CX X σ (E σ)) (hsl : ∀ (a : Addr) (u : Value), subscripted i true (.ref a) u = runValue (.builtin "lifetime.subscript" ⟨[.ref a, u], []⟩) := by intro _ _; with_unfolding_all rfl) : PE X (.Subscript o i pos) (tIxO C sp E ta tb) := by
  refine ⟨fun pins s σ H Q I h => ?_⟩
  refine Subscript_ (thn (ha.run pins s σ H _ I h) fun v s1 ⟨x, H1, I1, r1, q1⟩ => thn (hi.run pins s1 σ H1 _ I1 q1) fun u s2 ⟨y, H2, I2, r2, a, dx, fs, ex, hins, q⟩ => ?_)
  subst ex
  obtain rfl : v = Value.ref a := r1
  obtain ⟨mA, J, _⟩ := ins_get I2.hok hins
  obtain ⟨od, J, _⟩ := J.look
  obtain ⟨m, hF⟩ := I2.fr
  refine PySem.W.sub_K hF I2.ok.mod.kin J hs hf hfn ?_ (hsl a u)
  have r : Vals [V.ref a, y] [Value.ref a, u] := .cons rfl (.cons r2 .nil)
  have hl : [Value.ref a, u].length = ps.length := by rw [← r.length]; exact F.len _ _ _ _ q
  have b := hb s2 [.ref a, u] I2.kIn (by rw [List.append_nil]; exact hl)
  rw [List.append_nil] at b
  refine wpAny_call (codeAny_mono (F.run X.A.in1 X.stack s2 H2 ⟨[.ref a, u], []⟩ [.ref a, u] [.ref a, y] Q (E σ) hr.in1 I2.env0.in1 b r q) fun r s' hq => ?_)
  cases r with
  | error e => exact hx σ pins H2 s2 e s' I2 hq
  | ok fl =>
    cases fl with
    | ret u => exact I2.after hq
    | next => exact False.elim hq
    | brk => exact False.elim hq
    | cont => exact False.elim hq
/-- o.m(e, ..), which may raise -/
def tMethT (C : Addr) (m : Str) (sp : Sp) (E : L2.St → XK) (ta : TE) (t : TA) : TE := fun σ H Q => ta σ H fun x H1 => ∃ a dx fs, x = .ref a ∧ H1 a = some (.ins C dx fs) ∧ fs.lookup m = none ∧ t σ H1 fun vs H2 => sp (.ref a :: vs) H2 Q (E σ)
theorem pe_methT {pl : Sem Bool} (he : PE X o ta) (c : Cls X.K C) (hm : Meth X.K C m f) (F : FnOk X.prog X.w X.K X.mg X.base CX k f fd ps sp) (hr : Room k X.A) (hb : Binds X.K fd ps []) (hx : ∀ σ, PassesAt CX X σ (E σ)) (ha : PA X (e :: es) t)
    (hst : starEach (e :: es) X.env = (false, eval e X.env) :: starEach es X.env := by rfl) (hpl : (backTo pos (starEach es X.env)).any (·.1) = false := by rfl)
    (ht : eval (.Call (.Attribute o m apos) (e :: es) [] pos) X.env = (do
      let ov ← eval o X.env
      standAt apos.atName
      let (f, first) ← holding [ov] (getMethod ov m pl)
      callWith pos f first (backTo pos (starEach (e :: es) X.env)) (backToKw pos (keywordEach [] X.env))) := by rfl) :
    PE X (.Call (.Attribute o m apos) (e :: es) [] pos) (tMethT C m sp E ta t) := by
  refine ⟨fun pins s σ H Q I h => ?_⟩
  refine PySem.W.methodCall_KW (pl := pl) (thn (he.run pins s σ H _ I h) fun u s1 ⟨x, H1, I1, rx, a, dx, fs, ex, ea, l, q⟩ => ?_) ht
  subst ex
  obtain rfl : u = Value.ref a := rx
  refine getmeth_ok I1 ea c hm l ?_
  refine PySem.W.callWith_K (first := [.ref a]) (h₀ := X.base) I.ok.mod.kin hm.kp (thn (ha.run pos pins s1 σ H1 _ I1 q) fun us s2 ⟨vs, H2, I2, r, q2⟩ => ⟨I2.kIn, ?_⟩) hst hpl
  exact run_fnS (us := .ref a :: us) (vs := .ref a :: vs) F hr hb (hx σ) I2 (.cons rfl r) q2
end
/-! ### a call that is promised not to raise -/
theorem passE0 {X : Cx} : Passes (L2.CX X.prog X.w) X E0 := fun _ _ _ _ _ _ _ c => by
  obtain ⟨_, _, _, _, _, _, _, _, _, _, _, _, e⟩ := c
  exact e.elim
theorem passAt0 {X : Cx} {σ : L2.St} : PassesAt (L2.CX X.prog X.w) X σ E0 := fun _ _ _ _ _ _ c => by
  obtain ⟨_, _, _, _, _, _, _, _, _, _, _, _, e⟩ := c
  exact e.elim
/-! ### != -/
theorem slotNe : Slot "object" "__ne__" "object.__ne__" :=
  Slot.of (T := "object") (name := "__ne__") (owner := "object") (n := "__ne__") (by rw [typeLookup_type, builtinLookup_eq_fast]; kernel_rfl) (by decide +kernel) (by decide +kernel) (by decide +kernel)
    (.inl (by decide +kernel)) (by rw [isSubtype_type]; kernel_rfl)
def rNeOwn (C : Addr) (sp : Sp) (E : XK) : R2 := fun x y H Q => ∃ a b dx fs dy gs, x = .ref a ∧ y = .ref b ∧ H a = some (.ins C dx fs) ∧ H b = some (.ins C dy gs) ∧ sp [x, y] H (fun v H' => ∃ c, v = .bl c ∧ Q (.bl (!c)) H') E
theorem op_neOwn {X : Cx} {CX : CXT} {n : Nat} {C f : Addr} {fd : FuncData} {ps : List Str} {sp : Sp} {E : XK} (F : FnOk X.prog X.w X.K X.mg X.base CX n f fd ps sp) (hr : Room (n + 1) X.A)
    (hs : PySem.W.findIn X.K (.ref C) "__eq__" = some (some (.ref f))) (hf : PySem.W.isFn X.K (.ref f) = true) (hb : Binds X.K fd ps []) (hx : Passes CX X E)
    (hn : PySem.W.findIn X.K (.ref C) "__ne__" = some (some (.builtin "object.__ne__"))) (ht : PySem.W.mroIn X.K C (.type "object") = some true) : OpR X (compareOp .NotEq) (rNeOwn C sp E) := by
  intro pins s σ H x y v u Q I rx ry h
  obtain ⟨a, b, dx, fs, dy, gs, rfl, rfl, ha, hb', hsp⟩ := h
  cases rx
  cases ry
  obtain ⟨mA, J, _⟩ := ins_get I.hok ha
  obtain ⟨od, J, _⟩ := J.look
  obtain ⟨mB, J', _⟩ := ins_get I.hok hb'
  obtain ⟨od', J', _⟩ := J'.look
  obtain ⟨m, hF⟩ := I.fr
  have XK := I.kIn
  show wpAny (model X.prog X.w) X.A (richCompare .NotEq (.ref a) (.ref b)) (EP X pins σ Q) X.xe s
  unfold richCompare
  simp only [oneThing_ref]
  refine wpAny_holding ?_
  refine wpAny_bind (wpAny_cRoomFor hr.units0 ?_)
  rw [cmpInfo_NotEq]
  dsimp only
  refine wpAny_bind (J.type.here (wpAny_bind (J'.type.here ?_)))
  rw [show (Value.ref C != Value.ref C) = false from by simp]
  simp only [Bool.false_eq_true, if_false]
  refine wpAny_bind (wpAny_pure ?_)
  simp only [Bool.false_eq_true, if_false]
  refine wpAny_bind ?_
  simp only [tryCompare]
  refine wpAny_bind ?_
  simp only [callSpecialIfBound?, bindSpecialIfBound?]
  refine wpAny_holding (wpAny_bind (wpAny_bind (wpAny_bind (J.type.here ((PySem.W.looks_findIn XK hn).here ?_)))))
  refine wpAny_bind (wpAny_askSetting (wpAny_ite ?_))
  have two : PySem.W.Looks (model X.prog X.w) s.heap (isInstance (.ref a) (.type "object")) true := J.type.andThen (PySem.W.looks_mroIn XK ht)
  have callE : wpAny (model X.prog X.w) X.A.in1 (call (.ref f) [.ref a, .ref b]) (fun v s' => ∃ c, v = .bool c ∧ ∃ H', Inv X pins σ H' s' ∧ Q (.bl (!c)) H') X.xe s := by
    have hl := F.len _ _ _ _ hsp
    have r2 : Vals [V.ref a, V.ref b] [Value.ref a, Value.ref b] := .cons rfl (.cons rfl .nil)
    refine wpAny_call (codeAny_mono (F.run X.A.in1 X.stack s H ⟨[.ref a, .ref b], []⟩ [.ref a, .ref b] [.ref a, .ref b] _ E hr.in1 I.env0.in1 (by
      have := hb s [.ref a, .ref b] I.kIn (by simpa using hl)
      simpa using this) r2 hsp) fun r s' hq => ?_)
    cases r with
    | error e => exact hx pins σ H s e s' I hq
    | ok fl =>
      cases fl with
      | ret w =>
        obtain ⟨z, H', I', rz, c, ez, q⟩ := I.after hq
        subst ez
        cases rz
        exact ⟨c, rfl, H', I', q⟩
      | next => exact False.elim hq
      | brk => exact False.elim hq
      | cont => exact False.elim hq
  have callN : wpAny (model X.prog X.w) X.A (call (.builtin "object.__ne__") [.ref a, .ref b]) (fun v s' => ∃ c, v = .bool c ∧ EP X pins σ Q (.bool c) s') X.xe s := by
    refine wpAny_call (codeAny_call_builtin slotNe.plain PySem.F.cmpEntry_ne (@PySem.W.check_slot (model X.prog X.w) _ _ _ "object.__ne__" "object" "__ne__" (.ref a) [.ref b] [] _ PySem.F.cmpKind_ne PySem.F.cmpSplit_ne two (PySem.F.cmpArgs_ne _ _) ?_))
    have hu : X.A.in1.units < cLine := hr.in1.units0
    unfold Builtin.«object.__ne__»
    repeat (first
      | with_reducible refine wpAny_cRoomFor hu ?_
      | (refine wpAny_bind (m := callSpecialIfBound? (.ref a) (Str.ofString "__eq__") [.ref b])
          (PySem.W.ifBound_K XK J hs hf (wpAny_mono callE (fun r s' hr => by
            obtain ⟨c, rfl, H', I', q⟩ := hr
            have fin : EP X pins σ Q (.bool (!c)) s' := ⟨.bl (!c), H', I', rfl, q⟩
            repeat (first | exact ⟨_, rfl, fin⟩ | (refine wpAny_bind (m := truthy (.bool _)) (wpAny_truthy_bool ?_)) | wp_step)) fun _ _ e => e)))
      | wp_step)
  have fin : wpAny (model X.prog X.w) X.A (call (.builtin "object.__ne__") ([.ref a] ++ [.ref b]) >>= fun v => pure (some v)) (fun r s' => ∃ c, r = some (.bool c) ∧ EP X pins σ Q (.bool c) s') X.xe s := wpAny_bind (wpAny_mono callN (fun v s' z => by
    obtain ⟨c, rfl, q⟩ := z
    exact wpAny_pure ⟨c, rfl, q⟩) fun _ _ e => e)
  split
  · rw [slotNe.bind]
    refine wpAny_bind (wpAny_pure (wpAny_pure ?_))
    refine wpAny_mono fin (fun r s' z => ?_) fun _ _ e => e
    obtain ⟨c, rfl, q⟩ := z
    exact wpAny_pure (wpAny_pure q)
  · rw [slotNe.bind]
    refine wpAny_tryCatch (wpAny_bind (wpAny_pure (wpAny_pure ?_)))
    refine wpAny_mono fin (fun r s' z => ?_) fun _ _ e => e
    obtain ⟨c, rfl, q⟩ := z
    exact wpAny_pure (wpAny_pure q)
end OD

set_option Elab.async false
set_option linter.all false
set_option maxRecDepth 100000
set_option maxHeartbeats 4000000
/-! C() without an own __init__; x == y by an own __eq__ that answers either way -/
namespace OW
open PySem PySem.Spec PyProof.Rows L2
structure Bare (K : PySem.W.Frag) (C : Addr) : Prop where
  makes : PySem.W.makesIn K C = true
  init : PySem.W.findIn K (.ref C) "__init__" = some (some (.builtin "object.__init__"))
  top : PySem.W.mroIn K C (.type "object") = some true
  kp : PySem.W.keepIn K (.ref C) = true
def tBare (C : Addr) : TE := fun _ H Q => ∀ x dx, H x = none → H dx = none → dx ≠ x → Q (.ref x) (upd (upd H dx (.own x)) x (.ins C dx []))
section
variable {X : Cx} {C : Addr} {x : Str} {p pos : Pos}
theorem pe_bare (M : Bare X.K C) (hg : Gl X x) (hm : X.mg x = some (.ref C)) (hdb : (x == ("__debug__" : Str)) = false := by decide) : PE X (.Call (.Name x p) [] [] pos) (tBare C) := by
  refine ⟨fun pins s σ H Q I h => ?_⟩
  refine wpAny_Call_Name_kw (ld_glob I hg hm ?_ hdb)
  refine PySem.W.callWith_K0 I.kIn M.kp ?_
  refine wpAny_call (make_map0 I.kIn M.makes M.init (fun self => PySem.W.Looks.of_pure (PySem.W.oi_bind _)) ?_)
  have I2 := Inv.made (C := C) I
  have ho : ((s.heap.push PySem.W.emptyDict).push (PySem.W.instObj C s.heap.objs.size)).get? (s.heap.objs.size + 1) = some (PySem.W.instObj C s.heap.objs.size) := by
    have := Heap.get?_push_size (s.heap.push PySem.W.emptyDict) (o := PySem.W.instObj C s.heap.objs.size) rfl
    rwa [Heap.size_push] at this
  have t2 : PySem.W.Looks (model X.prog X.w) _ (isInstance (.ref (s.heap.objs.size + 1)) (.type "object")) true := (NwA.type_at ho rfl).andThen (PySem.W.looks_mroIn I2.kIn M.top)
  refine codeAny_call_builtin PySem.W.oi_plain PySem.W.entry_oi (@PySem.W.check_slot (model X.prog X.w) _ _ _ "object.__init__" "object" "__init__" (.ref (s.heap.objs.size + 1)) [] [] _ PySem.W.oi_kind PySem.W.oi_split t2 (NwA.oi_args_any _ _ _) ?_)
  rw [PySem.W.oi_run]
  exact wpAny_pure ⟨rfl, V.ref (s.heap.objs.size + 1), _, I2, rfl, h _ _ (I.hok.fresh (Nat.le_succ _)) (I.hok.fresh (Nat.le_refl _)) (Nat.ne_of_lt (Nat.lt_succ_self _))⟩
/-! ### == -/
def rEqOwn (K : PySem.W.Frag) (C : Addr) (sp : Sp) (E : XK) : R2 := fun x y H Q => ∃ a b dx fs, x = .ref a ∧ y = .ref b ∧ H a = some (.ins C dx fs) ∧ ((∃ dy gs, H b = some (.ins C dy gs)) ∨ ∃ ys, SqT K H b ys) ∧ sp [x, y] H (fun v H' => ∃ c, v = .bl c ∧ Q v H') E
theorem op_eqOwn {CX : CXT} {n : Nat} {f : Addr} {fd : FuncData} {ps : List Str} {sp : Sp} {E : XK} (F : FnOk X.prog X.w X.K X.mg X.base CX n f fd ps sp) (hr : Room n X.A)
    (hs : PySem.W.findIn X.K (.ref C) "__eq__" = some (some (.ref f))) (hf : PySem.W.isFn X.K (.ref f) = true) (hb : Binds X.K fd ps []) (hx : Passes CX X E) (hT : PySem.W.subIn X.K (.type "tuple") (.ref C) = some false) : OpR X (compareOp .Eq) (rEqOwn X.K C sp E) := by
  intro pins s σ H x y v u Q I rx ry h
  obtain ⟨a, b, dx, fs, rfl, rfl, ha, hy, hsp⟩ := h
  cases rx
  cases ry
  obtain ⟨mA, J, _⟩ := ins_get I.hok ha
  obtain ⟨od, J, _⟩ := J.look
  obtain ⟨m, hF⟩ := I.fr
  show wpAny (model X.prog X.w) X.A (richCompare .Eq (.ref a) (.ref b)) (EP X pins σ Q) X.xe s
  have go : ∀ {tb : Value}, PySem.W.Looks (model X.prog X.w) s.heap (typeOf (.ref b)) tb → PySem.W.notFirst X.K C tb = true → wpAny (model X.prog X.w) X.A (richCompare .Eq (.ref a) (.ref b)) (EP X pins σ Q) X.xe s := fun {tb} lk nf => by
    refine PySem.W.cmp_K (op := .Eq) (tb := tb) hr.units0 hF I.ok.mod.kin J lk nf hs hf ?_
    have hl := F.len _ _ _ _ hsp
    have r2 : Vals [V.ref a, V.ref b] [Value.ref a, Value.ref b] := .cons rfl (.cons rfl .nil)
    refine wpAny_call (codeAny_mono (F.run X.A X.stack s H ⟨[.ref a, .ref b], []⟩ [.ref a, .ref b] [.ref a, .ref b] _ E hr I.env0 (by
      have := hb s [.ref a, .ref b] I.kIn (by simpa using hl)
      simpa using this) r2 hsp) fun r s' hq => ?_)
    cases r with
    | error e => exact hx pins σ H s e s' I hq
    | ok fl =>
      cases fl with
      | ret w =>
        obtain ⟨z, H', I', rz, c, ez, q⟩ := I.after hq
        subst ez
        cases rz
        exact ⟨.bl c, H', I', rfl, q⟩
      | next => exact False.elim hq
      | brk => exact False.elim hq
      | cont => exact False.elim hq
  rcases hy with ⟨dy, gs, hb'⟩ | ⟨ys, hT2⟩
  · obtain ⟨mB, J', _⟩ := ins_get I.hok hb'
    obtain ⟨od', J', _⟩ := J'.look
    exact go J'.type (by simp [PySem.W.notFirst])
  · obtain ⟨its, r, ⟨o, ho, hc, _⟩, _⟩ := I.tuple hT2
    exact go (tb := .type "tuple") ((PySem.W.Looks.ld ho).andThen (by rw [hc]; exact .now)) (by simp [PySem.W.notFirst, hT])
end
end OW

set_option Elab.async false
set_option linter.all false
set_option maxRecDepth 100000
set_option maxHeartbeats 4000000
/-! == of dicts whose values have an own __eq__ that answers either way -/
namespace EB
open PySem PySem.Spec PyProof.Rows L2 PySem.W
/-- how two values compare, by the abstract heap -/
abbrev Eqb := V → V → Bool → Hp → Prop
def Mon2 (D : Eqb) : Prop := ∀ x y c H H', Ext H H' → D x y c H → D x y c H'
def EqB (X : Cx) (n : Nat) (D : Eqb) : Prop :=
  ∀ (A : Around) (pins : List (Addr × Obj)) (s : Shared) (σ : L2.St) (H : Hp) (x y : V) (c : Bool) (u v : Value), Sub X n A → Inv X pins σ H s → RelV x u → RelV y v → D x y c H →
    wpAny (model X.prog X.w) A (eqBool u v) (fun r s' => r = c ∧ ∃ H', Inv X pins σ H' s' ∧ Ext H H') X.xe s
def RcB (X : Cx) (n : Nat) (D : Eqb) : Prop :=
  ∀ (A : Around) (pins : List (Addr × Obj)) (s : Shared) (σ : L2.St) (H : Hp) (x y : V) (c : Bool) (u v : Value), Sub X n A → Inv X pins σ H s → RelV x u → RelV y v → D x y c H →
    wpAny (model X.prog X.w) A (richCompare .Eq u v) (fun r s' => r = .bool c ∧ ∃ H', Inv X pins σ H' s' ∧ Ext H H') X.xe s
/-- the pairs of one table looked up in another one -/
inductive Hits (D : Eqb) (H : Hp) (kb : List (Key × V)) : List (Key × V) → Bool → Prop
  | nil : Hits D H kb [] true
  | miss {k : Key} {v : V} {r : List (Key × V)} : valV kb k = none → Hits D H kb ((k, v) :: r) false
  | hit {k : Key} {v y : V} {r : List (Key × V)} {e b : Bool} : valV kb k = some y → D v y e H → Hits D H kb r b → Hits D H kb ((k, v) :: r) (e && b)
section
variable {D : Eqb} {H H' : Hp} {kb : List (Key × V)}
theorem Hits.mon (hD : Mon2 D) (x : Ext H H') {r : List (Key × V)} {b : Bool} (h : Hits D H kb r b) : Hits D H' kb r b := by
  induction h with
  | nil => exact .nil
  | miss h => exact .miss h
  | hit h d _ ih => exact .hit h (hD _ _ _ _ _ x d) ih
theorem Hits.inv {k : Key} {v : V} {r : List (Key × V)} {b : Bool} (h : Hits D H kb ((k, v) :: r) b) : (valV kb k = none ∧ b = false) ∨ ∃ y e b', valV kb k = some y ∧ D v y e H ∧ Hits D H kb r b' ∧ b = (e && b') := by
  cases h with
  | miss hn => exact .inl ⟨hn, rfl⟩
  | hit hy he hr => exact .inr ⟨_, _, _, hy, he, hr, rfl⟩
theorem Hits.of (e : Key → Bool) : ∀ (r : List (Key × V)), (∀ k v y, (k, v) ∈ r → valV kb k = some y → D v y (e k) H) → Hits D H kb r (r.all fun p => (valV kb p.1).isSome && e p.1)
  | [], _ => .nil
  | (k, v) :: r, h => by
    cases hv : valV kb k with
    | none =>
      have q : (((k, v) :: r).all fun p => (valV kb p.1).isSome && e p.1) = false := by simp [hv]
      rw [q]
      exact .miss hv
    | some y =>
      have q : (((k, v) :: r).all fun p => (valV kb p.1).isSome && e p.1) = (e k && r.all fun p => (valV kb p.1).isSome && e p.1) := by simp [hv]
      rw [q]
      exact .hit hv (h k v y List.mem_cons_self hv) (Hits.of e r fun k' v' y' hm hv' => h k' v' y' (List.mem_cons_of_mem _ hm) hv')
end
section
variable {X : Cx} {n : Nat} {D : Eqb} {A : Around} {pins : List (Addr × Obj)} {σ : L2.St} {H : Hp} {s : Shared} {a b : Addr} {oa ob : Obj} {ka kb : List (Key × V)} {r : Bool}
theorem find_arr {K : Type} (P : K → Value → Bool) (es : Array DictEntry) (k : K) : findBy P es k = (es.toList.find? fun e => P k e.key).map (·.val) := by
  obtain ⟨l⟩ := es
  simp [findBy]
/-- what stands in the memory of a locked dict -/
theorem tab (I : Inv X pins σ H s) (ha : H a = some (.frz oa (.dK ka))) : ∃ es ep, oa.data = .dict es ep ∧ es.size = ka.length ∧ (a == sysModules) = false ∧ ∀ (s' : Shared) (H' : Hp), Inv X pins σ H' s' → Ext H H' →
    s'.heap.get? a = some oa ∧ ∃ vs, KV ka vs ∧ KeysOf (mixKind X.prog X.w) es ∧ Pairs (mixKind X.prog X.w) es.toList vs ∧ (vs.map (·.1)).Nodup := by
  obtain ⟨hs, hg, hx, es, ep, vs, hdt, hsz, kv, o', es', ho', hx', hd', hk, hp, hn⟩ := I.frzK ha
  refine ⟨es, ep, hdt, hsz, hs, fun s' H' I' e => ?_⟩
  obtain ⟨_, hg2, _, es2, ep2, vs2, hdt2, _, kv2, o2, es3, ho2, _, hd2, hk2, hp2, hn2⟩ := I'.frzK (e _ _ ha)
  rw [hg2] at ho2
  obtain rfl := Option.some.inj ho2
  rw [hdt] at hd2
  injection hd2 with e1 e2
  subst e1
  exact ⟨hg2, vs2, kv2, hk2, hp2, hn2⟩
theorem samePairsB {nm : String} (hD : Mon2 D) (h : EqB X n D) (sb : Sub X n A) (I : Inv X pins σ H s) (ha : H a = some (.frz oa (.dK ka))) (hb : H b = some (.frz ob (.dK kb))) (hits : ka.length = kb.length → Hits D H kb ka r)
    {Q : Bool → Shared → Prop} (q : ∀ s' H', Inv X pins σ H' s' → Ext H H' → Q (ka.length == kb.length && r) s') : wpAny (model X.prog X.w) A (Builtin.Dict.samePairs nm a b) Q X.xe s := by
  obtain ⟨es, ep, hda, hsa, sa, ta⟩ := tab I ha
  obtain ⟨es', ep', hdb, hsb, sb', tb⟩ := tab I hb
  obtain ⟨hoa, _⟩ := ta s H I Ext.rfl'
  obtain ⟨hob, _⟩ := tb s H I Ext.rfl'
  rw [← hsa, ← hsb] at q
  unfold Builtin.Dict.samePairs Builtin.Dict.showsAll
  rw [if_neg (show ¬ (a == sysModules) = true by rw [sa]; exact Bool.false_ne_true), if_neg (show ¬ (b == sysModules) = true by rw [sb']; exact Bool.false_ne_true)]
  refine wpAny_bind (wpAny_pure (wpAny_bind (wpAny_pure ?_)))
  refine wpAny_bind (wpAny_dictEntries hoa hda ?_)
  dsimp only
  refine wpAny_bind (wpAny_dictEntries hob hdb ?_)
  by_cases hsz : es.size = es'.size
  case neg =>
    rw [if_pos (by simpa using hsz)]
    have hbf : (es.size == es'.size) = false := by simpa using hsz
    rw [hbf, Bool.false_and] at q
    exact wpAny_bind (wpAny_rule (wpAny_pure (q s H I Ext.rfl')))
  case pos =>
    have q' : ∀ s' H', Inv X pins σ H' s' → Ext H H' → Q r s' := by simpa [hsz] using q
    have hits' := hits (by rw [← hsa, ← hsb]; exact hsz)
    rw [if_neg (by rw [hsz]; simp)]
    refine wpAny_bind (wpAny_dictEpoch hoa hda ?_)
    refine wpAny_bind ?_
    rw [Std.Legacy.Range.forIn_eq_forIn_range']
    simp only [Std.Legacy.Range.size, Nat.sub_zero, Nat.add_sub_cancel, Nat.div_one]
    refine wpAny_forIn_list _
      (fun rest z s' => (∃ H', Inv X pins σ H' s' ∧ Ext H H' ∧ Hits D H' kb (ka.drop (es.size - rest.length)) r) ∧ z = (none, ()) ∧ ∃ i, rest = List.range' i (es.size - i) ∧ i ≤ es.size)
      _ ?_ ?_ _ _ ⟨⟨H, I, Ext.rfl', by rw [List.length_range', Nat.sub_self]; exact hits'⟩, rfl, 0, by simp, Nat.zero_le _⟩
    · rintro x rest z s' ⟨⟨H1, I1, x1, hpre⟩, rfl, i, hr, hi⟩
      have hlt : i < es.size := by
        rcases Nat.lt_or_ge i es.size with h | h
        · exact h
        · rw [Nat.sub_eq_zero_of_le h] at hr; simp at hr
      obtain ⟨rfl, hrest⟩ : x = i ∧ rest = List.range' (i + 1) (es.size - (i + 1)) := by
        have e : es.size - i = (es.size - (i + 1)) + 1 := by omega
        rw [e, List.range'_succ] at hr
        injection hr with h1 h2
        exact ⟨h1, h2⟩
      have hl1 : es.size - (x :: rest).length = x := by
        rw [List.length_cons, hrest, List.length_range']; omega
      have hl2 : es.size - rest.length = x + 1 := by
        rw [hrest, List.length_range']; omega
      rw [hl1] at hpre
      obtain ⟨ga, vs, kv, hka, hpa, hna⟩ := ta s' H1 I1 x1
      obtain ⟨gb, us, ku, hkb, hpb, hnb⟩ := tb s' H1 I1 x1
      refine wpAny_bind (wpAny_dictEntries ga hda ?_)
      rw [Array.getElem?_eq_getElem hlt]
      have hlt' : x < ka.length := by rw [← hsa]; exact hlt
      obtain ⟨k, v, hkv⟩ : ∃ k v, ka[x] = (k, v) := ⟨_, _, rfl⟩
      have hdrop : ka.drop x = (k, v) :: ka.drop (x + 1) := by rw [← hkv]; exact List.drop_eq_getElem_cons hlt'
      obtain ⟨⟨k2, v2⟩, hv2, ek, rv⟩ : ∃ p, vs[x]? = some p ∧ k = p.1 ∧ RelV v p.2 := by
        obtain ⟨p, hp, e1, e2⟩ := paired_get kv (List.getElem?_eq_getElem hlt')
        rw [hkv] at e1 e2
        exact ⟨p, hp, e1, e2⟩
      simp only at ek rv
      subst ek
      obtain ⟨hkey, hval⟩ := hpa.get? (i := x) (e := es[x]) (k := k) (v := v2) (by rw [Array.getElem?_toList]; exact Array.getElem?_eq_getElem hlt) hv2
      obtain ⟨k', hk', hh⟩ := hka es[x] (Array.getElem_mem hlt)
      have ekk : k' = k := (mixKind X.prog X.w).inj _ _ _ hk' hkey
      rw [ekk] at hh
      rw [hdrop] at hpre
      have hfind : ∀ k, findBy (mixKind X.prog X.w).is es' k = valueAt us k := fun k => by
        rw [← hpb.find k]
        exact find_arr _ _ _
      have rel := ku.val k
      show wpAny _ _ (holding [es[x].key, es[x].val] _ >>= _) _ _ _
      rw [hh]
      refine wpAny_bind (wpAny_holding (wpAny_bind (wpAny_dictFind_of hkey gb hdb hkb ?_)))
      cases hj : es'.findIdx? fun e => (mixKind X.prog X.w).is k e.key with
      | none =>
        have hn : valueAt us k = none := by rw [← hfind k, findBy_of_findIdx?, hj]
        have hn' : valV kb k = none := by
          rw [hn] at rel
          cases hv : valV kb k with
          | none => rfl
          | some y => rw [hv] at rel; exact (show False from rel).elim
        rcases hpre.inv with ⟨_, er⟩ | ⟨y, _, _, hy, _⟩
        · rw [er] at q'
          refine wpAny_pure ?_
          show wpAny _ _ (if (!false) = true then _ else _) _ _ _
          rw [if_pos (by decide)]
          exact wpAny_pure (wpAny_pure (q' _ _ I1 x1))
        · rw [hn'] at hy; exact nomatch hy
      | some j =>
        obtain ⟨hjlt, _, _⟩ := Array.findIdx?_eq_some_iff_getElem.mp hj
        have hv' : valueAt us k = some es'[j].val := by
          rw [← hfind k, findBy_of_findIdx?, hj]
          simp [Array.getElem?_eq_getElem hjlt]
        refine wpAny_bind (wpAny_dictEntries gb hdb ?_)
        rw [Array.getElem?_eq_getElem hjlt]
        rw [hv'] at rel
        rcases hpre.inv with ⟨hn, _⟩ | ⟨y, e, b', hy, he, hrr, er⟩
        · rw [hn] at rel; exact (show False from rel).elim
        · rw [hy] at rel
          have ry : RelV y es'[j].val := rel
          rw [← hval] at rv
          refine wpAny_holding (wpAny_mono (h A pins s' σ H1 v y e _ _ sb I1 rv ry he) (fun c s2 w2 => ?_) fun _ _ x => x)
          obtain ⟨ec, H2, I2, x2⟩ := w2
          subst ec
          cases c with
          | false =>
            rw [er, Bool.false_and] at q'
            show wpAny _ _ (if (!false) = true then _ else _) _ _ _
            rw [if_pos (by decide)]
            exact wpAny_pure (wpAny_pure (q' _ _ I2 (x1.trans x2)))
          | true =>
            rw [Bool.true_and] at er
            rw [← er] at hrr
            obtain ⟨ga2, _⟩ := ta s2 H2 I2 (x1.trans x2)
            show wpAny _ _ (if (!true) = true then _ else _) _ _ _
            rw [if_neg (by decide)]
            refine wpAny_bind (wpAny_dictEpoch ga2 hda ?_)
            rw [if_neg (by simp)]
            exact wpAny_pure ⟨⟨H2, I2, x1.trans x2, by rw [hl2]; exact hrr.mon hD x2⟩, rfl, x + 1, hrest, hlt⟩
    · rintro z s' ⟨⟨H1, I1, x1, hpre⟩, rfl, i, hr, hi⟩
      refine wpAny_pure ?_
      rw [List.length_nil, Nat.sub_zero, hsa, List.drop_length] at hpre
      cases hpre
      exact q' _ _ I1 x1
theorem richB (hD : Mon2 D) (h : EqB X n D) (sb : Sub X (n + 1) A) (I : Inv X pins σ H s) (ha : H a = some (.frz oa (.dK ka))) (hb : H b = some (.frz ob (.dK kb))) (hits : ka.length = kb.length → Hits D H kb ka r)
    {Q : Value → Shared → Prop} (q : ∀ s' H', Inv X pins σ H' s' → Ext H H' → Q (.bool (ka.length == kb.length && r)) s') : wpAny (model X.prog X.w) A (richCompare .Eq (.ref a) (.ref b)) Q X.xe s := by
  obtain ⟨_, _, ta⟩ := dk_rd I.hok (.inr ⟨_, ha⟩)
  obtain ⟨vs, _, da⟩ := ta
  obtain ⟨_, _, tb⟩ := dk_rd I.hok (.inr ⟨_, hb⟩)
  obtain ⟨us, _, db⟩ := tb
  refine wpAny_richCompare_same_room (op := .Eq) da.typeIs db.typeIs F.slot_dict_eq (wpAny_call_entry F.slot_dict_eq da.typeIs F.entry_dict_eq ?_ (F.args_dict_eq_2 _ _)) sb.room.units0
  show wpAny _ _ (Builtin.Dict.dictSlotArgs "__eq__" ⟨[.ref a, .ref b], []⟩ >>= _) _ _ s
  refine wpAny_bind ?_
  unfold Builtin.Dict.dictSlotArgs
  refine wpAny_bind (wpAny_notOrdered_dict da.typeIs ?_)
  show wpAny _ _ (pure (Value.ref a, Value.ref b)) _ _ s
  refine wpAny_pure ?_
  refine wpAny_bind (wpAny_isInstance (T := "dict") db.typeIs F.sub_dict_dict ?_)
  simp only [Bool.not_true, Bool.false_eq_true, if_false]
  refine wpAny_bind (wpAny_pure (wpAny_bind (wpAny_pure ?_)))
  refine wpAny_bind (samePairsB hD h sb.in1 I ha hb hits fun s' H' I' x => ?_)
  refine wpAny_pure ⟨_, rfl, ?_, ?_⟩
  · exact fun z => nomatch z
  · simpa using q s' H' I' x
end
/-! ### as an expression, the two dicts locked meanwhile -/
def rEqD (D : Eqb) : R2 := fun x y H Q => ∃ a b ka kb r, x = .ref a ∧ y = .ref b ∧ H a = some (.dK ka) ∧ H b = some (.dK kb) ∧
  (ka.length = kb.length → ∀ H', (∀ c, c ≠ a → c ≠ b → H' c = H c) → Hits D H' kb ka r) ∧ ∀ H', Ext H H' → Q (.bl (ka.length == kb.length && r)) H'
section
variable {X : Cx} {n m : Nat} {D D' : Eqb}
theorem op_eqD (hD : Mon2 D) (h : EqB X n D) (hr : Room (n + 1) X.A) : OpR X (compareOp .Eq) (rEqD D) := by
  intro pins s σ H x y v u Q I rx ry hq
  obtain ⟨a, b, ka, kb, r, rfl, rfl, ha, hb, hits, q⟩ := hq
  cases rx
  cases ry
  show wpAny (model X.prog X.w) X.A (richCompare .Eq (.ref a) (.ref b)) (EP X pins σ Q) X.xe s
  obtain ⟨oa, I1⟩ := I.lock ha True.intro
  have na := I.nofrz ha True.intro
  by_cases hab : a = b
  · subst hab
    rw [ha] at hb
    cases hb
    have e1 : upd H a (.frz oa (.dK ka)) a = some (.frz oa (.dK ka)) := upd_same
    refine richB hD h ⟨hr, rfl⟩ I1 e1 e1 (fun hl => hits hl _ fun c hc _ => upd_ne hc) fun s' H' I' x => ?_
    have I2 := I'.unlock (x _ _ e1) na
    refine ⟨.bl _, _, I2, rfl, q _ fun c o e => ?_⟩
    by_cases hc : c = a
    · rw [hc, upd_same, ← e, hc, ha]
    · rw [upd_ne hc]; exact x _ _ (by rw [upd_ne hc]; exact e)
  · have hb1 : upd H a (.frz oa (.dK ka)) b = some (.dK kb) := by rw [upd_ne (Ne.symm hab)]; exact hb
    obtain ⟨ob, I2⟩ := I1.lock hb1 True.intro
    have nb := I1.nofrz hb1 True.intro
    have ea : upd (upd H a (.frz oa (.dK ka))) b (.frz ob (.dK kb)) a = some (.frz oa (.dK ka)) := by rw [upd_ne hab]; exact upd_same
    have eb : upd (upd H a (.frz oa (.dK ka))) b (.frz ob (.dK kb)) b = some (.frz ob (.dK kb)) := upd_same
    refine richB hD h ⟨hr, rfl⟩ I2 ea eb (fun hl => hits hl _ fun c hc hc' => by rw [upd_ne hc', upd_ne hc]) fun s' H' I' x => ?_
    have I3 := I'.unlock (x _ _ eb) nb
    have I4 := I3.unlock (d := a) (od := oa) (u := .dK ka) (by rw [upd_ne hab]; exact x _ _ ea) na
    refine ⟨.bl _, _, I4, rfl, q _ fun c o e => ?_⟩
    by_cases hc : c = a
    · rw [hc, upd_same, ← e, hc, ha]
    · rw [upd_ne hc]
      by_cases hc' : c = b
      · rw [hc', upd_same, ← e, hc', hb]
      · rw [upd_ne hc']; exact x _ _ (by rw [upd_ne hc', upd_ne hc]; exact e)
/-! ### what the values may be -/
theorem EqB.mono (h : EqB X n D) (hn : n ≤ m) : EqB X m D := fun A pins s σ H x y c u v sb => h A pins s σ H x y c u v (sb.mono hn)
theorem EqB.or (h : EqB X n D) (h' : EqB X n D') : EqB X n (fun x y c H => D x y c H ∨ D' x y c H) := fun A pins s σ H x y c u v sb I rx ry d => by
  rcases d with d | d
  · exact h A pins s σ H x y c u v sb I rx ry d
  · exact h' A pins s σ H x y c u v sb I rx ry d
theorem Mon2.or (h : Mon2 D) (h' : Mon2 D') : Mon2 (fun x y c H => D x y c H ∨ D' x y c H) := fun x y c H H' e d => d.elim (fun d => .inl (h x y c H H' e d)) fun d => .inr (h' x y c H H' e d)
def EFlat : Eqb := fun x y c _ => flatV x = true ∧ flatV y = true ∧ eqV x y = c
theorem mon_eflat : Mon2 EFlat := fun _ _ _ _ _ _ d => d
theorem eqB_flat : EqB X 0 EFlat := by
  intro A pins s σ H x y c u v sb I rx ry d
  obtain ⟨fx, fy, e⟩ := d
  have q := eqAt_V (A := A) (s := s) rx ry fx fy
  rw [e] at q
  exact q X.prog X.w X.xe _ ⟨rfl, H, I, Ext.rfl'⟩
/-- an instance of C, whose == is the text's own, and an instance of this class or of another one that isn't below it -/
def EOwn (K : PySem.W.Frag) (C : Addr) (sp : Sp) (E : XK) : Eqb := fun x y c H => ∃ a b C' dx fs dy gs, x = .ref a ∧ y = .ref b ∧ H a = some (.ins C dx fs) ∧ H b = some (.ins C' dy gs) ∧ PySem.W.notFirst K C (.ref C') = true ∧ (a = b → c = true) ∧
  ∀ H', Ext H H' → sp [x, y] H' (fun v H2 => v = .bl c ∧ Ext H' H2) E
theorem mon_eown {K : PySem.W.Frag} {C : Addr} {sp : Sp} {E : XK} : Mon2 (EOwn K C sp E) := fun x y c H H' e d => by
  obtain ⟨a, b, C', dx, fs, dy, gs, hx, hy, h1, h2, hn, hc, r⟩ := d
  exact ⟨a, b, C', dx, fs, dy, gs, hx, hy, e _ _ h1, e _ _ h2, hn, hc, fun H2 e2 => r H2 (e.trans e2)⟩
theorem eqB_own {CX : CXT} {C f : Addr} {fd : FuncData} {ps : List Str} {sp : Sp} {E : XK} (F : FnOk X.prog X.w X.K X.mg X.base CX n f fd ps sp)
    (hs : PySem.W.findIn X.K (.ref C) "__eq__" = some (some (.ref f))) (hf : PySem.W.isFn X.K (.ref f) = true) (hb : Binds X.K fd ps []) (hx : Passes CX X E) : EqB X n (EOwn X.K C sp E) := by
  intro A pins s σ H x y c u v sb I rx ry d
  obtain ⟨a, b, C', dx, fs, dy, gs, rfl, rfl, ha, hb', hn, hc, hr⟩ := d
  cases rx
  cases ry
  by_cases hab : a = b
  · subst hab
    rw [hc rfl]
    exact SeqAt.EqAt.same (A := A) (s := s) (.ref a) X.prog X.w X.xe _ ⟨rfl, H, I, Ext.rfl'⟩
  · refine GQ.eqBool_refG hab ?_
    obtain ⟨mA, J, _⟩ := ins_get I.hok ha
    obtain ⟨mB, J', _⟩ := ins_get I.hok hb'
    obtain ⟨od, J, _⟩ := J.look
    obtain ⟨od', J', _⟩ := J'.look
    obtain ⟨m, hF⟩ := I.fr
    refine PySem.W.cmp_K (op := .Eq) (tb := .ref C') sb.room.units0 hF I.ok.mod.kin J J'.type hn hs hf ?_
    have hsp := hr H Ext.rfl'
    have e0 : Env0 X.prog X.w X.K X.mg X.base A X.stack s H := by
      have e := I.env0
      exact ⟨by rw [sb.fr]; exact e.frames, e.mod, e.bs, e.bsz, e.funs, e.frf, e.hok, e.bare⟩
    have hl := F.len _ _ _ _ hsp
    have r2 : Vals [V.ref a, V.ref b] [Value.ref a, Value.ref b] := .cons rfl (.cons rfl .nil)
    refine wpAny_call (codeAny_mono (F.run A X.stack s H ⟨[.ref a, .ref b], []⟩ [.ref a, .ref b] [.ref a, .ref b] _ E sb.room e0 (by
      have := hb s [.ref a, .ref b] I.kIn (by simpa using hl)
      simpa using this) r2 hsp) fun r s' hq => ?_)
    cases r with
    | error e => exact hx pins σ H s e s' I hq
    | ok fl =>
      cases fl with
      | ret w =>
        obtain ⟨z, H', I', rz, ez, ex⟩ := I.after hq
        subst ez
        cases rz
        exact ⟨c, rfl, rfl, H', I', ex⟩
      | next => exact False.elim hq
      | brk => exact False.elim hq
      | cont => exact False.elim hq
end
end EB

set_option Elab.async false
set_option linter.all false
set_option maxRecDepth 100000
set_option maxHeartbeats 4000000
/-! a dict's display with one more dict in it: {**d, k: v} -/
namespace MM
open PySem PySem.Spec PyProof.Rows L2
section
variable {prog : Program} {w : World} {K : Type} [DecidableEq K] {knd : KeyKind prog w K} {A : Around} {E : Value → Shared → Prop} {s : Shared}
theorem putAt {d : Addr} {kvs : List (K × Value)} {k : K} {key v : Value} {Q : Unit → Shared → Prop} (hkey : knd.is k key = true) (hm : s.heap.DictOf knd d kvs) (hsz : kvs.length ≤ sizeLine)
    (hQ : ∀ h', h'.DictOf knd d (stored kvs k v) → Heap.SameBut d s.heap h' → Q () { s with heap := h' }) : wpAny (model prog w) A (dictPut d (knd.hash k) key v) Q E s := by
  obtain ⟨o, es, ep, ho, hc, hd, hk, hp, hn⟩ := hm
  have hes : es.size ≤ sizeLine := by
    have e1 := hp.length
    rw [Array.length_toList] at e1
    omega
  have same : (es.findIdx? fun e => knd.is k e.key) = kvs.findIdx? fun kv => decide (kv.1 = k) := by
    rw [← hp.findIdx k]
    obtain ⟨l⟩ := es
    simp
  unfold dictPut
  refine wpAny_bind (wpAny_dictFind_of hkey ho hd hk ?_)
  rcases hi : es.findIdx? fun e => knd.is k e.key with _ | i
  · have no : k ∉ kvs.map (·.1) := not_mem_of_findIdx_none (same ▸ hi)
    have st : stored kvs k v = kvs ++ [(k, v)] := by
      unfold stored
      rw [if_neg]
      intro h
      obtain ⟨q, hq, e⟩ := List.any_eq_true.mp h
      exact no (List.mem_map.mpr ⟨q, hq, of_decide_eq_true e⟩)
    have hq := hQ
    rw [st] at hq
    rw [hi]
    refine wpAny_updateDictKeys (f := fun es => es.push ⟨knd.hash k, key, v⟩) (hz := hes) ho hd (hq _ ?_ (Heap.SameBut.update ..))
    refine ⟨_, _, ep + 1, Heap.get?_update_self _ ho (Obj.isFreed_of_dict (Obj.data_mapDictKeys hd _)), hc.mapDictKeys _, Obj.data_mapDictKeys hd _, hk.push hkey _, ?_, ?_⟩
    · have := hp.append hkey (knd.hash k) v
      obtain ⟨l⟩ := es
      simpa using this
    · rw [List.map_append, List.nodup_append]
      refine ⟨hn, by simp, fun a ha b hb e => no ?_⟩
      rw [List.map_cons, List.map_nil, List.mem_singleton] at hb
      have ea : a = k := e.trans hb
      exact ea ▸ ha
  · have st : stored kvs k v = kvs.map fun kv => if kv.1 = k then (kv.1, v) else kv := by
      unfold stored
      rw [if_pos (any_of_findIdx_some (same ▸ hi))]
    have hl : (es.toList.findIdx? fun e => knd.is k e.key) = some i := by
      rw [← hi]
      obtain ⟨l⟩ := es
      simp
    have hq := hQ
    rw [st] at hq
    rw [hi]
    refine wpAny_updateDict (f := fun es => es.modify i fun e => { e with val := v }) ho hd (hq _ ?_ (Heap.SameBut.update ..))
    refine ⟨_, _, ep, Heap.get?_update_self _ ho (Obj.isFreed_of_dict (Obj.data_mapDict hd _)), hc.mapDict _, Obj.data_mapDict hd _, hk.modify _ _, ?_, ?_⟩
    · have := hp.modify hn hl v
      obtain ⟨l⟩ := es
      simpa using this
    · rw [keys_map_store]
      exact hn
theorem merge_plain {d a : Addr} {kvs more : List (K × Value)} {Q : Unit → Shared → Prop} (hda : d ≠ a) (hoS : (a == sysModules) = false) (hd : s.heap.DictOf knd d kvs) (ha : s.heap.DictOf knd a more)
    (hsz : kvs.length + more.length ≤ sizeLine) (hQ : ∀ h', h'.DictOf knd d (merged kvs more) → Heap.SameBut d s.heap h' → Q () { s with heap := h' }) :
    wpAny (model prog w) A (mergeMapping d (.ref a) false) Q E s := by
  have tA := ha.typeIs (s := s)
  obtain ⟨od, esd, epd, hod, hcd, hdd, hkd, hpd, hnd⟩ := id hd
  obtain ⟨oo, eso, epo, hoo, hco, hdo, hko, hpo, hno⟩ := id ha
  have hlen : more.length = eso.size := by
    rw [← hpo.length, Array.length_toList]
  unfold mergeMapping
  refine wpAny_bind ?_
  refine wpAny_bind (wpAny_typeOf tA (wpAny_of_eq isSubtype_dict_dict ?_))
  rw [if_pos rfl]
  refine wpAny_bind (wpAny_specialOf tA F.slot_dict_iter.lookup ?_)
  refine wpAny_bind (wpAny_pure ?_)
  simp only [beq_self_eq_true]
  rw [if_neg (by rw [hoS]; exact Bool.false_ne_true)]
  have main : wpAny (model prog w) A (do
      let l ← dictEntries a
      let epoch ← dictEpoch a
      forIn (List.range l.size) PUnit.unit fun i (_ : PUnit) => (do
          let l' ← dictEntries a
          match l'[i]? with
            | some e => do
              holding [e.key, e.val] (dictPut d e.hash e.key e.val)
              let ep' ← dictEpoch a
              if (ep' != epoch) = true then do
                  (unsupported "dict.changed-during-merge" : Sem PUnit)
                  pure (ForInStep.yield PUnit.unit)
                else pure (ForInStep.yield PUnit.unit)
            | _ => do
              (unsupported "dict.changed-during-merge" : Sem PUnit)
              pure (ForInStep.yield PUnit.unit) : Sem (ForInStep PUnit))
      pure ()) Q E s := by
    refine wpAny_bind (wpAny_dictEntries hoo hdo ?_)
    refine wpAny_bind (wpAny_dictEpoch hoo hdo ?_)
    refine wpAny_bind ?_
    rw [List.range_eq_range']
    refine wpAny_forIn_list _ (fun l _ t => ∃ h' i, t = { s with heap := h' } ∧ l = List.range' i (eso.size - i) ∧ i ≤ eso.size ∧ h'.DictOf knd d (merged kvs (more.take i)) ∧ h'.get? a = some oo ∧ Heap.SameBut d s.heap h') _ ?_ ?_ _ _
      ⟨s.heap, 0, rfl, by simp, Nat.zero_le _, by simpa [merged] using hd, hoo, Heap.SameBut.refl _ _⟩
    · rintro x l b t ⟨h', i, rfl, hr, hi, hd', ha', hs'⟩
      have lt : i < eso.size := by
        refine Nat.lt_of_not_le fun h => ?_
        rw [Nat.sub_eq_zero_of_le h] at hr
        cases hr
      rw [show eso.size - i = (eso.size - (i + 1)) + 1 by omega, List.range'_succ] at hr
      injection hr with e1 e2
      subst e1
      refine wpAny_bind (wpAny_dictEntries ha' hdo ?_)
      rw [Array.getElem?_eq_getElem lt]
      have hm : ∃ k v, more[x]? = some (k, v) := by
        have hx : x < more.length := hlen ▸ lt
        exact ⟨_, _, List.getElem?_eq_getElem hx⟩
      obtain ⟨k, v, hkv⟩ := hm
      obtain ⟨hk1, hv1⟩ := hpo.get? (e := eso[x]) (by simp [lt]) hkv
      obtain ⟨k2, hk2, hh⟩ := hko eso[x] (Array.getElem_mem lt)
      obtain rfl : k2 = k := knd.inj _ _ _ hk2 hk1
      show wpAny _ _ (holding [eso[x].key, eso[x].val] (dictPut d eso[x].hash eso[x].key eso[x].val) >>= _) _ _ _
      rw [hh, hv1]
      have small : (merged kvs (more.take x)).length ≤ sizeLine := by
        have q1 := merged_length_le kvs (more.take x)
        have q2 := List.length_take_le x more
        omega
      refine wpAny_bind (wpAny_holding (putAt hk1 hd' small fun h2 hd2 hs2 => ?_))
      have ha2 : h2.get? a = some oo := (hs2.2 a (Ne.symm hda)).trans ha'
      refine wpAny_bind (wpAny_dictEpoch ha2 hdo ?_)
      rw [if_neg (by simp)]
      exact wpAny_pure ⟨h2, x + 1, rfl, e2, lt, by rw [merged_take_succ kvs more x _ hkv]; exact hd2, ha2, hs'.trans hs2⟩
    · rintro b t ⟨h', i, rfl, hr, hi, hd', ha', hs'⟩
      have ei : i = more.length := by
        refine hlen ▸ Nat.le_antisymm hi (Nat.le_of_not_lt fun h => ?_)
        rw [show eso.size - i = (eso.size - (i + 1)) + 1 by omega, List.range'_succ] at hr
        cases hr
      rw [ei, List.take_length] at hd'
      exact wpAny_pure (hQ h' hd' hs')
  refine wpAny_bind (wpAny_dictEntries hod hdd ?_)
  split
  · refine wpAny_bind (wpAny_dictEntries hoo hdo ?_)
    refine wpAny_bind ?_
    rw [← Array.forIn_toList]
    refine wpAny_forIn_list _ (fun l _ t => t = s ∧ ∀ e ∈ l, ∃ k, knd.is k e.key = true) _ ?_ ?_ _ _ ⟨rfl, fun e he => ?_⟩
    · rintro x l b t ⟨rfl, hl⟩
      obtain ⟨k, hk⟩ := hl x List.mem_cons_self
      have bv := knd.byValue _ _ hk
      split
      · rename_i r er
        rw [er] at bv
        cases bv
      · exact wpAny_pure ⟨rfl, fun e he => hl e (List.mem_cons_of_mem _ he)⟩
    · rintro b t ⟨rfl, _⟩
      exact main
    · obtain ⟨k, hk, _⟩ := hko e (by simpa using he)
      exact ⟨k, hk⟩
  · exact main
end
end MM

set_option Elab.async false
set_option linter.all false
set_option maxRecDepth 100000
set_option maxHeartbeats 4000000
namespace MM
open PySem PySem.Spec PyProof.Rows L2
def tStarPut (tm tk tv : TE) : TE := fun σ H Q => ∀ d, H d = none → tm σ (upd H d (.dK [])) fun x H1 => ∃ a kvs, x = .ref a ∧ Rd H1 a (.dK kvs) ∧ d ≠ a ∧ H1 d = some (.dK []) ∧ kvs.length < sizeLine ∧
  ∀ u, upd H1 d (.dK kvs) u = none → tk σ (upd (upd H1 d (.dK kvs)) u (.dK [])) fun y H2 => tv σ H2 fun z H3 => ∃ key : Key, y = kV key ∧ H3 u = some (.dK []) ∧ H3 d = some (.dK kvs) ∧ Q (.ref d) (upd (upd H3 u (.dK [(key, z)])) d (.dK (putK kvs key z)))
section
variable {X : Cx} {em k ev : Expr} {pos : Pos} {tm tk tv : TE}
theorem pe_starPut (hm : PE X em tm) (hk : PE X k tk) (hv : PE X ev tv) : PE X (.Dict [none, some k] [em, ev] pos) (tStarPut tm tk tv) := by
  refine ⟨fun pins s σ H Q I q => ?_⟩
  rw [arm_eval_Dict]
  refine wpAny_bind (wpAny_standAt ?_)
  show wpAny _ _ (dictDisplay [(none, (do let x ← eval em X.env; standAt pos; pure x)), (some (eval k X.env), (do let x ← eval ev X.env; standAt pos; pure x))]) _ _ _
  unfold dictDisplay
  dsimp only
  refine wpAny_bind ?_
  rw [List.forIn_cons]
  refine wpAny_bind ?_
  dsimp only
  refine wpAny_bind (wpAny_pure ?_)
  dsimp only
  refine wpAny_bind (wpAny_alloc ?_)
  have hn := I.hok.fresh (Nat.le_refl s.heap.objs.size)
  have I1 := I.laid (a := s.heap.objs.size) (o := .dK []) (h' := s.heap.push { cls := .type "dict", data := .dict #[] }) (t' := s.toks) (fun _ _ q => Heap.get?_push_of_some _ q) (Nat.le_refl _) (dk_empty s.heap I.big)
  refine wpAny_bind (wpAny_holding (wpAny_bind (thn (hm.run pins _ σ _ _ I1 (q _ hn)) fun m s2 ⟨x, H2, I2, rx, a, kvs, ex, ha, ne, hd0, hz, q2⟩ => wpAny_bind (wpAny_standAt (wpAny_pure ?_)))))
  subst ex
  cases rx
  obtain ⟨z0, hd1, vs0, r0, dd0⟩ := dk_of I2.hok hd0
  cases r0
  obtain ⟨z1, ha1, vs1, r1, dd1⟩ := dk_rd I2.hok ha
  have nod : (vs1.map (·.1)).Nodup := let ⟨_, _, _, _, _, _, _, _, h⟩ := dd1; h
  refine wpAny_bind (wpAny_onRaise (wpAny_tryCatch (wpAny_onRaise (wpAny_holding (merge_plain ne ha1 dd0 dd1 (by rw [List.length_nil, Nat.zero_add, ← r1.length]; exact z1) fun h3 d3 hs3 => ?_)))))
  rw [merged_nil_of_nodup vs1 nod] at d3
  have he3 : ∃ q, h3.get? s.heap.objs.size = some q := let ⟨q, _, _, hq, _⟩ := d3; ⟨q, hq⟩
  have I3 := d_write (ob := .dK kvs) (t' := s2.toks) I2 (by rw [hd0]; exact True.intro) hs3 he3 (dk_new z1 hd1 r1 d3)
  refine wpAny_pure ?_
  dsimp only
  rw [List.forIn_cons]
  refine wpAny_bind ?_
  dsimp only
  rw [if_neg (by simp)]
  refine wpAny_pure ?_
  dsimp only
  rw [List.forIn_nil]
  refine wpAny_pure ?_
  dsimp only
  rw [if_neg (by simp)]
  refine wpAny_bind ?_
  refine wpAny_bind (wpAny_holding (wpAny_subDict (knd := mixKind X.prog X.w) (by simp) ?_))
  have hn3 := I3.hok.fresh (Nat.le_refl h3.objs.size)
  have I4 := I3.laid (a := h3.objs.size) (o := .dK []) (h' := h3.push { cls := .type "dict", data := .dict #[] }) (t' := s2.toks) (fun _ _ q => Heap.get?_push_of_some _ q) (Nat.le_refl _) (dk_empty h3 I3.big)
  show wpAny _ _ (evalPairs [(eval k X.env, (do let x ← eval ev X.env; standAt pos; pure x))]) _ _ _
  unfold evalPairs evalPairs
  refine wpAny_bind (thn (hk.run pins _ σ _ _ I4 (q2 _ hn3)) fun kv s5 ⟨y, H5, I5, ry, q5⟩ => ?_)
  refine wpAny_bind (wpAny_holding (wpAny_bind (thn (hv.run pins s5 σ _ _ I5 q5) fun vv s6 ⟨z, H6, I6, rz, key, ey, eu, ed, q6⟩ => wpAny_bind (wpAny_standAt (wpAny_pure ?_)))))
  refine wpAny_bind (wpAny_holding (wpAny_pure (wpAny_pure ?_)))
  subst ey
  obtain ⟨rs, c, rk⟩ := carries_of (P := X.prog) (w := X.w) (kvs := [(key, z)]) (ws := [(kv, vv)]) (.cons ⟨ry, rz⟩ .nil)
  obtain ⟨z6, hu6, vs6, r6, dd6⟩ := dk_of I6.hok eu
  cases r6
  refine ⟨rs, c, dd6, fun h7 dd7 hs7 => ?_⟩
  have he7 : ∃ q, h7.get? h3.objs.size = some q := let ⟨q, _, _, hq, _⟩ := dd7; ⟨q, hq⟩
  have rk1 : KV [(key, z)] (merged [] rs) := rk.merge .nil
  have I7 := d_write (ob := .dK [(key, z)]) (t' := s6.toks + [(kv, vv)].length) I6 (by rw [eu]; exact True.intro) hs7 he7 (dk_new (by rw [sizeLine_eq]; simp) hu6 rk1 dd7)
  have nud : h3.objs.size ≠ s.heap.objs.size := fun e => by
    rw [e, upd_same] at hn3
    cases hn3
  have ed7 : upd H6 h3.objs.size (.dK [(key, z)]) s.heap.objs.size = some (.dK kvs) := by rw [upd_ne (Ne.symm nud)]; exact ed
  obtain ⟨z8, hd8, vs8, r8, dd8⟩ := dk_of I7.hok ed7
  refine wpAny_bind (wpAny_onRaise (wpAny_holding (merge_plain (Ne.symm nud) hu6 dd8 dd7 ?_ fun h9 d9 hs9 => ?_)))
  · have e1 := rk1.length
    have e2 := r8.length
    rw [← e1, ← e2, List.length_singleton]
    omega
  · have he9 : ∃ q, h9.get? s.heap.objs.size = some q := let ⟨q, _, _, hq, _⟩ := d9; ⟨q, hq⟩
    have rk9 : KV (mergeK kvs [(key, z)]) (merged vs8 (merged [] rs)) := rk1.merge r8
    have z9 : (mergeK kvs [(key, z)]).length ≤ sizeLine := by
      have := length_mergeK [(key, z)] kvs
      rw [List.length_singleton] at this
      omega
    have I9 := d_write (ob := .dK (mergeK kvs [(key, z)])) (t' := s6.toks + [(kv, vv)].length) I7 (by rw [ed7]; exact True.intro) hs9 he9 (dk_new z9 hd8 rk9 d9)
    exact wpAny_pure (wpAny_pure ⟨.ref s.heap.objs.size, _, I9, rfl, q6⟩)
end
end MM

set_option Elab.async false
set_option linter.all false
set_option maxRecDepth 100000
set_option maxHeartbeats 4000000
/-! x in o, len(o), o[k], o(), o(k = v) by the methods of an own class -/
namespace OC
open PySem PySem.Spec PyProof.Rows L2 StX
def rInOwn (C : Addr) (sp : Sp) (E : XK) (g : Bool → Bool) : R2 := fun x y H Q => ∃ a dx fs, y = .ref a ∧ H a = some (.ins C dx fs) ∧ sp [y, x] H (fun v H' => ∃ c, v = .bl c ∧ Q (.bl (g c)) H') E
def rLenOwn (C : Addr) (sp : Sp) (E : XK) : List V → Hp → VK → Prop := fun xs H Q => ∃ a dx fs, xs = [.ref a] ∧ H a = some (.ins C dx fs) ∧ sp [.ref a] H (fun v H' => ∃ n : Int, v = .int n ∧ 0 ≤ n ∧ n < 2 ^ 63 ∧ Q (.int n) H') E
section
variable {X : Cx} {CX : CXT} {n : Nat} {C f : Addr} {sp : Sp} {E : XK}
theorem op_inOwn (F : FnR X.prog X.w X.K X.mg X.base CX n f sp) (hr : Room n X.A) (hs : PySem.W.findIn X.K (.ref C) "__contains__" = some (some (.ref f))) (hf : PySem.W.isFn X.K (.ref f) = true) (hx : Passes CX X E) : OpR X (compareOp .In) (rInOwn C sp E id) := by
  intro pins s σ H x y v u Q I rx ry h
  obtain ⟨a, dx, fs, rfl, ha, hsp⟩ := h
  cases ry
  obtain ⟨mA, J, _⟩ := ins_get I.hok ha
  obtain ⟨od, J, _⟩ := J.look
  obtain ⟨m, hF⟩ := I.fr
  refine PySem.W.in_K hF I.ok.mod.kin J hs hf ?_
  refine thn (wpAny_call (run_fnR (us := [.ref a, v]) (vs := [V.ref a, x]) F hr hx I (.cons rfl (.cons rx .nil)) hsp)) fun r s' ⟨z, H', I', rz, c, ez, q⟩ => ?_
  subst ez
  cases rz
  exact wpAny_truthy_bool ⟨.bl c, H', I', rfl, q⟩
theorem op_notInOwn (F : FnR X.prog X.w X.K X.mg X.base CX n f sp) (hr : Room n X.A) (hs : PySem.W.findIn X.K (.ref C) "__contains__" = some (some (.ref f))) (hf : PySem.W.isFn X.K (.ref f) = true) (hx : Passes CX X E) : OpR X (compareOp .NotIn) (rInOwn C sp E not) := by
  intro pins s σ H x y v u Q I rx ry h
  obtain ⟨a, dx, fs, rfl, ha, hsp⟩ := h
  cases ry
  obtain ⟨mA, J, _⟩ := ins_get I.hok ha
  obtain ⟨od, J, _⟩ := J.look
  obtain ⟨m, hF⟩ := I.fr
  refine PySem.W.notIn_K hF I.ok.mod.kin J hs hf ?_
  refine thn (wpAny_call (run_fnR (us := [.ref a, v]) (vs := [V.ref a, x]) F hr hx I (.cons rfl (.cons rx .nil)) hsp)) fun r s' ⟨z, H', I', rz, c, ez, q⟩ => ?_
  subst ez
  cases rz
  exact wpAny_truthy_bool ⟨.bl (!c), H', I', rfl, q⟩
theorem call_lenOwn (F : FnR X.prog X.w X.K X.mg X.base CX n f sp) (hr : Room (n + 1) X.A) (hs : PySem.W.findIn X.K (.ref C) "__len__" = some (some (.ref f))) (hf : PySem.W.isFn X.K (.ref f) = true) (hx : Passes CX X E) : CallR X (.builtin "len") (rLenOwn C sp E) := by
  intro pins s σ H xs us Q I r h
  obtain ⟨a, dx, fs, rfl, ha, hsp⟩ := h
  obtain ⟨u, rfl, ru⟩ := vals1 r
  cases ru
  obtain ⟨mA, J, _⟩ := ins_get I.hok ha
  obtain ⟨od, J, _⟩ := J.look
  obtain ⟨m, hF⟩ := I.fr
  refine PySem.W.len_K hF I.ok.mod.kin J hs hf ?_
  refine wpAny_call (codeAny_mono (F X.A.in1 X.stack s H [.ref a] [V.ref a] _ E hr.in1 I.env0.in1 (.cons rfl .nil) hsp) fun r s' hq => ?_)
  cases r with
  | error e => exact hx pins σ H s e s' I hq
  | ok fl =>
    cases fl with
    | ret u =>
      obtain ⟨z, H', I', rz, k, ez, h0, h1, q⟩ := I.after hq
      subst ez
      obtain ⟨t, rfl⟩ := rz
      exact ⟨⟨h0, h1⟩, .int k, H', I'.tok _, ⟨_, rfl⟩, q⟩
    | next => exact False.elim hq
    | brk => exact False.elim hq
    | cont => exact False.elim hq
end
section
variable {M : Model} {A : Around} {E : Value → Shared → Prop} {s : Shared} {a : Addr} {pos : Pos} {Q : Value → Shared → Prop} {args : List (Bool × Sem Value)} {kws : List (Option Str × Sem Value)}
theorem callsOwn (hplain : (args.any (·.1) || kws.any (·.1.isNone)) = false)
    (h : wpAny M A (evalArgs (.ref a) true args kws) (fun z t => (∃ C ox od, PySem.W.InstAt t.heap a ox C od ∧ ox.data = .plain) ∧ wpAny M A (call (.ref a) ([] ++ z.pos) z.kw) Q E t) E s) : wpAny M A (callWith pos (.ref a) [] args kws) Q E s := by
  unfold callWith
  refine wpAny_bind (wpAny_holding (thn h fun z t ⟨⟨C, ox, od, J, hd⟩, hq⟩ => wpAny_bind (wpAny_standAt ?_)))
  have L := PySem.W.kco_keeper (M := M) J hd
  simp only [hplain]
  refine wpAny_bind (L.here ?_)
  have last : ∀ {m : Sem Value}, wpAny M A m Q E t → wpAny M A (do let r ← m; holding [r] point; pure r) Q E t := fun hm => wpAny_bind (thn hm fun r t2 hr => wpAny_bind (wpAny_holding (wpAny_point (wpAny_pure hr))))
  exact last (wpAny_operateT hq)
end
section
variable {X : Cx} {CX : CXT} {k : Nat} {C g : Addr} {fd : FuncData} {ps ks : List Str} {sp : Sp} {E : XK} {fe : Expr} {tf : TE} {tk : TA} {pos : Pos} {kws : List Keyword} {gg : List Value → List Value → List Value} {gV : List V → List V → List V}
/-- o() -/
theorem pe_callO0 (hf : PE X fe tf) (c : CallO X.K C g) (F : FnR X.prog X.w X.K X.mg X.base CX k g sp) (hr : Room k X.A) (hx : Passes CX X E)
    (ht : eval (.Call fe [] [] pos) X.env = (do callWith pos (← eval fe X.env) [] (backTo pos (starEach [] X.env)) (backToKw pos (keywordEach [] X.env))) := by rfl) : PE X (.Call fe [] [] pos) (tCallO X C sp E tf tNil) := by
  refine ⟨fun pins s σ H Q I h => ?_⟩
  refine Call_ (thn (hf.run pins s σ H _ I h) fun u s1 ⟨y, H1, I1, ry, a, ey, hi, q⟩ => ?_) ht
  subst ey
  obtain rfl : u = Value.ref a := ry
  obtain ⟨ox, od, J, hd⟩ := insC_at I1 hi
  exact callsOwn rfl (evalArgs_nil3 ⟨⟨C, ox, od, J, hd⟩, run_callO c F hr hx I1 hi .nil q⟩)
/-- o(x = e, ..) -/
def tCallOK (X : Cx) (C : Addr) (sp : Sp) (gV : List V → List V → List V) (E : XK) (tf : TE) (tk : TA) : TE := fun σ H Q => tf σ H fun y H1 => ∃ a, y = V.ref a ∧ tk σ H1 fun zs H2 => InsC X H2 a C ∧ sp (gV [.ref a] zs) H2 Q E
theorem pe_callOK (hf : PE X fe tf) (c : CallO X.K C g) (F : FnOk X.prog X.w X.K X.mg X.base CX k g fd ps sp) (hr : Room k X.A) (hb : KBinds X.K fd ps ks gg gV) (hx : Passes CX X E) (hkw : PK X kws tk)
    (ht : eval (.Call fe [] kws pos) X.env = (do callWith pos (← eval fe X.env) [] (backTo pos (starEach [] X.env)) (backToKw pos (keywordEach kws X.env))) := by rfl)
    (hall : (backToKw pos (keywordEach kws X.env)).all (·.1.isSome) = true := by rfl) (hnone : (backToKw pos (keywordEach kws X.env)).any (·.1.isNone) = false := by rfl) (hks : (backToKw pos (keywordEach kws X.env)).filterMap (·.1) = ks := by rfl) :
    PE X (.Call fe [] kws pos) (tCallOK X C sp gV E tf tk) := by
  refine ⟨fun pins s σ H Q I h => ?_⟩
  rw [ht]
  refine wpAny_bind (thn (hf.run pins s σ H _ I h) fun u s1 ⟨y, H1, I1, ry, a, ey, q⟩ => ?_)
  subst ey
  obtain rfl : u = Value.ref a := ry
  refine callsOwn hnone (evalArgs_kw_nil hall (thn (hkw.run pos pins s1 σ H1 _ I1 q) fun ws s2 ⟨zs, H2, I2, rz, hi, q2⟩ => ?_))
  obtain ⟨ox, od, J, hd⟩ := insC_at I2 hi
  refine ⟨⟨C, ox, od, J, hd⟩, ?_⟩
  rw [hks]
  have r2 := hb.rel (us := [.ref a]) (vs := [.ref a]) (.cons rfl .nil) rz
  have hl : (gg [.ref a] ws).length = ps.length := by rw [← r2.length]; exact F.len _ _ _ _ q2
  refine wpAny_call (PySem.W.kco_code I2.kIn J hd c.at_ c.fn c.fi (codeAny_mono (F.run X.A X.stack s2 H2 ⟨[.ref a], ks.zip ws⟩ (gg [.ref a] ws) (gV [.ref a] zs) Q E hr I2.env0 (hb.to s2 [.ref a] ws I2.kIn hl) r2 q2) fun r s' hq => ?_))
  cases r with
  | error e => exact hx pins σ H2 s2 e s' I2 hq
  | ok fl =>
    cases fl with
    | ret u => exact I2.after hq
    | next => exact False.elim hq
    | brk => exact False.elim hq
    | cont => exact False.elim hq
end
end OC

set_option Elab.async false
set_option linter.all false
set_option maxRecDepth 100000
set_option maxHeartbeats 4000000
namespace KX
open PySem PySem.Spec PyProof.Rows L2
/-- what a suite under «as n» (n in slot i) leaves: the name is gone behind it -/
def asEnds (i : Nat) (D : Ends) : Ends := { nx := fun σ' H' => D.nx (σ'.set i none) H', rt := D.rt, bk := fun σ' H' => D.bk (σ'.set i none) H', ct := fun σ' H' => D.ct (σ'.set i none) H' }
def asSuite (i : Nat) (ts : Addr → Value → Option Addr → TS) : Addr → Value → Option Addr → TS := fun a cls d D σ H => ts a cls d (asEnds i D) (σ.set i (some (.ref a))) H
/-- except clauses, with a name or without -/
inductive Mix (X : Cx) : List ExceptHandler → List (Value × (Addr → Value → Option Addr → TS)) → Prop
  | nil : Mix X [] []
  | bare {x : Str} {c : Value} {ts : Addr → Value → Option Addr → TS} {b : Stmt} {suite : List Stmt} {np q : Pos} {hds : List ExceptHandler} {l : List (Value × (Addr → Value → Option Addr → TS))} (hc : Names X x c)
      (hsu : ∀ (a : Addr) (oe : Obj) (cls : Value) (d : Option Addr) (pn : List (Addr × Obj)), Zc cls d oe → (∃ vs, oe.data = .fields vs) → PSs (X.suite a ((a, oe) :: pn)) (b :: suite) (ts a cls d)) (r : Mix X hds l) :
      Mix X (.ExceptHandler (some (.Name x np)) none (b :: suite) q :: hds) ((c, ts) :: l)
  | named {x n : Str} {i : Nat} {c : Value} {ts : Addr → Value → Option Addr → TS} {b : Stmt} {suite : List Stmt} {np q : Pos} {hds : List ExceptHandler} {l : List (Value × (Addr → Value → Option Addr → TS))} (hc : Names X x c)
      (hN : X.N.Nodup) (hi : X.N[i]? = some n) (hln : X.env.kindOf n = some .local)
      (hsu : ∀ (a : Addr) (oe : Obj) (cls : Value) (d : Option Addr) (pn : List (Addr × Obj)), Zc cls d oe → (∃ vs, oe.data = .fields vs) → PSs (X.suite a ((a, oe) :: pn)) (b :: suite) (ts a cls d)) (r : Mix X hds l) :
      Mix X (.ExceptHandler (some (.Name x np)) (some n) (b :: suite) q :: hds) ((c, asSuite i ts) :: l)
section
variable {X : Cx} {body : List Stmt} {h0 : ExceptHandler} {hds : List ExceptHandler} {l : List (Value × (Addr → Value → Option Addr → TS))} {pos : Pos} {tb : WX → TS} {Wout : WX}
theorem psTryMix (hs : X.stack = X.env :: X.outer) (hf : X.env.frame = some X.env.locals) (tk : Takes X Wout)
    (hb : ∀ (W : WX) (pn : List (Addr × Obj)) (xe : Value → Shared → Prop), Takes (X.tr pn xe) W → PassesOwn (model X.prog X.w) X.A X.env xe → PSs (X.tr pn xe) body (tb W))
    (hh : Mix X (h0 :: hds) l) : PS X (.Try body (h0 :: hds) [] [] pos) (fun D σ H => tb (wMany X.K Wout D l) D σ H) := by
  refine ⟨fun pins s σ H D I h => ?_⟩
  have ok := I.ok
  have frames : X.A.frames = some (X.env :: X.outer) := by
    rw [ok.frames, hs]
  refine wpAny_Try_except ?_
  have inner := hb (wMany X.K Wout D l) (X.pn ++ pins) (fun e s1 => wpAny (model X.prog X.w) X.A (noteFrame e X.env) (fun _ s2 =>
    wpAny (model X.prog X.w) X.A (setFlight e none) (fun _ s3 => wpAny (model X.prog X.w) X.A (handleBy e X.env (h0 :: hds)) (SP X pins D) X.xe s3) X.xe s2) X.xe s1)
  refine wpAny_mono ((inner (fun u s' xx => ?_) PassesOwn.looking).run [] s σ H D (I.toTry _) h) (fun f s1 hsp => ?_) (fun _ _ z => z)
  · obtain ⟨a, B, sI, pins', σ', H', cls, d, rfl, J', nb, up, sky, na, os, ag, w⟩ := xx
    have J : Inv X pins σ' H' sI := J'.ofTry ok
    have sky' : Sky B (X.env :: X.outer) a (Zc cls d) X.env.locals s'.heap := by
      rw [← hs]
      exact sky
    show wpAny (model X.prog X.w) X.A (noteFrame (.ref a) X.env) _ _ _
    refine Sky.land Zc.steady frames hf sky' fun h3 fl3 up3 => ?_
    have J3 : Inv X pins σ' H' { s' with heap := h3 } := J.landed nb fl3.1 (up.trans up3) os ag
    obtain ⟨oe3, vs3, he3, hz3, hd3⟩ := fl3.there
    have out : a ∉ frs (X.env :: X.outer) := fun hm => by
      obtain ⟨_, o', e', hnf⟩ := fl3.2.2.1.mem hm
      rw [he3] at e'
      cases e'
      exact hnf _ hd3
    have nL : a ≠ X.env.locals := fun z => out (List.mem_filterMap.mpr ⟨X.env, List.mem_cons_self, by rw [hf, z]⟩)
    have nF : a ∉ X.fs := fun hm => by
      obtain ⟨e, he, q⟩ := List.mem_filterMap.mp hm
      exact out (List.mem_filterMap.mpr ⟨e, List.mem_cons_of_mem _ he, q⟩)
    have S3 := J3.suite he3 hd3 na nL nF
    have LT : PySem.W.Looks (model X.prog X.w) h3 (typeOf (.ref a)) cls := fun A Q E s k q => wpAny_typeOf_ref (k _ _ he3) (by rw [hz3.1]; exact q)
    have asked : ∀ {x : Str} {c : Value} {np : Pos} {Q E : Value → Shared → Prop}, Names X x c → Q c { s' with heap := h3 } → wpAny (model X.prog X.w) (X.A.mark (some (.ref a))) (eval (.Name x np) X.env) Q E { s' with heap := h3 } := fun {x c np Q E} hc q => by
      obtain ⟨hg, hdbg, hm | ⟨hm, hv, hnn⟩⟩ := hc
      · exact ld_glob (X := X.suite a ((a, oe3) :: (X.pn ++ pins))) S3 hg hm q hdbg
      · exact ld_blt (X := X.suite a ((a, oe3) :: (X.pn ++ pins))) S3 hg hm hv q hnn hdbg
    have go : ∀ {hds' : List ExceptHandler} {l' : List (Value × (Addr → Value → Option Addr → TS))}, Mix X hds' l' → wMany X.K Wout D l' cls d σ' H' →
        wpAny (model X.prog X.w) X.A (handleBy (.ref a) X.env hds') (SP X pins D) X.xe { s' with heap := h3 } := by
      intro hds' l' hk
      induction hk with
      | nil =>
        intro w
        refine wpAny_handleBy_nil ?_
        obtain ⟨k1, k2, k3, oe, vs, T, oT, ts', he, hz, hd, h1, hr⟩ := id fl3
        unfold PySem.passOn
        refine wpAny_bind (wpAny_field he hd h1 ?_)
        rw [if_neg (show ¬ ((Value.ref T == Value.none) = true) from by simp)]
        have fin : wpAny (model X.prog X.w) X.A (setFlight (.ref a) X.env.frame) (fun _ s4 => wpAny (model X.prog X.w) X.A (throw (.ref a) : Sem Flow) (SP X pins D) X.xe s4) X.xe { s' with heap := h3 } := by
          rw [hf]
          refine HandSPX.setFlight_upZ fl3 fun h4 hh4 up4 => wpAny_throw (tk _ _ ?_)
          exact ⟨a, B, sI, pins, σ', H', cls, d, rfl, J, nb, (up.trans up3).trans up4, .inr (.inr (by rw [hs]; exact hh4)), na, os, ag, w⟩
        first
          | exact wpAny_bind (wpAny_pure (wpAny_bind fin))
          | exact wpAny_bind fin
      | @bare x c ts b suite np q hds2 l2 hc hsu r ih =>
        intro w
        obtain ⟨b, hb1, hyes, hno⟩ := w
        refine wpAny_handleBy_cons (codeAny_handlers_test ?_) (by intro q; cases q)
        have LM := PySem.W.exm_one (M := model X.prog X.w) (J3.kIn) LT hb1
        refine asked hc (LM.here ?_)
        cases b with
        | true =>
          refine codeAny_handlers_suite ?_
          refine HandSPX.lands_againZ fl3 fun h4 fl4 up4 => ?_
          have J4 : Inv X pins σ' H' { s' with heap := h4 } := J.landed nb fl4.1 ((up.trans up3).trans up4) os ag
          obtain ⟨oe4, vs4, he4, hz4, hd4⟩ := fl4.there
          have S4 := J4.suite he4 hd4 na nL nF
          refine wpAny_mono ((hsu a oe4 cls d (X.pn ++ pins) hz4 ⟨_, hd4⟩).run [] _ _ H' _ S4 (hyes rfl a na)) (fun f s6 hsp => ?_) (fun _ _ z => False.elim z)
          cases f with
          | ret u =>
            obtain ⟨v6, σ6, H6, S6, r6, q6⟩ := hsp
            exact ⟨_, _, _, S6.unsuite ok, r6, q6⟩
          | _ =>
            obtain ⟨σ6, H6, S6, q6⟩ := hsp
            exact ⟨_, _, S6.unsuite ok, q6⟩
        | false => exact ih (hno rfl)
      | @named x n i c ts b suite np q hds2 l2 hc hN hi hln hsu r ih =>
        intro w
        obtain ⟨b, hb1, hyes, hno⟩ := w
        refine wpAny_handleBy_cons (codeAny_handlers_test ?_) (by intro q; cases q)
        have LM := PySem.W.exm_one (M := model X.prog X.w) (J3.kIn) LT hb1
        refine asked hc (LM.here ?_)
        cases b with
        | true =>
          refine codeAny_handlers_suite_as ?_
          refine HandSPX.lands_againZ fl3 fun h4 fl4 up4 => ?_
          have J4 : Inv X pins σ' H' { s' with heap := h4 } := J.landed nb fl4.1 ((up.trans up3).trans up4) os ag
          obtain ⟨oe4, vs4, he4, hz4, hd4⟩ := fl4.there
          have S4 := J4.suite he4 hd4 na nL nF
          refine store_ok (X := X.suite a ((a, oe4) :: (X.pn ++ pins))) (v := .ref a) S4 hN hi (.inl hln) rfl (fun s5 S5 => ?_) (.inr hln)
          refine wpAny_mono ((hsu a oe4 cls d (X.pn ++ pins) hz4 ⟨_, hd4⟩).run [] s5 _ H' _ S5 (hyes rfl a na)) (fun f s6 hsp => ?_) (fun _ _ z => False.elim z)
          have fin : ∀ {σ6 : L2.St} {H6 : Hp} {Q : Shared → Prop}, Inv (X.suite a ((a, oe4) :: (X.pn ++ pins))) [] σ6 H6 s6 → (∀ s7, Inv X pins (σ6.set i none) H6 s7 → Q s7) →
              wpAny (model X.prog X.w) X.A (do bindName X.env n .none; unbindBehindTheSuite X.env n q) (fun _ s7 => Q s7) X.xe s6 := fun S6 hq => gone_ok (S6.unsuite ok) hN hi hln hq
          cases f with
          | ret u =>
            obtain ⟨v6, σ6, H6, S6, r6, q6⟩ := hsp
            exact fin S6 fun s7 J7 => ⟨_, _, _, J7, r6, q6⟩
          | next =>
            obtain ⟨σ6, H6, S6, q6⟩ := hsp
            exact fin S6 fun s7 J7 => ⟨_, _, J7, q6⟩
          | brk =>
            obtain ⟨σ6, H6, S6, q6⟩ := hsp
            exact fin S6 fun s7 J7 => ⟨_, _, J7, q6⟩
          | cont =>
            obtain ⟨σ6, H6, S6, q6⟩ := hsp
            exact fin S6 fun s7 J7 => ⟨_, _, J7, q6⟩
        | false => exact ih (hno rfl)
    exact go hh w
  · cases f with
    | ret u =>
      obtain ⟨v, σ', H', J', r, q⟩ := hsp
      exact ⟨v, σ', H', J'.ofTry ok, r, q⟩
    | next =>
      obtain ⟨σ', H', J', q⟩ := hsp
      exact wpAny_execs_nil ⟨σ', H', J'.ofTry ok, q⟩
    | brk =>
      obtain ⟨σ', H', J', q⟩ := hsp
      exact ⟨σ', H', J'.ofTry ok, q⟩
    | cont =>
      obtain ⟨σ', H', J', q⟩ := hsp
      exact ⟨σ', H', J'.ofTry ok, q⟩
end
end KX

set_option Elab.async false
set_option linter.all false
set_option maxRecDepth 100000
set_option maxHeartbeats 8000000
/-! the classes: sources, made targets -/
namespace PJ
open PySem PySem.Spec PyProof.Rows L2 KS KS.La
open KX hiding sameUpd
abbrev sSInit : Stmt := inClass (top 9) 0
abbrev sSEq : Stmt := inClass (top 9) 1
abbrev sSOut : Stmt := inClass (top 9) 2
abbrev sMInit : Stmt := inClass (top 10) 0
abbrev sMEq : Stmt := inClass (top 10) 1
abbrev sMRec : Stmt := inClass (top 10) 2
abbrev sMArg : Stmt := inClass (top 10) 3
abbrev sPInit : Stmt := inClass (top 11) 0
abbrev sPGet : Stmt := inClass (top 11) 1
abbrev sPHas : Stmt := inClass (top 11) 3
abbrev sPLen : Stmt := inClass (top 11) 4
abbrev sPEq : Stmt := inClass (top 11) 5
abbrev sPNames : Stmt := inClass (top 11) 6
abbrev sPPut : Stmt := inClass (top 11) 7
abbrev sPWithout : Stmt := inClass (top 11) 8
abbrev sPWrite : Stmt := inClass (top 11) 9
abbrev sPErase : Stmt := inClass (top 11) 10
abbrev sPOuts : Stmt := inClass (top 11) 11
abbrev FnM (K : PySem.W.Frag) (x q : Str) (st : Stmt) (f : Addr) (fd : FuncData) : Prop := FunD K x q (defArgs st) (defBody st) (defScope st) [] [] f fd
/-- a class's instances in isinstance -/
structure IsC (K : PySem.W.Frag) (C : Addr) : Prop where
  cl : Cls K C
  ha : PySem.W.findIn K (.ref C) "__class__" = some (some (.builtin "object.__class__"))
  hn : PySem.W.specialIn K (.builtin "object.__class__") "__get__" = some (some (.builtin "getset_descriptor.__get__"))
  ht : PySem.W.takesIn K (.builtin "object.__class__") = some true
  hm : PySem.W.mroIn K C (.type "object") = some true
theorem IsC.ty {K : PySem.W.Frag} {C : Addr} (c : IsC K C) {H : Hp} {a dx : Addr} {fs : List (Str × V)} (h : H a = some (.ins C dx fs)) : TyX K H (.ref a) (.ref C) := .base (.ins h c.cl c.ha c.hn c.ht c.hm)
theorem call_dictD {X : Cx} : CallR X (.type "dict") (fun xs H Q => ∃ a kvs, xs = [V.ref a] ∧ H a = some (.dK kvs) ∧ ∀ p, H p = none → Q (.ref p) (upd H p (.dK kvs))) := by
  intro pins s σ H xs us Q I r h
  obtain ⟨a, kvs, rfl, ha, q⟩ := h
  obtain ⟨u, rfl, ru⟩ := vals1 r
  cases ru
  exact d_copyOf I (.inl ha) fun p s' n I' => ⟨.ref p, _, I', rfl, q p n⟩
theorem noneSame {H H' : Hp} {p : Addr} (s : Same H H') (h : H' p = none) : H p = none := by
  cases e : H p with
  | none => rfl
  | some o => rw [s _ _ e] at h; cases h
/-- self.f = dict(x) -/
def spDInit (C : Addr) (fld : Str) : Sp := fun vs H Q _ => ∃ s ds M kvs, vs = [.ref s, .ref M] ∧ H s = some (.ins C ds []) ∧ H M = some (.dK kvs) ∧ ∀ H' D, Kp s H H' → H D = none → H' s = some (.ins C ds [(fld, .ref D)]) → H' D = some (.dK kvs) → Q .non H'
theorem dMade {C : Addr} {fld : Str} {H : Hp} {x dx M : Addr} {kvs : List (Key × V)} {R : Hp → Prop} {E : XK} (hx : H x = none) (hdx : H dx = none) (ne : dx ≠ x) (hM : H M = some (.dK kvs)) (q : ∀ H' D, H D = none → Same H H' → H' x = some (.ins C dx [(fld, .ref D)]) → H' D = some (.dK kvs) → R H') :
    spDInit C fld [.ref x, .ref M] (upd (upd H dx (.own x)) x (.ins C dx [])) (fun v H2 => v = .non ∧ R H2) E := by
  have s1 : Same H (upd (upd H dx (.own x)) x (.ins C dx [])) := fun b o hb => by
    rw [upd_ne (ne_of_none hb hx), upd_ne (ne_of_none hb hdx)]
    exact hb
  exact ⟨x, dx, M, kvs, rfl, upd_same, s1 _ _ hM, fun H' D k nD h1 h2 => ⟨rfl, q H' D (noneSame s1 nD) (fun b o hb => k _ _ (ne_of_none hb hx) (s1 _ _ hb)) h1 h2⟩⟩
section
variable {P : Program} {w : World} {K : PySem.W.Frag} {mg : Str → Option Value} {base : Heap} {f : Addr} {fd : FuncData} {CS CM CP : Addr}
theorem scSInit : FnScope ["self", "outputs"] ["self", "outputs"] (defScope sSInit) := ⟨rfl, rfl, rfl, by decide +kernel, rfl, by decide +kernel, by decide +kernel⟩
theorem okSInit {k : Nat} (cW : Cls K CS) (n1 : NoAttr K CS "_outputs") (md : mg "dict" = none) (F : FnM K "__init__" "Source.__init__" sSInit f fd) : FnOk P w K mg base CX0 (k + 1) f fd ["self", "outputs"] (spDInit CS "_outputs") := by
  refine F.ok scSInit (fun vs H Q E h => ?_) (fun cdv A outer s H vs Q E hr h => ?_)
  · obtain ⟨a, ds, M, mvs, rfl, _⟩ := h
    rfl
  · obtain ⟨a, ds, M, mvs, rfl, ha, hM, q⟩ := h
    refine ⟨_, PSs.nox (pss_one (ps_fld (pv 0) (pe_callTy call_dictD (by rfl) md (by decide +kernel) (pa_cons (pv 1) pa_nil)) rfl)), ?_⟩
    refine ⟨.ref M, rfl, M, mvs, rfl, hM, fun D hD => ⟨.ref a, rfl, a, CS, ds, _, rfl, KS.sameUpd hD _ _ ha, cW, n1, by decide, ?_⟩⟩
    refine q _ D ((Kp.same (KS.sameUpd hD)).trans Kp.put) hD upd_same ?_
    rw [upd_ne fun z => by rw [z, ha] at hD; cases hD]
    exact upd_same
theorem scPInit : FnScope ["self", "targets"] ["self", "targets"] (defScope sPInit) := ⟨rfl, rfl, rfl, by decide +kernel, rfl, by decide +kernel, by decide +kernel⟩
theorem okPInit {k : Nat} (cW : Cls K CP) (n1 : NoAttr K CP "_targets") (md : mg "dict" = none) (F : FnM K "__init__" "Project.__init__" sPInit f fd) : FnOk P w K mg base CX0 (k + 1) f fd ["self", "targets"] (spDInit CP "_targets") := by
  refine F.ok scPInit (fun vs H Q E h => ?_) (fun cdv A outer s H vs Q E hr h => ?_)
  · obtain ⟨a, ds, M, mvs, rfl, _⟩ := h
    rfl
  · obtain ⟨a, ds, M, mvs, rfl, ha, hM, q⟩ := h
    refine ⟨_, PSs.nox (pss_one (ps_fld (pv 0) (pe_callTy call_dictD (by rfl) md (by decide +kernel) (pa_cons (pv 1) pa_nil)) rfl)), ?_⟩
    refine ⟨.ref M, rfl, M, mvs, rfl, hM, fun D hD => ⟨.ref a, rfl, a, CP, ds, _, rfl, KS.sameUpd hD _ _ ha, cW, n1, by decide, ?_⟩⟩
    refine q _ D ((Kp.same (KS.sameUpd hD)).trans Kp.put) hD upd_same ?_
    rw [upd_ne fun z => by rw [z, ha] at hD; cases hD]
    exact upd_same
def fsM (vr va : V) : List (Str × V) := [("_recipe", vr), ("_arguments", va)]
def spMInit (K : PySem.W.Frag) (CM : Addr) : Sp := fun vs H Q _ => ∃ s ds vr t xs, vs = [.ref s, vr, .ref t] ∧ H s = some (.ins CM ds []) ∧
  ((SqT K H t xs ∧ ∀ H', Kp s H H' → H' s = some (.ins CM ds (fsM vr (.ref t))) → Q .non H') ∨ (H t = some (.lst xs) ∧ ∀ H' u, Kp s H H' → H u = none → H' u = some (.tup xs) → H' s = some (.ins CM ds (fsM vr (.ref u))) → Q .non H'))
theorem scMInit : FnScope ["self", "recipe", "arguments"] ["self", "recipe", "arguments"] (defScope sMInit) := ⟨rfl, rfl, rfl, by decide +kernel, rfl, by decide +kernel, by decide +kernel⟩
theorem okMInit {k : Nat} {dvs : List V} (cW : Cls K CM) (n1 : NoAttr K CM "_recipe") (n2 : NoAttr K CM "_arguments") (mt : mg "tuple" = none) (F : FunD K "__init__" "Made.__init__" (defArgs sMInit) (defBody sMInit) (defScope sMInit) dvs [] f fd) : FnOk P w K mg base CX0 (k + 1) f fd ["self", "recipe", "arguments"] (spMInit K CM) := by
  refine F.ok scMInit (fun vs H Q E h => ?_) (fun cdv A outer s H vs Q E hr h => ?_)
  · obtain ⟨a, ds, vr, t, xs, rfl, _⟩ := h
    rfl
  · obtain ⟨a, ds, vr, t, xs, rfl, ha, h⟩ := h
    refine ⟨_, PSs.nox (pss_cons (ps_fld (pv 0) (pv 1) rfl) (pss_one (ps_fld (pv 0) (pe_callTy (T := "tuple") call_tuple_of (by rfl) mt (by decide +kernel) (pa_cons (pv 2) pa_nil)) rfl))), ?_⟩
    refine ⟨vr, rfl, .ref a, rfl, a, CM, ds, _, rfl, ha, cW, n1, by decide, ?_⟩
    have h1 : upd H a (.ins CM ds (putF "_recipe" vr [])) a = some (.ins CM ds [("_recipe", vr)]) := upd_same
    have k1 : Kp a H (upd H a (.ins CM ds (putF "_recipe" vr []))) := Kp.put
    generalize upd H a (.ins CM ds (putF "_recipe" vr [])) = H1 at *
    rcases h with ⟨ht, q⟩ | ⟨ht, q⟩
    · have ht1 : SqT K H1 t xs := by
        have nt : ∀ {o}, H t = some o → (∀ D d f, o ≠ .ins D d f) → H1 t = some o := fun e z => k1 _ _ (fun w => by rw [w, ha] at e; exact z _ _ _ (Option.some.inj e).symm) e
        rcases ht with (h | ⟨o, h⟩) | h
        · exact .inl (.inl (nt h fun _ _ _ z => nomatch z))
        · exact .inl (.inr ⟨o, nt h fun _ _ _ z => nomatch z⟩)
        · exact .inr h
      refine ⟨.ref t, rfl, t, xs, rfl, .inr ⟨ht1, .ref a, rfl, a, CM, ds, _, rfl, h1, cW, n2, by show 1 < 1000; decide, ?_⟩⟩
      exact q _ (k1.trans Kp.put) upd_same
    · have ht1 : H1 t = some (.lst xs) := k1 _ _ (fun w => by rw [w, ha] at ht; cases ht) ht
      refine ⟨.ref t, rfl, t, xs, rfl, .inl ⟨.inl (.inl ht1), fun u hu => ⟨.ref a, rfl, a, CM, ds, _, rfl, KS.sameUpd hu _ _ h1, cW, n2, by show 1 < 1000; decide, ?_⟩⟩⟩
      have nua : u ≠ a := fun z => by rw [z, h1] at hu; cases hu
      refine q _ u ((k1.trans (Kp.same (KS.sameUpd hu))).trans Kp.put) ?_ (by rw [upd_ne nua]; exact upd_same) upd_same
      cases e : H u with
      | none => rfl
      | some o => rw [k1 _ _ nua e] at hu; cases hu
def spSOut (CS : Addr) : Sp := fun vs H Q _ => ∃ s ds d kvs, vs = [.ref s] ∧ H s = some (.ins CS ds [("_outputs", .ref d)]) ∧ H d = some (.dK kvs) ∧ ∀ p, H p = none → Q (.ref p) (upd H p (.dK kvs))
theorem scSOut : FnScope ["self"] ["self"] (defScope sSOut) := ⟨rfl, rfl, rfl, by decide +kernel, rfl, by decide +kernel, by decide +kernel⟩
theorem okSOut {k : Nat} (cW : Cls K CS) (n1 : NoAttr K CS "_outputs") (md : mg "dict" = none) (F : FnM K "outputs" "Source.outputs" sSOut f fd) : FnOk P w K mg base CX0 (k + 1) f fd ["self"] (spSOut CS) := by
  refine F.ok scSOut (fun vs H Q E h => ?_) (fun cdv A outer s H vs Q E hr h => ?_)
  · obtain ⟨a, ds, d, kvs, rfl, _⟩ := h
    rfl
  · obtain ⟨a, ds, d, kvs, rfl, ha, hd, q⟩ := h
    exact ⟨_, PSs.nox (pss_one (ps_ret (pe_callTy call_dictD (by rfl) md (by decide +kernel) (pa_cons (pe_fld (pv 0) rfl) pa_nil)))), .ref a, rfl, a, CS, ds, _, .ref d, rfl, ha, cW, n1, rfl, d, kvs, rfl, hd, q⟩
theorem scMRec : FnScope ["self"] ["self"] (defScope sMRec) := ⟨rfl, rfl, rfl, by decide +kernel, rfl, by decide +kernel, by decide +kernel⟩
theorem okMRec {k : Nat} (cl : Cls K CM) (nf : NoAttr K CM "_recipe") (F : FnM K "recipe" "Made.recipe" sMRec f fd) : FnOk P w K mg base CX0 (k + 1) f fd ["self"] (getSp CM "_recipe") := by
  refine F.ok scMRec (fun vs H Q E h => ?_) (fun cdv A outer s H vs Q E hr h => ?_)
  · obtain ⟨a, dx, fs, v, rfl, _⟩ := h
    rfl
  · obtain ⟨a, dx, fs, v, rfl, ha, hl, q⟩ := h
    exact ⟨_, PSs.nox (pss_one (ps_ret (pe_fld (pv 0) rfl))), .ref a, rfl, a, CM, dx, fs, v, rfl, ha, cl, nf, hl, q⟩
theorem scMArg : FnScope ["self"] ["self"] (defScope sMArg) := ⟨rfl, rfl, rfl, by decide +kernel, rfl, by decide +kernel, by decide +kernel⟩
theorem okMArg {k : Nat} (cl : Cls K CM) (nf : NoAttr K CM "_arguments") (F : FnM K "arguments" "Made.arguments" sMArg f fd) : FnOk P w K mg base CX0 (k + 1) f fd ["self"] (getSp CM "_arguments") := by
  refine F.ok scMArg (fun vs H Q E h => ?_) (fun cdv A outer s H vs Q E hr h => ?_)
  · obtain ⟨a, dx, fs, v, rfl, _⟩ := h
    rfl
  · obtain ⟨a, dx, fs, v, rfl, ha, hl, q⟩ := h
    exact ⟨_, PSs.nox (pss_one (ps_ret (pe_fld (pv 0) rfl))), .ref a, rfl, a, CM, dx, fs, v, rfl, ha, cl, nf, hl, q⟩
/-! ### == -/
theorem osEb {K : PySem.W.Frag} {H : Hp} {os os' : Outs} (nd : (os.map (·.1)).Nodup) : ∀ k v u, (k, v) ∈ oK os → valV (oK os') k = some u → DB.Eb K H 0 v u (eF (oK os) (oK os') k) := fun k v u hm hv => by
  obtain ⟨z, ez⟩ := oK_str _ hm
  have hv1 : valV (oK os) k = some v := valMem (oK_nd nd) hm
  have ev : v = .str z := ez
  subst ev
  obtain ⟨q, hq, hq2⟩ : ∃ q, q ∈ oK os' ∧ q.2 = u := by
    unfold valV at hv
    cases hf : (oK os').find? fun kv => decide (kv.1 = k) with
    | none => rw [hf] at hv; cases hv
    | some q =>
      rw [hf] at hv
      exact ⟨q, List.mem_of_find?_eq_some hf, Option.some.inj hv⟩
  obtain ⟨z', ez'⟩ := oK_str _ hq
  rw [hq2] at ez'
  subst ez'
  refine .inl ⟨rfl, rfl, ?_⟩
  unfold eF
  rw [hv1, hv]
def spSEq (CS CM : Addr) : Sp := fun vs H Q _ => ∃ x dx d os y, vs = [.ref x, .ref y] ∧ H x = some (.ins CS dx [("_outputs", .ref d)]) ∧ OsIn H d os ∧
  ((∃ dy d' os', H y = some (.ins CS dy [("_outputs", .ref d')]) ∧ OsIn H d' os' ∧ Q (.bl (osE os os')) H) ∨ (∃ dy fs, H y = some (.ins CM dy fs) ∧ Q (.bl false) H))
theorem scSEq : FnScope ["self", "other"] ["self", "other"] (defScope sSEq) := ⟨rfl, rfl, rfl, by decide +kernel, rfl, by decide +kernel, by decide +kernel⟩
theorem okSEq {k : Nat} (mi : mg "isinstance" = none) (gC : mg "Source" = some (.ref CS)) (iS : IsC K CS) (iM : IsC K CM) (nf : NoAttr K CS "_outputs") (k1 : PySem.W.kitOne K (.ref CS) (.ref CS) = some true) (k2 : PySem.W.kitOne K (.ref CM) (.ref CS) = some false)
    (F : FnM K "__eq__" "Source.__eq__" sSEq f fd) : FnOk P w K mg base CX0 (k + 1) f fd ["self", "other"] (spSEq CS CM) := by
  refine F.ok scSEq (fun vs H Q E h => ?_) (fun cdv A outer s H vs Q E hr h => ?_)
  · obtain ⟨a, dx, d, os, y, rfl, _⟩ := h
    rfl
  · obtain ⟨a, dx, d, os, y, rfl, ha, ho, h⟩ := h
    refine ⟨_, PSs.nox (pss_one (ps_ret (pe_and (pe_callB call_isi (by rfl) mi (by decide +kernel) (pa_cons (pv 1) (pa_cons (pe_glob (v := .ref CS) (by rfl) gC rfl) pa_nil))) (pe_one (pe_cmpR (r := DB.rEqDB K) (DB.op_eqDB (DB.un100 hr)) (pe_fld (pv 0) rfl) (pe_fld (pv 1) rfl) (nomark _)))))), ?_⟩
    rcases h with ⟨dy, d', os', hb, ho', q⟩ | ⟨dy, fs, hb, q⟩
    · refine ⟨.ref y, rfl, .ref y, .ref CS, .ref CS, .ref CS, true, rfl, .own CS, iS.ty hb, k1, true, rfl, iteT ?_⟩
      exact ⟨.ref a, rfl, a, CS, dx, _, .ref d, rfl, ha, iS.cl, nf, rfl, .ref y, rfl, y, CS, dy, _, .ref d', rfl, hb, iS.cl, nf, rfl, 0, d, d', oK os, oK os', eF (oK os) (oK os'), by decide, rfl, rfl, ho.1, ho'.1, osEb ho.2.1, q⟩
    · exact ⟨.ref y, rfl, .ref y, .ref CS, .ref CM, .ref CS, false, rfl, .own CS, iM.ty hb, k2, false, rfl, iteF q⟩
def spMEq (K : PySem.W.Frag) (CS CM : Addr) : Sp := fun vs H Q _ => ∃ x dx vr va d1 d2 y, vs = [.ref x, .ref y] ∧ H x = some (.ins CM dx (fsM vr va)) ∧ Dp K H vr d1 ∧ Dp K H va d2 ∧ SeqAt.shaped d1 = true ∧ SeqAt.shaped d2 = true ∧
  ((∃ dy vr' va' d1' d2', H y = some (.ins CM dy (fsM vr' va')) ∧ Dp K H vr' d1' ∧ Dp K H va' d2' ∧ SeqAt.shaped d1' = true ∧ SeqAt.shaped d2' = true ∧ Q (.bl (PyData.eqv d1 d1' && PyData.eqv d2 d2')) H) ∨ (∃ dy fs, H y = some (.ins CS dy fs) ∧ Q (.bl false) H))
theorem scMEq : FnScope ["self", "other"] ["self", "other"] (defScope sMEq) := ⟨rfl, rfl, rfl, by decide +kernel, rfl, by decide +kernel, by decide +kernel⟩
theorem okMEq {k : Nat} (mi : mg "isinstance" = none) (gC : mg "Made" = some (.ref CM)) (iS : IsC K CS) (iM : IsC K CM) (n1 : NoAttr K CM "_recipe") (n2 : NoAttr K CM "_arguments") (k1 : PySem.W.kitOne K (.ref CM) (.ref CM) = some true) (k2 : PySem.W.kitOne K (.ref CS) (.ref CM) = some false)
    (F : FnM K "__eq__" "Made.__eq__" sMEq f fd) : FnOk P w K mg base CX0 (k + 1) f fd ["self", "other"] (spMEq K CS CM) := by
  refine F.ok scMEq (fun vs H Q E h => ?_) (fun cdv A outer s H vs Q E hr h => ?_)
  · obtain ⟨a, dx, vr, va, d1, d2, y, rfl, _⟩ := h
    rfl
  · obtain ⟨a, dx, vr, va, d1, d2, y, rfl, ha, h1, h2, s1, s2, h⟩ := h
    refine ⟨_, PSs.nox (pss_one (ps_ret (pe_and (pe_callB call_isi (by rfl) mi (by decide +kernel) (pa_cons (pv 1) (pa_cons (pe_glob (v := .ref CM) (by rfl) gC rfl) pa_nil))) (pe_and (pe_cmpR (r := rEqD K) (op_eqD hr.units) (pe_fld (pv 0) rfl) (pe_fld (pv 1) rfl) (nomark _)) (pe_one (pe_cmpR (r := rEqD K) (op_eqD hr.units) (pe_fld (pv 0) rfl) (pe_fld (pv 1) rfl) (nomark _))))))), ?_⟩
    rcases h with ⟨dy, vr', va', d1', d2', hb, h1', h2', s1', s2', q⟩ | ⟨dy, fs, hb, q⟩
    · refine ⟨.ref y, rfl, .ref y, .ref CM, .ref CM, .ref CM, true, rfl, .own CM, iM.ty hb, k1, true, rfl, iteT ?_⟩
      refine ⟨.ref a, rfl, a, CM, dx, _, vr, rfl, ha, iM.cl, n1, rfl, .ref y, rfl, y, CM, dy, _, vr', rfl, hb, iM.cl, n1, rfl, d1, d1', h1, h1', s1, s1', _, rfl, ?_⟩
      cases e : PyData.eqv d1 d1' with
      | true =>
        rw [e, Bool.true_and] at q
        exact iteT ⟨.ref a, rfl, a, CM, dx, _, va, rfl, ha, iM.cl, n2, rfl, .ref y, rfl, y, CM, dy, _, va', rfl, hb, iM.cl, n2, rfl, d2, d2', h2, h2', s2, s2', q⟩
      | false =>
        rw [e, Bool.false_and] at q
        exact iteF q
    · exact ⟨.ref y, rfl, .ref y, .ref CM, .ref CS, .ref CM, false, rfl, .own CM, iS.ty hb, k2, false, rfl, iteF q⟩
end
end PJ

set_option Elab.async false
set_option linter.all false
set_option maxRecDepth 100000
set_option maxHeartbeats 8000000
/-! the classes: projects -/
namespace PJ
open PySem PySem.Spec PyProof.Rows L2 KS KS.La
open KX hiding sameUpd
def PrAt (CP : Addr) (H : Hp) (p : Addr) (kvs : List (Key × V)) : Prop := ∃ dp D, H p = some (.ins CP dp [("_targets", .ref D)]) ∧ H D = some (.dK kvs)
theorem PrAt.stl {CP : Addr} {H H' : Hp} {p : Addr} {kvs : List (Key × V)} (h : PrAt CP H p kvs) (s : Stl H H') : PrAt CP H' p kvs := let ⟨dp, D, a, b⟩ := h; ⟨dp, D, s _ _ a (fun _ z => nomatch z), s _ _ b (fun _ z => nomatch z)⟩
def PjAt (CS CM CP : Addr) (H : Hp) (p : Addr) (T : Tb) : Prop := ∃ kvs, PrAt CP H p kvs ∧ Tab (TgAt CS CM H) kvs T
theorem PjAt.stl {CS CM CP : Addr} {H H' : Hp} {p : Addr} {T : Tb} (h : PjAt CS CM CP H p T) (s : Stl H H') : PjAt CS CM CP H' p T := let ⟨kvs, a, b⟩ := h; ⟨kvs, a.stl s, b.tg s⟩
section
variable {P : Program} {w : World} {K : PySem.W.Frag} {mg : Str → Option Value} {base : Heap} {f : Addr} {fd : FuncData} {CS CM CP NT NS : Addr}
/-- what projects rest on -/
structure Pjc (P : Program) (w : World) (K : PySem.W.Frag) (mg : Str → Option Value) (base : Heap) (CS CM CP NT NS : Addr) : Prop where
  iS : IsC K CS
  iM : IsC K CM
  iP : IsC K CP
  nS : NoAttr K CS "_outputs"
  nP : NoAttr K CP "_targets"
  gS : mg "Source" = some (.ref CS)
  gM : mg "Made" = some (.ref CM)
  gP : mg "Project" = some (.ref CP)
  mi : mg "isinstance" = none
  md : mg "dict" = none
  ml : mg "len" = none
  ms : mg "sorted" = none
  mt : mg "tuple" = none
  kSS : PySem.W.kitOne K (.ref CS) (.ref CS) = some true
  kMS : PySem.W.kitOne K (.ref CM) (.ref CS) = some false
  kPP : PySem.W.kitOne K (.ref CP) (.ref CP) = some true
  kDP : PySem.W.kitOne K (.type "dict") (.ref CP) = some false
  sMS : PySem.W.subIn K (.ref CM) (.ref CS) = some false
  sSM : PySem.W.subIn K (.ref CS) (.ref CM) = some false
  mkS : ∃ (f : Addr) (fd : FuncData), Mk K CS f ∧ Binds K fd ["self", "outputs"] [] ∧ FnOk P w K mg base CX0 1 f fd ["self", "outputs"] (spDInit CS "_outputs")
  mkP : ∃ (f : Addr) (fd : FuncData), Mk K CP f ∧ Binds K fd ["self", "targets"] [] ∧ FnOk P w K mg base CX0 1 f fd ["self", "targets"] (spDInit CP "_targets")
  eqS : ∃ (f : Addr) (fd : FuncData), PySem.W.findIn K (.ref CS) "__eq__" = some (some (.ref f)) ∧ PySem.W.isFn K (.ref f) = true ∧ Binds K fd ["self", "other"] [] ∧ FnOk P w K mg base CX0 1 f fd ["self", "other"] (spSEq CS CM)
  eqM : ∃ (f : Addr) (fd : FuncData), PySem.W.findIn K (.ref CM) "__eq__" = some (some (.ref f)) ∧ PySem.W.isFn K (.ref f) = true ∧ Binds K fd ["self", "other"] [] ∧ FnOk P w K mg base CX0 1 f fd ["self", "other"] (spMEq K CS CM)
  outS : ∃ (p g : Addr) (fd : FuncData), PropOf K CS "outputs" p g ∧ Binds K fd ["self"] [] ∧ FnOk P w K mg base CX0 1 g fd ["self"] (spSOut CS)
  xT : Cl1 P w K mg base "NoTarget" NT "name"
  xN : Cl1 P w K mg base "NotSource" NS "name"
theorem eqSame {r r' : Rc} {H : Hp} {v : V} (h : RcIn H v r) (h' : RcIn H v r') : rcD r = rcD r' := by
  cases r with
  | txt z =>
    cases r' with
    | txt z' => rw [show z = z' from V.str.inj (h.1.symm.trans h'.1)]
    | key a b =>
      obtain ⟨⟨t, e, _⟩, _⟩ := h'
      rw [h.1] at e
      cases e
  | key a b =>
    obtain ⟨⟨t, e, ht⟩, _⟩ := h
    cases r' with
    | txt z' =>
      rw [h'.1] at e
      cases e
    | key a' b' =>
      obtain ⟨⟨t', e', ht'⟩, _⟩ := h'
      rw [e] at e'
      cases e'
      rw [ht] at ht'
      have := Option.some.inj ht'
      injection this with this
      injection this with e1 e2
      injection e2 with e2 _
      rw [V.str.inj e1, V.str.inj e2]
theorem asSame {as as' : List Str} {H : Hp} {v : V} (h : AsIn H v as) (h' : AsIn H v as') : as = as' := by
  obtain ⟨t, rfl, ht, _⟩ := h
  obtain ⟨t', e, ht', _⟩ := h'
  cases e
  rw [ht] at ht'
  have := Option.some.inj ht'
  injection this with this
  exact List.map_inj_right (fun a b e => V.str.inj e) |>.mp this
/-- two targets compare as they are told -/
def DT (K : PySem.W.Frag) (CS CM : Addr) : EB.Eqb := fun x y c H => EB.EOwn K CS (spSEq CS CM) E0 x y c H ∨ EB.EOwn K CM (spMEq K CS CM) E0 x y c H
theorem tgD (W : Pjc P w K mg base CS CM CP NT NS) {H : Hp} {v u : V} {t t' : Tg} (h : TgAt CS CM H v t) (h' : TgAt CS CM H u t') : DT K CS CM v u (tgE t t') H := by
  have stl : ∀ {H'}, L2.Ext H H' → Stl H H' := fun e b o hb _ => e b o hb
  cases t with
  | src os =>
    obtain ⟨x, dx, d, rfl, hx, ho⟩ := h
    cases t' with
    | src os' =>
      obtain ⟨y, dy, d', rfl, hy, ho'⟩ := h'
      refine .inl ⟨x, y, CS, dx, _, dy, _, rfl, rfl, hx, hy, by simp [PySem.W.notFirst], fun e => ?_, fun H' e => ?_⟩
      · subst e
        rw [hx] at hy
        have := Option.some.inj hy
        injection this with _ _ e3
        injection e3 with e4 _
        have ed : d = d' := V.ref.inj (congrArg Prod.snd e4)
        subst ed
        have eo : oK os = oK os' := by
          have := Option.some.inj (ho.1.symm.trans ho'.1)
          injection this
        show osE os os' = true
        have := osE_refl ho.2.1
        unfold osE at this ⊢
        rw [← eo]
        exact this
      · exact ⟨x, dx, d, os, y, rfl, e _ _ hx, ho.stl (stl e), .inl ⟨dy, d', os', e _ _ hy, ho'.stl (stl e), rfl, fun _ _ z => z⟩⟩
    | mad r as =>
      obtain ⟨y, dy, vr, va, rfl, hy, _⟩ := h'
      refine .inl ⟨x, y, CM, dx, _, dy, _, rfl, rfl, hx, hy, by simp [PySem.W.notFirst, W.sMS], fun e => ?_, fun H' e => ?_⟩
      · subst e
        rw [hx] at hy
        have := Option.some.inj hy
        injection this with _ _ e3
        injection e3 with _ e5
        cases e5
      · exact ⟨x, dx, d, os, y, rfl, e _ _ hx, ho.stl (stl e), .inr ⟨dy, _, e _ _ hy, rfl, fun _ _ z => z⟩⟩
  | mad r as =>
    obtain ⟨x, dx, vr, va, rfl, hx, hr, ha⟩ := h
    cases t' with
    | src os' =>
      obtain ⟨y, dy, d', rfl, hy, ho'⟩ := h'
      refine .inr ⟨x, y, CS, dx, _, dy, _, rfl, rfl, hx, hy, by simp [PySem.W.notFirst, W.sSM], fun e => ?_, fun H' e => ?_⟩
      · subst e
        rw [hx] at hy
        have := Option.some.inj hy
        injection this with _ _ e3
        injection e3 with _ e5
        cases e5
      · have hr' := hr.stl (stl e)
        have ha' := ha.stl (stl e)
        exact ⟨x, dx, vr, va, rcD r, argsD as, y, rfl, e _ _ hx, hr'.dp.1, ha'.dp.1, hr'.dp (K := K).2, ha'.dp (K := K).2, .inr ⟨dy, _, e _ _ hy, rfl, fun _ _ z => z⟩⟩
    | mad r' as' =>
      obtain ⟨y, dy, vr', va', rfl, hy, hr', ha'⟩ := h'
      refine .inr ⟨x, y, CM, dx, _, dy, _, rfl, rfl, hx, hy, by simp [PySem.W.notFirst], fun e => ?_, fun H' e => ?_⟩
      · subst e
        rw [hx] at hy
        have := Option.some.inj hy
        injection this with _ _ e3
        injection e3 with e4 e5
        injection e5 with e5 _
        have e6 : vr = vr' := congrArg Prod.snd e4
        have e7 : va = va' := congrArg Prod.snd e5
        subst e6 e7
        show (PyData.eqv (rcD r) (rcD r') && PyData.eqv (argsD as) (argsD as')) = true
        rw [← eqSame hr hr', ← asSame ha ha', SeqAt.eqv_refl _ (SeqAt.canLay_of_shaped (hr.dp (K := K)).2), SeqAt.eqv_refl _ (SeqAt.canLay_of_shaped (ha.dp (K := K)).2)]
        rfl
      · have g1 := hr.stl (stl e)
        have g2 := ha.stl (stl e)
        have g3 := hr'.stl (stl e)
        have g4 := ha'.stl (stl e)
        exact ⟨x, dx, vr, va, rcD r, argsD as, y, rfl, e _ _ hx, g1.dp.1, g2.dp.1, (g1.dp (K := K)).2, (g2.dp (K := K)).2, .inl ⟨dy, vr', va', rcD r', argsD as', e _ _ hy, g3.dp.1, g4.dp.1, (g3.dp (K := K)).2, (g4.dp (K := K)).2, rfl, fun _ _ z => z⟩⟩
/-- a target that is seen while two dicts are locked -/
theorem tgLock {H H' : Hp} {a b : Addr} {ka kb : List (Key × V)} {k1 k2 : Key} {x1 x2 : Addr} (ha : H a = some (.dK ka)) (hb : H b = some (.dK kb)) (m1 : (k1, V.ref x1) ∈ ka) (m2 : (k2, V.ref x2) ∈ kb) (e : ∀ c, c ≠ a → c ≠ b → H' c = H c) {v : V} {t : Tg} (h : TgAt CS CM H v t) : TgAt CS CM H' v t := by
  have ne : ∀ {c o}, H c = some o → (∀ ks, o ≠ .dK ks) → H' c = some o := fun {c o} hc hn => by
    rw [e c (fun z => by rw [z, ha] at hc; exact hn _ (Option.some.inj hc).symm) (fun z => by rw [z, hb] at hc; exact hn _ (Option.some.inj hc).symm)]
    exact hc
  have nd : ∀ {c os}, H c = some (.dK (oK os)) → H' c = some (.dK (oK os)) := fun {c os} hc => by
    rw [e c (fun z => ?_) (fun z => ?_)]
    · exact hc
    · rw [z, ha] at hc
      have : ka = oK os := by
        have := Option.some.inj hc
        injection this
      rw [this] at m1
      obtain ⟨z, ez⟩ := oK_str _ m1
      cases ez
    · rw [z, hb] at hc
      have : kb = oK os := by
        have := Option.some.inj hc
        injection this
      rw [this] at m2
      obtain ⟨z, ez⟩ := oK_str _ m2
      cases ez
  cases t with
  | src os =>
    obtain ⟨x, dx, d, rfl, hx, ho, r⟩ := h
    exact ⟨x, dx, d, rfl, ne hx (fun _ z => nomatch z), nd ho, r⟩
  | mad r as =>
    obtain ⟨x, dx, vr, va, rfl, hx, hr, ⟨u, e1, hu, g⟩⟩ := h
    refine ⟨x, dx, vr, va, rfl, ne hx (fun _ z => nomatch z), ?_, ⟨u, e1, ne hu (fun _ z => nomatch z), g⟩⟩
    cases r with
    | txt z => exact hr
    | key a b => exact ⟨let ⟨t, e, h⟩ := hr.1; ⟨t, e, ne h (fun _ z => nomatch z)⟩, hr.2⟩
def eT (T T' : Tb) : Key → Bool
  | .inr s => teF T T' s
  | .inl _ => false
theorem valMem2 {ka : List (Key × V)} {k : Key} {v : V} (h : valV ka k = some v) : (k, v) ∈ ka := by
  unfold valV at h
  cases hf : ka.find? fun kv => decide (kv.1 = k) with
  | none => rw [hf] at h; cases h
  | some q =>
    rw [hf] at h
    have e1 : q.1 = k := by
      have := List.find?_some hf
      exact of_decide_eq_true this
    have e2 : q.2 = v := Option.some.inj h
    have := List.mem_of_find?_eq_some hf
    rw [← e1, ← e2]
    exact this
theorem hitsT (W : Pjc P w K mg base CS CM CP NT NS) {H H' : Hp} {a b : Addr} {ka kb : List (Key × V)} {T T' : Tb} (ha : H a = some (.dK ka)) (hb : H b = some (.dK kb)) (t1 : Tab (TgAt CS CM H) ka T) (t2 : Tab (TgAt CS CM H) kb T') (nd : (T.map (·.1)).Nodup) (e : ∀ c, c ≠ a → c ≠ b → H' c = H c) :
    EB.Hits (DT K CS CM) H' kb ka (ka.all fun p => (valV kb p.1).isSome && eT T T' p.1) := by
  refine EB.Hits.of (eT T T') ka fun k v y hm hv => ?_
  obtain ⟨z, t, rfl, mt, ht⟩ := t1.mem k v hm
  rcases t2.look z with ⟨n, _⟩ | ⟨y2, t', e1, e2, ht'⟩
  · rw [hv] at n; cases n
  · obtain rfl : y = y2 := Option.some.inj (hv.symm.trans e1)
    have ref : ∀ {v t}, TgAt CS CM H v t → ∃ x, v = .ref x := fun {v t} h => by
      cases t with
      | src os => obtain ⟨x, _, _, e, _⟩ := h; exact ⟨x, e⟩
      | mad r as => obtain ⟨x, _, _, _, e, _⟩ := h; exact ⟨x, e⟩
    obtain ⟨x1, ex1⟩ := ref ht
    obtain ⟨x2, ex2⟩ := ref ht'
    have m1 : ((.inr z : Key), V.ref x1) ∈ ka := ex1 ▸ hm
    have m2 : ((.inr z : Key), V.ref x2) ∈ kb := ex2 ▸ valMem2 hv
    have r := tgD W (tgLock ha hb m1 m2 e ht) (tgLock ha hb m1 m2 e ht')
    have eq : eT T T' (.inr z) = tgE t t' := by
      show teF T T' z = _
      unfold teF
      rw [tMem nd mt, e2]
    rw [eq]
    exact r
def spPEq (CS CM CP : Addr) : Sp := fun vs H Q _ => ∃ p y T, vs = [.ref p, .ref y] ∧ PjAt CS CM CP H p T ∧ (T.map (·.1)).Nodup ∧
  ((∃ T', PjAt CS CM CP H y T' ∧ ∀ H', Same H H' → Q (.bl (tbE T T')) H') ∨ (∃ ls, H y = some (.dK ls) ∧ Q (.bl false) H))
theorem scPEq : FnScope ["self", "other"] ["self", "other"] (defScope sPEq) := ⟨rfl, rfl, rfl, by decide +kernel, rfl, by decide +kernel, by decide +kernel⟩
theorem okPEq {k : Nat} (W : Pjc P w K mg base CS CM CP NT NS) (F : FnM K "__eq__" "Project.__eq__" sPEq f fd) : FnOk P w K mg base CX0 (k + 3) f fd ["self", "other"] (spPEq CS CM CP) := by
  obtain ⟨fS, dS, hS, iS, bS, GS⟩ := W.eqS
  obtain ⟨fM, dM, hM, iM, bM, GM⟩ := W.eqM
  refine F.ok scPEq (fun vs H Q E h => ?_) (fun cdv A outer s H vs Q E hr h => ?_)
  · obtain ⟨a, y, T, rfl, _⟩ := h
    rfl
  · obtain ⟨a, y, T, rfl, ⟨ka, ⟨dp, D, ha, hD⟩, tA⟩, nd, h⟩ := h
    have hr2 : Room (1 + 1) _ := hr.mono (by omega)
    have m2 : EB.Mon2 (DT K CS CM) := EB.Mon2.or EB.mon_eown EB.mon_eown
    refine ⟨_, PSs.nox (pss_one (ps_ret (pe_and (pe_callB call_isi (by rfl) W.mi (by decide +kernel) (pa_cons (pv 1) (pa_cons (pe_glob (v := .ref CP) (by rfl) W.gP rfl) pa_nil))) (pe_one (pe_cmpR (r := EB.rEqD (DT K CS CM)) (EB.op_eqD (n := 1) m2 (EB.EqB.or (EB.eqB_own GS hS iS bS pass0) (EB.eqB_own GM hM iM bM pass0)) hr2) (pe_fld (pv 0) rfl) (pe_fld (pv 1) rfl) (nomark _)))))), ?_⟩
    rcases h with ⟨T', ⟨kb, ⟨dq, D', hb, hD'⟩, tB⟩, q⟩ | ⟨ls, hb, q⟩
    · refine ⟨.ref y, rfl, .ref y, .ref CP, .ref CP, .ref CP, true, rfl, .own CP, W.iP.ty hb, W.kPP, true, rfl, iteT ?_⟩
      refine ⟨.ref a, rfl, a, CP, dp, _, .ref D, rfl, ha, W.iP.cl, W.nP, rfl, .ref y, rfl, y, CP, dq, _, .ref D', rfl, hb, W.iP.cl, W.nP, rfl, D, D', ka, kb, _, rfl, rfl, hD, hD', fun _ H' e => hitsT W hD hD' tA tB nd e, fun H' e => ?_⟩
      rw [tabAll tA tB (eT T T') fun _ => rfl]
      exact q H' e
    · exact ⟨.ref y, rfl, .ref y, .ref CP, .type "dict", .ref CP, false, rfl, .own CP, tyDct hb, W.kDP, false, rfl, iteF q⟩
end
end PJ

set_option Elab.async false
set_option linter.all false
set_option maxRecDepth 100000
set_option maxHeartbeats 8000000
/-! what projects do -/
namespace PJ
open PySem PySem.Spec PyProof.Rows L2 KS KS.La
open KX hiding sameUpd
section
variable {P : Program} {w : World} {K : PySem.W.Frag} {mg : Str → Option Value} {base : Heap} {f : Addr} {fd : FuncData} {CS CM CP NT NS : Addr}
/-- an error with its name -/
def Nm (C : Addr) (z : Str) (H : Hp) (E : XK) : Prop := ∀ d H', Same H H' → H' d = some (.xd [("name", .str z)]) → E (.ref C) (some d) H'
theorem Nm.same {C : Addr} {z : Str} {H H1 : Hp} {E : XK} (h : Nm C z H E) (s : Same H H1) : Nm C z H1 E := fun d H' s' e => h d H' (s.trans s') e
def spPGet (CP NT : Addr) : Sp := fun vs H Q E => ∃ p kvs z, vs = [.ref p, .str z] ∧ PrAt CP H p kvs ∧ (∀ v, valV kvs (.inr z) = some v → Q v H) ∧ (valV kvs (.inr z) = none → Nm NT z H E)
theorem scPGet : FnScope ["self", "at"] ["self", "at"] (defScope sPGet) := ⟨rfl, rfl, rfl, by decide +kernel, rfl, by decide +kernel, by decide +kernel⟩
theorem okPGet {k : Nat} (W : Pjc P w K mg base CS CM CP NT NS) (F : FnM K "__getitem__" "Project.__getitem__" sPGet f fd) : FnOk P w K mg base (L2.CX P w) (k + 3) f fd ["self", "at"] (spPGet CP NT) := by
  refine F.ok scPGet (fun vs H Q E h => ?_) (fun cdv A outer s H vs Q E hr h => ?_)
  · obtain ⟨a, kvs, z, rfl, _⟩ := h
    rfl
  · obtain ⟨a, kvs, z, rfl, ⟨dp, D, ha, hD⟩, q1, q2⟩ := h
    have hu1 : (A.deeper (envOfC "Project.__getitem__" (defScope sPGet) s.heap.objs.size f cdv)).units + 1 < cLine := by
      have := hr.units
      omega
    refine ⟨_, (pss_cons (ps_if (pt_cmp (pc_dnotin hu1 (pv 1) (pe_fld (pv 0) rfl))) (pss_one (ps_raise rfl (takes_of rfl rfl rfl rfl) (pmkX W.xT (hr.mono (by omega)) (by rfl) (pa_cons (pv 1) pa_nil)))) pss_nil) (pss_one (ps_ret (pe_dget hu1 (pe_fld (pv 0) rfl) (pv 1) (fun _ _ => rfl))))), ?_⟩
    refine ⟨.str z, rfl, .ref a, rfl, a, CP, dp, _, .ref D, rfl, ha, W.iP.cl, W.nP, rfl, D, _, rfl, DGet.k (k := Sum.inr z) hD, _, rfl, ?_⟩
    cases e : valV kvs (Sum.inr z) with
    | none => exact iteT ⟨.str z, rfl, .str z, rfl, fun d H2 s2 hd => q2 e d H2 s2 hd⟩
    | some v => exact iteF ⟨.ref a, rfl, a, CP, dp, _, .ref D, rfl, ha, W.iP.cl, W.nP, rfl, .str z, rfl, D, v, rfl, by have := DGet.k (k := Sum.inr z) hD; rw [e] at this; exact this, q1 v e⟩
def spPHas (CP : Addr) : Sp := fun vs H Q _ => ∃ p kvs z, vs = [.ref p, .str z] ∧ PrAt CP H p kvs ∧ Q (.bl (valV kvs (.inr z)).isSome) H
theorem scPHas : FnScope ["self", "x"] ["self", "x"] (defScope sPHas) := ⟨rfl, rfl, rfl, by decide +kernel, rfl, by decide +kernel, by decide +kernel⟩
theorem okPHas {k : Nat} (W : Pjc P w K mg base CS CM CP NT NS) (F : FnM K "__contains__" "Project.__contains__" sPHas f fd) : FnOk P w K mg base CX0 (k + 1) f fd ["self", "x"] (spPHas CP) := by
  refine F.ok scPHas (fun vs H Q E h => ?_) (fun cdv A outer s H vs Q E hr h => ?_)
  · obtain ⟨a, kvs, z, rfl, _⟩ := h
    rfl
  · obtain ⟨a, kvs, z, rfl, ⟨dp, D, ha, hD⟩, q⟩ := h
    have hu1 : (A.deeper (envOfC "Project.__contains__" (defScope sPHas) s.heap.objs.size f cdv)).units + 1 < cLine := by
      have := hr.units
      omega
    refine ⟨_, PSs.nox (pss_one (ps_ret (pe_cmp (pc_din hu1 (pv 1) (pe_fld (pv 0) rfl)) rfl))), ?_⟩
    exact ⟨.str z, rfl, .ref a, rfl, a, CP, dp, _, .ref D, rfl, ha, W.iP.cl, W.nP, rfl, D, _, rfl, DGet.k (k := Sum.inr z) hD, q⟩
def spPLen (CP : Addr) : Sp := fun vs H Q _ => ∃ p kvs, vs = [.ref p] ∧ PrAt CP H p kvs ∧ Q (.int kvs.length) H
theorem scPLen : FnScope ["self"] ["self"] (defScope sPLen) := ⟨rfl, rfl, rfl, by decide +kernel, rfl, by decide +kernel, by decide +kernel⟩
theorem okPLen {k : Nat} (W : Pjc P w K mg base CS CM CP NT NS) (F : FnM K "__len__" "Project.__len__" sPLen f fd) : FnOk P w K mg base CX0 (k + 1) f fd ["self"] (spPLen CP) := by
  refine F.ok scPLen (fun vs H Q E h => ?_) (fun cdv A outer s H vs Q E hr h => ?_)
  · obtain ⟨a, kvs, rfl, _⟩ := h
    rfl
  · obtain ⟨a, kvs, rfl, ⟨dp, D, ha, hD⟩, q⟩ := h
    refine ⟨_, PSs.nox (pss_one (ps_ret (pe_callB call_lenD (by rfl) W.ml PySem.boot_len (pa_cons (pe_fld (pv 0) rfl) pa_nil)))), ?_⟩
    exact ⟨.ref a, rfl, a, CP, dp, _, .ref D, rfl, ha, W.iP.cl, W.nP, rfl, D, _, rfl, hD, q⟩
def spNames (CP : Addr) : Sp := fun vs H Q _ => ∃ p kvs ks, vs = [.ref p] ∧ PrAt CP H p kvs ∧ kvs.map (·.1) = (ks.map Sum.inr : List Key) ∧ ks.length < 64 ∧ ∀ ys u H', ys.Perm ks → sortedS ys = true → Same H H' → H' u = some (.tup (ys.map V.str)) → Q (.ref u) H'
theorem scPNames : FnScope ["self"] ["self"] (defScope sPNames) := ⟨rfl, rfl, rfl, by decide +kernel, rfl, by decide +kernel, by decide +kernel⟩
theorem okPNames {k : Nat} (W : Pjc P w K mg base CS CM CP NT NS) (F : FnM K "names" "Project.names" sPNames f fd) : FnOk P w K mg base CX0 (k + 1) f fd ["self"] (spNames CP) := by
  refine F.ok scPNames (fun vs H Q E h => ?_) (fun cdv A outer s H vs Q E hr h => ?_)
  · obtain ⟨a, kvs, ks, rfl, _⟩ := h
    rfl
  · obtain ⟨a, kvs, ks, rfl, ⟨dp, D, ha, hD⟩, hk, hl, q⟩ := h
    refine ⟨_, PSs.nox (pss_one (ps_ret (pe_callTy (T := "tuple") call_tuple_of (by rfl) W.mt (by decide +kernel) (pa_cons (pe_callB (call_sortedD rfl) (by rfl) W.ms (by decide +kernel) (pa_cons (pe_fld (pv 0) rfl) pa_nil)) pa_nil)))), ?_⟩
    refine ⟨.ref a, rfl, a, CP, dp, _, .ref D, rfl, ha, W.iP.cl, W.nP, rfl, D, kvs, ks, rfl, .inl hD, hk, hl, fun ys p hp hs np => ?_⟩
    refine ⟨p, _, rfl, .inl ⟨.inl (.inl upd_same), fun u hu => ?_⟩⟩
    exact q ys u _ hp hs ((KS.sameUpd np).trans (KS.sameUpd hu)) upd_same
/-- Project(d) -/
theorem pjMade {H : Hp} {x dx M : Addr} {kvs : List (Key × V)} {T : Tb} {R : Hp → Prop} {E : XK} (hx : H x = none) (hdx : H dx = none) (ne : dx ≠ x) (hM : H M = some (.dK kvs)) (hT : Tab (TgAt CS CM H) kvs T) (q : ∀ H', Same H H' → PjAt CS CM CP H' x T → R H') :
    spDInit CP "_targets" [.ref x, .ref M] (upd (upd H dx (.own x)) x (.ins CP dx [])) (fun v H2 => v = .non ∧ R H2) E :=
  dMade hx hdx ne hM fun H' D nD s h1 h2 => q H' s ⟨kvs, ⟨dx, D, h1, h2⟩, hT.tg (Stl.same s)⟩
def spPPut (CS CM CP : Addr) : Sp := fun vs H Q _ => ∃ p z v T t, vs = [.ref p, .str z, v] ∧ PjAt CS CM CP H p T ∧ TgAt CS CM H v t ∧ T.length ≤ 100 ∧ ∀ p' H', H p' = none → Same H H' → PjAt CS CM CP H' p' (tPut T z t) → Q (.ref p') H'
theorem scPPut : FnScope ["self", "name", "target"] ["self", "name", "target"] (defScope sPPut) := ⟨rfl, rfl, rfl, by decide +kernel, rfl, by decide +kernel, by decide +kernel⟩
theorem okPPut {k : Nat} (W : Pjc P w K mg base CS CM CP NT NS) (F : FnM K "put" "Project.put" sPPut f fd) : FnOk P w K mg base CX0 (k + 3) f fd ["self", "name", "target"] (spPPut CS CM CP) := by
  obtain ⟨fI, dI, M, bI, GI⟩ := W.mkP
  refine F.ok scPPut (fun vs H Q E h => ?_) (fun cdv A outer s H vs Q E hr h => ?_)
  · obtain ⟨a, z, v, T, t, rfl, _⟩ := h
    rfl
  · obtain ⟨a, z, v, T, t, rfl, ⟨kvs, ⟨dp, D, ha, hD⟩, hT⟩, hv, lT, q⟩ := h
    have hr2 : Room (1 + 1) _ := hr.mono (by omega)
    have lk := hT.len
    refine ⟨_, PSs.nox (pss_one (ps_ret (pe_make M GI hr2 (by rfl) W.gP bI .nil pass0 (pa_cons (MM.pe_starPut (pe_fld (pv 0) rfl) (pv 1) (pv 2)) pa_nil)))), ?_⟩
    refine fun d hd => ?_
    have s1 := KS.sameUpd (o := .dK []) hd
    have nDd : d ≠ D := fun z => by rw [z, hD] at hd; cases hd
    refine ⟨.ref a, rfl, a, CP, dp, _, .ref D, rfl, s1 _ _ ha, W.iP.cl, W.nP, rfl, D, kvs, rfl, .inl (s1 _ _ hD), nDd, upd_same, by rw [sizeLine_eq]; omega, fun u hu => ?_⟩
    refine ⟨.str z, rfl, v, rfl, .inr z, rfl, upd_same, ?_, fun x dx hx hdx nex => ?_⟩
    · rw [upd_ne fun z => by rw [← z, upd_same] at hu; cases hu]
      exact upd_same
    have nu : H u = none := by
      cases e : H u with
      | none => rfl
      | some o =>
        have nud : u ≠ d := fun z => by rw [z] at e; rw [e] at hd; cases hd
        rw [upd_ne nud, s1 _ _ e] at hu
        cases hu
    have sA : Same H (upd (upd (upd (upd (upd H d (.dK [])) d (.dK kvs)) u (.dK [])) u (.dK [(.inr z, v)])) d (.dK (putK kvs (.inr z) v))) := fun b o hb => by
      rw [upd_ne (ne_of_none hb hd), upd_ne (ne_of_none hb nu), upd_ne (ne_of_none hb nu), upd_ne (ne_of_none hb hd), upd_ne (ne_of_none hb hd)]
      exact hb
    exact pjMade hx hdx nex upd_same ((hT.put (k := z) hv).tg (Stl.same sA)) fun H' s2 h => q x H' (noneSame sA hx) (sA.trans s2) h
end
end PJ

set_option Elab.async false
set_option linter.all false
set_option maxRecDepth 100000
set_option maxHeartbeats 4000000
/-! None == x and x == None, x with an own __eq__ -/
namespace EN
open PySem PySem.Spec PyProof.Rows L2
section
variable {X : Cx} {C : Addr} {CX : CXT} {n : Nat} {f : Addr} {fd : FuncData} {ps : List Str} {sp : Sp} {E : XK}
def rOwnNon (C : Addr) (sp : Sp) (E : XK) : R2 := fun x y H Q => ∃ b dy gs, ((x = .non ∧ y = .ref b) ∨ (x = .ref b ∧ y = .non)) ∧ H b = some (.ins C dy gs) ∧ sp [.ref b, .non] H (fun v H' => ∃ c, v = .bl c ∧ Q v H') E
theorem op_ownNon (F : FnOk X.prog X.w X.K X.mg X.base CX n f fd ps sp) (hr : Room n X.A)
    (hs : PySem.W.findIn X.K (.ref C) "__eq__" = some (some (.ref f))) (hf : PySem.W.isFn X.K (.ref f) = true) (hb : Binds X.K fd ps []) (hx : Passes CX X E)
    (hT : PySem.W.subIn X.K (.type "NoneType") (.ref C) = some false) (hT2 : PySem.W.subIn X.K (.ref C) (.type "NoneType") = some false) : OpR X (compareOp .Eq) (rOwnNon C sp E) := by
  intro pins s σ H x y v u Q I rx ry h
  obtain ⟨b, dy, gs, hxy, hbb, hsp⟩ := h
  obtain ⟨mA, J, _⟩ := ins_get I.hok hbb
  obtain ⟨od, J, _⟩ := J.look
  obtain ⟨m, hF⟩ := I.fr
  have call : wpAny (model X.prog X.w) X.A (call (.ref f) [.ref b, .none]) (fun v s' => ∃ c, v = Value.bool c ∧ EP X pins σ Q v s') X.xe s := by
    have hl := F.len _ _ _ _ hsp
    have r2 : Vals [V.ref b, V.non] [Value.ref b, Value.none] := .cons rfl (.cons rfl .nil)
    refine wpAny_call (codeAny_mono (F.run X.A X.stack s H ⟨[.ref b, .none], []⟩ [.ref b, .none] [.ref b, .non] _ E hr I.env0 (by
      have := hb s [.ref b, .none] I.kIn (by simpa using hl)
      simpa using this) r2 hsp) fun r s' hq => ?_)
    cases r with
    | error e => exact hx pins σ H s e s' I hq
    | ok fl =>
      cases fl with
      | ret w =>
        obtain ⟨z, H', I', rz, c, ez, q⟩ := I.after hq
        subst ez
        cases rz
        exact ⟨c, rfl, .bl c, H', I', rfl, q⟩
      | next => exact False.elim hq
      | brk => exact False.elim hq
      | cont => exact False.elim hq
  rcases hxy with ⟨rfl, rfl⟩ | ⟨rfl, rfl⟩
  · cases rx
    cases ry
    have hN : s.TypeIs .none "NoneType" := rfl
    have Xk := I.ok.mod.kin.keeps hF.keep
    show wpAny (model X.prog X.w) X.A (richCompare .Eq .none (.ref b)) (EP X pins σ Q) X.xe s
    unfold richCompare
    simp only [hN.oneThing_none]
    refine wpAny_holding (wpAny_bind (wpAny_cRoomFor hr.units0 ?_))
    refine wpAny_bind (wpAny_typeOf hN (wpAny_bind (J.type.here ?_)))
    rw [if_pos (by simp)]
    refine wpAny_bind ((PySem.W.looks_subIn Xk hT2).here ?_)
    simp only [Bool.false_eq_true, if_false]
    refine wpAny_bind (wpAny_tryCompare_declines hN PySem.F.slot_NoneType_eq (call_gives PySem.F.slot_NoneType_eq hN PySem.F.entry_NoneType_eq (PySem.F.args_NoneType_eq_2 _ _) (PySem.SeqAt.NoneType___eq___none_ref_0 b) ⟨rfl, ?_⟩))
    simp only [Bool.not_false, if_true]
    refine wpAny_bind ?_
    unfold tryCompare
    refine wpAny_bind (PySem.W.ifBound_K Xk J hs hf (wpAny_mono call (fun v s' hv => ?_) fun _ _ e => e))
    obtain ⟨c, rfl, q⟩ := hv
    exact wpAny_pure (wpAny_pure q)
  · cases rx
    cases ry
    show wpAny (model X.prog X.w) X.A (richCompare .Eq (.ref b) .none) (EP X pins σ Q) X.xe s
    refine PySem.W.cmp_K (op := .Eq) (tb := .type "NoneType") hr.units0 hF I.ok.mod.kin J .now (by simp [PySem.W.notFirst, hT]) hs hf (wpAny_mono call (fun v s' hv => ?_) fun _ _ e => e)
    obtain ⟨c, rfl, q⟩ := hv
    exact q
end
end EN

set_option Elab.async false
set_option linter.all false
set_option maxRecDepth 100000
set_option maxHeartbeats 8000000
/-! targets and none: == -/
namespace PJ
open PySem PySem.Spec PyProof.Rows L2 KS KS.La
open KX hiding sameUpd
/-! ### == of an own object, either way -/
def rEqO (K : PySem.W.Frag) (C : Addr) (sp : Sp) : R2 := fun x y H Q => ∃ a b dx fs, x = .ref a ∧ y = .ref b ∧ H a = some (.ins C dx fs) ∧ ((∃ C' dy gs, H b = some (.ins C' dy gs) ∧ PySem.W.notFirst K C (.ref C') = true) ∨ ∃ kvs, H b = some (.dK kvs)) ∧ sp [x, y] H (fun v H' => ∃ c, v = .bl c ∧ Q v H') E0
theorem op_eqO {X : Cx} {n : Nat} {C f : Addr} {fd : FuncData} {ps : List Str} {sp : Sp} (F : FnOk X.prog X.w X.K X.mg X.base CX0 n f fd ps sp) (hr : Room n X.A)
    (hs : PySem.W.findIn X.K (.ref C) "__eq__" = some (some (.ref f))) (hf : PySem.W.isFn X.K (.ref f) = true) (hb : Binds X.K fd ps []) (hD : PySem.W.subIn X.K (.type "dict") (.ref C) = some false) : OpR X (compareOp .Eq) (rEqO X.K C sp) := by
  intro pins s σ H x y v u Q I rx ry h
  obtain ⟨a, b, dx, fs, rfl, rfl, ha, hy, hsp⟩ := h
  cases rx
  cases ry
  obtain ⟨mA, J, _⟩ := ins_get I.hok ha
  obtain ⟨od, J, _⟩ := J.look
  obtain ⟨m, hF⟩ := I.fr
  show wpAny (model X.prog X.w) X.A (richCompare .Eq (.ref a) (.ref b)) (EP X pins σ Q) X.xe s
  have go : ∀ {tb : Value}, PySem.W.Looks (model X.prog X.w) s.heap (typeOf (.ref b)) tb → PySem.W.notFirst X.K C tb = true → wpAny (model X.prog X.w) X.A (richCompare .Eq (.ref a) (.ref b)) (EP X pins σ Q) X.xe s := fun {tb} lk nf => by
    refine PySem.W.cmp_K (op := .Eq) (tb := tb) hr.units0 hF I.ok.mod.kin J lk nf hs hf ?_
    have hl := F.len _ _ _ _ hsp
    have r2 : Vals [V.ref a, V.ref b] [Value.ref a, Value.ref b] := .cons rfl (.cons rfl .nil)
    refine wpAny_call (codeAny_mono (F.run X.A X.stack s H ⟨[.ref a, .ref b], []⟩ [.ref a, .ref b] [.ref a, .ref b] _ E0 hr I.env0 (by
      have := hb s [.ref a, .ref b] I.kIn (by simpa using hl)
      simpa using this) r2 hsp) fun r s' hq => ?_)
    cases r with
    | error e => exact pass0 pins σ H s e s' I hq
    | ok fl =>
      cases fl with
      | ret w =>
        obtain ⟨z, H', I', rz, c, ez, q⟩ := I.after hq
        subst ez
        cases rz
        exact ⟨.bl c, H', I', rfl, q⟩
      | next => exact False.elim hq
      | brk => exact False.elim hq
      | cont => exact False.elim hq
  rcases hy with ⟨C', dy, gs, hb', nf⟩ | ⟨kvs, hb'⟩
  · obtain ⟨mB, J', _⟩ := ins_get I.hok hb'
    obtain ⟨od', J', _⟩ := J'.look
    exact go J'.type nf
  · obtain ⟨_, _, vs, _, dd⟩ := dk_of I.hok hb'
    obtain ⟨o, ho, hc⟩ := dd.typeIs (s := s)
    exact go (tb := .type "dict") ((PySem.W.Looks.ld ho).andThen (by rw [hc]; exact .now)) (by simp [PySem.W.notFirst, hD])
theorem fdNe {H : Hp} {f p : Addr} (h : Fd H f) (hp : H p = none) : p ≠ f := fun z => by
  obtain ⟨x, y, e, _⟩ := h
  rw [z, e] at hp
  cases hp
theorem fdOther {H : Hp} {f p : Addr} {o : HO} (h : Fd H f) (hp : p ≠ f) : Fd (upd H p o) f := by
  obtain ⟨x, y, e, a, b⟩ := h
  exact ⟨x, y, by rw [upd_ne (Ne.symm hp)]; exact e, a, b⟩
theorem kpNone {H H' : Hp} {f p : Addr} (h : Fd H f) (k : Kp f H H') (F : Fd H' f) (hp : H' p = none) : H p = none := by
  cases e : H p with
  | none => rfl
  | some o => rw [k p o (fdNe F hp) e] at hp; cases hp
theorem notTake {α : Type} {l : List α} (h : l.Nodup) {i : Nat} (lt : i < l.length) : l[i] ∉ l.take i := fun hm => by
  have h2 : (l.take (i + 1)).Nodup := h.sublist (List.take_sublist _ _)
  rw [List.take_succ_eq_append_getElem lt] at h2
  exact (List.nodup_append.mp h2).2.2 _ hm _ (List.mem_singleton.mpr rfl) rfl
theorem forJ {J : It} {n : Nat} {g : TG} {tb : TS} {D : Ends} {σ : L2.St} {H : Hp} (Pv : Nat → L2.St → Hp → Prop) (h0 : Pv 0 σ H) (hgo : ∀ i σ H, i < n → Pv i σ H → J.go i H) (hst : ∀ σ H, Pv n σ H → J.stop n H)
    (hs : ∀ i σ H x H', i < n → Pv i σ H → J.yld i H x H' → g x σ H' fun σ2 H2 => tb { D with nx := Pv (i + 1), ct := Pv (i + 1), bk := D.nx } σ2 H2) (hd : ∀ σ H, Pv n σ H → D.nx σ H) :
    ∃ W : Nat → Nat → L2.St → Hp → Prop, (∃ m, W 0 m σ H) ∧ ∀ i m σ H, W i m σ H →
      (J.stop i H ∧ D.nx σ H) ∨ (J.go i H ∧ ∃ N : L2.St → Hp → Prop, (∀ σ' H', N σ' H' → ∃ m', m' < m ∧ W (i + 1) m' σ' H') ∧ ∀ x H', J.yld i H x H' → g x σ H' fun σ2 H2 => tb { D with nx := N, ct := N, bk := D.nx } σ2 H2) := by
  refine ⟨fun i m σ H => m = n - i ∧ i ≤ n ∧ Pv i σ H, ⟨n, by simp, Nat.zero_le _, h0⟩, fun i m σ H hW => ?_⟩
  obtain ⟨rfl, hi, p⟩ := hW
  by_cases lt : i < n
  · exact .inr ⟨hgo i σ H lt p, Pv (i + 1), fun σ' H' p' => ⟨n - (i + 1), by omega, rfl, lt, p'⟩, fun x H' y => hs i σ H x H' lt p y⟩
  · have e : i = n := by omega
    subst e
    exact .inl ⟨hst σ H p, hd σ H p⟩
section
variable {P : Program} {w : World} {K : PySem.W.Frag} {mg : Str → Option Value} {base : Heap} {f : Addr} {fd : FuncData} {CS CM CP NT NS : Addr}
def spEqN (C : Addr) : Sp := fun vs H Q _ => ∃ x dx fs, vs = [.ref x, .non] ∧ H x = some (.ins C dx fs) ∧ Q (.bl false) H
theorem okSEqN {k : Nat} (mi : mg "isinstance" = none) (gC : mg "Source" = some (.ref CS)) (k1 : PySem.W.kitOne K (.type "NoneType") (.ref CS) = some false) (F : FnM K "__eq__" "Source.__eq__" sSEq f fd) : FnOk P w K mg base CX0 (k + 1) f fd ["self", "other"] (spEqN CS) := by
  refine F.ok scSEq (fun vs H Q E h => ?_) (fun cdv A outer s H vs Q E hr h => ?_)
  · obtain ⟨a, dx, fs, rfl, _⟩ := h
    rfl
  · obtain ⟨a, dx, fs, rfl, ha, q⟩ := h
    exact ⟨_, PSs.nox (pss_one (ps_ret (pe_and (pe_callB call_isi (by rfl) mi (by decide +kernel) (pa_cons (pv 1) (pa_cons (pe_glob (v := .ref CS) (by rfl) gC rfl) pa_nil))) (pe_one (pe_cmpR (r := DB.rEqDB K) (DB.op_eqDB (DB.un100 hr)) (pe_fld (pv 0) rfl) (pe_fld (pv 1) rfl) (nomark _)))))),
      .non, rfl, .non, .ref CS, .type "NoneType", .ref CS, false, rfl, .own CS, .base .non, k1, false, rfl, iteF q⟩
theorem okMEqN {k : Nat} (mi : mg "isinstance" = none) (gC : mg "Made" = some (.ref CM)) (k1 : PySem.W.kitOne K (.type "NoneType") (.ref CM) = some false) (F : FnM K "__eq__" "Made.__eq__" sMEq f fd) : FnOk P w K mg base CX0 (k + 1) f fd ["self", "other"] (spEqN CM) := by
  refine F.ok scMEq (fun vs H Q E h => ?_) (fun cdv A outer s H vs Q E hr h => ?_)
  · obtain ⟨a, dx, fs, rfl, _⟩ := h
    rfl
  · obtain ⟨a, dx, fs, rfl, ha, q⟩ := h
    exact ⟨_, PSs.nox (pss_one (ps_ret (pe_and (pe_callB call_isi (by rfl) mi (by decide +kernel) (pa_cons (pv 1) (pa_cons (pe_glob (v := .ref CM) (by rfl) gC rfl) pa_nil))) (pe_and (pe_cmpR (r := rEqD K) (op_eqD hr.units) (pe_fld (pv 0) rfl) (pe_fld (pv 1) rfl) (nomark _)) (pe_one (pe_cmpR (r := rEqD K) (op_eqD hr.units) (pe_fld (pv 0) rfl) (pe_fld (pv 1) rfl) (nomark _))))))),
      .non, rfl, .non, .ref CM, .type "NoneType", .ref CM, false, rfl, .own CM, .base .non, k1, false, rfl, iteF q⟩
/-- what more == with None asks for -/
structure Pjn (P : Program) (w : World) (K : PySem.W.Frag) (mg : Str → Option Value) (base : Heap) (CS CM : Addr) : Prop where
  eqS : ∃ (f : Addr) (fd : FuncData), PySem.W.findIn K (.ref CS) "__eq__" = some (some (.ref f)) ∧ PySem.W.isFn K (.ref f) = true ∧ Binds K fd ["self", "other"] [] ∧ FnOk P w K mg base CX0 1 f fd ["self", "other"] (spEqN CS)
  eqM : ∃ (f : Addr) (fd : FuncData), PySem.W.findIn K (.ref CM) "__eq__" = some (some (.ref f)) ∧ PySem.W.isFn K (.ref f) = true ∧ Binds K fd ["self", "other"] [] ∧ FnOk P w K mg base CX0 1 f fd ["self", "other"] (spEqN CM)
  nS : PySem.W.subIn K (.type "NoneType") (.ref CS) = some false
  sN : PySem.W.subIn K (.ref CS) (.type "NoneType") = some false
  nM : PySem.W.subIn K (.type "NoneType") (.ref CM) = some false
  mN : PySem.W.subIn K (.ref CM) (.type "NoneType") = some false
  dS : PySem.W.subIn K (.type "dict") (.ref CS) = some false
  dM : PySem.W.subIn K (.type "dict") (.ref CM) = some false
  kNS : PySem.W.kitOne K (.type "NoneType") (.ref CS) = some false
/-- a target or none -/
def OAt (CS CM : Addr) (H : Hp) (v : V) : Option Tg → Prop
  | none => v = .non
  | some t => TgAt CS CM H v t
theorem OAt.stl {CS CM : Addr} {H H' : Hp} {v : V} {o : Option Tg} (h : OAt CS CM H v o) (s : Stl H H') : OAt CS CM H' v o := by
  cases o with
  | none => exact h
  | some t => exact TgAt.stl h s
def oE : Option Tg → Option Tg → Bool
  | none, none => true
  | some t, some t' => tgE t t'
  | _, _ => false
def rOT (CS CM : Addr) : R2 := fun x y H Q => ∃ o o', OAt CS CM H x o ∧ OAt CS CM H y o' ∧ Q (.bl (oE o o')) H
theorem op_eqOT {X : Cx} (W : Pjc X.prog X.w X.K X.mg X.base CS CM CP NT NS) (N : Pjn X.prog X.w X.K X.mg X.base CS CM) (hr : Room 1 X.A) : OpR X (compareOp .Eq) (rOT CS CM) := by
  intro pins s σ H x y v u Q I rx ry h
  obtain ⟨o, o', ho, ho', q⟩ := h
  obtain ⟨fS, dS, hS, iS, bS, GS⟩ := W.eqS
  obtain ⟨fM, dM, hM, iM, bM, GM⟩ := W.eqM
  obtain ⟨fSn, dSn, hSn, iSn, bSn, GSn⟩ := N.eqS
  obtain ⟨fMn, dMn, hMn, iMn, bMn, GMn⟩ := N.eqM
  cases o with
  | none =>
    obtain rfl : x = .non := ho
    cases o' with
    | none =>
      obtain rfl : y = .non := ho'
      exact op_eq pins s σ H .non .non v u Q I rx ry ⟨rfl, q⟩
    | some t =>
      cases t with
      | src os =>
        obtain ⟨x, dx, d, rfl, hx, _⟩ := ho'
        exact EN.op_ownNon (E := E0) GSn hr hSn iSn bSn pass0 N.nS N.sN pins s σ H .non (.ref x) v u Q I rx ry ⟨x, dx, _, .inl ⟨rfl, rfl⟩, hx, x, dx, _, rfl, hx, false, rfl, q⟩
      | mad r as =>
        obtain ⟨x, dx, vr, va, rfl, hx, _⟩ := ho'
        exact EN.op_ownNon (E := E0) GMn hr hMn iMn bMn pass0 N.nM N.mN pins s σ H .non (.ref x) v u Q I rx ry ⟨x, dx, _, .inl ⟨rfl, rfl⟩, hx, x, dx, _, rfl, hx, false, rfl, q⟩
  | some t =>
    cases o' with
    | none =>
      obtain rfl : y = .non := ho'
      cases t with
      | src os =>
        obtain ⟨x, dx, d, rfl, hx, _⟩ := ho
        exact EN.op_ownNon (E := E0) GSn hr hSn iSn bSn pass0 N.nS N.sN pins s σ H (.ref x) .non v u Q I rx ry ⟨x, dx, _, .inr ⟨rfl, rfl⟩, hx, x, dx, _, rfl, hx, false, rfl, q⟩
      | mad r as =>
        obtain ⟨x, dx, vr, va, rfl, hx, _⟩ := ho
        exact EN.op_ownNon (E := E0) GMn hr hMn iMn bMn pass0 N.nM N.mN pins s σ H (.ref x) .non v u Q I rx ry ⟨x, dx, _, .inr ⟨rfl, rfl⟩, hx, x, dx, _, rfl, hx, false, rfl, q⟩
    | some t' =>
      cases t with
      | src os =>
        obtain ⟨x, dx, d, rfl, hx, hos⟩ := ho
        refine op_eqO GS hr hS iS bS N.dS pins s σ H _ y v u Q I rx ry ?_
        cases t' with
        | src os' =>
          obtain ⟨y, dy, d', rfl, hy, hos'⟩ := ho'
          exact ⟨x, y, dx, _, rfl, rfl, hx, .inl ⟨CS, dy, _, hy, by simp [PySem.W.notFirst]⟩, x, dx, d, os, y, rfl, hx, hos, .inl ⟨dy, d', os', hy, hos', _, rfl, q⟩⟩
        | mad r as =>
          obtain ⟨y, dy, vr, va, rfl, hy, _⟩ := ho'
          exact ⟨x, y, dx, _, rfl, rfl, hx, .inl ⟨CM, dy, _, hy, by simp [PySem.W.notFirst, W.sMS]⟩, x, dx, d, os, y, rfl, hx, hos, .inr ⟨dy, _, hy, _, rfl, q⟩⟩
      | mad r as =>
        obtain ⟨x, dx, vr, va, rfl, hx, hr', ha⟩ := ho
        refine op_eqO GM hr hM iM bM N.dM pins s σ H _ y v u Q I rx ry ?_
        cases t' with
        | src os' =>
          obtain ⟨y, dy, d', rfl, hy, hos'⟩ := ho'
          exact ⟨x, y, dx, _, rfl, rfl, hx, .inl ⟨CS, dy, _, hy, by simp [PySem.W.notFirst, W.sSM]⟩, x, dx, vr, va, rcD r, argsD as, y, rfl, hx, hr'.dp.1, ha.dp.1, (hr'.dp (K := X.K)).2, (ha.dp (K := X.K)).2, .inr ⟨dy, _, hy, _, rfl, q⟩⟩
        | mad r2 as2 =>
          obtain ⟨y, dy, vr2, va2, rfl, hy, hr2, ha2⟩ := ho'
          exact ⟨x, y, dx, _, rfl, rfl, hx, .inl ⟨CM, dy, _, hy, by simp [PySem.W.notFirst]⟩, x, dx, vr, va, rcD r, argsD as, y, rfl, hx, hr'.dp.1, ha.dp.1, (hr'.dp (K := X.K)).2, (ha.dp (K := X.K)).2, .inl ⟨dy, vr2, va2, rcD r2, argsD as2, hy, hr2.dp.1, ha2.dp.1, (hr2.dp (K := X.K)).2, (ha2.dp (K := X.K)).2, _, rfl, q⟩⟩
/-- Source(d) -/
theorem srcMade {H : Hp} {x dx M : Addr} {os : Outs} {R : Hp → Prop} {E : XK} (hx : H x = none) (hdx : H dx = none) (ne : dx ≠ x) (hM : OsIn H M os) (q : ∀ H', Same H H' → TgAt CS CM H' (.ref x) (.src os) → R H') :
    spDInit CS "_outputs" [.ref x, .ref M] (upd (upd H dx (.own x)) x (.ins CS dx [])) (fun v H2 => v = .non ∧ R H2) E :=
  dMade hx hdx ne hM.1 fun H' D nD s h1 h2 => q H' s ⟨x, dx, D, rfl, h1, h2, hM.2⟩
structure Pgt (P : Program) (w : World) (K : PySem.W.Frag) (mg : Str → Option Value) (base : Heap) (CP NT : Addr) : Prop where
  get : ∃ (f : Addr) (fd : FuncData), PySem.W.findIn K (.ref CP) "__getitem__" = some (some (.ref f)) ∧ PySem.W.fnIn K f = true ∧ PySem.W.isFn K (.ref f) = true ∧ Binds K fd ["self", "at"] [] ∧ FnOk P w K mg base (L2.CX P w) 3 f fd ["self", "at"] (spPGet CP NT)
end
end PJ

set_option Elab.async false
set_option linter.all false
set_option maxRecDepth 100000
/-! tables of 8, 16 or 32 slots laid anew -/
namespace SX
open PySem PySem.Spec PyProof.Rows L2
def M3 (m : Nat) : Prop := m = 7 ∨ m = 15 ∨ m = 31
theorem lcg15 : ((List.range 16).all fun i => (List.range 16).all fun j => (List.range 16).any fun k => lcgI 15 i k == j) = true := by decide +kernel
theorem meets {m : Nat} (hm : M3 m) (h : Int) {j : Nat} (hj : j ≤ m) : ∃ n, n ≤ m + 12 ∧ runI m (SetTable.bits h) n = j := by
  rcases hm with rfl | rfl | rfl
  · exact run_meets (.inl rfl) h hj
  · have h1 := List.all_eq_true.mp lcg15 (runI 15 (SetTable.bits h) 12) (List.mem_range.mpr (Nat.lt_succ_of_le (runI_le 15 _ 12)))
    have h2 := List.all_eq_true.mp h1 j (List.mem_range.mpr (Nat.lt_succ_of_le hj))
    obtain ⟨k, hk, e⟩ := List.any_eq_true.mp h2
    have hk' := List.mem_range.mp hk
    exact ⟨12 + k, by omega, by rw [runI_tail (bits_lt h)]; exact beq_iff_eq.mp e⟩
  · exact run_meets (.inr (.inl rfl)) h hj
/-- a free slot is found -/
theorem found (m : Nat) (owner : Array (Option Nat)) : ∀ (f n i b : Nat), n < f → i ≤ m → oAt owner (itL m i b n).1 = none → ∃ j, SetTable.layClean.free m owner f i b = some j ∧ oAt owner j = none ∧ j ≤ m
  | 0, _, _, _, hn, _, _ => absurd hn (Nat.not_lt_zero _)
  | f + 1, n, i, b, hn, hi, hf => by
    have hr := runEnd_bd hi
    rw [free_succ]
    cases e : (List.range (SetTable.runEnd m i + 1 - i)).find? fun k => (oAt owner (i + k)).isNone with
    | some k =>
      have h1 := List.find?_some e
      have h2 := List.mem_range.mp (List.mem_of_find?_eq_some e)
      refine ⟨i + k, rfl, ?_, by omega⟩
      simpa using h1
    | none =>
      cases n with
      | zero =>
        have h0 := List.find?_eq_none.mp e 0 (List.mem_range.mpr (by omega))
        exact absurd (by show (oAt owner (i + 0)).isNone = true; rw [Nat.add_zero, show oAt owner i = none from hf]; rfl) h0
      | succ n =>
        exact found m owner f n _ _ (by omega) (Nat.le_of_lt_succ (Nat.mod_lt _ (Nat.succ_pos _))) hf
/-- n numbers sit in the table -/
structure Sits (m n : Nat) (owner : Array (Option Nat)) : Prop where
  sz : owner.size = m + 1
  all : ∀ k, k < n → ∃ j, j ≤ m ∧ oAt owner j = some k
  ps : ∃ ps : List Nat, ps.length = n ∧ ∀ j, j ≤ m → oAt owner j ≠ none → j ∈ ps
theorem Sits.step {m n : Nat} {owner : Array (Option Nat)} (hm : M3 m) (W : Sits m n owner) (hn : n ≤ m) (h : Int) :
    ∃ j, SetTable.layClean.free m owner (SetTable.turns m) (SetTable.bits h % (m + 1)) (SetTable.bits h) = some j ∧ Sits m (n + 1) (owner.setIfInBounds j (some n)) := by
  obtain ⟨ps, lp, inp⟩ := W.ps
  obtain ⟨j0, hj0, out⟩ := st_missing ps (m + 1) (by omega)
  have fr : oAt owner j0 = none := by
    cases e : oAt owner j0 with
    | none => rfl
    | some k => exact absurd (inp j0 (by omega) (by rw [e]; exact fun z => nomatch z)) out
  obtain ⟨r, hr, er⟩ := meets hm h (j := j0) (by omega)
  obtain ⟨j, e1, e2, e3⟩ := found m owner (SetTable.turns m) r (SetTable.bits h % (m + 1)) (SetTable.bits h) (by unfold SetTable.turns; omega) (Nat.le_of_lt_succ (Nat.mod_lt _ (Nat.succ_pos _))) (by rw [itL_run, er]; exact fr)
  have hs : j < owner.size := by rw [W.sz]; omega
  refine ⟨j, e1, by rw [Array.size_setIfInBounds]; exact W.sz, fun k hk => ?_, j :: ps, by rw [List.length_cons, lp], fun i hi ne => ?_⟩
  · by_cases c : k = n
    · exact ⟨j, e3, by rw [c]; exact oAt_set_self _ hs⟩
    · obtain ⟨i, hi, e⟩ := W.all k (by omega)
      refine ⟨i, hi, ?_⟩
      rw [oAt_set_ne _ fun z => by rw [z, e2] at e; cases e]
      exact e
  · by_cases c : i = j
    · rw [c]; exact List.mem_cons_self
    · rw [oAt_set_ne _ c] at ne
      exact List.mem_cons_of_mem _ (inp i hi ne)
theorem sitsAll {m : Nat} (hm : M3 m) : ∀ (hs : List Int) (n : Nat) (owner : Array (Option Nat)), Sits m n owner → n + hs.length ≤ m + 1 → ∃ owner', hs.foldl (stepF m) (some (owner, n)) = some (owner', n + hs.length) ∧ Sits m (n + hs.length) owner'
  | [], n, owner, W, _ => ⟨owner, rfl, W⟩
  | h :: hs, n, owner, W, hl => by
    rw [List.length_cons] at hl
    obtain ⟨j, e, W'⟩ := W.step hm (by omega) h
    obtain ⟨o', e', W2⟩ := sitsAll hm hs (n + 1) _ W' (by omega)
    have en : n + 1 + hs.length = n + (h :: hs).length := by rw [List.length_cons]; omega
    rw [en] at e' W2
    exact ⟨o', by rw [List.foldl_cons, stepF_some e]; exact e', W2⟩
/-- a table laid anew -/
theorem laid_ok {m : Nat} (hm : M3 m) (fg mv : Nat) (led plain : Bool) {hs : Array Int} (hn : hs.size ≤ m) :
    ∃ t order, SetTable.laid m fg mv led plain hs = some (t, order) ∧ order.toList.Perm (List.range hs.size) ∧ Ris t.place.toList ∧ t.place.size = hs.size ∧ t.mask = m ∧ t.dummies = #[] ∧ t.led = led := by
  obtain ⟨owner, e, W⟩ := sitsAll hm hs.toList 0 (Array.replicate (m + 1) none) ⟨by simp, fun k hk => absurd hk (Nat.not_lt_zero _), [], rfl, fun j hj ne => absurd (oAt_init hj) ne⟩ (by rw [Array.length_toList]; omega)
  rw [Nat.zero_add, Array.length_toList] at e W
  have hl : SetTable.layClean m hs = some owner := by
    rw [layClean_eq, e]
    rfl
  have ris := ris_live (fun j => owner.getD j none) (List.range (m + 1)) (by
    unfold Ris
    first | exact List.pairwise_lt_range | exact List.pairwise_lt_range _)
  have r1 : Ris ((liveOf m owner).map (·.1)) := ris.1
  have nd : ((liveOf m owner).map (·.1)).Nodup := List.Pairwise.imp (fun h => Nat.ne_of_lt h) r1
  have every : ∀ k, k < hs.size → k ∈ (liveOf m owner).map (·.2) := fun k hk => by
    obtain ⟨j, hj, e⟩ := W.all k hk
    exact List.mem_map.mpr ⟨(j, k), (mem_live W.sz).2 ⟨hj, e⟩, rfl⟩
  have len : (liveOf m owner).length = hs.size := by
    obtain ⟨ps, lp, inp⟩ := W.ps
    have a := nat_nodup_len _ ps nd fun x hx => by
      obtain ⟨⟨y, k⟩, hq, rfl⟩ := List.mem_map.mp hx
      obtain ⟨b1, b2⟩ := (mem_live W.sz).1 hq
      exact inp y b1 (by rw [b2]; exact fun z => nomatch z)
    have b := nat_nodup_len (List.range hs.size) ((liveOf m owner).map (·.2)) List.nodup_range fun k hk => every k (List.mem_range.mp hk)
    rw [List.length_map] at a
    rw [List.length_map, List.length_range] at b
    omega
  refine ⟨{ mask := m, place := ((liveOf m owner).map (·.1)).toArray, dummies := #[], finger := fg, led, moves := mv, plain }, ((liveOf m owner).map (·.2)).toArray, ?_, ?_, r1, ?_, rfl, rfl, rfl⟩
  · unfold SetTable.laid
    rw [hl]
    rfl
  · exact perm_range hs.size _ (by show ((liveOf m owner).map (·.2)).length = hs.size; rw [List.length_map]; exact len) every
  · show ((liveOf m owner).map (·.1)).toArray.size = hs.size
    rw [List.size_toArray, List.length_map]
    exact len
theorem above : ((List.range 32).all fun n => decide (n < SetTable.sizeAbove n) && (SetTable.sizeAbove n - 1 == 7 || SetTable.sizeAbove n - 1 == 15 || SetTable.sizeAbove n - 1 == 31)) = true := by decide +kernel
theorem above_ok {n : Nat} (h : n < 32) : n ≤ SetTable.sizeAbove n - 1 ∧ M3 (SetTable.sizeAbove n - 1) := by
  have e := List.all_eq_true.mp above n (List.mem_range.mpr h)
  rw [Bool.and_eq_true, decide_eq_true_eq, Bool.or_eq_true, Bool.or_eq_true, beq_iff_eq, beq_iff_eq, beq_iff_eq, or_assoc] at e
  exact ⟨by omega, e.2⟩
end SX

set_option Elab.async false
set_option linter.all false
set_option maxRecDepth 100000
set_option maxHeartbeats 2000000
/-! sets of texts: stored, laid anew, walked, added to -/
namespace SX
open PySem PySem.Spec PyProof.Rows L2
open Froz (sObj TxOk SD)
structure At (P : Program) (w : World) (h : Heap) (a : Addr) (es : Array (Int × Value)) (ep : Nat) (t : SetTable) (l : List Str) : Prop where
  ob : h.get? a = some (sObj "set" (es, ep, t))
  tx : TxOk P w (es, ep, t) l
  nd : l.Nodup
  ris : Ris t.place.toList
  led : w.params.followText "set-order" = true ∨ t.led = true
section
variable {P : Program} {w : World} {A : Around} {E : Value → Shared → Prop} {s : Shared} {a o : Addr} {es es2 : Array (Int × Value)} {ep ep2 : Nat} {t t2 : SetTable} {l m : List Str}
theorem At.size {h : Heap} (R : At P w h a es ep t l) : es.size = l.length := R.tx.sz
theorem At.fits {h : Heap} (R : At P w h a es ep t l) : t.fits es.size = true := R.tx.fit
theorem At.set {h : Heap} (R : At P w h a es ep t l) : SetAt h a es ep t := ⟨_, R.ob, rfl, rfl⟩
theorem At.same {h h' : Heap} (R : At P w h a es ep t l) (e : h'.get? a = h.get? a) : At P w h' a es ep t l := ⟨e.trans R.ob, R.tx, R.nd, R.ris, R.led⟩
theorem At.but {h h' : Heap} (R : At P w h o es ep t l) (b : Heap.SameBut a h h') (ne : o ≠ a) : At P w h' o es ep t l := R.same (b.2 o ne)
theorem At.keep {h h' : Heap} (R : At P w h a es ep t l) (k : ∀ o, h.get? a = some o → h'.get? a = some o) : At P w h' a es ep t l := ⟨k _ R.ob, R.tx, R.nd, R.ris, R.led⟩
theorem state_x (R : At P w s.heap a es ep t l) {Q : (Array (Int × Value) × Nat × SetTable) → Shared → Prop} (h : Q (es, ep, t) s) : wpAny (model P w) A (setState a) Q E s := wpAny_setState_of R.ob rfl R.fits h
theorem epoch_x (R : At P w s.heap a es ep t l) {Q : Nat → Shared → Prop} (h : Q ep s) : wpAny (model P w) A (setEpoch a) Q E s := wpAny_setEpoch_of R.ob rfl R.fits h
/-- stored -/
theorem put_x (ob : s.heap.get? a = some (sObj "set" (es, ep, t))) (tx : ∀ ep', TxOk P w (es2, ep', t2) l) (nd : l.Nodup) (ris : Ris t2.place.toList) (led : w.params.followText "set-order" = true ∨ t2.led = true) (few : l.length < 4096) {Q : Unit → Shared → Prop}
    (h : ∀ h', Heap.SameBut a s.heap h' → At P w h' a es2 (ep + 1) t2 l → Q () { s with heap := h' }) : wpAny (model P w) A (storeSet a es2 t2) Q E s := by
  have hz : es2.size = l.length := (tx 0).sz
  refine wpAny_storeSet_of ob rfl ?_ (by rw [hz, sizeLine_eq]; omega)
  exact h _ (Heap.SameBut.update ..) ⟨store_at ob rfl, tx _, nd, ris, led⟩
/-- laid anew -/
theorem order_perm {es : Array (Int × Value)} {order : Array Nat} (hp : order.toList.Perm (List.range es.size)) : (order.filterMap (es[·]?)).toList.Perm es.toList := by
  rw [Array.toList_filterMap]
  exact (hp.filterMap _).trans (by rw [filterMap_getElem?_range])
theorem order_size {es : Array (Int × Value)} {order : Array Nat} (hp : order.toList.Perm (List.range es.size)) : (order.filterMap (es[·]?)).size = es.size := by
  rw [← Array.length_toList, (order_perm hp).length_eq, Array.length_toList]
theorem relay_x (R : At P w s.heap a es ep t l) {wanted : Nat} (hw : wanted < 32) (hl : l.length ≤ wanted) {Q : Unit → Shared → Prop}
    (hQ : ∀ h' es' t', Heap.SameBut a s.heap h' → At P w h' a es' (ep + 1) t' l → t'.dummies = #[] → M3 t'.mask → wanted ≤ t'.mask → Q () { s with heap := h' }) : wpAny (model P w) A (setRelay a wanted) Q E s := by
  obtain ⟨ha, hm⟩ := above_ok hw
  have hz := R.size
  obtain ⟨t', order, e, hp, ris, pz, em, ed, el⟩ := laid_ok hm t.finger (t.movedTo (SetTable.sizeAbove wanted - 1)) t.led t.plain (hs := es.map (·.1)) (by rw [Array.size_map]; omega)
  have er : t.relaid (es.map (·.1)) wanted = some (t', order) := e
  rw [Array.size_map] at hp pz
  have hs2 := order_size hp
  have big : SetTable.sizeAbove wanted ≤ sizeLine := by
    rw [sizeLine_eq]
    rcases hm with h | h | h <;> omega
  rw [setRelay_eq]
  refine wpAny_bind (state_x R ?_)
  dsimp only
  refine wp_if_neg (by omega) ?_
  try refine wpAny_bind (wpAny_pure ?_)
  rw [er]
  dsimp only
  refine wpAny_bind ?_
  refine wp_if_neg (by rw [hs2]; simp) ?_
  try refine wpAny_bind (wpAny_pure ?_)
  refine wpAny_pure ?_
  dsimp only
  refine put_x R.ob (fun ep' => R.tx.perm (order_perm hp) ?_) R.nd ris (by rw [el]; exact R.led) (by omega) fun h' sb R' => hQ h' _ t' sb R' ed (by rw [em]; exact hm) (by rw [em]; exact ha)
  unfold SetTable.fits SetTable.fill
  rw [ed, Bool.and_eq_true, beq_iff_eq, decide_eq_true_eq, hs2]
  refine ⟨pz, ?_⟩
  show t'.place.size + 0 ≤ t'.mask
  omega
/-- a text that is there -/
theorem add_old (R : At P w s.heap a es ep t l) {k : Str} {u : Tok} (hk : k ∈ l) (few : l.length < 4096) {Q : Bool → Shared → Prop} (h : Q false s) : wpAny (model P w) A (setAddHashed a (.str k u) (hashStr w k)) Q E s := by
  have hb : es.size < scanBound := by rw [R.size]; exact few
  obtain ⟨e, he, hp⟩ := (R.tx.mem k).mp hk
  have hel : ElemsOf (strKind P w) es.toList := R.tx.el
  unfold setAddHashed setAddHashedIn
  refine wpAny_holding (wpAny_bind (state_x R ?_))
  dsimp only
  rw [byScan_of rfl hb hel]
  simp only [↓reduceIte]
  unfold setAddByScan
  refine wpAny_bind ?_
  refine wpAny_bind (wpAny_rule ?_)
  refine wpAny_bind (wpAny_setScan_of (knd := strKind P w) (k := k) (Froz.is_str k u) R.ob rfl R.fits hel ?_)
  cases hr : es.toList.findIdx? (fun e => (strKind P w).is k e.2) with
  | none =>
    have := List.findIdx?_eq_none_iff.mp hr e he
    rw [hp] at this
    exact nomatch this
  | some j =>
    dsimp only
    exact wpAny_pure (wpAny_pure h)
theorem tail_good {ep : Nat} {es1 : Array (Int × Value)} {t2 : SetTable} {wd : Bool} (r : Ris t2.place.toList) : Ris (Froz.tailTx ep es1 t2 wd).2.2.place.toList ∧ (Froz.tailTx ep es1 t2 wd).2.2.led = t2.led := by
  unfold Froz.tailTx
  by_cases c : (!wd && t2.tooFull) = true
  · rw [if_pos c]
    exact ⟨relayAll_ris _ _ _, relayAll_led _ _ _⟩
  · rw [if_neg c]
    exact ⟨r, rfl⟩
/-- a text, put in -/
theorem add_any (R : At P w s.heap a es ep t l) {k : Str} {u : Tok} (few : l.length < 64) {Q : Bool → Shared → Prop}
    (h : ∀ b h' es' ep' t' l', Heap.SameBut a s.heap h' → At P w h' a es' ep' t' l' → (∀ z, z ∈ l' ↔ z ∈ l ∨ z = k) → l'.length ≤ l.length + 1 → Q b { s with heap := h' }) : wpAny (model P w) A (setAddHashed a (.str k u) (hashStr w k)) Q E s := by
  by_cases hk : k ∈ l
  · refine add_old R hk (by omega) (h false s.heap es ep t l (Heap.SameBut.refl a s.heap) R (fun z => ⟨.inl, fun q => q.elim id fun e => e ▸ hk⟩) (Nat.le_succ _))
  · refine Froz.add_x (D := (es, ep, t)) R.ob R.tx hk (by unfold scanBound; omega) ?_
    have F := Froz.add_ok u (k := k) R.tx
    have sb : Heap.SameBut a s.heap (s.heap.update a fun _ => sObj "set" (Froz.addTx (hashStr w k) (.str k u) (es, ep, t))) := Heap.SameBut.update ..
    have ob : (s.heap.update a fun _ => sObj "set" (Froz.addTx (hashStr w k) (.str k u) (es, ep, t))).get? a = some (sObj "set" (Froz.addTx (hashStr w k) (.str k u) (es, ep, t))) := Froz.get_upd _ R.ob rfl
    have good : Ris (Froz.addTx (hashStr w k) (.str k u) (es, ep, t)).2.2.place.toList ∧ (Froz.addTx (hashStr w k) (.str k u) (es, ep, t)).2.2.led = t.led := by
      have r1 := layNew_ris t es (hashStr w k) (.str k u) R.ris
      have l1 := layNew_led t es (hashStr w k) (.str k u)
      unfold Froz.addTx
      dsimp only
      by_cases c : (layNew t es (hashStr w k) (Value.str k u)).2.1.plain = true
      · rw [if_pos c]
        obtain ⟨g1, g2⟩ := tail_good (ep := ep) (es1 := (layNew t es (hashStr w k) (Value.str k u)).1) (t2 := { (layNew t es (hashStr w k) (Value.str k u)).2.1 with plain := false }) (wd := (layNew t es (hashStr w k) (Value.str k u)).2.2.1) r1
        exact ⟨g1, g2.trans l1⟩
      · rw [if_neg c]
        obtain ⟨g1, g2⟩ := tail_good (ep := ep) (es1 := (layNew t es (hashStr w k) (Value.str k u)).1) (t2 := (layNew t es (hashStr w k) (Value.str k u)).2.1) (wd := (layNew t es (hashStr w k) (Value.str k u)).2.2.1) r1
        exact ⟨g1, g2.trans l1⟩
    refine h true _ _ _ _ (k :: l) sb ⟨ob, F, List.nodup_cons.mpr ⟨hk, R.nd⟩, good.1, ?_⟩ (fun z => ?_) (Nat.le_refl _)
    · exact R.led.imp id fun e => good.2.trans e
    · rw [List.mem_cons]
      exact ⟨fun q => q.elim .inr .inl, fun q => q.elim .inr .inl⟩
end
end SX

set_option Elab.async false
set_option linter.all false
set_option maxRecDepth 100000
set_option maxHeartbeats 4000000
/-! sets of texts: walked, merged -/
namespace SX
open PySem PySem.Spec PyProof.Rows L2
open Froz (sObj TxOk SD)
def kOf (e : Int × Value) : Str := match e.2 with | .str k _ => k | _ => ⟨#[]⟩
section
variable {P : Program} {w : World} {A : Around} {E : Value → Shared → Prop} {s : Shared} {a o : Addr} {es es2 : Array (Int × Value)} {ep ep2 : Nat} {t t2 : SetTable} {l m : List Str}
theorem At.strs {h : Heap} (R : At P w h a es ep t l) : ∀ e ∈ es.toList, ∃ k u, k ∈ l ∧ e = (hashStr w k, Value.str k u) := fun e he => by
  obtain ⟨⟨k, hk, hh⟩, _⟩ := R.tx.el e he
  obtain ⟨u, hu⟩ := Value.isStrOf_shape (x := k) (v := e.2) hk
  exact ⟨k, u, (R.tx.mem k).mpr ⟨e, he, hk⟩, Prod.ext hh hu⟩
theorem At.keys {h : Heap} (R : At P w h a es ep t l) (z : Str) : z ∈ es.toList.map kOf ↔ z ∈ l := by
  rw [List.mem_map]
  constructor
  · rintro ⟨e, he, rfl⟩
    obtain ⟨k, u, hk, rfl⟩ := R.strs e he
    exact hk
  · intro hz
    obtain ⟨e, he, hp⟩ := (R.tx.mem z).mp hz
    obtain ⟨u, hu⟩ := Value.isStrOf_shape (x := z) (v := e.2) hp
    exact ⟨e, he, by unfold kOf; rw [hu]⟩
theorem quiet_x (R : At P w s.heap o es ep t m) (S : At P w s.heap a es2 ep2 t2 l) {Q : Bool → Shared → Prop} (h : Q true s) : wpAny (model P w) A (setsQuiet [o, a]) Q E s := by
  unfold setsQuiet
  refine wpAny_bind (wpAny_forIn_list _ (fun rest r s' => r.1 = none ∧ s' = s ∧ ∀ b ∈ rest, b = o ∨ b = a) _ (fun b rest r s' z => ?_) (fun r s' z => ?_) _ _ ⟨rfl, rfl, fun b hb => by simpa using hb⟩)
  · obtain ⟨z1, rfl, z3⟩ := z
    have more : ∀ c ∈ rest, c = o ∨ c = a := fun c hc => z3 c (List.mem_cons_of_mem _ hc)
    obtain ⟨eb, pb, tb, lb, T⟩ : ∃ es ep t l, At P w s'.heap b es ep t l := by
      rcases z3 b List.mem_cons_self with rfl | rfl
      · exact ⟨_, _, _, _, R⟩
      · exact ⟨_, _, _, _, S⟩
    dsimp only
    refine wpAny_bind ?_
    unfold setEntries
    refine wpAny_bind (state_x T (wpAny_pure ?_))
    dsimp only
    rw [← Array.forIn_toList]
    refine wpAny_bind (wpAny_forIn_list _ (fun rest r s2 => r.1 = none ∧ s2 = s' ∧ ∀ e ∈ rest, ∃ k u, e.2 = Value.str k u) _ (fun e rest r s2 z => ?_) (fun r s2 z => ?_) _ _ ⟨rfl, rfl, fun e he => ?_⟩)
    · obtain ⟨y1, rfl, y3⟩ := z
      obtain ⟨k, u, hu⟩ := y3 e List.mem_cons_self
      obtain ⟨e1, e2⟩ := e
      simp only at hu
      subst hu
      exact wpAny_pure ⟨rfl, rfl, fun e' he' => y3 e' (List.mem_cons_of_mem _ he')⟩
    · obtain ⟨r1, r2⟩ := r
      obtain ⟨y1, rfl, _⟩ := z
      simp only at y1
      subst y1
      exact wpAny_pure ⟨rfl, rfl, more⟩
    · obtain ⟨k, u, _, e2⟩ := T.strs e he
      exact ⟨k, u, by rw [e2]⟩
  · obtain ⟨r1, r2⟩ := r
    obtain ⟨z1, rfl, _⟩ := z
    simp only at z1
    subst z1
    exact wpAny_pure h
theorem setWalk_x (R : At P w s.heap o es ep t m) {Q : Array (Int × Value) → Shared → Prop} (h : ∀ ys d, ys.toList.Perm es.toList → Q ys { s with drawn := d }) : wpAny (model P w) A (setWalk o) Q E s := by
  have same : ∀ {ys : Array (Int × Value)}, ys.toList.Perm es.toList → Q ys s := fun {ys} p => h ys s.drawn p
  unfold setWalk
  refine wpAny_bind (state_x R ?_)
  dsimp only
  refine wpAny_bind (wpAny_byText ?_)
  by_cases hb : w.params.followText "set-order" = true
  · refine wp_if_pos hb ?_
    exact wpAny_bind (wpAny_askSetting (wpAny_pure (same (pick_perm _ _))))
  · refine wp_if_neg hb ?_
    try refine wpAny_bind (wpAny_pure ?_)
    by_cases hd : (!t.plain && decide (es.size > 1)) = true
    · refine wp_if_pos hd ?_
      refine wpAny_bind (drawOrder_at es.size es.toList s _ (by rw [Array.length_toList]; exact Nat.le_refl _) fun ys d p => ?_)
      exact wpAny_pure (h ys.toArray d (by simpa using p))
    · refine wp_if_neg hd ?_
      try refine wpAny_bind (wpAny_pure ?_)
      refine wpAny_bind (wpAny_of_eq (a := ()) ?_ ?_)
      · show (if (!t.led && decide (es.size > 1)) = true then unsupported "set:maker-not-led" else pure ()) = pure ()
        rw [R.led.resolve_left hb]
        rfl
      · exact wpAny_pure (same (List.Perm.refl _))
theorem walk_x (R : At P w s.heap o es ep t m) (S : At P w s.heap a es2 ep2 t2 l) (few : l.length < 4096) (ne : a ≠ o) {Q : Array (Int × Value) → Shared → Prop}
    (h : ∀ ys h' d ep' t', ys.toList.Perm es.toList → Heap.SameBut a s.heap h' → At P w h' a es2 ep' t' l → Q ys { s with heap := h', drawn := d }) : wpAny (model P w) A (setWalkUnseen o [a] (some a)) Q E s := by
  have plainly : wpAny (model P w) A (setWalk o) Q E s := setWalk_x R fun ys d p => h ys s.heap d ep2 t2 p (Heap.SameBut.refl a s.heap) S
  unfold setWalkUnseen
  refine wpAny_bind (state_x R ?_)
  dsimp only
  refine wpAny_bind (wpAny_byText ?_)
  by_cases c : (w.params.followText "set-order" || (t.led && t.plain) || decide (es.size ≤ 1)) = true
  · refine wp_if_pos c ?_
    exact plainly
  · refine wp_if_neg c ?_
    try refine wpAny_bind (wpAny_pure ?_)
    refine wpAny_bind (quiet_x R S ?_)
    refine wp_if_neg (by decide) ?_
    try refine wpAny_bind (wpAny_pure ?_)
    refine wpAny_bind (wpAny_rule ?_)
    refine wpAny_bind (state_x S ?_)
    dsimp only
    by_cases g : ((t2.led && !t.led) || (t2.plain && !t.plain)) = true
    · refine wp_if_pos g ?_
      have tl : w.params.followText "set-order" = true ∨ (t2.led && t.led) = true := by
        rcases R.led with q | q
        · exact .inl q
        · rcases S.led with q2 | q2
          · exact .inl q2
          · exact .inr (by rw [q, q2]; rfl)
      refine wpAny_bind (put_x (es2 := es2) (t2 := { t2 with led := t2.led && t.led, plain := t2.plain && t.plain }) S.ob (fun ep' => S.tx.perm (List.Perm.refl _) ?_) S.nd S.ris tl few fun h' sb S' => ?_)
      · have := S.fits
        cases t2
        exact this
      · exact wpAny_pure (h es h' s.drawn _ _ (List.Perm.refl _) sb S')
    · refine wp_if_neg g ?_
      try refine wpAny_bind (wpAny_pure ?_)
      exact wpAny_pure (h es s.heap s.drawn ep2 t2 (List.Perm.refl _) (Heap.SameBut.refl a s.heap) S)
theorem merge_x {each : Sem Unit} (S : At P w s.heap a es2 ep2 t2 l) (R : At P w s.heap o es ep t m) (ne : a ≠ o) (few : l.length + m.length ≤ 15) (fr : l = [] → t2.dummies = #[] ∧ M3 t2.mask)
    (he : ∀ (s' : Shared) (Q : Unit → Shared → Prop), At P w s'.heap o es ep t m → Q () s' → wpAny (model P w) A each Q E s') {Q : Unit → Shared → Prop}
    (h : ∀ h' d es' ep' t' l', Heap.SameBut a s.heap h' → At P w h' a es' ep' t' l' → (∀ z, z ∈ l' ↔ z ∈ l ∨ z ∈ m) → l'.length ≤ l.length + m.length → Q () { s with heap := h', drawn := d }) :
    wpAny (model P w) A (setMerge a o each) Q E s := by
  have hzo := R.size
  have hza := S.size
  unfold setMerge
  refine wp_if_neg (by simpa using ne) ?_
  try refine wpAny_bind (wpAny_pure ?_)
  refine wpAny_bind (state_x R ?_)
  dsimp only
  by_cases em : es.isEmpty = true
  · refine wp_if_pos em ?_
    have : m = [] := by
      have : es.size = 0 := by simpa using em
      exact List.eq_nil_of_length_eq_zero (hzo.symm.trans this)
    subst this
    exact wpAny_pure (h s.heap s.drawn es2 ep2 t2 l (Heap.SameBut.refl a s.heap) S (fun z => by simp) (Nat.le_add_right _ _))
  · refine wp_if_neg em ?_
    try refine wpAny_bind (wpAny_pure ?_)
    have mid : ∀ (h1 : Heap) (es1 : Array (Int × Value)) (ep1 : Nat) (t1 : SetTable), Heap.SameBut a s.heap h1 → At P w h1 a es1 ep1 t1 l → (l = [] → t1.dummies = #[] ∧ M3 t1.mask ∧ es.size ≤ t1.mask) → wpAny (model P w) A (do
        let (_, _, ts) ← setState a
        match ts.road t with
        | .slotForSlot => storeSet a es { t with finger := ts.finger, led := ts.led && t.led, moves := ts.moves, plain := ts.plain && t.plain }
        | .clean =>
          let (es, t) ← (do
            let some (t, order) := SetTable.laid ts.mask ts.finger ts.moves (led := ts.led && t.led) (plain := ts.plain && t.plain) (es.map (·.1)) | unsupported "internal:set-table-without-room"
            let es' := order.filterMap (es[·]?)
            if es'.size != es.size then unsupported "internal:set-table-lost-an-element"
            pure (es', t) : Sem (Array (Int × Value) × SetTable))
          storeSet a es t
        | .oneByOne =>
          for (h, x) in ← setWalkUnseen o [a] (some a) do
            let _ ← holding [x] (setAddHashed a x h)
            each
            if (← setState o).2.1 != ep then unsupported "set.changed-during-merge") Q E { s with heap := h1 } := fun h1 es1 ep1 t1 sb S1 f1 => by
      have R1 : At P w h1 o es ep t m := R.but sb (Ne.symm ne)
      have hz1 := S1.size
      have hp1 : t1.place.size = es1.size := by
        have := S1.fits
        unfold SetTable.fits at this
        rw [Bool.and_eq_true, beq_iff_eq] at this
        exact this.1
      have tl : w.params.followText "set-order" = true ∨ (t1.led && t.led) = true := by
        rcases R.led with q | q
        · exact .inl q
        · rcases S1.led with q2 | q2
          · exact .inl q2
          · exact .inr (by rw [q, q2]; rfl)
      refine wpAny_bind (state_x (s := { s with heap := h1 }) S1 ?_)
      dsimp only
      by_cases ll : l = []
      · subst ll
        obtain ⟨d1, m1, big⟩ := f1 rfl
        have f0 : (t1.fill != 0) = false := by
          have : t1.fill = 0 := by
            unfold SetTable.fill
            rw [d1, hp1, hz1]
            rfl
          rw [this]
          rfl
        by_cases c : (t1.mask == t.mask && t.dummies.isEmpty) = true
        · have er : t1.road t = .slotForSlot := by
            unfold SetTable.road
            rw [f0, if_neg Bool.false_ne_true, if_pos c]
          rw [er]
          dsimp only
          refine put_x (s := { s with heap := h1 }) (es2 := es) (t2 := { t with finger := t1.finger, led := t1.led && t.led, moves := t1.moves, plain := t1.plain && t.plain }) S1.ob (fun ep' => R.tx.perm (List.Perm.refl _) ?_) R.nd R.ris tl (by omega) fun h' sb' S' => h h' s.drawn _ _ _ m (sb.trans sb') S' (fun z => by simp) (by simp)
          have := R.fits
          cases t
          exact this
        · have er : t1.road t = .clean := by
            unfold SetTable.road
            rw [f0, if_neg Bool.false_ne_true, if_neg c]
          rw [er]
          dsimp only
          obtain ⟨t', order, e, hp, ris, pz, em2, ed, el⟩ := laid_ok m1 t1.finger t1.moves (t1.led && t.led) (t1.plain && t.plain) (hs := es.map (·.1)) (by rw [Array.size_map]; exact big)
          rw [Array.size_map] at hp pz
          have hs2 := order_size hp
          rw [e]
          dsimp only
          refine wpAny_bind ?_
          refine wp_if_neg (by rw [hs2]; simp) ?_
          try refine wpAny_bind (wpAny_pure ?_)
          refine wpAny_pure ?_
          dsimp only
          refine put_x (s := { s with heap := h1 }) S1.ob (fun ep' => R.tx.perm (order_perm hp) ?_) R.nd ris (by rw [el]; exact tl) (by omega) fun h' sb' S' => h h' s.drawn _ _ _ m (sb.trans sb') S' (fun z => by simp) (by simp)
          unfold SetTable.fits SetTable.fill
          rw [ed, Bool.and_eq_true, beq_iff_eq, decide_eq_true_eq, hs2]
          refine ⟨pz, ?_⟩
          show t'.place.size + 0 ≤ t'.mask
          omega
      · have er : t1.road t = .oneByOne := by
          unfold SetTable.road
          refine if_pos ?_
          have : t1.fill ≠ 0 := by
            unfold SetTable.fill
            have := List.length_pos_iff.mpr ll
            omega
          simpa using this
        rw [er]
        dsimp only
        refine wpAny_bind (walk_x (s := { s with heap := h1 }) R1 S1 (by omega) ne fun ys h2 d ep2' t2' pm sb2 S2 => ?_)
        have R2 : At P w h2 o es ep t m := R1.but sb2 (Ne.symm ne)
        rw [← Array.forIn_toList]
        refine wpAny_bind (wpAny_forIn_list _ (fun rest r s' => ∃ h' es' ep' t' l', s' = { s with heap := h', drawn := d } ∧ Heap.SameBut a s.heap h' ∧ At P w h' a es' ep' t' l' ∧ (∀ z, (z ∈ l' ∨ z ∈ rest.map kOf) ↔ z ∈ l ∨ z ∈ m) ∧ l'.length + rest.length ≤ l.length + m.length ∧ ∀ e ∈ rest, ∃ k u, e = (hashStr w k, Value.str k u)) _ (fun e rest r s' z => ?_) (fun r s' z => ?_) _ _ ⟨h2, _, _, _, l, rfl, sb.trans sb2, S2, fun z => ?_, ?_, fun e h => ?_⟩)
        · obtain ⟨h', es', ep', t', l', rfl, sb', S', hm, hl, hs⟩ := z
          obtain ⟨k, u, rfl⟩ := hs e List.mem_cons_self
          rw [List.length_cons] at hl
          dsimp only
          refine wpAny_bind (wpAny_holding ?_)
          refine add_any (s := { s with heap := h', drawn := d }) S' (by omega) fun b h3 es3 ep3 t3 l3 sb3 S3 hm3 hl3 => ?_
          have R3 : At P w h3 o es ep t m := R.but (sb'.trans sb3) (Ne.symm ne)
          refine wpAny_bind (he _ _ R3 ?_)
          refine wpAny_bind (state_x (s := { s with heap := h3, drawn := d }) R3 ?_)
          refine wp_if_neg (by simp) ?_
          refine wpAny_pure ⟨h3, es3, ep3, t3, l3, rfl, sb'.trans sb3, S3, fun z => ?_, by omega, fun e he' => hs e (List.mem_cons_of_mem _ he')⟩
          rw [← hm z, hm3 z, List.map_cons, List.mem_cons, or_assoc]
          exact Iff.rfl
        · obtain ⟨h', es', ep', t', l', rfl, sb', S', hm, hl, hs⟩ := z
          refine wpAny_pure (h h' d es' ep' t' l' sb' S' (fun z => ?_) (by simpa using hl))
          rw [← hm z]
          simp
        · rw [(pm.map kOf).mem_iff, R.keys z]
        · have e0 : es.toList.length = m.length := by rw [Array.length_toList]; exact hzo
          rw [pm.length_eq, e0]
          exact Nat.le_refl _
        · obtain ⟨k, u, _, e⟩ := R.strs e (pm.mem_iff.mp h)
          exact ⟨k, u, e⟩
    unfold setRoomFor
    refine wpAny_bind ?_
    refine wpAny_bind (state_x S ?_)
    dsimp only
    cases hr : t2.roomFor es.size with
    | none =>
      dsimp only
      refine wpAny_pure (mid s.heap es2 ep2 t2 (Heap.SameBut.refl a s.heap) S fun z => ⟨(fr z).1, (fr z).2, ?_⟩)
      unfold SetTable.roomFor at hr
      split at hr
      · cases hr
      · omega
    | some wanted =>
      dsimp only
      have hw : wanted = (t2.place.size + es.size) * 2 := by
        unfold SetTable.roomFor at hr
        split at hr
        · exact (Option.some.inj hr).symm
        · cases hr
      have hp : t2.place.size = es2.size := by
        have := S.fits
        unfold SetTable.fits at this
        rw [Bool.and_eq_true, beq_iff_eq] at this
        exact this.1
      exact relay_x S (by omega) (by omega) fun h' es' t' sb S' d1 d2 d3 => mid h' es' _ t' sb S' fun _ => ⟨d1, d2, by omega⟩
end
end SX

set_option Elab.async false
set_option linter.all false
set_option maxRecDepth 100000
set_option maxHeartbeats 4000000
/-! sets of texts: a | b -/
namespace SX
open PySem PySem.Spec PyProof.Rows L2
open Froz (sObj TxOk SD)
open PySem.Builtin.Frozenset (addrOf isAnySet slot1 copyOf updateFrom baseOf unchanged)
theorem or_eq (args : Args) : Builtin.«frozenset.__or__» args = (do
    let (l, r) ← slot1 "__or__" args
    if !(← isAnySet l <&&> isAnySet r) then rule s!"frozenset.{"__or__"}.declined"; return ← ret .notImplemented
    let a ← addrOf l
    ret (← (do
      let result ← copyOf a
      if r != .ref a then holding [result] (updateFrom s!"frozenset.{"__or__"}" (← addrOf result) r)
      return result))) := rfl
theorem entry_set_or : entryFor table "set.__or__" = some Builtin.«frozenset.__or__» :=
  entryFor_alias (id' := "frozenset.__or__") (by kernel_rfl) rfl (by decide +kernel) (by kernel_rfl)
abbrev newO (w : World) : Obj := { cls := .type "set", dict := none, data := .set #[] 0 (.fresh 0 0 (!w.params.followText "set-order")) }
section
variable {P : Program} {w : World} {A : Around} {E : Value → Shared → Prop} {s : Shared} {a o : Addr} {es es2 : Array (Int × Value)} {ep ep2 : Nat} {t t2 : SetTable} {l m : List Str}
theorem At.new {h : Heap} (e : h.get? a = some (newO w)) : At P w h a #[] 0 (.fresh 0 0 (!w.params.followText "set-order")) [] where
  ob := e
  tx := Froz.TxOk.nil (by cases w.params.followText "set-order" <;> decide)
  nd := List.nodup_nil
  ris := List.Pairwise.nil
  led := by
    show _ ∨ (!w.params.followText "set-order") = true
    cases w.params.followText "set-order"
    · exact .inr rfl
    · exact .inl rfl
theorem At.typeIs (R : At P w s.heap a es ep t l) : s.TypeIs (.ref a) "set" := ⟨_, R.ob, rfl⟩
theorem any_x (R : At P w s.heap a es ep t l) {Q : Bool → Shared → Prop} (h : Q true s) : wpAny (model P w) A (isAnySet (.ref a)) Q E s := by
  unfold isAnySet
  refine wpAny_bind (wpAny_isInstance (T := "set") (b := true) R.typeIs sub_set_self ?_)
  exact wpAny_pure h
theorem base_x (R : At P w s.heap a es ep t l) {Q : Value → Shared → Prop} (h : Q (.type "set") s) : wpAny (model P w) A (baseOf a) Q E s := by
  unfold baseOf
  refine wpAny_bind (wpAny_isInstance (T := "set") (b := true) R.typeIs sub_set_self ?_)
  exact wpAny_pure h
theorem lt_of {h : Heap} (R : At P w h a es ep t l) : a < h.objs.size := Heap.lt_size R.ob
/-- a copy -/
theorem copy_x (R : At P w s.heap a es ep t l) (few : l.length ≤ 15) {Q : Value → Shared → Prop}
    (h : ∀ h' d es' ep' t' l', Heap.SameBut s.heap.objs.size (s.heap.push (newO w)) h' → At P w h' s.heap.objs.size es' ep' t' l' → (∀ z, z ∈ l' ↔ z ∈ l) → l'.length ≤ l.length → (l' = [] → t'.dummies = #[] ∧ M3 t'.mask) → Q (.ref s.heap.objs.size) { s with heap := h', drawn := d }) :
    wpAny (model P w) A (copyOf a) Q E s := by
  have hn : (s.heap.push (newO w)).get? s.heap.objs.size = some (newO w) := Heap.get?_push_size _ rfl
  have S : At P w (s.heap.push (newO w)) s.heap.objs.size #[] 0 (.fresh 0 0 (!w.params.followText "set-order")) [] := At.new hn
  have R1 : At P w (s.heap.push (newO w)) a es ep t l := R.keep fun o e => Heap.get?_push_of_some _ e
  have ne : s.heap.objs.size ≠ a := Nat.ne_of_gt (lt_of R)
  unfold copyOf
  refine wpAny_bind (base_x R ?_)
  refine wpAny_bind (PpSet.newSet_ok ?_)
  show wpAny _ _ (addrOf (.ref s.heap.objs.size) >>= _) _ _ _
  unfold addrOf
  refine wpAny_bind (wpAny_pure ?_)
  by_cases c : l = []
  · subst c
    -- nothing to merge
    have z0 : es.size = 0 := R.size
    refine wpAny_bind ?_
    unfold setMerge
    refine wp_if_neg (by simpa using ne) ?_
    try refine wpAny_bind (wpAny_pure ?_)
    refine wpAny_bind (state_x (s := { s with heap := s.heap.push (newO w) }) R1 ?_)
    dsimp only
    refine wp_if_pos (by simpa using z0) ?_
    exact wpAny_pure (wpAny_pure (h _ s.drawn _ _ _ [] (Heap.SameBut.refl _ _) S (fun z => Iff.rfl) (Nat.le_refl _) fun _ => ⟨rfl, .inl rfl⟩))
  · refine wpAny_bind (merge_x (s := { s with heap := s.heap.push (newO w) }) S R1 ne (by simpa using few) (fun _ => ⟨rfl, .inl rfl⟩) (fun s' Q q1 q2 => wpAny_pure q2) fun h' d es' ep' t' l' sb S' hm hl => ?_)
    refine wpAny_pure (h h' d es' ep' t' l' sb S' (fun z => by rw [hm z]; simp) (by simpa using hl) fun e => absurd ?_ c)
    subst e
    cases l with
    | nil => rfl
    | cons x r => exact absurd ((hm x).mpr (.inr List.mem_cons_self)) (by simp)
/-- a | b -/
theorem or_x (L : At P w s.heap a es ep t l) (R : At P w s.heap o es2 ep2 t2 m) (few : l.length + m.length ≤ 15) {Q : Value → Shared → Prop}
    (h : ∀ h' d es' ep' t' l', Heap.SameBut s.heap.objs.size (s.heap.push (newO w)) h' → At P w h' s.heap.objs.size es' ep' t' l' → (∀ z, z ∈ l' ↔ z ∈ l ∨ z ∈ m) → l'.length ≤ l.length + m.length → Q (.ref s.heap.objs.size) { s with heap := h', drawn := d }) :
    wpAny (model P w) A (binaryOp .BitOr (.ref a) (.ref o)) Q E s := by
  refine wpAny_binaryOp_same (op := .BitOr) (T := "set") L.typeIs R.typeIs F.fills_set_or F.slot_set_or ?_
  refine wpAny_call_entry F.slot_set_or L.typeIs entry_set_or ?_ (F.args_set_or_2 _ _)
  rw [or_eq]
  refine wpAny_bind (m := slot1 "__or__" _) (wpAny_pure ?_)
  dsimp only
  refine wpAny_bind ?_
  refine wpAny_bind (any_x L ?_)
  refine any_x R ?_
  refine wp_if_neg (by decide) ?_
  try refine wpAny_bind (wpAny_pure ?_)
  refine wpAny_bind ?_
  refine wpAny_bind (copy_x L (by omega) fun h1 d1 es1 ep1 t1 l1 sb S1 m1 n1 f1 => ?_)
  by_cases c : (Value.ref o != .ref a) = true
  · refine wp_if_pos c ?_
    have hlt := lt_of R
    have ne : s.heap.objs.size ≠ o := Nat.ne_of_gt hlt
    have R1 : At P w h1 o es2 ep2 t2 m := (R.keep (h' := s.heap.push (newO w)) fun u e => Heap.get?_push_of_some _ e).but sb (Ne.symm ne)
    refine wpAny_bind (m := addrOf (.ref s.heap.objs.size)) (wpAny_pure ?_)
    refine wpAny_bind ?_
    refine wpAny_holding ?_
    unfold updateFrom
    refine wpAny_bind (any_x (s := { s with heap := h1, drawn := d1 }) R1 ?_)
    refine wp_if_pos rfl ?_
    refine wpAny_bind (m := addrOf (.ref o)) (wpAny_pure ?_)
    unfold Builtin.Frozenset.merge
    refine wpAny_bind (epoch_x (s := { s with heap := h1, drawn := d1 }) R1 ?_)
    refine merge_x (s := { s with heap := h1, drawn := d1 }) S1 R1 ne (by omega) f1 (fun s' Q' q1 q2 => ?_) fun h' d es' ep' t' l' sb2 S' hm hl => ?_
    · unfold unchanged
      refine wpAny_bind (epoch_x q1 ?_)
      refine wp_if_neg (by simp) ?_
      exact wpAny_pure q2
    · refine wpAny_pure (wpAny_pure ⟨_, rfl, (fun z => nomatch z), ?_⟩)
      exact h h' d es' ep' t' l' (sb.trans sb2) S' (fun z => by rw [hm z, m1 z]) (by omega)
  · refine wp_if_neg c ?_
    try refine wpAny_bind (wpAny_pure ?_)
    have e : o = a := by simpa using c
    subst e
    have em : ∀ z, z ∈ m ↔ z ∈ l := fun z => by
      rw [← R.keys z, ← L.keys z]
      have := L.ob.symm.trans R.ob
      have e2 := Option.some.inj this
      unfold sObj at e2
      injection e2 with _ _ e3 _
      injection e3 with e4 _ _
      have e5 : es = es2 := e4
      rw [e5]
    refine wpAny_pure (wpAny_pure ⟨_, rfl, (fun z => nomatch z), ?_⟩)
    exact h h1 d1 es1 ep1 t1 l1 sb S1 (fun z => by rw [m1 z, em z]; simp) (by omega)
end
end SX

set_option Elab.async false
set_option linter.all false
set_option maxRecDepth 100000
set_option maxHeartbeats 4000000
/-! sets of texts: set(x), x a tuple or a list of texts, or a dict with text keys -/
namespace SX
open PySem PySem.Spec PyProof.Rows L2
open Froz (sObj TxOk SD)
open PySem.Builtin.Frozenset (addrOf isAnySet updateFrom)
section
variable {P : Program} {w : World} {A : Around} {E : Value → Shared → Prop} {s : Shared} {a o : Addr} {es es2 : Array (Int × Value)} {ep ep2 : Nat} {t t2 : SetTable} {l m : List Str}
/-- the loop that fills it: ks the texts that come -/
theorem fill {I : Addr} {fp wr : List Addr} {G : Array GenState → Array GenState → Prop} {n : Nat} {Pv : Nat → Value → Prop} {St : Nat → Shared → Prop} {R : Result → Shared → Prop}
    (W : WalksS P w A.in1 I fp wr G n Pv St) (S : Addr) (hSf : S ∉ fp) (ks : List Str) (hn : n = ks.length) (few : ks.length ≤ 15) (hval : ∀ i v, Pv i v → ∃ k u, ks[i]? = some k ∧ v = .str k u)
    (h0 : Heap) (hS0 : h0.get? S = none) (hw0 : ∀ b ∈ wr, h0.get? b = none) :
    ∀ (m i : Nat) (s : Shared), n - i = m → i ≤ n → St i s → (∀ b o, h0.get? b = some o → s.heap.get? b = some o) → (∃ es ep t l, At P w s.heap S es ep t l ∧ (∀ z, z ∈ l ↔ z ∈ ks.take i) ∧ l.length ≤ i) →
      (∀ s' es ep t l, Moved (S :: wr) G s s' → At P w s'.heap S es ep t l → (∀ z, z ∈ l ↔ z ∈ ks) → l.length ≤ ks.length → (∀ b o, h0.get? b = some o → s'.heap.get? b = some o) → R (.ok (.ret .none)) s') →
      codeAny (model P w) A (.builtin "set.update.loop" ⟨[.ref S, .ref I], []⟩) R s := by
  have hSw : S ∉ wr := fun h => hSf (W.sub _ h)
  have wide : ∀ b ∈ wr, b ∈ S :: wr := fun b hb => List.mem_cons_of_mem _ hb
  have stay : ∀ {s s' : Shared}, Moved wr G s s' → (∀ b o, h0.get? b = some o → s.heap.get? b = some o) → ∀ b o, h0.get? b = some o → s'.heap.get? b = some o := fun hm z b o e =>
    hm.heap b o (fun hb => by rw [hw0 b hb] at e; cases e) (z b o e)
  intro m
  induction m with
  | zero =>
    intro i s hk' hi hst hkp ⟨es, ep, t, l, T, g, gl⟩ hR
    obtain rfl : i = n := by omega
    refine codeAny_builtin F.entry_set_update_loop ?_
    rw [Around.under_plainId F.plain_set_update_loop _]
    show wpAny _ A.in1 (pyNext (.ref I) >>= _) _ _ s
    refine wpAny_bind (W.done s _ _ hst fun s' hm => ?_)
    show wpAny _ A.in1 (ret Value.none) _ _ s'
    exact wpAny_pure (hR s' es ep t l (hm.mono wide) (T.keep fun o e => hm.heap S o hSw e) (fun z => by rw [g z, hn, List.take_length]) (by omega) (stay hm hkp))
  | succ m ih =>
    intro i s hk' hi hst hkp ⟨es, ep, t, l, T, g, gl⟩ hR
    have hlt : i < n := by omega
    refine codeAny_builtin F.entry_set_update_loop ?_
    rw [Around.under_plainId F.plain_set_update_loop _]
    show wpAny _ A.in1 (pyNext (.ref I) >>= _) _ _ s
    refine wpAny_bind (W.item i s _ _ hlt hst fun v s' hP hst' hm => ?_)
    obtain ⟨k, u, hq, rfl⟩ := hval i v hP
    have z := stay hm hkp
    have T' : At P w s'.heap S es ep t l := T.keep fun o e => hm.heap S o hSw e
    show wpAny _ A.in1 (holding [Value.str k u] (setAdd S (.str k u)) >>= _) _ _ s'
    refine wpAny_bind (wpAny_holding ?_)
    unfold setAdd
    refine wpAny_holding ?_
    refine wpAny_bind ((strKind P w).pyHash (Froz.is_str k u) ?_)
    refine add_any (s := { s' with toks := s'.toks + 1 }) T' (by omega) fun b h' es' ep' t' l' sb T2 c1 c2 => ?_
    have et : ks.take (i + 1) = ks.take i ++ [k] := L2.take_next hq
    have z2 : ∀ b o, h0.get? b = some o → h'.get? b = some o := fun b o e => (sb.2 b (fun y => by rw [y, hS0] at e; cases e)).trans (z b o e)
    refine wpAny_pure ⟨plainId_quiet F.plain_set_update_loop _, ih (i + 1) _ (by omega) hlt (W.frame _ s' _ _ hst' (Nat.le_add_right _ _) fun b hb o e => ?_) z2 ⟨es', ep', t', l', T2, fun y => ?_, by omega⟩ fun s2 es2 ep2 t2 l2 hm2 T3 g3 l3 z3 => ?_⟩
    · rw [sb.2 b (fun h : b = S => hSf (by rw [← h]; exact hb))]; exact e
    · rw [c1 y, g y, et, List.mem_append, List.mem_singleton]
    · refine hR s2 es2 ep2 t2 l2 (Moved.trans W.gtrans ((hm.mono wide).then_heap (Nat.le_add_right _ _) fun b o hb e => ?_) hm2) T3 g3 l3 z3
      rw [sb.2 b (fun h : b = S => hb (by rw [h]; exact List.mem_cons_self))]; exact e
/-- set(x): what updateFrom has to do -/
theorem call_set {x : Value} {Q : Value → Shared → Prop} (ks : List Str)
    (up : ∀ (A' : Around) (s1 : Shared) (Q' : Unit → Shared → Prop), s1 = { s with heap := s.heap.push (newO w) } → A'.handled = A.handled → (∀ h' d tk es ep t l, At P w h' s.heap.objs.size es ep t l → (∀ z, z ∈ l ↔ z ∈ ks) → l.length ≤ ks.length → (∀ b o, s.heap.get? b = some o → h'.get? b = some o) → Q' () { s with heap := h', drawn := d, toks := tk }) →
      wpAny (model P w) A' (updateFrom "set.__init__" s.heap.objs.size x) Q' E s1)
    (h : ∀ (h' : Heap) d (tk : Nat) es ep t l, At P w h' s.heap.objs.size es ep t l → (∀ z, z ∈ l ↔ z ∈ ks) → l.length ≤ ks.length → (∀ b o, s.heap.get? b = some o → h'.get? b = some o) → Q (.ref s.heap.objs.size) { s with heap := h', drawn := d, toks := tk }) :
    wpAny (model P w) A (call (.type "set") [x]) Q E s := by
  obtain ⟨c, tl, hmro⟩ := F.called_set.mro
  have hmade := F.called_set.made
  have hsub := F.called_set.sub
  refine wpAny_call (codeAny_of_tree ?_)
  show wpAny _ _ (callAny (.type "set") _) _ _ _
  refine wpAny_pure ⟨Code.quiet_builtin _ (by decide +kernel), codeAny_builtin F.entry_type_call ?_⟩
  rw [Around.under_plain (weight_type_call_type "set" [x] []) rfl]
  have h1 := F.called_set.notType
  have h2 := F.called_set.canCreate
  have hct := F.typeCall_set_1 x
  repeat (any_goals (first | assumption | wp_step))
  refine codeAny_mono (code_set_led1 x (E := E) (Q₁ := fun obj s₁ => obj = .ref s.heap.objs.size ∧ s₁ = { s with heap := s.heap.push (newO w) }) ⟨rfl, rfl⟩) fun r s₁ hr => ?_
  rcases r with e | fl
  · exact hr
  cases fl with
  | ret obj =>
    obtain ⟨rfl, rfl⟩ := hr
    have hS : (s.heap.push (newO w)).get? s.heap.objs.size = some (newO w) := Heap.get?_push_size _ rfl
    have hT : Shared.TypeIs { s with heap := s.heap.push (newO w) } (.ref s.heap.objs.size) "set" := ⟨_, hS, rfl⟩
    have hli := F.called_set.init.lookup
    have hbi := F.called_set.init.bind (.ref s.heap.objs.size)
    repeat (any_goals (first | assumption | wp_step))
    refine codeAny_mono (codeAny_call_builtin (R := wants (fun r s₂ => r = .none ∧ ∃ h' d tk es ep t l, s₂ = { s with heap := h', drawn := d, toks := tk } ∧ At P w h' s.heap.objs.size es ep t l ∧ (∀ z, z ∈ l ↔ z ∈ ks) ∧ l.length ≤ ks.length ∧
        (∀ b o, s.heap.get? b = some o → h'.get? b = some o)) E) F.called_set.init.plain F.entry_set_init (check_set_init_1 hT ?_)) fun r₂ s₂ hr₂ => ?_
    · have R0 : At P w (s.heap.push (newO w)) s.heap.objs.size #[] 0 (.fresh 0 0 (!w.params.followText "set-order")) [] := At.new hS
      unfold Builtin.«set.__init__» noKeywords
      generalize hUF : updateFrom = UF
      wp_walk
      subst hUF
      exact up _ _ _ rfl (by simp) fun h' d tk es ep t l T g gl z => wpAny_pure ⟨rfl, h', d, tk, es, ep, t, l, rfl, T, g, gl, z⟩
    · rcases r₂ with e | fl₂
      · exact hr₂
      cases fl₂ with
      | ret r =>
        obtain ⟨rfl, h', d, tk, es, ep, t, l, rfl, T, g, gl, z⟩ := hr₂
        repeat (any_goals (first | assumption | wp_step))
        exact h _ _ _ _ _ _ _ T g gl z
      | _ => exact hr₂.elim
  | _ => exact hr.elim
end
end SX

set_option Elab.async false
set_option linter.all false
set_option maxRecDepth 100000
set_option maxHeartbeats 4000000
/-! sets of texts: from a tuple, a list, a dict -/
namespace SX
open PySem PySem.Spec PyProof.Rows L2
open Froz (sObj TxOk SD)
open PySem.Builtin.Frozenset (addrOf isAnySet updateFrom)
section
variable {P : Program} {w : World} {A : Around} {E : Value → Shared → Prop} {s : Shared} {a o : Addr} {es es2 : Array (Int × Value)} {ep ep2 : Nat} {t t2 : SetTable} {l m : List Str}
theorem strs_at : ∀ {us : List Value} {ks : List Str}, StrsAre us ks → ∀ (i : Nat) (v : Value), us[i]? = some v → ∃ k u, ks[i]? = some k ∧ v = .str k u
  | _, _, .nil, i, v, h => by simp at h
  | _, _, .cons y u r, 0, v, h => ⟨y, u, rfl, (Option.some.inj h).symm⟩
  | _, _, .cons y u r, i + 1, v, h => by
    obtain ⟨k, u', a, b⟩ := strs_at r i v (by simpa using h)
    exact ⟨k, u', by simpa using a, b⟩
theorem strs_len : ∀ {us : List Value} {ks : List Str}, StrsAre us ks → us.length = ks.length
  | _, _, .nil => rfl
  | _, _, .cons _ _ r => by rw [List.length_cons, List.length_cons, strs_len r]
theorem up_tup {id : String} {l : Addr} {items : Array Value} {ks : List Str} {Q : Unit → Shared → Prop} (hl : s.heap.IsTuple l items) (hit : StrsAre items.toList ks) (few : ks.length ≤ 15) (hh : A.handled = none)
    (h : ∀ h' d tk es ep t l, At P w h' s.heap.objs.size es ep t l → (∀ z, z ∈ l ↔ z ∈ ks) → l.length ≤ ks.length → (∀ b o, s.heap.get? b = some o → h'.get? b = some o) → Q () { s with heap := h', drawn := d, toks := tk }) :
    wpAny (model P w) A (updateFrom id s.heap.objs.size (.ref l)) Q E { s with heap := s.heap.push (newO w) } := by
  have hsz : items.size = ks.length := by rw [← Array.length_toList, strs_len hit]
  have hS : (s.heap.push (newO w)).get? s.heap.objs.size = some (newO w) := Heap.get?_push_size _ rfl
  obtain ⟨ol, hol, hcl, nl, hdl⟩ := hl
  obtain ⟨ocls, odict, odata, oslots⟩ := ol
  simp only at hcl hdl
  subst hcl; subst hdl
  have hol' : (s.heap.push (newO w)).get? l = some { cls := .type "tuple", dict := odict, data := .seq items nl, slots := oslots } := Heap.get?_push_of_some _ hol
  have hT' : Shared.TypeIs { s with heap := s.heap.push (newO w) } (.ref l) "tuple" := ⟨_, hol', rfl⟩
  have hl1 : (s.heap.push (newO w)).IsTuple l items := ⟨_, hol', rfl, nl, rfl⟩
  have hlS : l < s.heap.objs.size := Heap.lt_size hol
  have hsize : (s.heap.push (newO w)).objs.size = s.heap.objs.size + 1 := Heap.size_push ..
  have hneI : l ≠ (s.heap.push (newO w)).objs.size := by rw [hsize]; exact Nat.ne_of_lt (Nat.lt_succ_of_lt hlS)
  have hSf : s.heap.objs.size ∉ [(s.heap.push (newO w)).objs.size, l] := by
    rw [hsize]
    simp only [List.mem_cons, List.not_mem_nil, or_false, not_or]
    exact ⟨Nat.ne_of_lt (Nat.lt_succ_self _), Nat.ne_of_gt hlS⟩
  have hval : ∀ (i : Nat) (v : Value), items[i]? = some v → ∃ k u, ks[i]? = some k ∧ v = .str k u := fun i v hv => strs_at hit i v (by rw [Array.getElem?_toList]; exact hv)
  have off : ∀ b, s.heap.objs.size ≤ b → s.heap.get? b = none := fun b hb => by
    cases z : s.heap.get? b with
    | none => rfl
    | some o => exact absurd (Nat.lt_of_lt_of_le (Heap.lt_size z) hb) (Nat.lt_irrefl _)
  have hh3 : A.in1.handled = none := by simp [hh]
  unfold updateFrom
  refine wpAny_bind (m := isAnySet _) ?_
  unfold isAnySet
  refine wpAny_bind (wpAny_isInstance (b := false) hT' F.sub_tuple_set ?_)
  refine wpAny_isInstance (b := false) hT' F.sub_tuple_frozenset ?_
  refine wp_if_neg (by decide) ?_
  try refine wpAny_bind (wpAny_pure ?_)
  refine wpAny_bind (wpAny_typeOf hT' ?_)
  refine wp_if_neg (by decide) ?_
  try refine wpAny_bind (wpAny_pure ?_)
  refine wpAny_bind (wpAny_pyIter_tuple hl1 ?_)
  refine wpAny_bind (wpAny_runValue ?_)
  refine fill ((Walks.tuple hh3 _ l hneI items).toS) s.heap.objs.size hSf ks hsz few hval s.heap (off _ (Nat.le_refl _)) (fun b hb => off b (by rw [List.mem_singleton.mp hb, hsize]; exact Nat.le_succ _)) (items.size - 0) 0 _ (by omega) (Nat.zero_le _)
    ⟨⟨_, Heap.get?_push_size _ rfl, rfl, rfl⟩, (hl1.push _)⟩ (fun b o e => Heap.get?_push_of_some _ (Heap.get?_push_of_some _ e)) ⟨_, _, _, [], At.new (Heap.get?_push_of_some _ hS), fun z => by simp, Nat.le_refl _⟩ fun s' es ep t l' hm T g gl z => ?_
  obtain ⟨h', g2, d', tk', os'⟩ := s'
  obtain rfl : g2 = s.gens := hm.gens
  obtain rfl : os' = s.os := hm.os
  exact wpAny_pure (h h' d' tk' es ep t l' T g gl z)
theorem up_dict {id : String} {d : Addr} {ob : Obj} {ds : Array DictEntry} {dep : Nat} {ks : List Str} {Q : Unit → Shared → Prop} (ho : s.heap.get? d = some ob) (hc : ob.cls = .type "dict") (hd : ob.data = .dict ds dep) (sys : (d == sysModules) = false) (hsz : ds.size = ks.length)
    (hk : ∀ (i : Nat) (e : DictEntry), ds[i]? = some e → ∃ k u, ks[i]? = some k ∧ e.key = .str k u ∧ e.hash = hashStr w k) (few : ks.length ≤ 15)
    (h : ∀ h' es ep t l, At P w h' s.heap.objs.size es ep t l → (∀ z, z ∈ l ↔ z ∈ ks) → l.length ≤ ks.length → (∀ b o, s.heap.get? b = some o → h'.get? b = some o) → Q () { s with heap := h' }) :
    wpAny (model P w) A (updateFrom id s.heap.objs.size (.ref d)) Q E { s with heap := s.heap.push (newO w) } := by
  have hS : (s.heap.push (newO w)).get? s.heap.objs.size = some (newO w) := Heap.get?_push_size _ rfl
  have ho' : (s.heap.push (newO w)).get? d = some ob := Heap.get?_push_of_some _ ho
  have hT' : Shared.TypeIs { s with heap := s.heap.push (newO w) } (.ref d) "dict" := ⟨_, ho', hc⟩
  have hlt : d < s.heap.objs.size := Heap.lt_size ho
  have ne : d ≠ s.heap.objs.size := Nat.ne_of_lt hlt
  have there : ∀ {h1 : Heap}, Heap.SameBut s.heap.objs.size (s.heap.push (newO w)) h1 → h1.get? d = some ob := fun sb => (sb.2 d ne).trans ho'
  have old : ∀ {h1 : Heap}, Heap.SameBut s.heap.objs.size (s.heap.push (newO w)) h1 → ∀ b o, s.heap.get? b = some o → h1.get? b = some o := fun sb b o e => (sb.2 b (Nat.ne_of_lt (Heap.lt_size e))).trans (Heap.get?_push_of_some _ e)
  have S0 : At P w (s.heap.push (newO w)) s.heap.objs.size #[] 0 (.fresh 0 0 (!w.params.followText "set-order")) [] := At.new hS
  unfold updateFrom
  refine wpAny_bind (m := isAnySet _) ?_
  unfold isAnySet
  refine wpAny_bind (wpAny_isInstance (b := false) hT' (by rw [isSubtype_type]; kernel_rfl) ?_)
  refine wpAny_isInstance (b := false) hT' (by rw [isSubtype_type]; kernel_rfl) ?_
  refine wp_if_neg (by decide) ?_
  try refine wpAny_bind (wpAny_pure ?_)
  refine wpAny_bind (wpAny_typeOf hT' ?_)
  refine wp_if_pos (by decide) ?_
  refine wpAny_bind (wpAny_rule ?_)
  refine wpAny_bind (m := addrOf (.ref d)) (wpAny_pure ?_)
  refine wp_if_neg (by rw [sys]; decide) ?_
  try refine wpAny_bind (wpAny_pure ?_)
  refine wpAny_bind (wpAny_dictEpoch ho' hd ?_)
  refine wpAny_bind (wpAny_dictEntries ho' hd ?_)
  have mid : ∀ (h1 : Heap) (es1 : Array (Int × Value)) (ep1 : Nat) (t1 : SetTable), Heap.SameBut s.heap.objs.size (s.heap.push (newO w)) h1 → At P w h1 s.heap.objs.size es1 ep1 t1 [] → wpAny (model P w) A (do
      for i in [0:(← dictEntries d).size] do
        let some e := (← dictEntries d)[i]? | unsupported "internal:set-from-dict"
        let _ ← holding [e.key] (setAddHashed s.heap.objs.size e.key e.hash)
        if (← dictEpoch d) != dep then unsupported s!"{id}:changed-during-callback"
      return) Q E { s with heap := h1 } := fun h1 es1 ep1 t1 sb S1 => by
    refine wpAny_bind (wpAny_dictEntries (s := { s with heap := h1 }) (there sb) hd ?_)
    rw [Std.Legacy.Range.forIn_eq_forIn_range']
    simp only [Std.Legacy.Range.size, Nat.sub_zero, Nat.add_sub_cancel, Nat.div_one]
    refine wpAny_bind ?_
    refine wpAny_forIn_list _
      (fun rest r s' => ∃ i h' es' ep' t' l', rest = List.range' i (ds.size - i) ∧ i ≤ ds.size ∧ s' = { s with heap := h' } ∧ Heap.SameBut s.heap.objs.size (s.heap.push (newO w)) h' ∧ At P w h' s.heap.objs.size es' ep' t' l' ∧ (∀ z, z ∈ l' ↔ z ∈ ks.take i) ∧ l'.length ≤ i)
      _ (fun x rest r s' z => ?_) (fun r s' z => ?_) _ _ ⟨0, h1, _, _, _, [], by simp, Nat.zero_le _, rfl, sb, S1, fun z => by simp, Nat.le_refl _⟩
    · obtain ⟨i, h', es', ep', t', l', er, hi, rfl, sb', S', hm, hl⟩ := z
      have hlt' : i < ds.size := by
        rcases Nat.lt_or_ge i ds.size with h | h
        · exact h
        · rw [Nat.sub_eq_zero_of_le h] at er; simp at er
      obtain ⟨rfl, er'⟩ : x = i ∧ rest = List.range' (i + 1) (ds.size - (i + 1)) := by
        have e : ds.size - i = (ds.size - (i + 1)) + 1 := by omega
        rw [e, List.range'_succ] at er
        injection er with h1 h2
        exact ⟨h1, h2⟩
      refine wpAny_bind (wpAny_dictEntries (s := { s with heap := h' }) (there sb') hd ?_)
      obtain ⟨k, u, ek, ey, eh⟩ := hk x ds[x] (Array.getElem?_eq_getElem hlt')
      rw [Array.getElem?_eq_getElem hlt']
      dsimp only
      rw [ey, eh]
      refine wpAny_bind (wpAny_holding ?_)
      refine add_any (s := { s with heap := h' }) S' (by omega) fun b h3 es3 ep3 t3 l3 sb3 S3 hm3 hl3 => ?_
      refine wpAny_bind (wpAny_dictEpoch (s := { s with heap := h3 }) (there (sb'.trans sb3)) hd ?_)
      refine wp_if_neg (by simp) ?_
      refine wpAny_pure ⟨x + 1, h3, es3, ep3, t3, l3, er', hlt', rfl, sb'.trans sb3, S3, fun z => ?_, by omega⟩
      have et : ks.take (x + 1) = ks.take x ++ [k] := L2.take_next ek
      rw [hm3 z, hm z, et, List.mem_append, List.mem_singleton]
    · obtain ⟨i, h', es', ep', t', l', er, hi, rfl, sb', S', hm, hl⟩ := z
      have ei : i = ds.size := by
        have := congrArg List.length er
        rw [List.length_nil, List.length_range'] at this
        omega
      refine wpAny_pure (h h' es' ep' t' l' S' (fun z => ?_) (by omega) (old sb'))
      rw [hm z, ei, hsz, List.take_length]
  unfold setRoomFor
  refine wpAny_bind ?_
  refine wpAny_bind (state_x (s := { s with heap := s.heap.push (newO w) }) S0 ?_)
  dsimp only
  cases hr : (SetTable.fresh 0 0 (!w.params.followText "set-order")).roomFor ds.size with
  | none =>
    dsimp only
    exact wpAny_pure (mid _ _ _ _ (Heap.SameBut.refl _ _) S0)
  | some wanted =>
    dsimp only
    have hw : wanted = (0 + ds.size) * 2 := by
      unfold SetTable.roomFor at hr
      split at hr
      · exact (Option.some.inj hr).symm
      · cases hr
    exact relay_x (s := { s with heap := s.heap.push (newO w) }) S0 (by omega) (Nat.zero_le _) fun h' es' t' sb S' _ _ _ => mid h' es' _ t' sb S'
end
end SX

set_option Elab.async false
set_option linter.all false
set_option maxRecDepth 100000
set_option maxHeartbeats 4000000
/-! sets of texts over the layer: set(t), set(d), a | b, sorted(a) -/
namespace SX
open PySem PySem.Spec PyProof.Rows L2
theorem permOf : ∀ (l m : List Str), l.Nodup → (∀ z, z ∈ l → z ∈ m) → m.length ≤ l.length → m.Perm l
  | [], m, _, _, hl => by
    rw [List.eq_nil_of_length_eq_zero (Nat.le_zero.mp hl)]
  | x :: l, m, nd, hs, hl => by
    obtain ⟨h1, h2⟩ := List.nodup_cons.mp nd
    have hx := hs x List.mem_cons_self
    refine (List.perm_cons_erase hx).trans ((permOf l (m.erase x) h2 (fun z hz => (List.mem_erase_of_ne fun (e : z = x) => h1 (e ▸ hz)).2 (hs z (List.mem_cons_of_mem _ hz))) ?_).cons x)
    rw [List.length_erase_of_mem hx]
    rw [List.length_cons] at hl
    omega
/-- the set of the texts l at a -/
def SetX (P : Program) (w : World) (a : Addr) (l : List Str) : HO := .ext fun h => ∃ es ep t, At P w h a es ep t l
section
variable {X : Cx} {pins : List (Addr × Obj)} {σ : L2.St} {H : Hp} {s : Shared} {a : Addr} {l m : List Str}
theorem setX_new {P : Program} {w : World} {H : Hp} {h : Heap} {es : Array (Int × Value)} {ep : Nat} {t : SetTable} (R : At P w h a es ep t l) : ObjOk P w H h a (SetX P w a l) :=
  ⟨⟨es, ep, t, R⟩, ⟨_, R.ob⟩, fun h1 h2 ⟨es, ep, t, R⟩ k => ⟨es, ep, t, R.keep k⟩⟩
theorem setX_get (I : Inv X pins σ H s) (ha : H a = some (SetX X.prog X.w a l)) : ∃ es ep t, At X.prog X.w s.heap a es ep t l := (I.hok a _ ha).1
theorem laidD {h' : Heap} {d : Drawn} {tk : Nat} {p : Addr} {o : HO} (I : Inv X pins σ H s) (k : ∀ b u, s.heap.get? b = some u → h'.get? b = some u) (hp : s.heap.objs.size ≤ p) (ok : ObjOk X.prog X.w (upd H p o) h' p o) :
    Inv X pins σ (upd H p o) { s with heap := h', drawn := d, toks := tk } :=
  I.call (ch := []) (Un.laid k hp (I.hok.fresh hp)) (I.hok.laid k hp ok) I.bare (fun _ z => nomatch z)
/-- set(t) -/
def rSetT (P : Program) (w : World) (K : PySem.W.Frag) : List V → Hp → VK → Prop := fun xs H Q => ∃ (p : Addr) (ks : List Str), xs = [.ref p] ∧ SqT K H p (ks.map V.str) ∧ ks.length ≤ 15 ∧
  ∀ l q, l.Nodup → (∀ z, z ∈ l ↔ z ∈ ks) → l.length ≤ ks.length → H q = none → Q (.ref q) (upd H q (SetX P w q l))
theorem cr_setT (hc : X.calm = true) : CallR X (.type "set") (rSetT X.prog X.w X.K) := by
  intro pins s σ H xs us Q I r h
  obtain ⟨p, ks, rfl, hq, few, q⟩ := h
  rw [Vals.ref1 r]
  obtain ⟨its, rv, hT, hz⟩ := I.tuple hq
  refine call_set ks (fun A' s1 Q' e1 e2 h => ?_) fun h' d tk es ep t l T g gl z => ?_
  · subst e1
    exact up_tup hT (by simpa using strsAre_of rv) few (by rw [e2]; exact I.ok.hd hc) h
  · exact ⟨.ref _, _, laidD I z (Nat.le_refl _) (setX_new T), rfl, q l _ T.nd g gl (I.hok.fresh (Nat.le_refl _))⟩
/-- set(d) -/
def rSetD (P : Program) (w : World) : List V → Hp → VK → Prop := fun xs H Q => ∃ (p : Addr) (kvs : List (Key × V)) (ks : List Str), xs = [.ref p] ∧ H p = some (.dK kvs) ∧ kvs.map (·.1) = (ks.map Sum.inr : List Key) ∧ ks.length ≤ 15 ∧
  ∀ l q, l.Nodup → (∀ z, z ∈ l ↔ z ∈ ks) → l.length ≤ ks.length → H q = none → Q (.ref q) (upd H q (SetX P w q l))
theorem cr_setD : CallR X (.type "set") (rSetD X.prog X.w) := by
  intro pins s σ H xs us Q I r h
  obtain ⟨p, kvs, ks, rfl, hd, hk, few, q⟩ := h
  rw [Vals.ref1 r]
  obtain ⟨z, lo, vs, rel, dd⟩ := dk_of I.hok hd
  obtain ⟨ep, ob, es, ho, hex, hdat, hko, hpr, hnd⟩ := dd.dictAt
  have hkeys : vs.map (·.1) = ks.map Sum.inr := rel.keys.symm.trans hk
  have hl : vs.length = ks.length := by
    have e := congrArg List.length hkeys
    rw [List.length_map, List.length_map] at e
    exact e
  have hsz : es.size = ks.length := by rw [← Array.length_toList, hpr.length, hl]
  have hat : ∀ (i : Nat) (e : DictEntry), es[i]? = some e → ∃ k u, ks[i]? = some k ∧ e.key = .str k u ∧ e.hash = hashStr X.w k := fun i e he => by
    have hi : i < es.size := by
      rcases Nat.lt_or_ge i es.size with c | c
      · exact c
      · rw [Array.getElem?_eq_none c] at he; cases he
    obtain ⟨⟨k, v⟩, ekv⟩ : ∃ kv, vs[i]? = some kv := ⟨_, List.getElem?_eq_getElem (by omega)⟩
    obtain ⟨h1, _⟩ := hpr.get? (i := i) (e := e) (k := k) (v := v) (by rw [Array.getElem?_toList]; exact he) ekv
    obtain ⟨k', h2, hh⟩ := hko e (Array.mem_of_getElem? he)
    have ek : k' = k := (mixKind X.prog X.w).inj _ _ _ h2 h1
    subst ek
    have e3 : (vs.map (·.1))[i]? = some k' := by rw [List.getElem?_map, ekv]; rfl
    rw [hkeys, List.getElem?_map] at e3
    obtain ⟨y, e4, e5⟩ := Option.map_eq_some_iff.mp e3
    subst e5
    obtain ⟨u, hu⟩ := Value.isStrOf_shape (x := y) (v := e.key) h1
    exact ⟨y, u, e4, hu, hh⟩
  refine call_set ks (fun A' s1 Q' e1 e2 h => ?_) fun h' d tk es ep t l T g gl z => ?_
  · subst e1
    exact up_dict ho hex.1 hdat lo hsz hat few fun h' es ep t l T g gl z => h h' s.drawn s.toks es ep t l T g gl z
  · exact ⟨.ref _, _, laidD I z (Nat.le_refl _) (setX_new T), rfl, q l _ T.nd g gl (I.hok.fresh (Nat.le_refl _))⟩
/-- a | b -/
def rOr (P : Program) (w : World) : V → V → Hp → VK → Prop := fun x y H Q => ∃ (a b : Addr) (l m : List Str), x = .ref a ∧ y = .ref b ∧ H a = some (SetX P w a l) ∧ H b = some (SetX P w b m) ∧ l.length + m.length ≤ 15 ∧
  ∀ l' q, l'.Nodup → (∀ z, z ∈ l' ↔ z ∈ l ∨ z ∈ m) → l'.length ≤ l.length + m.length → H q = none → Q (.ref q) (upd H q (SetX P w q l'))
theorem op_orX : OpR X (binaryOp .BitOr) (rOr X.prog X.w) := by
  intro pins s σ H x y v u Q I rx ry h
  obtain ⟨a, b, l, m, rfl, rfl, ha, hb, few, q⟩ := h
  cases rx
  cases ry
  obtain ⟨es, ep, t, L⟩ := setX_get I ha
  obtain ⟨es2, ep2, t2, R⟩ := setX_get I hb
  refine or_x L R few fun h' d es' ep' t' l' sb T g gl => ?_
  exact ⟨.ref _, _, laidD I (fun b u e => (sb.2 b (Nat.ne_of_lt (Heap.lt_size e))).trans (Heap.get?_push_of_some _ e)) (Nat.le_refl _) (setX_new T), rfl, q l' _ T.nd g gl (I.hok.fresh (Nat.le_refl _))⟩
/-- sorted(a) -/
def kV2 (v : Value) : Str := match v with | .str k _ => k | _ => ⟨#[]⟩
theorem strsOf : ∀ (vs : List Value), (∀ v ∈ vs, ∃ k u, v = Value.str k u) → StrsAre vs (vs.map kV2)
  | [], _ => .nil
  | v :: vs, h => by
    obtain ⟨k, u, rfl⟩ := h v List.mem_cons_self
    exact .cons k u (strsOf vs fun x hx => h x (List.mem_cons_of_mem _ hx))
def rSortX (P : Program) (w : World) : List V → Hp → VK → Prop := fun xs H Q => ∃ (a : Addr) (l : List Str), xs = [.ref a] ∧ H a = some (SetX P w a l) ∧ l.length < 64 ∧ ∀ ys p, ys.Perm l → sortedS ys = true → H p = none → Q (.ref p) (upd H p (.lst (ys.map V.str)))
theorem cr_sortX (hc : X.calm = true) : CallR X (.builtin "sorted") (rSortX X.prog X.w) := by
  intro pins s σ H xs us Q I r h
  obtain ⟨a, l, rfl, ha, h64, q⟩ := h
  rw [Vals.ref1 r]
  obtain ⟨es, ep, t, R⟩ := setX_get I ha
  refine Calls.call_function_entry PyProof.Rows.kind_sorted PyProof.Rows.plain_sorted PyProof.Rows.entry_sorted (PyProof.Rows.args_sorted1 _) ?_
  unfold Builtin.«sorted»
  refine wpAny_bind (m := checkCount "sorted" 1 1 _) (wpAny_pure ?_)
  refine wpAny_bind (collect_set (A := X.A.in1) (I.ok.hd hc) R.set R.fits (by rw [R.size]; unfold scanBound; omega) R.ris R.led fun s1 vs k1 hz g1 o1 pm => ?_)
  have hstr : ∀ v ∈ vs, ∃ k u, v = Value.str k u := fun v hv => by
    obtain ⟨e, he, rfl⟩ := List.mem_map.mp (pm.mem_iff.mp hv)
    obtain ⟨k, u, _, rfl⟩ := R.strs e he
    exact ⟨k, u, rfl⟩
  have hS := strsOf vs hstr
  have hl : vs.length = l.length := by rw [pm.length_eq, List.length_map, Array.length_toList]; exact R.size
  have hp : (vs.map kV2).Perm l := by
    have e : es.toList.map kOf = (es.toList.map (·.2)).map kV2 := by rw [List.map_map]; rfl
    refine permOf l _ R.nd (fun z hz => ?_) (by rw [List.length_map]; omega)
    rw [(pm.map kV2).mem_iff, ← e]
    exact (R.keys z).mpr hz
  refine wpAny_bind (wpAny_newList ?_ (by rw [hl, sizeLine_eq]; omega))
  have hoL : (s1.heap.push (seqObj "list" vs.toArray 0)).get? s1.heap.objs.size = some (seqObj "list" vs.toArray 0) := Heap.get?_push_size _ rfl
  refine wpAny_bind (wpAny_holding (wpAny_call_entry PyProof.Rows.slot_list_sort ⟨_, hoL, rfl⟩ PyProof.Rows.entry_list_sort
    (list_sort_treeK strKind_oneLt (s := { s1 with heap := s1.heap.push (seqObj "list" vs.toArray 0) }) hoL hS.keysOf (fun v₁ v₂ rest e => keyKind_strs (by rw [← e]; exact hS)) (by rw [hl]; exact h64) fun st' hp hs => ⟨_, rfl, ?_⟩)
    (PyProof.Rows.args_list_sort _)))
  rename_i hp0
  obtain ⟨ys, g1', g2, g3⟩ := sorted_out_str hS hp hs
  obtain ⟨e', he'⟩ := PyProof.Rows.sortedHeap_at (vs := vs) (out := (arrOf st').map (·.2)) hoL
  have hlen : (ys.map V.str).length ≤ sizeLine := by
    rw [List.length_map, (g2.trans hp0).length_eq]
    exact Nat.le_trans (Nat.le_of_lt h64) (by decide)
  have es' : ∀ h' : Heap, ({ s1 with heap := h' } : Shared) = { s with heap := h', drawn := s1.drawn, toks := s1.toks } := fun h' => by
    obtain ⟨h1, gg, d1, t1, os1⟩ := s1
    simp only at g1 o1
    subst g1 o1
    rfl
  refine wpAny_pure ⟨_, rfl, .ref s1.heap.objs.size, upd H s1.heap.objs.size (.lst (ys.map V.str)), ?_, rfl, q ys _ (g2.trans hp0) g3 (I.hok.fresh hz)⟩
  have J := laidD (d := s1.drawn) (tk := s1.toks) (h' := sortedHeap (s1.heap.push (seqObj "list" vs.toArray 0)) s1.heap.objs.size vs ((arrOf st').map (·.2))) I (p := s1.heap.objs.size) (o := .lst (ys.map V.str)) (fun b u e => by
      have e2 := k1 b u e
      have hb : b < s1.heap.objs.size := Heap.lt_size e2
      rw [PyProof.Rows.sortedHeap_old (Nat.ne_of_lt hb) (by rw [size_push']; exact Nat.lt_succ_of_lt hb)]
      exact Heap.get?_push_of_some _ e2) hz
    (show ObjOk X.prog X.w _ _ _ (.lst (ys.map V.str)) from ⟨hlen, ((arrOf st').map (·.2)).toList, e', vals_of_strs g1', by rw [Array.toArray_toList]; exact he'⟩)
  rw [← es'] at J
  exact J
end
end SX

set_option Elab.async false
set_option linter.all false
set_option maxRecDepth 100000
set_option maxHeartbeats 4000000
/-! sets of texts: set(list) -/
namespace SX
open PySem PySem.Spec PyProof.Rows L2
open Froz (sObj TxOk SD)
open PySem.Builtin.Frozenset (addrOf isAnySet updateFrom)
section
variable {P : Program} {w : World} {A : Around} {E : Value → Shared → Prop} {s : Shared} {a o : Addr} {es es2 : Array (Int × Value)} {ep ep2 : Nat} {t t2 : SetTable} {l m : List Str}
/-- the loop that fills it: ks the texts that come -/
theorem fillM {I : Addr} {fp wr : List Addr} {G : Array GenState → Array GenState → Prop} {n : Nat} {Pv : Nat → Value → Prop} {St : Nat → Shared → Prop} {R : Result → Shared → Prop}
    (W : WalksS P w A.in1 I fp wr G n Pv St) (S : Addr) (hSf : S ∉ fp) (ks : List Str) (hn : n = ks.length) (few : ks.length ≤ 60) (hval : ∀ i v, Pv i v → ∃ k u, ks[i]? = some k ∧ v = .str k u)
    (h0 : Heap) (hS0 : h0.get? S = none) (hw0 : ∀ b ∈ wr, h0.get? b = none) :
    ∀ (m i : Nat) (s : Shared), n - i = m → i ≤ n → St i s → (∀ b o, h0.get? b = some o → s.heap.get? b = some o) → (∃ es ep t l, At P w s.heap S es ep t l ∧ (∀ z, z ∈ l ↔ z ∈ ks.take i) ∧ l.length ≤ i) →
      (∀ s' es ep t l, Moved (S :: wr) G s s' → At P w s'.heap S es ep t l → (∀ z, z ∈ l ↔ z ∈ ks) → l.length ≤ ks.length → (∀ b o, h0.get? b = some o → s'.heap.get? b = some o) → R (.ok (.ret .none)) s') →
      codeAny (model P w) A (.builtin "set.update.loop" ⟨[.ref S, .ref I], []⟩) R s := by
  have hSw : S ∉ wr := fun h => hSf (W.sub _ h)
  have wide : ∀ b ∈ wr, b ∈ S :: wr := fun b hb => List.mem_cons_of_mem _ hb
  have stay : ∀ {s s' : Shared}, Moved wr G s s' → (∀ b o, h0.get? b = some o → s.heap.get? b = some o) → ∀ b o, h0.get? b = some o → s'.heap.get? b = some o := fun hm z b o e =>
    hm.heap b o (fun hb => by rw [hw0 b hb] at e; cases e) (z b o e)
  intro m
  induction m with
  | zero =>
    intro i s hk' hi hst hkp ⟨es, ep, t, l, T, g, gl⟩ hR
    obtain rfl : i = n := by omega
    refine codeAny_builtin F.entry_set_update_loop ?_
    rw [Around.under_plainId F.plain_set_update_loop _]
    show wpAny _ A.in1 (pyNext (.ref I) >>= _) _ _ s
    refine wpAny_bind (W.done s _ _ hst fun s' hm => ?_)
    show wpAny _ A.in1 (ret Value.none) _ _ s'
    exact wpAny_pure (hR s' es ep t l (hm.mono wide) (T.keep fun o e => hm.heap S o hSw e) (fun z => by rw [g z, hn, List.take_length]) (by omega) (stay hm hkp))
  | succ m ih =>
    intro i s hk' hi hst hkp ⟨es, ep, t, l, T, g, gl⟩ hR
    have hlt : i < n := by omega
    refine codeAny_builtin F.entry_set_update_loop ?_
    rw [Around.under_plainId F.plain_set_update_loop _]
    show wpAny _ A.in1 (pyNext (.ref I) >>= _) _ _ s
    refine wpAny_bind (W.item i s _ _ hlt hst fun v s' hP hst' hm => ?_)
    obtain ⟨k, u, hq, rfl⟩ := hval i v hP
    have z := stay hm hkp
    have T' : At P w s'.heap S es ep t l := T.keep fun o e => hm.heap S o hSw e
    show wpAny _ A.in1 (holding [Value.str k u] (setAdd S (.str k u)) >>= _) _ _ s'
    refine wpAny_bind (wpAny_holding ?_)
    unfold setAdd
    refine wpAny_holding ?_
    refine wpAny_bind ((strKind P w).pyHash (Froz.is_str k u) ?_)
    refine add_any (s := { s' with toks := s'.toks + 1 }) T' (by omega) fun b h' es' ep' t' l' sb T2 c1 c2 => ?_
    have et : ks.take (i + 1) = ks.take i ++ [k] := L2.take_next hq
    have z2 : ∀ b o, h0.get? b = some o → h'.get? b = some o := fun b o e => (sb.2 b (fun y => by rw [y, hS0] at e; cases e)).trans (z b o e)
    refine wpAny_pure ⟨plainId_quiet F.plain_set_update_loop _, ih (i + 1) _ (by omega) hlt (W.frame _ s' _ _ hst' (Nat.le_add_right _ _) fun b hb o e => ?_) z2 ⟨es', ep', t', l', T2, fun y => ?_, by omega⟩ fun s2 es2 ep2 t2 l2 hm2 T3 g3 l3 z3 => ?_⟩
    · rw [sb.2 b (fun h : b = S => hSf (by rw [← h]; exact hb))]; exact e
    · rw [c1 y, g y, et, List.mem_append, List.mem_singleton]
    · refine hR s2 es2 ep2 t2 l2 (Moved.trans W.gtrans ((hm.mono wide).then_heap (Nat.le_add_right _ _) fun b o hb e => ?_) hm2) T3 g3 l3 z3
      rw [sb.2 b (fun h : b = S => hb (by rw [h]; exact List.mem_cons_self))]; exact e
theorem up_lst {id : String} {l : Addr} {items : Array Value} {ks : List Str} {Q : Unit → Shared → Prop} (hl : s.heap.IsList l items) (hit : StrsAre items.toList ks) (few : ks.length ≤ 60) (hh : A.handled = none)
    (h : ∀ h' d tk es ep t l, At P w h' s.heap.objs.size es ep t l → (∀ z, z ∈ l ↔ z ∈ ks) → l.length ≤ ks.length → (∀ b o, s.heap.get? b = some o → h'.get? b = some o) → Q () { s with heap := h', drawn := d, toks := tk }) :
    wpAny (model P w) A (updateFrom id s.heap.objs.size (.ref l)) Q E { s with heap := s.heap.push (newO w) } := by
  have hsz : items.size = ks.length := by rw [← Array.length_toList, strs_len hit]
  have hS : (s.heap.push (newO w)).get? s.heap.objs.size = some (newO w) := Heap.get?_push_size _ rfl
  obtain ⟨ol, hol, hcl, nl, hdl⟩ := hl
  obtain ⟨ocls, odict, odata, oslots⟩ := ol
  simp only at hcl hdl
  subst hcl; subst hdl
  have hol' : (s.heap.push (newO w)).get? l = some { cls := .type "list", dict := odict, data := .seq items nl, slots := oslots } := Heap.get?_push_of_some _ hol
  have hT' : Shared.TypeIs { s with heap := s.heap.push (newO w) } (.ref l) "list" := ⟨_, hol', rfl⟩
  have hl1 : (s.heap.push (newO w)).IsList l items := ⟨_, hol', rfl, nl, rfl⟩
  have hlS : l < s.heap.objs.size := Heap.lt_size hol
  have hsize : (s.heap.push (newO w)).objs.size = s.heap.objs.size + 1 := Heap.size_push ..
  have hneI : l ≠ (s.heap.push (newO w)).objs.size := by rw [hsize]; exact Nat.ne_of_lt (Nat.lt_succ_of_lt hlS)
  have hSf : s.heap.objs.size ∉ [(s.heap.push (newO w)).objs.size, l] := by
    rw [hsize]
    simp only [List.mem_cons, List.not_mem_nil, or_false, not_or]
    exact ⟨Nat.ne_of_lt (Nat.lt_succ_self _), Nat.ne_of_gt hlS⟩
  have hval : ∀ (i : Nat) (v : Value), items[i]? = some v → ∃ k u, ks[i]? = some k ∧ v = .str k u := fun i v hv => strs_at hit i v (by rw [Array.getElem?_toList]; exact hv)
  have off : ∀ b, s.heap.objs.size ≤ b → s.heap.get? b = none := fun b hb => by
    cases z : s.heap.get? b with
    | none => rfl
    | some o => exact absurd (Nat.lt_of_lt_of_le (Heap.lt_size z) hb) (Nat.lt_irrefl _)
  have hh3 : A.in1.handled = none := by simp [hh]
  unfold updateFrom
  refine wpAny_bind (m := isAnySet _) ?_
  unfold isAnySet
  refine wpAny_bind (wpAny_isInstance (b := false) hT' F.sub_list_set ?_)
  refine wpAny_isInstance (b := false) hT' (by rw [isSubtype_type]; kernel_rfl) ?_
  refine wp_if_neg (by decide) ?_
  try refine wpAny_bind (wpAny_pure ?_)
  refine wpAny_bind (wpAny_typeOf hT' ?_)
  refine wp_if_neg (by decide) ?_
  try refine wpAny_bind (wpAny_pure ?_)
  refine wpAny_bind (wpAny_pyIter_list hl1 ?_)
  refine wpAny_bind (wpAny_runValue ?_)
  refine fillM ((Walks.list hh3 _ l hneI items).toS) s.heap.objs.size hSf ks hsz few hval s.heap (off _ (Nat.le_refl _)) (fun b hb => off b (by rw [List.mem_singleton.mp hb, hsize]; exact Nat.le_succ _)) (items.size - 0) 0 _ (by omega) (Nat.zero_le _)
    ⟨⟨_, Heap.get?_push_size _ rfl, rfl, rfl⟩, (hl1.push _)⟩ (fun b o e => Heap.get?_push_of_some _ (Heap.get?_push_of_some _ e)) ⟨_, _, _, [], At.new (Heap.get?_push_of_some _ hS), fun z => by simp, Nat.le_refl _⟩ fun s' es ep t l' hm T g gl z => ?_
  obtain ⟨h', g2, d', tk', os'⟩ := s'
  obtain rfl : g2 = s.gens := hm.gens
  obtain rfl : os' = s.os := hm.os
  exact wpAny_pure (h h' d' tk' es ep t l' T g gl z)
end
theorem hL {h : Heap} {a : Addr} {items : Array Value} (p : PlainL h a items) : h.IsList a items := by
  obtain ⟨o, n, e, c, _, d⟩ := p
  exact ⟨o, e, c, n, d⟩
section
variable {X : Cx} {pins : List (Addr × Obj)} {σ : L2.St} {H : Hp} {s : Shared} {a : Addr} {l m : List Str}
/-- set(list) -/
def rSetL (P : Program) (w : World) (K : PySem.W.Frag) : List V → Hp → VK → Prop := fun xs H Q => ∃ (p : Addr) (ks : List Str), xs = [.ref p] ∧ SqL K H p (ks.map V.str) ∧ ks.length ≤ 60 ∧
  ∀ l q, l.Nodup → (∀ z, z ∈ l ↔ z ∈ ks) → l.length ≤ ks.length → H q = none → Q (.ref q) (upd H q (SetX P w q l))
theorem cr_setL (hc : X.calm = true) : CallR X (.type "set") (rSetL X.prog X.w X.K) := by
  intro pins s σ H xs us Q I r h
  obtain ⟨p, ks, rfl, hq, few, q⟩ := h
  rw [Vals.ref1 r]
  obtain ⟨its, rv, hT, hz⟩ := I.list hq
  refine call_set ks (fun A' s1 Q' e1 e2 h => ?_) fun h' d tk es ep t l T g gl z => ?_
  · subst e1
    exact up_lst (hL hT) (by simpa using strsAre_of rv) few (by rw [e2]; exact I.ok.hd hc) h
  · exact ⟨.ref _, _, laidD I z (Nat.le_refl _) (setX_new T), rfl, q l _ T.nd g gl (I.hok.fresh (Nat.le_refl _))⟩
end
end SX

set_option Elab.async false
set_option linter.all false
set_option maxRecDepth 100000
set_option maxHeartbeats 8000000
/-! the merger: texts -/
namespace PJ
open PySem PySem.Spec PyProof.Rows L2 KS KS.La
open KX hiding sameUpd
abbrev sMay : Stmt := top 14
abbrev sCho : Stmt := top 15
abbrev sGInit : Stmt := inClass (top 13) 0
abbrev sGRes : Stmt := inClass (top 13) 1
abbrev sGFail : Stmt := inClass (top 13) 2
abbrev sGTgt : Stmt := inClass (top 13) 3
abbrev sGSrc : Stmt := inClass (top 13) 4
def ofS : Option Str → V
  | none => .non
  | some z => .str z
theorem ofS_scal (a b : Option Str) : L2.scal (ofS a) (ofS b) = true := by cases a <;> cases b <;> rfl
theorem ofS_dec (a b : Option Str) : decide (ofS a = ofS b) = decide (a = b) := by
  refine decide_eq_decide.mpr ⟨fun h => ?_, fun h => by rw [h]⟩
  cases a with
  | none => cases b with
    | none => rfl
    | some _ => cases h
  | some x => cases b with
    | none => cases h
    | some y => rw [V.str.inj h]
theorem ofS_non (a : Option Str) : decide (ofS a = V.non) = decide (a = none) := by
  cases a with
  | none => rfl
  | some x => exact (decide_eq_false (fun z : V.str x = V.non => nomatch z)).trans (decide_eq_false (fun z : some x = none => nomatch z)).symm
def oLook (os : Outs) (k : Str) : Option Str := (os.find? fun p => decide (p.1 = k)).map (·.2)
theorem oK_get (os : Outs) (k : Str) : (valV (oK os) (.inr k)).getD .non = ofS (oLook os k) := by
  induction os with
  | nil => rfl
  | cons p os ih =>
    by_cases e : p.1 = k
    · have h1 : valV (oK (p :: os)) (Sum.inr k : Key) = some (.str p.2) := valV_pos (p := kvO p) (congrArg Sum.inr e)
      rw [h1]
      simp [oLook, e, ofS]
    · have h1 : valV (oK (p :: os)) (Sum.inr k : Key) = valV (oK os) (.inr k) := valV_neg (p := kvO p) fun q => e (Sum.inr.inj q)
      have h2 : oLook (p :: os) k = oLook os k := by simp [oLook, e]
      rw [h1, h2]
      exact ih
def mayS (b o p : Option Str) : Bool := decide (o = b) || decide (p = b) || decide (o = p)
def choS (b o p : Option Str) : Option Str := if o = b then p else o
def mayT (b o p : Option Tg) : Bool := oE o b || oE p b || oE o p
section
variable {P : Program} {w : World} {K : PySem.W.Frag} {mg : Str → Option Value} {base : Heap} {f : Addr} {fd : FuncData} {CS CM CP NT NS : Addr}
def spMay (CS CM : Addr) : Sp := fun vs H Q _ => ∃ vb vo vp, vs = [vb, vo, vp] ∧
  ((∃ b o p, OAt CS CM H vb b ∧ OAt CS CM H vo o ∧ OAt CS CM H vp p ∧ Q (.bl (mayT b o p)) H) ∨ ∃ b o p, vb = ofS b ∧ vo = ofS o ∧ vp = ofS p ∧ Q (.bl (mayS b o p)) H)
theorem scMay : FnScope ["base", "one", "other"] ["base", "one", "other"] (defScope sMay) := ⟨rfl, rfl, rfl, by decide +kernel, rfl, by decide +kernel, by decide +kernel⟩
theorem okMay {k : Nat} (W : Pjc P w K mg base CS CM CP NT NS) (N : Pjn P w K mg base CS CM) (F : FnP K "_may_choose" sMay f fd) : FnOk P w K mg base CX0 (k + 2) f fd ["base", "one", "other"] (spMay CS CM) := by
  refine F.ok scMay (fun vs H Q E h => ?_) (fun cdv A outer s H vs Q E hr h => ?_)
  · obtain ⟨vb, vo, vp, rfl, _⟩ := h
    rfl
  · obtain ⟨vb, vo, vp, rfl, h⟩ := h
    have hr1 : Room 1 _ := hr.mono (by omega)
    refine ⟨_, PSs.nox (pss_one (ps_ret (pe_or (pe_cmpR (DB.op_or (op_eqOT W N hr1) op_eq) (pv 1) (pv 0) (nomark _)) (pe_or (pe_cmpR (DB.op_or (op_eqOT W N hr1) op_eq) (pv 2) (pv 0) (nomark _)) (pe_one (pe_cmpR (DB.op_or (op_eqOT W N hr1) op_eq) (pv 1) (pv 2) (nomark _))))))), ?_⟩
    rcases h with ⟨b, o, p, hb, ho, hp, q⟩ | ⟨b, o, p, rfl, rfl, rfl, q⟩
    · unfold mayT at q
      refine ⟨vo, rfl, vb, rfl, .inl ⟨o, b, ho, hb, oE o b, rfl, ?_⟩⟩
      cases e1 : oE o b with
      | true =>
        rw [e1] at q
        exact iteT q
      | false =>
        rw [e1, Bool.false_or] at q
        refine iteF ⟨vp, rfl, vb, rfl, .inl ⟨p, b, hp, hb, oE p b, rfl, ?_⟩⟩
        cases e2 : oE p b with
        | true =>
          rw [e2] at q
          exact iteT q
        | false =>
          rw [e2, Bool.false_or] at q
          exact iteF ⟨vo, rfl, vp, rfl, .inl ⟨o, p, ho, hp, q⟩⟩
    · unfold mayS at q
      refine ⟨ofS o, rfl, ofS b, rfl, .inr ⟨ofS_scal _ _, _, rfl, ?_⟩⟩
      rw [ofS_dec]
      cases e1 : decide (o = b) with
      | true =>
        rw [e1] at q
        exact iteT q
      | false =>
        rw [e1, Bool.false_or] at q
        refine iteF ⟨ofS p, rfl, ofS b, rfl, .inr ⟨ofS_scal _ _, _, rfl, ?_⟩⟩
        rw [ofS_dec]
        cases e2 : decide (p = b) with
        | true =>
          rw [e2] at q
          exact iteT q
        | false =>
          rw [e2, Bool.false_or] at q
          refine iteF ⟨ofS o, rfl, ofS p, rfl, .inr ⟨ofS_scal _ _, ?_⟩⟩
          rw [ofS_dec]
          exact q
def spCho (CS CM : Addr) : Sp := fun vs H Q _ => ∃ vb vo vp, vs = [vb, vo, vp] ∧
  ((∃ b o, OAt CS CM H vb b ∧ OAt CS CM H vo o ∧ Q (if oE o b = true then vp else vo) H) ∨ ∃ b o p, vb = ofS b ∧ vo = ofS o ∧ vp = ofS p ∧ Q (ofS (choS b o p)) H)
theorem scCho : FnScope ["base", "one", "other"] ["base", "one", "other"] (defScope sCho) := ⟨rfl, rfl, rfl, by decide +kernel, rfl, by decide +kernel, by decide +kernel⟩
theorem okCho {k : Nat} (W : Pjc P w K mg base CS CM CP NT NS) (N : Pjn P w K mg base CS CM) (F : FnP K "_chosen" sCho f fd) : FnOk P w K mg base CX0 (k + 2) f fd ["base", "one", "other"] (spCho CS CM) := by
  refine F.ok scCho (fun vs H Q E h => ?_) (fun cdv A outer s H vs Q E hr h => ?_)
  · obtain ⟨vb, vo, vp, rfl, _⟩ := h
    rfl
  · obtain ⟨vb, vo, vp, rfl, h⟩ := h
    have hr1 : Room 1 _ := hr.mono (by omega)
    refine ⟨_, PSs.nox (pss_one (ps_ret (pe_ifExp (pt_cmpR (DB.op_or (op_eqOT W N hr1) op_eq) (pv 1) (pv 0) (nomark _)) (pv 2) (pv 1)))), ?_⟩
    rcases h with ⟨b, o, hb, ho, q⟩ | ⟨b, o, p, rfl, rfl, rfl, q⟩
    · refine ⟨vo, rfl, vb, rfl, .inl ⟨o, b, ho, hb, oE o b, rfl, ?_⟩⟩
      cases e1 : oE o b with
      | true =>
        rw [e1, if_pos rfl] at q
        exact iteT ⟨vp, rfl, q⟩
      | false =>
        rw [e1, if_neg Bool.false_ne_true] at q
        exact iteF ⟨vo, rfl, q⟩
    · unfold choS at q
      refine ⟨ofS o, rfl, ofS b, rfl, .inr ⟨ofS_scal _ _, _, rfl, ?_⟩⟩
      rw [ofS_dec]
      by_cases e1 : o = b
      · rw [if_pos e1] at q
        rw [decide_eq_true e1]
        exact iteT ⟨_, rfl, q⟩
      · rw [if_neg e1] at q
        rw [decide_eq_false e1]
        exact iteF ⟨_, rfl, q⟩
end
end PJ

set_option Elab.async false
set_option linter.all false
set_option maxRecDepth 100000
set_option maxHeartbeats 8000000
/-! the merger: sources -/
namespace PJ
open PySem PySem.Spec PyProof.Rows L2 KS KS.La
open KX hiding sameUpd
def dotS (nm y : Str) : Str := ((Str.empty ++ nm) ++ ("." : Str)) ++ y
def mayY (B O Q : Outs) (y : Str) : Bool := mayS (oLook B y) (oLook O y) (oLook Q y)
def choY (B O Q : Outs) (y : Str) : Option Str := choS (oLook B y) (oLook O y) (oLook Q y)
def csF (nm : Str) (B O Q : Outs) (ys : List Str) : List Str := (ys.filter fun y => !mayY B O Q y).map (dotS nm)
def osF (B O Q : Outs) (ys : List Str) : Outs := ys.filterMap fun y => if mayY B O Q y = true then (choY B O Q y).map (y, ·) else none
theorem strLen (a b : Str) : (a ++ b).length = a.length + b.length := by
  show (a.cps ++ b.cps).size = _
  rw [Array.size_append]
  rfl
theorem osF_keys {B O Q : Outs} : ∀ (ys : List Str), ∀ p ∈ osF B O Q ys, p.1 ∈ ys := fun ys p hp => by
  obtain ⟨y, hy, e⟩ := List.mem_filterMap.mp hp
  split at e
  · obtain ⟨z, _, rfl⟩ := Option.map_eq_some_iff.mp e
    exact hy
  · cases e
theorem osF_nd {B O Q : Outs} : ∀ {ys : List Str}, ys.Nodup → ((osF B O Q ys).map (·.1)).Nodup
  | [], _ => List.nodup_nil
  | y :: ys, h => by
    obtain ⟨h1, h2⟩ := List.nodup_cons.mp h
    have ih := osF_nd (B := B) (O := O) (Q := Q) h2
    unfold osF at *
    rw [List.filterMap_cons]
    split
    · exact ih
    · rename_i p e
      rw [List.map_cons]
      refine List.nodup_cons.mpr ⟨fun hm => ?_, ih⟩
      obtain ⟨q, hq, eq⟩ := List.mem_map.mp hm
      have h3 := osF_keys (B := B) (O := O) (Q := Q) ys q hq
      have e1 : p.1 = y := by
        split at e
        · obtain ⟨z, _, rfl⟩ := Option.map_eq_some_iff.mp e
          rfl
        · cases e
      rw [eq, e1] at h3
      exact h1 h3
theorem osF_snoc {B O Q : Outs} {ys : List Str} {y : Str} : osF B O Q (ys ++ [y]) = osF B O Q ys ++ osF B O Q [y] := List.filterMap_append
theorem csF_snoc {nm : Str} {B O Q : Outs} {ys : List Str} {y : Str} : csF nm B O Q (ys ++ [y]) = csF nm B O Q ys ++ csF nm B O Q [y] := by
  unfold csF
  rw [List.filter_append, List.map_append]
theorem osF_len {B O Q : Outs} (ys : List Str) : (osF B O Q ys).length ≤ ys.length := List.length_filterMap_le _ _
theorem csF_len {nm : Str} {B O Q : Outs} (ys : List Str) : (csF nm B O Q ys).length ≤ ys.length := by
  unfold csF
  rw [List.length_map]
  exact List.length_filter_le _ _
theorem ndLen : ∀ (l u : List Str), l.Nodup → (∀ z ∈ l, z ∈ u) → l.length ≤ u.length
  | [], _, _, _ => Nat.zero_le _
  | x :: l, u, nd, h => by
    obtain ⟨h1, h2⟩ := List.nodup_cons.mp nd
    have hx := h x List.mem_cons_self
    have ih := ndLen l (u.erase x) h2 fun z hz => (List.mem_erase_of_ne fun (e : z = x) => h1 (e ▸ hz)).2 (h z (List.mem_cons_of_mem _ hz))
    have e := List.length_erase_of_mem hx
    have hp : 0 < u.length := List.length_pos_of_mem hx
    rw [List.length_cons]
    omega
/-- the merger's own fields -/
def MgAt (CG : Addr) (H : Hp) (m tp D L : Addr) : Prop := ∃ dm, H m = some (.ins CG dm [("_projects", .ref tp), ("_targets", .ref D), ("_conflicts", .ref L)])
theorem MgAt.kp {CG : Addr} {H H' : Hp} {m tp D L a : Addr} (h : MgAt CG H m tp D L) (k : Kp a H H') (ne : m ≠ a) : MgAt CG H' m tp D L := let ⟨dm, e⟩ := h; ⟨dm, k _ _ ne e⟩
/-- a new source -/
def SrcN (CS : Addr) (H H' : Hp) (x : Addr) (os : Outs) : Prop := ∃ dx d, H' x = some (.ins CS dx [("_outputs", .ref d)]) ∧ OsIn H' d os ∧ H d = none
/-- few outputs, with short names -/
def outsL : List Str := ["o", "out", "p1", "z9z9z9z9"]
theorem outsNd : outsL.Nodup := by unfold outsL; decide +kernel
theorem outsLen : ∀ k ∈ outsL, k.length ≤ 1000 := by unfold outsL; decide +kernel
def OsK (os : Outs) : Prop := os.length ≤ 4 ∧ ∀ p ∈ os, p.1 ∈ outsL
structure Mgc (P : Program) (w : World) (K : PySem.W.Frag) (mg : Str → Option Value) (base : Heap) (CS CM CG : Addr) : Prop where
  cl : Cls K CG
  iG : IsC K CG
  n1 : NoAttr K CG "_projects"
  n2 : NoAttr K CG "_targets"
  n3 : NoAttr K CG "_conflicts"
  mset : mg "set" = none
section
variable {P : Program} {w : World} {K : PySem.W.Frag} {mg : Str → Option Value} {base : Heap} {f : Addr} {fd : FuncData} {CS CM CP CG NT NS : Addr}
def spGSrc (CS CM CG : Addr) : Sp := fun vs H Q _ => ∃ m nm db d1 d2 tp D L cs B O R, vs = [.ref m, .str nm, .ref db, .ref d1, .ref d2] ∧ MgAt CG H m tp D L ∧ H L = some (.lst (cs.map V.str)) ∧ OsIn H db B ∧ OsIn H d1 O ∧ OsIn H d2 R ∧ OsK B ∧ OsK O ∧ OsK R ∧
  nm.length ≤ 1000 ∧ cs.length ≤ 1000 ∧ ∀ x ys H', ys.Nodup → (∀ z, z ∈ ys ↔ z ∈ B.map (·.1) ∨ z ∈ O.map (·.1) ∨ z ∈ R.map (·.1)) → SrcN CS H H' x (osF B O R ys) → H' L = some (.lst ((cs ++ csF nm B O R ys).map V.str)) → Kp L H H' → Q (.ref x) H'
abbrev nGSrc : List Str := ["self", "name", "base", "one", "other", "outputs", "output", "texts"]
theorem scGSrc : FnScope nGSrc ["self", "name", "base", "one", "other"] (defScope sGSrc) := ⟨rfl, rfl, rfl, by decide +kernel, rfl, by decide +kernel, by decide +kernel⟩
theorem okGSrc {k : Nat} (W : Pjc P w K mg base CS CM CP NT NS) (G : Mgc P w K mg base CS CM CG) (My : Has P w K mg base 2 "_may_choose" ["base", "one", "other"] (spMay CS CM)) (Ch : Has P w K mg base 2 "_chosen" ["base", "one", "other"] (spCho CS CM))
    (F : FnM K "_merged_source" "Merger._merged_source" sGSrc f fd) : FnOk P w K mg base CX0 (k + 4) f fd ["self", "name", "base", "one", "other"] (spGSrc CS CM CG) := by
  obtain ⟨fY, fdY, gY, kY, bY, GY⟩ := My.ex
  obtain ⟨fC, fdC, gC, kC, bC, GC⟩ := Ch.ex
  obtain ⟨fI, dI, MI, bI, GI⟩ := W.mkS
  refine F.ok scGSrc (fun vs H Q E h => ?_) (fun cdv A outer s H vs Q E hr h => ?_)
  · obtain ⟨m, nm, db, d1, d2, tp, D, L, cs, B, O, R, rfl, _⟩ := h
    rfl
  · obtain ⟨m, nm, db, d1, d2, tp, D, L, cs, B, O, R, rfl, hm, hL, hB, hO, hR, kB, kO, kR, ln, lc, q⟩ := h
    have hr2 : Room 2 _ := hr.mono (by omega)
    have hr2' : Room (1 + 1) _ := hr.mono (by omega)
    have hu1 : (A.deeper (envOfC "Merger._merged_source" (defScope sGSrc) s.heap.objs.size f cdv)).units + 1 < cLine := by
      have := hr.units
      omega
    refine ⟨_, PSs.nox (C8.pss_cut (ps_set (i := 5) scGSrc.nd rfl (.inl rfl) pe_dnewK) (C8.pss_cut (ps_for PassesOwn.never rfl (pi_list (pe_callB (r := SX.rSortX P w) (SX.cr_sortX rfl) (by rfl) W.ms (by decide +kernel) (pa_cons (pe_op (r := SX.rOr P w) SX.op_orX (pe_op (r := SX.rOr P w) SX.op_orX (pe_callTy (r := SX.rSetD P w) (T := "set") SX.cr_setD (by rfl) G.mset (by decide +kernel) (pa_cons (pv 2) pa_nil)) (pe_callTy (r := SX.rSetD P w) (T := "set") SX.cr_setD (by rfl) G.mset (by decide +kernel) (pa_cons (pv 3) pa_nil))) (pe_callTy (r := SX.rSetD P w) (T := "set") SX.cr_setD (by rfl) G.mset (by decide +kernel) (pa_cons (pv 4) pa_nil))) pa_nil))) (pg_name (i := 6) scGSrc.nd rfl (.inl rfl))
        (C8.pss_cut (ps_set (i := 7) scGSrc.nd rfl (.inl rfl) (pe_tup (pa_cons (pe_dget1 hu1 (pv 2) (pv 6) ⟨rfl, rfl, rfl, rfl⟩) (pa_cons (pe_dget1 hu1 (pv 3) (pv 6) ⟨rfl, rfl, rfl, rfl⟩) (pa_cons (pe_dget1 hu1 (pv 4) (pv 6) ⟨rfl, rfl, rfl, rfl⟩) pa_nil))))) (pss_one (ps_if (pt_not (pt_val (StX.pe_callS1 (E := E0) (FnOk.raw GY bY .nil) hr2 kY (by rfl) gY pass0 (pv 7))))
            (pss_one (ps_expr (pe_bm PySem.F.plainAttrs_list PySem.F.slot_list_append PySem.F.type_list_append mt_append (pe_fld (pv 0) rfl) (pa_cons (pe_joined (.cons (pe_fmt (pv 1)) (.cons pe_str (.cons (pe_fmt (pv 6)) .nil)))) pa_nil))))
            (pss_one (ps_if (pt_cmp (pc_notN (StX.pe_callS1 (E := E0) (FnOk.raw GC bC .nil) hr2 kC (by rfl) gC pass0 (pv 7)))) (pss_one (ps_dput hu1 (pv 5) (pv 6) (StX.pe_callS1 (E := E0) (FnOk.raw GC bC .nil) hr2 kC (by rfl) gC pass0 (pv 7)) rfl)) pss_nil)))))) (pss_one (ps_ret (pe_make MI GI hr2' (by rfl) W.gS bI .nil pass0 (pa_cons (pv 5) pa_nil)))))), ?_⟩
    have neL : ∀ {a kvs}, H a = some (.dK kvs) → a ≠ L := fun h z => by rw [z, hL] at h; cases h
    obtain ⟨dm, em⟩ := id hm
    have nmL : m ≠ L := fun z => by rw [z, hL] at em; cases em
    refine ⟨fun σ' H' => ∃ D5, σ' = [some (.ref m), some (.str nm), some (.ref db), some (.ref d1), some (.ref d2), some (.ref D5), none, none] ∧ H' D5 = some (.dK []) ∧ H D5 = none ∧ Same H H', ?_, ?_⟩
    · exact fun p hp => ⟨p, rfl, upd_same, hp, KS.sameUpd hp⟩
    rintro _ H1 ⟨D5, rfl, e5, n5, s1⟩
    have n5L : D5 ≠ L := fun z => by rw [z, hL] at n5; cases n5
    refine ⟨fun σ' H' => ∃ x6 x7 ys, σ' = [some (.ref m), some (.str nm), some (.ref db), some (.ref d1), some (.ref d2), some (.ref D5), x6, x7] ∧ ys.Nodup ∧ (∀ z, z ∈ ys ↔ z ∈ B.map (·.1) ∨ z ∈ O.map (·.1) ∨ z ∈ R.map (·.1)) ∧
      H' D5 = some (.dK (oK (osF B O R ys))) ∧ H' L = some (.lst ((cs ++ csF nm B O R ys).map V.str)) ∧ Kp L H H' ∧ ys.length ≤ 12, ?_, ?_⟩
    · refine ⟨.ref db, rfl, db, oK B, B.map (·.1), rfl, s1 _ _ hB.1, oK_keys B, by rw [List.length_map]; have := kB.1; omega, fun l q1 nd1 m1 l1 hq1 => ?_⟩
      have sA := s1.trans (KS.sameUpd (o := SX.SetX P w q1 l) hq1)
      refine ⟨.ref d1, rfl, d1, oK O, O.map (·.1), rfl, sA _ _ hO.1, oK_keys O, by rw [List.length_map]; have := kO.1; omega, fun l2 q2 nd2 m2 l2' hq2 => ?_⟩
      have sB := sA.trans (KS.sameUpd (o := SX.SetX P w q2 l2) hq2)
      rw [List.length_map] at l1 l2'
      have z1 := kB.1
      have z2 := kO.1
      have z3 := kR.1
      refine ⟨q1, q2, l, l2, rfl, rfl, KS.sameUpd hq2 _ _ upd_same, upd_same, by omega, fun l3 q3 nd3 m3 l3' hq3 => ?_⟩
      have sC := sB.trans (KS.sameUpd (o := SX.SetX P w q3 l3) hq3)
      refine ⟨.ref d2, rfl, d2, oK R, R.map (·.1), rfl, sC _ _ hR.1, oK_keys R, by rw [List.length_map]; have := kR.1; omega, fun l4 q4 nd4 m4 l4' hq4 => ?_⟩
      have sD := sC.trans (KS.sameUpd (o := SX.SetX P w q4 l4) hq4)
      rw [List.length_map] at l4'
      refine ⟨q3, q4, l3, l4, rfl, rfl, KS.sameUpd hq4 _ _ upd_same, upd_same, by omega, fun l5 q5 nd5 m5 l5' hq5 => ?_⟩
      have sE := sD.trans (KS.sameUpd (o := SX.SetX P w q5 l5) hq5)
      refine ⟨q5, l5, rfl, upd_same, by omega, fun ys pl pm srt hpl => ?_⟩
      have sF := sE.trans (KS.sameUpd (o := .lst (ys.map V.str)) hpl)
      have ly : ys.length ≤ 12 := by rw [pm.length_eq]; omega
      have ndy : ys.Nodup := pm.nodup_iff.mpr nd5
      have my : ∀ z, z ∈ ys ↔ z ∈ B.map (·.1) ∨ z ∈ O.map (·.1) ∨ z ∈ R.map (·.1) := fun z => by
        rw [pm.mem_iff, m5 z, m3 z, m1 z, m2 z, m4 z, or_assoc]
      have s15 : Same H1 _ := (((((KS.sameUpd (o := SX.SetX P w q1 l) hq1).trans (KS.sameUpd (o := SX.SetX P w q2 l2) hq2)).trans (KS.sameUpd (o := SX.SetX P w q3 l3) hq3)).trans (KS.sameUpd (o := SX.SetX P w q4 l4) hq4)).trans (KS.sameUpd (o := SX.SetX P w q5 l5) hq5)).trans (KS.sameUpd (o := .lst (ys.map V.str)) hpl)
      have epl : upd (upd (upd (upd (upd (upd H1 q1 (SX.SetX P w q1 l)) q2 (SX.SetX P w q2 l2)) q3 (SX.SetX P w q3 l3)) q4 (SX.SetX P w q4 l4)) q5 (SX.SetX P w q5 l5)) pl (.lst (ys.map V.str)) pl = some (.lst (ys.map V.str)) := upd_same
      have npl : H pl = none := noneSame sE hpl
      generalize upd (upd (upd (upd (upd (upd H1 q1 (SX.SetX P w q1 l)) q2 (SX.SetX P w q2 l2)) q3 (SX.SetX P w q3 l3)) q4 (SX.SetX P w q4 l4)) q5 (SX.SetX P w q5 l5)) pl (.lst (ys.map V.str)) = H6 at *
      have n5p : pl ≠ D5 := fun z => by rw [z, s15 _ _ e5] at epl; cases epl
      have nLp : pl ≠ L := fun z => by rw [z, hL] at npl; cases npl
      refine ⟨pl, rfl, ⟨_, .inl (.inl epl)⟩, ?_⟩
      refine forJ (n := ys.length) (fun i σ' H' => ∃ x6 x7, σ' = [some (.ref m), some (.str nm), some (.ref db), some (.ref d1), some (.ref d2), some (.ref D5), x6, x7] ∧ H' D5 = some (.dK (oK (osF B O R (ys.take i)))) ∧ H' L = some (.lst ((cs ++ csF nm B O R (ys.take i)).map V.str)) ∧ H' pl = some (.lst (ys.map V.str)) ∧ (∀ b o, b ≠ L → b ≠ D5 → H b = some o → H' b = some o))
        ⟨none, none, rfl, s15 _ _ e5, by rw [List.take_zero]; show _ = some (HO.lst ((cs ++ []).map V.str)); rw [List.append_nil]; exact sF _ _ hL, epl, fun b o _ _ hb => sF _ _ hb⟩
        (fun i σ' H' lt h => by obtain ⟨_, _, _, _, _, e, _⟩ := h; exact ⟨_, V.str ys[i], .inl (.inl e), by rw [List.getElem?_map, List.getElem?_eq_getElem lt]; rfl⟩)
        (fun σ' H' h => by obtain ⟨_, _, _, _, _, e, _⟩ := h; exact ⟨_, .inl (.inl e), by rw [List.length_map]; exact Nat.le_refl _⟩) (fun i σ' H7 x H8 lt h y => ?_) (fun σ' H' h => ?_)
      · obtain ⟨rfl, y⟩ := y
        obtain ⟨x6, x7, rfl, f5, fL, fp, fk⟩ := h
        have ex := y _ (.inl (.inl fp))
        rw [List.getElem?_map, List.getElem?_eq_getElem lt] at ex
        obtain rfl : V.str ys[i] = x := Option.some.inj ex
        have et : ys.take (i + 1) = ys.take i ++ [ys[i]] := List.take_succ_eq_append_getElem lt
        have hy : ys[i] ∈ ys := List.getElem_mem lt
        have out := notTake ndy lt
        generalize ys[i] = z at *
        have gB := fk _ _ (neL hB.1) (fun e => by have := hB.1; rw [e, n5] at this; exact nomatch this) hB.1
        have gO := fk _ _ (neL hO.1) (fun e => by have := hO.1; rw [e, n5] at this; exact nomatch this) hO.1
        have gR := fk _ _ (neL hR.1) (fun e => by have := hR.1; rw [e, n5] at this; exact nomatch this) hR.1
        have lz : z.length ≤ 1000 := by
          rcases (my z).mp hy with h | h | h
          · obtain ⟨p, hp, rfl⟩ := List.mem_map.mp h
            exact outsLen _ (kB.2 p hp)
          · obtain ⟨p, hp, rfl⟩ := List.mem_map.mp h
            exact outsLen _ (kO.2 p hp)
          · obtain ⟨p, hp, rfl⟩ := List.mem_map.mp h
            exact outsLen _ (kR.2 p hp)
        -- the texts
        refine ⟨fun σ' H' => ∃ t, σ' = [some (.ref m), some (.str nm), some (.ref db), some (.ref d1), some (.ref d2), some (.ref D5), some (.str z), some (.ref t)] ∧ Same H8 H' ∧ H' t = some (.tup [(valV (oK B) (.inr z)).getD .non, (valV (oK O) (.inr z)).getD .non, (valV (oK R) (.inr z)).getD .non]), ?_, ?_⟩
        · exact ⟨.ref db, rfl, db, rfl, .inl ⟨_, .inl gB⟩, .str z, rfl, _, DGet.k (k := Sum.inr z) gB, .ref d1, rfl, d1, rfl, .inl ⟨_, .inl gO⟩, .str z, rfl, _, DGet.k (k := Sum.inr z) gO, .ref d2, rfl, d2, rfl, .inl ⟨_, .inl gR⟩, .str z, rfl, _, DGet.k (k := Sum.inr z) gR,
            (by show 3 ≤ sizeLine; decide), fun t ht => ⟨t, rfl, KS.sameUpd ht, upd_same⟩⟩
        rintro _ H9 ⟨t, rfl, s9, ht⟩
        have f5' := s9 _ _ f5
        have fL' := s9 _ _ fL
        have fp' := s9 _ _ fp
        have fk' : ∀ b o, b ≠ L → b ≠ D5 → H b = some o → H9 b = some o := fun b o h1 h2 h3 => s9 _ _ (fk b o h1 h2 h3)
        refine ⟨.ref t, rfl, t, _, rfl, .inl (.inl (.inl ht)), _, _, _, rfl, .inr ⟨oLook B z, oLook O z, oLook R z, oK_get B z, oK_get O z, oK_get R z, mayY B O R z, rfl, ?_⟩⟩
        have emF := fk' _ _ nmL (fun e => by rw [e, n5] at em; cases em) em
        have oF : osF B O R (ys.take (i + 1)) = osF B O R (ys.take i) ++ osF B O R [z] := by rw [et, osF_snoc]
        have cF : csF nm B O R (ys.take (i + 1)) = csF nm B O R (ys.take i) ++ csF nm B O R [z] := by rw [et, csF_snoc]
        have lo : (osF B O R (ys.take i)).length ≤ 12 := Nat.le_trans (osF_len _) (by rw [List.length_take]; omega)
        cases ey : mayY B O R z with
        | false =>
          have o1 : osF B O R [z] = [] := by simp [osF, ey]
          have c1 : csF nm B O R [z] = [dotS nm z] := by simp [csF, ey]
          rw [o1, List.append_nil] at oF
          rw [c1] at cF
          refine iteT ⟨.ref m, rfl, m, CG, dm, _, .ref L, rfl, emF, G.cl, G.n3, rfl, .inl ⟨rfl, _, .inl (.inl fL')⟩, ?_⟩
          refine ⟨.str nm, rfl, .inl ⟨nm, rfl, by rw [sizeLine_eq]; omega, nm, rfl, ?_, ".", rfl, ?_, .str z, rfl, .inl ⟨z, rfl, by rw [sizeLine_eq]; omega, z, rfl, ?_, ?_⟩⟩⟩
          · rw [strLen, sizeLine_eq]
            have : Str.empty.length = 0 := rfl
            omega
          · rw [strLen, strLen, sizeLine_eq]
            have : Str.empty.length = 0 := rfl
            have : (("." : Str)).length = 1 := rfl
            omega
          · rw [strLen, strLen, strLen, sizeLine_eq]
            have : Str.empty.length = 0 := rfl
            have : (("." : Str)).length = 1 := rfl
            omega
          · refine ⟨L, _, _, rfl, rfl, fL', ?_, ?_⟩
            · rw [List.length_map, List.length_append, sizeLine_eq]
              have := csF_len (nm := nm) (B := B) (O := O) (Q := R) (ys.take i)
              rw [List.length_take] at this
              omega
            · refine ⟨_, _, rfl, by rw [upd_ne n5L, oF]; exact f5', ?_, by rw [upd_ne nLp]; exact fp', fun b o h1 h2 h3 => by rw [upd_ne h1]; exact fk' b o h1 h2 h3⟩
              rw [upd_same, cF, ← List.append_assoc, List.map_append (l₂ := [dotS nm z])]
              rfl
        | true =>
          have c1 : csF nm B O R [z] = [] := by simp [csF, ey]
          rw [c1, List.append_nil] at cF
          refine iteF ⟨.ref t, rfl, t, _, rfl, .inl (.inl (.inl ht)), _, _, _, rfl, .inr ⟨oLook B z, oLook O z, oLook R z, oK_get B z, oK_get O z, oK_get R z, ?_⟩⟩
          cases ec : choY B O R z with
          | none =>
            have e1 : choS (oLook B z) (oLook O z) (oLook R z) = none := ec
            have o1 : osF B O R [z] = [] := by simp [osF, ey, ec]
            rw [o1, List.append_nil] at oF
            rw [e1]
            refine ⟨false, rfl, iteF ⟨_, _, rfl, by rw [oF]; exact f5', by rw [cF]; exact fL', fp', fk'⟩⟩
          | some u =>
            have e1 : choS (oLook B z) (oLook O z) (oLook R z) = some u := ec
            have o1 : osF B O R [z] = [(z, u)] := by simp [osF, ey, ec]
            rw [o1] at oF
            rw [e1]
            refine ⟨true, by show V.bl (!decide (V.str u = V.non)) = _; rw [decide_eq_false (fun z => nomatch z)]; rfl, iteT ?_⟩
            refine ⟨.ref t, rfl, t, _, rfl, .inl (.inl (.inl ht)), _, _, _, rfl, .inr ⟨oLook B z, oLook O z, oLook R z, oK_get B z, oK_get O z, oK_get R z, ?_⟩⟩
            rw [e1]
            refine ⟨.ref D5, rfl, .str z, rfl, D5, _, rfl, DPut.k (k := Sum.inr z) f5' (by rw [oK_len, sizeLine_eq]; omega), ?_⟩
            refine ⟨_, _, rfl, ?_, by rw [upd_ne (Ne.symm n5L), cF]; exact fL', by rw [upd_ne n5p]; exact fp', fun b o h1 h2 h3 => by rw [upd_ne h2]; exact fk' b o h1 h2 h3⟩
            rw [upd_same, oF]
            have nw : (osF B O R (ys.take i)).any (fun p => decide (p.1 = z)) = false := by
              refine List.any_eq_false.mpr fun p hp e => out ?_
              rw [← of_decide_eq_true e]
              exact osF_keys _ p hp
            show some (HO.dK (putK (oK (osF B O R (ys.take i))) (.inr z) (.str u))) = _
            rw [oK_put]
            unfold oPut
            rw [nw, if_neg Bool.false_ne_true]
      · obtain ⟨x6, x7, rfl, f5, fL, fp, fk⟩ := h
        rw [List.take_length] at f5 fL
        refine ⟨x6, x7, ys, rfl, ndy, my, f5, fL, fun b o nb hb => fk b o nb (fun e => by rw [e, n5] at hb; cases hb) hb, ly⟩
    rintro _ H2 ⟨x6, x7, ys, rfl, ndy, my, f5, fL, kk, ly⟩
    refine ⟨.ref D5, rfl, fun x dx hx hdx nex => ?_⟩
    have ho : OsIn H2 D5 (osF B O R ys) := ⟨f5, osF_nd ndy, Nat.le_trans (osF_len _) (by omega)⟩
    refine dMade hx hdx nex ho.1 fun H' d nD s2 h1 h2 => ?_
    refine q x ys H' ndy my ⟨dx, d, h1, ⟨h2, ho.2⟩, ?_⟩ (s2 _ _ fL) (kk.trans (Kp.same s2))
    cases e : H d with
    | none => rfl
    | some o =>
      by_cases c : d = L
      · rw [c, fL] at nD
        cases nD
      · rw [kk _ _ c e] at nD
        cases nD
end
end PJ

set_option Elab.async false
set_option linter.all false
set_option maxRecDepth 100000
set_option maxHeartbeats 8000000
/-! the merger: a target -/
namespace PJ
open PySem PySem.Spec PyProof.Rows L2 KS KS.La
open KX hiding sameUpd
structure Pas (P : Program) (w : World) (K : PySem.W.Frag) (mg : Str → Option Value) (base : Heap) (CP NT : Addr) : Prop where
  get : ∃ (f : Addr) (fd : FuncData), PySem.W.findIn K (.ref CP) "__getitem__" = some (some (.ref f)) ∧ PySem.W.fnIn K f = true ∧ PySem.W.isFn K (.ref f) = true ∧ Binds K fd ["self", "at"] [] ∧ FnOk P w K mg base (L2.CX P w) 3 f fd ["self", "at"] (spPGet CP NT)
  has : ∃ (f : Addr) (fd : FuncData), PySem.W.findIn K (.ref CP) "__contains__" = some (some (.ref f)) ∧ PySem.W.isFn K (.ref f) = true ∧ Binds K fd ["self", "x"] [] ∧ FnOk P w K mg base CX0 1 f fd ["self", "x"] (spPHas CP)
  nam : ∃ (p g : Addr) (fd : FuncData), PropOf K CP "names" p g ∧ Binds K fd ["self"] [] ∧ FnOk P w K mg base CX0 1 g fd ["self"] (spNames CP)
def isS : Option Tg → Bool
  | some (.src _) => true
  | _ => false
def tPutO (T : Tb) (nm : Str) : Option Tg → Tb
  | none => T
  | some t => tPut T nm t
/-- what is found at a name -/
def MS (nm : Str) (b o p : Option Tg) (cs : List Str) (r : Option Tg) : Prop :=
  (mayT b o p = true ∧ cs = [] ∧ r = if oE o b = true then p else o) ∨
  (mayT b o p = false ∧ ((∃ B O R ys, ((b = none ∧ B = []) ∨ b = some (.src B)) ∧ o = some (.src O) ∧ p = some (.src R) ∧ ys.Nodup ∧ (∀ z, z ∈ ys ↔ z ∈ B.map (·.1) ∨ z ∈ O.map (·.1) ∨ z ∈ R.map (·.1)) ∧ cs = csF nm B O R ys ∧ r = some (.src (osF B O R ys))) ∨
    ((isS o && (isS p && (decide (b = none) || isS b))) = false ∧ cs = [nm] ∧ r = none)))
/-- targets with few outputs -/
def TgK : Tg → Prop
  | .src os => OsK os
  | .mad _ _ => True
instance : DecidableEq Rc := fun a b => by
  cases a with
  | txt z => cases b with
    | txt y => exact if h : z = y then .isTrue (by rw [h]) else .isFalse fun e => h (Rc.txt.inj e)
    | key _ _ => exact .isFalse fun e => nomatch e
  | key x y => cases b with
    | txt _ => exact .isFalse fun e => nomatch e
    | key u v => exact if h : x = u ∧ y = v then .isTrue (by rw [h.1, h.2]) else .isFalse fun e => h (Rc.key.inj e)
def isN : Option Tg → Bool
  | none => true
  | _ => false
theorem tLook_mem {T : Tb} {k : Str} {t : Tg} (h : tLook T k = some t) : (k, t) ∈ T := by
  unfold tLook at h
  obtain ⟨p, hp, e⟩ := Option.map_eq_some_iff.mp h
  have h1 := List.mem_of_find?_eq_some hp
  have h2 : p.1 = k := of_decide_eq_true (List.find?_some (p := fun p : Str × Tg => decide (p.1 = k)) hp)
  rw [← h2, ← e]
  exact h1
section
variable {P : Program} {w : World} {K : PySem.W.Frag} {mg : Str → Option Value} {base : Heap} {f : Addr} {fd : FuncData} {CS CM CP CG NT NS : Addr}
theorem isiO (W : Pjc P w K mg base CS CM CP NT NS) (N : Pjn P w K mg base CS CM) {H : Hp} {v : V} {o : Option Tg} (h : OAt CS CM H v o) : ∃ t, TyX K H v t ∧ PySem.W.kitOne K t (.ref CS) = some (isS o) := by
  cases o with
  | none =>
    obtain rfl : v = .non := h
    exact ⟨_, .base .non, N.kNS⟩
  | some t => cases t with
    | src os => obtain ⟨x, dx, d, rfl, hx, _⟩ := h; exact ⟨_, W.iS.ty hx, W.kSS⟩
    | mad r as => obtain ⟨x, dx, vr, va, rfl, hx, _⟩ := h; exact ⟨_, W.iM.ty hx, W.kMS⟩
theorem nonO {H : Hp} {v : V} {o : Option Tg} (h : OAt CS CM H v o) : decide (v = .non) = isN o := by
  cases o with
  | none => exact decide_eq_true h
  | some t =>
    have : ∃ x, v = .ref x := by
      cases t with
      | src os => obtain ⟨x, _, _, e, _⟩ := h; exact ⟨x, e⟩
      | mad r as => obtain ⟨x, _, _, _, e, _⟩ := h; exact ⟨x, e⟩
    obtain ⟨x, rfl⟩ := this
    exact decide_eq_false fun z => nomatch z
theorem chO {H : Hp} {vo vp : V} {b o p : Option Tg} (ho : OAt CS CM H vo o) (hp : OAt CS CM H vp p) : OAt CS CM H (if oE o b = true then vp else vo) (if oE o b = true then p else o) := by
  cases oE o b with
  | true => exact hp
  | false => exact ho
/-- a target whose outputs stand elsewhere than at D -/
def TgD (CS CM D : Addr) (H : Hp) (v : V) : Tg → Prop
  | .src os => ∃ x dx d, v = .ref x ∧ H x = some (.ins CS dx [("_outputs", .ref d)]) ∧ OsIn H d os ∧ d ≠ D
  | .mad r as => TgAt CS CM H v (.mad r as)
theorem TgD.at {D : Addr} {H : Hp} {v : V} {t : Tg} (h : TgD CS CM D H v t) : TgAt CS CM H v t := by
  cases t with
  | src os => obtain ⟨x, dx, d, e, h1, h2, _⟩ := h; exact ⟨x, dx, d, e, h1, h2⟩
  | mad r as => exact h
theorem TgD.old {D : Addr} {H0 H : Hp} {v : V} {t : Tg} (h : TgAt CS CM H0 v t) (n : H0 D = none) (k : ∀ b o, H0 b = some o → H b = some o) : TgD CS CM D H v t := by
  cases t with
  | src os =>
    obtain ⟨x, dx, d, e, h1, h2⟩ := h
    exact ⟨x, dx, d, e, k _ _ h1, ⟨k _ _ h2.1, h2.2⟩, fun z => by have := h2.1; rw [z, n] at this; exact nomatch this⟩
  | mad r as => exact TgAt.stl h fun b o e _ => k b o e
/-- all but the list at L and the dict at D stands -/
def K2 (L D : Addr) (H H' : Hp) : Prop := ∀ b o, b ≠ L → b ≠ D → H b = some o → H' b = some o
theorem K2.trans {L D : Addr} {H H1 H2 : Hp} (a : K2 L D H H1) (b : K2 L D H1 H2) : K2 L D H H2 := fun c o n m h => b c o n m (a c o n m h)
theorem K2.kp {L D : Addr} {H H' : Hp} (k : Kp L H H') : K2 L D H H' := fun c o n _ h => k c o n h
theorem K2.same {L D : Addr} {H H' : Hp} (k : Same H H') : K2 L D H H' := fun c o _ _ h => k c o h
theorem TgD.k2 {L D : Addr} {H H' : Hp} {xs : List V} {kvs : List (Key × V)} {v : V} {t : Tg} (h : TgD CS CM D H v t) (hL : H L = some (.lst xs)) (hD : H D = some (.dK kvs)) (k : K2 L D H H') : TgD CS CM D H' v t := by
  have go : ∀ {b o}, H b = some o → (∀ xs, o ≠ .lst xs) → (∀ ks, o ≠ .dK ks) → H' b = some o := fun {b o} e n1 n2 => k b o (fun z => by rw [z, hL] at e; exact n1 _ (Option.some.inj e).symm) (fun z => by rw [z, hD] at e; exact n2 _ (Option.some.inj e).symm) e
  cases t with
  | src os =>
    obtain ⟨x, dx, d, e, h1, h2, h3⟩ := h
    refine ⟨x, dx, d, e, go h1 (fun _ z => nomatch z) (fun _ z => nomatch z), ⟨k _ _ (fun z => ?_) h3 h2.1, h2.2⟩, h3⟩
    have := h2.1
    rw [z, hL] at this
    exact nomatch this
  | mad r as =>
    obtain ⟨x, dx, vr, va, e, h1, h2, u, e2, h4, h5⟩ := h
    refine ⟨x, dx, vr, va, e, go h1 (fun _ z => nomatch z) (fun _ z => nomatch z), ?_, u, e2, go h4 (fun _ z => nomatch z) (fun _ z => nomatch z), h5⟩
    cases r with
    | txt z => exact h2
    | key a b => exact ⟨let ⟨t, e, h⟩ := h2.1; ⟨t, e, go h (fun _ z => nomatch z) (fun _ z => nomatch z)⟩, h2.2⟩
/-- the three projects -/
def P3 (CS CM CP : Addr) (H0 H : Hp) (tp D L : Addr) (p : Fin 3 → Addr) (T : Fin 3 → Tb) : Prop := H tp = some (.tup [.ref (p 0), .ref (p 1), .ref (p 2)]) ∧ H0 D = none ∧ H0 L = none ∧ (∀ b o, H0 b = some o → H b = some o) ∧ (∀ i, PjAt CS CM CP H0 (p i) (T i)) ∧ ∀ i, ∀ k t, (k, t) ∈ T i → TgK t
def spGTgt (CS CM CP CG : Addr) : Sp := fun vs H Q _ => ∃ m nm tp D L p T3 H0 kvs T cs, vs = [.ref m, .str nm] ∧ MgAt CG H m tp D L ∧ P3 CS CM CP H0 H tp D L p T3 ∧
  H D = some (.dK kvs) ∧ Tab (TgD CS CM D H) kvs T ∧ H L = some (.lst (cs.map V.str)) ∧ nm.length ≤ 1000 ∧ cs.length ≤ 1000 ∧ T.length ≤ 1000 ∧
  ∀ cs' r kvs' H', MS nm (tLook (T3 0) nm) (tLook (T3 1) nm) (tLook (T3 2) nm) cs' r → H' D = some (.dK kvs') → Tab (TgD CS CM D H') kvs' (tPutO T nm r) → H' L = some (.lst ((cs ++ cs').map V.str)) → K2 L D H H' → Q .non H'
abbrev nGTgt : List Str := ["self", "name", "project", "base", "one", "other", "target", "outputs"]
theorem scGTgt : FnScope nGTgt ["self", "name"] (defScope sGTgt) := ⟨rfl, rfl, rfl, by decide +kernel, rfl, by decide +kernel, by decide +kernel⟩
theorem okGTgt {k : Nat} (W : Pjc P w K mg base CS CM CP NT NS) (N : Pjn P w K mg base CS CM) (A' : Pas P w K mg base CP NT) (G : Mgc P w K mg base CS CM CG) (My : Has P w K mg base 2 "_may_choose" ["base", "one", "other"] (spMay CS CM)) (Ch : Has P w K mg base 2 "_chosen" ["base", "one", "other"] (spCho CS CM))
    (Ms : ∃ (f : Addr) (fd : FuncData), Meth K CG "_merged_source" f ∧ Binds K fd ["self", "name", "base", "one", "other"] [] ∧ FnOk P w K mg base CX0 4 f fd ["self", "name", "base", "one", "other"] (spGSrc CS CM CG))
    (F : FnM K "_merge_target" "Merger._merge_target" sGTgt f fd) : FnOk P w K mg base CX0 (k + 5) f fd ["self", "name"] (spGTgt CS CM CP CG) := by
  obtain ⟨fY, fdY, gY, kY, bY, GY⟩ := My.ex
  obtain ⟨fC, fdC, gC, kC, bC, GC⟩ := Ch.ex
  obtain ⟨fM, fdM, hM, bM, GM⟩ := Ms
  obtain ⟨fG, dG, hG1, hG2, hG3, bG, GG⟩ := A'.get
  obtain ⟨fH, dH, hH1, hH2, bH, GH⟩ := A'.has
  obtain ⟨po, go, dO, hO, bO, GO⟩ := W.outS
  refine F.ok scGTgt (fun vs H Q E h => ?_) (fun cdv A outer s H vs Q E hr h => ?_)
  · obtain ⟨m, nm, tp, D, L, p, T3, H0, kvs, T, cs, rfl, _⟩ := h
    rfl
  · obtain ⟨m, nm, tp, D, L, p, T3, H0, kvs, T, cs, rfl, hm, h3, hD, hT, hL, ln, lc, lT, q⟩ := h
    have hr1 : Room 1 _ := hr.mono (by omega)
    have hr2 : Room 2 _ := hr.mono (by omega)
    have hr2' : Room (1 + 1) _ := hr.mono (by omega)
    have hr4 : Room (3 + 1) _ := hr.mono (by omega)
    have hr4' : Room 4 _ := hr.mono (by omega)
    have hu1 : (A.deeper (envOfC "Merger._merge_target" (defScope sGTgt) s.heap.objs.size f cdv)).units + 1 < cLine := by
      have := hr.units
      omega
    refine ⟨_, PSs.nox (C8.pss_cut (ps_asg (pe_lc (own := [("project", 2)]) (g := gName 2) rfl scGTgt.nd (pi_tup (pe_fld (pv 0) rfl)) (blkOk_by (N := nGTgt) (sc := defScope sGTgt) (by decide +kernel))
        (fun _ _ _ _ _ => pg_name (i := 2) scGTgt.nd rfl (.inl rfl) (hf := .inr rfl)) (fun _ _ _ _ _ => pts_nil) (fun _ _ _ _ _ => pe_ifExp (pt_cmpR (OC.op_inOwn (E := E0) (FnOk.raw GH bH .nil) hr1 hH1 hH2 pass0) (pv 1) (pv 2) (by rfl)) (OD.pe_ixO (E := fun _ => E0) (pv 2) (pv 1) GG hr4 hG1 hG2 hG3 bG (fun _ => OD.passAt0)) pe_non))
          (pg_unl rfl (pgs_cons (pg_name (i := 3) scGTgt.nd rfl (.inl rfl)) (pgs_cons (pg_name (i := 4) scGTgt.nd rfl (.inl rfl)) (pgs_cons (pg_name (i := 5) scGTgt.nd rfl (.inl rfl)) pgs_nil))))) (C8.pss_cut (ps_if (pt_val (pe_call GY hr2 (by rfl) gY kY bY .nil pass0 (pa_cons (pv 3) (pa_cons (pv 4) (pa_cons (pv 5) pa_nil))))) (pss_one (ps_set (i := 6) scGTgt.nd rfl (.inl rfl) (pe_call GC hr2 (by rfl) gC kC bC .nil pass0 (pa_cons (pv 3) (pa_cons (pv 4) (pa_cons (pv 5) pa_nil))))))
        (pss_one (ps_if (PW.pt (pw_and (pt_val (pe_callB call_isi (by rfl) W.mi (by decide +kernel) (pa_cons (pv 4) (pa_cons (pe_glob (v := .ref CS) (by rfl) W.gS rfl) pa_nil)))) (pw_and (pt_val (pe_callB call_isi (by rfl) W.mi (by decide +kernel) (pa_cons (pv 5) (pa_cons (pe_glob (v := .ref CS) (by rfl) W.gS rfl) pa_nil))))
              (pw_and1 (PW.pt (pw_or (pt_cmp (pc_isN (pv 3))) (pw_or1 (pt_val (pe_callB call_isi (by rfl) W.mi (by decide +kernel) (pa_cons (pv 3) (pa_cons (pe_glob (v := .ref CS) (by rfl) W.gS rfl) pa_nil)))))))))))
            (pss_cons (ps_set (i := 7) scGTgt.nd rfl (.inl rfl) (pe_ifExp (pt_cmp (pc_isN (pv 3))) pe_dnewK (pe_prop (pv 3) W.iS.cl hO GO hr2' bO .nil pass0 rfl))) (pss_one (ps_set (i := 6) scGTgt.nd rfl (.inl rfl) (pe_meth (pv 0) G.cl hM GM hr4' bM .nil pass0 (pa_cons (pv 1) (pa_cons (pv 7) (pa_cons (pe_prop (pv 4) W.iS.cl hO GO hr2' bO .nil pass0 rfl) (pa_cons (pe_prop (pv 5) W.iS.cl hO GO hr2' bO .nil pass0 rfl) pa_nil))))))))
            (pss_cons (ps_expr (pe_bm PySem.F.plainAttrs_list PySem.F.slot_list_append PySem.F.type_list_append mt_append (pe_fld (pv 0) rfl) (pa_cons (pv 1) pa_nil))) (pss_one (ps_set (i := 6) scGTgt.nd rfl (.inl rfl) pe_non)))))) (pss_one (ps_if (pt_cmp (pc_notN (pv 6))) (pss_one (ps_dput hu1 (pe_fld (pv 0) rfl) (pv 1) (pv 6) rfl)) pss_nil)))), ?_⟩
    obtain ⟨dm, em⟩ := id hm
    obtain ⟨htp, nD, nL, old, hP, hK⟩ := h3
    have nmL : m ≠ L := fun z => by rw [z, hL] at em; cases em
    have nmD : m ≠ D := fun z => by rw [z, hD] at em; cases em
    have nDL : D ≠ L := fun z => by rw [z, hL] at hD; cases hD
    refine ⟨fun σ' H' => ∃ vb vo vp x2, σ' = [some (.ref m), some (.str nm), x2, some vb, some vo, some vp, none, none] ∧ OAt CS CM H0 vb (tLook (T3 0) nm) ∧ OAt CS CM H0 vo (tLook (T3 1) nm) ∧ OAt CS CM H0 vp (tLook (T3 2) nm) ∧ Same H H', ?_, ?_⟩
    · refine ⟨.ref m, rfl, m, CG, dm, _, .ref tp, rfl, em, G.cl, G.n1, rfl, tp, rfl, ⟨_, .inl (.inl htp)⟩, fun D1 hD1 => ?_⟩
      refine lcJ (n := 3) (vs := [2]) (fun i H' => ∃ ws : List V, ws.length = i ∧ H' D1 = some (.lst ws) ∧ (∀ j (hj : j < 3), j < i → ∃ v, ws[j]? = some v ∧ OAt CS CM H0 v (tLook (T3 ⟨j, hj⟩) nm)) ∧ Same H H')
        ⟨[], rfl, upd_same, fun j _ hj => absurd hj (Nat.not_lt_zero _), KS.sameUpd hD1⟩
        (fun i H' lt h => by
          obtain ⟨ws, lw, eD, hv, sm⟩ := h
          refine ⟨_, _, .inl (.inl (sm _ _ htp)), List.getElem?_eq_getElem (show i < 3 from lt)⟩)
        (fun H' h => by obtain ⟨ws, lw, eD, hv, sm⟩ := h; exact ⟨_, .inl (.inl (sm _ _ htp)), Nat.le_refl _⟩) (fun i H' x H1 lt h y => ?_) (fun H' h => ?_)
      · obtain ⟨rfl, y⟩ := y
        obtain ⟨ws, lw, eD, hv, sm⟩ := h
        have ex := y _ (.inl (.inl (sm _ _ htp)))
        have ex2 : x = .ref (p ⟨i, lt⟩) := by
          match i, lt, ex with
          | 0, _, ex => exact (Option.some.inj ex).symm
          | 1, _, ex => exact (Option.some.inj ex).symm
          | 2, _, ex => exact (Option.some.inj ex).symm
        subst ex2
        obtain ⟨kp, ⟨dp, Dp, hp1, hp2⟩, tP⟩ := hP ⟨i, lt⟩
        have k1 : ∀ b o, H0 b = some o → H1 b = some o := fun b o h => sm _ _ (old _ _ h)
        have pr : PrAt CP H1 (p ⟨i, lt⟩) kp := ⟨dp, Dp, k1 _ _ hp1, k1 _ _ hp2⟩
        refine ⟨rfl, ?_⟩
        unfold tYes
        dsimp only
        rw [if_pos rfl]
        have fin : ∀ v, OAt CS CM H0 v (tLook (T3 ⟨i, lt⟩) nm) → ∃ acc, H1 D1 = some (.lst acc) ∧ acc.length < sizeLine ∧ ∃ ws : List V, ws.length = i + 1 ∧ upd H1 D1 (.lst (acc ++ [v])) D1 = some (.lst ws) ∧ (∀ j (hj : j < 3), j < i + 1 → ∃ v, ws[j]? = some v ∧ OAt CS CM H0 v (tLook (T3 ⟨j, hj⟩) nm)) ∧ Same H (upd H1 D1 (.lst (acc ++ [v]))) := fun v ho => by
          refine ⟨ws, eD, by rw [sizeLine_eq]; omega, ws ++ [v], by rw [List.length_append, lw]; rfl, upd_same, fun j hj hj2 => ?_, fun b o hb => ?_⟩
          · by_cases c : j < i
            · obtain ⟨u, e1, e2⟩ := hv j hj c
              exact ⟨u, by rw [List.getElem?_append_left (by omega)]; exact e1, e2⟩
            · have : j = i := by omega
              subst this
              exact ⟨v, by rw [List.getElem?_append_right (by omega), lw, Nat.sub_self]; rfl, ho⟩
          · rw [upd_ne (ne_of_none hb hD1)]
            exact sm _ _ hb
        rcases tP.look nm with ⟨e, e2⟩ | ⟨v, t, e, e2, ht⟩
        · refine ⟨.str nm, rfl, .ref (p ⟨i, lt⟩), rfl, p ⟨i, lt⟩, dp, _, rfl, k1 _ _ hp1, p ⟨i, lt⟩, kp, nm, rfl, pr, false, by rw [e]; rfl, false, rfl, iteF ?_⟩
          exact fin .non (by rw [e2]; rfl)
        · refine ⟨.str nm, rfl, .ref (p ⟨i, lt⟩), rfl, p ⟨i, lt⟩, dp, _, rfl, k1 _ _ hp1, p ⟨i, lt⟩, kp, nm, rfl, pr, true, by rw [e]; rfl, true, rfl, iteT ?_⟩
          refine ⟨.ref (p ⟨i, lt⟩), rfl, .str nm, rfl, p ⟨i, lt⟩, dp, _, rfl, k1 _ _ hp1, p ⟨i, lt⟩, kp, nm, rfl, pr, fun v' hv' => ?_, fun hn => ?_⟩
          · obtain rfl : v = v' := Option.some.inj (e.symm.trans hv')
            exact fin v (by rw [e2]; exact ht)
          · rw [e] at hn
            cases hn
      · obtain ⟨ws, lw, eD, hv, sm⟩ := h
        obtain ⟨v0, e0, o0⟩ := hv 0 (by decide) (by decide)
        obtain ⟨v1, e1, o1⟩ := hv 1 (by decide) (by decide)
        obtain ⟨v2, e2, o2⟩ := hv 2 (by decide) (by decide)
        have ew : ws = [v0, v1, v2] := by
          match ws, lw, e0, e1, e2 with
          | [a, b, c], _, e0, e1, e2 =>
            rw [Option.some.inj e0, Option.some.inj e1, Option.some.inj e2]
        subst ew
        exact ⟨D1, _, rfl, .inl (.inl eD), rfl, v0, _, rfl, v1, _, rfl, v2, _, rfl, rfl, v0, v1, v2, _, rfl, o0, o1, o2, sm⟩
    rintro _ H1 ⟨vb, vo, vp, x2, rfl, ob, oo, op, s1⟩
    have k1 : ∀ b o, H0 b = some o → H1 b = some o := fun b o h => s1 _ _ (old _ _ h)
    have up : ∀ {v o}, OAt CS CM H0 v o → OAt CS CM H1 v o := fun h => h.stl fun b o e _ => k1 b o e
    -- the target
    refine ⟨fun σ' H' => ∃ x2 x7 vt cs' r, σ' = [some (.ref m), some (.str nm), x2, some vb, some vo, some vp, some vt, x7] ∧ MS nm (tLook (T3 0) nm) (tLook (T3 1) nm) (tLook (T3 2) nm) cs' r ∧ (r = none → vt = .non) ∧ (∀ t, r = some t → TgD CS CM D H' vt t) ∧ H' L = some (.lst ((cs ++ cs').map V.str)) ∧ Kp L H H', ?_, ?_⟩
    · refine ⟨vb, rfl, vo, rfl, vp, rfl, vb, vo, vp, rfl, .inl ⟨_, _, _, up ob, up oo, up op, mayT (tLook (T3 0) nm) (tLook (T3 1) nm) (tLook (T3 2) nm), rfl, ?_⟩⟩
      cases ey : mayT (tLook (T3 0) nm) (tLook (T3 1) nm) (tLook (T3 2) nm) with
      | true =>
        refine iteT ⟨vb, rfl, vo, rfl, vp, rfl, vb, vo, vp, rfl, .inl ⟨_, _, up ob, up oo, ?_⟩⟩
        have oc := chO (b := tLook (T3 0) nm) oo op
        refine ⟨_, _, _, [], _, rfl, .inl ⟨ey, rfl, rfl⟩, fun e => ?_, fun t e => ?_, by rw [List.append_nil]; exact s1 _ _ hL, Kp.same s1⟩
        · rw [e] at oc
          exact oc
        · rw [e] at oc
          exact TgD.old oc nD k1
      | false =>
        refine iteF ?_
        obtain ⟨to, ty1, kt1⟩ := isiO W N (up oo)
        obtain ⟨tq, ty2, kt2⟩ := isiO W N (up op)
        obtain ⟨tb, ty3, kt3⟩ := isiO W N (up ob)
        refine ⟨vo, rfl, vo, .ref CS, to, .ref CS, isS (tLook (T3 1) nm), rfl, .own CS, ty1, kt1, isS (tLook (T3 1) nm), rfl, ?_⟩
        cases e1 : isS (tLook (T3 1) nm) with
        | false =>
          refine iteF (iteF ?_)
          refine ⟨.ref m, rfl, m, CG, dm, _, .ref L, rfl, s1 _ _ em, G.cl, G.n3, rfl, .inl ⟨rfl, _, .inl (.inl (s1 _ _ hL))⟩, .str nm, rfl, L, _, _, rfl, rfl, s1 _ _ hL, by rw [List.length_map, sizeLine_eq]; omega, ?_⟩
          exact ⟨_, _, .non, [nm], none, rfl, .inr ⟨ey, .inr ⟨by rw [e1, Bool.false_and], rfl, rfl⟩⟩, fun _ => rfl, (fun t e => nomatch e), by rw [upd_same, List.map_append]; rfl, (Kp.same s1).trans Kp.put⟩
        | true =>
          refine iteT ⟨vp, rfl, vp, .ref CS, tq, .ref CS, isS (tLook (T3 2) nm), rfl, .own CS, ty2, kt2, isS (tLook (T3 2) nm), rfl, ?_⟩
          cases e2 : isS (tLook (T3 2) nm) with
          | false =>
            refine iteF (iteF ?_)
            refine ⟨.ref m, rfl, m, CG, dm, _, .ref L, rfl, s1 _ _ em, G.cl, G.n3, rfl, .inl ⟨rfl, _, .inl (.inl (s1 _ _ hL))⟩, .str nm, rfl, L, _, _, rfl, rfl, s1 _ _ hL, by rw [List.length_map, sizeLine_eq]; omega, ?_⟩
            exact ⟨_, _, .non, [nm], none, rfl, .inr ⟨ey, .inr ⟨by rw [e1, e2, Bool.false_and, Bool.and_false], rfl, rfl⟩⟩, fun _ => rfl, (fun t e => nomatch e), by rw [upd_same, List.map_append]; rfl, (Kp.same s1).trans Kp.put⟩
          | true =>
            obtain ⟨O, eO⟩ : ∃ O, tLook (T3 1) nm = some (.src O) := by
              cases e : tLook (T3 1) nm with
              | none => rw [e] at e1; cases e1
              | some t => cases t with
                | src os => exact ⟨os, rfl⟩
                | mad r as => rw [e] at e1; cases e1
            obtain ⟨R, eR⟩ : ∃ O, tLook (T3 2) nm = some (.src O) := by
              cases e : tLook (T3 2) nm with
              | none => rw [e] at e2; cases e2
              | some t => cases t with
                | src os => exact ⟨os, rfl⟩
                | mad r as => rw [e] at e2; cases e2
            rw [eO] at oo
            rw [eR] at op
            obtain ⟨x1, dx1, d1, rfl, hx1, ho1⟩ := id (show TgAt CS CM H1 vo (.src O) from up oo)
            obtain ⟨y1, dy1, g1, rfl, hy1, hp1⟩ := id (show TgAt CS CM H1 vp (.src R) from up op)
            have kO := hK 1 nm _ (tLook_mem eO)
            have kR := hK 2 nm _ (tLook_mem eR)
            have fin : ∀ (B : Outs) (u u1 u2 : Addr) (H4 : Hp), ((tLook (T3 0) nm = none ∧ B = []) ∨ tLook (T3 0) nm = some (.src B)) → OsK B → Same H1 H4 → OsIn H4 u B → OsIn H4 u1 O → OsIn H4 u2 R →
                ∀ (S : V → Hp → Prop) (Ee : XK), (∀ x cs' r H', MS nm (tLook (T3 0) nm) (tLook (T3 1) nm) (tLook (T3 2) nm) cs' (some r) → TgD CS CM D H' (.ref x) r → H' L = some (.lst ((cs ++ cs').map V.str)) → Kp L H H' → S (.ref x) H') →
                spGSrc CS CM CG [.ref m, .str nm, .ref u, .ref u1, .ref u2] H4 S Ee := fun B u u1 u2 H4 hb kB s4 hu hu1 hu2 S Ee fS => by
              refine ⟨m, nm, u, u1, u2, tp, D, L, cs, B, O, R, rfl, ⟨dm, s4 _ _ (s1 _ _ em)⟩, s4 _ _ (s1 _ _ hL), hu, hu1, hu2, kB, kO, kR, ln, lc, fun x ys H' ndy my sn eL kk => ?_⟩
              obtain ⟨dx, d, e1', e2', e3'⟩ := sn
              refine fS x _ _ H' (.inr ⟨ey, .inl ⟨B, O, R, ys, hb, eO, eR, ndy, my, rfl, rfl⟩⟩) ⟨x, dx, d, rfl, e1', e2', fun z => ?_⟩ eL ((Kp.same (s1.trans s4)).trans kk)
              rw [z, s4 _ _ (s1 _ _ hD)] at e3'
              cases e3'
            cases eb : tLook (T3 0) nm with
            | none =>
              have vbn : vb = .non := by rw [eb] at ob; exact ob
              subst vbn
              refine iteT ⟨.non, rfl, true, rfl, iteT (iteT ⟨.non, rfl, true, rfl, iteT fun u hu => ?_⟩)⟩
              have s2 := KS.sameUpd (o := .dK []) hu
              have ou : OsIn (upd H1 u (.dK [])) u [] := ⟨upd_same, List.nodup_nil, Nat.zero_le _⟩
              refine ⟨.ref m, rfl, m, dm, _, rfl, s2 _ _ (s1 _ _ em), rfl, .str nm, rfl, .ref u, rfl, .ref x1, rfl, x1, dx1, _, rfl, s2 _ _ hx1, x1, dx1, d1, oK O, rfl, s2 _ _ hx1, s2 _ _ ho1.1, fun u1 hu1 => ?_⟩
              have s3 := s2.trans (KS.sameUpd (o := .dK (oK O)) hu1)
              refine ⟨.ref y1, rfl, y1, dy1, _, rfl, s3 _ _ hy1, y1, dy1, g1, oK R, rfl, s3 _ _ hy1, s3 _ _ hp1.1, fun u2 hu2 => ?_⟩
              have s4 := s3.trans (KS.sameUpd (o := .dK (oK R)) hu2)
              unfold tNil
              dsimp only [List.set]
              refine fin [] u u1 u2 _ (.inl ⟨eb, rfl⟩) ⟨Nat.zero_le _, fun p hp => absurd hp (by simp)⟩ s4 ⟨KS.sameUpd hu2 _ _ (KS.sameUpd hu1 _ _ ou.1), ou.2⟩ ⟨KS.sameUpd hu2 _ _ upd_same, ho1.2⟩ ⟨upd_same, hp1.2⟩ _ _ fun x cs' r H' ms ht eL kk => ?_
              exact ⟨_, _, .ref x, cs', some r, rfl, by rw [← eb]; exact ms, (fun e => nomatch e), (fun t e => by cases e; exact ht), eL, kk⟩
            | some t0 =>
              rw [eb] at ob
              have hb1 : TgAt CS CM H1 vb t0 := up ob
              obtain ⟨xb, exb⟩ : ∃ x, vb = .ref x := by
                cases t0 with
                | src os => obtain ⟨x, _, _, e, _⟩ := hb1; exact ⟨x, e⟩
                | mad r as => obtain ⟨x, _, _, _, e, _⟩ := hb1; exact ⟨x, e⟩
              subst exb
              rw [eb] at kt3
              cases t0 with
              | mad r as =>
                refine iteT ⟨.ref xb, rfl, false, rfl, iteF ⟨.ref xb, rfl, .ref xb, .ref CS, tb, .ref CS, false, rfl, .own CS, ty3, kt3, false, rfl, iteF ?_⟩⟩
                refine ⟨.ref m, rfl, m, CG, dm, _, .ref L, rfl, s1 _ _ em, G.cl, G.n3, rfl, .inl ⟨rfl, _, .inl (.inl (s1 _ _ hL))⟩, .str nm, rfl, L, _, _, rfl, rfl, s1 _ _ hL, by rw [List.length_map, sizeLine_eq]; omega, ?_⟩
                exact ⟨_, _, .non, [nm], none, rfl, by rw [← eb]; exact .inr ⟨ey, .inr ⟨by rw [e1, e2, eb]; rfl, rfl, rfl⟩⟩, (fun _ => rfl), (fun t e => nomatch e), by rw [upd_same, List.map_append]; rfl, (Kp.same s1).trans Kp.put⟩
              | src B =>
                obtain ⟨xb', dxb, db, exb, hxb, hob⟩ := id hb1
                cases exb
                have kB := hK 0 nm _ (tLook_mem eb)
                refine iteT ⟨.ref xb, rfl, false, rfl, iteF ⟨.ref xb, rfl, .ref xb, .ref CS, tb, .ref CS, true, rfl, .own CS, ty3, kt3, true, rfl, iteT ?_⟩⟩
                refine ⟨.ref xb, rfl, false, rfl, iteF ⟨.ref xb, rfl, xb, dxb, _, rfl, hxb, xb, dxb, db, oK B, rfl, hxb, hob.1, fun u hu => ?_⟩⟩
                have s2 := KS.sameUpd (o := .dK (oK B)) hu
                have ou : OsIn (upd H1 u (.dK (oK B))) u B := ⟨upd_same, hob.2⟩
                refine ⟨.ref m, rfl, m, dm, _, rfl, s2 _ _ (s1 _ _ em), rfl, .str nm, rfl, .ref u, rfl, .ref x1, rfl, x1, dx1, _, rfl, s2 _ _ hx1, x1, dx1, d1, oK O, rfl, s2 _ _ hx1, s2 _ _ ho1.1, fun u1 hu1 => ?_⟩
                have s3 := s2.trans (KS.sameUpd (o := .dK (oK O)) hu1)
                refine ⟨.ref y1, rfl, y1, dy1, _, rfl, s3 _ _ hy1, y1, dy1, g1, oK R, rfl, s3 _ _ hy1, s3 _ _ hp1.1, fun u2 hu2 => ?_⟩
                have s4 := s3.trans (KS.sameUpd (o := .dK (oK R)) hu2)
                unfold tNil
                dsimp only [List.set]
                refine fin B u u1 u2 _ (.inr eb) kB s4 ⟨KS.sameUpd hu2 _ _ (KS.sameUpd hu1 _ _ ou.1), ou.2⟩ ⟨KS.sameUpd hu2 _ _ upd_same, ho1.2⟩ ⟨upd_same, hp1.2⟩ _ _ fun x cs' r H' ms ht eL kk => ?_
                exact ⟨_, _, .ref x, cs', some r, rfl, by rw [← eb]; exact ms, (fun e => nomatch e), (fun t e => by cases e; exact ht), eL, kk⟩
    rintro _ H2 ⟨x2, x7, vt, cs', r, rfl, ms, hn, hs, eL, kk⟩
    have em2 := kk _ _ nmL em
    have eD2 := kk _ _ nDL hD
    have eL1 : H L = some (.lst (cs.map V.str)) := hL
    have tT2 : Tab (TgD CS CM D H2) kvs T := hT.imp fun _ _ _ _ _ h => h.k2 hL hD (K2.kp kk)
    cases r with
    | none =>
      obtain rfl : vt = .non := hn rfl
      exact ⟨.non, rfl, false, rfl, iteF (q cs' none kvs H2 ms eD2 tT2 eL (K2.kp kk))⟩
    | some t =>
      have ht := hs t rfl
      obtain ⟨x, rfl⟩ : ∃ x, vt = .ref x := by
        cases t with
        | src os => obtain ⟨x, _, _, e, _⟩ := ht; exact ⟨x, e⟩
        | mad r as => obtain ⟨x, _, _, _, e, _⟩ := ht; exact ⟨x, e⟩
      refine ⟨.ref x, rfl, true, rfl, iteT ⟨.ref x, rfl, .ref m, rfl, m, CG, dm, _, .ref D, rfl, em2, G.cl, G.n2, rfl, .str nm, rfl, D, _, rfl, DPut.k (k := Sum.inr nm) eD2 (by rw [hT.len, sizeLine_eq]; omega), ?_⟩⟩
      have k3 : K2 L D H2 (upd H2 D (.dK (putK kvs (.inr nm) (.ref x)))) := fun b o _ n2 hb => by rw [upd_ne n2]; exact hb
      exact q cs' (some t) _ _ ms upd_same (Tab.put (tT2.imp fun _ _ _ _ _ h => h.k2 eL eD2 k3) (ht.k2 eL eD2 k3)) (by rw [upd_ne (Ne.symm nDL)]; exact eL) ((K2.kp kk).trans k3)
end
end PJ

set_option Elab.async false
set_option linter.all false
set_option maxRecDepth 100000
set_option maxHeartbeats 8000000
/-! the merger: made, asked -/
namespace PJ
open PySem PySem.Spec PyProof.Rows L2 KS KS.La
open KX hiding sameUpd
/-- what is found at all names -/
inductive MFold (T3 : Fin 3 → Tb) : List Str → List Str → Tb → Prop
  | nil : MFold T3 [] [] []
  | snoc {ys cs : List Str} {T : Tb} {nm : Str} {cs' : List Str} {r : Option Tg} (h : MFold T3 ys cs T) (m : MS nm (tLook (T3 0) nm) (tLook (T3 1) nm) (tLook (T3 2) nm) cs' r) : MFold T3 (ys ++ [nm]) (cs ++ cs') (tPutO T nm r)
theorem tPut_len (T : Tb) (k : Str) (t : Tg) : (tPut T k t).length ≤ T.length + 1 := by
  unfold tPut
  split
  · rw [List.length_map]
    exact Nat.le_succ _
  · rw [List.length_append]
    exact Nat.le_refl _
theorem tPutO_len (T : Tb) (k : Str) (r : Option Tg) : (tPutO T k r).length ≤ T.length + 1 := by
  cases r with
  | none => exact Nat.le_succ _
  | some t => exact tPut_len T k t
theorem MS_len {nm : Str} {T3 : Fin 3 → Tb} (hK : ∀ i, ∀ k t, (k, t) ∈ T3 i → TgK t) {cs : List Str} {r : Option Tg} (h : MS nm (tLook (T3 0) nm) (tLook (T3 1) nm) (tLook (T3 2) nm) cs r) : cs.length ≤ 4 := by
  rcases h with ⟨_, rfl, _⟩ | ⟨_, ⟨B, O, R, ys, hb, eo, ep, nd, my, rfl, _⟩ | ⟨_, rfl, _⟩⟩
  · exact Nat.zero_le _
  · have kO : OsK O := hK 1 nm _ (tLook_mem eo)
    have kR : OsK R := hK 2 nm _ (tLook_mem ep)
    have kB : OsK B := by
      rcases hb with ⟨_, rfl⟩ | eb
      · exact ⟨Nat.zero_le _, fun p hp => absurd hp (by simp)⟩
      · exact hK 0 nm _ (tLook_mem eb)
    have l1 := ndLen ys outsL nd fun z hz => by
      rcases (my z).mp hz with h | h | h
      · obtain ⟨p, hp, rfl⟩ := List.mem_map.mp h
        exact kB.2 p hp
      · obtain ⟨p, hp, rfl⟩ := List.mem_map.mp h
        exact kO.2 p hp
      · obtain ⟨p, hp, rfl⟩ := List.mem_map.mp h
        exact kR.2 p hp
    exact Nat.le_trans (csF_len ys) l1
  · show 1 ≤ 4
    decide
section
variable {P : Program} {w : World} {K : PySem.W.Frag} {mg : Str → Option Value} {base : Heap} {f : Addr} {fd : FuncData} {CS CM CP CG NT NS : Addr}
/-- three projects over few names -/
structure T3Ok (CS CM CP : Addr) (H0 : Hp) (p : Fin 3 → Addr) (T : Fin 3 → Tb) (U : List Str) : Prop where
  at_ : ∀ i, PjAt CS CM CP H0 (p i) (T i)
  tk : ∀ i, ∀ k t, (k, t) ∈ T i → TgK t
  nd : ∀ i, ((T i).map (·.1)).Nodup
  sub : ∀ i, ∀ k ∈ (T i).map (·.1), k ∈ U
  lu : U.length ≤ 6
  ln : ∀ k ∈ U, k.length ≤ 1000
def spGInit (CS CM CP CG : Addr) : Sp := fun vs H Q _ => ∃ m dm p T3 U H0, vs = [.ref m, .ref (p 0), .ref (p 1), .ref (p 2)] ∧ H m = some (.ins CG dm []) ∧ H0 m = none ∧ (∀ b o, H0 b = some o → H b = some o) ∧ T3Ok CS CM CP H0 p T3 U ∧
  ∀ H' tp D L ys cs T kvs, MgAt CG H' m tp D L → H' D = some (.dK kvs) → Tab (TgD CS CM D H') kvs T → H' L = some (.lst (cs.map V.str)) → ys.Nodup → (∀ z, z ∈ ys ↔ ∃ i, z ∈ (T3 i).map (·.1)) → MFold T3 ys cs T → cs.length ≤ 24 → T.length ≤ 6 → (∀ b o, H0 b = some o → H' b = some o) → Q .non H'
abbrev nGInit : List Str := ["self", "base", "one", "other", "name"]
theorem scGInit : FnScope nGInit ["self", "base", "one", "other"] (defScope sGInit) := ⟨rfl, rfl, rfl, by decide +kernel, rfl, by decide +kernel, by decide +kernel⟩
theorem okGInit {k : Nat} (W : Pjc P w K mg base CS CM CP NT NS) (A' : Pas P w K mg base CP NT) (G : Mgc P w K mg base CS CM CG)
    (Mt : ∃ (f : Addr) (fd : FuncData), Meth K CG "_merge_target" f ∧ Binds K fd ["self", "name"] [] ∧ FnOk P w K mg base CX0 5 f fd ["self", "name"] (spGTgt CS CM CP CG))
    (F : FnM K "__init__" "Merger.__init__" sGInit f fd) : FnOk P w K mg base CX0 (k + 6) f fd ["self", "base", "one", "other"] (spGInit CS CM CP CG) := by
  obtain ⟨fT, fdT, hT, bT, GT⟩ := Mt
  obtain ⟨pN, gN, dN, hN, bN, GN⟩ := A'.nam
  refine F.ok scGInit (fun vs H Q E h => ?_) (fun cdv A outer s H vs Q E hr h => ?_)
  · obtain ⟨m, dm, p, T3, U, H0, rfl, _⟩ := h
    rfl
  · obtain ⟨m, dm, p, T3, U, H0, rfl, hm, nm0, old, X, q⟩ := h
    have hr2 : Room (1 + 1) _ := hr.mono (by omega)
    have hr5 : Room 5 _ := hr.mono (by omega)
    refine ⟨_, PSs.nox (C8.pss_cut (ps_fld (pv 0) (pe_tup (pa_cons (pv 1) (pa_cons (pv 2) (pa_cons (pv 3) pa_nil)))) rfl) (C8.pss_cut (ps_fld (pv 0) pe_dnewK rfl) (C8.pss_cut (ps_fld (pv 0) (pe_lst pa_nil) rfl) (pss_one (ps_for PassesOwn.never rfl (pi_list (pe_callB (r := SX.rSortX P w) (SX.cr_sortX rfl) (by rfl) W.ms (by decide +kernel) (pa_cons (pe_op (r := SX.rOr P w) SX.op_orX (pe_op (r := SX.rOr P w) SX.op_orX (pe_callTy (r := SX.rSetT P w K) (T := "set") (SX.cr_setT rfl) (by rfl) G.mset (by decide +kernel) (pa_cons (pe_prop (pv 1) W.iP.cl hN GN hr2 bN .nil pass0 rfl) pa_nil)) (pe_callTy (r := SX.rSetT P w K) (T := "set") (SX.cr_setT rfl) (by rfl) G.mset (by decide +kernel) (pa_cons (pe_prop (pv 2) W.iP.cl hN GN hr2 bN .nil pass0 rfl) pa_nil))) (pe_callTy (r := SX.rSetT P w K) (T := "set") (SX.cr_setT rfl) (by rfl) G.mset (by decide +kernel) (pa_cons (pe_prop (pv 3) W.iP.cl hN GN hr2 bN .nil pass0 rfl) pa_nil))) pa_nil))) (pg_name (i := 4) scGInit.nd rfl (.inl rfl))
        (pss_one (ps_expr (pe_meth (pv 0) G.cl hT GT hr5 bT .nil pass0 (pa_cons (pv 4) pa_nil))))))))), ?_⟩
    -- the fields
    refine ⟨fun σ' H' => ∃ tp, σ' = [some (.ref m), some (.ref (p 0)), some (.ref (p 1)), some (.ref (p 2)), none] ∧ H' m = some (.ins CG dm [("_projects", .ref tp)]) ∧ H' tp = some (.tup [.ref (p 0), .ref (p 1), .ref (p 2)]) ∧ tp ≠ m ∧ ∀ b o, H0 b = some o → H' b = some o, ?_, ?_⟩
    · refine ⟨.ref (p 0), rfl, .ref (p 1), rfl, .ref (p 2), rfl, (by show 3 ≤ sizeLine; decide), fun tp ht => ⟨.ref m, rfl, m, CG, dm, _, rfl, KS.sameUpd ht _ _ hm, G.cl, G.n1, by decide, tp, rfl, upd_same, ?_, ?_, fun b o hb => ?_⟩⟩
      · rw [upd_ne fun z => by rw [z, hm] at ht; cases ht]
        exact upd_same
      · exact fun z => by rw [z, hm] at ht; cases ht
      · rw [upd_ne (ne_of_none hb nm0), upd_ne (ne_of_none (old _ _ hb) ht)]
        exact old _ _ hb
    rintro _ H1 ⟨tp, rfl, h1, ht1, ntm, old1⟩
    refine ⟨fun σ' H' => ∃ D, σ' = [some (.ref m), some (.ref (p 0)), some (.ref (p 1)), some (.ref (p 2)), none] ∧ H' m = some (.ins CG dm [("_projects", .ref tp), ("_targets", .ref D)]) ∧ H' tp = some (.tup [.ref (p 0), .ref (p 1), .ref (p 2)]) ∧ H' D = some (.dK []) ∧ H0 D = none ∧ D ≠ m ∧ ∀ b o, H0 b = some o → H' b = some o, ?_, ?_⟩
    · refine fun D hD => ⟨.ref m, rfl, m, CG, dm, _, rfl, KS.sameUpd hD _ _ h1, G.cl, G.n2, (by show 1 < 1000; decide), D, rfl, upd_same, ?_, ?_, ?_, ?_, fun b o hb => ?_⟩
      · rw [upd_ne ntm]
        exact KS.sameUpd hD _ _ ht1
      · rw [upd_ne fun z => by rw [z, h1] at hD; cases hD]
        exact upd_same
      · cases e : H0 D with
        | none => rfl
        | some o => rw [old1 _ _ e] at hD; cases hD
      · exact fun z => by rw [z, h1] at hD; cases hD
      · rw [upd_ne (ne_of_none hb nm0), upd_ne (ne_of_none (old1 _ _ hb) hD)]
        exact old1 _ _ hb
    rintro _ H2 ⟨D, rfl, h2, ht2, eD, nD, nDm, old2⟩
    refine ⟨fun σ' H' => ∃ L, σ' = [some (.ref m), some (.ref (p 0)), some (.ref (p 1)), some (.ref (p 2)), none] ∧ MgAt CG H' m tp D L ∧ H' tp = some (.tup [.ref (p 0), .ref (p 1), .ref (p 2)]) ∧ H' D = some (.dK []) ∧ H' L = some (.lst []) ∧ H0 L = none ∧ ∀ b o, H0 b = some o → H' b = some o, ?_, ?_⟩
    · refine ⟨Nat.zero_le _, fun L hL => ⟨.ref m, rfl, m, CG, dm, _, rfl, KS.sameUpd hL _ _ h2, G.cl, G.n3, (by show 2 < 1000; decide), L, rfl, ⟨dm, upd_same⟩, ?_, ?_, ?_, ?_, fun b o hb => ?_⟩⟩
      · rw [upd_ne ntm]
        exact KS.sameUpd hL _ _ ht2
      · rw [upd_ne nDm]
        exact KS.sameUpd hL _ _ eD
      · rw [upd_ne fun z => by rw [z, h2] at hL; cases hL]
        exact upd_same
      · cases e : H0 L with
        | none => rfl
        | some o => rw [old2 _ _ e] at hL; cases hL
      · rw [upd_ne (ne_of_none hb nm0), upd_ne (ne_of_none (old2 _ _ hb) hL)]
        exact old2 _ _ hb
    rintro _ H3 ⟨L, rfl, h3, ht3, eD3, eL3, nL, old3⟩
    have few : ∀ i, ((T3 i).map (·.1)).length ≤ 6 := fun i => Nat.le_trans (ndLen _ U (X.nd i) (X.sub i)) X.lu
    have nam : ∀ i (H : Hp), (∀ b o, H0 b = some o → H b = some o) → ∃ kvs, PrAt CP H (p i) kvs ∧ kvs.map (·.1) = (((T3 i).map (·.1)).map Sum.inr : List Key) ∧ ((T3 i).map (·.1)).length < 64 := fun i H o => by
      obtain ⟨kvs, ⟨dp, Dp, a, b⟩, tb⟩ := X.at_ i
      exact ⟨kvs, ⟨dp, Dp, o _ _ a, o _ _ b⟩, tb.keys, Nat.lt_of_le_of_lt (few i) (by decide)⟩
    have l0 := few 0
    have l1 := few 1
    have l2 := few 2
    obtain ⟨dm3, h3'⟩ := id h3
    have nmL : m ≠ L := fun z => by rw [z, eL3] at h3'; cases h3'
    have ins0 : ∀ i (H : Hp), (∀ b o, H0 b = some o → H b = some o) → ∃ dp fs, H (p i) = some (.ins CP dp fs) := fun i H o => by
      obtain ⟨kvs, ⟨dp, Dp, a, b⟩, tb⟩ := X.at_ i
      exact ⟨dp, _, o _ _ a⟩
    obtain ⟨kv0, pr0, ke0, le0⟩ := nam 0 H3 old3
    obtain ⟨dp0, fs0, i0⟩ := ins0 0 H3 old3
    refine ⟨.ref (p 0), rfl, p 0, dp0, fs0, rfl, i0, p 0, kv0, _, rfl, pr0, ke0, le0, fun n0 t0 H4 pm0 so0 s4 et0 => ?_⟩
    refine ⟨t0, n0, rfl, .inl (.inl et0), by rw [pm0.length_eq]; omega, fun a0 q0 nda0 ma0 la0 hq0 => ?_⟩
    have s5 := s4.trans (KS.sameUpd (o := SX.SetX P w q0 a0) hq0)
    have e5 : upd H4 q0 (SX.SetX P w q0 a0) q0 = some (SX.SetX P w q0 a0) := upd_same
    generalize upd H4 q0 (SX.SetX P w q0 a0) = H5 at *
    have old5 : ∀ b o, H0 b = some o → H5 b = some o := fun b o h => s5 _ _ (old3 _ _ h)
    obtain ⟨kv1, pr1, ke1, le1⟩ := nam 1 H5 old5
    obtain ⟨dp1, fs1, i1⟩ := ins0 1 H5 old5
    refine ⟨.ref (p 1), rfl, p 1, dp1, fs1, rfl, i1, p 1, kv1, _, rfl, pr1, ke1, le1, fun n1 t1 H6 pm1 so1 s6 et1 => ?_⟩
    refine ⟨t1, n1, rfl, .inl (.inl et1), by rw [pm1.length_eq]; omega, fun a1 q1 nda1 ma1 la1 hq1 => ?_⟩
    have s7 := s6.trans (KS.sameUpd (o := SX.SetX P w q1 a1) hq1)
    have e7 : upd H6 q1 (SX.SetX P w q1 a1) q1 = some (SX.SetX P w q1 a1) := upd_same
    generalize upd H6 q1 (SX.SetX P w q1 a1) = H7 at *
    rw [pm0.length_eq] at la0
    rw [pm1.length_eq] at la1
    refine ⟨q0, q1, a0, a1, rfl, rfl, s7 _ _ e5, e7, by omega, fun a2 q2 nda2 ma2 la2 hq2 => ?_⟩
    have s8 := s7.trans (KS.sameUpd (o := SX.SetX P w q2 a2) hq2)
    have e8 : upd H7 q2 (SX.SetX P w q2 a2) q2 = some (SX.SetX P w q2 a2) := upd_same
    generalize upd H7 q2 (SX.SetX P w q2 a2) = H8 at *
    have s38 := s5.trans s8
    have old8 : ∀ b o, H0 b = some o → H8 b = some o := fun b o h => s38 _ _ (old3 _ _ h)
    obtain ⟨kv2, pr2, ke2, le2⟩ := nam 2 H8 old8
    obtain ⟨dp2, fs2, i2⟩ := ins0 2 H8 old8
    refine ⟨.ref (p 2), rfl, p 2, dp2, fs2, rfl, i2, p 2, kv2, _, rfl, pr2, ke2, le2, fun n2 t2 H9 pm2 so2 s9 et2 => ?_⟩
    refine ⟨t2, n2, rfl, .inl (.inl et2), by rw [pm2.length_eq]; omega, fun a3 q3 nda3 ma3 la3 hq3 => ?_⟩
    have s10 := s9.trans (KS.sameUpd (o := SX.SetX P w q3 a3) hq3)
    have e10 : upd H9 q3 (SX.SetX P w q3 a3) q3 = some (SX.SetX P w q3 a3) := upd_same
    generalize upd H9 q3 (SX.SetX P w q3 a3) = H10 at *
    have inU2 : ∀ z ∈ a2, z ∈ U := fun z hz => by
      rcases (ma2 z).mp hz with h | h
      · exact X.sub 0 z (pm0.mem_iff.mp ((ma0 z).mp h))
      · exact X.sub 1 z (pm1.mem_iff.mp ((ma1 z).mp h))
    have lU := X.lu
    have la2' : a2.length ≤ 6 := Nat.le_trans (ndLen a2 U nda2 inU2) lU
    rw [pm2.length_eq] at la3
    refine ⟨q2, q3, a2, a3, rfl, rfl, s10 _ _ e8, e10, by omega, fun a4 q4 nda4 ma4 la4 hq4 => ?_⟩
    have e11 : upd H10 q4 (SX.SetX P w q4 a4) q4 = some (SX.SetX P w q4 a4) := upd_same
    have s11 := (s38.trans s10).trans (KS.sameUpd (o := SX.SetX P w q4 a4) hq4)
    generalize upd H10 q4 (SX.SetX P w q4 a4) = H11 at *
    refine ⟨q4, a4, rfl, e11, by omega, fun ys pl pm srt hpl => ?_⟩
    have mem : ∀ z, z ∈ ys ↔ ∃ i, z ∈ (T3 i).map (·.1) := fun z => by
      rw [pm.mem_iff, ma4 z, ma2 z, ma0 z, ma1 z, ma3 z, pm0.mem_iff, pm1.mem_iff, pm2.mem_iff]
      constructor
      · rintro ((h | h) | h)
        · exact ⟨0, h⟩
        · exact ⟨1, h⟩
        · exact ⟨2, h⟩
      · rintro ⟨i, h⟩
        match i, h with
        | 0, h => exact .inl (.inl h)
        | 1, h => exact .inl (.inr h)
        | 2, h => exact .inr h
    have ndy : ys.Nodup := pm.nodup_iff.mpr nda4
    have inU : ∀ z ∈ ys, z ∈ U := fun z hz => by
      obtain ⟨i, h⟩ := (mem z).mp hz
      exact X.sub i z h
    have ly : ys.length ≤ 6 := Nat.le_trans (ndLen ys U ndy inU) lU
    have s12 := s11.trans (KS.sameUpd (o := .lst (ys.map V.str)) hpl)
    have epl : upd H11 pl (.lst (ys.map V.str)) pl = some (.lst (ys.map V.str)) := upd_same
    have npL : pl ≠ L := fun z => by rw [z, s11 _ _ eL3] at hpl; cases hpl
    have npD : pl ≠ D := fun z => by rw [z, s11 _ _ eD3] at hpl; cases hpl
    generalize upd H11 pl (.lst (ys.map V.str)) = H12 at *
    refine ⟨pl, rfl, ⟨_, .inl (.inl epl)⟩, ?_⟩
    refine forJ (n := ys.length) (fun i σ' H' => ∃ x4 cs T kvs, σ' = [some (.ref m), some (.ref (p 0)), some (.ref (p 1)), some (.ref (p 2)), x4] ∧ MgAt CG H' m tp D L ∧ H' tp = some (.tup [.ref (p 0), .ref (p 1), .ref (p 2)]) ∧ H' D = some (.dK kvs) ∧ Tab (TgD CS CM D H') kvs T ∧ H' L = some (.lst (cs.map V.str)) ∧ MFold T3 (ys.take i) cs T ∧ cs.length ≤ 4 * i ∧ T.length ≤ i ∧ H' pl = some (.lst (ys.map V.str)) ∧ ∀ b o, H0 b = some o → H' b = some o)
      ⟨none, [], [], [], rfl, ⟨dm3, s12 _ _ h3'⟩, s12 _ _ ht3, s12 _ _ eD3, .nil, s12 _ _ eL3, .nil, Nat.le_refl _, Nat.le_refl _, epl, fun b o h => s12 _ _ (old3 _ _ h)⟩
      (fun i σ' H' lt h => by obtain ⟨_, _, _, _, _, _, _, _, _, _, _, _, _, e, _⟩ := h; exact ⟨_, V.str ys[i], .inl (.inl e), by rw [List.getElem?_map, List.getElem?_eq_getElem lt]; rfl⟩)
      (fun σ' H' h => by obtain ⟨_, _, _, _, _, _, _, _, _, _, _, _, _, e, _⟩ := h; exact ⟨_, .inl (.inl e), by rw [List.length_map]; exact Nat.le_refl _⟩) (fun i σ' H13 x H14 lt h y => ?_) (fun σ' H' h => ?_)
    · obtain ⟨rfl, y⟩ := y
      obtain ⟨x4, cs, T, kvs, rfl, mg', tt, dd, tb, ll, mf, lcs, lT, fp, oldx⟩ := h
      have ex := y _ (.inl (.inl fp))
      rw [List.getElem?_map, List.getElem?_eq_getElem lt] at ex
      obtain rfl : V.str ys[i] = x := Option.some.inj ex
      have et : ys.take (i + 1) = ys.take i ++ [ys[i]] := List.take_succ_eq_append_getElem lt
      have hy : ys[i] ∈ ys := List.getElem_mem lt
      generalize ys[i] = z at *
      obtain ⟨dm5, em5⟩ := id mg'
      refine ⟨.ref m, rfl, m, dm5, _, rfl, em5, rfl, .str z, rfl, ?_⟩
      refine ⟨m, z, tp, D, L, p, T3, H0, kvs, T, cs, rfl, mg', ⟨tt, nD, nL, oldx, X.at_, X.tk⟩, dd, tb, ll, X.ln z (inU z hy), by omega, by omega, fun cs' r kvs' H' ms d' t' l' k2 => ?_⟩
      have mm : m ≠ D := fun z => by rw [z, dd] at em5; cases em5
      refine ⟨_, cs ++ cs', tPutO T z r, kvs', rfl, ⟨dm5, k2 _ _ nmL mm em5⟩, k2 _ _ (fun z => by rw [z, ll] at tt; cases tt) (fun z => by rw [z, dd] at tt; cases tt) tt, d', t', l', ?_, ?_, ?_, k2 _ _ npL npD fp, fun b o h => ?_⟩
      · rw [et]
        exact .snoc mf ms
      · have := MS_len X.tk ms
        rw [List.length_append]
        omega
      · have := tPutO_len T z r
        omega
      · exact k2 _ _ (fun z => by rw [z, nL] at h; cases h) (fun z => by rw [z, nD] at h; cases h) (oldx _ _ h)
    · obtain ⟨x4, cs, T, kvs, rfl, mg', tt, dd, tb, ll, mf, lcs, lT, fp, oldx⟩ := h
      rw [List.take_length] at mf
      exact q H' tp D L ys cs T kvs mg' dd tb ll ndy mem mf (by omega) (by omega) oldx
def spGRes (CS CM CP CG : Addr) : Sp := fun vs H Q _ => ∃ m tp D L kvs T, vs = [.ref m] ∧ MgAt CG H m tp D L ∧ H D = some (.dK kvs) ∧ Tab (TgD CS CM D H) kvs T ∧ ∀ x H', H x = none → Same H H' → PjAt CS CM CP H' x T → Q (.ref x) H'
theorem scGRes : FnScope ["self"] ["self"] (defScope sGRes) := ⟨rfl, rfl, rfl, by decide +kernel, rfl, by decide +kernel, by decide +kernel⟩
theorem okGRes {k : Nat} (W : Pjc P w K mg base CS CM CP NT NS) (G : Mgc P w K mg base CS CM CG) (F : FnM K "result" "Merger.result" sGRes f fd) : FnOk P w K mg base CX0 (k + 3) f fd ["self"] (spGRes CS CM CP CG) := by
  obtain ⟨fI, dI, M, bI, GI⟩ := W.mkP
  refine F.ok scGRes (fun vs H Q E h => ?_) (fun cdv A outer s H vs Q E hr h => ?_)
  · obtain ⟨m, tp, D, L, kvs, T, rfl, _⟩ := h
    rfl
  · obtain ⟨m, tp, D, L, kvs, T, rfl, ⟨dm, em⟩, hD, hT, q⟩ := h
    have hr2 : Room (1 + 1) _ := hr.mono (by omega)
    refine ⟨_, PSs.nox (pss_one (ps_ret (pe_make M GI hr2 (by rfl) W.gP bI .nil pass0 (pa_cons (pe_fld (pv 0) rfl) pa_nil)))), ?_⟩
    refine ⟨.ref m, rfl, m, CG, dm, _, .ref D, rfl, em, G.cl, G.n2, rfl, fun x dx hx hdx nex => ?_⟩
    exact pjMade hx hdx nex hD (hT.imp fun _ _ _ _ _ h => h.at) fun H' s2 h => q x H' hx s2 h
def spGFail (CG : Addr) : Sp := fun vs H Q _ => ∃ m tp D L cs, vs = [.ref m] ∧ MgAt CG H m tp D L ∧ H L = some (.lst (cs.map V.str)) ∧ cs.length < 64 ∧ ∀ ys t H', ys.Perm cs → sortedS ys = true → Same H H' → H' t = some (.tup (ys.map V.str)) → Q (.ref t) H'
theorem scGFail : FnScope ["self"] ["self"] (defScope sGFail) := ⟨rfl, rfl, rfl, by decide +kernel, rfl, by decide +kernel, by decide +kernel⟩
theorem okGFail {k : Nat} (W : Pjc P w K mg base CS CM CP NT NS) (G : Mgc P w K mg base CS CM CG) (F : FnM K "failed" "Merger.failed" sGFail f fd) : FnOk P w K mg base CX0 (k + 1) f fd ["self"] (spGFail CG) := by
  refine F.ok scGFail (fun vs H Q E h => ?_) (fun cdv A outer s H vs Q E hr h => ?_)
  · obtain ⟨m, tp, D, L, cs, rfl, _⟩ := h
    rfl
  · obtain ⟨m, tp, D, L, cs, rfl, ⟨dm, em⟩, hL, l64, q⟩ := h
    refine ⟨_, PSs.nox (pss_one (ps_ret (pe_callTy (T := "tuple") call_tuple_of (by rfl) W.mt (by decide +kernel) (pa_cons (pe_callB cr_sortedS (by rfl) W.ms (by decide +kernel) (pa_cons (pe_fld (pv 0) rfl) pa_nil)) pa_nil)))), ?_⟩
    refine ⟨.ref m, rfl, m, CG, dm, _, .ref L, rfl, em, G.cl, G.n3, rfl, L, cs, rfl, .inl (.inl hL), l64, fun ys p hp hs np => ?_⟩
    refine ⟨p, _, rfl, .inl ⟨.inl (.inl upd_same), fun u hu => ?_⟩⟩
    exact q ys u _ hp hs ((KS.sameUpd np).trans (KS.sameUpd hu)) upd_same
end
end PJ

set_option Elab.async false
set_option linter.all false
set_option maxRecDepth 100000
set_option maxHeartbeats 8000000
/-! histories -/
namespace PJ
open PySem PySem.Spec PyProof.Rows L2 KS KS.La
open KX hiding sameUpd
abbrev sInt : Stmt := top 17
abbrev sHInit : Stmt := inClass (top 19) 0
abbrev sHCommit : Stmt := inClass (top 19) 1
abbrev sHGet : Stmt := inClass (top 19) 2
abbrev sHHas : Stmt := inClass (top 19) 4
abbrev sHLen : Stmt := inClass (top 19) 5
abbrev sHBase : Stmt := inClass (top 19) 7
abbrev sHMerge : Stmt := inClass (top 19) 8
abbrev sHCheck : Stmt := inClass (top 19) 10
abbrev sHAdd : Stmt := inClass (top 19) 11
/-- a history: its lists, the projects, the lines -/
def ParA (H : Hp) (v : V) (ks : List Nat) : Prop := ∃ t, v = .ref t ∧ H t = some (.tup (ks.map fun k : Nat => V.int k))
structure HsAt (CH : Addr) (H : Hp) (h A B C : Addr) (ps : List Addr) (ls : List Int) (qs : List (List Nat)) : Prop where
  ob : ∃ dh, H h = some (.ins CH dh [("_projects", .ref A), ("_parents", .ref B), ("_lines", .ref C)])
  pa : H A = some (.lst (ps.map V.ref))
  pb : ∃ vs : List V, H B = some (.lst vs) ∧ Paired (ParA H) vs qs
  pc : H C = some (.lst (ls.map V.int))
  ll : ls.length = ps.length
  ql : qs.length = ps.length
  ab : A ≠ B
  ac : A ≠ C
  bc : B ≠ C
theorem ParA.stl {H H' : Hp} {v : V} {ks : List Nat} (h : ParA H v ks) (s : Stl H H') : ParA H' v ks := let ⟨t, e, h⟩ := h; ⟨t, e, s _ _ h fun _ z => nomatch z⟩
theorem HsAt.same {CH : Addr} {H H' : Hp} {h A B C : Addr} {ps : List Addr} {ls : List Int} {qs : List (List Nat)} (x : HsAt CH H h A B C ps ls qs) (s : Same H H') : HsAt CH H' h A B C ps ls qs :=
  ⟨let ⟨d, e⟩ := x.ob; ⟨d, s _ _ e⟩, s _ _ x.pa, let ⟨q, e, l⟩ := x.pb; ⟨q, s _ _ e, L2.Paired.mapP l fun _ _ h => h.stl (Stl.same s)⟩, s _ _ x.pc, x.ll, x.ql, x.ab, x.ac, x.bc⟩
/-- all but these three lists stands -/
def K3 (A B C : Addr) (H H' : Hp) : Prop := ∀ b o, b ≠ A → b ≠ B → b ≠ C → H b = some o → H' b = some o
theorem K3.same {A B C : Addr} {H H' : Hp} (s : Same H H') : K3 A B C H H' := fun b o _ _ _ h => s b o h
theorem K3.trans {A B C : Addr} {H H1 H2 : Hp} (a : K3 A B C H H1) (b : K3 A B C H1 H2) : K3 A B C H H2 := fun c o n m l h => b c o n m l (a c o n m l h)
structure Hsc (P : Program) (w : World) (K : PySem.W.Frag) (mg : Str → Option Value) (base : Heap) (CH NV : Addr) : Prop where
  iH : IsC K CH
  n1 : NoAttr K CH "_projects"
  n2 : NoAttr K CH "_parents"
  n3 : NoAttr K CH "_lines"
  xV : Cl1 P w K mg base "NoVersion" NV "number"
  isi : mg "isinstance" = none
  int : mg "int" = none
  bool : mg "bool" = none
  len : mg "len" = none
/-- the line of a new version -/
def lineOf (n : Nat) (ls : List Int) (ks : List Nat) : Int := ks.foldl (fun a k => Builtin.bitOr a (ls.getD k 0)) (1 * 2 ^ n)
section
variable {P : Program} {w : World} {K : PySem.W.Frag} {mg : Str → Option Value} {base : Heap} {f : Addr} {fd : FuncData} {CS CM CP CG CH NT NS NV : Addr}
def spIsInt : Sp := fun vs H Q _ => ∃ i : Int, vs = [.int i] ∧ Q (.bl true) H
theorem scInt : FnScope ["value"] ["value"] (defScope sInt) := ⟨rfl, rfl, rfl, by decide +kernel, rfl, by decide +kernel, by decide +kernel⟩
theorem okIsInt {k : Nat} (G : Hsc P w K mg base CH NV) (F : FnP K "is_integer" sInt f fd) : FnOk P w K mg base CX0 (k + 1) f fd ["value"] spIsInt := by
  refine F.ok scInt (fun vs H Q E h => ?_) (fun cdv A outer s H vs Q E hr h => ?_)
  · obtain ⟨i, rfl, _⟩ := h
    rfl
  · obtain ⟨i, rfl, q⟩ := h
    refine ⟨_, PSs.nox (pss_one (ps_ret (pe_and (pe_callB call_isi (by rfl) G.isi (by decide +kernel) (pa_cons (pv 0) (pa_cons (pe_bltn (v := .ty "int") (by rfl) G.int (by decide +kernel) rfl) pa_nil)))
      (pe_one (pe_not (pe_callB call_isi (by rfl) G.isi (by decide +kernel) (pa_cons (pv 0) (pa_cons (pe_bltn (v := .ty "bool") (by rfl) G.bool (by decide +kernel) rfl) pa_nil)))))))), ?_⟩
    exact ⟨.int i, rfl, .int i, .ty "int", .type "int", .type "int", true, rfl, .ty _, .base (.int i), kit_ty (by decide +kernel), true, rfl, iteT ⟨.int i, rfl, .int i, .ty "bool", .type "int", .type "bool", false, rfl, .ty _, .base (.int i), kit_ty (by decide +kernel), false, rfl, q⟩⟩
def spHHas (CH : Addr) : Sp := fun vs H Q _ => ∃ h A B C ps ls qs i, vs = [.ref h, .int i] ∧ HsAt CH H h A B C ps ls qs ∧ 0 ≤ i ∧ i < (ps.length : Int) ∧ Q (.bl true) H
theorem scHHas : FnScope ["self", "x"] ["self", "x"] (defScope sHHas) := ⟨rfl, rfl, rfl, by decide +kernel, rfl, by decide +kernel, by decide +kernel⟩
theorem okHHas {k : Nat} (G : Hsc P w K mg base CH NV) (Is : Has P w K mg base 1 "is_integer" ["value"] spIsInt) (F : FnM K "__contains__" "History.__contains__" sHHas f fd) : FnOk P w K mg base CX0 (k + 2) f fd ["self", "x"] (spHHas CH) := by
  obtain ⟨fI, fdI, gI, kI, bI, GI⟩ := Is.ex
  refine F.ok scHHas (fun vs H Q E h => ?_) (fun cdv A outer s H vs Q E hr h => ?_)
  · obtain ⟨h, A, B, C, ps, ls, qs, i, rfl, _⟩ := h
    rfl
  · obtain ⟨h, A1, B, C, ps, ls, qs, i, rfl, x, i0, i1, q⟩ := h
    have hr1 : Room 1 _ := hr.mono (by omega)
    obtain ⟨dh, eh⟩ := x.ob
    refine ⟨_, PSs.nox (pss_one (ps_ret (pe_and (pe_call GI hr1 (by rfl) gI kI bI .nil pass0 (pa_cons (pv 1) pa_nil)) (pe_one (pe_chain op_le op_lt pe_int (pv 1) (pe_callB call_len_seq (by rfl) G.len PySem.boot_len (pa_cons (pe_fld (pv 0) rfl) pa_nil))))))), ?_⟩
    refine ⟨.int i, rfl, i, rfl, true, rfl, iteT ⟨.int i, rfl, 0, i, rfl, rfl, decide (0 ≤ i), rfl, ?_⟩⟩
    rw [decide_eq_true i0]
    refine iteT ⟨.ref h, rfl, h, CH, dh, _, .ref A1, rfl, eh, G.iH.cl, G.n1, rfl, A1, _, rfl, .inl (.inl (.inl x.pa)), i, _, rfl, rfl, ?_⟩
    have : decide (i < ((ps.map V.ref).length : Int)) = true := decide_eq_true (by rw [List.length_map]; exact i1)
    show Q (.bl (decide (i < ((ps.map V.ref).length : Int)))) H
    rw [this]
    exact q
def spHLen (CH : Addr) : Sp := fun vs H Q _ => ∃ h A B C ps ls qs, vs = [.ref h] ∧ HsAt CH H h A B C ps ls qs ∧ Q (.int ps.length) H
theorem scHLen : FnScope ["self"] ["self"] (defScope sHLen) := ⟨rfl, rfl, rfl, by decide +kernel, rfl, by decide +kernel, by decide +kernel⟩
theorem okHLen {k : Nat} (G : Hsc P w K mg base CH NV) (F : FnM K "__len__" "History.__len__" sHLen f fd) : FnOk P w K mg base CX0 (k + 1) f fd ["self"] (spHLen CH) := by
  refine F.ok scHLen (fun vs H Q E h => ?_) (fun cdv A outer s H vs Q E hr h => ?_)
  · obtain ⟨h, A, B, C, ps, ls, qs, rfl, _⟩ := h
    rfl
  · obtain ⟨h, A1, B, C, ps, ls, qs, rfl, x, q⟩ := h
    obtain ⟨dh, eh⟩ := x.ob
    refine ⟨_, PSs.nox (pss_one (ps_ret (pe_callB call_len_seq (by rfl) G.len PySem.boot_len (pa_cons (pe_fld (pv 0) rfl) pa_nil)))), ?_⟩
    refine ⟨.ref h, rfl, h, CH, dh, _, .ref A1, rfl, eh, G.iH.cl, G.n1, rfl, A1, _, rfl, .inl (.inl (.inl x.pa)), ?_⟩
    rw [List.length_map]
    exact q
def spHInit (CH : Addr) : Sp := fun vs H Q _ => ∃ h dh p, vs = [.ref h, .ref p] ∧ H h = some (.ins CH dh []) ∧ ∀ H' A B C, HsAt CH H' h A B C [p] [1] [[]] → H A = none → H B = none → H C = none → Kp h H H' → Q .non H'
theorem scHInit : FnScope ["self", "project"] ["self", "project"] (defScope sHInit) := ⟨rfl, rfl, rfl, by decide +kernel, rfl, by decide +kernel, by decide +kernel⟩
theorem okHInit {k : Nat} (G : Hsc P w K mg base CH NV) (F : FnM K "__init__" "History.__init__" sHInit f fd) : FnOk P w K mg base CX0 (k + 1) f fd ["self", "project"] (spHInit CH) := by
  refine F.ok scHInit (fun vs H Q E h => ?_) (fun cdv A outer s H vs Q E hr h => ?_)
  · obtain ⟨h, dh, p, rfl, _⟩ := h
    rfl
  · obtain ⟨h, dh, p, rfl, eh, q⟩ := h
    have k0 : ∀ {H' : Hp} {c : Addr} {fs : List (Str × V)}, Kp h H H' → H' h = some (.ins CH dh fs) → H' c = none → H c = none := fun {H' c fs} k e n => by
      cases e1 : H c with
      | none => rfl
      | some o => rw [k c o (fun z => by rw [z, e] at n; cases n) e1] at n; cases n
    refine ⟨_, PSs.nox (C8.pss_cut (ps_fld (pv 0) (pe_lst (pa_cons (pv 1) pa_nil)) rfl) (C8.pss_cut (ps_fld (pv 0) (pe_lst (pa_cons (pe_tup pa_nil) pa_nil)) rfl) (pss_one (ps_fld (pv 0) (pe_lst (pa_cons (pe_int) pa_nil)) rfl)))), ?_⟩
    refine ⟨fun σ' H' => ∃ A1, σ' = [some (.ref h), some (.ref p)] ∧ H' h = some (.ins CH dh [("_projects", .ref A1)]) ∧ H' A1 = some (.lst [.ref p]) ∧ A1 ≠ h ∧ H A1 = none ∧ Kp h H H', ?_, ?_⟩
    · refine ⟨.ref p, rfl, (by show 1 ≤ sizeLine; decide), fun A1 hA => ⟨.ref h, rfl, h, CH, dh, _, rfl, KS.sameUpd hA _ _ eh, G.iH.cl, G.n1, (by show 0 < 1000; decide), A1, rfl, upd_same, ?_, ?_, hA, (Kp.same (KS.sameUpd hA)).trans Kp.put⟩⟩
      · rw [upd_ne fun z => by rw [z, eh] at hA; cases hA]
        exact upd_same
      · exact fun z => by rw [z, eh] at hA; cases hA
    rintro _ H1 ⟨A1, rfl, eh1, eA, nAh, fA, k1⟩
    refine ⟨fun σ' H' => ∃ B T, σ' = [some (.ref h), some (.ref p)] ∧ H' h = some (.ins CH dh [("_projects", .ref A1), ("_parents", .ref B)]) ∧ H' A1 = some (.lst [.ref p]) ∧ H' B = some (.lst [.ref T]) ∧ H' T = some (.tup []) ∧ A1 ≠ B ∧ B ≠ h ∧ H B = none ∧ Kp h H H', ?_, ?_⟩
    · refine ⟨Nat.zero_le _, fun T hT => ⟨(by show 1 ≤ sizeLine; decide), fun B hB => ?_⟩⟩
      have sT := KS.sameUpd (o := .tup []) hT
      have sB := sT.trans (KS.sameUpd (o := .lst [.ref T]) hB)
      refine ⟨.ref h, rfl, h, CH, dh, _, rfl, sB _ _ eh1, G.iH.cl, G.n2, (by show 1 < 1000; decide), B, T, rfl, upd_same, ?_, ?_, ?_, ?_, ?_, k0 (k1.trans (Kp.same sT)) (sT _ _ eh1) hB, (k1.trans (Kp.same sB)).trans Kp.put⟩
      · rw [upd_ne nAh]
        exact sB _ _ eA
      · rw [upd_ne fun z => by rw [z, sT _ _ eh1] at hB; cases hB]
        exact upd_same
      · rw [upd_ne fun z => by rw [z, eh1] at hT; cases hT]
        exact KS.sameUpd hB _ _ upd_same
      · exact fun z => by rw [← z, sT _ _ eA] at hB; cases hB
      · exact fun z => by rw [z, sT _ _ eh1] at hB; cases hB
    rintro _ H2 ⟨B, T, rfl, eh2, eA2, eB, eT, nAB, nBh, fB, k2⟩
    refine ⟨(by show 1 ≤ sizeLine; decide), fun C hC => ?_⟩
    have sC := KS.sameUpd (o := .lst [.int 1]) hC
    refine ⟨.ref h, rfl, h, CH, dh, _, rfl, sC _ _ eh2, G.iH.cl, G.n3, (by show 2 < 1000; decide), ?_⟩
    have nCh : C ≠ h := fun z => by rw [z, eh2] at hC; cases hC
    refine q _ A1 B C ⟨⟨dh, upd_same⟩, ?_, ⟨[.ref T], ?_, .cons ⟨T, rfl, ?_⟩ .nil⟩, ?_, rfl, rfl, nAB, ?_, ?_⟩ fA fB (k0 k2 eh2 hC) ((k2.trans (Kp.same sC)).trans Kp.put)
    · rw [upd_ne nAh]
      exact sC _ _ eA2
    · rw [upd_ne nBh]
      exact sC _ _ eB
    · rw [upd_ne fun z => by rw [z, eh2] at eT; cases eT]
      exact sC _ _ eT
    · rw [upd_ne nCh]
      exact upd_same
    · exact fun z => by rw [← z, eA2] at hC; cases hC
    · exact fun z => by rw [← z, eB] at hC; cases hC
def spHAdd (CH : Addr) : Sp := fun vs H Q _ => ∃ h A B C ps ls qs p t ks, vs = [.ref h, .ref p, .ref t] ∧ HsAt CH H h A B C ps ls qs ∧ H t = some (.tup (ks.map fun k : Nat => V.int k)) ∧ (∀ k ∈ ks, k < ps.length) ∧ ps.length ≤ 20 ∧ ks.length ≤ 20 ∧
  ∀ H', HsAt CH H' h A B C (ps ++ [p]) (ls ++ [lineOf ps.length ls ks]) (qs ++ [ks]) → K3 A B C H H' → Q (.int ps.length) H'
abbrev nHAdd : List Str := ["self", "project", "parents", "number", "line", "parent"]
theorem scHAdd : FnScope nHAdd ["self", "project", "parents"] (defScope sHAdd) := ⟨rfl, rfl, rfl, by decide +kernel, rfl, by decide +kernel, by decide +kernel⟩
theorem okHAdd {k : Nat} (G : Hsc P w K mg base CH NV) (F : FnM K "_add" "History._add" sHAdd f fd) : FnOk P w K mg base CX0 (k + 1) f fd ["self", "project", "parents"] (spHAdd CH) := by
  refine F.ok scHAdd (fun vs H Q E h => ?_) (fun cdv A outer s H vs Q E hr h => ?_)
  · obtain ⟨h, A, B, C, ps, ls, qs, p, t, ks, rfl, _⟩ := h
    rfl
  · obtain ⟨h, A1, B, C, ps, ls, qs, p, t, ks, rfl, x, et, hk, lp, lk, q⟩ := h
    obtain ⟨dh, eh⟩ := x.ob
    have ll := x.ll
    refine ⟨_, PSs.nox (C8.pss_cut (ps_set (i := 3) scHAdd.nd rfl (.inl rfl) (pe_callB call_len_seq (by rfl) G.len PySem.boot_len (pa_cons (pe_fld (pv 0) rfl) pa_nil))) (C8.pss_cut (ps_set (i := 4) scHAdd.nd rfl (.inl rfl) (pe_op op_shl pe_int (pv 3))) (C8.pss_cut (ps_for PassesOwn.never rfl (pi_tup (pv 2)) (pg_name (i := 5) scHAdd.nd rfl (.inl rfl)) (pss_one (ps_set (i := 4) scHAdd.nd rfl (.inl rfl) (pe_op op_or (pv 4) (pe_ix ix_list (pe_fld (pv 0) rfl) (pv 5) (fun _ _ => rfl)))))) (pss_cons (ps_expr (pe_bm PySem.F.plainAttrs_list PySem.F.slot_list_append PySem.F.type_list_append mt_append (pe_fld (pv 0) rfl) (pa_cons (pv 1) pa_nil))) (pss_cons (ps_expr (pe_bm PySem.F.plainAttrs_list PySem.F.slot_list_append PySem.F.type_list_append mt_append (pe_fld (pv 0) rfl) (pa_cons (pv 2) pa_nil))) (pss_cons (ps_expr (pe_bm PySem.F.plainAttrs_list PySem.F.slot_list_append PySem.F.type_list_append mt_append (pe_fld (pv 0) rfl) (pa_cons (pv 4) pa_nil))) (pss_one (ps_ret (pv 3))))))))), ?_⟩
    refine ⟨fun σ' H' => σ' = [some (.ref h), some (.ref p), some (.ref t), some (.int ps.length), none, none] ∧ H' = H, ?_, ?_⟩
    · refine ⟨.ref h, rfl, h, CH, dh, _, .ref A1, rfl, eh, G.iH.cl, G.n1, rfl, A1, _, rfl, .inl (.inl (.inl x.pa)), ?_⟩
      rw [List.length_map]
      exact ⟨rfl, rfl⟩
    rintro _ H1 ⟨rfl, rfl⟩
    refine ⟨fun σ' H' => σ' = [some (.ref h), some (.ref p), some (.ref t), some (.int ps.length), some (.int (lineOf ps.length ls [])), none] ∧ H' = H1, ?_, ?_⟩
    · exact ⟨.int ps.length, rfl, 1, ps.length, rfl, rfl, ⟨by omega, by omega, by decide⟩, rfl, rfl⟩
    rintro _ H2 ⟨rfl, rfl⟩
    refine ⟨fun σ' H' => ∃ x5, σ' = [some (.ref h), some (.ref p), some (.ref t), some (.int ps.length), some (.int (lineOf ps.length ls ks)), x5] ∧ H' = H2, ?_, ?_⟩
    · refine ⟨.ref t, rfl, t, rfl, ⟨_, .inl (.inl et)⟩, ?_⟩
      refine forJ (n := ks.length) (fun i σ' H' => (∃ x5, σ' = [some (.ref h), some (.ref p), some (.ref t), some (.int ps.length), some (.int (lineOf ps.length ls (ks.take i))), x5]) ∧ H' = H2) ⟨⟨none, rfl⟩, rfl⟩
        (fun i σ' H' lt h => by obtain ⟨_, rfl⟩ := h; exact ⟨_, V.int ks[i], .inl (.inl et), by rw [List.getElem?_map, List.getElem?_eq_getElem lt]; rfl⟩)
        (fun σ' H' h => by obtain ⟨_, rfl⟩ := h; exact ⟨_, .inl (.inl et), by rw [List.length_map]; exact Nat.le_refl _⟩) (fun i σ' H3 y H4 lt hh yy => ?_) (fun σ' H' hh => ?_)
      · obtain ⟨rfl, yy⟩ := yy
        obtain ⟨⟨x5, rfl⟩, rfl⟩ := hh
        have ex := yy _ (.inl (.inl et))
        rw [List.getElem?_map, List.getElem?_eq_getElem lt] at ex
        obtain rfl : V.int ks[i] = y := Option.some.inj ex
        have lti := hk _ (List.getElem_mem lt)
        have eat : atI (ls.map V.int) (ks[i] : Nat) = some (.int (ls.getD ks[i] 0)) := atI_nat (by
          rw [List.getElem?_map, List.getElem?_eq_getElem (by omega), List.getD_eq_getElem?_getD, List.getElem?_eq_getElem (by omega)]
          rfl)
        refine ⟨.int _, rfl, .ref h, rfl, h, CH, dh, _, .ref C, rfl, eh, G.iH.cl, G.n3, rfl, .int ks[i], rfl, C, _, _, _, rfl, rfl, .inl (.inl x.pc), eat, _, _, rfl, rfl, ⟨⟨some (.int ks[i]), ?_⟩, rfl⟩⟩
        have e2 : lineOf ps.length ls (ks.take (i + 1)) = Builtin.bitOr (lineOf ps.length ls (ks.take i)) (ls.getD ks[i] 0) := by
          unfold lineOf
          rw [List.take_succ_eq_append_getElem lt, List.foldl_append]
          rfl
        rw [e2]
        rfl
      · obtain ⟨⟨x5, rfl⟩, rfl⟩ := hh
        rw [List.take_length]
        exact ⟨x5, rfl, rfl⟩
    rintro _ H3 ⟨x5, rfl, rfl⟩
    obtain ⟨us, eB, pq⟩ := x.pb
    have lq : us.length = ps.length := by rw [pq.length, x.ql]
    have nhA : h ≠ A1 := fun z => by have := x.pa; rw [← z, eh] at this; exact nomatch this
    have nhB : h ≠ B := fun z => by rw [← z, eh] at eB; cases eB
    have nhC : h ≠ C := fun z => by have := x.pc; rw [← z, eh] at this; exact nomatch this
    refine ⟨.ref h, rfl, h, CH, dh, _, .ref A1, rfl, eh, G.iH.cl, G.n1, rfl, .inl ⟨rfl, _, .inl (.inl x.pa)⟩, .ref p, rfl, A1, _, _, rfl, rfl, x.pa, by rw [List.length_map, sizeLine_eq]; omega, ?_⟩
    have eB1 : upd H3 A1 (.lst (ps.map V.ref ++ [.ref p])) B = some (.lst us) := by rw [upd_ne (Ne.symm x.ab)]; exact eB
    refine ⟨.ref h, rfl, h, CH, dh, _, .ref B, rfl, by rw [upd_ne nhA]; exact eh, G.iH.cl, G.n2, rfl, .inl ⟨rfl, _, .inl (.inl eB1)⟩, .ref t, rfl, B, _, _, rfl, rfl, eB1, by rw [sizeLine_eq]; omega, ?_⟩
    have eC1 : upd (upd H3 A1 (.lst (ps.map V.ref ++ [.ref p]))) B (.lst (us ++ [.ref t])) C = some (.lst (ls.map V.int)) := by rw [upd_ne (Ne.symm x.bc), upd_ne (Ne.symm x.ac)]; exact x.pc
    refine ⟨.ref h, rfl, h, CH, dh, _, .ref C, rfl, by rw [upd_ne nhB, upd_ne nhA]; exact eh, G.iH.cl, G.n3, rfl, .inl ⟨rfl, _, .inl (.inl eC1)⟩, .int _, rfl, C, _, _, rfl, rfl, eC1, by rw [List.length_map, sizeLine_eq]; omega, ?_⟩
    have stA : Stl H3 (upd (upd (upd H3 A1 (.lst (ps.map V.ref ++ [.ref p]))) B (.lst (us ++ [.ref t]))) C (.lst (ls.map V.int ++ [.int (lineOf ps.length ls ks)]))) := fun b o hb nl => by
      rw [upd_ne fun z => by rw [z, x.pc] at hb; exact nl _ (Option.some.inj hb).symm, upd_ne fun z => by rw [z, eB] at hb; exact nl _ (Option.some.inj hb).symm, upd_ne fun z => by rw [z, x.pa] at hb; exact nl _ (Option.some.inj hb).symm]
      exact hb
    refine ⟨.int ps.length, rfl, q _ ⟨⟨dh, ?_⟩, ?_, ⟨us ++ [.ref t], ?_, Paired.snoc (L2.Paired.mapP pq fun _ _ h => h.stl stA) ⟨t, rfl, ?_⟩⟩, ?_, by rw [List.length_append, List.length_append, ll]; rfl, by rw [List.length_append, List.length_append, x.ql]; rfl, x.ab, x.ac, x.bc⟩ fun b o n1 n2 n3 hb => ?_⟩
    · rw [upd_ne nhC, upd_ne nhB, upd_ne nhA]
      exact eh
    · rw [upd_ne x.ac, upd_ne x.ab, upd_same, List.map_append]
      rfl
    · rw [upd_ne x.bc]
      exact upd_same
    · exact stA _ _ et fun _ z => nomatch z
    · rw [upd_same, List.map_append]
      rfl
    · rw [upd_ne n3, upd_ne n2, upd_ne n1]
      exact hb
end
end PJ

set_option Elab.async false
set_option linter.all false
set_option maxRecDepth 100000
set_option maxHeartbeats 8000000
/-! histories: what they do -/
namespace PJ
open PySem PySem.Spec PyProof.Rows L2 KS KS.La
open KX hiding sameUpd
section
variable {P : Program} {w : World} {K : PySem.W.Frag} {mg : Str → Option Value} {base : Heap} {f : Addr} {fd : FuncData} {CS CM CP CG CH NT NS NV CF : Addr}
def spHCheck (CH : Addr) : Sp := fun vs H Q _ => ∃ h A B C ps ls qs i, vs = [.ref h, .int i] ∧ HsAt CH H h A B C ps ls qs ∧ 0 ≤ i ∧ i < (ps.length : Int) ∧ Q .non H
abbrev HasIn (P : Program) (w : World) (K : PySem.W.Frag) (mg : Str → Option Value) (base : Heap) (CH : Addr) : Prop := ∃ (f : Addr) (fd : FuncData), PySem.W.findIn K (.ref CH) "__contains__" = some (some (.ref f)) ∧ PySem.W.isFn K (.ref f) = true ∧ Binds K fd ["self", "x"] [] ∧ FnOk P w K mg base CX0 2 f fd ["self", "x"] (spHHas CH)
theorem scHCheck : FnScope ["self", "number"] ["self", "number"] (defScope sHCheck) := ⟨rfl, rfl, rfl, by decide +kernel, rfl, by decide +kernel, by decide +kernel⟩
theorem okHCheck {k : Nat} (G : Hsc P w K mg base CH NV) (Hh : HasIn P w K mg base CH) (F : FnM K "_check" "History._check" sHCheck f fd) : FnOk P w K mg base (L2.CX P w) (k + 4) f fd ["self", "number"] (spHCheck CH) := by
  obtain ⟨fH, dH, hH1, hH2, bH, GH⟩ := Hh
  refine F.ok scHCheck (fun vs H Q E h => ?_) (fun cdv A outer s H vs Q E hr h => ?_)
  · obtain ⟨h, A, B, C, ps, ls, qs, i, rfl, _⟩ := h
    rfl
  · obtain ⟨h, A1, B, C, ps, ls, qs, i, rfl, x, i0, i1, q⟩ := h
    have hr2 : Room 2 _ := hr.mono (by omega)
    obtain ⟨dh, eh⟩ := x.ob
    refine ⟨_, (pss_one (ps_if (pt_cmpR (OC.op_notInOwn (E := E0) (FnOk.raw GH bH .nil) hr2 hH1 hH2 pass0) (pv 1) (pv 0) (by rfl)) (pss_one (ps_raise rfl (takes_of rfl rfl rfl rfl) (pmkX G.xV (hr.mono (by omega)) (by rfl) (pa_cons (pv 1) pa_nil)))) pss_nil)), ?_⟩
    exact ⟨.int i, rfl, .ref h, rfl, h, dh, _, rfl, eh, h, A1, B, C, ps, ls, qs, i, rfl, x, i0, i1, true, rfl, false, rfl, iteF q⟩
def spHGet (CH : Addr) : Sp := fun vs H Q _ => ∃ h A B C ps ls qs k p, vs = [.ref h, .int ((k : Nat) : Int)] ∧ HsAt CH H h A B C ps ls qs ∧ ps[k]? = some p ∧ Q (.ref p) H
theorem scHGet : FnScope ["self", "at"] ["self", "at"] (defScope sHGet) := ⟨rfl, rfl, rfl, by decide +kernel, rfl, by decide +kernel, by decide +kernel⟩
theorem okHGet {k : Nat} (G : Hsc P w K mg base CH NV) (Hh : HasIn P w K mg base CH) (F : FnM K "__getitem__" "History.__getitem__" sHGet f fd) : FnOk P w K mg base (L2.CX P w) (k + 4) f fd ["self", "at"] (spHGet CH) := by
  obtain ⟨fH, dH, hH1, hH2, bH, GH⟩ := Hh
  refine F.ok scHGet (fun vs H Q E h => ?_) (fun cdv A outer s H vs Q E hr h => ?_)
  · obtain ⟨h, A, B, C, ps, ls, qs, j, p, rfl, _⟩ := h
    rfl
  · obtain ⟨h, A1, B, C, ps, ls, qs, j, p, rfl, x, ep, q⟩ := h
    have hr2 : Room 2 _ := hr.mono (by omega)
    obtain ⟨dh, eh⟩ := x.ob
    have lt := (List.getElem?_eq_some_iff.mp ep).1
    refine ⟨_, (pss_cons (ps_if (pt_cmpR (OC.op_notInOwn (E := E0) (FnOk.raw GH bH .nil) hr2 hH1 hH2 pass0) (pv 1) (pv 0) (by rfl)) (pss_one (ps_raise rfl (takes_of rfl rfl rfl rfl) (pmkX G.xV (hr.mono (by omega)) (by rfl) (pa_cons (pv 1) pa_nil)))) pss_nil) (pss_one (ps_ret (pe_ix ix_list (pe_fld (pv 0) rfl) (pv 1) (fun _ _ => rfl))))), ?_⟩
    refine ⟨.int j, rfl, .ref h, rfl, h, dh, _, rfl, eh, h, A1, B, C, ps, ls, qs, j, rfl, x, by omega, by omega, true, rfl, false, rfl, iteF ?_⟩
    exact ⟨.ref h, rfl, h, CH, dh, _, .ref A1, rfl, eh, G.iH.cl, G.n1, rfl, .int j, rfl, A1, _, _, _, rfl, rfl, .inl (.inl x.pa), atI_nat (by rw [List.getElem?_map, ep]; rfl), q⟩
structure Hme (P : Program) (w : World) (K : PySem.W.Frag) (mg : Str → Option Value) (base : Heap) (CH : Addr) : Prop where
  chk : ∃ (f : Addr) (fd : FuncData), Meth K CH "_check" f ∧ Binds K fd ["self", "number"] [] ∧ FnOk P w K mg base (L2.CX P w) 4 f fd ["self", "number"] (spHCheck CH)
  add : ∃ (f : Addr) (fd : FuncData), Meth K CH "_add" f ∧ Binds K fd ["self", "project", "parents"] [] ∧ FnOk P w K mg base CX0 1 f fd ["self", "project", "parents"] (spHAdd CH)
def spHCommit (CH : Addr) : Sp := fun vs H Q _ => ∃ h A B C ps ls qs k p, vs = [.ref h, .int ((k : Nat) : Int), .ref p] ∧ HsAt CH H h A B C ps ls qs ∧ k < ps.length ∧ ps.length ≤ 20 ∧ ∀ H', HsAt CH H' h A B C (ps ++ [p]) (ls ++ [lineOf ps.length ls [k]]) (qs ++ [[k]]) → K3 A B C H H' → Q (.int ps.length) H'
theorem scHCommit : FnScope ["self", "parent", "project"] ["self", "parent", "project"] (defScope sHCommit) := ⟨rfl, rfl, rfl, by decide +kernel, rfl, by decide +kernel, by decide +kernel⟩
theorem okHCommit {k : Nat} (G : Hsc P w K mg base CH NV) (M : Hme P w K mg base CH) (F : FnM K "commit" "History.commit" sHCommit f fd) : FnOk P w K mg base CX0 (k + 5) f fd ["self", "parent", "project"] (spHCommit CH) := by
  obtain ⟨fC, dC, hC, bC, GC⟩ := M.chk
  obtain ⟨fA, dA, hA, bA, GA⟩ := M.add
  refine F.ok scHCommit (fun vs H Q E h => ?_) (fun cdv A outer s H vs Q E hr h => ?_)
  · obtain ⟨h, A, B, C, ps, ls, qs, j, p, rfl, _⟩ := h
    rfl
  · obtain ⟨h, A1, B, C, ps, ls, qs, j, p, rfl, x, lj, lp, q⟩ := h
    have hr4 : Room 4 _ := hr.mono (by omega)
    have hr1 : Room 1 _ := hr.mono (by omega)
    obtain ⟨dh, eh⟩ := x.ob
    refine ⟨_, PSs.nox (pss_cons (ps_expr (OD.pe_methT (E := fun _ => E0) (pv 0) G.iH.cl hC GC hr4 bC (fun _ => OD.passAt0) (pa_cons (pv 1) pa_nil))) (pss_one (ps_ret (pe_meth (pv 0) G.iH.cl hA GA hr1 bA .nil pass0 (pa_cons (pv 2) (pa_cons (pe_tup (pa_cons (pv 1) pa_nil)) pa_nil)))))), ?_⟩
    refine ⟨.ref h, rfl, h, dh, _, rfl, eh, rfl, .int j, rfl, h, A1, B, C, ps, ls, qs, j, rfl, x, by omega, by omega, ?_⟩
    refine ⟨.ref h, rfl, h, dh, _, rfl, eh, rfl, .ref p, rfl, .int j, rfl, (by show 1 ≤ sizeLine; decide), fun t ht => ?_⟩
    have st := KS.sameUpd (o := .tup [.int j]) ht
    refine ⟨h, A1, B, C, ps, ls, qs, p, t, [j], rfl, x.same st, upd_same, fun k hk => by rw [List.mem_singleton.mp hk]; exact lj, lp, (by show 1 ≤ 20; decide), fun H' x' k3 => ?_⟩
    exact q H' x' ((K3.same st).trans k3)
def spHBase (CH : Addr) : Sp := fun vs H Q _ => ∃ h A B C ps ls qs i j, vs = [.ref h, .int ((i : Nat) : Int), .int ((j : Nat) : Int)] ∧ HsAt CH H h A B C ps ls qs ∧ i < ps.length ∧ j < ps.length ∧ Q (.int ((Builtin.Int.intBits (Builtin.bitAnd (ls.getD i 0) (ls.getD j 0)) : Nat) - 1)) H
theorem scHBase : FnScope ["self", "one", "other"] ["self", "one", "other"] (defScope sHBase) := ⟨rfl, rfl, rfl, by decide +kernel, rfl, by decide +kernel, by decide +kernel⟩
theorem okHBase {k : Nat} (G : Hsc P w K mg base CH NV) (M : Hme P w K mg base CH) (F : FnM K "base" "History.base" sHBase f fd) : FnOk P w K mg base CX0 (k + 5) f fd ["self", "one", "other"] (spHBase CH) := by
  obtain ⟨fC, dC, hC, bC, GC⟩ := M.chk
  refine F.ok scHBase (fun vs H Q E h => ?_) (fun cdv A outer s H vs Q E hr h => ?_)
  · obtain ⟨h, A, B, C, ps, ls, qs, i, j, rfl, _⟩ := h
    rfl
  · obtain ⟨h, A1, B, C, ps, ls, qs, i, j, rfl, x, li, lj, q⟩ := h
    have hr4 : Room 4 _ := hr.mono (by omega)
    obtain ⟨dh, eh⟩ := x.ob
    have ll := x.ll
    have at_ : ∀ {n : Nat}, n < ps.length → atI (ls.map V.int) (n : Nat) = some (.int (ls.getD n 0)) := fun {n} ln => atI_nat (by
      rw [List.getElem?_map, List.getElem?_eq_getElem (by omega), List.getD_eq_getElem?_getD, List.getElem?_eq_getElem (by omega)]
      rfl)
    refine ⟨_, PSs.nox (pss_cons (ps_expr (OD.pe_methT (E := fun _ => E0) (pv 0) G.iH.cl hC GC hr4 bC (fun _ => OD.passAt0) (pa_cons (pv 1) pa_nil))) (pss_cons (ps_expr (OD.pe_methT (E := fun _ => E0) (pv 0) G.iH.cl hC GC hr4 bC (fun _ => OD.passAt0) (pa_cons (pv 2) pa_nil))) (pss_one (ps_ret (pe_op op_sub (pe_bits (pe_op op_and (pe_ix ix_list (pe_fld (pv 0) rfl) (pv 1) (fun _ _ => rfl)) (pe_ix ix_list (pe_fld (pv 0) rfl) (pv 2) (fun _ _ => rfl)))) pe_int))))), ?_⟩
    refine ⟨.ref h, rfl, h, dh, _, rfl, eh, rfl, .int i, rfl, h, A1, B, C, ps, ls, qs, i, rfl, x, by omega, by omega, ?_⟩
    refine ⟨.ref h, rfl, h, dh, _, rfl, eh, rfl, .int j, rfl, h, A1, B, C, ps, ls, qs, j, rfl, x, by omega, by omega, ?_⟩
    refine ⟨.ref h, rfl, h, CH, dh, _, .ref C, rfl, eh, G.iH.cl, G.n3, rfl, .int i, rfl, C, _, _, _, rfl, rfl, .inl (.inl x.pc), at_ li, ?_⟩
    refine ⟨.ref h, rfl, h, CH, dh, _, .ref C, rfl, eh, G.iH.cl, G.n3, rfl, .int j, rfl, C, _, _, _, rfl, rfl, .inl (.inl x.pc), at_ lj, ?_⟩
    exact ⟨_, _, rfl, rfl, _, rfl, _, 1, rfl, rfl, q⟩
abbrev sHPar : Stmt := inClass (top 19) 6
def spHPar (CH : Addr) : Sp := fun vs H Q _ => ∃ h A B C ps ls qs k ks, vs = [.ref h, .int ((k : Nat) : Int)] ∧ HsAt CH H h A B C ps ls qs ∧ qs[k]? = some ks ∧ ∀ t, H t = some (.tup (ks.map fun k : Nat => V.int k)) → Q (.ref t) H
theorem scHPar : FnScope ["self", "number"] ["self", "number"] (defScope sHPar) := ⟨rfl, rfl, rfl, by decide +kernel, rfl, by decide +kernel, by decide +kernel⟩
theorem parAt {H : Hp} : ∀ {us : List V} {qs : List (List Nat)}, Paired (ParA H) us qs → ∀ {k : Nat} {ks : List Nat}, qs[k]? = some ks → ∃ t, us[k]? = some (.ref t) ∧ H t = some (.tup (ks.map fun k : Nat => V.int k))
  | _, _, .nil, k, ks, h => by simp at h
  | _, _, .cons ⟨t, e, ht⟩ r, 0, ks, h => by cases h; exact ⟨t, by rw [e]; rfl, ht⟩
  | _, _, .cons h r, k + 1, ks, e => by
    obtain ⟨t, a, b⟩ := parAt r (k := k) (by simpa using e)
    exact ⟨t, by simpa using a, b⟩
theorem okHPar {k : Nat} (G : Hsc P w K mg base CH NV) (M : Hme P w K mg base CH) (F : FnM K "parents" "History.parents" sHPar f fd) : FnOk P w K mg base CX0 (k + 5) f fd ["self", "number"] (spHPar CH) := by
  obtain ⟨fC, dC, hC, bC, GC⟩ := M.chk
  refine F.ok scHPar (fun vs H Q E h => ?_) (fun cdv A outer s H vs Q E hr h => ?_)
  · obtain ⟨h, A, B, C, ps, ls, qs, j, ks, rfl, _⟩ := h
    rfl
  · obtain ⟨h, A1, B, C, ps, ls, qs, j, ks, rfl, x, ek, q⟩ := h
    have hr4 : Room 4 _ := hr.mono (by omega)
    obtain ⟨dh, eh⟩ := x.ob
    have lj : j < ps.length := by
      have := (List.getElem?_eq_some_iff.mp ek).1
      rw [x.ql] at this
      exact this
    obtain ⟨us, eB, pq⟩ := x.pb
    obtain ⟨t, et, ht⟩ := parAt pq ek
    refine ⟨_, PSs.nox (pss_cons (ps_expr (OD.pe_methT (E := fun _ => E0) (pv 0) G.iH.cl hC GC hr4 bC (fun _ => OD.passAt0) (pa_cons (pv 1) pa_nil))) (pss_one (ps_ret (pe_ix ix_list (pe_fld (pv 0) rfl) (pv 1) (fun _ _ => rfl))))), ?_⟩
    refine ⟨.ref h, rfl, h, dh, _, rfl, eh, rfl, .int j, rfl, h, A1, B, C, ps, ls, qs, j, rfl, x, by omega, by omega, ?_⟩
    exact ⟨.ref h, rfl, h, CH, dh, _, .ref B, rfl, eh, G.iH.cl, G.n2, rfl, .int j, rfl, B, _, _, _, rfl, rfl, .inl (.inl eB), atI_nat et, q t ht⟩
end
end PJ

set_option Elab.async false
set_option linter.all false
set_option maxRecDepth 100000
set_option maxHeartbeats 8000000
/-! histories: merged -/
namespace PJ
open PySem PySem.Spec PyProof.Rows L2 KS KS.La
open KX hiding sameUpd
section
variable {P : Program} {w : World} {K : PySem.W.Frag} {mg : Str → Option Value} {base : Heap} {f : Addr} {fd : FuncData} {CS CM CP CG CH NT NS NV CF : Addr}
theorem TgD.same {D : Addr} {H H' : Hp} {v : V} {t : Tg} (h : TgD CS CM D H v t) (s : Same H H') : TgD CS CM D H' v t := by
  cases t with
  | src os => obtain ⟨x, dx, d, e, h1, h2, h3⟩ := h; exact ⟨x, dx, d, e, s _ _ h1, ⟨s _ _ h2.1, h2.2⟩, h3⟩
  | mad r as => exact TgAt.stl (show TgAt CS CM H v (.mad r as) from h) (Stl.same s)
theorem K3.stl {H H' : Hp} {h A B C : Addr} {ps : List Addr} {ls : List Int} {qs : List (List Nat)} (x : HsAt CH H h A B C ps ls qs) (k : K3 A B C H H') : Stl H H' := fun b o e n =>
  k b o (fun z => by rw [z, x.pa] at e; exact n _ (Option.some.inj e).symm) (fun z => by obtain ⟨q, eq, _⟩ := x.pb; rw [z, eq] at e; exact n _ (Option.some.inj e).symm) (fun z => by rw [z, x.pc] at e; exact n _ (Option.some.inj e).symm) e
structure Hmm (P : Program) (w : World) (K : PySem.W.Frag) (mg : Str → Option Value) (base : Heap) (CS CM CP CG CH CF : Addr) : Prop where
  gG : mg "Merger" = some (.ref CG)
  mak : ∃ (f : Addr) (fd : FuncData), Mk K CG f ∧ Binds K fd ["self", "base", "one", "other"] [] ∧ FnOk P w K mg base CX0 6 f fd ["self", "base", "one", "other"] (spGInit CS CM CP CG)
  res : ∃ (f : Addr) (fd : FuncData), Meth K CG "result" f ∧ Binds K fd ["self"] [] ∧ FnOk P w K mg base CX0 3 f fd ["self"] (spGRes CS CM CP CG)
  fail : ∃ (f : Addr) (fd : FuncData), Meth K CG "failed" f ∧ Binds K fd ["self"] [] ∧ FnOk P w K mg base CX0 1 f fd ["self"] (spGFail CG)
  bas : ∃ (f : Addr) (fd : FuncData), Meth K CH "base" f ∧ Binds K fd ["self", "one", "other"] [] ∧ FnOk P w K mg base CX0 5 f fd ["self", "one", "other"] (spHBase CH)
  xF : Cl1 P w K mg base "Conflict" CF "conflicts"
def spHMerge (CS CM CP CH CF : Addr) : Sp := fun vs H Q E => ∃ h A B C ps ls qs i j b0 p T3 U, vs = [.ref h, .int ((i : Nat) : Int), .int ((j : Nat) : Int)] ∧ HsAt CH H h A B C ps ls qs ∧ i < ps.length ∧ j < ps.length ∧ ps.length ≤ 19 ∧
  (Builtin.Int.intBits (Builtin.bitAnd (ls.getD i 0) (ls.getD j 0)) : Nat) = b0 + 1 ∧ ps[b0]? = some (p 0) ∧ ps[i]? = some (p 1) ∧ ps[j]? = some (p 2) ∧ T3Ok CS CM CP H p T3 U ∧
  ∀ ys cs T, ys.Nodup → (∀ z, z ∈ ys ↔ ∃ i, z ∈ (T3 i).map (·.1)) → MFold T3 ys cs T →
    (cs = [] → ∀ H' x, HsAt CH H' h A B C (ps ++ [x]) (ls ++ [lineOf ps.length ls [i, j]]) (qs ++ [[i, j]]) → PjAt CS CM CP H' x T → T.length ≤ 6 → K3 A B C H H' → Q (.int ps.length) H') ∧
    (cs ≠ [] → ∀ d t zs H', zs.Perm cs → sortedS zs = true → Same H H' → H' d = some (.xd [("conflicts", .ref t)]) → H' t = some (.tup (zs.map V.str)) → E (.ref CF) (some d) H')
abbrev nHMerge : List Str := ["self", "one", "other", "base", "merger"]
theorem scHMerge : FnScope nHMerge ["self", "one", "other"] (defScope sHMerge) := ⟨rfl, rfl, rfl, by decide +kernel, rfl, by decide +kernel, by decide +kernel⟩
theorem okHMerge {k : Nat} (G : Hsc P w K mg base CH NV) (MG : Mgc P w K mg base CS CM CG) (M : Hme P w K mg base CH) (N : Hmm P w K mg base CS CM CP CG CH CF) (F : FnM K "merge" "History.merge" sHMerge f fd) : FnOk P w K mg base (L2.CX P w) (k + 8) f fd ["self", "one", "other"] (spHMerge CS CM CP CH CF) := by
  obtain ⟨fB, dB, hB, bB, GB⟩ := N.bas
  obtain ⟨fA, dA, hA, bA, GA⟩ := M.add
  obtain ⟨fI, dI, MI, bI, GI⟩ := N.mak
  obtain ⟨fR, dR, hR, bR, GR⟩ := N.res
  obtain ⟨fL, dL, hL, bL, GL⟩ := N.fail
  refine F.ok scHMerge (fun vs H Q E h => ?_) (fun cdv A outer s H vs Q E hr h => ?_)
  · obtain ⟨h, A, B, C, ps, ls, qs, i, j, b0, p, T3, U, rfl, _⟩ := h
    rfl
  · obtain ⟨h, A1, B, C, ps, ls, qs, i, j, b0, p, T3, U, rfl, x, li, lj, lp, eb, e0, e1, e2, X, q⟩ := h
    have hr5 : Room 5 _ := hr.mono (by omega)
    have hr7 : Room (6 + 1) _ := hr.mono (by omega)
    have hr6 : Room 6 _ := hr.mono (by omega)
    have hr3 : Room 3 _ := hr.mono (by omega)
    have hr1 : Room 1 _ := hr.mono (by omega)
    obtain ⟨dh, eh⟩ := x.ob
    have at_ : ∀ {n : Nat} {a : Addr}, ps[n]? = some a → atI (ps.map V.ref) (n : Nat) = some (.ref a) := fun {n a} e => atI_nat (by rw [List.getElem?_map, e]; rfl)
    refine ⟨_, (C8.pss_cut (ps_set (i := 3) scHMerge.nd rfl (.inl rfl) (pe_meth (pv 0) G.iH.cl hB GB hr5 bB .nil pass0 (pa_cons (pv 1) (pa_cons (pv 2) pa_nil)))) (C8.pss_cut (ps_set (i := 4) scHMerge.nd rfl (.inl rfl) (pe_make MI GI hr7 (by rfl) N.gG bI .nil pass0 (pa_cons (pe_ix ix_list (pe_fld (pv 0) rfl) (pv 3) (fun _ _ => rfl)) (pa_cons (pe_ix ix_list (pe_fld (pv 0) rfl) (pv 1) (fun _ _ => rfl)) (pa_cons (pe_ix ix_list (pe_fld (pv 0) rfl) (pv 2) (fun _ _ => rfl)) pa_nil))))) (pss_cons (ps_if (pt_truth (pe_meth0 (pv 4) MG.cl hL GL hr1 bL .nil pass0) (by intro _; rfl)) (pss_one (ps_raise rfl (takes_of rfl rfl rfl rfl) (pmkX N.xF (hr.mono (by omega)) (by rfl) (pa_cons (pe_meth0 (pv 4) MG.cl hL GL hr1 bL .nil pass0) pa_nil)))) pss_nil) (pss_one (ps_ret (pe_meth (pv 0) G.iH.cl hA GA hr1 bA .nil pass0 (pa_cons (pe_meth0 (pv 4) MG.cl hR GR hr3 bR .nil pass0) (pa_cons (pe_tup (pa_cons (pv 1) (pa_cons (pv 2) pa_nil))) pa_nil)))))))), ?_⟩
    refine ⟨fun σ' H' => σ' = [some (.ref h), some (.int i), some (.int j), some (.int b0), none] ∧ H' = H, ?_, ?_⟩
    · refine ⟨.ref h, rfl, h, dh, _, rfl, eh, rfl, .int i, rfl, .int j, rfl, h, A1, B, C, ps, ls, qs, i, j, rfl, x, li, lj, ?_⟩
      have : ((Builtin.Int.intBits (Builtin.bitAnd (ls.getD i 0) (ls.getD j 0)) : Nat) : Int) - 1 = (b0 : Int) := by omega
      rw [this]
      exact ⟨rfl, rfl⟩
    rintro _ H1 ⟨rfl, rfl⟩
    refine ⟨fun σ' H' => ∃ m tp D L ys cs T kvs, σ' = [some (.ref h), some (.int i), some (.int j), some (.int b0), some (.ref m)] ∧ MgAt CG H' m tp D L ∧ H' D = some (.dK kvs) ∧ Tab (TgD CS CM D H') kvs T ∧ H' L = some (.lst (cs.map V.str)) ∧ ys.Nodup ∧ (∀ z, z ∈ ys ↔ ∃ i, z ∈ (T3 i).map (·.1)) ∧ MFold T3 ys cs T ∧ cs.length ≤ 24 ∧ T.length ≤ 6 ∧ Same H1 H', ?_, ?_⟩
    · refine ⟨.ref h, rfl, h, CH, dh, _, .ref A1, rfl, eh, G.iH.cl, G.n1, rfl, .int b0, rfl, A1, _, _, _, rfl, rfl, .inl (.inl x.pa), at_ e0, ?_⟩
      refine ⟨.ref h, rfl, h, CH, dh, _, .ref A1, rfl, eh, G.iH.cl, G.n1, rfl, .int i, rfl, A1, _, _, _, rfl, rfl, .inl (.inl x.pa), at_ e1, ?_⟩
      refine ⟨.ref h, rfl, h, CH, dh, _, .ref A1, rfl, eh, G.iH.cl, G.n1, rfl, .int j, rfl, A1, _, _, _, rfl, rfl, .inl (.inl x.pa), at_ e2, ?_⟩
      refine fun m dm hm hdm nem => ⟨m, dm, p, T3, U, H1, rfl, upd_same, hm, fun b o hb => ?_, X, fun H' tp D L ys cs T kvs mg' eD tT eL nd mem mf lc lT old => ?_⟩
      · rw [upd_ne (ne_of_none hb hm), upd_ne (ne_of_none hb hdm)]
        exact hb
      · exact ⟨rfl, m, tp, D, L, ys, cs, T, kvs, rfl, mg', eD, tT, eL, nd, mem, mf, lc, lT, old⟩
    rintro _ H2 ⟨m, tp, D, L, ys, cs, T, kvs, rfl, mg', eD, tT, eL, nd, mem, mf, lc, lT, s2⟩
    obtain ⟨dm, em⟩ := id mg'
    obtain ⟨q1, q2⟩ := q ys cs T nd mem mf
    refine ⟨.ref m, rfl, m, dm, _, rfl, em, rfl, m, tp, D, L, cs, rfl, mg', eL, by omega, fun zs t H3 pm srt s3 et => ?_⟩
    refine ⟨!(zs.map V.str).isEmpty, .inr (.inl ⟨_, .inl (.inl et), rfl⟩), ?_⟩
    cases cs with
    | nil =>
      have ez : zs = [] := List.Perm.eq_nil pm
      subst ez
      refine iteF ?_
      refine ⟨.ref h, rfl, h, dh, _, rfl, s3 _ _ (s2 _ _ eh), rfl, .ref m, rfl, m, dm, _, rfl, s3 _ _ em, rfl, ?_⟩
      refine ⟨m, tp, D, L, kvs, T, rfl, ⟨dm, s3 _ _ em⟩, s3 _ _ eD, tT.imp fun _ _ _ _ _ h => h.same s3, fun y H4 ny s4 py => ?_⟩
      refine ⟨.int i, rfl, .int j, rfl, (by show 2 ≤ sizeLine; decide), fun t2 ht2 => ?_⟩
      have st := KS.sameUpd (o := .tup [.int i, .int j]) ht2
      have sA := ((s2.trans s3).trans s4).trans st
      refine ⟨h, A1, B, C, ps, ls, qs, y, t2, [i, j], rfl, x.same sA, upd_same, fun k hk => ?_, by omega, (by show 2 ≤ 20; decide), fun H5 x5 k5 => ?_⟩
      · simp only [List.mem_cons, List.not_mem_nil, or_false] at hk
        rcases hk with rfl | rfl
        · exact li
        · exact lj
      · exact q1 rfl H5 y x5 ((py.stl (Stl.same st)).stl (K3.stl (x.same sA) k5)) lT ((K3.same sA).trans k5)
    | cons c cs =>
      have ez : zs ≠ [] := fun e => by
        rw [e] at pm
        exact absurd (List.Perm.nil_eq pm) (by simp)
      have et2 : (!(zs.map V.str).isEmpty) = true := by
        cases zs with
        | nil => exact absurd rfl ez
        | cons _ _ => rfl
      rw [et2]
      refine iteT ⟨.ref m, rfl, m, dm, _, rfl, s3 _ _ em, rfl, m, tp, D, L, c :: cs, rfl, ⟨dm, s3 _ _ em⟩, s3 _ _ eL, by omega, fun zs2 t2 H4 pm2 srt2 s4 et4 => ⟨.ref t2, rfl, fun d H5 s5 hd => ?_⟩⟩
      exact q2 (by simp) d t2 zs2 H5 pm2 srt2 (((s2.trans s3).trans s4).trans s5) hd (s5 _ _ et4)
end
end PJ

set_option autoImplicit false
namespace SU
open PySem PySem.Spec PyProof.Rows
theorem pwRising : ∀ (l : List Str) (p : Str), risingS p l = true → (p :: l).Pairwise (fun a b => a.cps.toList ≤ b.cps.toList)
  | [], p, _ => List.pairwise_singleton _ _
  | x :: r, p, h => by
    have h2 : (!ltCps x.cps.toList p.cps.toList && risingS x r) = true := h
    rw [Bool.and_eq_true, Bool.not_eq_true', ltCps_eq] at h2
    have le : p.cps.toList ≤ x.cps.toList := List.not_lt.mp (of_decide_eq_false h2.1)
    have ih := pwRising r x h2.2
    refine List.pairwise_cons.mpr ⟨fun y hy => ?_, ih⟩
    rcases List.mem_cons.mp hy with rfl | hy
    · exact le
    · exact List.le_trans le ((List.pairwise_cons.mp ih).1 y hy)
theorem pwSorted (l : List Str) (h : sortedS l = true) : l.Pairwise (fun a b => a.cps.toList ≤ b.cps.toList) := by
  cases l with
  | nil => exact .nil
  | cons x r => exact pwRising r x h
theorem uniq {a b : List Str} (h : a.Perm b) (s1 : sortedS a = true) (s2 : sortedS b = true) : a = b := by
  refine List.Perm.eq_of_pairwise (le := fun a b : Str => a.cps.toList ≤ b.cps.toList) (fun x y _ _ h1 h2 => ?_) (pwSorted a s1) (pwSorted b s2) h
  have e := List.le_antisymm h1 h2
  cases x; cases y
  simpa using e
end SU

set_option Elab.async false
set_option linter.all false
set_option maxRecDepth 100000
set_option maxHeartbeats 8000000
/-! the law's drawn targets -/
namespace PJ
open PySem PySem.Spec PyProof.Rows L2 KS KS.La
open KX hiding sameUpd
abbrev lOuts : Stmt := top 24
abbrev lSource : Stmt := top 27
abbrev lTarget : Stmt := top 28
section
variable {P : Program} {w : World} {K : PySem.W.Frag} {mg : Str → Option Value} {base : Heap} {f : Addr} {fd : FuncData} {CS CM CP NT NS : Addr}
def spOutsT : Sp := fun vs H Q _ => vs = [] ∧ ∀ p, H p = none → Q (.ref p) (upd H p (.lst (outsL.map V.str)))
theorem scOuts : FnScope [] [] (defScope lOuts) := ⟨rfl, rfl, rfl, by decide +kernel, rfl, by decide +kernel, by decide +kernel⟩
theorem okOutsT {k : Nat} (F : FnP K "_law_outs" lOuts f fd) : FnOk P w K mg base CX0 (k + 1) f fd [] spOutsT := by
  refine F.ok scOuts (fun vs H Q E h => ?_) (fun cdv A outer s H vs Q E hr h => ?_)
  · obtain ⟨rfl, _⟩ := h
    rfl
  · obtain ⟨rfl, q⟩ := h
    exact ⟨_, PSs.nox (pss_one (ps_ret (pe_lst (pa_cons (pe_str) (pa_cons (pe_str) (pa_cons (pe_str) (pa_cons (pe_str) pa_nil))))))), (by show 4 ≤ sizeLine; decide), fun p hp => q p hp⟩
/-- a list of drawn texts -/
theorem lcTexts {J : It} {n j : Nat} {te : TE} {σ : L2.St} {H1 : Hp} {D a : Addr} {Qd : Hp → Prop} (hF : Fd H1 a) (hD : H1 D = none) (hn : n ≤ 1000) (hw : ∀ v, wipe ((wipe σ [j]).set j (some v)) [j] = wipe σ [j])
    (hgo : ∀ i H, i < n → J.go i H) (hst : ∀ H, J.stop n H) (hy : ∀ i H x H', J.yld i H x H' → H' = H)
    (hs : ∀ x H, Fd H a → ∀ (R : VK), (∀ z H', TOk z → Kp a H H' → Fd H' a → R (.str z) H') → te ((wipe σ [j]).set j (some x)) H R)
    (hd : ∀ (as : List Str) (H : Hp), H D = some (.lst (as.map .str)) → (∀ z ∈ as, TOk z) → as.length ≤ n → Kp a H1 H → Fd H a → Qd H) :
    ∃ W : Nat → Nat → Hp → Prop, (∃ m, W 0 m (upd H1 D (.lst []))) ∧ ∀ i m H, W i m H →
      (J.stop i H ∧ Qd H) ∨ (J.go i H ∧ ∃ Nx : Hp → Prop, (∀ H', Nx H' → ∃ m', m' < m ∧ W (i + 1) m' H') ∧ ∀ x H', J.yld i H x H' → gName j x (wipe σ [j]) H' fun σ2 H2 => wipe σ2 [j] = wipe σ [j] ∧ tYes σ2 H2 fun b H3 =>
        if b = true then te σ2 H3 fun y H4 => ∃ acc, H4 D = some (.lst acc) ∧ acc.length < sizeLine ∧ Nx (upd H4 D (.lst (acc ++ [y]))) else Nx H3) := by
  have nD := fdNe hF hD
  refine lcJ (n := n) (fun i H => ∃ as : List Str, H D = some (.lst (as.map .str)) ∧ (∀ z ∈ as, TOk z) ∧ as.length = i ∧ Kp a H1 H ∧ Fd H a) ⟨[], upd_same, fun z hz => absurd hz (by simp), rfl, Kp.new hD, fdOther hF nD⟩ (fun i H lt _ => hgo i H lt) (fun H _ => hst H) (fun i H x H' lt h y => ?_) (fun H h => ?_)
  · obtain ⟨as, e, ha, hl, k1, F1⟩ := h
    have := hy i H x H' y
    subst this
    refine ⟨hw x, ?_⟩
    unfold tYes
    dsimp only
    rw [if_pos rfl]
    refine hs x _ F1 _ fun z H2 tz k2 F2 => ⟨_, k2 _ _ nD e, by rw [List.length_map, sizeLine_eq]; omega, as ++ [z], ?_, fun y hy => ?_, by rw [List.length_append, hl]; rfl, fun b o nb hb => ?_, fdOther F2 nD⟩
    · rw [List.map_append]
      exact upd_same
    · rcases List.mem_append.mp hy with h | h
      · exact ha y h
      · rw [List.mem_singleton.mp h]; exact tz
    · rw [upd_ne (ne_of_none hb hD)]
      exact k2 _ _ nb (k1 _ _ nb hb)
  · obtain ⟨as, e, ha, hl, k1, F1⟩ := h
    exact hd as H e ha (by omega) k1 F1
/-- told by what is new behind H -/
def ToN (H H' : Hp) (v : V) (t : Tg) : Prop := ∀ H2, (∀ b o, H b = none → H' b = some o → (∀ xs, o ≠ .lst xs) → H2 b = some o) → ToAt H2 v t
theorem ToN.to {H H' : Hp} {v : V} {t : Tg} (h : ToN H H' v t) : ToAt H' v t := h H' fun _ _ _ e _ => e

/-- a drawn target, as it is told -/
def spDrawn : Sp := fun vs H Q _ => ∃ f : Addr, vs = [.ref f] ∧ Fd H f ∧ ∀ r t H', ToN H H' r t → TgK t → Kp f H H' → Fd H' f → Q r H'
abbrev nSource : List Str := ["_law_feed", "_law_outputs", "_law_out"]
theorem scSource : FnScope nSource ["_law_feed"] (defScope lSource) := ⟨rfl, rfl, rfl, by decide +kernel, rfl, by decide +kernel, by decide +kernel⟩
theorem okSource {k : Nat} (D : Has P w K mg base (k + 1) "_law_draw" ["_law_feed", "_law_many"] spDraw) (T : Has P w K mg base (k + 3) "_law_text" ["_law_feed"] spText) (O : Has P w K mg base (k + 1) "_law_outs" [] spOutsT) (F : FnP K "_law_source" lSource f fd) : FnOk P w K mg base CX0 (k + 4) f fd ["_law_feed"] spDrawn := by
  obtain ⟨fD, fdD, gD, kD, bD, GD⟩ := D.ex
  obtain ⟨fT, fdT, gT, kT, bT, GT⟩ := T.ex
  obtain ⟨fO, fdO, gO, kO, bO, GO⟩ := O.ex
  refine F.ok scSource (fun vs H Q E h => ?_) (fun cdv A outer s H vs Q E hr h => ?_)
  · obtain ⟨a, rfl, _⟩ := h
    rfl
  · obtain ⟨a, rfl, hF, q⟩ := h
    have hr1 : Room (k + 1) _ := hr.mono (by omega)
    have hu1 : (A.deeper (envOfC "_law_source" (defScope lSource) s.heap.objs.size f cdv)).units + 1 < cLine := by
      have := hr.units
      omega
    refine ⟨_, PSs.nox (C8.pss_cut (ps_set (i := 1) scSource.nd rfl (.inl rfl) pe_dnewK) (C8.pss_cut (ps_for PassesOwn.never rfl (pi_list (pe_call0 GO hr1 (by rfl) gO kO bO .nil pass0)) (pg_name (i := 2) scSource.nd rfl (.inl rfl))
        (pss_one (ps_if (pt_cmpR op_gt (pe_call GD hr1 (by rfl) gD kD bD .nil pass0 (pa_cons (pv 0) (pa_cons (pe_int) pa_nil))) pe_int (nomark _)) (pss_one (ps_dput hu1 (pv 1) (pv 2) (pe_call GT hr (by rfl) gT kT bT .nil pass0 (pa_cons (pv 0) pa_nil)) rfl)) pss_nil))) (pss_one (ps_ret (pe_tup (pa_cons (pe_str) (pa_cons (pv 1) pa_nil))))))), ?_⟩
    refine ⟨fun σ' H' => ∃ d, σ' = [some (.ref a), some (.ref d), none] ∧ H' d = some (.dK []) ∧ H d = none ∧ Same H H', ?_, ?_⟩
    · exact fun d hd => ⟨d, rfl, upd_same, hd, KS.sameUpd hd⟩
    rintro _ H1 ⟨d, rfl, ed, nd, s1⟩
    have nda : d ≠ a := fdNe hF nd
    refine ⟨fun σ' H' => ∃ x2 os, σ' = [some (.ref a), some (.ref d), x2] ∧ H' d = some (.dK (oK os)) ∧ (os.map (·.1)).Nodup ∧ OsK os ∧ Kp a H H' ∧ Fd H' a, ?_, ?_⟩
    · refine ⟨rfl, fun O hO => ⟨O, rfl, ⟨_, .inl (.inl upd_same)⟩, ?_⟩⟩
      have sO := KS.sameUpd (o := .lst (outsL.map V.str)) hO
      have eO : upd H1 O (.lst (outsL.map V.str)) O = some (.lst (outsL.map V.str)) := upd_same
      have F1 := (hF.same s1).same sO
      have nOa := fdNe (hF.same s1) hO
      have nOd : O ≠ d := fun z => by rw [z, ed] at hO; cases hO
      have k1 : Kp a H (upd H1 O (.lst (outsL.map V.str))) := Kp.same (s1.trans sO)
      have ed1 := sO _ _ ed
      generalize upd H1 O (.lst (outsL.map V.str)) = H2 at *
      refine forJ (n := outsL.length) (fun i σ' H' => ∃ x2 os, σ' = [some (.ref a), some (.ref d), x2] ∧ H' d = some (.dK (oK os)) ∧ H' O = some (.lst (outsL.map V.str)) ∧ (os.map (·.1)).Nodup ∧ (∀ o ∈ os, o.1 ∈ outsL.take i) ∧ os.length ≤ i ∧ Kp a H H' ∧ Fd H' a)
        ⟨none, [], rfl, ed1, eO, List.nodup_nil, fun o ho => absurd ho (by simp), Nat.zero_le _, k1, F1⟩
        (fun i σ' H' lt h => by obtain ⟨_, _, _, _, e, _⟩ := h; exact ⟨outsL.map V.str, V.str outsL[i], .inl (.inl e), by rw [List.getElem?_map, List.getElem?_eq_getElem lt]; rfl⟩)
        (fun σ' H' h => by obtain ⟨_, _, _, _, e, _⟩ := h; exact ⟨outsL.map V.str, .inl (.inl e), by rw [List.length_map]; exact Nat.le_refl _⟩) (fun i σ' H3 x H4 lt h y => ?_) (fun σ' H' h => ?_)
      · obtain ⟨rfl, y⟩ := y
        obtain ⟨x2, os, rfl, e1, e2, ndp, hm, hl, kk, F3⟩ := h
        have ex := y _ (.inl (.inl e2))
        rw [List.getElem?_map, List.getElem?_eq_getElem lt] at ex
        obtain rfl : V.str outsL[i] = x := Option.some.inj ex
        refine ⟨.ref a, rfl, a, 4, rfl, F3, by decide, by decide, fun r H5 r0 r1 k5 F5 => ⟨r, 0, rfl, rfl, _, rfl, ite2 (fun _ => ?_) (fun _ => ?_)⟩⟩
        · refine ⟨.ref a, rfl, a, rfl, F5, fun z H6 tz k6 F6 => ?_⟩
          have e16 := k6 _ _ nda (k5 _ _ nda e1)
          have nw : (os.any fun p => decide (p.1 = outsL[i])) = false := List.any_eq_false.mpr fun p hp e => by
            have h1 := hm p hp
            rw [of_decide_eq_true e] at h1
            exact notTake outsNd lt h1
          have lo : outsL.length = 4 := rfl
          refine ⟨.ref d, rfl, .str outsL[i], rfl, d, _, rfl, DPut.k (k := Sum.inr outsL[i]) e16 (by rw [oK_len, sizeLine_eq]; omega), some (.str outsL[i]), os ++ [(outsL[i], z)], rfl, ?_, by rw [upd_ne nOd]; exact k6 _ _ nOa (k5 _ _ nOa e2), ?_, fun o ho => ?_, by rw [List.length_append]; show os.length + 1 ≤ _; omega, fun b o nb hb => ?_, fdOther F6 nda⟩
          · rw [upd_same, oK_put]
            unfold oPut
            rw [nw, if_neg Bool.false_ne_true]
          · rw [List.map_append]
            refine List.nodup_append.mpr ⟨ndp, by simp, fun u hu v hv e => ?_⟩
            obtain ⟨o, ho, rfl⟩ := List.mem_map.mp hu
            have hv2 : v = outsL[i] := List.mem_singleton.mp hv
            rw [hv2] at e
            have h1 := hm o ho
            rw [e] at h1
            exact notTake outsNd lt h1
          · rw [List.take_succ_eq_append_getElem lt]
            rcases List.mem_append.mp ho with z' | z'
            · exact List.mem_append_left _ (hm o z')
            · rw [List.mem_singleton.mp z']
              exact List.mem_append_right _ (List.mem_singleton.mpr rfl)
          · rw [upd_ne (ne_of_none hb nd)]
            exact k6 _ _ nb (k5 _ _ nb (kk _ _ nb hb))
        · refine ⟨some (.str outsL[i]), os, rfl, k5 _ _ nda e1, k5 _ _ nOa e2, ndp, fun o ho => ?_, by omega, kk.trans k5, F5⟩
          rw [List.take_succ_eq_append_getElem lt]
          exact List.mem_append_left _ (hm o ho)
      · obtain ⟨x2, os, rfl, e1, e2, ndp, hm, hl, kk, F3⟩ := h
        exact ⟨x2, os, rfl, e1, ndp, ⟨hl, fun p hp => List.mem_of_mem_take (hm p hp)⟩, kk, F3⟩
    rintro _ H2 ⟨x2, os, rfl, e1, ndp, ok, kk, F2⟩
    refine ⟨.ref d, rfl, (by show 2 ≤ sizeLine; decide), fun U hU => ?_⟩
    have nU : H U = none := kpNone hF kk F2 hU
    refine q _ (.src os) _ (fun H3 g => ⟨U, d, rfl, g _ _ nU upd_same (fun _ z => nomatch z), g _ _ nd (KS.sameUpd hU _ _ e1) (fun _ z => nomatch z), ndp, by have := ok.1; omega⟩) ok (kk.trans (Kp.new hU)) (F2.new hU)
end
end PJ

set_option Elab.async false
set_option linter.all false
set_option maxRecDepth 100000
set_option maxHeartbeats 8000000
/-! the law's targets, its projects -/
namespace PJ
open PySem PySem.Spec PyProof.Rows L2 KS KS.La
open KX hiding sameUpd
abbrev lOne : Stmt := top 29
abbrev lNames : Stmt := top 30
abbrev lPackage : Stmt := top 33
/-- the law's own table -/
def KtAt (H : Hp) (d : Addr) (T : Tb) : Prop := ∃ kvs, H d = some (.dK kvs) ∧ Tab (ToAt H) kvs T
theorem KtAt.stl {H H' : Hp} {d : Addr} {T : Tb} (h : KtAt H d T) (s : Stl H H') : KtAt H' d T := let ⟨kvs, a, b⟩ := h; ⟨kvs, s _ _ a (fun _ z => nomatch z), b.to s⟩
theorem ToAt.rf {H : Hp} {v : V} {t : Tg} (h : ToAt H v t) : ∃ x, v = .ref x := by
  cases t with
  | src os => obtain ⟨x, _, e, _⟩ := h; exact ⟨x, e⟩
  | mad r as => obtain ⟨x, _, _, e, _⟩ := h; exact ⟨x, e⟩
theorem TgAt.rf {CS CM : Addr} {H : Hp} {v : V} {t : Tg} (h : TgAt CS CM H v t) : ∃ x, v = .ref x := by
  cases t with
  | src os => obtain ⟨x, _, _, e, _⟩ := h; exact ⟨x, e⟩
  | mad r as => obtain ⟨x, _, _, _, e, _⟩ := h; exact ⟨x, e⟩
/-- seen while the table is locked, and behind it -/
theorem toLock {H H' : Hp} {d : Addr} {kvs : List (Key × V)} {k1 : Key} {x1 : Addr} (hd : H d = some (.dK kvs)) (m1 : (k1, V.ref x1) ∈ kvs) (e : ∀ c o, c ≠ d → H c = some o → H' c = some o) {v : V} {t : Tg} (h : ToAt H v t) : ToAt H' v t := by
  have ne : ∀ {c o}, H c = some o → (∀ ks, o ≠ .dK ks) → H' c = some o := fun {c o} hc hn => e c o (fun z => by rw [z, hd] at hc; exact hn _ (Option.some.inj hc).symm) hc
  have nd : ∀ {c os}, H c = some (.dK (oK os)) → H' c = some (.dK (oK os)) := fun {c os} hc => e c _ (fun z => by
    rw [z, hd] at hc
    have : kvs = oK os := by
      have := Option.some.inj hc
      injection this
    rw [this] at m1
    obtain ⟨z, ez⟩ := oK_str _ m1
    cases ez) hc
  cases t with
  | src os =>
    obtain ⟨x, d', rfl, hx, ho, r⟩ := h
    exact ⟨x, d', rfl, ne hx (fun _ z => nomatch z), nd ho, r⟩
  | mad r as =>
    obtain ⟨x, vr, va, rfl, hx, hr, ⟨u, e1, hu, g⟩⟩ := h
    refine ⟨x, vr, va, rfl, ne hx (fun _ z => nomatch z), ?_, ⟨u, e1, ne hu (fun _ z => nomatch z), g⟩⟩
    cases r with
    | txt z => exact hr
    | key a b => exact ⟨let ⟨t, e, h⟩ := hr.1; ⟨t, e, ne h (fun _ z => nomatch z)⟩, hr.2⟩
theorem tgFree {CS CM : Addr} {H H' : Hp} {d : Addr} {p : Obj} {u : HO} (hd : H d = some (.frz p u)) (e : ∀ c o, c ≠ d → H c = some o → H' c = some o) {v : V} {t : Tg} (h : TgAt CS CM H v t) : TgAt CS CM H' v t := by
  have ne : ∀ {c o}, H c = some o → (∀ q u, o ≠ .frz q u) → H' c = some o := fun {c o} hc hn => e c o (fun z => by rw [z, hd] at hc; exact hn _ _ (Option.some.inj hc).symm) hc
  cases t with
  | src os =>
    obtain ⟨x, dx, d', rfl, hx, ho, r⟩ := h
    exact ⟨x, dx, d', rfl, ne hx (fun _ _ z => nomatch z), ne ho (fun _ _ z => nomatch z), r⟩
  | mad r as =>
    obtain ⟨x, dx, vr, va, rfl, hx, hr, ⟨u, e1, hu, g⟩⟩ := h
    refine ⟨x, dx, vr, va, rfl, ne hx (fun _ _ z => nomatch z), ?_, ⟨u, e1, ne hu (fun _ _ z => nomatch z), g⟩⟩
    cases r with
    | txt z => exact hr
    | key a b => exact ⟨let ⟨t, e, h⟩ := hr.1; ⟨t, e, ne h (fun _ _ z => nomatch z)⟩, hr.2⟩
theorem mergeApp : ∀ (l acc : List (Key × V)), ((acc ++ l).map (·.1)).Nodup → mergeK acc l = acc ++ l
  | [], acc, _ => by rw [List.append_nil]; rfl
  | o :: l, acc, h => by
    have e : putK acc o.1 o.2 = acc ++ [o] := by
      rw [putK_new]
      cases hv : valV acc o.1 with
      | none => rfl
      | some v =>
        have h1 := valMem2 hv
        rw [List.map_append, List.map_cons] at h
        exact absurd rfl ((List.nodup_append.mp h).2.2 _ (List.mem_map_of_mem (f := (·.1)) h1) _ List.mem_cons_self)
    show mergeK (putK acc o.1 o.2) l = _
    rw [e, mergeApp l (acc ++ [o]) (by rw [List.append_assoc]; exact h), List.append_assoc]
    rfl
section
variable {P : Program} {w : World} {K : PySem.W.Frag} {mg : Str → Option Value} {base : Heap} {f : Addr} {fd : FuncData} {CS CM CP NT NS : Addr}
abbrev nTarget : List Str := ["_law_feed", "_law_call", "_law_turn"]
theorem scTarget : FnScope nTarget ["_law_feed"] (defScope lTarget) := ⟨rfl, rfl, rfl, by decide +kernel, rfl, by decide +kernel, by decide +kernel⟩
theorem okTarget {k : Nat} (F : FnP K "_law_target" lTarget f fd) (B : Bn mg) (D : Has P w K mg base (k + 1) "_law_draw" ["_law_feed", "_law_many"] spDraw) (Pk : Has P w K mg base (k + 2) "_law_pick" ["_law_feed", "_law_items"] (spPick K)) (Ca : Has P w K mg base (k + 1) "_law_calls" [] spCalls) (T : Has P w K mg base (k + 3) "_law_text" ["_law_feed"] spText) (O : Has P w K mg base (k + 4) "_law_source" ["_law_feed"] spDrawn) : FnOk P w K mg base CX0 (k + 5) f fd ["_law_feed"] spDrawn := by
  obtain ⟨fD, fdD, gD, kD, bD, GD⟩ := D.ex
  obtain ⟨fP, fdP, gP, kP, bP, GP⟩ := Pk.ex
  obtain ⟨fC, fdC, gC, kC, bC, GC⟩ := Ca.ex
  obtain ⟨fT, fdT, gT, kT, bT, GT⟩ := T.ex
  obtain ⟨fO, fdO, gO, kO, bO, GO⟩ := O.ex
  refine F.ok scTarget (fun vs H Q E h => ?_) (fun cdv A outer s H vs Q E hr h => ?_)
  · obtain ⟨a, rfl, _⟩ := h
    rfl
  · obtain ⟨a, rfl, hF, q⟩ := h
    have hr1 : Room (k + 1) _ := hr.mono (by omega)
    have hr2 : Room (k + 2) _ := hr.mono (by omega)
    have hr3 : Room (k + 3) _ := hr.mono (by omega)
    refine ⟨_, PSs.nox (pss_cons (ps_if (pt_cmpR op_eq (pe_call GD hr1 (by rfl) gD kD bD .nil pass0 (pa_cons (pv 0) (pa_cons (pe_int) pa_nil))) pe_int (nomark _)) (pss_one (ps_ret (pe_call GO hr (by rfl) gO kO bO .nil pass0 (pa_cons (pv 0) pa_nil)))) pss_nil) (C8.pss_cut (ps_set (i := 1) scTarget.nd rfl (.inl rfl) (pe_call GP hr2 (by rfl) gP kP bP .nil pass0 (pa_cons (pv 0) (pa_cons (pe_op op_cat (pe_call0 GC hr1 (by rfl) gC kC bC .nil pass0) (pe_lst (pa_cons (pe_tup (pa_cons (pe_str) (pa_cons (pe_str) pa_nil))) (pa_cons (pe_tup (pa_cons (pe_str) (pa_cons (pe_str) pa_nil))) pa_nil)))) pa_nil)))) (pss_one (ps_ret (pe_tup (pa_cons (pe_str) (pa_cons (pv 1) (pa_cons (pe_callTy (T := "tuple") call_tuple_of (by rfl) B.tuple (by decide +kernel) (pa_cons (pe_lc (own := [("_law_turn", 2)]) (g := gName 2) rfl scTarget.nd (pi_range1 (by rfl) B.range (pa_cons (pe_call GD hr1 (by rfl) gD kD bD .nil pass0 (pa_cons (pv 0) (pa_cons (pe_int) pa_nil))) pa_nil)) (blkOk_by (N := nTarget) (sc := defScope lTarget) (by decide +kernel))
        (fun _ _ _ _ _ => pg_name (i := 2) scTarget.nd rfl (.inl rfl) (hf := .inr rfl)) (fun _ _ _ _ _ => pts_nil) (fun _ _ _ _ _ => pe_call GT hr3 (by rfl) gT kT bT .nil pass0 (pa_cons (pv 0) pa_nil))) pa_nil)) pa_nil)))))))), ?_⟩
    refine ⟨.ref a, rfl, a, 2, rfl, hF, by decide, by decide, fun r H1 r0 r1 k1 F1 => ⟨rfl, _, rfl, ite2 (fun e => ?_) (fun e => ?_)⟩⟩
    · refine ⟨.ref a, rfl, a, rfl, F1, fun r t H2 hn ht k2 F2 => q r t H2 (fun H3 g => hn H3 fun b o nb hb hx => g b o ?_ hb hx) ht (k1.trans k2) F2⟩
      cases e : H b with
      | none => rfl
      | some o' => rw [k1 b o' (fun z => by obtain ⟨x, y, eF, _⟩ := F1; rw [z, eF] at nb; cases nb) e] at nb; cases nb
    refine ⟨fun σ' H' => ∃ v r, σ' = [some (.ref a), some v, none] ∧ (∀ H2, (∀ b o, H b = none → H' b = some o → (∀ xs, o ≠ .lst xs) → H2 b = some o) → RcIn H2 v r) ∧ Kp a H H' ∧ Fd H' a, ?_, ?_⟩
    · refine ⟨.ref a, rfl, rfl, fun pc hpc => ⟨(by show 2 ≤ sizeLine; decide), fun U hU => ⟨(by show 2 ≤ sizeLine; decide), fun U2 hU2 => ⟨(by show 2 ≤ sizeLine; decide), fun L hL => ?_⟩⟩⟩⟩
      have s0 := KS.sameUpd (o := .lst [.str "make", .str "", .str "r 2", .str "Mend!"]) hpc
      have s1 := KS.sameUpd (o := .tup [.str "h", .str "o"]) hU
      have s2 := KS.sameUpd (o := .tup [.str "b1", .str "out"]) hU2
      have s3 := KS.sameUpd (o := .lst [.ref U, .ref U2]) hL
      have e0 : _ = some (HO.lst [.str "make", .str "", .str "r 2", .str "Mend!"]) := s3 _ _ (s2 _ _ (s1 _ _ (upd_same (H := H1) (a := pc))))
      refine ⟨pc, L, _, _, rfl, rfl, e0, upd_same, (by show 4 + 2 ≤ sizeLine; decide), fun L2 hL2 => ?_⟩
      have s4 := KS.sameUpd (o := .lst ([.str "make", .str "", .str "r 2", .str "Mend!"] ++ [.ref U, .ref U2])) hL2
      have F0 := F1.same s0
      have FA := F0.same (s1.trans s2)
      have F5 := ((F1.same s0).same (s1.trans (s2.trans s3))).same s4
      have nU : H U = none := kpNone hF (k1.trans (Kp.same s0)) F0 hU
      have nU2 : H U2 = none := kpNone hF (k1.trans (Kp.same (s0.trans s1))) (F0.same s1) hU2
      refine ⟨a, L2, _, rfl, F5, .inl (.inl upd_same), fdNe (FA.same s3) hL2, (by show 0 < 6; decide), (by show 6 < 1000; decide), fun i v H6 hv k6 F6 => ?_⟩
      have st := Stl.fd F5 k6
      have eU := st _ _ (s4 _ _ (s3 _ _ (s2 _ _ (upd_same (H := upd H1 pc (.lst [.str "make", .str "", .str "r 2", .str "Mend!"])) (a := U) (o := .tup [.str "h", .str "o"]))))) (fun _ z => nomatch z)
      have eU2 := st _ _ (s4 _ _ (s3 _ _ (upd_same (H := upd (upd H1 pc (.lst [.str "make", .str "", .str "r 2", .str "Mend!"])) U (.tup [.str "h", .str "o"])) (a := U2) (o := .tup [.str "b1", .str "out"])))) (fun _ z => nomatch z)
      have kk : Kp a H H6 := (k1.trans (Kp.same (s0.trans (s1.trans (s2.trans (s3.trans s4)))))).trans k6
      match i, hv with
      | 0, hv => cases hv; exact ⟨_, .txt "make", rfl, fun _ _ => ⟨rfl, by decide +kernel⟩, kk, F6⟩
      | 1, hv => cases hv; exact ⟨_, .txt "", rfl, fun _ _ => ⟨rfl, by decide +kernel⟩, kk, F6⟩
      | 2, hv => cases hv; exact ⟨_, .txt "r 2", rfl, fun _ _ => ⟨rfl, by decide +kernel⟩, kk, F6⟩
      | 3, hv => cases hv; exact ⟨_, .txt "Mend!", rfl, fun _ _ => ⟨rfl, by decide +kernel⟩, kk, F6⟩
      | 4, hv => cases hv; exact ⟨_, .key "h" "o", rfl, fun _ g => ⟨⟨U, rfl, g _ _ nU eU fun _ z => nomatch z⟩, by decide +kernel, by decide +kernel⟩, kk, F6⟩
      | 5, hv => cases hv; exact ⟨_, .key "b1" "out", rfl, fun _ g => ⟨⟨U2, rfl, g _ _ nU2 eU2 fun _ z => nomatch z⟩, by decide +kernel, by decide +kernel⟩, kk, F6⟩
    rintro _ H2 ⟨v, r, rfl, hv, k2, F2⟩
    refine ⟨v, rfl, .ref a, rfl, a, 3, rfl, F2, by decide, by decide, fun m H3 m0 m1 k3 F3 => ⟨m, rfl, by omega, by omega, fun D hD => ?_⟩⟩
    refine lcTexts (n := m.toNat) (a := a) F3 hD (by omega) (fun v => rfl) (fun i H' lt => ?_) (fun H' => ?_) (fun i H' x H'' y => y.1) (fun x H' F' R hR => ⟨.ref a, rfl, a, rfl, F', hR⟩) (fun as H4 e4 ha hl k4 F4 => ?_)
    · exact lt
    · exact Nat.le_refl _
    refine ⟨D, as.map .str, rfl, .inl ⟨.inl (.inl e4), fun U hU => ⟨(by show 3 ≤ sizeLine; decide), fun U2 hU2 => ?_⟩⟩⟩
    have s1 := KS.sameUpd (o := .tup (as.map .str)) hU
    have s2 := KS.sameUpd (o := .tup [.str "made", v, .ref U]) hU2
    have kA : Kp a H _ := ((k2.trans (k3.trans k4)).trans (Kp.same s1)).trans (Kp.same s2)
    have kB := k2.trans (k3.trans k4)
    have nU : H U = none := kpNone hF kB F4 hU
    have nU2 : H U2 = none := kpNone hF (kB.trans (Kp.same s1)) (F4.same s1) hU2
    have stA := (Stl.fd F2 (k3.trans k4)).trans (Stl.same (s1.trans s2))
    refine q _ (.mad r as) _ (fun H5 g => ⟨U2, v, .ref U, rfl, g _ _ nU2 upd_same (fun _ z => nomatch z), hv H5 (fun b o nb hb hx => g _ _ nb (stA _ _ hb hx) hx), U, rfl, g _ _ nU (s2 _ _ upd_same) (fun _ z => nomatch z), by omega, ha⟩) True.intro kA (F4.same (s1.trans s2))
/-- how made targets are made -/
structure Mdc (P : Program) (w : World) (K : PySem.W.Frag) (mg : Str → Option Value) (base : Heap) (CM : Addr) (e : Addr) : Prop where
  mak : ∃ (f : Addr) (fd : FuncData), Mk K CM f ∧ Binds K fd ["self", "recipe", "arguments"] [.ref e] ∧ Binds K fd ["self", "recipe", "arguments"] [] ∧ FnOk P w K mg base CX0 1 f fd ["self", "recipe", "arguments"] (spMInit K CM)
  em : ∀ H, SqT K H e []
theorem madMade {H : Hp} {x dx t : Addr} {vr : V} {r : Rc} {as : List Str} {R : Hp → Prop} {E : XK} (hx : H x = none) (hdx : H dx = none) (ne : dx ≠ x) (hr : RcIn H vr r) (ha : AsIn H (.ref t) as) (q : ∀ H', Same H H' → TgAt CS CM H' (.ref x) (.mad r as) → R H') :
    spMInit K CM [.ref x, vr, .ref t] (upd (upd H dx (.own x)) x (.ins CM dx [])) (fun v H2 => v = .non ∧ R H2) E := by
  have s1 : Same H (upd (upd H dx (.own x)) x (.ins CM dx [])) := fun b o hb => by
    rw [upd_ne (ne_of_none hb hx), upd_ne (ne_of_none hb hdx)]
    exact hb
  obtain ⟨t', et, ht, hl⟩ := id ha
  cases et
  refine ⟨x, dx, vr, t, as.map .str, rfl, upd_same, .inl ⟨.inl (.inl (s1 _ _ ht)), fun H' k h1 => ⟨rfl, ?_⟩⟩⟩
  have sH : Same H H' := fun b o hb => k _ _ (ne_of_none hb hx) (s1 _ _ hb)
  exact q H' sH ⟨x, dx, vr, .ref t, rfl, h1, hr.stl (Stl.same sH), ha.stl (Stl.same sH)⟩
theorem wSS : decide (V.str "source" = V.str "source") = true := decide_eq_true rfl
theorem wMS : decide (V.str "made" = V.str "source") = false := by decide +kernel
def spOne (CS CM : Addr) : Sp := fun vs H Q _ => ∃ v t, vs = [v] ∧ ToAt H v t ∧ ∀ r H', Same H H' → TgAt CS CM H' r t → Q r H'
theorem scOne : FnScope ["_law_told_here"] ["_law_told_here"] (defScope lOne) := ⟨rfl, rfl, rfl, by decide +kernel, rfl, by decide +kernel, by decide +kernel⟩
theorem okOne {k : Nat} {e : Addr} (W : Pjc P w K mg base CS CM CP NT NS) (M : Mdc P w K mg base CM e) (F : FnP K "_law_one" lOne f fd) : FnOk P w K mg base CX0 (k + 3) f fd ["_law_told_here"] (spOne CS CM) := by
  obtain ⟨fI, dI, MI, bI, GI⟩ := W.mkS
  obtain ⟨fJ, dJ, MJ, _, bJ, GJ⟩ := M.mak
  refine F.ok scOne (fun vs H Q E h => ?_) (fun cdv A outer s H vs Q E hr h => ?_)
  · obtain ⟨v, t, rfl, _⟩ := h
    rfl
  · obtain ⟨v, t, rfl, hv, q⟩ := h
    have hr2 : Room (1 + 1) _ := hr.mono (by omega)
    refine ⟨_, PSs.nox (pss_cons (ps_if (pt_cmp (pc_isN (pv 0))) (pss_one (ps_ret pe_non)) pss_nil) (pss_one (ps_ret (pe_ifExp (pt_cmpR op_eq (pe_ix ix_tup (pv 0) pe_int (fun _ _ => rfl)) pe_str (nomark _)) (pe_make MI GI hr2 (by rfl) W.gS bI .nil pass0 (pa_cons (pe_ix ix_tup (pv 0) pe_int (fun _ _ => rfl)) pa_nil))
      (pe_make MJ GJ hr2 (by rfl) W.gM bJ .nil pass0 (pa_cons (pe_ix ix_tup (pv 0) pe_int (fun _ _ => rfl)) (pa_cons (pe_ix ix_tup (pv 0) pe_int (fun _ _ => rfl)) pa_nil))))))), ?_⟩
    cases t with
    | src os =>
      obtain ⟨t, d, rfl, ht, ho⟩ := hv
      refine ⟨.ref t, rfl, false, rfl, iteF ⟨.ref t, rfl, t, _, 0, .str "source", rfl, rfl, .inl (.inl ht), rfl, rfl, _, rfl, ?_⟩⟩
      rw [wSS]
      refine iteT ⟨.ref t, rfl, t, _, 1, .ref d, rfl, rfl, .inl (.inl ht), rfl, fun x dx hx hdx nex => ?_⟩
      exact srcMade (CM := CM) hx hdx nex ho fun H' s2 h => q _ H' s2 h
    | mad r as =>
      obtain ⟨t, vr, va, rfl, ht, hr', ha⟩ := hv
      obtain ⟨u, rfl, _⟩ := id ha
      refine ⟨.ref t, rfl, false, rfl, iteF ⟨.ref t, rfl, t, _, 0, .str "made", rfl, rfl, .inl (.inl ht), rfl, rfl, _, rfl, ?_⟩⟩
      rw [wMS]
      refine iteF ⟨.ref t, rfl, t, _, 1, vr, rfl, rfl, .inl (.inl ht), rfl, .ref t, rfl, t, _, 2, .ref u, rfl, rfl, .inl (.inl ht), rfl, fun x dx hx hdx nex => ?_⟩
      exact madMade hx hdx nex hr' ha fun H' s2 h => q _ H' s2 h
def nmsL : List Str := ["h", "b1", "tx2", "q", "k", "azz0zz0z"]
theorem nmsNd : nmsL.Nodup := by unfold nmsL; decide +kernel
theorem nmsLen : ∀ k ∈ nmsL, k.length ≤ 1000 := by unfold nmsL; decide +kernel
def spNms : Sp := fun vs H Q _ => vs = [] ∧ ∀ p, H p = none → Q (.ref p) (upd H p (.lst (nmsL.map V.str)))
theorem scNms : FnScope [] [] (defScope lNames) := ⟨rfl, rfl, rfl, by decide +kernel, rfl, by decide +kernel, by decide +kernel⟩
theorem okNms {k : Nat} (F : FnP K "_law_names" lNames f fd) : FnOk P w K mg base CX0 (k + 1) f fd [] spNms := by
  refine F.ok scNms (fun vs H Q E h => ?_) (fun cdv A outer s H vs Q E hr h => ?_)
  · obtain ⟨rfl, _⟩ := h
    rfl
  · obtain ⟨rfl, q⟩ := h
    exact ⟨_, PSs.nox (pss_one (ps_ret (pe_lst (pa_cons (pe_str) (pa_cons (pe_str) (pa_cons (pe_str) (pa_cons (pe_str) (pa_cons (pe_str) (pa_cons (pe_str) pa_nil))))))))), (by show 6 ≤ sizeLine; decide), fun p hp => q p hp⟩
def spWhole (CS CM CP : Addr) : Sp := fun vs H Q _ => ∃ d T, vs = [.ref d] ∧ KtAt H d T ∧ (T.map (·.1)).Nodup ∧ T.length ≤ 100 ∧ ∀ p H', Same H H' → PjAt CS CM CP H' p T → Q (.ref p) H'
abbrev nWhole : List Str := ["_law_targets", "_law_name"]
theorem scWhole : FnScope nWhole ["_law_targets"] (defScope lPackage) := ⟨rfl, rfl, rfl, by decide +kernel, rfl, by decide +kernel, by decide +kernel⟩
theorem okWhole {k : Nat} (W : Pjc P w K mg base CS CM CP NT NS) (O : Has P w K mg base 3 "_law_one" ["_law_told_here"] (spOne CS CM)) (F : FnP K "_law_package" lPackage f fd) : FnOk P w K mg base CX0 (k + 4) f fd ["_law_targets"] (spWhole CS CM CP) := by
  obtain ⟨fI, dI, MI, bI, GI⟩ := W.mkP
  obtain ⟨fO, fdO, gO, kO, bO, GO⟩ := O.ex
  refine F.ok scWhole (fun vs H Q E h => ?_) (fun cdv A outer s H vs Q E hr h => ?_)
  · obtain ⟨d, T, rfl, _⟩ := h
    rfl
  · obtain ⟨d, T, rfl, ⟨kvs, hd, tT⟩, nd, lT, q⟩ := h
    have hr2 : Room (1 + 1) _ := hr.mono (by omega)
    have hr3 : Room 3 _ := hr.mono (by omega)
    have hu1 : (A.deeper (envOfC "_law_package" (defScope lPackage) s.heap.objs.size f cdv)).units + 1 < cLine := by
      have := hr.units
      omega
    refine ⟨_, PSs.nox (pss_one (ps_ret (pe_make MI GI hr2 (by rfl) W.gP bI .nil pass0 (pa_cons (pe_callTy (T := "dict") (call_dictP rfl) (by rfl) W.md (by decide +kernel) (pa_cons (pe_lock (pe_lc (own := [("_law_name", 1)]) (g := gName 1) rfl scWhole.nd (pi_keys (pv 0)) (blkOk_by (N := nWhole) (sc := defScope lPackage) (by decide +kernel))
        (fun _ _ _ _ _ => pg_name (i := 1) scWhole.nd rfl (.inl rfl) (hf := .inr rfl)) (fun _ _ _ _ _ => pts_nil) (fun _ _ _ _ _ => pe_tup (pa_cons (pv 1) (pa_cons (pe_call GO hr3 (by rfl) gO kO bO .nil pass0 (pa_cons (pe_dget hu1 (pv 0) (pv 1) (fun _ _ => rfl)) pa_nil)) pa_nil))))) pa_nil)) pa_nil)))), ?_⟩
    refine ⟨d, .dK kvs, hd, True.intro, fun od => ?_⟩
    have ed : upd H d (.frz od (.dK kvs)) d = some (.frz od (.dK kvs)) := upd_same
    have eo : ∀ c o, c ≠ d → H c = some o → upd H d (.frz od (.dK kvs)) c = some o := fun c o n h => by rw [upd_ne n]; exact h
    have back : ∀ c o, c ≠ d → upd H d (.frz od (.dK kvs)) c = some o → H c = some o := fun c o n h => by rw [upd_ne n] at h; exact h
    generalize upd H d (.frz od (.dK kvs)) = H1 at *
    refine ⟨.ref d, rfl, d, od, rfl, .inl ⟨kvs, ed, fun D hD => ?_⟩⟩
    have nDd : D ≠ d := fun z => by rw [z, ed] at hD; cases hD
    have lk := tT.len
    have ndk := tT.nd nd
    refine lcJ (n := kvs.length) (vs := [1]) (fun i H2 => ∃ (ps : List Addr) (ks : List (Key × V)), H2 D = some (.lst (ps.map V.ref)) ∧ Paired (fun p (kv : Key × V) => H2 p = some (.tup [kV kv.1, kv.2])) ps ks ∧ Tab (TgAt CS CM H2) ks (T.take i) ∧ ks.length = i ∧ ps.length = i ∧ ∀ b o, H1 b = some o → H2 b = some o)
      ⟨[], [], upd_same, .nil, .nil, rfl, rfl, KS.sameUpd hD⟩ (fun i H2 lt h => by obtain ⟨_, _, _, _, _, _, _, s⟩ := h; exact ⟨s _ _ ed, lt⟩) (fun H2 h => by obtain ⟨_, _, _, _, _, _, _, s⟩ := h; exact ⟨s _ _ ed, Nat.le_refl _⟩) (fun i H2 x H3 lt h y => ?_) (fun H2 h => ?_)
    · obtain ⟨rfl, k, v, ek, rfl⟩ := y
      obtain ⟨ps, ks, eD, pr, tb, l1, l2, s1⟩ := h
      have hm : (k, v) ∈ kvs := List.mem_of_getElem? ek
      obtain ⟨z, t, rfl, mt, ht⟩ := tT.mem k v hm
      have et : T[i]? = some (z, t) := by
        have lt2 : i < T.length := by omega
        have e1 : (kvs.map (·.1))[i]? = some (Sum.inr z) := by rw [List.getElem?_map, ek]; rfl
        rw [tT.keys, List.getElem?_map, List.getElem?_map, List.getElem?_eq_getElem lt2] at e1
        have e2 : T[i].1 = z := Sum.inr.inj (Option.some.inj e1)
        have e3 : tLook T z = some T[i].2 := tMem nd (by rw [← e2]; exact List.getElem_mem lt2)
        have e4 := tMem nd mt
        rw [e3] at e4
        rw [List.getElem?_eq_getElem lt2, ← e2, ← Option.some.inj e4]
      have hv : valV kvs (.inr z) = some v := valMem ndk hm
      obtain ⟨x1, ex1⟩ := ht.rf
      have ht1 : ToAt H3 v t := toLock hd (ex1 ▸ hm) (fun c o n h => s1 _ _ (eo c o n h)) ht
      refine ⟨rfl, ?_⟩
      unfold tYes
      dsimp only
      rw [if_pos rfl]
      refine ⟨.str z, rfl, .ref d, rfl, .str z, rfl, d, v, rfl, .inl ⟨kvs, .inr z, .inr ⟨od, s1 _ _ ed⟩, rfl, hv.symm⟩, v, t, rfl, ht1, fun r H4 s4 hr4 => ⟨(by show 2 ≤ sizeLine; decide), fun U hU => ?_⟩⟩
      have sU := KS.sameUpd (o := .tup [.str z, r]) hU
      have eU : upd H4 U (.tup [.str z, r]) U = some (.tup [.str z, r]) := upd_same
      have sA := s4.trans sU
      have hr5 := hr4.stl (Stl.same sU)
      generalize upd H4 U (.tup [.str z, r]) = H5 at *
      have eD5 := sA _ _ eD
      have t6 : Stl H5 (upd H5 D (.lst (ps.map V.ref ++ [.ref U]))) := Stl.lst eD5 Kp.put
      have tA : Stl H3 _ := (Stl.same sA).trans t6
      have up : ∀ {ps : List Addr} {ks : List (Key × V)} {H H' : Hp}, Stl H H' → Paired (fun p (o : Key × V) => H p = some (.tup [kV o.1, o.2])) ps ks → Paired (fun p (o : Key × V) => H' p = some (.tup [kV o.1, o.2])) ps ks := fun t h => by
        induction h with
        | nil => exact .nil
        | cons h _ ih => exact .cons (t _ _ h fun _ z => nomatch z) ih
      refine ⟨ps.map V.ref, eD5, by rw [sizeLine_eq, List.length_map]; omega, ps ++ [U], ks ++ [(.inr z, r)], by rw [List.map_append]; exact upd_same, (up tA pr).snoc (t6 _ _ (show H5 U = some (.tup [kV (Sum.inr z : Key), r]) from eU) fun _ z => nomatch z), ?_, by rw [List.length_append, l1]; rfl, by rw [List.length_append, l2]; rfl, fun b o hb => ?_⟩
      · rw [List.take_succ, et]
        exact Tab.append (tb.tg tA) (hr5.stl t6)
      · rw [upd_ne (ne_of_none hb hD)]
        exact sA _ _ (s1 _ _ hb)
    · obtain ⟨ps, ks, eD, pr, tb, l1, l2, s1⟩ := h
      rw [lk, List.take_length] at tb
      refine ⟨s1 _ _ ed, ?_⟩
      have eo2 : ∀ c o, c ≠ d → H2 c = some o → upd H2 d (.dK kvs) c = some o := fun c o n h => by rw [upd_ne n]; exact h
      have pr2 : Paired (fun p (kv : Key × V) => SqT K (upd H2 d (.dK kvs)) p [kV kv.1, kv.2]) ps ks := by
        clear eD l1 l2 tb
        induction pr with
        | nil => exact .nil
        | cons h _ ih => exact .cons (.inl (.inl (eo2 _ _ (fun z => by rw [z, s1 _ _ ed] at h; cases h) h))) ih
      have tb2 : Tab (TgAt CS CM (upd H2 d (.dK kvs))) ks T := tb.imp fun _ _ _ _ _ h => tgFree (s1 _ _ ed) eo2 h
      have sA : Same H (upd H2 d (.dK kvs)) := fun b x hb => by
        by_cases e : b = d
        · subst e
          rw [upd_same, ← hb, hd]
        · exact eo2 _ _ e (s1 _ _ (eo _ _ e hb))
      have eD2 := eo2 _ _ nDd eD
      generalize upd H2 d (.dK kvs) = H3 at *
      refine ⟨D, ps, ks, rfl, .inl (.inl eD2), pr2, fun u hu => ?_⟩
      have em := mergeApp ks [] (by rw [List.nil_append]; exact tb2.nd nd)
      rw [List.nil_append] at em
      rw [em]
      have su := KS.sameUpd (o := .dK ks) hu
      refine fun x dx hx hdx nex => ?_
      exact pjMade hx hdx nex upd_same (tb2.tg (Stl.same su)) fun H' s2 h => q x H' (sA.trans (su.trans s2)) h
end
end PJ

set_option Elab.async false
set_option linter.all false
set_option maxRecDepth 100000
set_option maxHeartbeats 8000000
/-! the law's look at a project -/
namespace PJ
open PySem PySem.Spec PyProof.Rows L2 KS KS.La
open KX hiding sameUpd
abbrev lIsP : Stmt := top 34
theorem tgLock1 {CS CM : Addr} {H H' : Hp} {d : Addr} {kvs : List (Key × V)} {k1 : Key} {x1 : Addr} (hd : H d = some (.dK kvs)) (m1 : (k1, V.ref x1) ∈ kvs) (e : ∀ c o, c ≠ d → H c = some o → H' c = some o) {v : V} {t : Tg} (h : TgAt CS CM H v t) : TgAt CS CM H' v t := by
  have ne : ∀ {c o}, H c = some o → (∀ ks, o ≠ .dK ks) → H' c = some o := fun {c o} hc hn => e c o (fun z => by rw [z, hd] at hc; exact hn _ (Option.some.inj hc).symm) hc
  have nd : ∀ {c os}, H c = some (.dK (oK os)) → H' c = some (.dK (oK os)) := fun {c os} hc => e c _ (fun z => by
    rw [z, hd] at hc
    have : kvs = oK os := by
      have := Option.some.inj hc
      injection this
    rw [this] at m1
    obtain ⟨z, ez⟩ := oK_str _ m1
    cases ez) hc
  cases t with
  | src os =>
    obtain ⟨x, dx, d', rfl, hx, ho, r⟩ := h
    exact ⟨x, dx, d', rfl, ne hx (fun _ z => nomatch z), nd ho, r⟩
  | mad r as =>
    obtain ⟨x, dx, vr, va, rfl, hx, hr, ⟨u, e1, hu, g⟩⟩ := h
    refine ⟨x, dx, vr, va, rfl, ne hx (fun _ z => nomatch z), ?_, ⟨u, e1, ne hu (fun _ z => nomatch z), g⟩⟩
    cases r with
    | txt z => exact hr
    | key a b => exact ⟨let ⟨t, e, h⟩ := hr.1; ⟨t, e, ne h (fun _ z => nomatch z)⟩, hr.2⟩
theorem osE_da {os os' : Outs} (nd : (os.map (·.1)).Nodup) (h : osE os os' = true) : (oK os).length = (oK os').length ∧ ∀ p ∈ oK os, valV (oK os') p.1 = some p.2 ∧ flatB p.2 = true := by
  unfold osE at h
  rw [Bool.and_eq_true, beq_iff_eq, List.all_eq_true] at h
  refine ⟨h.1, fun p hp => ?_⟩
  have h2 := h.2 p hp
  rw [Bool.and_eq_true] at h2
  obtain ⟨z, ez⟩ := oK_str p hp
  have hv : valV (oK os) p.1 = some p.2 := valMem (oK_nd nd) hp
  cases e : valV (oK os') p.1 with
  | none => rw [e] at h2; exact nomatch h2.1
  | some u =>
    have h3 := h2.2
    unfold eF at h3
    rw [hv, e] at h3
    have hm := valMem2 e
    obtain ⟨y, ey⟩ := oK_str _ hm
    have ey' : u = .str y := ey
    rw [ez, ey'] at h3
    have : z = y := by
      have h4 : (z == y) = true := by
        revert h3
        show (true && (z == y)) = true → _
        simp
      exact eq_of_beq h4
    rw [ey', ez, this]
    exact ⟨rfl, rfl⟩
/-- like tables, name by name -/
theorem tbE_at {T T' : Tb} (nd : (T.map (·.1)).Nodup) (nd' : (T'.map (·.1)).Nodup) (pm : (T.map (·.1)).Perm (T'.map (·.1))) (h : tbE T T' = true) : ∀ k t', (k, t') ∈ T' → ∃ t, tLook T k = some t ∧ tgE t t' = true := fun k t' hm => by
  have hk : k ∈ T.map (·.1) := pm.mem_iff.mpr (List.mem_map.mpr ⟨_, hm, rfl⟩)
  obtain ⟨⟨k2, t⟩, hp, rfl⟩ := List.mem_map.mp hk
  unfold tbE at h
  rw [Bool.and_eq_true, List.all_eq_true] at h
  have h2 := h.2 _ hp
  rw [Bool.and_eq_true] at h2
  have e1 := tMem nd hp
  have e2 := tMem nd' hm
  refine ⟨t, e1, ?_⟩
  have h3 := h2.2
  unfold teF at h3
  dsimp only at h3
  rw [e1, e2] at h3
  exact h3
theorem wSM : decide (V.str "source" = V.str "made") = false := by decide +kernel
theorem wMM : decide (V.str "made" = V.str "made") = true := decide_eq_true rfl
section
variable {P : Program} {w : World} {K : PySem.W.Frag} {mg : Str → Option Value} {base : Heap} {f : Addr} {fd : FuncData} {CS CM CP NT NS : Addr}
structure Lip (P : Program) (w : World) (K : PySem.W.Frag) (mg : Str → Option Value) (base : Heap) (CS CM CP : Addr) : Prop where
  eqP : ∃ (f : Addr) (fd : FuncData), PySem.W.findIn K (.ref CP) "__eq__" = some (some (.ref f)) ∧ PySem.W.isFn K (.ref f) = true ∧ Binds K fd ["self", "other"] [] ∧ FnOk P w K mg base CX0 3 f fd ["self", "other"] (spPEq CS CM CP)
  nP : PySem.W.findIn K (.ref CP) "__ne__" = some (some (.builtin "object.__ne__"))
  oP : PySem.W.mroIn K CP (.type "object") = some true
  rcp : ∃ (p g : Addr) (fd : FuncData), PropOf K CM "recipe" p g ∧ Binds K fd ["self"] [] ∧ FnOk P w K mg base CX0 1 g fd ["self"] (getSp CM "_recipe")
  arg : ∃ (p g : Addr) (fd : FuncData), PropOf K CM "arguments" p g ∧ Binds K fd ["self"] [] ∧ FnOk P w K mg base CX0 1 g fd ["self"] (getSp CM "_arguments")
  kMM : PySem.W.kitOne K (.ref CM) (.ref CM) = some true
def spIsP (CS CM CP : Addr) : Sp := fun vs H Q _ => ∃ p d T T', vs = [.ref p, .ref d] ∧ PjAt CS CM CP H p T ∧ KtAt H d T' ∧ (T.map (·.1)).Nodup ∧ (T'.map (·.1)).Nodup ∧ (T.map (·.1)).Perm (T'.map (·.1)) ∧ T'.length ≤ 60 ∧ (∀ k ∈ T'.map (·.1), TOk k) ∧ tbE T T' = true ∧ ∀ H', Same H H' → Q (.bl true) H'
abbrev nIsP : List Str := ["_law_project", "_law_targets", "_law_name", "_law_told_here", "_law_target_here"]
theorem scIsP : FnScope nIsP ["_law_project", "_law_targets"] (defScope lIsP) := ⟨rfl, rfl, rfl, by decide +kernel, rfl, by decide +kernel, by decide +kernel⟩
theorem okIsP {k : Nat} (W : Pjc P w K mg base CS CM CP NT NS) (A' : Pas P w K mg base CP NT) (L : Lip P w K mg base CS CM CP) (Pc : Has P w K mg base 4 "_law_package" ["_law_targets"] (spWhole CS CM CP)) (F : FnP K "_law_is_project" lIsP f fd) : FnOk P w K mg base CX0 (k + 6) f fd ["_law_project", "_law_targets"] (spIsP CS CM CP) := by
  obtain ⟨fG, dG, hG1, hG2, hG3, bG, GG⟩ := A'.get
  obtain ⟨pN, gN, dN, hN, bN, GN⟩ := A'.nam
  obtain ⟨fQ, dQ, hQ, iQ, bQ, GQ⟩ := L.eqP
  obtain ⟨pr, gr, dr, hRc, bRc, GRc⟩ := L.rcp
  obtain ⟨pa, ga, da, hAr, bAr, GAr⟩ := L.arg
  obtain ⟨po, go, dO, hO, bO, GO⟩ := W.outS
  obtain ⟨fP, fdP, gP, kP, bP, GP⟩ := Pc.ex
  refine F.ok scIsP (fun vs H Q E h => ?_) (fun cdv A outer s H vs Q E hr h => ?_)
  · obtain ⟨p, d, T, T', rfl, _⟩ := h
    rfl
  · obtain ⟨p, d, T, T', rfl, hp, hd, nd, nd', pm, l6, tok, eq, q⟩ := h
    have hr1 : Room 1 _ := hr.mono (by omega)
    have hr2 : Room (1 + 1) _ := hr.mono (by omega)
    have hr4 : Room 4 _ := hr.mono (by omega)
    have hr4' : Room (3 + 1) _ := hr.mono (by omega)
    refine ⟨_, PSs.nox (C8.pss_cut (ps_if (PW.pt (pw_or (pt_cmpR (r := rNeD K) (op_neD hr.units) (pe_prop (pv 0) W.iP.cl hN GN hr2 bN .nil pass0 rfl) (pe_callTy (T := "tuple") call_tuple_of (by rfl) W.mt (by decide +kernel) (pa_cons (pe_callB (call_sortedD rfl) (by rfl) W.ms (by decide +kernel) (pa_cons (pv 1) pa_nil)) pa_nil)) (nomark _))
          (pw_or1 (pt_cmpR (r := OD.rNeOwn CP (spPEq CS CM CP) E0) (OD.op_neOwn GQ hr4' hQ iQ bQ pass0 L.nP L.oP) (pv 0) (pe_call GP hr4 (by rfl) gP kP bP .nil pass0 (pa_cons (pv 1) pa_nil)) (nomark _))))) (pss_one (ps_ret pe_bl)) pss_nil) (pss_cons (ps_lock (ps_for PassesOwn.never rfl (pi_items (pv 1)) (pg_tup rfl (pgs_cons (pg_name (i := 2) scIsP.nd rfl (.inl rfl)) (pgs_cons (pg_name (i := 3) scIsP.nd rfl (.inl rfl)) pgs_nil)))
        (C8.pss_cut (ps_set (i := 4) scIsP.nd rfl (.inl rfl) (OD.pe_ixO (E := fun _ => E0) (pv 0) (pv 2) GG hr4' hG1 hG2 hG3 bG (fun _ => OD.passAt0))) (C8.pss_cut (ps_if (PW.pt (pw_and (pt_cmpR op_eq (pe_ix ix_tup (pv 3) pe_int (fun _ _ => rfl)) pe_str (nomark _)) (pw_and1 (PW.pt (pw_or (pt_not (pt_val (pe_callB call_isi (by rfl) W.mi (by decide +kernel) (pa_cons (pv 4) (pa_cons (pe_glob (v := .ref CS) (by rfl) W.gS rfl) pa_nil))))) (pw_or1 (pt_cmpR (op_ne_dictA hr.units0) (pe_prop (pv 4) W.iS.cl hO GO hr2 bO .nil pass0 rfl) (pe_ix ix_tup (pv 3) pe_int (fun _ _ => rfl)) (nomark _)))))))) (pss_one (ps_ret pe_bl)) pss_nil) (C8.pss_cut (ps_if (PW.pt (pw_and (pt_cmpR op_eq (pe_ix ix_tup (pv 3) pe_int (fun _ _ => rfl)) pe_str (nomark _)) (pw_and1 (PW.pt (pw_or (pt_not (pt_val (pe_callB call_isi (by rfl) W.mi (by decide +kernel) (pa_cons (pv 4) (pa_cons (pe_glob (v := .ref CM) (by rfl) W.gM rfl) pa_nil))))) (pw_or1 (pt_cmpR (r := rNeD K) (op_neD hr.units) (pe_prop (pv 4) W.iM.cl hRc GRc hr2 bRc .nil pass0 rfl) (pe_ix ix_tup (pv 3) pe_int (fun _ _ => rfl)) (nomark _)))))))) (pss_one (ps_ret pe_bl)) pss_nil) (pss_one (ps_if (PW.pt (pw_and (pt_cmpR op_eq (pe_ix ix_tup (pv 3) pe_int (fun _ _ => rfl)) pe_str (nomark _)) (pw_and1 (pt_cmpR (r := rNeD K) (op_neD hr.units) (pe_prop (pv 4) W.iM.cl hAr GAr hr2 bAr .nil pass0 rfl) (pe_ix ix_tup (pv 3) pe_int (fun _ _ => rfl)) (nomark _))))) (pss_one (ps_ret pe_bl)) pss_nil))))))) (pss_one (ps_ret pe_bl)))), ?_⟩
    obtain ⟨kp, hpr, tP⟩ := id hp
    obtain ⟨kd, ed, tD⟩ := id hd
    obtain ⟨dp, Dp, ha, eDa⟩ := id hpr
    have lT : (T.map (·.1)).length = (T'.map (·.1)).length := pm.length_eq
    have lT' : (T'.map (·.1)).length ≤ 60 := by rw [List.length_map]; exact l6
    refine ⟨fun σ' H' => σ' = [some (.ref p), some (.ref d), none, none, none] ∧ Same H H', ?_, ?_⟩
    · refine ⟨.ref p, rfl, p, dp, _, rfl, ha, p, kp, T.map (·.1), rfl, hpr, tP.keys, by omega, fun ys t H1 py sy s1 et => ?_⟩
      refine ⟨.ref d, rfl, d, kd, T'.map (·.1), rfl, .inl (s1 _ _ ed), tD.keys, by omega, fun zs u pz sz hu => ?_⟩
      have s2 := KS.sameUpd (o := .lst (zs.map V.str)) hu
      refine ⟨u, _, rfl, .inl ⟨.inl (.inl upd_same), fun t2 ht2 => ?_⟩⟩
      have s3 := KS.sameUpd (o := .tup (zs.map V.str)) ht2
      have eyz : ys = zs := SU.uniq (py.trans (pm.trans pz.symm)) sy sz
      subst eyz
      have ly : ys.length ≤ 100 := by rw [pz.length_eq]; omega
      have ty : ∀ z ∈ ys, TOk z := fun z hz => tok z (pz.mem_iff.mp hz)
      have sh := argsShaped ly ty
      have s4 := s1.trans (s2.trans s3)
      refine ⟨argsD ys, argsD ys, .tup (.inl (.inl (s3 _ _ (s2 _ _ et)))) (dpStrs ys), .tup (.inl (.inl upd_same)) (dpStrs ys), sh, sh, false, by rw [SeqAt.eqv_refl _ (SeqAt.canLay_of_shaped sh)]; rfl, iteF ?_⟩
      refine ⟨.ref p, rfl, .ref d, rfl, d, T', rfl, hd.stl (Stl.same s4), nd', by omega, fun p2 H3 s5 pj2 => ?_⟩
      have s6 := s4.trans s5
      obtain ⟨kp2, ⟨dp2, Dp2, hp2, _⟩, _⟩ := id pj2
      refine ⟨p, p2, dp, _, dp2, _, rfl, rfl, s6 _ _ ha, hp2, p, p2, T, rfl, hp.stl (Stl.same s6), nd, .inl ⟨T', pj2, fun H' s' => ⟨tbE T T', rfl, false, by rw [eq]; rfl, iteF ⟨rfl, s6.trans s'⟩⟩⟩⟩
    rintro _ H1 ⟨rfl, s1⟩
    have hp1 := hp.stl (Stl.same s1)
    have ed1 := s1 _ _ ed
    have tD1 := tD.to (Stl.same s1)
    have tP1 := tP.tg (Stl.same s1)
    have hpr1 := hpr.stl (Stl.same s1)
    obtain ⟨dp1, Dp1, ha1, eDa1⟩ := id hpr1
    refine ⟨d, .dK kd, ed1, True.intro, fun od => ?_⟩
    have eo : ∀ c o, c ≠ d → H1 c = some o → upd H1 d (.frz od (.dK kd)) c = some o := fun c o n h => by rw [upd_ne n]; exact h
    have ef : upd H1 d (.frz od (.dK kd)) d = some (.frz od (.dK kd)) := upd_same
    have back : ∀ c o, c ≠ d → upd H1 d (.frz od (.dK kd)) c = some o → H1 c = some o := fun c o n h => by rw [upd_ne n] at h; exact h
    generalize upd H1 d (.frz od (.dK kd)) = H2 at *
    have lk := tD1.len
    refine ⟨.ref d, rfl, d, od, kd, rfl, ef, ?_⟩
    refine forJ (n := kd.length) (fun i σ' H' => (∃ x2 x3 x4, σ' = [some (.ref p), some (.ref d), x2, x3, x4]) ∧ Same H2 H') ⟨⟨none, none, none, rfl⟩, Same.refl _⟩ (fun i σ' H' lt h => ⟨h.2 _ _ ef, lt⟩) (fun σ' H' h => ⟨h.2 _ _ ef, Nat.le_refl _⟩) (fun i σ' H3 x H4 lt h y => ?_) (fun σ' H' h => ?_)
    · obtain ⟨⟨x2, x3, x4, rfl⟩, s3⟩ := h
      obtain ⟨U, k, v, ek, rfl, hU, rfl⟩ := y
      have sU := s3.trans (KS.sameUpd (o := .tup [kV k, v]) hU)
      have eU : upd H3 U (.tup [kV k, v]) U = some (.tup [kV k, v]) := upd_same
      generalize upd H3 U (.tup [kV k, v]) = H5 at *
      have hm : (k, v) ∈ kd := List.mem_of_getElem? ek
      obtain ⟨z, t', rfl, mt, ht⟩ := tD1.mem k v hm
      obtain ⟨x1, ex1⟩ := ht.rf
      have m1 : ((.inr z : Key), V.ref x1) ∈ kd := ex1 ▸ hm
      have out : ∀ c o, c ≠ d → H1 c = some o → H5 c = some o := fun c o n h => sU _ _ (eo c o n h)
      have ht5 : ToAt H5 v t' := toLock ed1 m1 out ht
      obtain ⟨t, et, htt⟩ := tbE_at nd nd' pm eq z t' mt
      obtain ⟨vt, ev, htg⟩ : ∃ vt, valV kp (.inr z) = some vt ∧ TgAt CS CM H1 vt t := by
        rcases tP1.look z with ⟨_, e⟩ | ⟨v2, t2, e1, e2, h2⟩
        · rw [et] at e; cases e
        · rw [et] at e2
          cases e2
          exact ⟨v2, e1, h2⟩
      have ht6 : TgAt CS CM H5 vt t := tgLock1 ed1 m1 out htg
      have nDd : Dp1 ≠ d := fun e => by
        rw [e, ed1] at eDa1
        have : kp = kd := by
          have := Option.some.inj eDa1
          injection this with this
          exact this.symm
        rw [this] at tP1
        obtain ⟨z2, t2, e2, _, h2⟩ := tP1.mem _ _ m1
        rw [ex1] at ht
        cases t2 with
        | src os => obtain ⟨y, _, _, ey, hy, _⟩ := h2; cases ey; cases t' with
          | src os' => obtain ⟨y', _, ey', hy', _⟩ := ht; cases ey'; rw [hy] at hy'; cases hy'
          | mad r as => obtain ⟨y', _, _, ey', hy', _⟩ := ht; cases ey'; rw [hy] at hy'; cases hy'
        | mad r2 as2 => obtain ⟨y, _, _, _, ey, hy, _⟩ := h2; cases ey; cases t' with
          | src os' => obtain ⟨y', _, ey', hy', _⟩ := ht; cases ey'; rw [hy] at hy'; cases hy'
          | mad r as => obtain ⟨y', _, _, ey', hy', _⟩ := ht; cases ey'; rw [hy] at hy'; cases hy'
      have npd : p ≠ d := fun e => by rw [e, ed1] at ha1; cases ha1
      have pr5 : PrAt CP H5 p kp := ⟨dp1, Dp1, out _ _ npd ha1, out _ _ nDd eDa1⟩
      refine ⟨U, _, rfl, .inl (.inl eU), rfl, .str z, _, rfl, v, _, rfl, rfl, ?_⟩
      refine ⟨fun σ' H' => σ' = [some (.ref p), some (.ref d), some (.str z), some v, some vt] ∧ H' = H5, ?_, ?_⟩
      · refine ⟨.ref p, rfl, .str z, rfl, p, dp1, _, rfl, out _ _ npd ha1, p, kp, z, rfl, pr5, fun v' hv' => ?_, fun hn => ?_⟩
        · obtain rfl : vt = v' := Option.some.inj (ev.symm.trans hv')
          exact ⟨rfl, rfl⟩
        · rw [ev] at hn
          cases hn
      rintro _ H6 ⟨rfl, rfl⟩
      cases t with
      | src os =>
        cases t' with
        | mad r as => exact nomatch htt
        | src os' =>
          obtain ⟨x, dx, g, rfl, hx, hos⟩ := ht6
          obtain ⟨t5, d5, rfl, ht5, hos'⟩ := ht5
          obtain ⟨el, ea⟩ := osE_da hos.2.1 htt
          refine ⟨fun σ' H' => σ' = [some (.ref p), some (.ref d), some (.str z), some (.ref t5), some (.ref x)] ∧ Same H6 H', ?_, ?_⟩
          · refine ⟨.ref t5, rfl, t5, _, 0, .str "source", rfl, rfl, .inl (.inl ht5), rfl, rfl, _, rfl, ?_⟩
            rw [wSS]
            refine iteT ⟨.ref x, rfl, .ref x, .ref CS, .ref CS, .ref CS, true, rfl, .own CS, W.iS.ty hx, W.kSS, true, rfl, iteF ?_⟩
            refine ⟨.ref x, rfl, x, dx, _, rfl, hx, x, dx, g, oK os, rfl, hx, hos.1, fun u hu => ?_⟩
            have su := KS.sameUpd (o := .dK (oK os)) hu
            exact ⟨.ref t5, rfl, t5, _, 1, .ref d5, rfl, rfl, .inl (.inl (su _ _ ht5)), rfl, u, d5, oK os, oK os', rfl, rfl, upd_same, su _ _ hos'.1, el, ea, false, rfl, iteF ⟨rfl, su⟩⟩
          rintro _ H7 ⟨rfl, s7⟩
          refine ⟨fun σ' H' => σ' = [some (.ref p), some (.ref d), some (.str z), some (.ref t5), some (.ref x)] ∧ H' = H7, ?_, ?_⟩
          · refine ⟨.ref t5, rfl, t5, _, 0, .str "source", rfl, rfl, .inl (.inl (s7 _ _ ht5)), rfl, rfl, _, rfl, ?_⟩
            rw [wSM]
            exact iteF (iteF ⟨rfl, rfl⟩)
          rintro _ H8 ⟨rfl, rfl⟩
          refine ⟨.ref t5, rfl, t5, _, 0, .str "source", rfl, rfl, .inl (.inl (s7 _ _ ht5)), rfl, rfl, _, rfl, ?_⟩
          rw [wSM]
          exact iteF (iteF ⟨⟨_, _, _, rfl⟩, sU.trans s7⟩)
      | mad r as =>
        cases t' with
        | src os' => exact nomatch htt
        | mad r' as' =>
          obtain ⟨x, dx, vr, va, rfl, hx, hr', has⟩ := ht6
          obtain ⟨t5, vr5, va5, rfl, ht5, hr5, has5⟩ := ht5
          have h2 : (PyData.eqv (rcD r) (rcD r') && PyData.eqv (argsD as) (argsD as')) = true := htt
          rw [Bool.and_eq_true] at h2
          refine ⟨fun σ' H' => σ' = [some (.ref p), some (.ref d), some (.str z), some (.ref t5), some (.ref x)] ∧ H' = H6, ?_, ?_⟩
          · refine ⟨.ref t5, rfl, t5, _, 0, .str "made", rfl, rfl, .inl (.inl ht5), rfl, rfl, _, rfl, ?_⟩
            rw [wMS]
            exact iteF (iteF ⟨rfl, rfl⟩)
          rintro _ H7 ⟨rfl, rfl⟩
          refine ⟨fun σ' H' => σ' = [some (.ref p), some (.ref d), some (.str z), some (.ref t5), some (.ref x)] ∧ H' = H7, ?_, ?_⟩
          · refine ⟨.ref t5, rfl, t5, _, 0, .str "made", rfl, rfl, .inl (.inl ht5), rfl, rfl, _, rfl, ?_⟩
            rw [wMM]
            refine iteT ⟨.ref x, rfl, .ref x, .ref CM, .ref CM, .ref CM, true, rfl, .own CM, W.iM.ty hx, L.kMM, true, rfl, iteF ?_⟩
            exact ⟨.ref x, rfl, x, dx, _, rfl, hx, x, dx, _, vr, rfl, hx, rfl, .ref t5, rfl, t5, _, 1, vr5, rfl, rfl, .inl (.inl ht5), rfl, rcD r, rcD r', hr'.dp.1, hr5.dp.1, (hr'.dp (K := K)).2, (hr5.dp (K := K)).2, false, by rw [h2.1]; rfl, iteF ⟨rfl, rfl⟩⟩
          rintro _ H8 ⟨rfl, rfl⟩
          refine ⟨.ref t5, rfl, t5, _, 0, .str "made", rfl, rfl, .inl (.inl ht5), rfl, rfl, _, rfl, ?_⟩
          rw [wMM]
          refine iteT ⟨.ref x, rfl, x, dx, _, rfl, hx, x, dx, _, va, rfl, hx, rfl, .ref t5, rfl, t5, _, 2, va5, rfl, rfl, .inl (.inl ht5), rfl, argsD as, argsD as', has.dp.1, has5.dp.1, (has.dp (K := K)).2, (has5.dp (K := K)).2, false, by rw [h2.2]; rfl, iteF ?_⟩
          exact ⟨⟨_, _, _, rfl⟩, sU⟩
    · obtain ⟨⟨x2, x3, x4, rfl⟩, s3⟩ := h
      refine ⟨s3 _ _ ef, ?_⟩
      refine q _ fun b o hb => ?_
      by_cases c : b = d
      · rw [c, upd_same, ← hb, c, ed]
      · rw [upd_ne c]
        exact s3 _ _ (eo _ _ c (s1 _ _ hb))
end
end PJ

set_option Elab.async false
set_option linter.all false
set_option maxRecDepth 100000
set_option maxHeartbeats 4000000
/-! what is found at a name, for the law's plans -/
namespace PJ
open PySem PySem.Spec PyProof.Rows L2 KS KS.La
theorem emptyApp (nm : Str) : Str.empty ++ nm = nm := by
  show (⟨#[] ++ nm.cps⟩ : Str) = nm
  cases nm
  simp
theorem dotS_eq (nm y : Str) : dotS nm y = (nm ++ ("." : Str)) ++ y := by
  unfold dotS
  rw [emptyApp]
def keys3 (B O R : Outs) : List Str := B.map (·.1) ++ (O.map (·.1) ++ R.map (·.1))
theorem msMay {nm : Str} {b o p : Option Tg} {cs : List Str} {r : Option Tg} (hm : mayT b o p = true) (h : MS nm b o p cs r) : cs = [] ∧ r = if oE o b = true then p else o := by
  rcases h with ⟨_, a, b⟩ | ⟨e, _⟩
  · exact ⟨a, b⟩
  · rw [hm] at e; cases e
theorem msElse {nm : Str} {b o p : Option Tg} {cs : List Str} {r : Option Tg} (hm : mayT b o p = false) (hs : (isS o && (isS p && (decide (b = none) || isS b))) = false) (h : MS nm b o p cs r) : cs = [nm] ∧ r = none := by
  rcases h with ⟨e, _⟩ | ⟨_, ⟨B, O, R, ys, hb, rfl, rfl, _⟩ | ⟨_, a, b⟩⟩
  · rw [hm] at e; cases e
  · rcases hb with ⟨rfl, _⟩ | rfl
    · exact nomatch hs
    · exact nomatch hs
  · exact ⟨a, b⟩
theorem permOfMem {l m : List Str} (h1 : l.Nodup) (h2 : m.Nodup) (h : ∀ z, z ∈ l ↔ z ∈ m) : l.Perm m := (List.perm_ext_iff_of_nodup h1 h2).mpr h
theorem msSrc {nm : Str} {b : Option Tg} {B O R : Outs} {cs : List Str} {r : Option Tg} {ks : List Str} (hb : (b = none ∧ B = []) ∨ b = some (.src B)) (hm : mayT b (some (.src O)) (some (.src R)) = false) (hk : ks.Nodup)
    (h1 : ∀ k ∈ ks, k ∈ keys3 B O R) (h2 : ∀ k ∈ keys3 B O R, k ∈ ks) (h : MS nm b (some (.src O)) (some (.src R)) cs r) : cs.Perm (csF nm B O R ks) ∧ ∃ ys, ys.Perm ks ∧ r = some (.src (osF B O R ys)) := by
  rcases h with ⟨e, _⟩ | ⟨_, ⟨B', O', R', ys, hb', eo, er, nd, mem, ec, err⟩ | ⟨hs, _, _⟩⟩
  · rw [hm] at e; cases e
  · cases eo
    cases er
    have eB : B' = B := by
      rcases hb with ⟨rfl, rfl⟩ | rfl
      · rcases hb' with ⟨_, rfl⟩ | e
        · rfl
        · cases e
      · rcases hb' with ⟨e, _⟩ | e
        · cases e
        · cases e; rfl
    subst eB
    have pm : ys.Perm ks := permOfMem nd hk fun z => by
      rw [mem z]
      constructor
      · intro h
        refine h2 z ?_
        unfold keys3
        rw [List.mem_append, List.mem_append]
        exact h
      · intro h
        have := h1 z h
        unfold keys3 at this
        rw [List.mem_append, List.mem_append] at this
        exact this
    subst ec err
    refine ⟨?_, ys, pm, rfl⟩
    unfold csF
    exact (pm.filter _).map _
  · rcases hb with ⟨rfl, _⟩ | rfl
    · exact nomatch hs
    · exact nomatch hs
/-! ### planted -/
def sO (a f : Str) : Option Tg := some (.src [("o", a), ("z9z9z9z9", f)])
def tPlain : Option Tg := sO "0" "1"
def tMade : Option Tg := some (.mad (.txt "make") [])
def tOther : Option Tg := some (.mad (.txt "make") ["0"])
def tA : Option Tg := sO "a" "1"
def tB : Option Tg := sO "b" "1"
def tGone : Option Tg := some (.src [("z9z9z9z9", "1")])
def tBoth : Option Tg := sO "b" "9"
def tEmpty : Option Tg := some (.src [])
/-- the rows: base, one, other; the outputs that clash, none if the target itself does -/
def plRow : Nat → Option Tg × Option Tg × Option Tg × List Str
  | 0 => (tPlain, tA, tB, ["o"])
  | 1 => (tPlain, tGone, tA, ["o"])
  | 2 => (tPlain, tEmpty, tBoth, ["o", "z9z9z9z9"])
  | 3 => (tPlain, none, tA, [])
  | 4 => (tPlain, tMade, tA, [])
  | 5 => (tMade, tOther, none, [])
  | 6 => (tMade, tA, tB, [])
  | 7 => (none, tA, tB, ["o"])
  | 8 => (none, tMade, tOther, [])
  | _ => (none, tA, tMade, [])
def plW (nm : Str) (ks : List Str) : List Str := if ks = [] then [nm] else ks.map (dotS nm)
theorem plWn (nm : Str) {ks : List Str} (h : ks = []) : plW nm ks = [nm] := if_pos h
theorem plWs (nm : Str) {ks : List Str} (h : ks ≠ []) : plW nm ks = ks.map (dotS nm) := if_neg h
theorem csF_of {nm : Str} {B O R : Outs} {ks ws : List Str} (h : (ks.filter fun y => !mayY B O R y) = ws) : csF nm B O R ks = ws.map (dotS nm) := by
  unfold csF
  rw [h]
theorem planted (i : Nat) (nm : Str) (cs : List Str) (r : Option Tg) :
    (MS nm (plRow i).1 (plRow i).2.1 (plRow i).2.2.1 cs r → cs.Perm (plW nm (plRow i).2.2.2)) ∧ (MS nm (plRow i).1 (plRow i).2.2.1 (plRow i).2.1 cs r → cs.Perm (plW nm (plRow i).2.2.2)) := by
  have src : ∀ {b : Option Tg} {B O R : Outs} (ks ws : List Str), ((b = none ∧ B = []) ∨ b = some (.src B)) → mayT b (some (.src O)) (some (.src R)) = false → ks.Nodup → (∀ k ∈ ks, k ∈ keys3 B O R) → (∀ k ∈ keys3 B O R, k ∈ ks) → (ks.filter fun y => !mayY B O R y) = ws → ws ≠ [] →
      MS nm b (some (.src O)) (some (.src R)) cs r → cs.Perm (plW nm ws) := fun ks ws hb hm hk h1 h2 hf hw h => by
    have := (msSrc hb hm hk h1 h2 h).1
    rw [csF_of hf] at this
    rw [plWs nm hw]
    exact this
  have els : ∀ {b o p : Option Tg}, mayT b o p = false → (isS o && (isS p && (decide (b = none) || isS b))) = false → MS nm b o p cs r → cs.Perm (plW nm []) := fun hm hs h => by
    rw [(msElse hm hs h).1, plWn nm rfl]
  match i with
  | 0 => exact ⟨src ["o", "z9z9z9z9"] ["o"] (.inr rfl) (by decide +kernel) (by decide +kernel) (by decide +kernel) (by decide +kernel) (by decide +kernel) (by simp), src ["o", "z9z9z9z9"] ["o"] (.inr rfl) (by decide +kernel) (by decide +kernel) (by decide +kernel) (by decide +kernel) (by decide +kernel) (by simp)⟩
  | 1 => exact ⟨src ["o", "z9z9z9z9"] ["o"] (.inr rfl) (by decide +kernel) (by decide +kernel) (by decide +kernel) (by decide +kernel) (by decide +kernel) (by simp), src ["o", "z9z9z9z9"] ["o"] (.inr rfl) (by decide +kernel) (by decide +kernel) (by decide +kernel) (by decide +kernel) (by decide +kernel) (by simp)⟩
  | 2 => exact ⟨src ["o", "z9z9z9z9"] ["o", "z9z9z9z9"] (.inr rfl) (by decide +kernel) (by decide +kernel) (by decide +kernel) (by decide +kernel) (by decide +kernel) (by simp), src ["o", "z9z9z9z9"] ["o", "z9z9z9z9"] (.inr rfl) (by decide +kernel) (by decide +kernel) (by decide +kernel) (by decide +kernel) (by decide +kernel) (by simp)⟩
  | 3 => exact ⟨els (by decide +kernel) (by decide +kernel), els (by decide +kernel) (by decide +kernel)⟩
  | 4 => exact ⟨els (by decide +kernel) (by decide +kernel), els (by decide +kernel) (by decide +kernel)⟩
  | 5 => exact ⟨els (by decide +kernel) (by decide +kernel), els (by decide +kernel) (by decide +kernel)⟩
  | 6 => exact ⟨els (by decide +kernel) (by decide +kernel), els (by decide +kernel) (by decide +kernel)⟩
  | 7 => exact ⟨src ["o", "z9z9z9z9"] ["o"] (.inl ⟨rfl, rfl⟩) (by decide +kernel) (by decide +kernel) (by decide +kernel) (by decide +kernel) (by decide +kernel) (by simp), src ["o", "z9z9z9z9"] ["o"] (.inl ⟨rfl, rfl⟩) (by decide +kernel) (by decide +kernel) (by decide +kernel) (by decide +kernel) (by decide +kernel) (by simp)⟩
  | 8 => exact ⟨els (by decide +kernel) (by decide +kernel), els (by decide +kernel) (by decide +kernel)⟩
  | _ + 9 => exact ⟨els (b := none) (o := tA) (p := tMade) (by decide +kernel) (by decide +kernel), els (b := none) (o := tMade) (p := tA) (by decide +kernel) (by decide +kernel)⟩
end PJ

set_option Elab.async false
set_option linter.all false
set_option maxRecDepth 100000
set_option maxHeartbeats 4000000
/-! what is found at a name where nothing clashes -/
namespace PJ
open PySem PySem.Spec PyProof.Rows L2 KS KS.La
theorem osE_of {os os' : Outs} (nd : (os.map (·.1)).Nodup) (hl : os.length = os'.length) (h : ∀ p ∈ oK os, valV (oK os') p.1 = some p.2) : osE os os' = true := by
  unfold osE
  rw [Bool.and_eq_true, beq_iff_eq, List.all_eq_true]
  refine ⟨by rw [oK_len, oK_len]; exact hl, fun p hp => ?_⟩
  have h1 := h p hp
  obtain ⟨z, ez⟩ := oK_str p hp
  have hv : valV (oK os) p.1 = some p.2 := valMem (oK_nd nd) hp
  unfold eF
  rw [h1, hv, ez]
  show (true && (true && (z == z))) = true
  simp
theorem osE_symm {os os' : Outs} (nd : (os.map (·.1)).Nodup) (nd' : (os'.map (·.1)).Nodup) (h : osE os os' = true) : osE os' os = true := by
  obtain ⟨hl, ha⟩ := osE_da nd h
  rw [oK_len, oK_len] at hl
  have sub : ∀ z, z ∈ os.map (·.1) → z ∈ os'.map (·.1) := fun z hz => by
    obtain ⟨p, hp, rfl⟩ := List.mem_map.mp hz
    have h1 := (ha (kvO p) (List.mem_map.mpr ⟨p, hp, rfl⟩)).1
    obtain ⟨q, hq, eq⟩ := List.mem_map.mp (valMem2 h1)
    have e1 : q.1 = p.1 := Sum.inr.inj (congrArg Prod.fst eq)
    exact List.mem_map.mpr ⟨q, hq, e1⟩
  have pm : (os'.map (·.1)).Perm (os.map (·.1)) := SX.permOf _ _ nd sub (by rw [List.length_map, List.length_map]; omega)
  refine osE_of nd' hl.symm fun p' hp' => ?_
  obtain ⟨q', hq', rfl⟩ := List.mem_map.mp hp'
  have hk : q'.1 ∈ os.map (·.1) := pm.mem_iff.mp (List.mem_map.mpr ⟨q', hq', rfl⟩)
  obtain ⟨q, hq, e⟩ := List.mem_map.mp hk
  have h1 := (ha (kvO q) (List.mem_map.mpr ⟨q, hq, rfl⟩)).1
  have h2 : valV (oK os') (kvO q').1 = some (kvO q').2 := valMem (oK_nd nd') hp'
  have h3 : valV (oK os) (kvO q).1 = some (kvO q).2 := valMem (oK_nd nd) (List.mem_map.mpr ⟨q, hq, rfl⟩)
  have ek : (kvO q).1 = (kvO q').1 := congrArg Sum.inr e
  rw [ek] at h1 h3
  rw [h1] at h2
  rw [h3]
  exact h2
def TgV : Tg → Prop
  | .src os => (os.map (·.1)).Nodup
  | .mad r as => SeqAt.shaped (rcD r) = true ∧ SeqAt.shaped (argsD as) = true
theorem tgE_refl {t : Tg} (h : TgV t) : tgE t t = true := by
  cases t with
  | src os => exact osE_refl h
  | mad r as =>
    show (PyData.eqv (rcD r) (rcD r) && PyData.eqv (argsD as) (argsD as)) = true
    rw [SeqAt.eqv_refl _ (SeqAt.canLay_of_shaped h.1), SeqAt.eqv_refl _ (SeqAt.canLay_of_shaped h.2)]
    rfl
theorem tgE_symm {t t' : Tg} (h : TgV t) (h' : TgV t') (e : tgE t t' = true) : tgE t' t = true := by
  cases t with
  | src os => cases t' with
    | src os' => exact osE_symm h h' e
    | mad r as => exact nomatch e
  | mad r as => cases t' with
    | src os' => exact nomatch e
    | mad r' as' =>
      have e' : (PyData.eqv (rcD r) (rcD r') && PyData.eqv (argsD as) (argsD as')) = true := e
      show (PyData.eqv (rcD r') (rcD r) && PyData.eqv (argsD as') (argsD as)) = true
      rw [PySem.W.eqv_comm (rcD r'), PySem.W.eqv_comm (argsD as')]
      exact e'
/-- what is found is what is due -/
def oQ : Option Tg → Option Tg → Prop
  | none, none => True
  | some t, some t' => tgE t t' = true ∧ TgV t
  | _, _ => False
def tWhole : Outs := [("o", "0"), ("p1", "1"), ("out", "7")]
def tLeft : Outs := [("o", "0"), ("p1", "1")]
def tRight : Outs := [("o", "0"), ("out", "7")]
def quRow (plain one : Tg) : Nat → Option Tg × Option Tg × Option Tg × Option Tg
  | 0 => (some plain, some plain, some one, some one)
  | 1 => (some plain, some one, some plain, some one)
  | 2 => (some plain, some one, some one, some one)
  | 3 => (some plain, none, none, none)
  | 4 => (none, some one, some one, some one)
  | 5 => (some plain, none, some plain, none)
  | 6 => (none, none, some one, some one)
  | 7 => (some (.src [("o", "0")]), some (.src tLeft), some (.src tRight), some (.src tWhole))
  | 8 => (none, some (.src tLeft), some (.src tRight), some (.src tWhole))
  | _ => (none, some (.src tRight), some (.src tLeft), some (.src tWhole))
theorem quSrc {nm : Str} {b : Option Tg} {B O R : Outs} {cs : List Str} {r : Option Tg} (hb : (b = none ∧ B = []) ∨ b = some (.src B)) (hm : mayT b (some (.src O)) (some (.src R)) = false)
    (h1 : ∀ k ∈ (["o", "p1", "out"] : List Str), k ∈ keys3 B O R) (h2 : ∀ k ∈ keys3 B O R, k ∈ (["o", "p1", "out"] : List Str)) (h3 : ((["o", "p1", "out"] : List Str).filter fun y => !mayY B O R y) = []) (h4 : osF B O R ["o", "p1", "out"] = tWhole)
    (h : MS nm b (some (.src O)) (some (.src R)) cs r) : cs = [] ∧ oQ r (some (.src tWhole)) := by
  obtain ⟨pm, ys, py, rfl⟩ := msSrc (ks := ["o", "p1", "out"]) hb hm (by decide +kernel) h1 h2 h
  rw [csF_of h3] at pm
  refine ⟨List.Perm.eq_nil pm, ?_⟩
  have pos : (osF B O R ys).Perm tWhole := by
    rw [← h4]
    exact py.filterMap _
  have nd : ((osF B O R ys).map (·.1)).Nodup := osF_nd (py.nodup_iff.mpr (by decide +kernel))
  refine ⟨osE_of nd pos.length_eq fun p hp => ?_, nd⟩
  have hp2 : p ∈ oK tWhole := (pos.map kvO).mem_iff.mp hp
  have : ∀ p ∈ oK tWhole, valV (oK tWhole) p.1 = some p.2 := fun p hp => valMem (oK_nd (by decide +kernel)) hp
  exact this p hp2
theorem quiet {plain one : Tg} (hp : TgV plain) (ho : TgV one) (i : Nat) (nm : Str) (cs : List Str) (r : Option Tg) :
    (MS nm (quRow plain one i).1 (quRow plain one i).2.1 (quRow plain one i).2.2.1 cs r → cs = [] ∧ oQ r (quRow plain one i).2.2.2) ∧ (MS nm (quRow plain one i).1 (quRow plain one i).2.2.1 (quRow plain one i).2.1 cs r → cs = [] ∧ oQ r (quRow plain one i).2.2.2) := by
  have rp := tgE_refl hp
  have ro := tgE_refl ho
  have qo : oQ (some one) (some one) := ⟨ro, ho⟩
  -- base, a changed one, base
  have mid : MS nm (some plain) (some one) (some plain) cs r → cs = [] ∧ oQ r (some one) := fun h => by
    obtain ⟨a, b⟩ := msMay (by show (tgE one plain || tgE plain plain || tgE one plain) = true; rw [rp]; simp) h
    refine ⟨a, ?_⟩
    rw [b]
    show oQ (if tgE one plain = true then some plain else some one) (some one)
    by_cases c : tgE one plain = true
    · rw [if_pos c]
      exact ⟨tgE_symm ho hp c, hp⟩
    · rw [if_neg c]
      exact qo
  have fst : MS nm (some plain) (some plain) (some one) cs r → cs = [] ∧ oQ r (some one) := fun h => by
    obtain ⟨a, b⟩ := msMay (by show (tgE plain plain || tgE one plain || tgE plain one) = true; rw [rp]; simp) h
    refine ⟨a, ?_⟩
    rw [b]
    show oQ (if tgE plain plain = true then some one else some plain) (some one)
    rw [if_pos rp]
    exact qo
  match i with
  | 0 => exact ⟨fst, mid⟩
  | 1 => exact ⟨mid, fst⟩
  | 2 =>
    have : MS nm (some plain) (some one) (some one) cs r → cs = [] ∧ oQ r (some one) := fun h => by
      obtain ⟨a, b⟩ := msMay (by show (tgE one plain || tgE one plain || tgE one one) = true; rw [ro]; simp) h
      refine ⟨a, ?_⟩
      rw [b, ite_self]
      exact qo
    exact ⟨this, this⟩
  | 3 =>
    have : MS nm (some plain) none none cs r → cs = [] ∧ oQ r none := fun h => by
      obtain ⟨a, b⟩ := msMay rfl h
      rw [b]
      exact ⟨a, True.intro⟩
    exact ⟨this, this⟩
  | 4 =>
    have : MS nm none (some one) (some one) cs r → cs = [] ∧ oQ r (some one) := fun h => by
      obtain ⟨a, b⟩ := msMay (by show (false || false || tgE one one) = true; rw [ro]; rfl) h
      rw [b]
      exact ⟨a, qo⟩
    exact ⟨this, this⟩
  | 5 =>
    refine ⟨fun h => ?_, fun h => ?_⟩
    · obtain ⟨a, b⟩ := msMay (by show (false || tgE plain plain || false) = true; rw [rp]; rfl) h
      rw [b]
      exact ⟨a, True.intro⟩
    · obtain ⟨a, b⟩ := msMay (by show (tgE plain plain || false || false) = true; rw [rp]; rfl) h
      rw [b]
      refine ⟨a, ?_⟩
      show oQ (if tgE plain plain = true then none else some plain) none
      rw [if_pos rp]
      exact True.intro
  | 6 =>
    refine ⟨fun h => ?_, fun h => ?_⟩
    · obtain ⟨a, b⟩ := msMay rfl h
      rw [b]
      exact ⟨a, qo⟩
    · obtain ⟨a, b⟩ := msMay rfl h
      rw [b]
      exact ⟨a, qo⟩
  | 7 => exact ⟨quSrc (b := some (.src [("o", "0")])) (B := [("o", "0")]) (.inr rfl) (by decide +kernel) (by decide +kernel) (by decide +kernel) (by decide +kernel) (by decide +kernel), quSrc (b := some (.src [("o", "0")])) (B := [("o", "0")]) (.inr rfl) (by decide +kernel) (by decide +kernel) (by decide +kernel) (by decide +kernel) (by decide +kernel)⟩
  | 8 => exact ⟨quSrc (b := none) (B := []) (.inl ⟨rfl, rfl⟩) (by decide +kernel) (by decide +kernel) (by decide +kernel) (by decide +kernel) (by decide +kernel), quSrc (b := none) (B := []) (.inl ⟨rfl, rfl⟩) (by decide +kernel) (by decide +kernel) (by decide +kernel) (by decide +kernel) (by decide +kernel)⟩
  | _ + 9 => exact ⟨quSrc (b := none) (B := []) (O := tRight) (R := tLeft) (.inl ⟨rfl, rfl⟩) (by decide +kernel) (by decide +kernel) (by decide +kernel) (by decide +kernel) (by decide +kernel), quSrc (b := none) (B := []) (O := tLeft) (R := tRight) (.inl ⟨rfl, rfl⟩) (by decide +kernel) (by decide +kernel) (by decide +kernel) (by decide +kernel) (by decide +kernel)⟩
end PJ

set_option Elab.async false
set_option linter.all false
set_option maxRecDepth 100000
set_option maxHeartbeats 4000000
/-! the merged table and the one that is due -/
namespace PJ
open PySem PySem.Spec PyProof.Rows L2 KS KS.La
theorem tLook_none {T : Tb} {k : Str} (h : k ∉ T.map (·.1)) : tLook T k = none := by
  unfold tLook
  rw [Option.map_eq_none_iff, List.find?_eq_none]
  intro p hp e
  exact h (List.mem_map.mpr ⟨p, hp, of_decide_eq_true e⟩)
theorem tLook_key {T : Tb} {k : Str} {t : Tg} (h : tLook T k = some t) : k ∈ T.map (·.1) := List.mem_map.mpr ⟨_, tLook_mem h, rfl⟩
theorem tPut_new {T : Tb} {k : Str} {t : Tg} (h : k ∉ T.map (·.1)) : tPut T k t = T ++ [(k, t)] := by
  unfold tPut
  rw [if_neg]
  intro e
  obtain ⟨p, hp, e2⟩ := List.any_eq_true.mp e
  exact h (List.mem_map.mpr ⟨p, hp, of_decide_eq_true e2⟩)
theorem tLook_app {T : Tb} {k : Str} {t : Tg} (h : k ∉ T.map (·.1)) (k' : Str) : tLook (T ++ [(k, t)]) k' = if k = k' then some t else tLook T k' := by
  by_cases c : k = k'
  · subst c
    rw [if_pos rfl]
    have h1 := tLook_none h
    unfold tLook at *
    rw [Option.map_eq_none_iff] at h1
    rw [List.find?_append, h1]
    simp
  · rw [if_neg c]
    unfold tLook
    rw [List.find?_append]
    simp [c]
theorem mfold {T3 : Fin 3 → Tb} {ys cs : List Str} {T : Tb} (h : MFold T3 ys cs T) (wr : Str → List Str) (D : Str → Option Tg) (calm : Prop)
    (good : ∀ nm ∈ ys, ∀ cs r, MS nm (tLook (T3 0) nm) (tLook (T3 1) nm) (tLook (T3 2) nm) cs r → cs.Perm (wr nm) ∧ (calm → oQ r (D nm))) (nd : ys.Nodup) :
    cs.Perm (ys.flatMap wr) ∧ (T.map (·.1)).Nodup ∧ (∀ k ∈ T.map (·.1), k ∈ ys) ∧ (calm → ∀ nm ∈ ys, oQ (tLook T nm) (D nm)) := by
  induction h with
  | nil => exact ⟨.refl _, List.nodup_nil, fun k hk => absurd hk (by simp), fun _ nm hn => absurd hn (by simp)⟩
  | @snoc ys cs T nm cs' r h m ih =>
    have nd1 : ys.Nodup := (List.nodup_append.mp nd).1
    have nn : nm ∉ ys := fun hm => (List.nodup_append.mp nd).2.2 _ hm _ (List.mem_singleton.mpr rfl) rfl
    obtain ⟨i1, i2, i3, i4⟩ := ih (fun z hz => good z (List.mem_append_left _ hz)) nd1
    obtain ⟨g1, g2⟩ := good nm (List.mem_append_right _ (List.mem_singleton.mpr rfl)) cs' r m
    have nT : nm ∉ T.map (·.1) := fun hm => nn (i3 _ hm)
    have e0 : (ys ++ [nm]).flatMap wr = ys.flatMap wr ++ wr nm := by simp
    refine ⟨by rw [e0]; exact i1.append g1, ?_⟩
    cases r with
    | none =>
      refine ⟨i2, fun k hk => List.mem_append_left _ (i3 k hk), fun c z hz => ?_⟩
      show oQ (tLook T z) (D z)
      rcases List.mem_append.mp hz with h | h
      · exact i4 c z h
      · rw [List.mem_singleton.mp h, tLook_none nT]
        exact g2 c
    | some t =>
      have e1 : tPutO T nm (some t) = T ++ [(nm, t)] := tPut_new nT
      rw [e1]
      refine ⟨?_, fun k hk => ?_, fun c z hz => ?_⟩
      · rw [List.map_append]
        refine List.nodup_append.mpr ⟨i2, by simp, fun u hu v hv e => ?_⟩
        rw [List.map_cons, List.map_nil, List.mem_singleton] at hv
        rw [e, hv] at hu
        exact nT hu
      · rw [List.map_append] at hk
        rcases List.mem_append.mp hk with h | h
        · exact List.mem_append_left _ (i3 k h)
        · exact List.mem_append_right _ h
      · rw [tLook_app nT]
        rcases List.mem_append.mp hz with h | h
        · have : nm ≠ z := fun e => nn (e ▸ h)
          rw [if_neg this]
          exact i4 c z h
        · rw [List.mem_singleton.mp h, if_pos rfl]
          exact g2 c
/-- all that is due is there, and nothing else -/
theorem likeWhole {T T' : Tb} {D : Str → Option Tg} {ys : List Str} (nd : (T.map (·.1)).Nodup) (nd' : (T'.map (·.1)).Nodup) (sub : ∀ k ∈ T.map (·.1), k ∈ ys) (sub' : ∀ k ∈ T'.map (·.1), k ∈ ys)
    (h : ∀ nm ∈ ys, oQ (tLook T nm) (D nm)) (h' : ∀ nm ∈ ys, tLook T' nm = D nm) : (T.map (·.1)).Perm (T'.map (·.1)) ∧ tbE T T' = true := by
  have pm : (T.map (·.1)).Perm (T'.map (·.1)) := permOfMem nd nd' fun z => by
    constructor
    · intro hz
      have hy := sub z hz
      obtain ⟨⟨k, t⟩, hp, rfl⟩ := List.mem_map.mp hz
      have e := tMem nd hp
      have q := h k hy
      rw [e] at q
      cases e2 : D k with
      | none => rw [e2] at q; exact q.elim
      | some t' => exact tLook_key ((h' k hy).trans e2)
    · intro hz
      have hy := sub' z hz
      obtain ⟨⟨k, t⟩, hp, rfl⟩ := List.mem_map.mp hz
      have e := tMem nd' hp
      have q := h k hy
      rw [← h' k hy, e] at q
      cases e2 : tLook T k with
      | none => rw [e2] at q; exact q.elim
      | some t' => exact tLook_key e2
  refine ⟨pm, ?_⟩
  unfold tbE
  rw [Bool.and_eq_true, beq_iff_eq, List.all_eq_true]
  have hl := pm.length_eq
  rw [List.length_map, List.length_map] at hl
  refine ⟨hl, fun p hp => ?_⟩
  obtain ⟨k, t⟩ := p
  have hy := sub k (List.mem_map.mpr ⟨_, hp, rfl⟩)
  have e := tMem nd hp
  have q := h k hy
  rw [e, ← h' k hy] at q
  unfold teF
  dsimp only
  rw [e]
  cases e2 : tLook T' k with
  | none => rw [e2] at q; exact q.elim
  | some t' =>
    rw [e2] at q
    rw [Bool.and_eq_true]
    exact ⟨rfl, q.1⟩
end PJ

set_option Elab.async false
set_option linter.all false
set_option maxRecDepth 100000
set_option maxHeartbeats 4000000
/-! == and in of told values: None or a tuple that may hold dicts -/
namespace PySem.SeqAt
open AutoSeq1 (wpAny_loadPart')
open MeetsSeq MeetsSeq2 MeetsSeq3 SeqRoads2
section
variable {prog : Program} {w : World}
/-- items asked from the left, no further than the first like one -/
inductive AnyP (prog : Program) (w : World) (A : Around) (s : Shared) (x : Value) : List Value → Bool → Prop
  | nil : AnyP prog w A s x [] false
  | cons {y : Value} {r : List Value} {a b : Bool} (h : EqP prog w A s y x a) (t : a = false → AnyP prog w A s x r b) : AnyP prog w A s x (y :: r) (a || b)
theorem AnyP.inv {A : Around} {s : Shared} {x y : Value} {r : List Value} {c : Bool} (h : AnyP prog w A s x (y :: r) c) : ∃ a b, c = (a || b) ∧ EqP prog w A s y x a ∧ (a = false → AnyP prog w A s x r b) := by
  cases h with
  | cons h t => exact ⟨_, _, rfl, h, t⟩
theorem tupHas (l : Addr) (items : Array Value) (n : Nat) (dd : Option Addr) (sl : Array (Option Value)) (x : Value) :
    MeetsIn prog w (Builtin.«tuple.__contains__» ⟨[.ref l, x], []⟩)
      (fun A R s => s.heap.get? l = some { cls := .type "tuple", dict := dd, data := .seq items n, slots := sl } ∧ ∃ c, AnyP prog w A.in1 s x items.toList c ∧ R (.ok (.ret (.bool c))) s) :=
  .of_wp fun A R s0 h => by
    obtain ⟨hl, c0, hc, hR⟩ := h
    obtain ⟨hp, g, d, tk, os⟩ := s0
    obtain ⟨its⟩ := items
    wp_walk using wpAny_loadPart' hl, wpAny_forIn_array _ (fun rest z s' => z.1 = none ∧ s' = ⟨hp, g, d, tk, os⟩ ∧ ∃ c, AnyP prog w A.in1 ⟨hp, g, d, tk, os⟩ x rest c ∧ R (.ok (.ret (.bool c))) ⟨hp, g, d, tk, os⟩) _
    case turn =>
      rintro y rest z s' ⟨_, rfl, c, hc, hR⟩
      obtain ⟨a, b, rfl, hxy, hr⟩ := hc.inv
      refine wpAny_bind (hxy _ _ ?_)
      cases a with
      | true =>
        wp_walk
        exact ⟨_, rfl, by simpa using hR⟩
      | false =>
        wp_walk
        exact ⟨rfl, rfl, b, hr rfl, by simpa using hR⟩
    case fin =>
      rintro ⟨z1, z2⟩ s' ⟨hz, rfl, c, hc, hR⟩
      cases hc
      have e : z1 = none := hz
      subst e
      wp_walk
      exact ⟨_, rfl, hR⟩
    case h =>
      exact ⟨rfl, rfl, c0, hc, hR⟩
theorem in_tupleP {A : Around} {E : Value → Shared → Prop} {s : Shared} {l : Addr} {items : Array Value} {x : Value} {c : Bool} {Q : Value → Shared → Prop} (hl : s.heap.IsTuple l items) (hc : AnyP prog w A.in1 s x items.toList c)
    (h : Q (.bool c) s) : wpAny (model prog w) A (compareOp .In x (.ref l)) Q E s := by
  obtain ⟨⟨cls, dd, data, sl⟩, ho, he, n, hd⟩ := id hl
  simp only at he hd
  subst he hd
  show wpAny _ A (do return .bool (← contains (.ref l) x)) Q E s
  refine wpAny_bind (wpAny_contains_slot ⟨_, ho, rfl⟩ F.slot_tuple_contains (call_meetsIn F.slot_tuple_contains ⟨_, ho, rfl⟩ F.entry_tuple_contains (F.args_tuple_contains_2 _ _) (tupHas l items n dd sl x) ⟨ho, c, hc, ?_⟩))
  exact wpAny_truthy_bool (wpAny_pure h)
end
end PySem.SeqAt
namespace ET
open PySem PySem.Spec PyProof.Rows L2
/-- how two told values compare -/
def Et (K : PySem.W.Frag) (H : Hp) (x y : V) (c : Bool) : Prop :=
  (x = .non ∧ y = .non ∧ c = true) ∨ (x = .non ∧ (∃ b ys, y = .ref b ∧ SqT K H b ys) ∧ c = false) ∨ ((∃ a xs, x = .ref a ∧ SqT K H a xs) ∧ y = .non ∧ c = false) ∨
    ∃ (a b : Addr) (xs ys : List V) (e : Bool), x = .ref a ∧ y = .ref b ∧ SqT K H a xs ∧ SqT K H b ys ∧ (a = b → c = true) ∧ DB.EbL (DB.Eb K H 1) xs ys e ∧ c = (e && xs.length == ys.length)
section
variable {X : Cx} {pins : List (Addr × Obj)} {σ : L2.St} {H : Hp} {s : Shared}
theorem run (I : Inv X pins σ H s) {A : Around} (hu : A.units + 80 < cLine) {x y : V} {v u : Value} {c : Bool} (h : Et X.K H x y c) (rx : RelV x v) (ry : RelV y u) : SeqAt.EqP X.prog X.w A s v u c := by
  rcases h with ⟨rfl, rfl, rfl⟩ | ⟨rfl, ⟨b, ys, rfl, hb⟩, rfl⟩ | ⟨⟨a, xs, rfl, ha⟩, rfl, rfl⟩ | ⟨a, b, xs, ys, e, rfl, rfl, ha, hb, hs, hp, hc⟩
  · cases rx; cases ry
    exact (SeqAt.EqAt.same _).eqP
  · cases rx; cases ry
    obtain ⟨us, _, p, _⟩ := I.tuple hb
    exact (SeqAt.EqAt.none_tuple p (by omega)).eqP
  · cases rx; cases ry
    obtain ⟨us, _, p, _⟩ := I.tuple ha
    exact (SeqAt.EqAt.tuple_none p (by omega)).eqP
  · exact DB.eb_run I 2 A (by omega) _ _ _ _ _ (.inr (.inl ⟨a, b, xs, ys, e, rfl, rfl, ha, hb, hs, by
      have up : ∀ {x y : V} {c : Bool}, DB.Eb X.K H 1 x y c → DB.Eb X.K H 1 x y c := id
      exact hp, hc⟩)) rx ry
def rEqE (K : PySem.W.Frag) : R2 := fun x y H Q => ∃ c, Et K H x y c ∧ Q (.bl c) H
theorem op_eqE (hu : X.A.units + 100 < cLine) : OpR X (compareOp .Eq) (rEqE X.K) := by
  intro pins s σ H x y v u Q I rx ry h
  obtain ⟨c, h, q⟩ := h
  have fin : EP X pins σ Q (.bool c) s := ⟨.bl c, H, I, rfl, q⟩
  show wpAny (model X.prog X.w) X.A (richCompare .Eq v u) (EP X pins σ Q) X.xe s
  rcases h with ⟨rfl, rfl, rfl⟩ | ⟨rfl, ⟨b, ys, rfl, hb⟩, rfl⟩ | ⟨⟨a, xs, rfl, ha⟩, rfl, rfl⟩ | ⟨a, b, xs, ys, e, rfl, rfl, ha, hb, hs, hp, hc⟩
  · cases rx; cases ry
    exact SeqAt.RcAt.none_none _ _ _ _ fin
  · cases rx; cases ry
    obtain ⟨us, _, p, _⟩ := I.tuple hb
    exact SeqAt.RcAt.none_tuple p (by omega) _ _ _ _ fin
  · cases rx; cases ry
    obtain ⟨us, _, p, _⟩ := I.tuple ha
    exact SeqAt.RcAt.tuple_none p (by omega) _ _ _ _ fin
  · cases (show v = Value.ref a from rx)
    cases (show u = Value.ref b from ry)
    exact DB.rc_run I (n := 1) (by omega) (DB.eb_run I 1 X.A.in1 (by show X.A.units + 1 + 1 + 70 < cLine; omega)) (.inl ⟨xs, ys, e, ha, hb, hp, hc⟩) _ _ fin
/-- one of these is like it, asked from the left -/
inductive AnyE (K : PySem.W.Frag) (H : Hp) (x : V) : List V → Bool → Prop
  | nil : AnyE K H x [] false
  | cons {y : V} {r : List V} {a b : Bool} (h : Et K H y x a) (t : a = false → AnyE K H x r b) : AnyE K H x (y :: r) (a || b)
def rInE (K : PySem.W.Frag) : R2 := fun x y H Q => ∃ p xs c, y = .ref p ∧ SqT K H p xs ∧ AnyE K H x xs c ∧ Q (.bl c) H
theorem anyRun (I : Inv X pins σ H s) {A : Around} (hu : A.units + 80 < cLine) {x : V} {v : Value} (rx : RelV x v) {xs : List V} {c : Bool} (h : AnyE X.K H x xs c) : ∀ {us : List Value}, Vals xs us → SeqAt.AnyP X.prog X.w A s v us c := by
  induction h with
  | nil => intro us r; cases r; exact .nil
  | cons h t ih =>
    intro us r
    cases r with
    | cons r1 r2 => exact .cons (run I hu h r1 rx) fun e => ih e r2
theorem op_inE (hu : X.A.units + 100 < cLine) : OpR X (compareOp .In) (rInE X.K) := by
  intro pins s σ H x y v u Q I rx ry h
  obtain ⟨p, xs, c, rfl, hp, ha, q⟩ := h
  cases (show u = Value.ref p from ry)
  obtain ⟨us, r, pl, _⟩ := I.tuple hp
  exact SeqAt.in_tupleP pl (anyRun I (A := X.A.in1) (by show X.A.units + 1 + 80 < cLine; omega) rx ha r) ⟨.bl c, H, I, rfl, q⟩
end
end ET

set_option Elab.async false
set_option linter.all false
set_option maxRecDepth 100000
set_option maxHeartbeats 8000000
/-! how told values compare; tables of them -/
namespace PJ
open PySem PySem.Spec PyProof.Rows L2 KS KS.La
open KX hiding sameUpd
section
variable {K : PySem.W.Frag}
theorem osEbD {H : Hp} {d d' : Addr} {os os' : Outs} (h : OsIn H d os) (h' : OsIn H d' os') : DB.Eb K H 1 (.ref d) (.ref d') (osE os os') := by
  refine .inr (.inr ⟨d, d', oK os, oK os', eF (oK os) (oK os'), rfl, rfl, h.1, h'.1, fun e => ?_, osEb h.2.1, rfl⟩)
  subst e
  have eo : oK os = oK os' := by
    have := Option.some.inj (h.1.symm.trans h'.1)
    injection this
  have := osE_refl h.2.1
  unfold osE at this ⊢
  rw [← eo]
  exact this
theorem toEt {H : Hp} {v u : V} {t t' : Tg} (h : ToAt H v t) (h' : ToAt H u t') : ET.Et K H v u (tgE t t') := by
  have word : ∀ z : Str, DB.Eb K H 1 (.str z) (.str z) true := fun z => .inl (.inl ⟨rfl, rfl, by show true = (z == z); simp⟩)
  cases t with
  | src os =>
    obtain ⟨x, d, rfl, hx, ho⟩ := h
    cases t' with
    | src os' =>
      obtain ⟨y, d', rfl, hy, ho'⟩ := h'
      refine .inr (.inr (.inr ⟨x, y, _, _, true && (osE os os' && true), rfl, rfl, .inl (.inl hx), .inl (.inl hy), fun e => ?_, .cons (word _) fun _ => .cons (osEbD ho ho') fun _ => .nilL, ?_⟩))
      · subst e
        rw [hx] at hy
        have := Option.some.inj hy
        injection this with this
        injection this with _ this
        injection this with e1 _
        have e2 := V.ref.inj e1
        subst e2
        have eo : oK os = oK os' := by
          have := Option.some.inj (ho.1.symm.trans ho'.1)
          injection this
        show osE os os' = true
        have := osE_refl ho.2.1
        unfold osE at this ⊢
        rw [← eo]
        exact this
      · show osE os os' = _
        simp
    | mad r as =>
      obtain ⟨y, vr, va, rfl, hy, _⟩ := h'
      refine .inr (.inr (.inr ⟨x, y, _, _, false && true, rfl, rfl, .inl (.inl hx), .inl (.inl hy), fun e => ?_, .cons (.inl (.inl ⟨rfl, rfl, by decide +kernel⟩)) (fun z => nomatch z), rfl⟩))
      subst e
      rw [hx] at hy
      have := Option.some.inj hy
      injection this with this
      injection this with _ this
      injection this with _ this
      cases this
  | mad r as =>
    obtain ⟨x, vr, va, rfl, hx, hr, ha⟩ := h
    cases t' with
    | src os' =>
      obtain ⟨y, d', rfl, hy, ho'⟩ := h'
      refine .inr (.inr (.inr ⟨x, y, _, _, false && true, rfl, rfl, .inl (.inl hx), .inl (.inl hy), fun e => ?_, .cons (.inl (.inl ⟨rfl, rfl, by decide +kernel⟩)) (fun z => nomatch z), rfl⟩))
      subst e
      rw [hx] at hy
      have := Option.some.inj hy
      injection this with this
      injection this with _ this
      injection this with _ this
      cases this
    | mad r' as' =>
      obtain ⟨y, vr', va', rfl, hy, hr', ha'⟩ := h'
      have e1 : DB.Eb K H 1 vr vr' (PyData.eqv (rcD r) (rcD r')) := .inl (.inr ⟨_, _, hr.dp.1, hr'.dp.1, (hr.dp (K := K)).2, (hr'.dp (K := K)).2, rfl⟩)
      have e2 : DB.Eb K H 1 va va' (PyData.eqv (argsD as) (argsD as')) := .inl (.inr ⟨_, _, ha.dp.1, ha'.dp.1, (ha.dp (K := K)).2, (ha'.dp (K := K)).2, rfl⟩)
      refine .inr (.inr (.inr ⟨x, y, _, _, true && (PyData.eqv (rcD r) (rcD r') && (PyData.eqv (argsD as) (argsD as') && true)), rfl, rfl, .inl (.inl hx), .inl (.inl hy), fun e => ?_, .cons (word _) fun _ => .cons e1 fun _ => .cons e2 fun _ => .nilL, ?_⟩))
      · subst e
        rw [hx] at hy
        have := Option.some.inj hy
        injection this with this
        injection this with _ this
        injection this with e1 this
        injection this with e2 _
        subst e1 e2
        show (PyData.eqv (rcD r) (rcD r') && PyData.eqv (argsD as) (argsD as')) = true
        rw [← eqSame hr hr', ← asSame ha ha', SeqAt.eqv_refl _ (SeqAt.canLay_of_shaped (hr.dp (K := K)).2), SeqAt.eqv_refl _ (SeqAt.canLay_of_shaped (ha.dp (K := K)).2)]
        rfl
      · show (PyData.eqv (rcD r) (rcD r') && PyData.eqv (argsD as) (argsD as')) = _
        simp
/-- told or None -/
def ToO (H : Hp) (v : V) : Option Tg → Prop
  | none => v = .non
  | some t => ToAt H v t
theorem ToO.stl {H H' : Hp} {v : V} {o : Option Tg} (h : ToO H v o) (s : Stl H H') : ToO H' v o := by
  cases o with
  | none => exact h
  | some t => exact ToAt.stl h s
theorem toSq {H : Hp} {v : V} {t : Tg} (h : ToAt H v t) : ∃ a xs, v = .ref a ∧ SqT K H a xs := by
  cases t with
  | src os => obtain ⟨x, d, rfl, hx, _⟩ := h; exact ⟨x, _, rfl, .inl (.inl hx)⟩
  | mad r as => obtain ⟨x, vr, va, rfl, hx, _⟩ := h; exact ⟨x, _, rfl, .inl (.inl hx)⟩
theorem toO_et {H : Hp} {v u : V} {o o' : Option Tg} (h : ToO H v o) (h' : ToO H u o') : ET.Et K H v u (oE o o') := by
  cases o with
  | none =>
    cases o' with
    | none => exact .inl ⟨h, h', rfl⟩
    | some t' =>
      obtain ⟨b, ys, e, hb⟩ := toSq (K := K) h'
      exact .inr (.inl ⟨h, ⟨b, ys, e, hb⟩, rfl⟩)
  | some t =>
    cases o' with
    | none =>
      obtain ⟨b, ys, e, hb⟩ := toSq (K := K) h
      exact .inr (.inr (.inl ⟨⟨b, ys, e, hb⟩, h', rfl⟩))
    | some t' => exact toEt h h'
end
/-! ### tables over the names -/
structure TbK (T : Tb) : Prop where
  nd : (T.map (·.1)).Nodup
  sub : ∀ k ∈ T.map (·.1), k ∈ nmsL
  tk : ∀ k t, (k, t) ∈ T → TgK t
theorem TbK.len {T : Tb} (h : TbK T) : T.length ≤ 6 := by
  have := ndLen _ nmsL h.nd h.sub
  rw [List.length_map] at this
  exact this
theorem nmsTok : ∀ z ∈ nmsL, TOk z := by unfold nmsL; decide +kernel
theorem putKeys {α : Type} (T : List (Str × α)) (k : Str) (t : α) : ((if (T.any fun p => decide (p.1 = k)) = true then T.map (fun p => if p.1 = k then (p.1, t) else p) else T ++ [(k, t)]).map (·.1)) = if k ∈ T.map (·.1) then T.map (·.1) else T.map (·.1) ++ [k] := by
  by_cases h : k ∈ T.map (·.1)
  · have : (T.any fun p => decide (p.1 = k)) = true := by
      obtain ⟨p, hp, e⟩ := List.mem_map.mp h
      exact List.any_eq_true.mpr ⟨p, hp, decide_eq_true e⟩
    rw [if_pos this, if_pos h, List.map_map]
    refine List.map_congr_left fun p _ => ?_
    show (if p.1 = k then (p.1, t) else p).1 = p.1
    split <;> rfl
  · have : ¬ (T.any fun p => decide (p.1 = k)) = true := fun h2 => by
      obtain ⟨p, hp, e⟩ := List.any_eq_true.mp h2
      exact h (List.mem_map.mpr ⟨p, hp, of_decide_eq_true e⟩)
    rw [if_neg this, if_neg h, List.map_append]
    rfl
theorem putNd {l : List Str} {k : Str} (h : l.Nodup) : (if k ∈ l then l else l ++ [k]).Nodup := by
  split
  · exact h
  · rename_i n
    exact List.nodup_append.mpr ⟨h, by simp, fun a ha b hb e => n (by rw [List.mem_singleton.mp hb] at e; exact e ▸ ha)⟩
theorem putSub {l U : List Str} {k : Str} (h : ∀ z ∈ l, z ∈ U) (hk : k ∈ U) : ∀ z ∈ (if k ∈ l then l else l ++ [k]), z ∈ U := fun z hz => by
  split at hz
  · exact h z hz
  · rcases List.mem_append.mp hz with hz | hz
    · exact h z hz
    · rw [List.mem_singleton.mp hz]; exact hk
theorem tPut_keys2 (T : Tb) (k : Str) (t : Tg) : (tPut T k t).map (·.1) = if k ∈ T.map (·.1) then T.map (·.1) else T.map (·.1) ++ [k] := putKeys T k t
theorem oPut_keys2 (os : Outs) (k z : Str) : (oPut os k z).map (·.1) = if k ∈ os.map (·.1) then os.map (·.1) else os.map (·.1) ++ [k] := putKeys os k z
theorem TbK.put {T : Tb} {k : Str} {t : Tg} (h : TbK T) (hk : k ∈ nmsL) (ht : TgK t) : TbK (tPut T k t) := by
  refine ⟨by rw [tPut_keys2]; exact putNd h.nd, by rw [tPut_keys2]; exact putSub h.sub hk, fun k' t' hm => ?_⟩
  unfold tPut at hm
  split at hm
  · obtain ⟨p, hp, e⟩ := List.mem_map.mp hm
    by_cases c : p.1 = k
    · rw [if_pos c] at e
      injection e with _ e2
      rw [← e2]
      exact ht
    · rw [if_neg c] at e
      subst e
      exact h.tk _ _ hp
  · rcases List.mem_append.mp hm with hp | hp
    · exact h.tk _ _ hp
    · have e := List.mem_singleton.mp hp
      injection e with _ e2
      rw [e2]
      exact ht
theorem TbK.drop {T : Tb} (h : TbK T) (k : Str) : TbK (tDrop T k) :=
  ⟨h.nd.sublist (List.Sublist.map _ List.filter_sublist), fun z hz => h.sub z ((List.Sublist.map _ List.filter_sublist).subset hz), fun z t hm => h.tk z t (List.mem_filter.mp hm).1⟩
theorem TbK.nil : TbK [] := ⟨List.nodup_nil, fun k h => absurd h (by simp), fun k t h => absurd h (by simp)⟩
theorem ndO {os : Outs} {k z : Str} (h : (os.map (·.1)).Nodup) : ((oPut os k z).map (·.1)).Nodup := by rw [oPut_keys2]; exact putNd h
theorem oskOf {os : Outs} (nd : (os.map (·.1)).Nodup) (h : ∀ z ∈ os.map (·.1), z ∈ outsL) : OsK os := ⟨by
  have := ndLen _ outsL nd h
  rw [List.length_map] at this
  exact this, fun p hp => h _ (List.mem_map_of_mem hp)⟩
theorem OsK.keys {os : Outs} (h : OsK os) : ∀ z ∈ os.map (·.1), z ∈ outsL := fun z hz => by
  obtain ⟨p, hp, rfl⟩ := List.mem_map.mp hz
  exact h.2 p hp
theorem OsK.put {os : Outs} {k z : Str} (h : OsK os) (nd : (os.map (·.1)).Nodup) (hk : k ∈ outsL) : OsK (oPut os k z) := oskOf (ndO nd) (by rw [oPut_keys2]; exact putSub h.keys hk)
theorem ndOD {os : Outs} {k : Str} (h : (os.map (·.1)).Nodup) : ((oDrop os k).map (·.1)).Nodup := h.sublist (List.Sublist.map _ List.filter_sublist)
theorem OsK.drop {os : Outs} (h : OsK os) (k : Str) : OsK (oDrop os k) := ⟨Nat.le_trans (List.length_filter_le _ _) h.1, fun p hp => h.2 p (List.mem_filter.mp hp).1⟩
/-! ### told away from a dict -/
def ToD (d : Addr) (H : Hp) (v : V) : Tg → Prop
  | .src os => ∃ t d', v = .ref t ∧ H t = some (.tup [.str "source", .ref d']) ∧ d' ≠ d ∧ OsIn H d' os
  | .mad r as => ToAt H v (.mad r as)
theorem ToD.to {d : Addr} {H : Hp} {v : V} {t : Tg} (h : ToD d H v t) : ToAt H v t := by
  cases t with
  | src os => obtain ⟨t, d', e, ht, _, ho⟩ := h; exact ⟨t, d', e, ht, ho⟩
  | mad r as => exact h
theorem ToD.stl {d : Addr} {H H' : Hp} {v : V} {t : Tg} (h : ToD d H v t) (s : Stl H H') : ToD d H' v t := by
  cases t with
  | src os => obtain ⟨t, d', e, ht, n, ho⟩ := h; exact ⟨t, d', e, s _ _ ht (fun _ z => nomatch z), n, s _ _ ho.1 (fun _ z => nomatch z), ho.2⟩
  | mad r as => exact ToAt.stl (t := .mad r as) h s
theorem ToD.kp {d : Addr} {H H' : Hp} {v : V} {t : Tg} {kvs : List (Key × V)} (h : ToD d H v t) (hd : H d = some (.dK kvs)) (k : Kp d H H') : ToD d H' v t := by
  have ne : ∀ {c o}, H c = some o → (∀ ks, o ≠ .dK ks) → H' c = some o := fun {c o} hc hn => k c o (fun z => by rw [z, hd] at hc; exact hn _ (Option.some.inj hc).symm) hc
  cases t with
  | src os => obtain ⟨t, d', e, ht, n, ho⟩ := h; exact ⟨t, d', e, ne ht (fun _ z => nomatch z), n, k _ _ n ho.1, ho.2⟩
  | mad r as =>
    obtain ⟨x, vr, va, rfl, hx, hr, ⟨u, e1, hu, g⟩⟩ := h
    refine ⟨x, vr, va, rfl, ne hx (fun _ z => nomatch z), ?_, ⟨u, e1, ne hu (fun _ z => nomatch z), g⟩⟩
    cases r with
    | txt z => exact hr
    | key a b => exact ⟨let ⟨t, e, h⟩ := hr.1; ⟨t, e, ne h (fun _ z => nomatch z)⟩, hr.2⟩
theorem ToAt.away {d : Addr} {H H' : Hp} {v : V} {t : Tg} (h : ToAt H v t) (nd : H d = none) (s : Same H H') : ToD d H' v t := by
  cases t with
  | src os => obtain ⟨t, d', e, ht, ho⟩ := h; exact ⟨t, d', e, s _ _ ht, ne_of_none ho.1 nd, s _ _ ho.1, ho.2⟩
  | mad r as => exact ToAt.stl (t := .mad r as) h (Stl.same s)
theorem ToN.away {H0 H : Hp} {d : Addr} {v : V} {t : Tg} (h : ToN H0 H v t) (nd : H0 d ≠ none) : ToD d H v t := by
  have g := h (upd H d (.lst [])) fun b o nb hb _ => by
    rw [upd_ne fun z => nd (by rw [← z]; exact nb)]
    exact hb
  cases t with
  | src os =>
    obtain ⟨t, d', e, ht, ho⟩ := g
    have n1 : t ≠ d := fun z => by rw [z, upd_same] at ht; cases ht
    have n2 : d' ≠ d := fun z => by have := ho.1; rw [z, upd_same] at this; cases this
    rw [upd_ne n1] at ht
    have ho1 := ho.1
    rw [upd_ne n2] at ho1
    exact ⟨t, d', e, ht, n2, ho1, ho.2⟩
  | mad r as => exact h.to
end PJ

set_option Elab.async false
set_option linter.all false
set_option maxRecDepth 100000
set_option maxHeartbeats 8000000
/-! the law's plans: drawn, moved -/
namespace PJ
open PySem PySem.Spec PyProof.Rows L2 KS KS.La
open KX hiding sameUpd
abbrev lDrawn : Stmt := top 31
abbrev lMoved : Stmt := top 32
section
variable {P : Program} {w : World} {K : PySem.W.Frag} {mg : Str → Option Value} {base : Heap} {f : Addr} {fd : FuncData} {CS CM CP NT NS : Addr}
/-- a new table -/
def spTabN : Sp := fun vs H Q _ => ∃ f : Addr, vs = [.ref f] ∧ Fd H f ∧ ∀ d T H', KtAt H' d T → TbK T → H d = none → Kp f H H' → Fd H' f → Q (.ref d) H'
abbrev nDrawn : List Str := ["_law_feed", "_law_found", "_law_name"]
theorem scDrawn : FnScope nDrawn ["_law_feed"] (defScope lDrawn) := ⟨rfl, rfl, rfl, by decide +kernel, rfl, by decide +kernel, by decide +kernel⟩
theorem okDrawn {k : Nat} (D : Has P w K mg base 1 "_law_draw" ["_law_feed", "_law_many"] spDraw) (T : Has P w K mg base 5 "_law_target" ["_law_feed"] spDrawn) (N : Has P w K mg base 1 "_law_names" [] spNms) (F : FnP K "_law_drawn" lDrawn f fd) : FnOk P w K mg base CX0 (k + 6) f fd ["_law_feed"] spTabN := by
  obtain ⟨fD, fdD, gD, kD, bD, GD⟩ := D.ex
  obtain ⟨fT, fdT, gT, kT, bT, GT⟩ := T.ex
  obtain ⟨fN, fdN, gN, kN, bN, GN⟩ := N.ex
  refine F.ok scDrawn (fun vs H Q E h => ?_) (fun cdv A outer s H vs Q E hr h => ?_)
  · obtain ⟨a, rfl, _⟩ := h
    rfl
  · obtain ⟨a, rfl, hF, q⟩ := h
    have hr1 : Room 1 _ := hr.mono (by omega)
    have hr5 : Room 5 _ := hr.mono (by omega)
    have hu1 : (A.deeper (envOfC "_law_drawn" (defScope lDrawn) s.heap.objs.size f cdv)).units + 1 < cLine := by
      have := hr.units
      omega
    refine ⟨_, PSs.nox (C8.pss_cut (ps_set (i := 1) scDrawn.nd rfl (.inl rfl) pe_dnewK) (C8.pss_cut (ps_for PassesOwn.never rfl (pi_list (pe_call0 GN hr1 (by rfl) gN kN bN .nil pass0)) (pg_name (i := 2) scDrawn.nd rfl (.inl rfl))
        (pss_one (ps_if (pt_cmpR op_gt (pe_call GD hr1 (by rfl) gD kD bD .nil pass0 (pa_cons (pv 0) (pa_cons (pe_int) pa_nil))) pe_int (nomark _)) (pss_one (ps_dput hu1 (pv 1) (pv 2) (pe_call GT hr5 (by rfl) gT kT bT .nil pass0 (pa_cons (pv 0) pa_nil)) rfl)) pss_nil))) (pss_one (ps_ret (pv 1))))), ?_⟩
    refine ⟨fun σ' H' => ∃ d, σ' = [some (.ref a), some (.ref d), none] ∧ H' d = some (.dK []) ∧ H d = none ∧ Same H H', ?_, ?_⟩
    · exact fun d hd => ⟨d, rfl, upd_same, hd, KS.sameUpd hd⟩
    rintro _ H1 ⟨d, rfl, ed, nd, s1⟩
    have F1 := hF.same s1
    have nda : d ≠ a := fun z => by obtain ⟨x, y, e, _⟩ := F1; rw [z, e] at ed; cases ed
    refine ⟨fun σ' H' => ∃ x2 kvs T, σ' = [some (.ref a), some (.ref d), x2] ∧ H' d = some (.dK kvs) ∧ Tab (ToD d H') kvs T ∧ TbK T ∧ Kp a H H' ∧ Fd H' a, ?_, ?_⟩
    · refine ⟨rfl, fun p hp => ⟨p, rfl, ⟨_, .inl (.inl upd_same)⟩, ?_⟩⟩
      have sp := KS.sameUpd (o := .lst (nmsL.map V.str)) hp
      have ep : upd H1 p (.lst (nmsL.map V.str)) p = some (.lst (nmsL.map V.str)) := upd_same
      have npa := fdNe F1 hp
      have npd : p ≠ d := fun z => by rw [z, ed] at hp; cases hp
      have F2 := F1.same sp
      have ed2 := sp _ _ ed
      have k2 : Kp a H (upd H1 p (.lst (nmsL.map V.str))) := Kp.same (s1.trans sp)
      generalize upd H1 p (.lst (nmsL.map V.str)) = H2 at *
      refine forJ (n := nmsL.length) (fun i σ' H' => ∃ x2 kvs T, σ' = [some (.ref a), some (.ref d), x2] ∧ H' d = some (.dK kvs) ∧ Tab (ToD d H') kvs T ∧ TbK T ∧ Kp a H H' ∧ Fd H' a ∧ H' p = some (.lst (nmsL.map V.str)))
        ⟨none, [], [], rfl, ed2, .nil, TbK.nil, k2, F2, ep⟩
        (fun i σ' H' lt h => by obtain ⟨_, _, _, _, _, _, _, _, _, e⟩ := h; exact ⟨_, V.str nmsL[i], .inl (.inl e), by rw [List.getElem?_map, List.getElem?_eq_getElem lt]; rfl⟩)
        (fun σ' H' h => by obtain ⟨_, _, _, _, _, _, _, _, _, e⟩ := h; exact ⟨_, .inl (.inl e), by rw [List.length_map]; exact Nat.le_refl _⟩) (fun i σ' H0 x H3 lt h y => ?_) (fun σ' H' h => ?_)
      · obtain ⟨rfl, y⟩ := y
        obtain ⟨x2, kvs, T, rfl, e3, tb, tk, k3, F3, ep3⟩ := h
        have ex := y _ (.inl (.inl ep3))
        rw [List.getElem?_map, List.getElem?_eq_getElem lt] at ex
        obtain rfl : V.str nmsL[i] = x := Option.some.inj ex
        have hnm : nmsL[i] ∈ nmsL := List.getElem_mem lt
        generalize nmsL[i] = nm at *
        refine ⟨.ref a, rfl, a, 3, rfl, F3, by decide, by decide, fun r H4 r0 r1 k4 F4 => ⟨_, _, rfl, rfl, _, rfl, ite2 (fun _ => ?_) (fun _ => ?_)⟩⟩
        · refine ⟨.ref a, rfl, a, rfl, F4, fun v t H5 tn tg k5 F5 => ?_⟩
          have k45 := k4.trans k5
          have st := Stl.fd F3 k45
          have e5 := k45 _ _ nda e3
          have nd4 : H4 d ≠ none := by rw [k4 _ _ nda e3]; exact fun z => nomatch z
          have td := tn.away nd4
          have lk : kvs.length < sizeLine := by rw [tb.len, sizeLine_eq]; have := tk.len; omega
          refine ⟨.ref d, rfl, .str nm, rfl, d, _, rfl, DPut.k (k := Sum.inr nm) e5 lk, ?_⟩
          have kp : Kp d H5 (upd H5 d (.dK (putK kvs (.inr nm) v))) := Kp.put
          refine ⟨some (.str nm), _, tPut T nm t, rfl, upd_same, Tab.put (tb.imp fun _ _ _ _ _ h => (h.stl st).kp e5 kp) (td.kp e5 kp), tk.put hnm tg, fun b o nb hb => ?_, fdOther F5 nda, ?_⟩
          · rw [upd_ne fun z => by rw [z, nd] at hb; cases hb]
            exact (k3.trans k45) _ _ nb hb
          · rw [upd_ne npd]
            exact k45 _ _ npa ep3
        · have st := Stl.fd F3 k4
          exact ⟨_, kvs, T, rfl, k4 _ _ nda e3, tb.imp fun _ _ _ _ _ h => h.stl st, tk, k3.trans k4, F4, k4 _ _ npa ep3⟩
      · obtain ⟨x2, kvs, T, rfl, e3, tb, tk, k3, F3, ep3⟩ := h
        exact ⟨x2, kvs, T, rfl, e3, tb, tk, k3, F3⟩
    rintro _ H2 ⟨x2, kvs, T, rfl, e2, tb, tk, k2, F2⟩
    exact ⟨.ref d, rfl, q d T H2 ⟨kvs, e2, tb.imp fun _ _ _ _ _ h => h.to⟩ tk nd k2 F2⟩
/-- a table changed a little, a new one -/
def spMoved : Sp := fun vs H Q _ => ∃ (f d : Addr) (n : Int) (T : Tb), vs = [.ref f, .ref d, .int n] ∧ Fd H f ∧ 0 < n ∧ n < 1000 ∧ KtAt H d T ∧ TbK T ∧ ∀ d' T' H', KtAt H' d' T' → TbK T' → H d' = none → Kp f H H' → Fd H' f → Q (.ref d') H'
abbrev nMoved : List Str := ["_law_feed", "_law_targets", "_law_many", "_law_found", "_law_turn", "_law_name", "_law_form", "_law_outputs"]
theorem scMoved : FnScope nMoved ["_law_feed", "_law_targets", "_law_many"] (defScope lMoved) := ⟨rfl, rfl, rfl, by decide +kernel, rfl, by decide +kernel, by decide +kernel⟩
theorem okMoved {k : Nat} (B : Bn mg) (md : mg "dict" = none) (D : Has P w K mg base 1 "_law_draw" ["_law_feed", "_law_many"] spDraw) (Pk : Has P w K mg base 2 "_law_pick" ["_law_feed", "_law_items"] (spPick K)) (X' : Has P w K mg base 3 "_law_text" ["_law_feed"] spText) (O : Has P w K mg base 1 "_law_outs" [] spOutsT)
    (T : Has P w K mg base 5 "_law_target" ["_law_feed"] spDrawn) (N : Has P w K mg base 1 "_law_names" [] spNms) (F : FnP K "_law_moved" lMoved f fd) : FnOk P w K mg base CX0 (k + 6) f fd ["_law_feed", "_law_targets", "_law_many"] spMoved := by
  obtain ⟨fD, fdD, gD, kD, bD, GD⟩ := D.ex
  obtain ⟨fP, fdP, gP, kP, bP, GP⟩ := Pk.ex
  obtain ⟨fX, fdX, gX, kX, bX, GX⟩ := X'.ex
  obtain ⟨fO, fdO, gO, kO, bO, GO⟩ := O.ex
  obtain ⟨fT, fdT, gT, kT, bT, GT⟩ := T.ex
  obtain ⟨fN, fdN, gN, kN, bN, GN⟩ := N.ex
  refine F.ok scMoved (fun vs H Q E h => ?_) (fun cdv A outer s H vs Q E hr h => ?_)
  · obtain ⟨a, d, n, T, rfl, _⟩ := h
    rfl
  · obtain ⟨a, d, n, T, rfl, hF, n0, n1, ⟨kvs, ed, tb⟩, tk, q⟩ := h
    have hr1 : Room 1 _ := hr.mono (by omega)
    have hr2 : Room 2 _ := hr.mono (by omega)
    have hr3 : Room 3 _ := hr.mono (by omega)
    have hr5 : Room 5 _ := hr.mono (by omega)
    have hu1 : (A.deeper (envOfC "_law_moved" (defScope lMoved) s.heap.objs.size f cdv)).units + 1 < cLine := by
      have := hr.units
      omega
    refine ⟨_, PSs.nox (C8.pss_cut (ps_set (i := 3) scMoved.nd rfl (.inl rfl) (pe_callTy call_dictD (by rfl) md (by decide +kernel) (pa_cons (pv 1) pa_nil))) (C8.pss_cut (ps_for PassesOwn.never rfl (pi_range1 (by rfl) B.range (pa_cons (pe_call GD hr1 (by rfl) gD kD bD .nil pass0 (pa_cons (pv 0) (pa_cons (pv 2) pa_nil))) pa_nil)) (pg_name (i := 4) scMoved.nd rfl (.inl rfl))
        (C8.pss_cut (ps_par (i := 5) (j := 6) (by rfl) scMoved.nd rfl rfl (by decide) rfl rfl (pa_cons (pe_call GP hr2 (by rfl) gP kP bP .nil pass0 (pa_cons (pv 0) (pa_cons (pe_call0 GN hr1 (by rfl) gN kN bN .nil pass0) pa_nil))) (pa_cons (pe_call GD hr1 (by rfl) gD kD bD .nil pass0 (pa_cons (pv 0) (pa_cons (pe_int) pa_nil))) pa_nil)) (by rfl)) (pss_one (ps_if (pt_cmpR op_eq (pv 6) pe_int (nomark _)) (pss_one (ps_expr (pe_dpop2 (pv 3) (pv 5) pe_non ⟨rfl, rfl, rfl, rfl⟩)))
            (pss_one (ps_if (PW.pt (pw_or (pt_cmpR op_eq (pv 6) pe_int (nomark _)) (pw_or (pt_cmp (pc_dnotin hu1 (pv 5) (pv 3))) (pw_or1 (pt_cmpR op_eq (pe_ix ix_tup (pe_dget hu1 (pv 3) (pv 5) (fun _ _ => rfl)) pe_int (fun _ _ => rfl)) pe_str (nomark _))))))
              (pss_one (ps_dput hu1 (pv 3) (pv 5) (pe_call GT hr5 (by rfl) gT kT bT .nil pass0 (pa_cons (pv 0) pa_nil)) rfl))
              (C8.pss_cut (ps_set (i := 7) scMoved.nd rfl (.inl rfl) (pe_callTy call_dictD (by rfl) md (by decide +kernel) (pa_cons (pe_ix ix_tup (pe_dget hu1 (pv 3) (pv 5) (fun _ _ => rfl)) pe_int (fun _ _ => rfl)) pa_nil))) (C8.pss_cut (ps_dput hu1 (pv 7) (pe_call GP hr2 (by rfl) gP kP bP .nil pass0 (pa_cons (pv 0) (pa_cons (pe_call0 GO hr1 (by rfl) gO kO bO .nil pass0) pa_nil))) (pe_call GX hr3 (by rfl) gX kX bX .nil pass0 (pa_cons (pv 0) pa_nil)) rfl) (C8.pss_cut (ps_if (pt_cmpR op_eq (pv 6) pe_int (nomark _)) (pss_one (ps_expr (pe_dpop2 (pv 7) (pe_call GP hr2 (by rfl) gP kP bP .nil pass0 (pa_cons (pv 0) (pa_cons (pe_call0 GO hr1 (by rfl) gO kO bO .nil pass0) pa_nil))) pe_non ⟨rfl, rfl, rfl, rfl⟩))) pss_nil) (pss_one (ps_dput hu1 (pv 3) (pv 5) (pe_tup (pa_cons (pe_str) (pa_cons (pv 7) pa_nil))) rfl))))))))))) (pss_one (ps_ret (pv 3))))), ?_⟩
    refine ⟨fun σ' H' => ∃ c, σ' = [some (.ref a), some (.ref d), some (.int n), some (.ref c), none, none, none, none] ∧ H' c = some (.dK kvs) ∧ H c = none ∧ Same H H', ?_, ?_⟩
    · exact ⟨.ref d, rfl, d, kvs, rfl, ed, fun c hc => ⟨c, rfl, upd_same, hc, KS.sameUpd hc⟩⟩
    rintro _ H1 ⟨c, rfl, ec, nc, s1⟩
    have F1 := hF.same s1
    have nca : c ≠ a := fun z => by obtain ⟨x, y, e, _⟩ := F1; rw [z, e] at ec; cases ec
    have tb1 : Tab (ToD c H1) kvs T := tb.imp fun _ _ _ _ _ h => h.away nc s1
    refine ⟨fun σ' H' => ∃ x4 x5 x6 x7 kvs T, σ' = [some (.ref a), some (.ref d), some (.int n), some (.ref c), x4, x5, x6, x7] ∧ H' c = some (.dK kvs) ∧ Tab (ToD c H') kvs T ∧ TbK T ∧ Kp a H H' ∧ Fd H' a, ?_, ?_⟩
    · refine ⟨.ref a, rfl, .int n, rfl, a, n, rfl, F1, n0, by omega, fun m H2 m0 m1 k2 F2 => ⟨m, rfl, by omega, by omega, ?_⟩⟩
      have st2 := Stl.fd F1 k2
      refine forJ (n := _) (fun i σ' H' => ∃ x4 x5 x6 x7 kvs T, σ' = [some (.ref a), some (.ref d), some (.int n), some (.ref c), x4, x5, x6, x7] ∧ H' c = some (.dK kvs) ∧ Tab (ToD c H') kvs T ∧ TbK T ∧ Kp a H H' ∧ Fd H' a)
        ⟨none, none, none, none, kvs, T, rfl, k2 _ _ nca ec, tb1.imp fun _ _ _ _ _ h => h.stl st2, tk, (Kp.same s1).trans k2, F2⟩ (fun i σ' H' lt _ => lt) (fun σ' H' _ => Nat.le_refl _) (fun i σ' H0 x H3 lt h y => ?_) (fun _ _ h => h)
      obtain ⟨rfl, rfl⟩ := y
      obtain ⟨x4, x5, x6, x7, kvs, T, rfl, e3, tb, tk, k3, F3⟩ := h
      -- a name, a form
      refine ⟨fun σ' H' => ∃ nm fm, σ' = [some (.ref a), some (.ref d), some (.int n), some (.ref c), some (.int (0 + i)), some (.str nm), some (.int fm), x7] ∧ nm ∈ nmsL ∧ Kp a H3 H' ∧ Fd H' a, ?_, ?_⟩
      · refine ⟨.ref a, rfl, rfl, fun p hp => ?_⟩
        have sp := KS.sameUpd (o := .lst (nmsL.map V.str)) hp
        refine ⟨a, p, _, rfl, F3.same sp, .inl (.inl upd_same), fdNe F3 hp, by decide, by decide, fun j v H4 ev k4 F4 => ?_⟩
        obtain ⟨nm, hnm, rfl⟩ := List.mem_map.mp (List.mem_of_getElem? ev)
        refine ⟨.ref a, rfl, a, 4, rfl, F4, by decide, by decide, fun fm H5 _ _ k5 F5 => ⟨.str nm, .int fm, rfl, nm, fm, rfl, hnm, ((Kp.same sp).trans k4).trans k5, F5⟩⟩
      rintro _ H4 ⟨nm, fm, rfl, hnm, k4, F4⟩
      have e4 := k4 _ _ nca e3
      have st4 := Stl.fd F3 k4
      have tb4 : Tab (ToD c H4) kvs T := tb.imp fun _ _ _ _ _ h => h.stl st4
      have k04 := k3.trans k4
      have lk : kvs.length < sizeLine := by rw [tb.len, sizeLine_eq]; have := tk.len; omega
      -- what is put in
      have put : ∀ {H5 : Hp} {v : V} {t : Tg} {x7 : Option V}, H5 c = some (.dK kvs) → Kp a H H5 → Fd H5 a → Tab (ToD c H5) kvs T → ToD c H5 v t → TgK t → ∃ y4 y5 y6 y7 kvs' T', [some (.ref a), some (.ref d), some (.int n), some (.ref c), some (.int (0 + i)), some (.str nm), some (.int fm), x7] = ([some (.ref a), some (.ref d), some (.int n), some (.ref c), y4, y5, y6, y7] : L2.St) ∧
          upd H5 c (.dK (putK kvs (.inr nm) v)) c = some (.dK kvs') ∧ Tab (ToD c (upd H5 c (.dK (putK kvs (.inr nm) v)))) kvs' T' ∧ TbK T' ∧ Kp a H (upd H5 c (.dK (putK kvs (.inr nm) v))) ∧ Fd (upd H5 c (.dK (putK kvs (.inr nm) v))) a := fun {H5 v t x7} e5 k5 F5 tb5 tv tg => by
        have kp : Kp c H5 (upd H5 c (.dK (putK kvs (.inr nm) v))) := Kp.put
        refine ⟨_, _, _, _, _, tPut T nm t, rfl, upd_same, Tab.put (tb5.imp fun _ _ _ _ _ h => h.kp e5 kp) (tv.kp e5 kp), tk.put hnm tg, fun b o nb hb => ?_, fdOther F5 nca⟩
        rw [upd_ne fun z => by rw [z, nc] at hb; cases hb]
        exact k5 _ _ nb hb
      refine ⟨.int fm, rfl, rfl, _, rfl, ite2 (fun _ => ?_) (fun _ => ?_)⟩
      · refine ⟨.ref c, rfl, c, rfl, .inl ⟨kvs, .inl e4⟩, .str nm, rfl, kvs, .inr nm, e4, rfl, fun v hv => ?_, fun hv => ?_⟩
        · have kp : Kp c H4 (upd H4 c (.dK (dropK kvs (.inr nm)))) := Kp.put
          refine ⟨_, _, _, _, _, tDrop T nm, rfl, upd_same, Tab.drop nm (tb4.imp fun _ _ _ _ _ h => h.kp e4 kp), tk.drop nm, fun b o nb hb => ?_, fdOther F4 nca⟩
          rw [upd_ne fun z => by rw [z, nc] at hb; cases hb]
          exact k04 _ _ nb hb
        · exact ⟨_, _, _, _, kvs, T, rfl, e4, tb4, tk, k04, F4⟩
      · have nc4 : H4 c ≠ none := by rw [e4]; exact fun z => nomatch z
        refine ⟨.int fm, rfl, rfl, _, rfl, ite2 (fun _ => ⟨.ref a, rfl, a, rfl, F4, fun v t H5 tn tg k5 F5 => ⟨.ref c, rfl, .str nm, rfl, c, _, rfl, DPut.k (k := Sum.inr nm) (k5 _ _ nca e4) lk, put (k5 _ _ nca e4) (k04.trans k5) F5 (tb4.imp fun _ _ _ _ _ h => h.stl (Stl.fd F4 k5)) (tn.away nc4) tg⟩⟩) (fun _ => ?_)⟩
        refine ⟨.str nm, rfl, .ref c, rfl, c, _, rfl, DGet.k (k := Sum.inr nm) e4, _, rfl, ?_⟩
        rcases tb4.look nm with ⟨hv, _⟩ | ⟨v, t, hv, hl, ht⟩
        · rw [hv]
          exact iteT ⟨.ref a, rfl, a, rfl, F4, fun v t H5 tn tg k5 F5 => ⟨.ref c, rfl, .str nm, rfl, c, _, rfl, DPut.k (k := Sum.inr nm) (k5 _ _ nca e4) lk, put (k5 _ _ nca e4) (k04.trans k5) F5 (tb4.imp fun _ _ _ _ _ h => h.stl (Stl.fd F4 k5)) (tn.away nc4) tg⟩⟩
        have dg : DGet H4 c (.str nm) (some v) := by have := DGet.k (k := Sum.inr nm) e4; rw [hv] at this; exact this
        rw [hv]
        refine iteF ?_
        cases t with
        | mad r as =>
          obtain ⟨t0, vr, va, rfl, ht0, _⟩ := ht
          refine ⟨.ref c, rfl, .str nm, rfl, c, .ref t0, rfl, dg, t0, _, 0, .str "made", rfl, rfl, .inl (.inl ht0), rfl, rfl, _, rfl, ?_⟩
          rw [wMM]
          exact iteT ⟨.ref a, rfl, a, rfl, F4, fun v t H5 tn tg k5 F5 => ⟨.ref c, rfl, .str nm, rfl, c, _, rfl, DPut.k (k := Sum.inr nm) (k5 _ _ nca e4) lk, put (k5 _ _ nca e4) (k04.trans k5) F5 (tb4.imp fun _ _ _ _ _ h => h.stl (Stl.fd F4 k5)) (tn.away nc4) tg⟩⟩
        | src os =>
          obtain ⟨t0, d', rfl, ht0, nd', ho⟩ := ht
          refine ⟨.ref c, rfl, .str nm, rfl, c, .ref t0, rfl, dg, t0, _, 0, .str "source", rfl, rfl, .inl (.inl ht0), rfl, rfl, _, rfl, ?_⟩
          rw [wSM]
          refine iteF ?_
          have osk : OsK os := tk.tk nm _ (tLook_mem hl)
          refine ⟨fun σ' H' => ∃ u os', σ' = [some (.ref a), some (.ref d), some (.int n), some (.ref c), some (.int (0 + i)), some (.str nm), some (.int fm), some (.ref u)] ∧ H' u = some (.dK (oK os')) ∧ H4 u = none ∧ OsK os' ∧ (os'.map (·.1)).Nodup ∧ Kp a H4 H' ∧ Fd H' a, ?_, ?_⟩
          · refine ⟨.ref c, rfl, .str nm, rfl, c, .ref t0, rfl, dg, t0, _, 1, .ref d', rfl, rfl, .inl (.inl ht0), rfl, d', oK os, rfl, ho.1, fun u hu => ?_⟩
            have su := KS.sameUpd (o := .dK (oK os)) hu
            exact ⟨u, os, rfl, upd_same, hu, osk, ho.2.1, Kp.same su, F4.same su⟩
          rintro _ H5 ⟨u, os1, rfl, eu, nu, ok1, nd1, k5, F5⟩
          have nua : u ≠ a := fdNe F4 nu
          refine ⟨fun σ' H' => ∃ os', σ' = [some (.ref a), some (.ref d), some (.int n), some (.ref c), some (.int (0 + i)), some (.str nm), some (.int fm), some (.ref u)] ∧ H' u = some (.dK (oK os')) ∧ OsK os' ∧ (os'.map (·.1)).Nodup ∧ Kp a H4 H' ∧ Fd H' a, ?_, ?_⟩
          · refine ⟨.ref a, rfl, a, rfl, F5, fun z H6 tz k6 F6 => ⟨.ref u, rfl, .ref a, rfl, rfl, fun p hp => ?_⟩⟩
            have sp := KS.sameUpd (o := .lst (outsL.map V.str)) hp
            refine ⟨a, p, _, rfl, F6.same sp, .inl (.inl upd_same), fdNe F6 hp, by decide, by decide, fun j v H7 ev k7 F7 => ?_⟩
            obtain ⟨o, ho', rfl⟩ := List.mem_map.mp (List.mem_of_getElem? ev)
            have kk := (k6.trans (Kp.same sp)).trans k7
            have eu7 := kk _ _ nua eu
            refine ⟨u, _, rfl, DPut.k (k := Sum.inr o) eu7 (by rw [oK_len, sizeLine_eq]; have := ok1.1; omega), ?_⟩
            rw [oK_put]
            refine ⟨oPut os1 o z, rfl, upd_same, ok1.put nd1 ho', ndO nd1, fun b x nb hb => ?_, fdOther F7 nua⟩
            rw [upd_ne (ne_of_none hb nu)]
            exact (k5.trans kk) _ _ nb hb
          rintro _ H6 ⟨os2, rfl, eu6, ok2, nd2, k6, F6⟩
          refine ⟨fun σ' H' => ∃ os', σ' = [some (.ref a), some (.ref d), some (.int n), some (.ref c), some (.int (0 + i)), some (.str nm), some (.int fm), some (.ref u)] ∧ H' u = some (.dK (oK os')) ∧ OsK os' ∧ (os'.map (·.1)).Nodup ∧ Kp a H4 H' ∧ Fd H' a, ?_, ?_⟩
          · refine ⟨.int fm, rfl, rfl, _, rfl, ite2 (fun _ => ?_) (fun _ => ⟨os2, rfl, eu6, ok2, nd2, k6, F6⟩)⟩
            refine ⟨.ref u, rfl, u, rfl, .inl ⟨oK os2, .inl eu6⟩, .ref a, rfl, rfl, fun p hp => ?_⟩
            have sp := KS.sameUpd (o := .lst (outsL.map V.str)) hp
            refine ⟨a, p, _, rfl, F6.same sp, .inl (.inl upd_same), fdNe F6 hp, by decide, by decide, fun j v H7 ev k7 F7 => ?_⟩
            obtain ⟨o, ho', rfl⟩ := List.mem_map.mp (List.mem_of_getElem? ev)
            have kk := (Kp.same (f := a) sp).trans k7
            have eu7 := kk _ _ nua eu6
            refine ⟨oK os2, .inr o, eu7, rfl, fun v hv => ?_, fun hv => ⟨os2, rfl, eu7, ok2, nd2, k6.trans kk, F7⟩⟩
            rw [oK_drop]
            refine ⟨oDrop os2 o, rfl, upd_same, ok2.drop o, ndOD nd2, fun b x nb hb => ?_, fdOther F7 nua⟩
            rw [upd_ne (ne_of_none hb nu)]
            exact (k6.trans kk) _ _ nb hb
          rintro _ H7 ⟨os3, rfl, eu7, ok3, nd3, k7, F7⟩
          refine ⟨.ref u, rfl, (by show 2 ≤ sizeLine; decide), fun U hU => ?_⟩
          have sU := KS.sameUpd (o := .tup [.str "source", .ref u]) hU
          have k8 := k7.trans (Kp.same sU)
          have e8 := k8 _ _ nca e4
          have nuc : u ≠ c := fun z => by rw [z, e4] at nu; cases nu
          refine ⟨.ref c, rfl, .str nm, rfl, c, _, rfl, DPut.k (k := Sum.inr nm) e8 lk, put (t := .src os3) e8 (k04.trans k8) (F7.same sU) (tb4.imp fun _ _ _ _ _ h => h.stl (Stl.fd F4 k8)) ⟨U, u, rfl, upd_same, nuc, sU _ _ eu7, nd3, by have := ok3.1; omega⟩ ok3⟩
    rintro _ H2 ⟨x4, x5, x6, x7, kvs2, T2, rfl, e2, tb2, tk2, k2, F2⟩
    exact ⟨.ref c, rfl, q c T2 H2 ⟨kvs2, e2, tb2.imp fun _ _ _ _ _ h => h.to⟩ tk2 nc k2 F2⟩
end
end PJ

set_option Elab.async false
set_option linter.all false
set_option maxRecDepth 100000
set_option maxHeartbeats 4000000
/-! which versions a version descends from: lines and lists -/
namespace PJ
open PySem PySem.Spec PyProof.Rows L2 KS KS.La
/-- each version's parents stand ahead of it, all but the first have some -/
structure ParOk (qs : List (List Nat)) : Prop where
  lt : ∀ (k : Nat) (ks : List Nat), qs[k]? = some ks → ∀ p ∈ ks, p < k
  ne : ∀ (k : Nat) (ks : List Nat), qs[k + 1]? = some ks → ks ≠ []
  few : ∀ ks ∈ qs, ks.length ≤ 2
inductive Anc (qs : List (List Nat)) : Nat → Nat → Prop
  | refl (n : Nat) : Anc qs n n
  | step {n p m : Nat} (h : p ∈ qs.getD n []) (r : Anc qs p m) : Anc qs n m
theorem getD_some {qs : List (List Nat)} {n : Nat} {p : Nat} (h : p ∈ qs.getD n []) : ∃ ks, qs[n]? = some ks ∧ p ∈ ks := by
  rw [List.getD_eq_getElem?_getD] at h
  cases e : qs[n]? with
  | none => rw [e] at h; exact absurd h (by simp)
  | some ks => rw [e] at h; exact ⟨ks, rfl, h⟩
theorem Anc.le {qs : List (List Nat)} (ok : ParOk qs) {n m : Nat} (h : Anc qs n m) : m ≤ n := by
  induction h with
  | refl n => exact Nat.le_refl _
  | step h r ih =>
    obtain ⟨ks, e, hp⟩ := getD_some h
    have := ok.lt _ _ e _ hp
    omega
theorem Anc.trans {qs : List (List Nat)} {n m k : Nat} (h : Anc qs n m) (g : Anc qs m k) : Anc qs n k := by
  induction h with
  | refl n => exact g
  | step h r ih => exact .step h (ih g)
theorem Anc.zero {qs : List (List Nat)} (ok : ParOk qs) : ∀ n, n < qs.length → Anc qs n 0 := fun n => by
  induction n using Nat.strongRecOn with
  | _ n ih =>
    intro hn
    cases n with
    | zero => exact .refl 0
    | succ n =>
      have e : qs[n + 1]? = some qs[n + 1] := List.getElem?_eq_getElem hn
      have ne := ok.ne n _ e
      obtain ⟨p, r, er⟩ := List.exists_cons_of_ne_nil ne
      have hp : p ∈ qs[n + 1] := by rw [er]; exact List.mem_cons_self
      have lt := ok.lt _ _ e p hp
      refine .step (p := p) ?_ (ih p lt (by omega))
      rw [List.getD_eq_getElem?_getD, e]
      exact hp
/-! ### the law's list -/
def linStep (qs : List (List Nat)) (found : List Nat) (k : Nat) : List Nat := if k ∈ found then found ++ (qs.getD k []).filter (fun p => decide (p ∉ found)) else found
def linT (qs : List (List Nat)) (n : Nat) : Nat → List Nat
  | 0 => [n]
  | i + 1 => linStep qs (linT qs n i) (n - i)
def lineage (qs : List (List Nat)) (n : Nat) : List Nat := linT qs n (n + 1)
theorem linStep_sub {qs : List (List Nat)} {found : List Nat} {k z : Nat} (h : z ∈ found) : z ∈ linStep qs found k := by
  unfold linStep
  split
  · exact List.mem_append_left _ h
  · exact h
theorem linT_anc {qs : List (List Nat)} (ok : ParOk qs) (n : Nat) : ∀ i, ∀ m ∈ linT qs n i, Anc qs n m
  | 0, m, h => by rw [List.mem_singleton.mp h]; exact .refl _
  | i + 1, m, h => by
    have ih := linT_anc ok n i
    have h' : m ∈ linStep qs (linT qs n i) (n - i) := h
    unfold linStep at h'
    split at h'
    · rename_i hk
      rcases List.mem_append.mp h' with h1 | h1
      · exact ih m h1
      · exact (ih _ hk).trans (.step (List.mem_filter.mp h1).1 (.refl _))
    · exact ih m h'
theorem linT_closed {qs : List (List Nat)} (ok : ParOk qs) (n : Nat) : ∀ i, i ≤ n + 1 → ∀ j ∈ linT qs n i, n < j + i → ∀ p ∈ qs.getD j [], p ∈ linT qs n i
  | 0, _, j, h, l, p, hp => by rw [List.mem_singleton.mp h] at l; omega
  | i + 1, hi, j, h, l, p, hp => by
    have ih := linT_closed ok n i (by omega)
    have h' : j ∈ linStep qs (linT qs n i) (n - i) := h
    show p ∈ linStep qs (linT qs n i) (n - i)
    unfold linStep at h' ⊢
    have ofF : j ∈ linT qs n i → n < j + i → p ∈ linT qs n i := fun a b => ih j a b p hp
    split at h'
    · rename_i hk
      rw [if_pos hk]
      have new : ∀ z ∈ (qs.getD (n - i) []).filter (fun p => decide (p ∉ linT qs n i)), z < n - i := fun z hz => by
        obtain ⟨ks, e, hz⟩ := getD_some (List.mem_filter.mp hz).1
        exact ok.lt _ _ e _ hz
      have jf : j ∈ linT qs n i := by
        rcases List.mem_append.mp h' with a | a
        · exact a
        · have := new j a
          omega
      by_cases c : j = n - i
      · by_cases pf : p ∈ linT qs n i
        · exact List.mem_append_left _ pf
        · exact List.mem_append_right _ (List.mem_filter.mpr ⟨by rw [← c]; exact hp, decide_eq_true pf⟩)
      · exact List.mem_append_left _ (ofF jf (by omega))
    · rename_i hk
      rw [if_neg hk]
      by_cases c : j = n - i
      · rw [c] at h'
        exact absurd h' hk
      · exact ofF h' (by omega)
theorem linT_has {qs : List (List Nat)} (n : Nat) : ∀ i, n ∈ linT qs n i
  | 0 => List.mem_singleton.mpr rfl
  | i + 1 => linStep_sub (linT_has n i)
theorem lin_mem {qs : List (List Nat)} (ok : ParOk qs) (n m : Nat) : m ∈ lineage qs n ↔ Anc qs n m := by
  refine ⟨fun h => linT_anc ok n _ m h, fun h => ?_⟩
  have key : ∀ a b, Anc qs a b → a ∈ lineage qs n → b ∈ lineage qs n := fun a b h => by
    induction h with
    | refl a => exact id
    | step h r ih => exact fun ha => ih (linT_closed ok n (n + 1) (Nat.le_refl _) _ ha (by omega) _ h)
  exact key n m h (linT_has n _)
theorem linT_len {qs : List (List Nat)} (ok : ParOk qs) (n : Nat) : ∀ i, (linT qs n i).length ≤ 1 + 2 * i
  | 0 => Nat.le_refl _
  | i + 1 => by
    have ih := linT_len ok n i
    show (linStep qs (linT qs n i) (n - i)).length ≤ _
    unfold linStep
    split
    · rw [List.length_append]
      have h1 := List.length_filter_le (fun p => decide (p ∉ linT qs n i)) (qs.getD (n - i) [])
      have h2 : (qs.getD (n - i) []).length ≤ 2 := by
        rw [List.getD_eq_getElem?_getD]
        cases e : qs[n - i]? with
        | none => exact Nat.zero_le _
        | some ks => exact ok.few ks (List.mem_of_getElem? e)
      omega
    · omega
/-! ### the program's lines -/
structure LsOk (qs : List (List Nat)) (ls : List Int) : Prop where
  len : ls.length = qs.length
  nat : ∀ n, n < qs.length → ∃ x : Nat, ls.getD n 0 = (x : Int) ∧ ∀ m, x.testBit m = true ↔ Anc qs n m
theorem Anc.app {qs : List (List Nat)} (ok : ParOk qs) (ks : List Nat) : ∀ n, n < qs.length → ∀ m, Anc (qs ++ [ks]) n m ↔ Anc qs n m := fun n => by
  induction n using Nat.strongRecOn with
  | _ n ih =>
    intro hn m
    have e : (qs ++ [ks]).getD n [] = qs.getD n [] := by
      rw [List.getD_eq_getElem?_getD, List.getD_eq_getElem?_getD, List.getElem?_append_left hn]
    constructor
    · intro h
      cases h with
      | refl => exact .refl _
      | @step _ p _ h r =>
        rw [e] at h
        obtain ⟨l, el, hp⟩ := getD_some h
        have lt := ok.lt _ _ el _ hp
        exact .step h ((ih p lt (by omega) m).mp r)
    · intro h
      cases h with
      | refl => exact .refl _
      | @step _ p _ h r =>
        obtain ⟨l, el, hp⟩ := getD_some h
        have lt := ok.lt _ _ el _ hp
        exact .step (by rw [e]; exact h) ((ih p lt (by omega) m).mpr r)
theorem ParOk.app {qs : List (List Nat)} (ok : ParOk qs) {ks : List Nat} (h : ∀ p ∈ ks, p < qs.length) (n : ks ≠ []) (l2 : ks.length ≤ 2) : ParOk (qs ++ [ks]) := by
  have at_ : ∀ k l, (qs ++ [ks])[k]? = some l → (k < qs.length ∧ qs[k]? = some l) ∨ (k = qs.length ∧ l = ks) := fun k l e => by
    rcases Nat.lt_trichotomy k qs.length with c | c | c
    · exact .inl ⟨c, by rw [List.getElem?_append_left c] at e; exact e⟩
    · rw [c, List.getElem?_append_right (Nat.le_refl _), Nat.sub_self] at e
      exact .inr ⟨c, (Option.some.inj e).symm⟩
    · rw [List.getElem?_append_right (by omega)] at e
      have : ([ks] : List (List Nat))[k - qs.length]? = none := List.getElem?_eq_none (by show 1 ≤ _; omega)
      rw [this] at e
      cases e
  refine ⟨fun k l e p hp => ?_, fun k l e => ?_, fun l hl => ?_⟩
  · rcases at_ k l e with ⟨_, e⟩ | ⟨rfl, rfl⟩
    · exact ok.lt k l e p hp
    · exact h p hp
  · rcases at_ _ l e with ⟨_, e⟩ | ⟨_, rfl⟩
    · exact ok.ne k l e
    · exact n
  · rcases List.mem_append.mp hl with hl | hl
    · exact ok.few l hl
    · rw [List.mem_singleton.mp hl]; exact l2
theorem line_nat {qs : List (List Nat)} {ls : List Int} (L : LsOk qs ls) (n : Nat) : ∀ (ks : List Nat) (x : Nat), (∀ p ∈ ks, p < qs.length) → ∃ y : Nat, ks.foldl (fun a k => Builtin.bitOr a (ls.getD k 0)) (x : Int) = (y : Int) ∧ ∀ m, y.testBit m = true ↔ (x.testBit m = true ∨ ∃ p ∈ ks, Anc qs p m)
  | [], x, _ => ⟨x, rfl, fun m => ⟨.inl, fun h => h.elim id fun ⟨_, h, _⟩ => absurd h (by simp)⟩⟩
  | k :: ks, x, h => by
    obtain ⟨z, ez, hz⟩ := L.nat k (h k List.mem_cons_self)
    obtain ⟨y, ey, hy⟩ := line_nat L n ks (x ||| z) fun p hp => h p (List.mem_cons_of_mem _ hp)
    refine ⟨y, ?_, fun m => ?_⟩
    · rw [List.foldl_cons, ez, bitOr_nn (Int.natCast_nonneg _) (Int.natCast_nonneg _), Int.toNat_natCast, Int.toNat_natCast]
      exact ey
    · rw [hy m, Nat.testBit_or, Bool.or_eq_true, hz m]
      constructor
      · rintro ((a | a) | ⟨p, hp, a⟩)
        · exact .inl a
        · exact .inr ⟨k, List.mem_cons_self, a⟩
        · exact .inr ⟨p, List.mem_cons_of_mem _ hp, a⟩
      · rintro (a | ⟨p, hp, a⟩)
        · exact .inl (.inl a)
        · rcases List.mem_cons.mp hp with rfl | hp
          · exact .inl (.inr a)
          · exact .inr ⟨p, hp, a⟩
theorem LsOk.app {qs : List (List Nat)} {ls : List Int} (L : LsOk qs ls) (ok : ParOk qs) {ks : List Nat} (h : ∀ p ∈ ks, p < qs.length) : LsOk (qs ++ [ks]) (ls ++ [lineOf qs.length ls ks]) := by
  refine ⟨by rw [List.length_append, List.length_append, L.len]; rfl, fun n hn => ?_⟩
  rw [List.length_append] at hn
  have hn' : n < qs.length + 1 := hn
  by_cases c : n < qs.length
  · obtain ⟨x, ex, hx⟩ := L.nat n c
    refine ⟨x, ?_, fun m => by rw [hx m, Anc.app ok ks n c m]⟩
    rw [List.getD_eq_getElem?_getD, List.getElem?_append_left (by rw [L.len]; exact c), ← List.getD_eq_getElem?_getD]
    exact ex
  · have e : n = qs.length := by omega
    subst e
    obtain ⟨y, ey, hy⟩ := line_nat L qs.length ks (2 ^ qs.length) h
    refine ⟨y, ?_, fun m => ?_⟩
    · rw [List.getD_eq_getElem?_getD, List.getElem?_append_right (by rw [L.len]; exact Nat.le_refl _), L.len, Nat.sub_self]
      show lineOf qs.length ls ks = _
      unfold lineOf
      rw [Int.one_mul, show ((2 : Int) ^ qs.length) = ((2 ^ qs.length : Nat) : Int) by push_cast; rfl]
      exact ey
    · have e : (qs ++ [ks]).getD qs.length [] = ks := by
        rw [List.getD_eq_getElem?_getD, List.getElem?_append_right (Nat.le_refl _), Nat.sub_self]
        rfl
      rw [hy m, Nat.testBit_two_pow, decide_eq_true_eq]
      constructor
      · rintro (rfl | ⟨p, hp, a⟩)
        · exact .refl _
        · exact .step (by rw [e]; exact hp) ((Anc.app ok ks p (h p hp) m).mpr a)
      · intro a
        cases a with
        | refl => exact .inl rfl
        | @step _ p _ hp r =>
          rw [e] at hp
          exact .inr ⟨p, hp, (Anc.app ok ks p (h p hp) m).mp r⟩
theorem LsOk.one : LsOk [[]] [1] := ⟨rfl, fun n hn => by
  have e : n = 0 := by have : n < 1 := hn; omega
  subst e
  refine ⟨1, rfl, fun m => ?_⟩
  have : (1 : Nat) = 2 ^ 0 := rfl
  rw [this, Nat.testBit_two_pow, decide_eq_true_eq]
  constructor
  · rintro rfl; exact .refl _
  · intro h
    cases h with
    | refl => rfl
    | step h r => exact absurd h (by simp)⟩
theorem ParOk.one : ParOk [[]] := ⟨fun k ks e p hp => by
  cases k with
  | zero => cases e; exact absurd hp (by simp)
  | succ k => simp at e, fun k ks e => by simp at e, fun ks h => by rw [List.mem_singleton.mp h]; exact Nat.zero_le _⟩
/-- the base by the lines is the greatest common one -/
theorem base_is {qs : List (List Nat)} {ls : List Int} (L : LsOk qs ls) (ok : ParOk qs) {i j b : Nat} (hi : i < qs.length) (hj : j < qs.length) (h1 : Anc qs i b) (h2 : Anc qs j b) (mx : ∀ m, Anc qs i m → Anc qs j m → m ≤ b) :
    (Builtin.Int.intBits (Builtin.bitAnd (ls.getD i 0) (ls.getD j 0)) : Nat) = b + 1 := by
  obtain ⟨x, ex, hx⟩ := L.nat i hi
  obtain ⟨y, ey, hy⟩ := L.nat j hj
  have e : Builtin.bitAnd (x : Int) (y : Int) = ((x &&& y : Nat) : Int) := by
    rw [bitAnd_pp (Int.natCast_nonneg x) (Int.natCast_nonneg y), Int.toNat_natCast, Int.toNat_natCast]
  rw [ex, ey, e]
  have bits : ∀ m, (x &&& y).testBit m = true ↔ Anc qs i m ∧ Anc qs j m := fun m => by rw [Nat.testBit_and, Bool.and_eq_true, hx m, hy m]
  have hb := (bits b).mpr ⟨h1, h2⟩
  have ge := Nat.ge_two_pow_of_testBit hb
  have nz : x &&& y ≠ 0 := fun z => by rw [z] at ge; have := Nat.two_pow_pos b; omega
  have le1 : b ≤ (x &&& y).log2 := (Nat.le_log2 nz).mpr ge
  have le2 : (x &&& y).log2 ≤ b := by
    obtain ⟨a1, a2⟩ := (bits _).mp (Nat.testBit_log2 nz)
    exact mx _ a1 a2
  unfold Builtin.Int.intBits
  rw [if_neg (by simpa using nz), Int.natAbs_natCast]
  omega
end PJ

set_option Elab.async false
set_option linter.all false
set_option maxRecDepth 100000
set_option maxHeartbeats 8000000
/-! histories: numbers of no version; trunks -/
namespace PJ
open PySem PySem.Spec PyProof.Rows L2 KS KS.La
open KX hiding sameUpd
abbrev sHTrunk : Stmt := inClass (top 19) 9
/-! ### trunks -/
def trk (qs : List (List Nat)) : Nat → Nat → List Nat
  | 0, n => [n]
  | f + 1, n => match qs.getD n [] with
    | [] => [n]
    | p :: _ => n :: trk qs f p
def trunk (qs : List (List Nat)) (n : Nat) : List Nat := trk qs n n
theorem trk_fuel {qs : List (List Nat)} (ok : ParOk qs) : ∀ (f g n : Nat), n ≤ f → n ≤ g → trk qs f n = trk qs g n := fun f => by
  induction f with
  | zero =>
    intro g n hf hg
    have e : n = 0 := by omega
    subst e
    cases g with
    | zero => rfl
    | succ g =>
      unfold trk
      cases e : qs.getD 0 [] with
      | nil => rfl
      | cons p ps =>
        obtain ⟨ks, e1, hp⟩ := getD_some (show p ∈ qs.getD 0 [] by rw [e]; exact List.mem_cons_self)
        have := ok.lt 0 ks e1 p hp
        omega
  | succ f ih =>
    intro g n hf hg
    cases g with
    | zero =>
      have e : n = 0 := by omega
      subst e
      unfold trk
      cases e : qs.getD 0 [] with
      | nil => rfl
      | cons p ps =>
        obtain ⟨ks, e1, hp⟩ := getD_some (show p ∈ qs.getD 0 [] by rw [e]; exact List.mem_cons_self)
        have := ok.lt 0 ks e1 p hp
        omega
    | succ g =>
      unfold trk
      cases e : qs.getD n [] with
      | nil => rfl
      | cons p ps =>
        obtain ⟨ks, e1, hp⟩ := getD_some (show p ∈ qs.getD n [] by rw [e]; exact List.mem_cons_self)
        have := ok.lt n ks e1 p hp
        show n :: trk qs f p = n :: trk qs g p
        rw [ih g p (by omega) (by omega)]
theorem trunk_nil {qs : List (List Nat)} {n : Nat} (h : qs.getD n [] = []) : trunk qs n = [n] := by
  unfold trunk
  cases n with
  | zero => rfl
  | succ n =>
    unfold trk
    rw [h]
theorem trunk_cons {qs : List (List Nat)} (ok : ParOk qs) {n p : Nat} {ps : List Nat} (h : qs.getD n [] = p :: ps) : trunk qs n = n :: trunk qs p := by
  obtain ⟨ks, e1, hp⟩ := getD_some (show p ∈ qs.getD n [] by rw [h]; exact List.mem_cons_self)
  have lt := ok.lt n ks e1 p hp
  unfold trunk
  cases n with
  | zero => omega
  | succ n =>
    show (match qs.getD (n + 1) [] with | [] => [n + 1] | p :: _ => (n + 1) :: trk qs n p) = _
    rw [h]
    show (n + 1) :: trk qs n p = _
    rw [trk_fuel ok n p p (by omega) (Nat.le_refl _)]
theorem trunk_len {qs : List (List Nat)} (ok : ParOk qs) : ∀ n, (trunk qs n).length ≤ n + 1 := fun n => by
  induction n using Nat.strongRecOn with
  | _ n ih =>
    cases e : qs.getD n [] with
    | nil => rw [trunk_nil e]; show 1 ≤ n + 1; omega
    | cons p ps =>
      obtain ⟨ks, e1, hp⟩ := getD_some (show p ∈ qs.getD n [] by rw [e]; exact List.mem_cons_self)
      have lt := ok.lt n ks e1 p hp
      rw [trunk_cons ok e, List.length_cons]
      have := ih p lt
      omega
def natVs (l : List Nat) : List V := l.map fun k : Nat => V.int k
section
variable {P : Program} {w : World} {K : PySem.W.Frag} {mg : Str → Option Value} {base : Heap} {f : Addr} {fd : FuncData} {CS CM CP CG CH NT NS NV CF : Addr}
/-- is it a version? -/
def inB (i : Int) (n : Nat) : Bool := decide (0 ≤ i) && decide (i < (n : Int))
def spHHas2 (CH : Addr) : Sp := fun vs H Q _ => ∃ h A B C ps ls qs i, vs = [.ref h, .int i] ∧ HsAt CH H h A B C ps ls qs ∧ Q (.bl (inB i ps.length)) H
theorem okHHas2 {k : Nat} (G : Hsc P w K mg base CH NV) (Is : Has P w K mg base 1 "is_integer" ["value"] spIsInt) (F : FnM K "__contains__" "History.__contains__" sHHas f fd) : FnOk P w K mg base CX0 (k + 2) f fd ["self", "x"] (spHHas2 CH) := by
  obtain ⟨fI, fdI, gI, kI, bI, GI⟩ := Is.ex
  refine F.ok scHHas (fun vs H Q E h => ?_) (fun cdv A outer s H vs Q E hr h => ?_)
  · obtain ⟨h, A, B, C, ps, ls, qs, i, rfl, _⟩ := h
    rfl
  · obtain ⟨h, A1, B, C, ps, ls, qs, i, rfl, x, q⟩ := h
    have hr1 : Room 1 _ := hr.mono (by omega)
    obtain ⟨dh, eh⟩ := x.ob
    refine ⟨_, PSs.nox (pss_one (ps_ret (pe_and (pe_call GI hr1 (by rfl) gI kI bI .nil pass0 (pa_cons (pv 1) pa_nil)) (pe_one (pe_chain op_le op_lt pe_int (pv 1) (pe_callB call_len_seq (by rfl) G.len PySem.boot_len (pa_cons (pe_fld (pv 0) rfl) pa_nil))))))), ?_⟩
    refine ⟨.int i, rfl, i, rfl, true, rfl, iteT ⟨.int i, rfl, 0, i, rfl, rfl, decide (0 ≤ i), rfl, ?_⟩⟩
    unfold inB at q
    by_cases i0 : 0 ≤ i
    · rw [decide_eq_true i0] at q ⊢
      refine iteT ⟨.ref h, rfl, h, CH, dh, _, .ref A1, rfl, eh, G.iH.cl, G.n1, rfl, A1, _, rfl, .inl (.inl (.inl x.pa)), i, _, rfl, rfl, ?_⟩
      show Q (.bl (decide (i < ((ps.map V.ref).length : Int)))) H
      rw [List.length_map]
      exact q
    · rw [decide_eq_false i0] at q ⊢
      exact iteF q
/-- a refusal tells the number -/
def noVer (NV : Addr) (i : Int) (H : Hp) (E : XK) : Prop := ∀ d H', Same H H' → H' d = some (.xd [("number", .int i)]) → E (.ref NV) (some d) H'
abbrev HasIn2 (P : Program) (w : World) (K : PySem.W.Frag) (mg : Str → Option Value) (base : Heap) (CH : Addr) : Prop := ∃ (f : Addr) (fd : FuncData), PySem.W.findIn K (.ref CH) "__contains__" = some (some (.ref f)) ∧ PySem.W.isFn K (.ref f) = true ∧ Binds K fd ["self", "x"] [] ∧ FnOk P w K mg base CX0 2 f fd ["self", "x"] (spHHas2 CH)
def spHCheck2 (CH NV : Addr) : Sp := fun vs H Q E => ∃ h A B C ps ls qs i, vs = [.ref h, .int i] ∧ HsAt CH H h A B C ps ls qs ∧ (inB i ps.length = true → Q .non H) ∧ (inB i ps.length = false → noVer NV i H E)
theorem okHCheck2 {k : Nat} (G : Hsc P w K mg base CH NV) (Hh : HasIn2 P w K mg base CH) (F : FnM K "_check" "History._check" sHCheck f fd) : FnOk P w K mg base (L2.CX P w) (k + 4) f fd ["self", "number"] (spHCheck2 CH NV) := by
  obtain ⟨fH, dH, hH1, hH2, bH, GH⟩ := Hh
  refine F.ok scHCheck (fun vs H Q E h => ?_) (fun cdv A outer s H vs Q E hr h => ?_)
  · obtain ⟨h, A, B, C, ps, ls, qs, i, rfl, _⟩ := h
    rfl
  · obtain ⟨h, A1, B, C, ps, ls, qs, i, rfl, x, q1, q2⟩ := h
    have hr2 : Room 2 _ := hr.mono (by omega)
    obtain ⟨dh, eh⟩ := x.ob
    refine ⟨_, (pss_one (ps_if (pt_cmpR (OC.op_notInOwn (E := E0) (FnOk.raw GH bH .nil) hr2 hH1 hH2 pass0) (pv 1) (pv 0) (by rfl)) (pss_one (ps_raise rfl (takes_of rfl rfl rfl rfl) (pmkX G.xV (hr.mono (by omega)) (by rfl) (pa_cons (pv 1) pa_nil)))) pss_nil)), ?_⟩
    refine ⟨.int i, rfl, .ref h, rfl, h, dh, _, rfl, eh, h, A1, B, C, ps, ls, qs, i, rfl, x, inB i ps.length, rfl, !inB i ps.length, rfl, ?_⟩
    cases e : inB i ps.length with
    | true => exact iteF (q1 e)
    | false => exact iteT ⟨.int i, rfl, .int i, rfl, fun d H2 s2 hd => q2 e d H2 s2 hd⟩
def spHGet2 (CH NV : Addr) : Sp := fun vs H Q E => ∃ h A B C ps ls qs i, vs = [.ref h, .int i] ∧ HsAt CH H h A B C ps ls qs ∧ inB i ps.length = false ∧ noVer NV i H E
theorem okHGet2 {k : Nat} (G : Hsc P w K mg base CH NV) (Hh : HasIn2 P w K mg base CH) (F : FnM K "__getitem__" "History.__getitem__" sHGet f fd) : FnOk P w K mg base (L2.CX P w) (k + 4) f fd ["self", "at"] (spHGet2 CH NV) := by
  obtain ⟨fH, dH, hH1, hH2, bH, GH⟩ := Hh
  refine F.ok scHGet (fun vs H Q E h => ?_) (fun cdv A outer s H vs Q E hr h => ?_)
  · obtain ⟨h, A, B, C, ps, ls, qs, i, rfl, _⟩ := h
    rfl
  · obtain ⟨h, A1, B, C, ps, ls, qs, i, rfl, x, e, q⟩ := h
    have hr2 : Room 2 _ := hr.mono (by omega)
    obtain ⟨dh, eh⟩ := x.ob
    refine ⟨_, (pss_cons (ps_if (pt_cmpR (OC.op_notInOwn (E := E0) (FnOk.raw GH bH .nil) hr2 hH1 hH2 pass0) (pv 1) (pv 0) (by rfl)) (pss_one (ps_raise rfl (takes_of rfl rfl rfl rfl) (pmkX G.xV (hr.mono (by omega)) (by rfl) (pa_cons (pv 1) pa_nil)))) pss_nil) (pss_one (ps_ret (pe_ix ix_list (pe_fld (pv 0) rfl) (pv 1) (fun _ _ => rfl))))), ?_⟩
    refine ⟨.int i, rfl, .ref h, rfl, h, dh, _, rfl, eh, h, A1, B, C, ps, ls, qs, i, rfl, x, inB i ps.length, rfl, !inB i ps.length, rfl, ?_⟩
    rw [e]
    exact iteT ⟨.int i, rfl, .int i, rfl, fun d H2 s2 hd => q d H2 s2 hd⟩
abbrev Chk2 (P : Program) (w : World) (K : PySem.W.Frag) (mg : Str → Option Value) (base : Heap) (CH NV : Addr) : Prop := ∃ (f : Addr) (fd : FuncData), Meth K CH "_check" f ∧ Binds K fd ["self", "number"] [] ∧ FnOk P w K mg base (L2.CX P w) 4 f fd ["self", "number"] (spHCheck2 CH NV)
def spHPar2 (CH NV : Addr) : Sp := fun vs H Q E => ∃ h A B C ps ls qs i, vs = [.ref h, .int i] ∧ HsAt CH H h A B C ps ls qs ∧ inB i ps.length = false ∧ noVer NV i H E
theorem okHPar2 {k : Nat} (G : Hsc P w K mg base CH NV) (M : Chk2 P w K mg base CH NV) (F : FnM K "parents" "History.parents" sHPar f fd) : FnOk P w K mg base (L2.CX P w) (k + 5) f fd ["self", "number"] (spHPar2 CH NV) := by
  obtain ⟨fC, dC, hC, bC, GC⟩ := M
  refine F.ok scHPar (fun vs H Q E h => ?_) (fun cdv A outer s H vs Q E hr h => ?_)
  · obtain ⟨h, A, B, C, ps, ls, qs, i, rfl, _⟩ := h
    rfl
  · obtain ⟨h, A1, B, C, ps, ls, qs, i, rfl, x, e, q⟩ := h
    have hr4 : Room 4 _ := hr.mono (by omega)
    obtain ⟨dh, eh⟩ := x.ob
    refine ⟨_, (pss_cons (ps_expr (OD.pe_methT (pv 0) G.iH.cl hC GC hr4 bC (fun σ => passAt (takes_of rfl rfl rfl rfl) σ) (pa_cons (pv 1) pa_nil))) (pss_one (ps_ret (pe_ix ix_list (pe_fld (pv 0) rfl) (pv 1) (fun _ _ => rfl))))), ?_⟩
    exact ⟨.ref h, rfl, h, dh, _, rfl, eh, rfl, .int i, rfl, h, A1, B, C, ps, ls, qs, i, rfl, x, (fun z => by rw [e] at z; cases z), fun _ => q⟩
def spHCommit2 (CH NV : Addr) : Sp := fun vs H Q E => ∃ h A B C ps ls qs i v, vs = [.ref h, .int i, v] ∧ HsAt CH H h A B C ps ls qs ∧ inB i ps.length = false ∧ noVer NV i H E
theorem okHCommit2 {k : Nat} (G : Hsc P w K mg base CH NV) (M : Chk2 P w K mg base CH NV) (M' : Hme P w K mg base CH) (F : FnM K "commit" "History.commit" sHCommit f fd) : FnOk P w K mg base (L2.CX P w) (k + 5) f fd ["self", "parent", "project"] (spHCommit2 CH NV) := by
  obtain ⟨fC, dC, hC, bC, GC⟩ := M
  obtain ⟨fA, dA, hA, bA, GA⟩ := M'.add
  refine F.ok scHCommit (fun vs H Q E h => ?_) (fun cdv A outer s H vs Q E hr h => ?_)
  · obtain ⟨h, A, B, C, ps, ls, qs, i, v, rfl, _⟩ := h
    rfl
  · obtain ⟨h, A1, B, C, ps, ls, qs, i, v, rfl, x, e, q⟩ := h
    have hr4 : Room 4 _ := hr.mono (by omega)
    have hr1 : Room 1 _ := hr.mono (by omega)
    obtain ⟨dh, eh⟩ := x.ob
    refine ⟨_, (pss_cons (ps_expr (OD.pe_methT (pv 0) G.iH.cl hC GC hr4 bC (fun σ => passAt (takes_of rfl rfl rfl rfl) σ) (pa_cons (pv 1) pa_nil))) (pss_one (ps_ret (pe_meth (pv 0) G.iH.cl hA GA hr1 bA .nil pass0 (pa_cons (pv 2) (pa_cons (pe_tup (pa_cons (pv 1) pa_nil)) pa_nil)))))), ?_⟩
    exact ⟨.ref h, rfl, h, dh, _, rfl, eh, rfl, .int i, rfl, h, A1, B, C, ps, ls, qs, i, rfl, x, (fun z => by rw [e] at z; cases z), fun _ => q⟩
def spHBase2 (CH NV : Addr) : Sp := fun vs H Q E => ∃ h A B C ps ls qs i j bad, vs = [.ref h, .int i, .int j] ∧ HsAt CH H h A B C ps ls qs ∧ ((inB i ps.length = false ∧ bad = i) ∨ (inB i ps.length = true ∧ inB j ps.length = false ∧ bad = j)) ∧ noVer NV bad H E
theorem okHBase2 {k : Nat} (G : Hsc P w K mg base CH NV) (M : Chk2 P w K mg base CH NV) (F : FnM K "base" "History.base" sHBase f fd) : FnOk P w K mg base (L2.CX P w) (k + 5) f fd ["self", "one", "other"] (spHBase2 CH NV) := by
  obtain ⟨fC, dC, hC, bC, GC⟩ := M
  refine F.ok scHBase (fun vs H Q E h => ?_) (fun cdv A outer s H vs Q E hr h => ?_)
  · obtain ⟨h, A, B, C, ps, ls, qs, i, j, bad, rfl, _⟩ := h
    rfl
  · obtain ⟨h, A1, B, C, ps, ls, qs, i, j, bad, rfl, x, c, q⟩ := h
    have hr4 : Room 4 _ := hr.mono (by omega)
    obtain ⟨dh, eh⟩ := x.ob
    refine ⟨_, (pss_cons (ps_expr (OD.pe_methT (pv 0) G.iH.cl hC GC hr4 bC (fun σ => passAt (takes_of rfl rfl rfl rfl) σ) (pa_cons (pv 1) pa_nil))) (pss_cons (ps_expr (OD.pe_methT (pv 0) G.iH.cl hC GC hr4 bC (fun σ => passAt (takes_of rfl rfl rfl rfl) σ) (pa_cons (pv 2) pa_nil))) (pss_one (ps_ret (pe_op op_sub (pe_bits (pe_op op_and (pe_ix ix_list (pe_fld (pv 0) rfl) (pv 1) (fun _ _ => rfl)) (pe_ix ix_list (pe_fld (pv 0) rfl) (pv 2) (fun _ _ => rfl)))) pe_int))))), ?_⟩
    rcases c with ⟨e, rfl⟩ | ⟨e, e2, rfl⟩
    · exact ⟨.ref h, rfl, h, dh, _, rfl, eh, rfl, .int bad, rfl, h, A1, B, C, ps, ls, qs, bad, rfl, x, (fun z => by rw [e] at z; cases z), fun _ => q⟩
    · exact ⟨.ref h, rfl, h, dh, _, rfl, eh, rfl, .int i, rfl, h, A1, B, C, ps, ls, qs, i, rfl, x, (fun _ => ⟨.ref h, rfl, h, dh, _, rfl, eh, rfl, .int bad, rfl, h, A1, B, C, ps, ls, qs, bad, rfl, x, (fun z => by rw [e2] at z; cases z), fun _ => q⟩), fun z => by rw [e] at z; cases z⟩
theorem okHMerge2 {k : Nat} (G : Hsc P w K mg base CH NV) (MG : Mgc P w K mg base CS CM CG) (M : Hme P w K mg base CH) (N : Hmm P w K mg base CS CM CP CG CH CF) (Ba : ∃ (f : Addr) (fd : FuncData), Meth K CH "base" f ∧ Binds K fd ["self", "one", "other"] [] ∧ FnOk P w K mg base (L2.CX P w) 5 f fd ["self", "one", "other"] (spHBase2 CH NV))
    (F : FnM K "merge" "History.merge" sHMerge f fd) : FnOk P w K mg base (L2.CX P w) (k + 8) f fd ["self", "one", "other"] (spHBase2 CH NV) := by
  obtain ⟨fB, dB, hB, bB, GB⟩ := Ba
  obtain ⟨fA, dA, hA, bA, GA⟩ := M.add
  obtain ⟨fI, dI, MI, bI, GI⟩ := N.mak
  obtain ⟨fR, dR, hR, bR, GR⟩ := N.res
  obtain ⟨fL, dL, hL, bL, GL⟩ := N.fail
  refine F.ok scHMerge (fun vs H Q E h => ?_) (fun cdv A outer s H vs Q E hr h => ?_)
  · obtain ⟨h, A, B, C, ps, ls, qs, i, j, bad, rfl, _⟩ := h
    rfl
  · obtain ⟨h, A1, B, C, ps, ls, qs, i, j, bad, rfl, x, c, q⟩ := h
    have hr5 : Room 5 _ := hr.mono (by omega)
    have hr7 : Room (6 + 1) _ := hr.mono (by omega)
    have hr3 : Room 3 _ := hr.mono (by omega)
    have hr1 : Room 1 _ := hr.mono (by omega)
    obtain ⟨dh, eh⟩ := x.ob
    refine ⟨_, (pss_cons (ps_set (i := 3) scHMerge.nd rfl (.inl rfl) (OD.pe_methT (pv 0) G.iH.cl hB GB hr5 bB (fun σ => passAt (takes_of rfl rfl rfl rfl) σ) (pa_cons (pv 1) (pa_cons (pv 2) pa_nil)))) (pss_cons (ps_set (i := 4) scHMerge.nd rfl (.inl rfl) (pe_make MI GI hr7 (by rfl) N.gG bI .nil pass0 (pa_cons (pe_ix ix_list (pe_fld (pv 0) rfl) (pv 3) (fun _ _ => rfl)) (pa_cons (pe_ix ix_list (pe_fld (pv 0) rfl) (pv 1) (fun _ _ => rfl)) (pa_cons (pe_ix ix_list (pe_fld (pv 0) rfl) (pv 2) (fun _ _ => rfl)) pa_nil))))) (pss_cons (ps_if (pt_truth (pe_meth0 (pv 4) MG.cl hL GL hr1 bL .nil pass0) (by intro _; rfl)) (pss_one (ps_raise rfl (takes_of rfl rfl rfl rfl) (pmkX N.xF (hr.mono (by omega)) (by rfl) (pa_cons (pe_meth0 (pv 4) MG.cl hL GL hr1 bL .nil pass0) pa_nil)))) pss_nil) (pss_one (ps_ret (pe_meth (pv 0) G.iH.cl hA GA hr1 bA .nil pass0 (pa_cons (pe_meth0 (pv 4) MG.cl hR GR hr3 bR .nil pass0) (pa_cons (pe_tup (pa_cons (pv 1) (pa_cons (pv 2) pa_nil))) pa_nil)))))))), ?_⟩
    exact ⟨.ref h, rfl, h, dh, _, rfl, eh, rfl, .int i, rfl, .int j, rfl, h, A1, B, C, ps, ls, qs, i, j, bad, rfl, x, c, q⟩
def spHTrunk (CH NV : Addr) : Sp := fun vs H Q E => ∃ h A B C ps ls qs, (∃ n : Nat, vs = [.ref h, .int (n : Int)] ∧ HsAt CH H h A B C ps ls qs ∧ n < ps.length ∧ ps.length ≤ 30 ∧ ParOk qs ∧ ∀ t H', Same H H' → H' t = some (.tup (natVs (trunk qs n).reverse)) → Q (.ref t) H') ∨
  ∃ i : Int, vs = [.ref h, .int i] ∧ HsAt CH H h A B C ps ls qs ∧ inB i ps.length = false ∧ noVer NV i H E
abbrev nHTrunk : List Str := ["self", "number", "trunk"]
theorem scHTrunk : FnScope nHTrunk ["self", "number"] (defScope sHTrunk) := ⟨rfl, rfl, rfl, by decide +kernel, rfl, by decide +kernel, by decide +kernel⟩
theorem okHTrunk {k : Nat} (G : Hsc P w K mg base CH NV) (tu : mg "tuple" = none) (M : Chk2 P w K mg base CH NV) (F : FnM K "trunk" "History.trunk" sHTrunk f fd) : FnOk P w K mg base (L2.CX P w) (k + 5) f fd ["self", "number"] (spHTrunk CH NV) := by
  obtain ⟨fC, dC, hC, bC, GC⟩ := M
  refine F.ok scHTrunk (fun vs H Q E h => ?_) (fun cdv A outer s H vs Q E hr h => ?_)
  · obtain ⟨h, A, B, C, ps, ls, qs, ⟨n, rfl, _⟩ | ⟨i, rfl, _⟩⟩ := h
    · rfl
    · rfl
  · have hr4 : Room 4 _ := hr.mono (by omega)
    refine ⟨_, (C8.pss_cut (ps_expr (OD.pe_methT (pv 0) G.iH.cl hC GC hr4 bC (fun σ => passAt (takes_of rfl rfl rfl rfl) σ) (pa_cons (pv 1) pa_nil))) (C8.pss_cut (ps_set (i := 2) scHTrunk.nd rfl (.inl rfl) (pe_lst (pa_cons (pv 1) pa_nil))) (C8.pss_cut (ps_while (passes_of rfl) (pt_truth (pe_ix ix_list (pe_fld (pv 0) rfl) (pe_ix ix_list (pv 2) (pe_un un_neg pe_int) (fun _ _ => rfl)) (fun _ _ => rfl)) (by intro _; rfl))
        (pss_one (ps_expr (pe_bm PySem.F.plainAttrs_list PySem.F.slot_list_append PySem.F.type_list_append mt_append (pv 2) (pa_cons (pe_ix ix_tup (pe_ix ix_list (pe_fld (pv 0) rfl) (pe_ix ix_list (pv 2) (pe_un un_neg pe_int) (fun _ _ => rfl)) (fun _ _ => rfl)) pe_int (fun _ _ => rfl)) pa_nil))))) (pss_one (ps_ret (pe_callTy (T := "tuple") call_tuple_of (by rfl) tu (by decide +kernel) (pa_cons (pe_revL (pv 2)) pa_nil))))))), ?_⟩
    obtain ⟨h, A1, B, C, ps, ls, qs, ⟨n, rfl, x, ln, l30, ok, q⟩ | ⟨i, rfl, x, e, q⟩⟩ := h
    · obtain ⟨dh, eh⟩ := x.ob
      have e : inB (n : Int) ps.length = true := by
        unfold inB
        rw [decide_eq_true (by omega), decide_eq_true (by omega)]
        rfl
      refine ⟨fun σ' H' => σ' = [some (.ref h), some (.int n), none] ∧ H' = H, ?_, ?_⟩
      · exact ⟨.ref h, rfl, h, dh, _, rfl, eh, rfl, .int n, rfl, h, A1, B, C, ps, ls, qs, n, rfl, x, fun _ => ⟨rfl, rfl⟩, fun z => by rw [e] at z; cases z⟩
      rintro _ H1 ⟨rfl, rfl⟩
      refine ⟨fun σ' H' => ∃ l, σ' = [some (.ref h), some (.int n), some (.ref l)] ∧ H' l = some (.lst (natVs ([] ++ [n]))) ∧ H1 l = none ∧ Same H1 H', ?_, ?_⟩
      · exact ⟨.int n, rfl, (by show 1 ≤ sizeLine; decide), fun l hl => ⟨l, rfl, upd_same, hl, KS.sameUpd hl⟩⟩
      rintro _ H2 ⟨l, rfl, el, nl, s2⟩
      have lq := x.ql
      refine ⟨fun σ' H' => σ' = [some (.ref h), some (.int n), some (.ref l)] ∧ H' l = some (.lst (natVs (trunk qs n))) ∧ Same H1 H', ?_, ?_⟩
      · refine ⟨fun m σ' H' => ∃ dn, σ' = [some (.ref h), some (.int n), some (.ref l)] ∧ H' l = some (.lst (natVs (dn ++ [m]))) ∧ Same H1 H' ∧ m < ps.length ∧ trunk qs n = dn ++ trunk qs m, ⟨n, [], rfl, el, s2, ln, rfl⟩, fun m σ' H' hW => ?_⟩
        obtain ⟨dn, rfl, e3, s3, lm, et⟩ := hW
        obtain ⟨us, eB, pq⟩ := (x.same s3).pb
        obtain ⟨dh3, eh3⟩ := (x.same s3).ob
        have eqm : qs[m]? = some qs[m] := List.getElem?_eq_getElem (by omega)
        obtain ⟨t, et2, ht⟩ := parAt pq eqm
        have egd : qs.getD m [] = qs[m] := by rw [List.getD_eq_getElem?_getD, eqm]; rfl
        have el3 : H' l = some (.lst (natVs dn ++ [V.int m])) := by
          rw [e3]
          unfold natVs
          rw [List.map_append]
          rfl
        refine ⟨.ref h, rfl, h, CH, dh3, _, .ref B, rfl, eh3, G.iH.cl, G.n2, rfl, .ref l, rfl, 1, rfl, l, _, -1, .int m, rfl, rfl, .inl (.inl el3), atI_last _ _, B, us, m, .ref t, rfl, rfl, .inl (.inl eB), atI_nat et2, ?_⟩
        refine ⟨!(qs[m].map fun k : Nat => V.int k).isEmpty, .inr (.inl ⟨_, .inl (.inl ht), rfl⟩), ?_⟩
        cases eks : qs[m] with
        | nil =>
          refine iteF ⟨rfl, ?_, s3⟩
          rw [et, trunk_nil (by rw [egd, eks])]
          exact e3
        | cons p ks =>
          have tc := trunk_cons ok (n := m) (p := p) (ps := ks) (by rw [egd, eks])
          have lt : p < m := ok.lt m _ eqm p (by rw [eks]; exact List.mem_cons_self)
          refine iteT ⟨fun σ2 H2 => σ2 = [some (.ref h), some (.int n), some (.ref l)] ∧ H2 = upd H' l (.lst (natVs (dn ++ [m]) ++ [.int p])), fun σ2 H2 hN => ?_, ?_⟩
          · obtain ⟨rfl, rfl⟩ := hN
            refine ⟨p, lt, dn ++ [m], rfl, ?_, fun b o hb => ?_, by omega, ?_⟩
            · rw [upd_same]
              unfold natVs
              rw [List.map_append, List.map_append, List.map_append]
              rfl
            · rw [upd_ne (ne_of_none hb nl)]
              exact s3 _ _ hb
            · rw [et, tc, List.append_assoc]
              rfl
          · have ht' : H' t = some (.tup (V.int p :: ks.map fun k : Nat => V.int k)) := by rw [ht, eks]; rfl
            have ld : dn.length ≤ 31 := by
              have h1 := trunk_len ok n
              rw [et, List.length_append] at h1
              omega
            refine ⟨.ref l, rfl, .inl ⟨rfl, _, .inl (.inl e3)⟩, .ref h, rfl, h, CH, dh3, _, .ref B, rfl, eh3, G.iH.cl, G.n2, rfl, .ref l, rfl, 1, rfl, l, _, -1, .int m, rfl, rfl, .inl (.inl el3), atI_last _ _, B, us, m, .ref t, rfl, rfl, .inl (.inl eB), atI_nat et2, t, _, 0, .int p, rfl, rfl, .inl (.inl ht'), atI_nat (j := 0) rfl, l, _, _, rfl, rfl, e3, ?_, rfl, rfl⟩
            unfold natVs
            rw [List.length_map, List.length_append, sizeLine_eq]
            show dn.length + 1 < _
            omega
      rintro _ H3 ⟨rfl, e3, s3⟩
      refine ⟨.ref l, rfl, l, _, rfl, .inl (.inl e3), fun r hr2 => ⟨r, _, rfl, .inl ⟨.inl (.inl upd_same), fun t ht => ?_⟩⟩⟩
      have zr := KS.sameUpd (o := .lst (natVs (trunk qs n)).reverse) hr2
      have zt := KS.sameUpd (o := .tup (natVs (trunk qs n)).reverse) ht
      refine q t _ (s3.trans (zr.trans zt)) ?_
      rw [upd_same]
      unfold natVs
      rw [List.map_reverse]
    · obtain ⟨dh, eh⟩ := x.ob
      refine ⟨fun _ _ => False, ?_, fun _ _ z => z.elim⟩
      exact ⟨.ref h, rfl, h, dh, _, rfl, eh, rfl, .int i, rfl, h, A1, B, C, ps, ls, qs, i, rfl, x, (fun z => by rw [e] at z; cases z), fun _ => q⟩
end
end PJ

set_option Elab.async false
set_option linter.all false
set_option maxRecDepth 100000
set_option maxHeartbeats 8000000
/-! the law's lineage, its base -/
namespace PJ
open PySem PySem.Spec PyProof.Rows L2 KS KS.La
open KX hiding sameUpd
abbrev lLin : Stmt := top 35
abbrev lBase : Stmt := top 36
/-- the list of the parents -/
def PaAt (H : Hp) (a : Addr) (qs : List (List Nat)) : Prop := ∃ us : List V, H a = some (.lst us) ∧ Paired (ParA H) us qs
theorem PaAt.same {H H' : Hp} {a : Addr} {qs : List (List Nat)} (h : PaAt H a qs) (s : Same H H') : PaAt H' a qs := let ⟨us, e, p⟩ := h; ⟨us, s _ _ e, L2.Paired.mapP p fun _ _ h => h.stl (Stl.same s)⟩
def natV (l : List Nat) : List V := l.map fun k : Nat => V.int k
theorem natFlat (l : List Nat) : (natV l).all flatV = true := by
  rw [List.all_eq_true]
  intro v hv
  obtain ⟨k, _, rfl⟩ := List.mem_map.mp hv
  rfl
theorem natIn (l : List Nat) (k : Nat) : inV (.int k) (natV l) = decide (k ∈ l) := by
  unfold inV natV
  induction l with
  | nil => rfl
  | cons a l ih =>
    rw [List.map_cons, List.any_cons, ih]
    by_cases c : k = a
    · subst c
      have : eqV (.int (k : Int)) (.int (k : Int)) = true := by show ((k : Int) == (k : Int)) = true; simp
      rw [this]
      simp
    · have : eqV (.int (a : Int)) (.int (k : Int)) = false := by show ((a : Int) == (k : Int)) = false; rw [beq_eq_false_iff_ne]; exact fun z => c (by omega)
      rw [this]
      simp [c]
section
variable {P : Program} {w : World} {K : PySem.W.Frag} {mg : Str → Option Value} {base : Heap} {f : Addr} {fd : FuncData}
def spLin : Sp := fun vs H Q _ => ∃ pa n qs, vs = [.ref pa, .int ((n : Nat) : Int)] ∧ PaAt H pa qs ∧ ParOk qs ∧ n < qs.length ∧ qs.length ≤ 30 ∧ ∀ l H', Same H H' → H' l = some (.lst (natV (lineage qs n))) → H l = none → Q (.ref l) H'
abbrev nLin : List Str := ["_law_parents", "_law_number", "_law_found", "_law_one_here", "_law_two"]
theorem scLin : FnScope nLin ["_law_parents", "_law_number"] (defScope lLin) := ⟨rfl, rfl, rfl, by decide +kernel, rfl, by decide +kernel, by decide +kernel⟩
theorem okLin {k : Nat} (B : Bn mg) (F : FnP K "_law_lineage" lLin f fd) : FnOk P w K mg base CX0 (k + 1) f fd ["_law_parents", "_law_number"] spLin := by
  refine F.ok scLin (fun vs H Q E h => ?_) (fun cdv A outer s H vs Q E hr h => ?_)
  · obtain ⟨pa, n, qs, rfl, _⟩ := h
    rfl
  · obtain ⟨pa, n, qs, rfl, hp, ok, ln, l30, q⟩ := h
    refine ⟨_, PSs.nox (C8.pss_cut (ps_set (i := 2) scLin.nd rfl (.inr rfl) (pe_lst (pa_cons (pv 1) pa_nil))) (C8.pss_cut (ps_for PassesOwn.never rfl (pi_range3 (by rfl) B.range (pa_cons (pv 1) (pa_cons (pe_op op_sub pe_int pe_int) (pa_cons (pe_op op_sub pe_int pe_int) pa_nil)))) (pg_name (i := 3) scLin.nd rfl (.inl rfl))
        (pss_one (ps_if (pt_cmpR op_in_seq (pv 3) (pv 2) (by rfl)) (pss_one (ps_expr (pe_bm PySem.F.plainAttrs_list PySem.F.slot_list_extend PySem.F.type_list_extend mt_extend (pv 2)
          (pa_cons (pe_lc (own := [("_law_two", 4)]) (g := gName 4) rfl scLin.nd (pi_tup (pe_ix (r := rIxL K) ix_list (pv 0) (pv 3) (fun _ _ => rfl))) (blkOk_by (N := nLin) (sc := defScope lLin) (by decide +kernel))
            (fun _ _ _ _ _ => pg_name (i := 4) scLin.nd rfl (.inl rfl) (hf := .inr rfl)) (fun _ _ _ _ _ => pts_one (pt_cmpR (r := rIn K true) op_notIn_seq (pv 4) (pv 2) (by rfl))) (fun _ _ _ _ _ => pv 4)) pa_nil)))) pss_nil))) (pss_one (ps_ret (pv 2))))), ?_⟩
    refine ⟨fun σ' H' => ∃ l, σ' = [some (.ref pa), some (.int n), some (.ref l), none, none] ∧ H' l = some (.lst (natV [n])) ∧ H l = none ∧ Same H H', ?_, ?_⟩
    · exact ⟨.int n, rfl, (by show 1 ≤ sizeLine; decide), fun l hl => ⟨l, rfl, upd_same, hl, KS.sameUpd hl⟩⟩
    rintro _ H1 ⟨l, rfl, el, nl, s1⟩
    refine ⟨fun σ' H' => ∃ x3, σ' = [some (.ref pa), some (.int n), some (.ref l), x3, none] ∧ H' l = some (.lst (natV (lineage qs n))) ∧ Same H H', ?_, ?_⟩
    · refine ⟨.int n, rfl, 0, 1, rfl, rfl, 0, 1, rfl, rfl, n, -1, -1, n + 1, rfl, ?_, ?_⟩
      · have := RgC.neg (i := (n : Int)) (j := -1) (by omega) (by omega) (by decide) (by decide)
        have e : ((n : Int) - -1).toNat = n + 1 := by omega
        rw [e] at this
        exact this
      refine forJ (n := n + 1) (fun i σ' H' => ∃ x3, σ' = [some (.ref pa), some (.int n), some (.ref l), x3, none] ∧ H' l = some (.lst (natV (linT qs n i))) ∧ Same H H') ⟨none, rfl, el, s1⟩ (fun i σ' H' lt _ => lt) (fun σ' H' _ => Nat.le_refl _) (fun i σ' H0 x H2 lt h y => ?_) (fun _ _ h => h)
      obtain ⟨rfl, rfl⟩ := y
      obtain ⟨x3, rfl, e2, s2⟩ := h
      have ek : ((n : Int) + (i : Int) * -1) = ((n - i : Nat) : Int) := by omega
      rw [ek]
      have lk : n - i < qs.length := by omega
      refine ⟨.int (n - i : Nat), rfl, .ref l, rfl, l, _, rfl, .inl (.inl (.inl e2)), rfl, natFlat _, _, rfl, ?_⟩
      have ei : inV (.int ((n - i : Nat) : Int)) (natV (linT qs n i)) = decide ((n - i) ∈ linT qs n i) := natIn _ _
      show if (inV (.int ((n - i : Nat) : Int)) (natV (linT qs n i))) = true then _ else _
      rw [ei]
      by_cases c : (n - i) ∈ linT qs n i
      · rw [decide_eq_true c]
        have ls : linT qs n (i + 1) = linT qs n i ++ (qs.getD (n - i) []).filter (fun p => decide (p ∉ linT qs n i)) := by
          show linStep qs (linT qs n i) (n - i) = _
          unfold linStep
          rw [if_pos c]
        obtain ⟨us, ep, pq⟩ := hp.same s2
        have eq : qs[n - i]? = some qs[n - i] := List.getElem?_eq_getElem lk
        have ed : qs.getD (n - i) [] = qs[n - i] := by rw [List.getD_eq_getElem?_getD, eq]; rfl
        obtain ⟨t, et, ht⟩ := parAt pq eq
        have few := ok.few _ (List.getElem_mem lk)
        rw [ed] at ls
        generalize qs[n - i] = ks at *
        have ll := linT_len ok n i
        refine iteT ⟨.ref l, rfl, .inl ⟨rfl, _, .inl (.inl e2)⟩, .ref pa, rfl, .int (n - i : Nat), rfl, pa, us, _, .ref t, rfl, rfl, .inl (.inl ep), atI_nat et, t, rfl, ⟨_, .inl (.inl ht)⟩, fun D hD => ?_⟩
        have nDl : D ≠ l := fun z => by rw [z, e2] at hD; cases hD
        refine lcJ (n := ks.length) (vs := [4]) (fun j H' => ∃ acc, acc = (ks.take j).filter (fun p => decide (p ∉ linT qs n i)) ∧ H' D = some (.lst (natV acc)) ∧ Same H2 H') ⟨[], rfl, upd_same, KS.sameUpd hD⟩
          (fun j H' lt h => by obtain ⟨_, _, _, s⟩ := h; exact ⟨_, V.int (ks[j] : Nat), .inl (.inl (s _ _ ht)), by rw [List.getElem?_map, List.getElem?_eq_getElem lt]; rfl⟩) (fun H' h => by obtain ⟨_, _, _, s⟩ := h; exact ⟨_, .inl (.inl (s _ _ ht)), by rw [List.length_map]; exact Nat.le_refl _⟩) (fun j H' x H3 lt h y => ?_) (fun H' h => ?_)
        · obtain ⟨rfl, y⟩ := y
          obtain ⟨acc, ea, eD, s3⟩ := h
          have ex := y _ (.inl (.inl (s3 _ _ ht)))
          rw [List.getElem?_map, List.getElem?_eq_getElem lt] at ex
          obtain rfl : V.int (ks[j] : Nat) = x := Option.some.inj ex
          have et2 : (ks.take (j + 1)).filter (fun p => decide (p ∉ linT qs n i)) = acc ++ [ks[j]].filter (fun p => decide (p ∉ linT qs n i)) := by
            rw [List.take_succ_eq_append_getElem lt, List.filter_append, ea]
          have la : acc.length ≤ 2 := by
            rw [ea]
            have := List.length_filter_le (fun p => decide (p ∉ linT qs n i)) (ks.take j)
            rw [List.length_take] at this
            omega
          generalize ks[j] = p at *
          refine ⟨rfl, .int p, rfl, .ref l, rfl, l, _, rfl, .inl (.inl (.inl (s3 _ _ e2))), rfl, natFlat _, _, rfl, ?_⟩
          have ei2 : inV (.int (p : Int)) (natV (linT qs n i)) = decide (p ∈ linT qs n i) := natIn _ _
          show if (!inV (.int (p : Int)) (natV (linT qs n i))) = true then _ else _
          rw [ei2]
          by_cases c2 : p ∈ linT qs n i
          · rw [decide_eq_true c2]
            refine iteF ⟨acc, ?_, eD, s3⟩
            rw [et2, List.filter_cons_of_neg (by simpa using c2), List.filter_nil, List.append_nil]
          · rw [decide_eq_false c2]
            refine iteT ⟨.int p, rfl, _, eD, by rw [show (natV acc).length = acc.length from List.length_map _, sizeLine_eq]; omega, acc ++ [p], ?_, ?_, fun b o hb => ?_⟩
            · rw [et2, List.filter_cons_of_pos (by simpa using c2), List.filter_nil]
            · rw [upd_same]
              show _ = some (HO.lst (natV (acc ++ [p])))
              unfold natV
              rw [List.map_append]
              rfl
            · rw [upd_ne (ne_of_none hb hD)]
              exact s3 _ _ hb
        · obtain ⟨acc, ea, eD, s3⟩ := h
          rw [List.take_length] at ea
          refine ⟨l, D, _, _, rfl, rfl, s3 _ _ e2, eD, ?_, _, rfl, ?_, fun b o hb => ?_⟩
          · have la : acc.length ≤ 2 := by
              rw [ea]
              have := List.length_filter_le (fun p => decide (p ∉ linT qs n i)) ks
              omega
            rw [show (natV acc).length = acc.length from List.length_map _, show (natV (linT qs n i)).length = (linT qs n i).length from List.length_map _, sizeLine_eq]
            omega
          · rw [upd_same, ls, ← ea]
            show _ = some (HO.lst (natV (linT qs n i ++ acc)))
            unfold natV
            rw [List.map_append]
          · rw [upd_ne (ne_of_none hb nl)]
            exact s3 _ _ (s2 _ _ hb)
      · rw [decide_eq_false c]
        refine iteF ⟨_, rfl, ?_, s2⟩
        have ls : linT qs n (i + 1) = linT qs n i := by
          show linStep qs (linT qs n i) (n - i) = _
          unfold linStep
          rw [if_neg c]
        rw [ls]
        exact e2
    rintro _ H2 ⟨x3, rfl, e2, s2⟩
    exact ⟨.ref l, rfl, q l H2 s2 e2 nl⟩
/-- the greatest common one -/
def spBase : Sp := fun vs H Q _ => ∃ pa i j qs, vs = [.ref pa, .int ((i : Nat) : Int), .int ((j : Nat) : Int)] ∧ PaAt H pa qs ∧ ParOk qs ∧ i < qs.length ∧ j < qs.length ∧ qs.length ≤ 30 ∧
  ∀ (b : Nat) H', Anc qs i b → Anc qs j b → (∀ m, Anc qs i m → Anc qs j m → m ≤ b) → Same H H' → Q (.int b) H'
abbrev nBase : List Str := ["_law_parents", "_law_one_here", "_law_other", "_law_its", "_law_number"]
theorem scBase : FnScope nBase ["_law_parents", "_law_one_here", "_law_other"] (defScope lBase) := ⟨rfl, rfl, rfl, by decide +kernel, rfl, by decide +kernel, by decide +kernel⟩
theorem okBase {k : Nat} (B : Bn mg) (L : Has P w K mg base 1 "_law_lineage" ["_law_parents", "_law_number"] spLin) (F : FnP K "_law_base" lBase f fd) : FnOk P w K mg base CX0 (k + 2) f fd ["_law_parents", "_law_one_here", "_law_other"] spBase := by
  obtain ⟨fL, fdL, gL, kL, bL, GL⟩ := L.ex
  refine F.ok scBase (fun vs H Q E h => ?_) (fun cdv A outer s H vs Q E hr h => ?_)
  · obtain ⟨pa, i, j, qs, rfl, _⟩ := h
    rfl
  · obtain ⟨pa, i, j, qs, rfl, hp, ok, li, lj, l30, q⟩ := h
    have hr1 : Room 1 _ := hr.mono (by omega)
    refine ⟨_, PSs.nox (C8.pss_cut (ps_set (i := 3) scBase.nd rfl (.inr rfl) (pe_call GL hr1 (by rfl) gL kL bL .nil pass0 (pa_cons (pv 0) (pa_cons (pv 2) pa_nil)))) (pss_one (ps_ret (pe_callB (cr_max rfl) (by rfl) B.max (by decide +kernel) (pa_cons (pe_lc (own := [("_law_number", 4)]) (g := gName 4) rfl scBase.nd (pi_list (pe_call GL hr1 (by rfl) gL kL bL .nil pass0 (pa_cons (pv 0) (pa_cons (pv 1) pa_nil)))) (blkOk_by (N := nBase) (sc := defScope lBase) (by decide +kernel))
        (fun _ _ _ _ _ => pg_name (i := 4) scBase.nd rfl (.inl rfl) (hf := .inr rfl)) (fun _ _ _ _ _ => pts_one (pt_cmpR (r := rIn K false) op_in_seq (pv 4) (pv 3) (by rfl))) (fun _ _ _ _ _ => pv 4)) pa_nil))))), ?_⟩
    refine ⟨fun σ' H' => ∃ l, σ' = [some (.ref pa), some (.int i), some (.int j), some (.ref l), none] ∧ H' l = some (.lst (natV (lineage qs j))) ∧ Same H H', ?_, ?_⟩
    · exact ⟨.ref pa, rfl, .int j, rfl, pa, j, qs, rfl, hp, ok, lj, l30, fun l H' s e _ => ⟨l, rfl, e, s⟩⟩
    rintro _ H1 ⟨l, rfl, el, s1⟩
    refine ⟨.ref pa, rfl, .int i, rfl, pa, i, qs, rfl, hp.same s1, ok, li, l30, fun l2 H2 s2 e2 nl2 => ⟨l2, rfl, ⟨_, .inl (.inl e2)⟩, fun D hD => ?_⟩⟩
    have el2 := s2 _ _ el
    have ll := linT_len ok i (i + 1)
    refine lcJ (n := (lineage qs i).length) (vs := [4]) (fun x H' => ∃ acc, acc = ((lineage qs i).take x).filter (fun p => decide (p ∈ lineage qs j)) ∧ H' D = some (.lst (natV acc)) ∧ Same H2 H') ⟨[], rfl, upd_same, KS.sameUpd hD⟩
      (fun x H' lt h => by obtain ⟨_, _, _, s⟩ := h; exact ⟨_, V.int ((lineage qs i)[x] : Nat), .inl (.inl (s _ _ e2)), by rw [show natV (lineage qs i) = (lineage qs i).map fun k : Nat => V.int k from rfl, List.getElem?_map, List.getElem?_eq_getElem lt]; rfl⟩) (fun H' h => by obtain ⟨_, _, _, s⟩ := h; exact ⟨_, .inl (.inl (s _ _ e2)), by rw [show natV (lineage qs i) = (lineage qs i).map fun k : Nat => V.int k from rfl, List.length_map]; exact Nat.le_refl _⟩) (fun x H' v H3 lt h y => ?_) (fun H' h => ?_)
    · obtain ⟨rfl, y⟩ := y
      obtain ⟨acc, ea, eD, s3⟩ := h
      have ex := y _ (.inl (.inl (s3 _ _ e2)))
      rw [show natV (lineage qs i) = (lineage qs i).map fun k : Nat => V.int k from rfl, List.getElem?_map, List.getElem?_eq_getElem lt] at ex
      obtain rfl : V.int ((lineage qs i)[x] : Nat) = v := Option.some.inj ex
      have et2 : ((lineage qs i).take (x + 1)).filter (fun p => decide (p ∈ lineage qs j)) = acc ++ [(lineage qs i)[x]].filter (fun p => decide (p ∈ lineage qs j)) := by
        rw [List.take_succ_eq_append_getElem lt, List.filter_append, ea]
      have la : acc.length ≤ (lineage qs i).length := by
        rw [ea]
        have := List.length_filter_le (fun p => decide (p ∈ lineage qs j)) ((lineage qs i).take x)
        rw [List.length_take] at this
        omega
      have ll2 : (lineage qs i).length ≤ 70 := by unfold lineage; omega
      generalize (lineage qs i)[x] = p at *
      refine ⟨rfl, .int p, rfl, .ref l, rfl, l, _, rfl, .inl (.inl (.inl (s3 _ _ el2))), rfl, natFlat _, _, rfl, ?_⟩
      have ei2 : inV (.int (p : Int)) (natV (lineage qs j)) = decide (p ∈ lineage qs j) := natIn _ _
      show if (inV (.int (p : Int)) (natV (lineage qs j))) = true then _ else _
      rw [ei2]
      by_cases c2 : p ∈ lineage qs j
      · rw [decide_eq_true c2]
        refine iteT ⟨.int p, rfl, _, eD, by rw [show (natV acc).length = acc.length from List.length_map _, sizeLine_eq]; omega, acc ++ [p], ?_, ?_, fun b o hb => ?_⟩
        · rw [et2, List.filter_cons_of_pos (by simpa using c2), List.filter_nil]
        · rw [upd_same]
          show _ = some (HO.lst (natV (acc ++ [p])))
          unfold natV
          rw [List.map_append]
          rfl
        · rw [upd_ne (ne_of_none hb hD)]
          exact s3 _ _ hb
      · rw [decide_eq_false c2]
        refine iteF ⟨acc, ?_, eD, s3⟩
        rw [et2, List.filter_cons_of_neg (by simpa using c2), List.filter_nil, List.append_nil]
    · obtain ⟨acc, ea, eD, s3⟩ := h
      rw [List.take_length] at ea
      have mem : ∀ m, m ∈ acc ↔ Anc qs i m ∧ Anc qs j m := fun m => by rw [ea, List.mem_filter, lin_mem ok, decide_eq_true_eq, lin_mem ok]
      have z0 : 0 ∈ acc := (mem 0).mpr ⟨Anc.zero ok i li, Anc.zero ok j lj⟩
      refine ⟨D, acc.map fun k : Nat => (k : Int), rfl, .inl (.inl ?_), by rw [List.length_map]; exact List.length_pos_of_mem z0, fun m hm mx => ?_⟩
      · rw [eD, List.map_map]
        rfl
      · obtain ⟨b, hb, rfl⟩ := List.mem_map.mp hm
        obtain ⟨h1, h2⟩ := (mem b).mp hb
        refine q b H' h1 h2 (fun m a1 a2 => ?_) (s1.trans (s2.trans s3))
        have := mx (m : Int) (List.mem_map.mpr ⟨m, (mem m).mpr ⟨a1, a2⟩, rfl⟩)
        omega
end
end PJ

set_option Elab.async false
set_option linter.all false
set_option maxRecDepth 100000
set_option maxHeartbeats 4000000
/-! merges of like tables are alike -/
namespace PJ
open PySem PySem.Spec PyProof.Rows L2 KS KS.La
open KX hiding sameUpd
/-- the same up to the order of outputs -/
def TgP : Tg → Tg → Prop
  | .src os, .src os' => os.Perm os'
  | .mad r as, .mad r' as' => rcD r = rcD r' ∧ as = as'
  | _, _ => False
def oP : Option Tg → Option Tg → Prop
  | none, none => True
  | some t, some t' => TgP t t'
  | _, _ => False
theorem TgP.refl (t : Tg) : TgP t t := by
  cases t with
  | src os => exact List.Perm.refl os
  | mad r as => exact ⟨rfl, rfl⟩
theorem TgP.symm {t t' : Tg} (h : TgP t t') : TgP t' t := by
  cases t with
  | src os => cases t' with
    | src os' => exact List.Perm.symm h
    | mad r as => exact h.elim
  | mad r as => cases t' with
    | src os' => exact h.elim
    | mad r' as' => exact ⟨h.1.symm, h.2.symm⟩
theorem TgP.trans {t t' t2 : Tg} (h : TgP t t') (g : TgP t' t2) : TgP t t2 := by
  cases t with
  | src os => cases t' with
    | src os' => cases t2 with
      | src os2 => exact List.Perm.trans h g
      | mad r as => exact g.elim
    | mad r as => exact h.elim
  | mad r as => cases t' with
    | src os' => exact h.elim
    | mad r' as' => cases t2 with
      | src os2 => exact g.elim
      | mad r2 as2 => exact ⟨h.1.trans g.1, h.2.trans g.2⟩
theorem oP.refl (o : Option Tg) : oP o o := by
  cases o with
  | none => exact True.intro
  | some t => exact TgP.refl t
theorem oP.symm {o o' : Option Tg} (h : oP o o') : oP o' o := by
  cases o with
  | none => cases o' with
    | none => exact True.intro
    | some t => exact h.elim
  | some t => cases o' with
    | none => exact h.elim
    | some t' => exact TgP.symm h
theorem oP.trans {o o' o2 : Option Tg} (h : oP o o') (g : oP o' o2) : oP o o2 := by
  cases o with
  | none => cases o' with
    | none => exact g
    | some t => exact h.elim
  | some t => cases o' with
    | none => exact h.elim
    | some t' => cases o2 with
      | none => exact g.elim
      | some t2 => exact TgP.trans h g
theorem oK_mem {os : Outs} {p : Str × Str} : kvO p ∈ oK os ↔ p ∈ os := by
  constructor
  · intro h
    obtain ⟨q, hq, e⟩ := List.mem_map.mp h
    have e1 : q.1 = p.1 := Sum.inr.inj (congrArg Prod.fst e)
    have e2 : q.2 = p.2 := V.str.inj (congrArg Prod.snd e)
    have : q = p := Prod.ext e1 e2
    rw [← this]
    exact hq
  · exact fun h => List.mem_map.mpr ⟨p, h, rfl⟩
theorem nodupOf {os : Outs} (nd : (os.map (·.1)).Nodup) : os.Nodup := by
  rw [List.nodup_iff_pairwise_ne] at nd ⊢
  rw [List.pairwise_map] at nd
  exact nd.imp fun h e => h (by rw [e])
theorem osE_iff {os os' : Outs} (nd : (os.map (·.1)).Nodup) (nd' : (os'.map (·.1)).Nodup) : osE os os' = true ↔ os.Perm os' := by
  constructor
  · intro h
    have one : ∀ {a b : Outs}, (a.map (·.1)).Nodup → osE a b = true → ∀ p ∈ a, p ∈ b := fun {a b} na e p hp => by
      have h1 := ((osE_da na e).2 (kvO p) (oK_mem.mpr hp)).1
      exact oK_mem.mp (valMem2 h1)
    exact (List.perm_ext_iff_of_nodup (nodupOf nd) (nodupOf nd')).mpr fun p => ⟨one nd h p, one nd' (osE_symm nd nd' h) p⟩
  · intro h
    refine osE_of nd h.length_eq fun p hp => ?_
    have hp2 : p ∈ oK os' := (h.map kvO).mem_iff.mp hp
    exact valMem (oK_nd nd') hp2
theorem eqvStr2 (d : PyData) (z : Str) : PyData.eqv d (.str z) = true ↔ d = .str z := by
  cases d <;> simp [PyData.eqv]
theorem rcEqv (r r' : Rc) : PyData.eqv (rcD r) (rcD r') = true ↔ rcD r = rcD r' := by
  cases r <;> cases r' <;> simp [rcD, PyData.eqv, PyData.eqvAll]
theorem asEqvL : ∀ (as as' : List Str), PyData.eqvAll (as.map .str) (as'.map .str) = true ↔ as = as'
  | [], [] => by simp [PyData.eqvAll]
  | [], a :: as => by simp [PyData.eqvAll]
  | a :: as, [] => by simp [PyData.eqvAll]
  | a :: as, b :: bs => by
    have ih := asEqvL as bs
    simp only [List.map_cons, PyData.eqvAll, PyData.eqv, Bool.and_eq_true, ih, List.cons.injEq]
    constructor
    · rintro ⟨h, e⟩; exact ⟨by simpa using h, e⟩
    · rintro ⟨h, e⟩; exact ⟨by simpa using h, e⟩
theorem asEqv (as as' : List Str) : PyData.eqv (argsD as) (argsD as') = true ↔ as = as' := by
  unfold argsD
  rw [← asEqvL as as']
  simp [PyData.eqv]
theorem tgE_iff {t t' : Tg} (h : TgV t) (h' : TgV t') : tgE t t' = true ↔ TgP t t' := by
  cases t with
  | src os => cases t' with
    | src os' => exact osE_iff h h'
    | mad r as => exact ⟨(fun e => nomatch e), fun e => False.elim e⟩
  | mad r as => cases t' with
    | src os' => exact ⟨(fun e => nomatch e), fun e => False.elim e⟩
    | mad r' as' =>
      show (PyData.eqv (rcD r) (rcD r') && PyData.eqv (argsD as) (argsD as')) = true ↔ _
      rw [Bool.and_eq_true, rcEqv, asEqv]
      exact Iff.rfl
def oV (o : Option Tg) : Prop := ∀ t, o = some t → TgV t
theorem oE_iff {o o' : Option Tg} (h : oV o) (h' : oV o') : oE o o' = true ↔ oP o o' := by
  cases o with
  | none => cases o' with
    | none => exact ⟨fun _ => True.intro, fun _ => rfl⟩
    | some t => exact ⟨(fun e => nomatch e), fun e => False.elim e⟩
  | some t => cases o' with
    | none => exact ⟨(fun e => nomatch e), fun e => False.elim e⟩
    | some t' => exact tgE_iff (h t rfl) (h' t' rfl)
theorem oE_congr {o p o' p' : Option Tg} (v1 : oV o) (v2 : oV p) (v3 : oV o') (v4 : oV p') (ho : oP o o') (hp : oP p p') : oE o p = oE o' p' := by
  rw [Bool.eq_iff_iff, oE_iff v1 v2, oE_iff v3 v4]
  exact ⟨fun h => ho.symm.trans (h.trans hp), fun h => ho.trans (h.trans hp.symm)⟩
theorem oLook_perm {os os' : Outs} (nd : (os.map (·.1)).Nodup) (nd' : (os'.map (·.1)).Nodup) (h : os.Perm os') (k : Str) : oLook os k = oLook os' k := by
  have key : ∀ {a : Outs}, (a.map (·.1)).Nodup → ∀ z, oLook a k = some z ↔ (k, z) ∈ a := fun {a} na z => by
    unfold oLook
    constructor
    · intro e
      obtain ⟨p, hp, e2⟩ := Option.map_eq_some_iff.mp e
      have e1 : p.1 = k := of_decide_eq_true (List.find?_some (p := fun p : Str × Str => decide (p.1 = k)) hp)
      have := List.mem_of_find?_eq_some hp
      rw [← e1, ← e2]
      exact this
    · intro hm
      cases e : a.find? fun p => decide (p.1 = k) with
      | none => exact absurd (decide_eq_true rfl) (by have := List.find?_eq_none.mp e _ hm; exact this)
      | some p =>
        have e1 : p.1 = k := of_decide_eq_true (List.find?_some (p := fun p : Str × Str => decide (p.1 = k)) e)
        have hp := List.mem_of_find?_eq_some e
        have hv1 : valV (oK a) (.inr k) = some (.str z) := valMem (oK_nd na) (oK_mem.mpr hm)
        have hv2 : valV (oK a) (.inr k) = some (.str p.2) := valMem (oK_nd na) (by have := oK_mem.mpr hp; rw [← e1]; exact this)
        have := hv1.symm.trans hv2
        have : z = p.2 := V.str.inj (Option.some.inj this)
        rw [this]
        rfl
  cases e : oLook os k with
  | some z => exact ((key nd' z).mpr (h.mem_iff.mp ((key nd z).mp e))).symm
  | none =>
    cases e' : oLook os' k with
    | none => rfl
    | some z => rw [(key nd z).mpr (h.mem_iff.mpr ((key nd' z).mp e'))] at e; cases e
theorem isS_congr {o o' : Option Tg} (h : oP o o') : isS o = isS o' := by
  cases o with
  | none => cases o' with
    | none => rfl
    | some t => exact h.elim
  | some t => cases o' with
    | none => exact h.elim
    | some t' =>
      cases t with
      | src os => cases t' with
        | src os' => rfl
        | mad r as => exact h.elim
      | mad r as => cases t' with
        | src os' => exact h.elim
        | mad r' as' => rfl
theorem none_congr {o o' : Option Tg} (h : oP o o') : decide (o = none) = decide (o' = none) := by
  cases o with
  | none => cases o' with
    | none => rfl
    | some t => exact h.elim
  | some t => cases o' with
    | none => exact h.elim
    | some t' => exact (decide_eq_false (fun z : some t = none => nomatch z)).trans (decide_eq_false (fun z : some t' = none => nomatch z)).symm
theorem srcP {os : Outs} {o' : Option Tg} (h : oP (some (.src os)) o') : ∃ os', o' = some (.src os') ∧ os.Perm os' := by
  cases o' with
  | none => exact h.elim
  | some t' => cases t' with
    | src os' => exact ⟨os', rfl, h⟩
    | mad r as => exact h.elim
theorem msEq {nm : Str} {b o p b' o' p' : Option Tg} {cs cs' : List Str} {r r' : Option Tg} (vb : oV b) (vo : oV o) (vp : oV p) (vb' : oV b') (vo' : oV o') (vp' : oV p') (hb : oP b b') (ho : oP o o') (hp : oP p p')
    (h : MS nm b o p cs r) (h' : MS nm b' o' p' cs' r') : cs.Perm cs' ∧ oP r r' := by
  have em : mayT b o p = mayT b' o' p' := by
    unfold mayT
    rw [oE_congr vo vb vo' vb' ho hb, oE_congr vp vb vp' vb' hp hb, oE_congr vo vp vo' vp' ho hp]
  have es : (isS o && (isS p && (decide (b = none) || isS b))) = (isS o' && (isS p' && (decide (b' = none) || isS b'))) := by
    rw [isS_congr ho, isS_congr hp, isS_congr hb, none_congr hb]
  rcases h with ⟨m, rfl, rfl⟩ | ⟨m, h⟩
  · rcases h' with ⟨_, rfl, rfl⟩ | ⟨m', _⟩
    · refine ⟨.refl _, ?_⟩
      rw [oE_congr vo vb vo' vb' ho hb]
      by_cases c : oE o' b' = true
      · rw [if_pos c, if_pos c]; exact hp
      · rw [if_neg c, if_neg c]; exact ho
    · rw [em, m'] at m; cases m
  · rcases h' with ⟨m', _, _⟩ | ⟨_, h'⟩
    · rw [em, m'] at m; cases m
    · rcases h with ⟨B, O, R, ys, hB, rfl, rfl, nd, mem, rfl, rfl⟩ | ⟨s, rfl, rfl⟩
      · have isrc : (isS (some (Tg.src O)) && (isS (some (Tg.src R)) && (decide (b = none) || isS b))) = true := by
          rcases hB with ⟨rfl, _⟩ | rfl
          · rfl
          · rfl
        rcases h' with ⟨B', O', R', ys', hB', rfl, rfl, nd', mem', rfl, rfl⟩ | ⟨s', _, _⟩
        · have pO : O.Perm O' := ho
          have pR : R.Perm R' := hp
          have pB : B.Perm B' := by
            rcases hB with ⟨rfl, rfl⟩ | rfl
            · rcases hB' with ⟨_, rfl⟩ | rfl
              · exact .refl _
              · exact hb.elim
            · rcases hB' with ⟨rfl, _⟩ | rfl
              · exact hb.elim
              · exact hb
          have nB : (B.map (·.1)).Nodup := by
            rcases hB with ⟨_, rfl⟩ | rfl
            · exact List.nodup_nil
            · exact vb _ rfl
          have nB' : (B'.map (·.1)).Nodup := by
            rcases hB' with ⟨_, rfl⟩ | rfl
            · exact List.nodup_nil
            · exact vb' _ rfl
          have lB := oLook_perm nB nB' pB
          have lO := oLook_perm (vo _ rfl) (vo' _ rfl) pO
          have lR := oLook_perm (vp _ rfl) (vp' _ rfl) pR
          have py : ys.Perm ys' := permOfMem nd nd' fun z => by
            rw [mem z, mem' z, (pB.map (·.1)).mem_iff, (pO.map (·.1)).mem_iff, (pR.map (·.1)).mem_iff]
          have eM : mayY B O R = mayY B' O' R' := funext fun y => by unfold mayY; rw [lB, lO, lR]
          have eC : choY B O R = choY B' O' R' := funext fun y => by unfold choY; rw [lB, lO, lR]
          refine ⟨?_, ?_⟩
          · unfold csF
            rw [eM]
            exact (py.filter _).map _
          · show (osF B O R ys).Perm (osF B' O' R' ys')
            unfold osF
            rw [eM, eC]
            exact py.filterMap _
        · rw [← es, isrc] at s'; cases s'
      · rcases h' with ⟨B', O', R', ys', hB', rfl, rfl, _⟩ | ⟨s', rfl, rfl⟩
        · have isrc : (isS (some (Tg.src O')) && (isS (some (Tg.src R')) && (decide (b' = none) || isS b'))) = true := by
            rcases hB' with ⟨rfl, _⟩ | rfl
            · rfl
            · rfl
          rw [es, isrc] at s; cases s
        · exact ⟨.refl _, True.intro⟩
/-- what stands in a fold -/
theorem mfoldSpec {T3 : Fin 3 → Tb} {ys cs : List Str} {T : Tb} (h : MFold T3 ys cs T) (nd : ys.Nodup) : ∃ wr : Str → List Str, cs = ys.flatMap wr ∧ (T.map (·.1)).Nodup ∧ (∀ k ∈ T.map (·.1), k ∈ ys) ∧
    ∀ nm ∈ ys, MS nm (tLook (T3 0) nm) (tLook (T3 1) nm) (tLook (T3 2) nm) (wr nm) (tLook T nm) := by
  induction h with
  | nil => exact ⟨fun _ => [], rfl, List.nodup_nil, fun k hk => absurd hk (by simp), fun k hk => absurd hk (by simp)⟩
  | @snoc ys cs T nm cs' r h m ih =>
    have nd1 : ys.Nodup := (List.nodup_append.mp nd).1
    have nn : nm ∉ ys := fun hm => (List.nodup_append.mp nd).2.2 _ hm _ (List.mem_singleton.mpr rfl) rfl
    obtain ⟨wr, e, i2, i3, i4⟩ := ih nd1
    have nT : nm ∉ T.map (·.1) := fun hm => nn (i3 _ hm)
    have fl : ∀ l : List Str, (∀ z ∈ l, z ≠ nm) → l.flatMap (fun z => if z = nm then cs' else wr z) = l.flatMap wr := fun l => by
      induction l with
      | nil => exact fun _ => rfl
      | cons z l ih =>
        intro h
        rw [List.flatMap_cons, List.flatMap_cons, ih fun y hy => h y (List.mem_cons_of_mem _ hy), if_neg (h z List.mem_cons_self)]
    have e1 : ∀ z, z ≠ nm → tLook (tPutO T nm r) z = tLook T z := fun z hz => by
      cases r with
      | none => rfl
      | some t =>
        show tLook (tPut T nm t) z = _
        rw [tPut_new nT, tLook_app nT, if_neg (Ne.symm hz)]
    have e2 : tLook (tPutO T nm r) nm = r := by
      cases r with
      | none => exact tLook_none nT
      | some t =>
        show tLook (tPut T nm t) nm = _
        rw [tPut_new nT, tLook_app nT, if_pos rfl]
    refine ⟨fun z => if z = nm then cs' else wr z, ?_, ?_, fun k hk => ?_, fun z hz => ?_⟩
    · rw [List.flatMap_append, fl ys fun z hz e => nn (e ▸ hz), e]
      congr 1
      simp
    · cases r with
      | none => exact i2
      | some t =>
        show ((tPut T nm t).map (·.1)).Nodup
        rw [tPut_keys2]
        exact putNd i2
    · cases r with
      | none => exact List.mem_append_left _ (i3 k hk)
      | some t =>
        have hk' : k ∈ (tPut T nm t).map (·.1) := hk
        rw [tPut_keys2, if_neg nT] at hk'
        rcases List.mem_append.mp hk' with h | h
        · exact List.mem_append_left _ (i3 k h)
        · exact List.mem_append_right _ h
    · by_cases c : z = nm
      · subst c
        dsimp only
        rw [if_pos rfl, e2]
        exact m
      · dsimp only
        rw [if_neg c, e1 z c]
        rcases List.mem_append.mp hz with h | h
        · exact i4 z h
        · exact absurd (List.mem_singleton.mp h) c
/-- alike, name by name -/
def TbP (T T' : Tb) : Prop := ∀ nm, oP (tLook T nm) (tLook T' nm)
theorem TbP.refl (T : Tb) : TbP T T := fun nm => oP.refl _
theorem TbP.symm {T T' : Tb} (h : TbP T T') : TbP T' T := fun nm => (h nm).symm
theorem TbP.trans {T T' T2 : Tb} (h : TbP T T') (g : TbP T' T2) : TbP T T2 := fun nm => (h nm).trans (g nm)
/-- all targets of a table are valid -/
def TbV (T : Tb) : Prop := ∀ k t, (k, t) ∈ T → TgV t
theorem TbV.look {T : Tb} (h : TbV T) (nm : Str) : oV (tLook T nm) := fun t e => h nm t (tLook_mem e)
theorem TbP.like {T T' : Tb} (h : TbP T T') (nd : (T.map (·.1)).Nodup) (nd' : (T'.map (·.1)).Nodup) (v : TbV T) (v' : TbV T') : (T.map (·.1)).Perm (T'.map (·.1)) ∧ tbE T T' = true := by
  refine likeWhole (D := fun nm => tLook T' nm) (ys := T.map (·.1) ++ T'.map (·.1)) nd nd' (fun k hk => List.mem_append_left _ hk) (fun k hk => List.mem_append_right _ hk) (fun nm _ => ?_) fun _ _ => rfl
  have hn := h nm
  cases e : tLook T nm with
  | none =>
    rw [e] at hn
    cases e' : tLook T' nm with
    | none => exact True.intro
    | some t' => rw [e'] at hn; exact hn.elim
  | some t =>
    rw [e] at hn
    cases e' : tLook T' nm with
    | none => rw [e'] at hn; exact hn.elim
    | some t' =>
      rw [e'] at hn
      exact ⟨(tgE_iff (v.look nm t e) (v'.look nm t' e')).mpr hn, v.look nm t e⟩
theorem flatPerm {f g : Str → List Str} : ∀ (l : List Str), (∀ z ∈ l, (f z).Perm (g z)) → (l.flatMap f).Perm (l.flatMap g)
  | [], _ => .refl _
  | z :: l, h => by
    rw [List.flatMap_cons, List.flatMap_cons]
    exact (h z List.mem_cons_self).append (flatPerm l fun y hy => h y (List.mem_cons_of_mem _ hy))
theorem mfoldTwo {T3 T3' : Fin 3 → Tb} {ys ys' cs cs' : List Str} {T T' : Tb} (v : ∀ i, TbV (T3 i)) (v' : ∀ i, TbV (T3' i)) (rel : ∀ i, TbP (T3 i) (T3' i)) (h : MFold T3 ys cs T) (h' : MFold T3' ys' cs' T') (nd : ys.Nodup) (nd' : ys'.Nodup) (pm : ys.Perm ys') :
    cs.Perm cs' ∧ TbP T T' := by
  obtain ⟨wr, e, n, sb, m⟩ := mfoldSpec h nd
  obtain ⟨wr', e', n', sb', m'⟩ := mfoldSpec h' nd'
  have both : ∀ nm ∈ ys, (wr nm).Perm (wr' nm) ∧ oP (tLook T nm) (tLook T' nm) := fun nm hn =>
    msEq ((v 0).look nm) ((v 1).look nm) ((v 2).look nm) ((v' 0).look nm) ((v' 1).look nm) ((v' 2).look nm) (rel 0 nm) (rel 1 nm) (rel 2 nm) (m nm hn) (m' nm (pm.mem_iff.mp hn))
  refine ⟨?_, fun nm => ?_⟩
  · rw [e, e']
    exact (flatPerm ys fun z hz => (both z hz).1).trans (List.Perm.flatMap_right _ pm)
  · by_cases c : nm ∈ ys
    · exact (both nm c).2
    · rw [tLook_none fun hk => c (sb nm hk), tLook_none fun hk => c (pm.mem_iff.mpr (sb' nm hk))]
      exact True.intro
/-- what comes of a merge is over the names, with few outputs -/
theorem mfoldK {T3 : Fin 3 → Tb} {ys cs : List Str} {T : Tb} (h : MFold T3 ys cs T) (nd : ys.Nodup) (k3 : ∀ i, TbK (T3 i)) (mem : ∀ z, z ∈ ys ↔ ∃ i, z ∈ (T3 i).map (·.1)) : TbK T := by
  obtain ⟨wr, e, n, sb, m⟩ := mfoldSpec h nd
  refine ⟨n, fun k hk => ?_, fun k t hm => ?_⟩
  · obtain ⟨i, hi⟩ := (mem k).mp (sb k hk)
    exact (k3 i).sub k hi
  · have hk : k ∈ ys := sb k (List.mem_map.mpr ⟨_, hm, rfl⟩)
    have e1 : tLook T k = some t := tMem n hm
    have ms := m k hk
    rw [e1] at ms
    have tk : ∀ i t, tLook (T3 i) k = some t → TgK t := fun i t e => (k3 i).tk k t (tLook_mem e)
    rcases ms with ⟨_, _, er⟩ | ⟨_, ⟨B, O, R, zs, hB, eo, ep, nz, mz, _, er⟩ | ⟨_, _, er⟩⟩
    · by_cases c : oE (tLook (T3 1) k) (tLook (T3 0) k) = true
      · rw [if_pos c] at er; exact tk 2 t er.symm
      · rw [if_neg c] at er; exact tk 1 t er.symm
    · cases er
      have kO : OsK O := tk 1 _ eo
      have kR : OsK R := tk 2 _ ep
      have kB : OsK B := by
        rcases hB with ⟨_, rfl⟩ | eb
        · exact ⟨Nat.zero_le _, fun p hp => absurd hp (by simp)⟩
        · exact tk 0 _ eb
      refine oskOf (osF_nd nz) fun z hz => ?_
      obtain ⟨p, hp, rfl⟩ := List.mem_map.mp hz
      rcases (mz _).mp (osF_keys zs p hp) with h | h | h
      · exact kB.keys _ h
      · exact kO.keys _ h
      · exact kR.keys _ h
    · cases er
theorem mfoldV {T3 : Fin 3 → Tb} {ys cs : List Str} {T : Tb} (h : MFold T3 ys cs T) (nd : ys.Nodup) (v3 : ∀ i, TbV (T3 i)) : TbV T := by
  obtain ⟨wr, e, n, sb, m⟩ := mfoldSpec h nd
  intro k t hm
  have hk : k ∈ ys := sb k (List.mem_map.mpr ⟨_, hm, rfl⟩)
  have e1 : tLook T k = some t := tMem n hm
  have ms := m k hk
  rw [e1] at ms
  rcases ms with ⟨_, _, er⟩ | ⟨_, ⟨B, O, R, zs, hB, eo, ep, nz, mz, _, er⟩ | ⟨_, _, er⟩⟩
  · by_cases c : oE (tLook (T3 1) k) (tLook (T3 0) k) = true
    · rw [if_pos c] at er; exact (v3 2).look k t er.symm
    · rw [if_neg c] at er; exact (v3 1).look k t er.symm
  · cases er
    exact osF_nd nz
  · cases er
end PJ

set_option Elab.async false
set_option linter.all false
set_option maxRecDepth 100000
set_option maxHeartbeats 8000000
/-! the law's merge of outputs -/
namespace PJ
open PySem PySem.Spec PyProof.Rows L2 KS KS.La
open KX hiding sameUpd
abbrev lMO : Stmt := top 37
/-- what the law's own merge needs of the built-ins -/
structure Bm (mg : Str → Option Value) : Prop where
  b : Bn mg
  so : mg "sorted" = none
  se : mg "set" = none
  di : mg "dict" = none
theorem keysV (os : Outs) : ((oK os).map fun kv => kV kv.1) = (os.map (·.1)).map V.str := by
  unfold oK
  rw [List.map_map, List.map_map]
  rfl
theorem tabV {R : V → Tg → Prop} {kvs : List (Key × V)} {T : Tb} (h : Tab R kvs T) : (kvs.map fun kv => kV kv.1) = (T.map (·.1)).map V.str := by
  have e := h.keys
  have : (kvs.map fun kv => kV kv.1) = (kvs.map (·.1)).map kV := by rw [List.map_map]; rfl
  rw [this, e, List.map_map]
  rfl
theorem flatOf (a : Option Str) : flatV (ofS a) = true := by cases a <;> rfl
theorem eqOf (a b : Option Str) : eqV (ofS a) (ofS b) = decide (a = b) := by
  cases a with
  | none => cases b with
    | none => rfl
    | some y => exact (decide_eq_false (fun z : none = some y => nomatch z)).symm
  | some x => cases b with
    | none => exact (decide_eq_false (fun z : some x = none => nomatch z)).symm
    | some y =>
      show (x == y) = _
      by_cases c : x = y
      · subst c; simp
      · have : ¬ (some x = some y) := fun z => c (Option.some.inj z)
        rw [decide_eq_false this]
        simpa using c
/-- outputs with a text or none -/
def mayL (B X Y : Outs) (ys : List Str) : List (Str × Option Str) := (ys.filter fun y => mayY B X Y y).map fun y => (y, choY B X Y y)
def optK (L : List (Str × Option Str)) : List (Key × V) := L.map fun p => (.inr p.1, ofS p.2)
def someO (L : List (Str × Option Str)) : Outs := L.filterMap fun p => p.2.map fun z => (p.1, z)
theorem someO_mayL (B X Y : Outs) : ∀ ys : List Str, someO (mayL B X Y ys) = osF B X Y ys
  | [] => rfl
  | y :: ys => by
    have ih := someO_mayL B X Y ys
    unfold mayL osF someO at *
    by_cases c : mayY B X Y y = true
    · rw [List.filter_cons_of_pos (p := fun y => mayY B X Y y) c, List.map_cons, List.filterMap_cons, List.filterMap_cons, ih]
      dsimp only
      rw [if_pos c]
    · rw [List.filter_cons_of_neg (p := fun y => mayY B X Y y) c, List.filterMap_cons, ih, if_neg c]
theorem mayL_snoc (B X Y : Outs) (ys : List Str) (y : Str) : mayL B X Y (ys ++ [y]) = mayL B X Y ys ++ (if mayY B X Y y = true then [(y, choY B X Y y)] else []) := by
  unfold mayL
  rw [List.filter_append, List.map_append]
  congr 1
  by_cases c : mayY B X Y y = true
  · rw [if_pos c, List.filter_cons_of_pos (p := fun y => mayY B X Y y) c]; rfl
  · rw [if_neg c, List.filter_cons_of_neg (p := fun y => mayY B X Y y) c]; rfl
theorem mayL_keys (B X Y : Outs) (ys : List Str) : ∀ k ∈ (mayL B X Y ys).map (·.1), k ∈ ys := fun k hk => by
  obtain ⟨p, hp, rfl⟩ := List.mem_map.mp hk
  obtain ⟨y, hy, rfl⟩ := List.mem_map.mp hp
  exact (List.mem_filter.mp hy).1
theorem mayL_nd (B X Y : Outs) {ys : List Str} (h : ys.Nodup) : ((mayL B X Y ys).map (·.1)).Nodup := by
  unfold mayL
  rw [List.map_map]
  have : ((fun p : Str × Option Str => p.1) ∘ fun y => (y, choY B X Y y)) = id := rfl
  rw [this, List.map_id]
  exact h.filter _
theorem optK_keys (L : List (Str × Option Str)) : (optK L).map (·.1) = (L.map (·.1)).map (Sum.inr : Str → Key) := by
  unfold optK
  rw [List.map_map, List.map_map]
  rfl
theorem optK_new {L : List (Str × Option Str)} {k : Str} (h : k ∉ L.map (·.1)) : valV (optK L) (.inr k) = none := by
  cases e : valV (optK L) (.inr k) with
  | none => rfl
  | some v =>
    have hm := valMem2 e
    obtain ⟨p, hp, e2⟩ := List.mem_map.mp hm
    exact absurd (List.mem_map.mpr ⟨p, hp, Sum.inr.inj (congrArg Prod.fst e2)⟩) h
theorem mrgNil {os : Outs} (nd : (os.map (·.1)).Nodup) : mergeK [] (oK os) = oK os := by
  have := mergeApp (oK os) [] (by rw [List.nil_append]; exact oK_nd nd)
  rw [List.nil_append] at this
  exact this
theorem ToAt.tgv {K : PySem.W.Frag} {H : Hp} {v : V} {t : Tg} (h : ToAt H v t) : TgV t := by
  cases t with
  | src os => obtain ⟨_, _, _, _, ho⟩ := h; exact ho.2.1
  | mad r as => obtain ⟨_, _, _, _, _, hr, ha⟩ := h; exact ⟨(hr.dp (K := K)).2, (ha.dp (K := K)).2⟩
section
variable {P : Program} {w : World} {K : PySem.W.Frag} {mg : Str → Option Value} {base : Heap} {f : Addr} {fd : FuncData}
def spMO : Sp := fun vs H Q _ => ∃ nm vb b dx dy B X Y, vs = [.str nm, vb, .ref dx, .ref dy] ∧ TOk nm ∧ ToO H vb b ∧ ((b = none ∧ B = []) ∨ b = some (.src B)) ∧ OsIn H dx X ∧ OsIn H dy Y ∧ OsK B ∧ OsK X ∧ OsK Y ∧
  ∀ U r W ys H', ys.Nodup → (∀ z, z ∈ ys ↔ z ∈ B.map (·.1) ∨ z ∈ X.map (·.1) ∨ z ∈ Y.map (·.1)) → H' U = some (.tup [.ref r, .ref W]) → ToN H H' (.ref r) (.src (osF B X Y ys)) → H' W = some (.lst ((csF nm B X Y ys).map V.str)) → Same H H' → Q (.ref U) H'
abbrev nMO : List Str := ["_law_name", "_law_b", "_law_x", "_law_y", "_law_before", "_law_outputs", "_law_wrong", "_law_out"]
theorem scMO : FnScope nMO ["_law_name", "_law_b", "_law_x", "_law_y"] (defScope lMO) := ⟨rfl, rfl, rfl, by decide +kernel, rfl, by decide +kernel, by decide +kernel⟩
theorem okMO {k : Nat} (M : Bm mg) (F : FnP K "_law_merged_outputs" lMO f fd) : FnOk P w K mg base CX0 (k + 1) f fd ["_law_name", "_law_b", "_law_x", "_law_y"] spMO := by
  refine F.ok scMO (fun vs H Q E h => ?_) (fun cdv A outer s H vs Q E hr h => ?_)
  · obtain ⟨nm, vb, b, dx, dy, B, X, Y, rfl, _⟩ := h
    rfl
  · obtain ⟨nm, vb, b, dx, dy, B, X, Y, rfl, tn, hvb, hB, hX, hY, kB, kX, kY, q⟩ := h
    have hu1 : (A.deeper (envOfC "_law_merged_outputs" (defScope lMO) s.heap.objs.size f cdv)).units + 1 < cLine := by
      have := hr.units
      omega
    refine ⟨_, PSs.nox (C8.pss_cut (ps_asg (pe_tup (pa_cons (pe_ifExp (pt_cmp (pc_isN (pv 1))) pe_dnewK (pe_ix ix_tup (pv 1) pe_int (fun _ _ => rfl))) (pa_cons (pe_dnewK) (pa_cons (pe_lst pa_nil) pa_nil)))) (pg_tup rfl (pgs_cons (pg_name (i := 4) scMO.nd rfl (.inl rfl)) (pgs_cons (pg_name (i := 5) scMO.nd rfl (.inr rfl)) (pgs_cons (pg_name (i := 6) scMO.nd rfl (.inl rfl)) pgs_nil))))) (C8.pss_cut (ps_for PassesOwn.never rfl (pi_list (pe_callB (r := SX.rSortX P w) (SX.cr_sortX rfl) (by rfl) M.so (by decide +kernel) (pa_cons (pe_callTy (r := SX.rSetL P w K) (T := "set") (SX.cr_setL rfl) (by rfl) M.se (by decide +kernel)
            (pa_cons (pe_op op_cat (pe_op op_cat (pe_callTy (T := "list") (call_listD rfl) (by rfl) M.b.list (by decide +kernel) (pa_cons (pv 4) pa_nil)) (pe_callTy (T := "list") (call_listD rfl) (by rfl) M.b.list (by decide +kernel) (pa_cons (pv 2) pa_nil))) (pe_callTy (T := "list") (call_listD rfl) (by rfl) M.b.list (by decide +kernel) (pa_cons (pv 3) pa_nil))) pa_nil)) pa_nil))) (pg_name (i := 7) scMO.nd rfl (.inl rfl))
        (pss_one (ps_if (pt_cmpR op_eq (pe_dget1 hu1 (pv 2) (pv 7) ⟨rfl, rfl, rfl, rfl⟩) (pe_dget1 hu1 (pv 4) (pv 7) ⟨rfl, rfl, rfl, rfl⟩) (nomark _)) (pss_one (ps_dput hu1 (pv 5) (pv 7) (pe_dget1 hu1 (pv 3) (pv 7) ⟨rfl, rfl, rfl, rfl⟩) rfl))
          (pss_one (ps_if (pt_cmpR op_in_seq (pe_dget1 hu1 (pv 3) (pv 7) ⟨rfl, rfl, rfl, rfl⟩) (pe_tup (pa_cons (pe_dget1 hu1 (pv 4) (pv 7) ⟨rfl, rfl, rfl, rfl⟩) (pa_cons (pe_dget1 hu1 (pv 2) (pv 7) ⟨rfl, rfl, rfl, rfl⟩) pa_nil))) (by rfl)) (pss_one (ps_dput hu1 (pv 5) (pv 7) (pe_dget1 hu1 (pv 2) (pv 7) ⟨rfl, rfl, rfl, rfl⟩) rfl))
            (pss_one (ps_expr (pe_bm PySem.F.plainAttrs_list PySem.F.slot_list_append PySem.F.type_list_append mt_append (pv 6) (pa_cons (pe_op op_add_str (pe_op op_add_str (pv 0) pe_str) (pv 7)) pa_nil))))))))) (pss_one (ps_ret (pe_tup (pa_cons (pe_tup (pa_cons (pe_str) (pa_cons (pe_callTy (T := "dict") (call_dictP rfl) (by rfl) M.di (by decide +kernel) (pa_cons (pe_lock (pe_lc (own := [("_law_out", 7)]) (g := gName 7) rfl scMO.nd (pi_keys (pv 5)) (blkOk_by (N := nMO) (sc := defScope lMO) (by decide +kernel))
        (fun _ _ _ _ _ => pg_name (i := 7) scMO.nd rfl (.inl rfl) (hf := .inr rfl)) (fun _ _ _ _ _ => pts_one (pt_cmp (pc_notN (pe_dget hu1 (pv 5) (pv 7) (fun _ _ => rfl))))) (fun _ _ _ _ _ => pe_tup (pa_cons (pv 7) (pa_cons (pe_dget hu1 (pv 5) (pv 7) (fun _ _ => rfl)) pa_nil))))) pa_nil)) pa_nil))) (pa_cons (pv 6) pa_nil))))))), ?_⟩
    have nB : (B.map (·.1)).Nodup := by
      rcases hB with ⟨_, rfl⟩ | rfl
      · exact List.nodup_nil
      · exact ToAt.tgv (K := K) (t := .src B) hvb
    -- before, outputs, wrong
    refine ⟨fun σ' H' => ∃ db dq W, σ' = [some (.str nm), some vb, some (.ref dx), some (.ref dy), some (.ref db), some (.ref dq), some (.ref W), none] ∧ H' db = some (.dK (oK B)) ∧ H' dq = some (.dK []) ∧ H' W = some (.lst []) ∧ db ≠ dq ∧ H dq = none ∧ H W = none ∧ Same H H', ?_, ?_⟩
    · have fin : ∀ (db : Addr) (H1 : Hp), H1 db = some (.dK (oK B)) → Same H H1 → ∀ dq, H1 dq = none → ∀ W, upd H1 dq (.dK []) W = none → ∀ U, upd (upd H1 dq (.dK [])) W (.lst []) U = none →
          (upd (upd (upd H1 dq (.dK [])) W (.lst [])) U (.tup [.ref db, .ref dq, .ref W])) db = some (.dK (oK B)) ∧ (upd (upd (upd H1 dq (.dK [])) W (.lst [])) U (.tup [.ref db, .ref dq, .ref W])) dq = some (.dK []) ∧ (upd (upd (upd H1 dq (.dK [])) W (.lst [])) U (.tup [.ref db, .ref dq, .ref W])) W = some (.lst []) ∧ db ≠ dq ∧ H dq = none ∧ H W = none ∧ Same H (upd (upd (upd H1 dq (.dK [])) W (.lst [])) U (.tup [.ref db, .ref dq, .ref W])) := fun db H1 e s1 dq nq W nW U nU => by
        have z1 := KS.sameUpd (o := .dK []) nq
        have z2 := KS.sameUpd (o := .lst []) nW
        have z3 := KS.sameUpd (o := .tup [.ref db, .ref dq, .ref W]) nU
        exact ⟨z3 _ _ (z2 _ _ (z1 _ _ e)), z3 _ _ (z2 _ _ upd_same), z3 _ _ upd_same, (fun z => by rw [← z, e] at nq; cases nq), noneSame s1 nq, noneSame s1 (noneSame z1 nW), s1.trans (z1.trans (z2.trans z3))⟩
      rcases hB with ⟨rfl, rfl⟩ | rfl
      · have ev : vb = .non := hvb
        subst ev
        refine ⟨.non, rfl, true, rfl, iteT fun db ndb => fun dq nq => ⟨Nat.zero_le _, fun W nW => ⟨(by show 3 ≤ sizeLine; decide), fun U nU => ?_⟩⟩⟩
        obtain ⟨a1, a2, a3, a4, a5, a6, a7⟩ := fin db _ upd_same (KS.sameUpd ndb) dq nq W nW U nU
        exact ⟨U, _, rfl, .inl (.inl upd_same), rfl, .ref db, _, rfl, .ref dq, _, rfl, .ref W, _, rfl, rfl, db, dq, W, rfl, a1, a2, a3, a4, a5, a6, a7⟩
      · obtain ⟨t, d', rfl, ht, ho⟩ := (show ToAt H vb (.src B) from hvb)
        refine ⟨.ref t, rfl, false, rfl, iteF ⟨.ref t, rfl, t, _, 1, .ref d', rfl, rfl, .inl (.inl ht), rfl, fun dq nq => ⟨Nat.zero_le _, fun W nW => ⟨(by show 3 ≤ sizeLine; decide), fun U nU => ?_⟩⟩⟩⟩
        obtain ⟨a1, a2, a3, a4, a5, a6, a7⟩ := fin d' H ho.1 (Same.refl _) dq nq W nW U nU
        exact ⟨U, _, rfl, .inl (.inl upd_same), rfl, .ref d', _, rfl, .ref dq, _, rfl, .ref W, _, rfl, rfl, d', dq, W, rfl, a1, a2, a3, a4, a5, a6, a7⟩
    rintro _ H1 ⟨db, dq, W, rfl, eb, eq, eW, nbq, nq, nW, s1⟩
    -- the outputs
    refine ⟨fun σ' H' => ∃ x7 ys, σ' = [some (.str nm), some vb, some (.ref dx), some (.ref dy), some (.ref db), some (.ref dq), some (.ref W), x7] ∧ ys.Nodup ∧ (∀ z, z ∈ ys ↔ z ∈ B.map (·.1) ∨ z ∈ X.map (·.1) ∨ z ∈ Y.map (·.1)) ∧ H' dq = some (.dK (optK (mayL B X Y ys))) ∧ H' W = some (.lst ((csF nm B X Y ys).map V.str)) ∧ Same H H' ∧ ys.length ≤ 12, ?_, ?_⟩
    · have lB : (B.map (·.1)).length ≤ 4 := by rw [List.length_map]; exact kB.1
      have lX : (X.map (·.1)).length ≤ 4 := by rw [List.length_map]; exact kX.1
      have lY : (Y.map (·.1)).length ≤ 4 := by rw [List.length_map]; exact kY.1
      refine ⟨.ref db, rfl, db, oK B, rfl, .inl eb, fun l1 n1 => ?_⟩
      have z1 := KS.sameUpd (o := .lst ((oK B).map fun kv => kV kv.1)) n1
      refine ⟨.ref dx, rfl, dx, oK X, rfl, .inl (z1 _ _ (s1 _ _ hX.1)), fun l2 n2 => ?_⟩
      have z2 := KS.sameUpd (o := .lst ((oK X).map fun kv => kV kv.1)) n2
      refine ⟨l1, l2, _, _, rfl, rfl, z2 _ _ upd_same, upd_same, by simp only [keysV, List.length_map]; rw [sizeLine_eq]; have := kB.1; have := kX.1; omega, fun l3 n3 => ?_⟩
      have z3 := KS.sameUpd (o := .lst (((oK B).map fun kv => kV kv.1) ++ ((oK X).map fun kv => kV kv.1))) n3
      refine ⟨.ref dy, rfl, dy, oK Y, rfl, .inl (z3 _ _ (z2 _ _ (z1 _ _ (s1 _ _ hY.1)))), fun l4 n4 => ?_⟩
      have z4 := KS.sameUpd (o := .lst ((oK Y).map fun kv => kV kv.1)) n4
      refine ⟨l3, l4, _, _, rfl, rfl, z4 _ _ upd_same, upd_same, by simp only [keysV, List.length_map, List.length_append]; rw [sizeLine_eq]; have := kB.1; have := kX.1; have := kY.1; omega, fun l5 n5 => ?_⟩
      have z5 := KS.sameUpd (o := .lst ((((oK B).map fun kv => kV kv.1) ++ ((oK X).map fun kv => kV kv.1)) ++ ((oK Y).map fun kv => kV kv.1))) n5
      have zz := z1.trans (z2.trans (z3.trans (z4.trans z5)))
      have ks : ((((oK B).map fun kv => kV kv.1) ++ ((oK X).map fun kv => kV kv.1)) ++ ((oK Y).map fun kv => kV kv.1)) = ((B.map (·.1) ++ X.map (·.1)) ++ Y.map (·.1)).map V.str := by
        rw [keysV, keysV, keysV, List.map_append, List.map_append]
      rw [ks] at zz ⊢
      refine ⟨l5, (B.map (·.1) ++ X.map (·.1)) ++ Y.map (·.1), rfl, .inl (.inl upd_same), by rw [List.length_append, List.length_append]; omega, fun l6 q6 nd6 m6 le6 hq6 => ?_⟩
      have z6 := zz.trans (KS.sameUpd (o := SX.SetX P w q6 l6) hq6)
      rw [List.length_append, List.length_append] at le6
      refine ⟨q6, l6, rfl, upd_same, by omega, fun ys pl pm srt hpl => ?_⟩
      have z7 := z6.trans (KS.sameUpd (o := .lst (ys.map V.str)) hpl)
      have mem : ∀ z, z ∈ ys ↔ z ∈ B.map (·.1) ∨ z ∈ X.map (·.1) ∨ z ∈ Y.map (·.1) := fun z => by
        rw [pm.mem_iff, m6 z, List.mem_append, List.mem_append, or_assoc]
      have ndy : ys.Nodup := pm.nodup_iff.mpr nd6
      have ly : ys.length ≤ 12 := by rw [pm.length_eq]; omega
      have s2 := s1.trans z7
      have eb2 := z7 _ _ eb
      have eq2 := z7 _ _ eq
      have eW2 := z7 _ _ eW
      have npq : pl ≠ dq := fun z => by rw [z, z6 _ _ eq] at hpl; cases hpl
      have npW : pl ≠ W := fun z => by rw [z, z6 _ _ eW] at hpl; cases hpl
      generalize hH2 : upd _ pl (.lst (ys.map V.str)) = H2 at *
      have epl : H2 pl = some (.lst (ys.map V.str)) := by rw [← hH2]; exact upd_same
      clear hH2
      refine ⟨pl, rfl, ⟨_, .inl (.inl epl)⟩, ?_⟩
      have nWq : W ≠ dq := fun z => by rw [z, eq2] at eW2; cases eW2
      have mem3 : ∀ z ∈ ys, z ∈ outsL := fun z hz => by
        rcases (mem z).mp hz with h | h | h
        · exact kB.keys _ h
        · exact kX.keys _ h
        · exact kY.keys _ h
      refine forJ (n := ys.length) (fun i σ' H' => ∃ x7, σ' = [some (.str nm), some vb, some (.ref dx), some (.ref dy), some (.ref db), some (.ref dq), some (.ref W), x7] ∧ H' dq = some (.dK (optK (mayL B X Y (ys.take i)))) ∧ H' W = some (.lst ((csF nm B X Y (ys.take i)).map V.str)) ∧ Same H H' ∧ H' db = some (.dK (oK B)) ∧ H' pl = some (.lst (ys.map V.str)))
        ⟨none, rfl, eq2, eW2, s2, eb2, epl⟩
        (fun i σ' H' lt h => by obtain ⟨_, _, _, _, _, _, e⟩ := h; exact ⟨_, V.str ys[i], .inl (.inl e), by rw [List.getElem?_map, List.getElem?_eq_getElem lt]; rfl⟩)
        (fun σ' H' h => by obtain ⟨_, _, _, _, _, _, e⟩ := h; exact ⟨_, .inl (.inl e), by rw [List.length_map]; exact Nat.le_refl _⟩) (fun i σ' H0 x H3 lt h y => ?_) (fun σ' H' h => ?_)
      · obtain ⟨rfl, y⟩ := y
        obtain ⟨x7, rfl, eq3, eW3, s3, eb3, ep3⟩ := h
        have ex := y _ (.inl (.inl ep3))
        rw [List.getElem?_map, List.getElem?_eq_getElem lt] at ex
        obtain rfl : V.str ys[i] = x := Option.some.inj ex
        have et : ys.take (i + 1) = ys.take i ++ [ys[i]] := List.take_succ_eq_append_getElem lt
        have new : ys[i] ∉ ys.take i := fun hm => by
          have nd := ndy
          rw [← List.take_append_drop i ys] at nd
          refine (List.nodup_append.mp nd).2.2 _ hm _ ?_ rfl
          rw [List.drop_eq_getElem_cons lt]
          exact List.mem_cons_self
        have hy : ys[i] ∈ ys := List.getElem_mem lt
        have ly' : (ys[i]).length ≤ 1000 := by
          have all : ∀ z ∈ outsL, z.length ≤ 1000 := by decide +kernel
          exact all _ (mem3 _ hy)
        have lz : (ys.take i).length ≤ 12 := by rw [List.length_take]; omega
        generalize ys[i] = z at *
        have gB : ∀ {R : V → Prop}, R (ofS (oLook B z)) → R ((valV (oK B) (.inr z)).getD .non) := fun {R} h => by rw [oK_get]; exact h
        have dB := DGet.k (k := Sum.inr z) eb3
        have dX := DGet.k (k := Sum.inr z) (s3 _ _ hX.1)
        have dY := DGet.k (k := Sum.inr z) (s3 _ _ hY.1)
        have nk : z ∉ (mayL B X Y (ys.take i)).map (·.1) := fun h => new (mayL_keys _ _ _ _ _ h)
        have llen : (optK (mayL B X Y (ys.take i))).length < sizeLine := by
          unfold optK mayL
          rw [List.length_map, List.length_map, sizeLine_eq]
          have := List.length_filter_le (fun y => mayY B X Y y) (ys.take i)
          omega
        have stay : ∀ {H4 : Hp} (U : Addr) (xs : List V), H3 U = none → H4 = upd H3 U (.tup xs) → Same H3 H4 := fun U xs h e => by rw [e]; exact KS.sameUpd h
        have put : ∀ (H4 : Hp) (v : Option Str), Same H3 H4 → mayY B X Y z = true → choY B X Y z = v → (upd H4 dq (.dK (putK (optK (mayL B X Y (ys.take i))) (.inr z) (ofS v)))) dq = some (.dK (optK (mayL B X Y (ys.take (i + 1))))) ∧ (upd H4 dq (.dK (putK (optK (mayL B X Y (ys.take i))) (.inr z) (ofS v)))) W = some (.lst ((csF nm B X Y (ys.take (i + 1))).map V.str)) ∧ Same H (upd H4 dq (.dK (putK (optK (mayL B X Y (ys.take i))) (.inr z) (ofS v)))) ∧ (upd H4 dq (.dK (putK (optK (mayL B X Y (ys.take i))) (.inr z) (ofS v)))) db = some (.dK (oK B)) ∧ (upd H4 dq (.dK (putK (optK (mayL B X Y (ys.take i))) (.inr z) (ofS v)))) pl = some (.lst (ys.map V.str)) := fun H4 v s4 m c => by
          refine ⟨?_, ?_, fun b o hb => ?_, ?_, ?_⟩
          · rw [upd_same, putK_new _ (optK_new nk), et, mayL_snoc, if_pos m, c]
            unfold optK
            rw [List.map_append]
            rfl
          · rw [upd_ne nWq, et, csF_snoc]
            have : csF nm B X Y [z] = [] := by
              unfold csF
              rw [List.filter_cons_of_neg (by rw [m]; decide)]
              rfl
            rw [this, List.append_nil]
            exact s4 _ _ eW3
          · rw [upd_ne (ne_of_none hb nq)]
            exact s4 _ _ (s3 _ _ hb)
          · rw [upd_ne nbq]
            exact s4 _ _ eb3
          · rw [upd_ne npq]
            exact s4 _ _ ep3
        refine ⟨.ref dx, rfl, dx, rfl, .inl ⟨_, .inl (s3 _ _ hX.1)⟩, .str z, rfl, _, dX, .ref db, rfl, db, rfl, .inl ⟨_, .inl eb3⟩, .str z, rfl, _, dB, ?_⟩
        rw [oK_get, oK_get]
        refine ⟨ofS_scal _ _, _, rfl, ?_⟩
        rw [ofS_dec]
        refine ite2 (fun c1 => ?_) (fun c1 => ?_)
        · have c1' : oLook X z = oLook B z := of_decide_eq_true c1
          refine ⟨.ref dy, rfl, dy, rfl, .inl ⟨_, .inl (s3 _ _ hY.1)⟩, .str z, rfl, _, dY, .ref dq, rfl, .str z, rfl, dq, _, rfl, DPut.k (k := Sum.inr z) eq3 llen, ?_⟩
          rw [oK_get]
          obtain ⟨a1, a2, a3, a4, a5⟩ := put H3 (oLook Y z) (Same.refl _) (by unfold mayY mayS; rw [decide_eq_true c1']; rfl) (by unfold choY choS; rw [if_pos c1'])
          exact ⟨_, rfl, a1, a2, a3, a4, a5⟩
        · have c1' : ¬ oLook X z = oLook B z := fun e => c1 (decide_eq_true e)
          have c1b := decide_eq_false c1'
          refine ⟨.ref dy, rfl, dy, rfl, .inl ⟨_, .inl (s3 _ _ hY.1)⟩, .str z, rfl, _, dY, .ref db, rfl, db, rfl, .inl ⟨_, .inl eb3⟩, .str z, rfl, _, dB, .ref dx, rfl, dx, rfl, .inl ⟨_, .inl (s3 _ _ hX.1)⟩, .str z, rfl, _, dX, (by show 2 ≤ sizeLine; decide), fun U hU => ?_⟩
          rw [oK_get, oK_get, oK_get] at *
          have sU := KS.sameUpd (o := .tup [ofS (oLook B z), ofS (oLook X z)]) hU
          refine ⟨U, _, rfl, .inr (.inl (.inl upd_same)), flatOf _, by show (flatV _ && (flatV _ && true)) = true; rw [flatOf, flatOf]; rfl, _, rfl, ?_⟩
          have eI : inV (ofS (oLook Y z)) [ofS (oLook B z), ofS (oLook X z)] = (decide (oLook Y z = oLook B z) || decide (oLook X z = oLook Y z)) := by
            show (eqV _ _ || (eqV _ _ || false)) = _
            rw [eqOf, eqOf, Bool.or_false]
            congr 1
            exact decide_eq_decide.mpr ⟨Eq.symm, Eq.symm⟩
          show if (inV (ofS (oLook Y z)) [ofS (oLook B z), ofS (oLook X z)]) = true then _ else _
          rw [eI]
          refine ite2 (fun c2 => ?_) (fun c2 => ?_)
          · refine ⟨.ref dx, rfl, dx, rfl, .inl ⟨_, .inl (sU _ _ (s3 _ _ hX.1))⟩, .str z, rfl, _, DGet.k (k := Sum.inr z) (sU _ _ (s3 _ _ hX.1)), .ref dq, rfl, .str z, rfl, dq, _, rfl, DPut.k (k := Sum.inr z) (sU _ _ eq3) llen, ?_⟩
            rw [oK_get]
            obtain ⟨a1, a2, a3, a4, a5⟩ := put _ (oLook X z) sU (by unfold mayY mayS; rw [Bool.or_assoc, c2, Bool.or_true]) (by unfold choY choS; rw [if_neg c1'])
            exact ⟨_, rfl, a1, a2, a3, a4, a5⟩
          · have no : mayY B X Y z = false := by
              unfold mayY mayS
              rw [Bool.or_assoc, c1b, Bool.false_or]
              exact Bool.eq_false_iff.mpr c2
            have ln := tn.2
            refine ⟨.ref W, rfl, .inl ⟨rfl, _, .inl (.inl (sU _ _ eW3))⟩, .str nm, rfl, nm, ".", rfl, rfl, (by rw [sizeLine_eq]; have : (("." : Str)).length = 1 := rfl; omega), .str z, rfl, _, _, rfl, rfl, (by rw [strLen, sizeLine_eq]; have : (("." : Str)).length = 1 := rfl; omega), W, _, _, rfl, rfl, sU _ _ eW3, ?_, ?_⟩
            · rw [List.length_map, sizeLine_eq]
              have := csF_len (nm := nm) (B := B) (O := X) (Q := Y) (ys.take i)
              omega
            · refine ⟨_, rfl, ?_, ?_, fun b o hb => ?_, ?_, ?_⟩
              · rw [upd_ne (Ne.symm nWq), et, mayL_snoc, if_neg (by rw [no]; decide), List.append_nil]
                exact sU _ _ eq3
              · rw [upd_same, et, csF_snoc]
                have : csF nm B X Y [z] = [(nm ++ ("." : Str)) ++ z] := by
                  unfold csF
                  rw [List.filter_cons_of_pos (by rw [no]; decide)]
                  show [dotS nm z] = _
                  rw [dotS_eq]
                rw [this, List.map_append]
                rfl
              · rw [upd_ne (ne_of_none hb nW)]
                exact sU _ _ (s3 _ _ hb)
              · rw [upd_ne fun z' => by rw [z', eW3] at eb3; cases eb3]
                exact sU _ _ eb3
              · rw [upd_ne npW]
                exact sU _ _ ep3
      · obtain ⟨x7, rfl, eq3, eW3, s3, eb3, ep3⟩ := h
        rw [List.take_length] at eq3 eW3
        exact ⟨x7, ys, rfl, ndy, mem, eq3, eW3, s3, ly⟩
    rintro _ H2 ⟨x7, ys, rfl, ndy, mem, eq2, eW2, s2, ly⟩
    have ndL := mayL_nd B X Y ndy
    have lL : (mayL B X Y ys).length ≤ 12 := by
      unfold mayL
      rw [List.length_map]
      exact Nat.le_trans (List.length_filter_le _ _) ly
    have eOs := someO_mayL B X Y ys
    generalize hL : mayL B X Y ys = L at *
    have ndK : ((optK L).map (·.1)).Nodup := by
      rw [optK_keys, List.nodup_iff_pairwise_ne, List.pairwise_map]
      rw [List.nodup_iff_pairwise_ne] at ndL
      exact ndL.imp fun n e => n (Sum.inr.inj e)
    have lK : (optK L).length = L.length := List.length_map _
    refine ⟨dq, .dK (optK L), eq2, True.intro, fun od => ?_⟩
    have ed : upd H2 dq (.frz od (.dK (optK L))) dq = some (.frz od (.dK (optK L))) := upd_same
    have eo : ∀ c o, c ≠ dq → H2 c = some o → upd H2 dq (.frz od (.dK (optK L))) c = some o := fun c o n h => by rw [upd_ne n]; exact h
    generalize upd H2 dq (.frz od (.dK (optK L))) = H3 at *
    refine ⟨.ref dq, rfl, dq, od, rfl, .inl ⟨optK L, ed, fun D hD => ?_⟩⟩
    have nDd : D ≠ dq := fun z => by rw [z, ed] at hD; cases hD
    refine lcJ (n := (optK L).length) (vs := [7]) (fun i H' => ∃ (ps : List Addr), H' D = some (.lst (ps.map V.ref)) ∧ Paired (fun p (kv : Key × V) => H' p = some (.tup [kV kv.1, kv.2])) ps (oK (someO (L.take i))) ∧ ps.length ≤ i ∧ ∀ b o, H3 b = some o → H' b = some o)
      ⟨[], upd_same, .nil, Nat.le_refl _, KS.sameUpd hD⟩ (fun i H' lt h => by obtain ⟨_, _, _, _, s⟩ := h; exact ⟨s _ _ ed, lt⟩) (fun H' h => by obtain ⟨_, _, _, _, s⟩ := h; exact ⟨s _ _ ed, Nat.le_refl _⟩) (fun i H' x H4 lt h y => ?_) (fun H' h => ?_)
    · obtain ⟨rfl, k, v, ek, rfl⟩ := y
      obtain ⟨ps, eD, pr, l2, s4⟩ := h
      have lt2 : i < L.length := by rw [← lK]; exact lt
      have hLi : L[i]? = some L[i] := List.getElem?_eq_getElem lt2
      have e1 : (optK L)[i]? = some (Sum.inr L[i].1, ofS L[i].2) := by
        unfold optK
        rw [List.getElem?_map, hLi]
        rfl
      have ez : some (k, v) = some ((Sum.inr L[i].1 : Key), ofS L[i].2) := ek.symm.trans e1
      have ek1 : k = Sum.inr L[i].1 := congrArg Prod.fst (Option.some.inj ez)
      have ek2 : v = ofS L[i].2 := congrArg Prod.snd (Option.some.inj ez)
      subst ek1 ek2
      have hm : ((Sum.inr L[i].1 : Key), ofS L[i].2) ∈ optK L := List.mem_of_getElem? e1
      have hv : valV (optK L) (.inr L[i].1) = some (ofS L[i].2) := valMem ndK hm
      have et : L.take (i + 1) = L.take i ++ [L[i]] := List.take_succ_eq_append_getElem lt2
      rw [et]
      generalize L[i] = za at *
      obtain ⟨z, a⟩ := za
      have dg : DGet H4 dq (.str z) (some (ofS a)) := .inl ⟨optK L, .inr z, .inr ⟨od, s4 _ _ ed⟩, rfl, hv.symm⟩
      have eS : someO (L.take i ++ [(z, a)]) = someO (L.take i) ++ (a.map fun t => (z, t)).toList := by
        unfold someO
        rw [List.filterMap_append]
        congr 1
      refine ⟨rfl, .ref dq, rfl, .str z, rfl, dq, ofS a, rfl, dg, _, rfl, ?_⟩
      cases a with
      | none =>
        refine iteF ⟨ps, eD, ?_, by omega, s4⟩
        rw [eS]
        show Paired _ ps (oK (someO (L.take i) ++ []))
        rw [List.append_nil]
        exact pr
      | some t =>
        refine iteT ⟨.str z, rfl, .ref dq, rfl, .str z, rfl, dq, ofS (some t), rfl, dg, (by show 2 ≤ sizeLine; decide), fun U hU => ?_⟩
        have sU := KS.sameUpd (o := .tup [.str z, ofS (some t)]) hU
        have eU : upd H4 U (.tup [.str z, ofS (some t)]) U = some (.tup [.str z, ofS (some t)]) := upd_same
        have eD5 := sU _ _ eD
        have nDU : U ≠ D := fun z => by rw [z, eD] at hU; cases hU
        show ∃ acc, upd H4 U (.tup [.str z, ofS (some t)]) D = some (.lst acc) ∧ _
        generalize upd H4 U (.tup [.str z, ofS (some t)]) = H5 at *
        have t6 : Stl H5 (upd H5 D (.lst (ps.map V.ref ++ [.ref U]))) := Stl.lst eD5 Kp.put
        refine ⟨ps.map V.ref, eD5, by rw [sizeLine_eq, List.length_map]; omega, ps ++ [U], by rw [List.map_append]; exact upd_same, ?_, by rw [List.length_append]; show ps.length + 1 ≤ _; omega, fun b o hb => ?_⟩
        · rw [eS]
          show Paired _ (ps ++ [U]) (oK (someO (L.take i) ++ [(z, t)]))
          have : oK (someO (L.take i) ++ [(z, t)]) = oK (someO (L.take i)) ++ [kvO (z, t)] := List.map_append
          rw [this]
          exact Paired.snoc (L2.Paired.mapP pr fun p kv h => t6 _ _ (sU _ _ h) fun _ z => nomatch z) (t6 _ _ eU fun _ z => nomatch z)
        · rw [upd_ne (ne_of_none hb hD)]
          exact sU _ _ (s4 _ _ hb)
    · obtain ⟨ps, eD, pr, l2, s4⟩ := h
      rw [lK, List.take_length, eOs] at pr
      refine ⟨s4 _ _ ed, ?_⟩
      have eo2 : ∀ c o, c ≠ dq → H' c = some o → upd H' dq (.dK (optK L)) c = some o := fun c o n h => by rw [upd_ne n]; exact h
      have pr2 : Paired (fun p (kv : Key × V) => SqT K (upd H' dq (.dK (optK L))) p [kV kv.1, kv.2]) ps (oK (osF B X Y ys)) := L2.Paired.mapP pr fun p kv h => .inl (.inl (eo2 _ _ (fun z => by rw [z, s4 _ _ ed] at h; cases h) h))
      have sA : Same H (upd H' dq (.dK (optK L))) := fun b x hb => eo2 _ _ (ne_of_none hb nq) (s4 _ _ (eo _ _ (ne_of_none hb nq) (s2 _ _ hb)))
      have eD2 := eo2 _ _ nDd eD
      have nWq : W ≠ dq := fun z => by rw [z, eq2] at eW2; cases eW2
      have eW3 := eo2 _ _ nWq (s4 _ _ (eo _ _ nWq eW2))
      generalize upd H' dq (.dK (optK L)) = H6 at *
      refine ⟨D, ps, oK (osF B X Y ys), rfl, .inl (.inl eD2), pr2, fun u hu => ?_⟩
      have ndO := osF_nd (B := B) (O := X) (Q := Y) ndy
      rw [mrgNil ndO]
      have su := KS.sameUpd (o := .dK (oK (osF B X Y ys))) hu
      have eu : upd H6 u (.dK (oK (osF B X Y ys))) u = some (.dK (oK (osF B X Y ys))) := upd_same
      have nu := noneSame sA hu
      refine ⟨(by show 2 ≤ sizeLine; decide), fun r hr2 => ⟨.ref W, rfl, (by show 2 ≤ sizeLine; decide), fun U hU => ?_⟩⟩
      have sr := KS.sameUpd (o := .tup [.str "source", .ref u]) hr2
      have er := upd_same (H := upd H6 u (.dK (oK (osF B X Y ys)))) (a := r) (o := .tup [.str "source", .ref u])
      have nr := noneSame sA (noneSame su hr2)
      have sU := KS.sameUpd (o := .tup [.ref r, .ref W]) hU
      refine q U r W ys _ ndy mem upd_same (fun H9 g => ⟨r, u, rfl, g _ _ nr (sU _ _ er) (fun _ z => nomatch z), g _ _ nu (sU _ _ (sr _ _ eu)) (fun _ z => nomatch z), ndO, ?_⟩) (sU _ _ (sr _ _ (su _ _ eW3))) (sA.trans (su.trans (sr.trans sU)))
      have := osF_len (B := B) (O := X) (Q := Y) ys
      omega
end
end PJ

set_option Elab.async false
set_option linter.all false
set_option maxRecDepth 100000
set_option maxHeartbeats 8000000
/-! the law's merge of plans -/
namespace PJ
open PySem PySem.Spec PyProof.Rows L2 KS KS.La
open KX hiding sameUpd
abbrev lMg : Stmt := top 38
theorem Tab.get {H : Hp} {kvs : List (Key × V)} {T : Tb} (h : Tab (ToAt H) kvs T) (nm : Str) : ToO H ((valV kvs (.inr nm)).getD .non) (tLook T nm) := by
  rcases h.look nm with ⟨e, e2⟩ | ⟨v, t, e, e2, ht⟩
  · rw [e, e2]; rfl
  · rw [e, e2]; exact ht
theorem ToO.v {K : PySem.W.Frag} {H : Hp} {v : V} {o : Option Tg} (h : ToO H v o) : oV o := fun t e => by
  subst e
  exact ToAt.tgv (K := K) h
theorem oE_comm {o o' : Option Tg} (h : oV o) (h' : oV o') : oE o o' = oE o' o := by
  rw [Bool.eq_iff_iff, oE_iff h h', oE_iff h' h]
  exact ⟨oP.symm, oP.symm⟩
def d3 {α : Type} (a b c : α) : Fin 3 → α
  | 0 => a
  | 1 => b
  | 2 => c
section
variable {P : Program} {w : World} {K : PySem.W.Frag} {mg : Str → Option Value} {base : Heap} {f : Addr} {fd : FuncData}
def spMg : Sp := fun vs H Q _ => ∃ (d : Fin 3 → Addr) (T3 : Fin 3 → Tb), vs = [.ref (d 0), .ref (d 1), .ref (d 2)] ∧ (∀ i, KtAt H (d i) (T3 i)) ∧ (∀ i, TbK (T3 i)) ∧
  ∀ u c W ys cs T zs H', ys.Nodup → (∀ z, z ∈ ys ↔ ∃ i, z ∈ (T3 i).map (·.1)) → ys.length ≤ 6 → MFold T3 ys cs T → H' u = some (.tup [.ref c, .ref W]) → KtAt H' c T → H' W = some (.lst (zs.map V.str)) → zs.Perm cs → sortedS zs = true → H W = none → Same H H' → H c = none → Q (.ref u) H'
abbrev nMg : List Str := ["_law_base_here", "_law_one_here", "_law_other", "_law_found", "_law_wrong", "_law_name", "_law_b", "_law_x", "_law_y", "_law_clashes"]
theorem scMg : FnScope nMg ["_law_base_here", "_law_one_here", "_law_other"] (defScope lMg) := ⟨rfl, rfl, rfl, by decide +kernel, rfl, by decide +kernel, by decide +kernel⟩
theorem okMg {k : Nat} (M : Bm mg) (MO : Has P w K mg base 1 "_law_merged_outputs" ["_law_name", "_law_b", "_law_x", "_law_y"] spMO) (F : FnP K "_law_merged" lMg f fd) : FnOk P w K mg base CX0 (k + 2) f fd ["_law_base_here", "_law_one_here", "_law_other"] spMg := by
  obtain ⟨fO, fdO, gO, kO', bO, GO⟩ := MO.ex
  refine F.ok scMg (fun vs H Q E h => ?_) (fun cdv A outer s H vs Q E hr h => ?_)
  · obtain ⟨d, T3, rfl, _⟩ := h
    rfl
  · obtain ⟨d, T3, rfl, hd, hk, q⟩ := h
    have hr1 : Room 1 _ := hr.mono (by omega)
    have hu1 : (A.deeper (envOfC "_law_merged" (defScope lMg) s.heap.objs.size f cdv)).units + 1 < cLine := by
      have := hr.units
      omega
    have hu2 := DB.un100 hr
    refine ⟨_, PSs.nox (C8.pss_cut (ps_par (i := 3) (j := 4) (by rfl) scMg.nd rfl rfl (by decide) rfl rfl (pa_cons (pe_dnewK) (pa_cons (pe_lst pa_nil) pa_nil)) (by rfl)) (C8.pss_cut (ps_for PassesOwn.never rfl (pi_list (pe_callB (r := SX.rSortX P w) (SX.cr_sortX rfl) (by rfl) M.so (by decide +kernel) (pa_cons (pe_callTy (r := SX.rSetL P w K) (T := "set") (SX.cr_setL rfl) (by rfl) M.se (by decide +kernel)
            (pa_cons (pe_op op_cat (pe_op op_cat (pe_callTy (T := "list") (call_listD rfl) (by rfl) M.b.list (by decide +kernel) (pa_cons (pv 0) pa_nil)) (pe_callTy (T := "list") (call_listD rfl) (by rfl) M.b.list (by decide +kernel) (pa_cons (pv 1) pa_nil))) (pe_callTy (T := "list") (call_listD rfl) (by rfl) M.b.list (by decide +kernel) (pa_cons (pv 2) pa_nil))) pa_nil)) pa_nil))) (pg_name (i := 5) scMg.nd rfl (.inl rfl))
        (C8.pss_cut (ps_par3 (i := 6) (j := 7) (l := 8) (by rfl) scMg.nd rfl rfl rfl (by decide) (by decide) (by decide) rfl rfl rfl (pa_cons (pe_dget1 hu1 (pv 0) (pv 5) ⟨rfl, rfl, rfl, rfl⟩) (pa_cons (pe_dget1 hu1 (pv 1) (pv 5) ⟨rfl, rfl, rfl, rfl⟩) (pa_cons (pe_dget1 hu1 (pv 2) (pv 5) ⟨rfl, rfl, rfl, rfl⟩) pa_nil))) (by rfl)) (pss_one (ps_if (PW.pt (pw_or (pt_cmpR (r := ET.rEqE K) (ET.op_eqE hu2) (pv 7) (pv 6) (nomark _)) (pw_or1 (pt_cmpR (r := ET.rInE K) (ET.op_inE hu2) (pv 8) (pe_tup (pa_cons (pv 6) (pa_cons (pv 7) pa_nil))) (by rfl)))))
            (pss_one (ps_if (pt_cmp (pc_notN (pe_ix ix_list (pe_lst (pa_cons (pv 7) (pa_cons (pv 8) pa_nil))) (pe_callTy (T := "int") call_int1 (by rfl) M.b.int (by decide +kernel) (pa_cons (pe_cmpR (r := ET.rEqE K) (ET.op_eqE hu2) (pv 7) (pv 6) (nomark _)) pa_nil)) (fun _ _ => rfl)))) (pss_one (ps_dput hu1 (pv 3) (pv 5) (pe_ix ix_list (pe_lst (pa_cons (pv 7) (pa_cons (pv 8) pa_nil))) (pe_callTy (T := "int") call_int1 (by rfl) M.b.int (by decide +kernel) (pa_cons (pe_cmpR (r := ET.rEqE K) (ET.op_eqE hu2) (pv 7) (pv 6) (nomark _)) pa_nil)) (fun _ _ => rfl)) rfl)) pss_nil))
            (pss_one (ps_if (PW.pt (pw_or (pt_cmp (pc_isN (pv 7))) (pw_or (pt_cmp (pc_isN (pv 8))) (pw_or (pt_cmpR op_ne (pe_ix ix_tup (pv 7) pe_int (fun _ _ => rfl)) pe_str (nomark _)) (pw_or (pt_cmpR op_ne (pe_ix ix_tup (pv 8) pe_int (fun _ _ => rfl)) pe_str (nomark _)) (pw_or1 (PW.pt (pw_and (pt_cmp (pc_notN (pv 6))) (pw_and1 (pt_cmpR op_ne (pe_ix ix_tup (pv 6) pe_int (fun _ _ => rfl)) pe_str (nomark _))))))))))) (pss_one (ps_expr (pe_bm PySem.F.plainAttrs_list PySem.F.slot_list_append PySem.F.type_list_append mt_append (pv 4) (pa_cons (pv 5) pa_nil))))
              (C8.pss_cut (ps_asg (pe_call GO hr1 (by rfl) gO kO' bO .nil pass0 (pa_cons (pv 5) (pa_cons (pv 6) (pa_cons (pe_ix ix_tup (pv 7) pe_int (fun _ _ => rfl)) (pa_cons (pe_ix ix_tup (pv 8) pe_int (fun _ _ => rfl)) pa_nil))))) (pg_tup rfl (pgs_cons (pg_sub (pv 3) (pv 5) (set_dict hu1)) (pgs_cons (pg_name (i := 9) scMg.nd rfl (.inl rfl)) pgs_nil)))) (pss_one (ps_expr (pe_bm PySem.F.plainAttrs_list PySem.F.slot_list_extend PySem.F.type_list_extend mt_extend (pv 4) (pa_cons (pv 9) pa_nil))))))))))) (pss_one (ps_ret (pe_tup (pa_cons (pv 3) (pa_cons (pe_callB cr_sortedS (by rfl) M.so (by decide +kernel) (pa_cons (pv 4) pa_nil)) pa_nil))))))), ?_⟩
    refine ⟨fun σ' H' => ∃ c W, σ' = [some (.ref (d 0)), some (.ref (d 1)), some (.ref (d 2)), some (.ref c), some (.ref W), none, none, none, none, none] ∧ H' c = some (.dK []) ∧ H' W = some (.lst []) ∧ H c = none ∧ H W = none ∧ Same H H', ?_, ?_⟩
    · refine fun c nc => ⟨Nat.zero_le _, fun W nW => ⟨.ref c, .ref W, rfl, c, W, rfl, KS.sameUpd nW _ _ upd_same, upd_same, nc, noneSame (KS.sameUpd nc) nW, (KS.sameUpd nc).trans (KS.sameUpd nW)⟩⟩
    rintro _ H1 ⟨c, W, rfl, ec, eW, nc, nW, s1⟩
    refine ⟨fun σ' H' => ∃ x5 x6 x7 x8 x9 ys cs T kvs, σ' = [some (.ref (d 0)), some (.ref (d 1)), some (.ref (d 2)), some (.ref c), some (.ref W), x5, x6, x7, x8, x9] ∧ ys.Nodup ∧ (∀ z, z ∈ ys ↔ ∃ i, z ∈ (T3 i).map (·.1)) ∧ ys.length ≤ 6 ∧ H' c = some (.dK kvs) ∧ Tab (ToD c H') kvs T ∧ H' W = some (.lst (cs.map V.str)) ∧ MFold T3 ys cs T ∧ cs.length ≤ 24 ∧ Same H H', ?_, ?_⟩
    · have lk : ∀ i, ((T3 i).map (·.1)).length ≤ 6 := fun i => by rw [List.length_map]; exact (hk i).len
      have l0 := lk 0
      have l1 := lk 1
      have l2 := lk 2
      obtain ⟨kv0, e0, t0⟩ := hd 0
      obtain ⟨kv1, e1, t1⟩ := hd 1
      obtain ⟨kv2, e2, t2⟩ := hd 2
      have g0 := t0.len
      have g1 := t1.len
      have g2 := t2.len
      rw [List.length_map] at l0 l1 l2
      refine ⟨.ref (d 0), rfl, d 0, kv0, rfl, .inl (s1 _ _ e0), fun p1 n1 => ?_⟩
      have z1 := KS.sameUpd (o := .lst (kv0.map fun kv => kV kv.1)) n1
      refine ⟨.ref (d 1), rfl, d 1, kv1, rfl, .inl (z1 _ _ (s1 _ _ e1)), fun p2 n2 => ?_⟩
      have z2 := KS.sameUpd (o := .lst (kv1.map fun kv => kV kv.1)) n2
      refine ⟨p1, p2, _, _, rfl, rfl, z2 _ _ upd_same, upd_same, by simp only [List.length_map]; rw [sizeLine_eq]; omega, fun p3 n3 => ?_⟩
      have z3 := KS.sameUpd (o := .lst ((kv0.map fun kv => kV kv.1) ++ (kv1.map fun kv => kV kv.1))) n3
      refine ⟨.ref (d 2), rfl, d 2, kv2, rfl, .inl (z3 _ _ (z2 _ _ (z1 _ _ (s1 _ _ e2)))), fun p4 n4 => ?_⟩
      have z4 := KS.sameUpd (o := .lst (kv2.map fun kv => kV kv.1)) n4
      refine ⟨p3, p4, _, _, rfl, rfl, z4 _ _ upd_same, upd_same, by simp only [List.length_map, List.length_append]; rw [sizeLine_eq]; omega, fun p5 n5 => ?_⟩
      have z5 := KS.sameUpd (o := .lst (((kv0.map fun kv => kV kv.1) ++ (kv1.map fun kv => kV kv.1)) ++ (kv2.map fun kv => kV kv.1))) n5
      have zz := z1.trans (z2.trans (z3.trans (z4.trans z5)))
      have ks : (((kv0.map fun kv => kV kv.1) ++ (kv1.map fun kv => kV kv.1)) ++ (kv2.map fun kv => kV kv.1)) = (((T3 0).map (·.1) ++ (T3 1).map (·.1)) ++ (T3 2).map (·.1)).map V.str := by
        rw [tabV t0, tabV t1, tabV t2, List.map_append, List.map_append]
      rw [ks] at zz ⊢
      refine ⟨p5, ((T3 0).map (·.1) ++ (T3 1).map (·.1)) ++ (T3 2).map (·.1), rfl, .inl (.inl upd_same), by simp only [List.length_map, List.length_append]; omega, fun l6 q6 nd6 m6 le6 hq6 => ?_⟩
      have z6 := zz.trans (KS.sameUpd (o := SX.SetX P w q6 l6) hq6)
      have mem6 : ∀ z, z ∈ l6 ↔ ∃ i, z ∈ (T3 i).map (·.1) := fun z => by
        rw [m6 z, List.mem_append, List.mem_append]
        constructor
        · rintro ((h | h) | h)
          · exact ⟨0, h⟩
          · exact ⟨1, h⟩
          · exact ⟨2, h⟩
        · rintro ⟨i, h⟩
          match i, h with
          | 0, h => exact .inl (.inl h)
          | 1, h => exact .inl (.inr h)
          | 2, h => exact .inr h
      have l66 : l6.length ≤ 6 := ndLen l6 nmsL nd6 fun z hz => by
        obtain ⟨i, h⟩ := (mem6 z).mp hz
        exact (hk i).sub z h
      refine ⟨q6, l6, rfl, upd_same, by omega, fun ys pl pm srt hpl => ?_⟩
      have z7 := z6.trans (KS.sameUpd (o := .lst (ys.map V.str)) hpl)
      have mem : ∀ z, z ∈ ys ↔ ∃ i, z ∈ (T3 i).map (·.1) := fun z => by rw [pm.mem_iff, mem6 z]
      have ndy : ys.Nodup := pm.nodup_iff.mpr nd6
      have ly : ys.length ≤ 6 := by rw [pm.length_eq]; exact l66
      have inN : ∀ z ∈ ys, z ∈ nmsL := fun z hz => by
        obtain ⟨i, h⟩ := (mem z).mp hz
        exact (hk i).sub z h
      have s2 := s1.trans z7
      have ec2 := z7 _ _ ec
      have eW2 := z7 _ _ eW
      have npc : pl ≠ c := fun z => by rw [z, z6 _ _ ec] at hpl; cases hpl
      have npW : pl ≠ W := fun z => by rw [z, z6 _ _ eW] at hpl; cases hpl
      generalize hH2 : upd _ pl (.lst (ys.map V.str)) = H2 at *
      have epl : H2 pl = some (.lst (ys.map V.str)) := by rw [← hH2]; exact upd_same
      clear hH2
      have nWc : W ≠ c := fun z => by rw [z, ec2] at eW2; cases eW2
      refine ⟨pl, rfl, ⟨_, .inl (.inl epl)⟩, ?_⟩
      refine forJ (n := ys.length) (fun i σ' H' => ∃ x5 x6 x7 x8 x9 cs T kvs, σ' = [some (.ref (d 0)), some (.ref (d 1)), some (.ref (d 2)), some (.ref c), some (.ref W), x5, x6, x7, x8, x9] ∧ H' c = some (.dK kvs) ∧ Tab (ToD c H') kvs T ∧ H' W = some (.lst (cs.map V.str)) ∧ MFold T3 (ys.take i) cs T ∧ cs.length ≤ 4 * i ∧ T.length ≤ i ∧ Same H H' ∧ H' pl = some (.lst (ys.map V.str)))
        ⟨none, none, none, none, none, [], [], [], rfl, ec2, .nil, eW2, .nil, Nat.le_refl _, Nat.le_refl _, s2, epl⟩
        (fun i σ' H' lt h => by obtain ⟨_, _, _, _, _, _, _, _, _, _, _, _, _, _, _, _, e⟩ := h; exact ⟨_, V.str ys[i], .inl (.inl e), by rw [List.getElem?_map, List.getElem?_eq_getElem lt]; rfl⟩)
        (fun σ' H' h => by obtain ⟨_, _, _, _, _, _, _, _, _, _, _, _, _, _, _, _, e⟩ := h; exact ⟨_, .inl (.inl e), by rw [List.length_map]; exact Nat.le_refl _⟩) (fun i σ' H0 x H3 lt h y => ?_) (fun σ' H' h => ?_)
      · obtain ⟨rfl, y⟩ := y
        obtain ⟨x5, x6, x7, x8, x9, cs, T, kvs, rfl, e3, tb3, eW3, mf, lcs, lT, s3, ep3⟩ := h
        have ex := y _ (.inl (.inl ep3))
        rw [List.getElem?_map, List.getElem?_eq_getElem lt] at ex
        obtain rfl : V.str ys[i] = x := Option.some.inj ex
        have et : ys.take (i + 1) = ys.take i ++ [ys[i]] := List.take_succ_eq_append_getElem lt
        have hnm : ys[i] ∈ nmsL := inN _ (List.getElem_mem lt)
        rw [et]
        generalize ys[i] = nm at *
        have tkn : ∀ i, ∀ k t, (k, t) ∈ T3 i → TgK t := fun i => (hk i).tk
        have lkv : kvs.length < sizeLine := by rw [tb3.len, sizeLine_eq]; omega
        -- what stands at the name
        refine ⟨fun σ' H' => ∃ vb vx vy, σ' = [some (.ref (d 0)), some (.ref (d 1)), some (.ref (d 2)), some (.ref c), some (.ref W), some (.str nm), some vb, some vx, some vy, x9] ∧ ToO H vb (tLook (T3 0) nm) ∧ ToO H vx (tLook (T3 1) nm) ∧ ToO H vy (tLook (T3 2) nm) ∧ H' = H3, ?_, ?_⟩
        · exact ⟨.ref (d 0), rfl, d 0, rfl, .inl ⟨_, .inl (s3 _ _ e0)⟩, .str nm, rfl, _, DGet.k (k := Sum.inr nm) (s3 _ _ e0), .ref (d 1), rfl, d 1, rfl, .inl ⟨_, .inl (s3 _ _ e1)⟩, .str nm, rfl, _, DGet.k (k := Sum.inr nm) (s3 _ _ e1),
            .ref (d 2), rfl, d 2, rfl, .inl ⟨_, .inl (s3 _ _ e2)⟩, .str nm, rfl, _, DGet.k (k := Sum.inr nm) (s3 _ _ e2), _, _, _, rfl, _, _, _, rfl, t0.get nm, t1.get nm, t2.get nm, rfl⟩
        rintro _ H4 ⟨vb, vx, vy, rfl, hb, hx, hy, rfl⟩
        have tk : ∀ i t, tLook (T3 i) nm = some t → TgK t := fun i t e => (hk i).tk nm t (tLook_mem e)
        have tk0 := tk 0
        have tk1 := tk 1
        have tk2 := tk 2
        have snoc : ∀ {cs' : List Str} {r : Option Tg}, MS nm (tLook (T3 0) nm) (tLook (T3 1) nm) (tLook (T3 2) nm) cs' r → MFold T3 (ys.take i ++ [nm]) (cs ++ cs') (tPutO T nm r) ∧ (cs ++ cs').length ≤ 4 * (i + 1) ∧ (tPutO T nm r).length ≤ i + 1 := fun {cs' r} ms => by
          refine ⟨.snoc mf ms, ?_, ?_⟩
          · have := MS_len (T3 := T3) tkn ms
            rw [List.length_append]
            omega
          · have := tPutO_len T nm r
            omega
        have vb' := hb.v (K := K)
        have vx' := hx.v (K := K)
        have vy' := hy.v (K := K)
        generalize tLook (T3 0) nm = b at *
        generalize tLook (T3 1) nm = o at *
        generalize tLook (T3 2) nm = p at *
        -- what is put in
        have put : ∀ {G : Hp} {v : V} {t : Tg}, Same H4 G → ToD c G v t → (upd G c (.dK (putK kvs (.inr nm) v))) c = some (.dK (putK kvs (.inr nm) v)) ∧ Tab (ToD c (upd G c (.dK (putK kvs (.inr nm) v)))) (putK kvs (.inr nm) v) (tPut T nm t) ∧ (upd G c (.dK (putK kvs (.inr nm) v))) W = some (.lst (cs.map V.str)) ∧ Same H (upd G c (.dK (putK kvs (.inr nm) v))) ∧ (upd G c (.dK (putK kvs (.inr nm) v))) pl = some (.lst (ys.map V.str)) := fun {G v t} sG tv => by
          have eG := sG _ _ e3
          have kp : Kp c G (upd G c (.dK (putK kvs (.inr nm) v))) := Kp.put
          refine ⟨upd_same, Tab.put (tb3.imp fun _ _ _ _ _ h => (h.stl (Stl.same sG)).kp eG kp) (tv.kp eG kp), ?_, fun b o hb => ?_, ?_⟩
          · rw [upd_ne nWc]; exact sG _ _ eW3
          · rw [upd_ne (ne_of_none hb nc)]; exact sG _ _ (s3 _ _ hb)
          · rw [upd_ne npc]; exact sG _ _ ep3
        refine ⟨vx, rfl, vb, rfl, oE o b, toO_et (hx.stl (Stl.same s3)) (hb.stl (Stl.same s3)), _, rfl, ite2 (fun c1 => ?_) (fun c1 => ?_)⟩
        · have my : mayT b o p = true := by unfold mayT; rw [c1]; rfl
          have sG : Same H4 H4 := Same.refl _
          have st := Stl.same (s3.trans sG)
          obtain ⟨m1, m2, m3⟩ := snoc (cs' := []) (r := if oE o b = true then p else o) (.inl ⟨my, rfl, rfl⟩)
          rw [List.append_nil] at m1 m2
          have fin : ∀ {G2 : Hp}, Same H4 G2 → (if oE o b = true then p else o) = none → G2 c = some (.dK kvs) ∧ Tab (ToD c G2) kvs T ∧ G2 W = some (.lst (cs.map V.str)) ∧ MFold T3 (ys.take i ++ [nm]) cs T ∧ cs.length ≤ 4 * (i + 1) ∧ T.length ≤ i + 1 ∧ Same H G2 ∧ G2 pl = some (.lst (ys.map V.str)) := fun {G2} s er => by
            rw [er] at m1
            exact ⟨s _ _ e3, tb3.imp fun _ _ _ _ _ h => h.stl (Stl.same s), s _ _ eW3, m1, m2, by omega, s3.trans s, s _ _ ep3⟩
          have hw : ∃ wv, wv = (if oE o b = true then vy else vx) ∧ ToO H wv (if oE o b = true then p else o) ∧ ∀ L2 : List V, L2 = [vx, vy] → atI L2 (b2i (oE o b)) = some wv := by
            by_cases cc : oE o b = true
            · exact ⟨vy, by rw [if_pos cc], by rw [if_pos cc]; exact hy, fun L2 e => by rw [e, cc]; rfl⟩
            · have cf := Bool.eq_false_iff.mpr cc
              exact ⟨vx, by rw [if_neg cc], by rw [if_neg cc]; exact hx, fun L2 e => by rw [e, cf]; rfl⟩
          obtain ⟨wv, ewv, hwv, hat⟩ := hw
          refine ⟨vx, rfl, vy, rfl, (by show 2 ≤ sizeLine; decide), fun L1 hL1 => ?_⟩
          have sL := KS.sameUpd (o := .lst [vx, vy]) hL1
          have eL : upd H4 L1 (.lst [vx, vy]) L1 = some (.lst [vx, vy]) := upd_same
          generalize upd H4 L1 (.lst [vx, vy]) = G2 at *
          have st2 := Stl.same (s3.trans (sG.trans sL))
          refine ⟨vx, rfl, vb, rfl, oE o b, toO_et (hx.stl st2) (hb.stl st2), .inr ⟨oE o b, rfl, L1, _, _, wv, rfl, rfl, .inl (.inl eL), hat _ rfl, ?_⟩⟩
          cases er : (if oE o b = true then p else o) with
          | none =>
            rw [er] at hwv
            have e0 : wv = .non := hwv
            rw [e0]
            obtain ⟨a1, a2, a3, a4, a5, a6, a7, a8⟩ := fin (sG.trans sL) er
            exact ⟨false, rfl, iteF ⟨_, _, _, _, _, cs, T, kvs, rfl, a1, a2, a3, a4, a5, a6, a7, a8⟩⟩
          | some t =>
            rw [er] at hwv m1 m3
            obtain ⟨tw, xsw, e0, _⟩ := toSq (K := K) (show ToAt H wv t from hwv)
            have aw : ∀ {G3 : Hp}, Same H G3 → ToD c G3 wv t := fun {G3} s => ToAt.away (show ToAt H wv t from hwv) nc s
            refine ⟨true, by rw [e0]; rfl, iteT ⟨vx, rfl, vy, rfl, (by show 2 ≤ sizeLine; decide), fun L3 hL3 => ?_⟩⟩
            have sL3 := KS.sameUpd (o := .lst [vx, vy]) hL3
            have eL3 : upd G2 L3 (.lst [vx, vy]) L3 = some (.lst [vx, vy]) := upd_same
            generalize upd G2 L3 (.lst [vx, vy]) = G3 at *
            have sA := sG.trans (sL.trans sL3)
            have st3 := Stl.same (s3.trans sA)
            obtain ⟨a1, a2, a3, a4, a5⟩ := put sA (aw (s3.trans sA))
            exact ⟨vx, rfl, vb, rfl, oE o b, toO_et (hx.stl st3) (hb.stl st3), .inr ⟨oE o b, rfl, L3, _, _, wv, rfl, rfl, .inl (.inl eL3), hat _ rfl, .ref c, rfl, .str nm, rfl, c, _, rfl, DPut.k (k := Sum.inr nm) (sA _ _ e3) lkv, _, _, _, _, _, cs, tPut T nm t, _, rfl, a1, a2, a3, m1, m2, m3, a4, a5⟩⟩
        · have c1b := Bool.eq_false_iff.mpr c1
          refine ⟨vy, rfl, vb, rfl, vx, rfl, (by show 2 ≤ sizeLine; decide), fun U hU => ?_⟩
          have sG := KS.sameUpd (o := .tup [vb, vx]) hU
          have eU : upd H4 U (.tup [vb, vx]) U = some (.tup [vb, vx]) := upd_same
          generalize upd H4 U (.tup [vb, vx]) = G at *
          have st := Stl.same (s3.trans sG)
          refine ⟨U, _, oE b p || (oE o p || false), rfl, .inl (.inl eU), .cons (toO_et (hb.stl st) (hy.stl st)) fun _ => .cons (toO_et (hx.stl st) (hy.stl st)) fun _ => .nil, _, rfl, ite2 (fun c2 => ?_) (fun c2 => ?_)⟩
          · have my : mayT b o p = true := by
              unfold mayT
              rw [c1b, oE_comm vy' vb', Bool.false_or, ← c2, Bool.or_false]
            have st := Stl.same (s3.trans sG)
            obtain ⟨m1, m2, m3⟩ := snoc (cs' := []) (r := if oE o b = true then p else o) (.inl ⟨my, rfl, rfl⟩)
            rw [List.append_nil] at m1 m2
            have fin : ∀ {G2 : Hp}, Same H4 G2 → (if oE o b = true then p else o) = none → G2 c = some (.dK kvs) ∧ Tab (ToD c G2) kvs T ∧ G2 W = some (.lst (cs.map V.str)) ∧ MFold T3 (ys.take i ++ [nm]) cs T ∧ cs.length ≤ 4 * (i + 1) ∧ T.length ≤ i + 1 ∧ Same H G2 ∧ G2 pl = some (.lst (ys.map V.str)) := fun {G2} s er => by
              rw [er] at m1
              exact ⟨s _ _ e3, tb3.imp fun _ _ _ _ _ h => h.stl (Stl.same s), s _ _ eW3, m1, m2, by omega, s3.trans s, s _ _ ep3⟩
            have hw : ∃ wv, wv = (if oE o b = true then vy else vx) ∧ ToO H wv (if oE o b = true then p else o) ∧ ∀ L2 : List V, L2 = [vx, vy] → atI L2 (b2i (oE o b)) = some wv := by
              by_cases cc : oE o b = true
              · exact ⟨vy, by rw [if_pos cc], by rw [if_pos cc]; exact hy, fun L2 e => by rw [e, cc]; rfl⟩
              · have cf := Bool.eq_false_iff.mpr cc
                exact ⟨vx, by rw [if_neg cc], by rw [if_neg cc]; exact hx, fun L2 e => by rw [e, cf]; rfl⟩
            obtain ⟨wv, ewv, hwv, hat⟩ := hw
            refine ⟨vx, rfl, vy, rfl, (by show 2 ≤ sizeLine; decide), fun L1 hL1 => ?_⟩
            have sL := KS.sameUpd (o := .lst [vx, vy]) hL1
            have eL : upd G L1 (.lst [vx, vy]) L1 = some (.lst [vx, vy]) := upd_same
            generalize upd G L1 (.lst [vx, vy]) = G2 at *
            have st2 := Stl.same (s3.trans (sG.trans sL))
            refine ⟨vx, rfl, vb, rfl, oE o b, toO_et (hx.stl st2) (hb.stl st2), .inr ⟨oE o b, rfl, L1, _, _, wv, rfl, rfl, .inl (.inl eL), hat _ rfl, ?_⟩⟩
            cases er : (if oE o b = true then p else o) with
            | none =>
              rw [er] at hwv
              have e0 : wv = .non := hwv
              rw [e0]
              obtain ⟨a1, a2, a3, a4, a5, a6, a7, a8⟩ := fin (sG.trans sL) er
              exact ⟨false, rfl, iteF ⟨_, _, _, _, _, cs, T, kvs, rfl, a1, a2, a3, a4, a5, a6, a7, a8⟩⟩
            | some t =>
              rw [er] at hwv m1 m3
              obtain ⟨tw, xsw, e0, _⟩ := toSq (K := K) (show ToAt H wv t from hwv)
              have aw : ∀ {G3 : Hp}, Same H G3 → ToD c G3 wv t := fun {G3} s => ToAt.away (show ToAt H wv t from hwv) nc s
              refine ⟨true, by rw [e0]; rfl, iteT ⟨vx, rfl, vy, rfl, (by show 2 ≤ sizeLine; decide), fun L3 hL3 => ?_⟩⟩
              have sL3 := KS.sameUpd (o := .lst [vx, vy]) hL3
              have eL3 : upd G2 L3 (.lst [vx, vy]) L3 = some (.lst [vx, vy]) := upd_same
              generalize upd G2 L3 (.lst [vx, vy]) = G3 at *
              have sA := sG.trans (sL.trans sL3)
              have st3 := Stl.same (s3.trans sA)
              obtain ⟨a1, a2, a3, a4, a5⟩ := put sA (aw (s3.trans sA))
              exact ⟨vx, rfl, vb, rfl, oE o b, toO_et (hx.stl st3) (hb.stl st3), .inr ⟨oE o b, rfl, L3, _, _, wv, rfl, rfl, .inl (.inl eL3), hat _ rfl, .ref c, rfl, .str nm, rfl, c, _, rfl, DPut.k (k := Sum.inr nm) (sA _ _ e3) lkv, _, _, _, _, _, cs, tPut T nm t, _, rfl, a1, a2, a3, m1, m2, m3, a4, a5⟩⟩
          · have my : mayT b o p = false := by
              have c2b := Bool.eq_false_iff.mpr c2
              unfold mayT
              rw [c1b, oE_comm vy' vb', Bool.false_or, ← c2b, Bool.or_false]
            have eG := sG _ _ e3
            have eWG := sG _ _ eW3
            have app : ∀ (_ : (isS o && (isS p && (decide (b = none) || isS b))) = false), (upd G W (.lst (cs.map V.str ++ [.str nm]))) c = some (.dK kvs) ∧ Tab (ToD c (upd G W (.lst (cs.map V.str ++ [.str nm])))) kvs T ∧ (upd G W (.lst (cs.map V.str ++ [.str nm]))) W = some (.lst ((cs ++ [nm]).map V.str)) ∧ MFold T3 (ys.take i ++ [nm]) (cs ++ [nm]) T ∧ (cs ++ [nm]).length ≤ 4 * (i + 1) ∧ T.length ≤ i + 1 ∧ Same H (upd G W (.lst (cs.map V.str ++ [.str nm]))) ∧ (upd G W (.lst (cs.map V.str ++ [.str nm]))) pl = some (.lst (ys.map V.str)) := fun hs => by
              obtain ⟨m1, m2, m3⟩ := snoc (cs' := [nm]) (r := none) (.inr ⟨my, .inr ⟨hs, rfl, rfl⟩⟩)
              have stW : Stl G (upd G W (.lst (cs.map V.str ++ [.str nm]))) := Stl.lst eWG Kp.put
              refine ⟨?_, tb3.imp fun _ _ _ _ _ h => (h.stl (Stl.same sG)).stl stW, ?_, m1, m2, by omega, fun b o hb => ?_, ?_⟩
              · rw [upd_ne (Ne.symm nWc)]; exact eG
              · rw [upd_same, List.map_append]; rfl
              · rw [upd_ne (ne_of_none hb nW)]; exact sG _ _ (s3 _ _ hb)
              · rw [upd_ne npW]; exact sG _ _ ep3
            have lcs2 : (cs.map V.str).length < sizeLine := by rw [List.length_map, sizeLine_eq]; omega
            cases o with
            | none =>
              have ev : vx = .non := hx
              subst ev
              obtain ⟨a1, a2, a3, a4, a5, a6, a7, a8⟩ := app rfl
              exact ⟨.non, rfl, true, rfl, iteT ⟨.ref W, rfl, .inl ⟨rfl, _, .inl (.inl eWG)⟩, .str nm, rfl, W, _, _, rfl, rfl, eWG, lcs2, _, _, _, _, _, cs ++ [nm], T, kvs, rfl, a1, a2, a3, a4, a5, a6, a7, a8⟩⟩
            | some ox =>
              obtain ⟨tx, xsx, ex, _⟩ := toSq (K := K) hx
              subst ex
              refine ⟨.ref tx, rfl, false, rfl, iteF ?_⟩
              cases p with
              | none =>
                have ev : vy = .non := hy
                subst ev
                obtain ⟨a1, a2, a3, a4, a5, a6, a7, a8⟩ := app (by cases ox <;> rfl)
                exact ⟨.non, rfl, true, rfl, iteT ⟨.ref W, rfl, .inl ⟨rfl, _, .inl (.inl eWG)⟩, .str nm, rfl, W, _, _, rfl, rfl, eWG, lcs2, _, _, _, _, _, cs ++ [nm], T, kvs, rfl, a1, a2, a3, a4, a5, a6, a7, a8⟩⟩
              | some oy =>
                obtain ⟨ty, xsy, ey, _⟩ := toSq (K := K) hy
                subst ey
                refine ⟨.ref ty, rfl, false, rfl, iteF ?_⟩
                cases ox with
                | mad rx ax =>
                  obtain ⟨t, vr, va, e, ht, _⟩ := (show ToAt H (.ref tx) (.mad rx ax) from hx)
                  cases e
                  obtain ⟨a1, a2, a3, a4, a5, a6, a7, a8⟩ := app rfl
                  refine ⟨.ref tx, rfl, tx, _, 0, .str "made", rfl, rfl, .inl (.inl (sG _ _ (s3 _ _ ht))), rfl, rfl, _, rfl, ?_⟩
                  rw [wMS]
                  exact iteT ⟨.ref W, rfl, .inl ⟨rfl, _, .inl (.inl eWG)⟩, .str nm, rfl, W, _, _, rfl, rfl, eWG, lcs2, _, _, _, _, _, cs ++ [nm], T, kvs, rfl, a1, a2, a3, a4, a5, a6, a7, a8⟩
                | src X =>
                  obtain ⟨t, dx, e, htx, hX⟩ := (show ToAt H (.ref tx) (.src X) from hx)
                  cases e
                  refine ⟨.ref tx, rfl, tx, _, 0, .str "source", rfl, rfl, .inl (.inl (sG _ _ (s3 _ _ htx))), rfl, rfl, _, rfl, ?_⟩
                  rw [wSS]
                  refine iteF ?_
                  cases oy with
                  | mad ry ay =>
                    obtain ⟨t, vr, va, e, ht, _⟩ := (show ToAt H (.ref ty) (.mad ry ay) from hy)
                    cases e
                    obtain ⟨a1, a2, a3, a4, a5, a6, a7, a8⟩ := app rfl
                    refine ⟨.ref ty, rfl, ty, _, 0, .str "made", rfl, rfl, .inl (.inl (sG _ _ (s3 _ _ ht))), rfl, rfl, _, rfl, ?_⟩
                    rw [wMS]
                    exact iteT ⟨.ref W, rfl, .inl ⟨rfl, _, .inl (.inl eWG)⟩, .str nm, rfl, W, _, _, rfl, rfl, eWG, lcs2, _, _, _, _, _, cs ++ [nm], T, kvs, rfl, a1, a2, a3, a4, a5, a6, a7, a8⟩
                  | src Y =>
                    obtain ⟨t, dy, e, hty, hY⟩ := (show ToAt H (.ref ty) (.src Y) from hy)
                    cases e
                    refine ⟨.ref ty, rfl, ty, _, 0, .str "source", rfl, rfl, .inl (.inl (sG _ _ (s3 _ _ hty))), rfl, rfl, _, rfl, ?_⟩
                    rw [wSS]
                    refine iteF ?_
                    cases b with
                    | none =>
                      have ev : vb = .non := hb
                      subst ev
                      refine ⟨.non, rfl, false, rfl, iteF ?_⟩
                      have kX := tk1 _ rfl
                      have kY := tk2 _ rfl
                      refine ⟨fun σ' H' => ∃ x6 x7 x8 W2 zs kvs', σ' = [some (.ref (d 0)), some (.ref (d 1)), some (.ref (d 2)), some (.ref c), some (.ref W), some (.str nm), x6, x7, x8, some (.ref W2)] ∧ zs.Nodup ∧ (∀ z, z ∈ zs ↔ z ∈ ([] : Outs).map (·.1) ∨ z ∈ X.map (·.1) ∨ z ∈ Y.map (·.1)) ∧ H' c = some (.dK kvs') ∧ Tab (ToD c H') kvs' (tPut T nm (.src (osF [] X Y zs))) ∧ H' W2 = some (.lst ((csF nm [] X Y zs).map V.str)) ∧ H' W = some (.lst (cs.map V.str)) ∧ Same H H' ∧ H' pl = some (.lst (ys.map V.str)), ?_, ?_⟩
                      · refine ⟨.str nm, rfl, .non, rfl, .ref tx, rfl, tx, _, 1, .ref dx, rfl, rfl, .inl (.inl (sG _ _ (s3 _ _ htx))), rfl, .ref ty, rfl, ty, _, 1, .ref dy, rfl, rfl, .inl (.inl (sG _ _ (s3 _ _ hty))), rfl, ?_⟩
                        have sHG := s3.trans sG
                        refine ⟨nm, .non, (none : Option Tg), dx, dy, [], X, Y, rfl, nmsTok nm hnm, ToO.stl hb (Stl.same sHG), (.inl ⟨rfl, rfl⟩), ⟨sHG _ _ hX.1, hX.2⟩, ⟨sHG _ _ hY.1, hY.2⟩, ⟨Nat.zero_le _, fun p hp => absurd hp (by simp)⟩, kX, kY, fun U2 r W2 zs G2 ndz mz eU2 tn eW2 s5 => ?_⟩
                        have ncG : G c ≠ none := by rw [eG]; exact fun z => nomatch z
                        obtain ⟨a1, a2, a3, a4, a5⟩ := put (sG.trans s5) (tn.away ncG)
                        refine ⟨U2, _, rfl, .inl (.inl eU2), rfl, .ref r, _, rfl, .ref c, rfl, .str nm, rfl, c, _, rfl, DPut.k (k := Sum.inr nm) (s5 _ _ eG) lkv, .ref W2, _, rfl, rfl, _, _, _, W2, zs, _, rfl, ndz, mz, a1, a2, ?_, a3, a4, a5⟩
                        rw [upd_ne fun z => by rw [z, s5 _ _ eG] at eW2; cases eW2]
                        exact eW2
                      rintro _ G3 ⟨x6, x7, x8, W2, zs, kvs', rfl, ndz, mz, ec3, tb3', eW23, eWG3, sG3, ep3'⟩
                      obtain ⟨m1, m2, m3⟩ := snoc (cs' := csF nm [] X Y zs) (r := some (.src (osF [] X Y zs))) (.inr ⟨my, .inl ⟨[], X, Y, zs, (.inl ⟨rfl, rfl⟩), rfl, rfl, ndz, mz, rfl, rfl⟩⟩)
                      have stW : Stl G3 (upd G3 W (.lst (cs.map V.str ++ (csF nm [] X Y zs).map V.str))) := Stl.lst eWG3 Kp.put
                      refine ⟨.ref W, rfl, .inl ⟨rfl, _, .inl (.inl eWG3)⟩, .ref W2, rfl, W, W2, _, _, rfl, rfl, eWG3, eW23, ?_, _, _, _, _, _, _, _, kvs', rfl, ?_, tb3'.imp fun _ _ _ _ _ h => h.stl stW, ?_, m1, m2, m3, fun b o hb => ?_, ?_⟩
                      · rw [List.length_append] at m2
                        rw [List.length_map, List.length_map, sizeLine_eq]
                        omega
                      · rw [upd_ne (Ne.symm nWc)]; exact ec3
                      · rw [upd_same, List.map_append]
                      · rw [upd_ne (ne_of_none hb nW)]; exact sG3 _ _ hb
                      · rw [upd_ne npW]; exact ep3'
                    | some ob =>
                      cases ob with
                      | mad rb ab =>
                        obtain ⟨t, vr, va, e, ht, _⟩ := (show ToAt H vb (.mad rb ab) from hb)
                        subst e
                        obtain ⟨a1, a2, a3, a4, a5, a6, a7, a8⟩ := app rfl
                        refine ⟨.ref t, rfl, true, rfl, iteT ⟨.ref t, rfl, t, _, 0, .str "made", rfl, rfl, .inl (.inl (sG _ _ (s3 _ _ ht))), rfl, rfl, _, rfl, ?_⟩⟩
                        rw [wMS]
                        exact iteT ⟨.ref W, rfl, .inl ⟨rfl, _, .inl (.inl eWG)⟩, .str nm, rfl, W, _, _, rfl, rfl, eWG, lcs2, _, _, _, _, _, cs ++ [nm], T, kvs, rfl, a1, a2, a3, a4, a5, a6, a7, a8⟩
                      | src B =>
                        obtain ⟨t, db, e, htb, hB⟩ := (show ToAt H vb (.src B) from hb)
                        subst e
                        refine ⟨.ref t, rfl, true, rfl, iteT ⟨.ref t, rfl, t, _, 0, .str "source", rfl, rfl, .inl (.inl (sG _ _ (s3 _ _ htb))), rfl, rfl, _, rfl, ?_⟩⟩
                        rw [wSS]
                        refine iteF ?_
                        have kX := tk1 _ rfl
                        have kY := tk2 _ rfl
                        refine ⟨fun σ' H' => ∃ x6 x7 x8 W2 zs kvs', σ' = [some (.ref (d 0)), some (.ref (d 1)), some (.ref (d 2)), some (.ref c), some (.ref W), some (.str nm), x6, x7, x8, some (.ref W2)] ∧ zs.Nodup ∧ (∀ z, z ∈ zs ↔ z ∈ (B : Outs).map (·.1) ∨ z ∈ X.map (·.1) ∨ z ∈ Y.map (·.1)) ∧ H' c = some (.dK kvs') ∧ Tab (ToD c H') kvs' (tPut T nm (.src (osF B X Y zs))) ∧ H' W2 = some (.lst ((csF nm B X Y zs).map V.str)) ∧ H' W = some (.lst (cs.map V.str)) ∧ Same H H' ∧ H' pl = some (.lst (ys.map V.str)), ?_, ?_⟩
                        · refine ⟨.str nm, rfl, .ref t, rfl, .ref tx, rfl, tx, _, 1, .ref dx, rfl, rfl, .inl (.inl (sG _ _ (s3 _ _ htx))), rfl, .ref ty, rfl, ty, _, 1, .ref dy, rfl, rfl, .inl (.inl (sG _ _ (s3 _ _ hty))), rfl, ?_⟩
                          have sHG := s3.trans sG
                          refine ⟨nm, .ref t, some (Tg.src B), dx, dy, B, X, Y, rfl, nmsTok nm hnm, ToO.stl hb (Stl.same sHG), (.inr rfl), ⟨sHG _ _ hX.1, hX.2⟩, ⟨sHG _ _ hY.1, hY.2⟩, tk0 _ rfl, kX, kY, fun U2 r W2 zs G2 ndz mz eU2 tn eW2 s5 => ?_⟩
                          have ncG : G c ≠ none := by rw [eG]; exact fun z => nomatch z
                          obtain ⟨a1, a2, a3, a4, a5⟩ := put (sG.trans s5) (tn.away ncG)
                          refine ⟨U2, _, rfl, .inl (.inl eU2), rfl, .ref r, _, rfl, .ref c, rfl, .str nm, rfl, c, _, rfl, DPut.k (k := Sum.inr nm) (s5 _ _ eG) lkv, .ref W2, _, rfl, rfl, _, _, _, W2, zs, _, rfl, ndz, mz, a1, a2, ?_, a3, a4, a5⟩
                          rw [upd_ne fun z => by rw [z, s5 _ _ eG] at eW2; cases eW2]
                          exact eW2
                        rintro _ G3 ⟨x6, x7, x8, W2, zs, kvs', rfl, ndz, mz, ec3, tb3', eW23, eWG3, sG3, ep3'⟩
                        obtain ⟨m1, m2, m3⟩ := snoc (cs' := csF nm B X Y zs) (r := some (.src (osF B X Y zs))) (.inr ⟨my, .inl ⟨B, X, Y, zs, (.inr rfl), rfl, rfl, ndz, mz, rfl, rfl⟩⟩)
                        have stW : Stl G3 (upd G3 W (.lst (cs.map V.str ++ (csF nm B X Y zs).map V.str))) := Stl.lst eWG3 Kp.put
                        refine ⟨.ref W, rfl, .inl ⟨rfl, _, .inl (.inl eWG3)⟩, .ref W2, rfl, W, W2, _, _, rfl, rfl, eWG3, eW23, ?_, _, _, _, _, _, _, _, kvs', rfl, ?_, tb3'.imp fun _ _ _ _ _ h => h.stl stW, ?_, m1, m2, m3, fun b o hb => ?_, ?_⟩
                        · rw [List.length_append] at m2
                          rw [List.length_map, List.length_map, sizeLine_eq]
                          omega
                        · rw [upd_ne (Ne.symm nWc)]; exact ec3
                        · rw [upd_same, List.map_append]
                        · rw [upd_ne (ne_of_none hb nW)]; exact sG3 _ _ hb
                        · rw [upd_ne npW]; exact ep3'
      · obtain ⟨x5, x6, x7, x8, x9, cs, T, kvs, rfl, e3, tb3, eW3, mf, lcs, lT, s3, ep3⟩ := h
        rw [List.take_length] at mf
        exact ⟨x5, x6, x7, x8, x9, ys, cs, T, kvs, rfl, ndy, mem, ly, e3, tb3, eW3, mf, by omega, s3⟩
    rintro _ H2 ⟨x5, x6, x7, x8, x9, ys, cs, T, kvs, rfl, ndy, mem, ly, e2, tb2, eW2, mf, lcs, s2⟩
    refine ⟨.ref c, rfl, .ref W, rfl, W, cs, rfl, .inl (.inl eW2), by omega, fun zs pl pm srt hpl => ⟨(by show 2 ≤ sizeLine; decide), fun u hu => ?_⟩⟩
    have z1 := KS.sameUpd (o := .lst (zs.map V.str)) hpl
    have z2 := KS.sameUpd (o := .tup [.ref c, .ref pl]) hu
    have zz := z1.trans z2
    exact q u c pl ys cs T zs _ ndy mem ly mf upd_same ⟨kvs, zz _ _ e2, tb2.imp fun _ _ _ _ _ h => (h.stl (Stl.same zz)).to⟩ (z2 _ _ upd_same) pm srt (noneSame s2 hpl) (s2.trans zz) nc
end
end PJ

set_option Elab.async false
set_option linter.all false
set_option maxRecDepth 100000
set_option maxHeartbeats 4000000
/-! versions and the law's own plans of them -/
namespace PJ
open PySem PySem.Spec PyProof.Rows L2 KS KS.La
open KX hiding sameUpd
section
variable {CS CM CP CH : Addr} {H H' : Hp} {h A B C D : Addr} {ps : List Addr} {ls : List Int} {qs : List (List Nat)}
theorem HsAt.kp (x : HsAt CH H h A B C ps ls qs) (k : Kp D H H') (hD : ∃ xs, H D = some (.lst xs)) (nA : A ≠ D) (nB : B ≠ D) (nC : C ≠ D) : HsAt CH H' h A B C ps ls qs := by
  obtain ⟨xs, eD⟩ := hD
  have st : Stl H H' := Stl.lst eD k
  obtain ⟨dh, eh⟩ := x.ob
  obtain ⟨us, eB, pq⟩ := x.pb
  exact ⟨⟨dh, st _ _ eh (fun _ z => nomatch z)⟩, k _ _ nA x.pa, ⟨us, k _ _ nB eB, L2.Paired.mapP pq fun _ _ h => h.stl st⟩, k _ _ nC x.pc, x.ll, x.ql, x.ab, x.ac, x.bc⟩
theorem PaAt.kp {P : Addr} (x : PaAt H P qs) (k : Kp D H H') (hD : ∃ xs, H D = some (.lst xs)) (n : P ≠ D) : PaAt H' P qs := by
  obtain ⟨xs, eD⟩ := hD
  have st : Stl H H' := Stl.lst eD k
  obtain ⟨us, e, p⟩ := x
  exact ⟨us, k _ _ n e, L2.Paired.mapP p fun _ _ h => h.stl st⟩
theorem PaAt.k3 {P : Addr} (y : HsAt CH H h A B C ps ls qs) {qs' : List (List Nat)} (x : PaAt H P qs') (k : K3 A B C H H') (nA : P ≠ A) (nB : P ≠ B) (nC : P ≠ C) : PaAt H' P qs' := by
  have st := K3.stl y k
  obtain ⟨us, e, p⟩ := x
  exact ⟨us, k _ _ nA nB nC e, L2.Paired.mapP p fun _ _ h => h.stl st⟩
theorem TgAt.tgv {K : PySem.W.Frag} {v : V} {t : Tg} (h : TgAt CS CM H v t) : TgV t := by
  cases t with
  | src os => obtain ⟨_, _, _, _, _, ho⟩ := h; exact ho.2.1
  | mad r as => obtain ⟨_, _, _, _, _, _, hr, ha⟩ := h; exact ⟨(hr.dp (K := K)).2, (ha.dp (K := K)).2⟩
theorem Tab.each {R : V → Tg → Prop} {kvs : List (Key × V)} {T : Tb} (h : Tab R kvs T) : ∀ k t, (k, t) ∈ T → ∃ v, R v t := by
  induction h with
  | nil => exact fun k t hm => absurd hm (by simp)
  | cons h r ih =>
    intro k t hm
    rcases List.mem_cons.mp hm with e | hm
    · cases e; exact ⟨_, h⟩
    · exact ih k t hm
/-- a version: its project, the law's plan; what the plan tells, what the project has -/
structure Vr where
  p : Addr
  d : Addr
  T : Tb
  T' : Tb
structure VrOk (CS CM CP : Addr) (H : Hp) (v : Vr) : Prop where
  pl : KtAt H v.d v.T
  pj : PjAt CS CM CP H v.p v.T'
  k : TbK v.T
  k' : TbK v.T'
  like : TbP v.T' v.T
theorem VrOk.stl {v : Vr} (h : VrOk CS CM CP H v) (s : Stl H H') : VrOk CS CM CP H' v := ⟨h.pl.stl s, h.pj.stl s, h.k, h.k', h.like⟩
theorem VrOk.v {K : PySem.W.Frag} {v : Vr} (h : VrOk CS CM CP H v) : TbV v.T := fun k t hm => by
  obtain ⟨kvs, _, tb⟩ := h.pl
  obtain ⟨x, hx⟩ := tb.each k t hm
  exact ToAt.tgv (K := K) hx
theorem VrOk.v' {K : PySem.W.Frag} {v : Vr} (h : VrOk CS CM CP H v) : TbV v.T' := fun k t hm => by
  obtain ⟨kvs, _, tb⟩ := h.pj
  obtain ⟨x, hx⟩ := tb.each k t hm
  exact TgAt.tgv (K := K) hx
structure GrAt (CS CM CP CH : Addr) (H : Hp) (a h A B C D P : Addr) (vs : List Vr) (ls : List Int) (qs : List (List Nat)) : Prop where
  hs : HsAt CH H h A B C (vs.map (·.p)) ls qs
  pl : H D = some (.lst (vs.map fun v => V.ref v.d))
  pa : PaAt H P qs
  ok : ∀ v ∈ vs, VrOk CS CM CP H v
  par : ParOk qs
  lns : LsOk qs ls
  fa : Fd H a
  aA : A ≠ a
  aB : B ≠ a
  aC : C ≠ a
  aD : D ≠ a
  aP : P ≠ a
  dp : D ≠ P
  dA : D ≠ A
  dB : D ≠ B
  dC : D ≠ C
  pA : P ≠ A
  pB : P ≠ B
  pC : P ≠ C
variable {a P : Addr} {vs : List Vr}
theorem GrAt.same (x : GrAt CS CM CP CH H a h A B C D P vs ls qs) (s : Same H H') : GrAt CS CM CP CH H' a h A B C D P vs ls qs :=
  { x with hs := x.hs.same s, pl := s _ _ x.pl, pa := x.pa.same s, ok := fun v hv => (x.ok v hv).stl (Stl.same s), fa := x.fa.same s }
theorem GrAt.feed (x : GrAt CS CM CP CH H a h A B C D P vs ls qs) (k : Kp a H H') (F : Fd H' a) : GrAt CS CM CP CH H' a h A B C D P vs ls qs := by
  have hD : ∃ xs, H a = some (.lst xs) := by obtain ⟨i, j, e, _⟩ := x.fa; exact ⟨_, e⟩
  exact { x with hs := x.hs.kp k hD x.aA x.aB x.aC, pl := k _ _ x.aD x.pl, pa := x.pa.kp k hD x.aP, ok := fun v hv => (x.ok v hv).stl (Stl.fd x.fa k), fa := F }
theorem GrAt.len (x : GrAt CS CM CP CH H a h A B C D P vs ls qs) : qs.length = vs.length := by
  have := x.hs.ql
  rw [List.length_map] at this
  exact this
theorem GrAt.keep (x : GrAt CS CM CP CH H a h A B C D P vs ls qs) : ∃ xs, H a = some (.lst xs) := by obtain ⟨i, j, e, _⟩ := x.fa; exact ⟨_, e⟩
/-- one version more: the history's own, then both lists of the law -/
theorem GrAt.more {H1 : Hp} {v : Vr} {ks : List Nat} {us : List V} {t : Addr} (x : GrAt CS CM CP CH H a h A B C D P vs ls qs) (k3 : K3 A B C H H1) (hs : HsAt CH H1 h A B C ((vs ++ [v]).map (·.p)) (ls ++ [lineOf vs.length ls ks]) (qs ++ [ks])) (hv : VrOk CS CM CP H1 v)
    (hk : ∀ p ∈ ks, p < vs.length) (kn : ks ≠ []) (k2 : ks.length ≤ 2) {H2 H3 : Hp} (kD : Kp D H1 H2) (eD : H2 D = some (.lst ((vs ++ [v]).map fun v => V.ref v.d))) (s23 : Same H2 H3) (et : H3 t = some (.tup (ks.map fun k : Nat => V.int k)))
    (eP : H3 P = some (.lst us)) {H4 : Hp} (e4 : H4 = upd H3 P (.lst (us ++ [.ref t]))) : GrAt CS CM CP CH H4 a h A B C D P (vs ++ [v]) (ls ++ [lineOf vs.length ls ks]) (qs ++ [ks]) := by
  subst e4
  have st1 := K3.stl x.hs k3
  have eD1 : H1 D = some (.lst (vs.map fun v => V.ref v.d)) := k3 _ _ x.dA x.dB x.dC x.pl
  have pa1 : PaAt H1 P qs := PaAt.k3 x.hs x.pa k3 x.pA x.pB x.pC
  have fa1 : Fd H1 a := by obtain ⟨i, j, e, g⟩ := x.fa; exact ⟨i, j, k3 _ _ (Ne.symm x.aA) (Ne.symm x.aB) (Ne.symm x.aC) e, g⟩
  have st2 : Stl H1 H2 := Stl.lst eD1 kD
  have hs2 := hs.kp kD ⟨_, eD1⟩ (Ne.symm x.dA) (Ne.symm x.dB) (Ne.symm x.dC)
  have pa2 := pa1.kp kD ⟨_, eD1⟩ (Ne.symm x.dp)
  have fa2 : Fd H2 a := by obtain ⟨i, j, e, g⟩ := fa1; exact ⟨i, j, kD _ _ (Ne.symm x.aD) e, g⟩
  have hs3 := hs2.same s23
  obtain ⟨us', eP', pq⟩ := pa2.same s23
  have eu : us = us' := by
    rw [eP] at eP'
    have := Option.some.inj eP'
    injection this
  subst eu
  have kP : Kp P H3 (upd H3 P (.lst (us ++ [.ref t]))) := Kp.put
  have st4 : Stl H3 (upd H3 P (.lst (us ++ [.ref t]))) := Stl.lst eP kP
  have st := (st2.trans (Stl.same s23)).trans st4
  have lq := x.len
  exact {
    hs := hs3.kp kP ⟨_, eP⟩ (Ne.symm x.pA) (Ne.symm x.pB) (Ne.symm x.pC)
    pl := kP _ _ x.dp (s23 _ _ eD)
    pa := ⟨us ++ [.ref t], upd_same, Paired.snoc (L2.Paired.mapP pq fun _ _ h => h.stl st4) ⟨t, rfl, st4 _ _ et fun _ z => nomatch z⟩⟩
    ok := fun w hw => by
      rcases List.mem_append.mp hw with hw | hw
      · exact ((x.ok w hw).stl st1).stl st
      · rw [List.mem_singleton.mp hw]
        exact hv.stl st
    par := x.par.app (fun p hp => by rw [lq]; exact hk p hp) kn k2
    lns := by
      have := x.lns.app x.par (ks := ks) (fun p hp => by rw [lq]; exact hk p hp)
      rw [lq] at this
      exact this
    fa := fdOther (fa2.same s23) x.aP
    aA := x.aA, aB := x.aB, aC := x.aC, aD := x.aD, aP := x.aP, dp := x.dp, dA := x.dA, dB := x.dB, dC := x.dC, pA := x.pA, pB := x.pB, pC := x.pC }
end
theorem TbP.keys {T T' : Tb} (h : TbP T T') (z : Str) : z ∈ T.map (·.1) ↔ z ∈ T'.map (·.1) := by
  have one : ∀ {A B : Tb}, TbP A B → z ∈ A.map (·.1) → z ∈ B.map (·.1) := fun {A B} g hz => by
    have gz := g z
    cases e : tLook A z with
    | none =>
      obtain ⟨⟨k, t⟩, hm, rfl⟩ := List.mem_map.mp hz
      unfold tLook at e
      rw [Option.map_eq_none_iff] at e
      exact absurd (decide_eq_true rfl) (by have := List.find?_eq_none.mp e _ hm; exact this)
    | some t =>
      rw [e] at gz
      cases e2 : tLook B z with
      | none => rw [e2] at gz; exact gz.elim
      | some t' => exact tLook_key e2
  exact ⟨one h, one h.symm⟩
/-- the program's merge and the law's -/
theorem bothMerge {T3 T3' : Fin 3 → Tb} {ys ys' cs cs' : List Str} {T T' : Tb} (v : ∀ i, TbV (T3 i)) (v' : ∀ i, TbV (T3' i)) (rel : ∀ i, TbP (T3 i) (T3' i)) (k3 : ∀ i, TbK (T3 i)) (k3' : ∀ i, TbK (T3' i)) (nd : ys.Nodup) (nd' : ys'.Nodup)
    (mem : ∀ z, z ∈ ys ↔ ∃ i, z ∈ (T3 i).map (·.1)) (mem' : ∀ z, z ∈ ys' ↔ ∃ i, z ∈ (T3' i).map (·.1)) (h : MFold T3 ys cs T) (h' : MFold T3' ys' cs' T') : cs.Perm cs' ∧ TbP T T' ∧ TbK T ∧ TbK T' := by
  have pm : ys.Perm ys' := permOfMem nd nd' fun z => by
    rw [mem z, mem' z]
    exact ⟨fun ⟨i, h⟩ => ⟨i, ((rel i).keys z).mp h⟩, fun ⟨i, h⟩ => ⟨i, ((rel i).keys z).mpr h⟩⟩
  obtain ⟨a, b⟩ := mfoldTwo v v' rel h h' nd nd' pm
  exact ⟨a, b, mfoldK h nd k3 mem, mfoldK h' nd' k3' mem'⟩
end PJ

set_option Elab.async false
set_option linter.all false
set_option maxRecDepth 100000
set_option maxHeartbeats 8000000
/-! the law's history -/
namespace PJ
open PySem PySem.Spec PyProof.Rows L2 KS KS.La
open KX hiding sameUpd
abbrev lGr : Stmt := top 39
section
variable {CS CM CP CH : Addr} {H H' : Hp} {h A B C D a P : Addr} {ls : List Int} {qs : List (List Nat)} {vs : List Vr}
theorem GrAt.next {v : Vr} {ks : List Nat} (x : GrAt CS CM CP CH H a h A B C D P vs ls qs) (st : Stl H H') (hs : HsAt CH H' h A B C ((vs ++ [v]).map (·.p)) (ls ++ [lineOf vs.length ls ks]) (qs ++ [ks])) (pl : H' D = some (.lst ((vs ++ [v]).map fun v => V.ref v.d)))
    (pa : PaAt H' P (qs ++ [ks])) (hv : VrOk CS CM CP H' v) (hk : ∀ p ∈ ks, p < vs.length) (kn : ks ≠ []) (k2 : ks.length ≤ 2) (fa : Fd H' a) : GrAt CS CM CP CH H' a h A B C D P (vs ++ [v]) (ls ++ [lineOf vs.length ls ks]) (qs ++ [ks]) := by
  have lq := x.len
  exact {
    hs := hs, pl := pl, pa := pa
    ok := fun w hw => by
      rcases List.mem_append.mp hw with hw | hw
      · exact (x.ok w hw).stl st
      · rw [List.mem_singleton.mp hw]
        exact hv
    par := x.par.app (fun p hp => by rw [lq]; exact hk p hp) kn k2
    lns := by
      have := x.lns.app x.par (ks := ks) (fun p hp => by rw [lq]; exact hk p hp)
      rw [lq] at this
      exact this
    fa := fa, aA := x.aA, aB := x.aB, aC := x.aC, aD := x.aD, aP := x.aP, dp := x.dp, dA := x.dA, dB := x.dB, dC := x.dC, pA := x.pA, pB := x.pB, pC := x.pC }
end
theorem dotTok {nm y : Str} (hn : nm ∈ nmsL) (hy : y ∈ outsL) : TOk (dotS nm y) := by
  have all : ∀ nm ∈ nmsL, ∀ y ∈ outsL, TOk (dotS nm y) := by decide +kernel
  exact all nm hn y hy
theorem mfoldTok {T3 : Fin 3 → Tb} {ys cs : List Str} {T : Tb} (h : MFold T3 ys cs T) (nd : ys.Nodup) (k3 : ∀ i, TbK (T3 i)) (mem : ∀ z, z ∈ ys ↔ ∃ i, z ∈ (T3 i).map (·.1)) : (∀ z ∈ cs, TOk z) ∧ cs.length ≤ 4 * ys.length := by
  obtain ⟨wr, e, n, sb, m⟩ := mfoldSpec h nd
  have inN : ∀ z ∈ ys, z ∈ nmsL := fun z hz => by
    obtain ⟨i, h⟩ := (mem z).mp hz
    exact (k3 i).sub z h
  refine ⟨fun z hz => ?_, ?_⟩
  · rw [e] at hz
    obtain ⟨k, hk, hz⟩ := List.mem_flatMap.mp hz
    have ms := m k hk
    have tk : ∀ i t, tLook (T3 i) k = some t → TgK t := fun i t e => (k3 i).tk k t (tLook_mem e)
    rcases ms with ⟨_, ec, _⟩ | ⟨_, ⟨B, O, R, zs, hB, eo, ep, nz, mz, ec, _⟩ | ⟨_, ec, _⟩⟩
    · rw [ec] at hz; exact absurd hz (by simp)
    · rw [ec] at hz
      obtain ⟨y, hy, rfl⟩ := List.mem_map.mp hz
      have hy' := (List.mem_filter.mp hy).1
      refine dotTok (inN k hk) ?_
      rcases (mz y).mp hy' with h | h | h
      · rcases hB with ⟨_, rfl⟩ | eb
        · exact absurd h (by simp)
        · exact OsK.keys (tk 0 _ eb) y h
      · exact OsK.keys (tk 1 _ eo) y h
      · exact OsK.keys (tk 2 _ ep) y h
    · rw [ec] at hz
      rw [List.mem_singleton.mp hz]
      exact nmsTok k (inN k hk)
  · have one : ∀ l : List Str, (∀ z ∈ l, z ∈ ys) → (l.flatMap wr).length ≤ 4 * l.length := fun l => by
      induction l with
      | nil => exact fun _ => Nat.le_refl _
      | cons z l ih =>
        intro hl
        have h1 := MS_len (T3 := T3) (fun i => (k3 i).tk) (m z (hl z List.mem_cons_self))
        have h2 := ih fun y hy => hl y (List.mem_cons_of_mem _ hy)
        rw [List.flatMap_cons, List.length_append, List.length_cons]
        omega
    rw [e]
    exact one ys fun _ h => h
theorem strsOd {K : PySem.W.Frag} {ws : List Str} (h : ∀ z ∈ ws, TOk z) : ∃ es, (∀ H, DpAll K H (ws.map V.str) es) ∧ (∀ d ∈ es, Od 0 d) ∧ es.length ≤ ws.length := ⟨ws.map .str, fun _ => dpStrs ws, fun d hd => by
  obtain ⟨z, hz, rfl⟩ := List.mem_map.mp hd
  exact rOd z (h z hz), by rw [List.length_map]; exact Nat.le_refl _⟩
theorem decNil (ws : List Str) : decide (ws.map V.str = []) = decide (ws = []) := by
  cases ws <;> rfl
/-- what the history gives the law -/
structure HisC (P : Program) (w : World) (K : PySem.W.Frag) (mg : Str → Option Value) (base : Heap) (CS CM CP CH CF : Addr) : Prop where
  iH : IsC K CH
  gH : mg "History" = some (.ref CH)
  mkH : ∃ (f : Addr) (fd : FuncData), Mk K CH f ∧ Binds K fd ["self", "project"] [] ∧ FnOk P w K mg base CX0 1 f fd ["self", "project"] (spHInit CH)
  com : ∃ (f : Addr) (fd : FuncData), Meth K CH "commit" f ∧ Binds K fd ["self", "parent", "project"] [] ∧ FnOk P w K mg base CX0 5 f fd ["self", "parent", "project"] (spHCommit CH)
  mer : ∃ (f : Addr) (fd : FuncData), Meth K CH "merge" f ∧ Binds K fd ["self", "one", "other"] [] ∧ FnOk P w K mg base (L2.CX P w) 8 f fd ["self", "one", "other"] (spHMerge CS CM CP CH CF)
section
variable {P : Program} {w : World} {K : PySem.W.Frag} {mg : Str → Option Value} {base : Heap} {f : Addr} {fd : FuncData} {CS CM CP CH CF : Addr}
/-- versions that stand ready to be merged: the project's tables and the law's -/
theorem GrAt.three {K : PySem.W.Frag} {H : Hp} {a h A B C D Q : Addr} {vs : List Vr} {ls : List Int} {qs : List (List Nat)} (x : GrAt CS CM CP CH H a h A B C D Q vs ls qs) {b i j : Nat} {vb vi vj : Vr} (eb : vs[b]? = some vb) (ei : vs[i]? = some vi) (ej : vs[j]? = some vj) :
    T3Ok CS CM CP H (d3 vb.p vi.p vj.p) (d3 vb.T' vi.T' vj.T') nmsL ∧ (∀ n, KtAt H (d3 vb.d vi.d vj.d n) (d3 vb.T vi.T vj.T n)) ∧ (∀ n, TbK (d3 vb.T vi.T vj.T n)) ∧ (∀ n, TbK (d3 vb.T' vi.T' vj.T' n)) ∧ (∀ n, TbV (d3 vb.T vi.T vj.T n)) ∧ (∀ n, TbV (d3 vb.T' vi.T' vj.T' n)) ∧ ∀ n, TbP (d3 vb.T' vi.T' vj.T' n) (d3 vb.T vi.T vj.T n) := by
  have hb := x.ok _ (List.mem_of_getElem? eb)
  have hi := x.ok _ (List.mem_of_getElem? ei)
  have hj := x.ok _ (List.mem_of_getElem? ej)
  have all : ∀ {R : Fin 3 → Prop}, R 0 → R 1 → R 2 → ∀ n, R n := fun {R} a b c n => by
    match n with
    | 0 => exact a
    | 1 => exact b
    | 2 => exact c
  have k' : ∀ n, TbK (d3 vb.T' vi.T' vj.T' n) := all hb.k' hi.k' hj.k'
  exact ⟨⟨all hb.pj hi.pj hj.pj, fun n => (k' n).tk, fun n => (k' n).nd, fun n => (k' n).sub, by decide, nmsLen⟩, all hb.pl hi.pl hj.pl, all hb.k hi.k hj.k, k', all (hb.v (K := K)) (hi.v (K := K)) (hj.v (K := K)), all (hb.v' (K := K)) (hi.v' (K := K)) (hj.v' (K := K)), all hb.like hi.like hj.like⟩
def spGrown (CS CM CP CH : Addr) : Sp := fun vs H Q _ => ∃ a : Addr, vs = [.ref a] ∧ Fd H a ∧ ∀ U h A B C D P vs ls qs H', GrAt CS CM CP CH H' a h A B C D P vs ls qs → vs.length ≤ 9 → 0 < vs.length → H' U = some (.tup [.ref h, .ref D, .ref P]) → Kp a H H' → H A = none → H B = none → H C = none → H D = none → H P = none → Q (.ref U) H'
abbrev nGr : List Str := ["_law_feed", "_law_first", "_law_history", "_law_plans", "_law_parents", "_law_turn", "_law_one_here", "_law_other", "_law_merged_here", "_law_wrong"]
theorem scGr : FnScope nGr ["_law_feed"] (defScope lGr) := ⟨rfl, rfl, rfl, by decide +kernel, rfl, by decide +kernel, by decide +kernel⟩
theorem okGr {k : Nat} (M : Bm mg) (L : HisC P w K mg base CS CM CP CH CF) (aR : Has P w K mg base 6 "_law_drawn" ["_law_feed"] spTabN) (aD : Has P w K mg base 1 "_law_draw" ["_law_feed", "_law_many"] spDraw) (aM : Has P w K mg base 2 "_law_merged" ["_law_base_here", "_law_one_here", "_law_other"] spMg)
    (aB : Has P w K mg base 2 "_law_base" ["_law_parents", "_law_one_here", "_law_other"] spBase) (aV : Has P w K mg base 6 "_law_moved" ["_law_feed", "_law_targets", "_law_many"] spMoved) (aP : Has P w K mg base 4 "_law_package" ["_law_targets"] (spWhole CS CM CP))
    (F : FnP K "_law_grown" lGr f fd) : FnOk P w K mg base CX0 (k + 9) f fd ["_law_feed"] (spGrown CS CM CP CH) := by
  have B := M.b
  obtain ⟨fR, dR, gR, kR, bR, GR⟩ := aR.ex
  obtain ⟨fD, dD, gD, kD, bD, GD⟩ := aD.ex
  obtain ⟨fM, dM, gM, kM, bM, GM⟩ := aM.ex
  obtain ⟨fB, dB, gB, kB, bB, GB⟩ := aB.ex
  obtain ⟨fV, dV, gV, kV, bV, GV⟩ := aV.ex
  obtain ⟨fP, dP, gP, kP, bP, GP⟩ := aP.ex
  obtain ⟨fH, dH, MH, bH, GH⟩ := L.mkH
  obtain ⟨fC, dC, hC, bC, GC⟩ := L.com
  obtain ⟨fM', dM', hM, bM', GM'⟩ := L.mer
  refine F.ok scGr (fun vs H Q E h => ?_) (fun cdv A outer s H vs Q E hr h => ?_)
  · obtain ⟨a, rfl, _⟩ := h
    rfl
  · obtain ⟨a, rfl, hF, q⟩ := h
    have r1 : Room 1 _ := hr.mono (by omega)
    have r2 : Room 2 _ := hr.mono (by omega)
    have r11 : Room (1 + 1) _ := hr.mono (by omega)
    have r4 : Room 4 _ := hr.mono (by omega)
    have r5 : Room 5 _ := hr.mono (by omega)
    have r6 : Room 6 _ := hr.mono (by omega)
    have r8 : Room 8 _ := hr.mono (by omega)
    refine ⟨_, PSs.nox (C8.pss_cut (ps_set (i := 1) scGr.nd rfl (.inl rfl) (pe_call GR r6 (by rfl) gR kR bR .nil pass0 (pa_cons (pv 0) pa_nil))) (C8.pss_cut (ps_par3 (i := 2) (j := 3) (l := 4) (by rfl) scGr.nd rfl rfl rfl (by decide) (by decide) (by decide) rfl rfl rfl (pa_cons (pe_make MH GH r11 (by rfl) L.gH bH .nil pass0 (pa_cons (pe_call GP r4 (by rfl) gP kP bP .nil pass0 (pa_cons (pv 1) pa_nil)) pa_nil)) (pa_cons (pe_lst (pa_cons (pv 1) pa_nil)) (pa_cons (pe_lst (pa_cons (pe_tup pa_nil) pa_nil)) pa_nil))) (by rfl)) (C8.pss_cut (ps_for PassesOwn.never rfl (pi_range1 (by rfl) B.range (pa_cons (pe_op op_add pe_int (pe_call GD r1 (by rfl) gD kD bD .nil pass0 (pa_cons (pv 0) (pa_cons (pe_int) pa_nil)))) pa_nil)) (pg_name (i := 5) scGr.nd rfl (.inl rfl))
        (C8.pss_cut (ps_par (i := 6) (j := 7) (by rfl) scGr.nd rfl rfl (by decide) rfl rfl (pa_cons (pe_call GD r1 (by rfl) gD kD bD .nil pass0 (pa_cons (pv 0) (pa_cons ((pe_callB call_len_seq (by rfl) B.len PySem.boot_len (pa_cons (pv 3) pa_nil))) pa_nil))) (pa_cons (pe_call GD r1 (by rfl) gD kD bD .nil pass0 (pa_cons (pv 0) (pa_cons ((pe_callB call_len_seq (by rfl) B.len PySem.boot_len (pa_cons (pv 3) pa_nil))) pa_nil))) pa_nil)) (by rfl)) (C8.pss_cut (ps_asg (pe_call GM r2 (by rfl) gM kM bM .nil pass0 (pa_cons (pe_ix ix_list (pv 3) (pe_call GB r2 (by rfl) gB kB bB .nil pass0 (pa_cons (pv 4) (pa_cons (pv 6) (pa_cons (pv 7) pa_nil)))) (fun _ _ => rfl)) (pa_cons (pe_ix ix_list (pv 3) (pv 6) (fun _ _ => rfl)) (pa_cons (pe_ix ix_list (pv 3) (pv 7) (fun _ _ => rfl)) pa_nil)))) (pg_tup rfl (pgs_cons (pg_name (i := 8) scGr.nd rfl (.inl rfl)) (pgs_cons (pg_name (i := 9) scGr.nd rfl (.inl rfl)) pgs_nil)))) (pss_one (ps_if (PW.pt (pw_and (pt_cmpR (r := rEqD K) (op_eqD hr.units) (pv 9) (pe_lst pa_nil) (nomark _)) (pw_and1 (pt_cmpR op_eq (pe_call GD r1 (by rfl) gD kD bD .nil pass0 (pa_cons (pv 0) (pa_cons (pe_int) pa_nil))) pe_int (nomark _)))))
            (C8.pss_cut (ps_if (pt_cmpR op_ne (OD.pe_methT (E := fun _ => E0) (pv 2) L.iH.cl hM GM' r8 bM' (fun _ => OD.passAt0) (pa_cons (pv 6) (pa_cons (pv 7) pa_nil))) (pe_callB call_len_seq (by rfl) B.len PySem.boot_len (pa_cons (pv 3) pa_nil)) (nomark _)) (pss_one (ps_ret pe_non)) pss_nil) (C8.pss_cut (ps_expr (pe_bm PySem.F.plainAttrs_list PySem.F.slot_list_append PySem.F.type_list_append mt_append (pv 3) (pa_cons (pv 8) pa_nil))) (pss_one (ps_expr (pe_bm PySem.F.plainAttrs_list PySem.F.slot_list_append PySem.F.type_list_append mt_append (pv 4) (pa_cons (pe_tup (pa_cons (pv 6) (pa_cons (pv 7) pa_nil))) pa_nil))))))
            (C8.pss_cut (ps_expr (pe_bm PySem.F.plainAttrs_list PySem.F.slot_list_append PySem.F.type_list_append mt_append (pv 3) (pa_cons (pe_call GV r6 (by rfl) gV kV bV .nil pass0 (pa_cons (pv 0) (pa_cons (pe_ix ix_list (pv 3) (pv 6) (fun _ _ => rfl)) (pa_cons (pe_int) pa_nil)))) pa_nil))) (C8.pss_cut (ps_if (pt_cmpR op_ne (pe_meth (pv 2) L.iH.cl hC GC r5 bC .nil pass0 (pa_cons (pv 6) (pa_cons (pe_call GP r4 (by rfl) gP kP bP .nil pass0 (pa_cons (pe_ix ix_list (pv 3) (pe_un un_neg pe_int) (fun _ _ => rfl)) pa_nil)) pa_nil))) (pe_op op_sub (pe_callB call_len_seq (by rfl) B.len PySem.boot_len (pa_cons (pv 3) pa_nil)) pe_int) (nomark _)) (pss_one (ps_ret pe_non)) pss_nil) (pss_one (ps_expr (pe_bm PySem.F.plainAttrs_list PySem.F.slot_list_append PySem.F.type_list_append mt_append (pv 4) (pa_cons (pe_tup (pa_cons (pv 6) pa_nil)) pa_nil))))))))))) (pss_one (ps_ret (pe_tup (pa_cons (pv 2) (pa_cons (pv 3) (pa_cons (pv 4) pa_nil))))))))), ?_⟩
    refine ⟨fun σ' H' => ∃ d0 T, σ' = [some (.ref a), some (.ref d0), none, none, none, none, none, none, none, none] ∧ KtAt H' d0 T ∧ TbK T ∧ Kp a H H' ∧ Fd H' a, ?_, ?_⟩
    · exact ⟨.ref a, rfl, a, rfl, hF, fun d T H1 kt tk _ k1 F1 => ⟨d, T, rfl, kt, tk, k1, F1⟩⟩
    rintro _ H1 ⟨d0, T, rfl, kt1, tk, k1, F1⟩
    refine ⟨fun σ' H' => ∃ h A B C D P v, σ' = [some (.ref a), some (.ref d0), some (.ref h), some (.ref D), some (.ref P), none, none, none, none, none] ∧ GrAt CS CM CP CH H' a h A B C D P [v] [1] [[]] ∧ Kp a H H' ∧ H A = none ∧ H B = none ∧ H C = none ∧ H D = none ∧ H P = none, ?_, ?_⟩
    · refine ⟨.ref d0, rfl, d0, T, rfl, kt1, tk.nd, by have := tk.len; omega, fun p0 H2 s2 pj => ?_⟩
      refine fun x dx hx hdx nex => ?_
      have sA : Same H2 (upd (upd H2 dx (.own x)) x (.ins CH dx [])) := fun b o hb => by
        rw [upd_ne (ne_of_none hb hx), upd_ne (ne_of_none hb hdx)]
        exact hb
      refine ⟨x, dx, p0, rfl, upd_same, fun H3 A B C hs fA fB fC kp => ⟨rfl, .ref d0, rfl, (by show 1 ≤ sizeLine; decide), fun D hD => ⟨Nat.zero_le _, fun t ht => ⟨(by show 1 ≤ sizeLine; decide), fun P hP => ?_⟩⟩⟩⟩
      have s3 : Same H2 H3 := fun b o hb => kp _ _ (ne_of_none hb hx) (sA _ _ hb)
      have zD := KS.sameUpd (o := .lst [.ref d0]) hD
      have zt := KS.sameUpd (o := .tup []) ht
      have zP := KS.sameUpd (o := .lst [.ref t]) hP
      have s13 := s2.trans s3
      have sAll := s13.trans (zD.trans (zt.trans zP))
      have no : ∀ {X : Hp} {c : Addr}, Same H1 X → X c = none → H c = none := fun {X c} s n => kpNone hF (k1.trans (Kp.same s)) (F1.same s) n
      have F3 := F1.same s13
      have gA : ∀ c, upd (upd H2 dx (.own x)) x (.ins CH dx []) c = none → H c = none ∧ c ≠ a := fun c hc => ⟨no (s2.trans sA) hc, fdNe (F1.same (s2.trans sA)) hc⟩
      obtain ⟨oA, aA'⟩ := gA A fA
      obtain ⟨oB, aB'⟩ := gA B fB
      obtain ⟨oC, aC'⟩ := gA C fC
      obtain ⟨us, eB, _⟩ := hs.pb
      have eP : upd (upd (upd H3 D (.lst [.ref d0])) t (.tup [])) P (.lst [.ref t]) P = some (.lst [.ref t]) := upd_same
      refine ⟨.ref x, .ref D, .ref P, rfl, x, A, B, C, D, P, ⟨p0, d0, T, T⟩, rfl, ?_, (k1.trans (Kp.same sAll)), oA, oB, oC, no s13 hD, no (s13.trans (zD.trans zt)) hP⟩
      exact {
        hs := hs.same (zD.trans (zt.trans zP))
        pl := zP _ _ (zt _ _ upd_same)
        pa := ⟨_, eP, .cons ⟨t, rfl, zP _ _ upd_same⟩ .nil⟩
        ok := fun v hv => by
          rw [List.mem_singleton.mp hv]
          exact ⟨kt1.stl (Stl.same sAll), pj.stl (Stl.same (s3.trans (zD.trans (zt.trans zP)))), tk, tk, TbP.refl _⟩
        par := ParOk.one
        lns := LsOk.one
        fa := F1.same sAll
        aA := aA', aB := aB', aC := aC'
        aD := fdNe F3 hD
        aP := fdNe (F3.same (zD.trans zt)) hP
        dp := fun z => by rw [← z, zt _ _ (upd_same (H := H3) (a := D) (o := .lst [.ref d0]))] at hP; cases hP
        dA := fun z => by have := hs.pa; rw [← z, hD] at this; cases this
        dB := fun z => by rw [← z, hD] at eB; cases eB
        dC := fun z => by have := hs.pc; rw [← z, hD] at this; cases this
        pA := fun z => by have := zt _ _ (zD _ _ hs.pa); rw [← z, hP] at this; cases this
        pB := fun z => by have := zt _ _ (zD _ _ eB); rw [← z, hP] at this; cases this
        pC := fun z => by have := zt _ _ (zD _ _ hs.pc); rw [← z, hP] at this; cases this }
    rintro _ H2 ⟨h, A, B, C, D, P, v, rfl, g2, k2, oA, oB, oC, oD, oP⟩
    refine ⟨fun σ' H' => ∃ x5 x6 x7 x8 x9 vs ls qs, σ' = [some (.ref a), some (.ref d0), some (.ref h), some (.ref D), some (.ref P), x5, x6, x7, x8, x9] ∧ GrAt CS CM CP CH H' a h A B C D P vs ls qs ∧ vs.length ≤ 9 ∧ 0 < vs.length ∧ Kp a H H', ?_, ?_⟩
    · refine ⟨.ref a, rfl, a, 7, rfl, g2.fa, by decide, by decide, fun r H3 r0 r1' k3 F3 => ⟨2, r, rfl, rfl, 2 + r, rfl, by omega, by omega, ?_⟩⟩
      refine forJ (n := (2 + r).toNat) (fun n σ' H' => ∃ x5 x6 x7 x8 x9 vs ls qs, σ' = [some (.ref a), some (.ref d0), some (.ref h), some (.ref D), some (.ref P), x5, x6, x7, x8, x9] ∧ GrAt CS CM CP CH H' a h A B C D P vs ls qs ∧ vs.length = 1 + n ∧ Kp a H H')
        ⟨none, none, none, none, none, [v], [1], [[]], rfl, g2.feed k3 F3, rfl, k2.trans k3⟩ (fun n σ' H' lt _ => lt) (fun σ' H' _ => Nat.le_refl _) (fun n σ' H0 x H4 ltn hh y => ?_) (fun σ' H' hh => ?_)
      · obtain ⟨rfl, rfl⟩ := y
        obtain ⟨x5, x6, x7, x8, x9, vs, ls, qs, rfl, g4, lv, k4⟩ := hh
        have ln9 : n < 9 := by omega
        have lv9 : vs.length ≤ 9 := by omega
        -- two of them
        refine ⟨fun σ' H' => ∃ i j : Nat, σ' = [some (.ref a), some (.ref d0), some (.ref h), some (.ref D), some (.ref P), some (.int (0 + n)), some (.int i), some (.int j), x8, x9] ∧ i < vs.length ∧ j < vs.length ∧ GrAt CS CM CP CH H' a h A B C D P vs ls qs ∧ Kp a H H', ?_, ?_⟩
        · have lD : ((vs.map fun v => V.ref v.d).length : Int) = (vs.length : Int) := by rw [List.length_map]
          refine ⟨.ref a, rfl, .ref D, rfl, D, _, rfl, .inl (.inl (.inl g4.pl)), ?_⟩
          rw [lD]
          refine ⟨a, vs.length, rfl, g4.fa, by omega, by omega, fun i H5 i0 i1 k5 F5 => ?_⟩
          have g5 := g4.feed k5 F5
          refine ⟨.ref a, rfl, .ref D, rfl, D, _, rfl, .inl (.inl (.inl g5.pl)), ?_⟩
          rw [lD]
          refine ⟨a, vs.length, rfl, F5, by omega, by omega, fun j H6 j0 j1 k6 F6 => ⟨.int i, .int j, rfl, i.toNat, j.toNat, ?_, by omega, by omega, g5.feed k6 F6, (k4.trans k5).trans k6⟩⟩
          rw [show ((i.toNat : Nat) : Int) = i by omega, show ((j.toNat : Nat) : Int) = j by omega]
          rfl
        rintro _ H5 ⟨i, j, rfl, li, lj, g5, k5⟩
        have lq := g5.len
        have evi : vs[i]? = some vs[i] := List.getElem?_eq_getElem li
        have evj : vs[j]? = some vs[j] := List.getElem?_eq_getElem lj
        -- their merge, as the law has it
        refine ⟨fun σ' H' => ∃ (c W : Addr) (b : Nat) (vb : Vr) (ys cs : List Str) (T : Tb) (zs : List Str), σ' = [some (.ref a), some (.ref d0), some (.ref h), some (.ref D), some (.ref P), some (.int (0 + n)), some (.int i), some (.int j), some (.ref c), some (.ref W)] ∧ vs[b]? = some vb ∧ Anc qs i b ∧ Anc qs j b ∧ (∀ m, Anc qs i m → Anc qs j m → m ≤ b) ∧ ys.Nodup ∧ (∀ z, z ∈ ys ↔ ∃ n, z ∈ (d3 vb.T vs[i].T vs[j].T n).map (·.1)) ∧ ys.length ≤ 6 ∧ MFold (d3 vb.T vs[i].T vs[j].T) ys cs T ∧ KtAt H' c T ∧ H' W = some (.lst (zs.map V.str)) ∧ zs.Perm cs ∧ Same H5 H', ?_, ?_⟩
        · refine ⟨.ref D, rfl, .ref P, rfl, .int i, rfl, .int j, rfl, P, i, j, qs, rfl, g5.pa, g5.par, by omega, by omega, by omega, fun b H6 a1 a2 mx s6 => ?_⟩
          have lb : b < vs.length := by have := a1.le g5.par; omega
          have evb : vs[b]? = some vs[b] := List.getElem?_eq_getElem lb
          have at_ : ∀ {m : Nat} (lm : m < vs.length), atI (vs.map fun v => V.ref v.d) ((m : Nat) : Int) = some (.ref vs[m].d) := fun {m} lm => atI_nat (by rw [List.getElem?_map, List.getElem?_eq_getElem lm]; rfl)
          have g6 := g5.same s6
          obtain ⟨_, kt3, tk3, _⟩ := g6.three (K := K) evb evi evj
          refine ⟨D, _, _, _, rfl, rfl, .inl (.inl g6.pl), at_ lb, .ref D, rfl, .int i, rfl, D, _, _, _, rfl, rfl, .inl (.inl g6.pl), at_ li, .ref D, rfl, .int j, rfl, D, _, _, _, rfl, rfl, .inl (.inl g6.pl), at_ lj, ?_⟩
          refine ⟨d3 vs[b].d vs[i].d vs[j].d, d3 vs[b].T vs[i].T vs[j].T, rfl, kt3, tk3, fun u c W ys cs T zs H7 nd mem ly mf eu kt eW pm srt _ s7 nc => ?_⟩
          exact ⟨u, _, rfl, .inl (.inl eu), rfl, .ref c, _, rfl, .ref W, _, rfl, rfl, c, W, b, vs[b], ys, cs, T, zs, rfl, evb, a1, a2, mx, nd, mem, ly, mf, kt, eW, pm, s6.trans s7⟩
        rintro _ H6 ⟨c, W, b, vb, ys, cs, T, zs, rfl, evb, a1, a2, mx, nd, mem, ly, mf, kt6, eW6, pm, s6⟩
        have g6 := g5.same s6
        have k6 := k5.trans (Kp.same s6)
        obtain ⟨_, _, tk3, tk3', tv3, tv3', like3⟩ := g6.three (K := K) evb evi evj
        have eBase := base_is g5.lns g5.par (by omega) (by omega) a1 a2 mx
        obtain ⟨csTok, csLen⟩ := mfoldTok mf nd tk3 mem
        have zsTok : ∀ z ∈ zs, TOk z := fun z hz => csTok z (pm.mem_iff.mp hz)
        have tkT := mfoldK mf nd tk3 mem
        have ep1 : ∀ {m : Nat} {u : Vr}, vs[m]? = some u → (vs.map (·.p))[m]? = some u.p := fun {m u} e => by rw [List.getElem?_map, e]; rfl
        generalize evi' : vs[i] = vi at *
        generalize evj' : vs[j] = vj at *
        refine ⟨.ref W, rfl, Nat.zero_le _, fun Ln hLn => ?_⟩
        have sL := KS.sameUpd (o := .lst []) hLn
        refine eqNil (n := zs.length) (sL _ _ eW6) upd_same (strsOd zsTok) ?_
        rw [decNil]
        have g7 := g6.same sL
        have kt7 := kt6.stl (Stl.same sL)
        have k7 := k6.trans (Kp.same sL)
        generalize upd H6 Ln (.lst []) = H7 at *
        refine ⟨_, rfl, ?_⟩
        by_cases cz : zs = []
        · rw [decide_eq_true cz]
          have ecs : cs = [] := by rw [cz] at pm; exact (List.Perm.nil_eq pm).symm
          refine iteT ⟨.ref a, rfl, a, 2, rfl, g7.fa, by decide, by decide, fun r2 H8 _ _ k8 F8 => ⟨rfl, _, rfl, ite2 (fun _ => ?_) (fun _ => ?_)⟩⟩
          · have g8 := g7.feed k8 F8
            have kt8 := kt7.stl (Stl.fd g7.fa k8)
            have k8' := k7.trans k8
            obtain ⟨dh, eh⟩ := g8.hs.ob
            refine ⟨fun σ' H' => ∃ x1 T', σ' = [some (.ref a), some (.ref d0), some (.ref h), some (.ref D), some (.ref P), some (.int (0 + n)), some (.int i), some (.int j), some (.ref c), some (.ref W)] ∧ K3 A B C H8 H' ∧ HsAt CH H' h A B C (vs.map (·.p) ++ [x1]) (ls ++ [lineOf (vs.map (·.p)).length ls [i, j]]) (qs ++ [[i, j]]) ∧ PjAt CS CM CP H' x1 T' ∧ TbK T' ∧ TbP T' T, ?_, ?_⟩
            · refine ⟨.ref h, rfl, h, dh, _, rfl, eh, rfl, .int i, rfl, .int j, rfl, ?_⟩
              obtain ⟨t3, _⟩ := g8.three (K := K) evb evi evj
              refine ⟨h, A, B, C, _, ls, qs, i, j, b, _, _, nmsL, rfl, g8.hs, by rw [List.length_map]; exact li, by rw [List.length_map]; exact lj, by rw [List.length_map]; omega, eBase, ep1 evb, ep1 evi, ep1 evj, t3, fun ys' cs' T' nd' mem' mf' => ?_⟩
              obtain ⟨b1, b2, b3, b4⟩ := bothMerge tv3' tv3 like3 tk3' tk3 nd' nd mem' mem mf' mf
              refine ⟨fun ec H9 x1 hs9 pj9 _ k39 => ?_, fun ec => absurd (by rw [ecs] at b1; exact List.Perm.eq_nil b1) ec⟩
              have eD9 := k39 _ _ g8.dA g8.dB g8.dC g8.pl
              refine ⟨.ref D, rfl, D, _, rfl, .inl (.inl (.inl eD9)), rfl, false, ?_, iteF ⟨x1, T', rfl, k39, hs9, pj9, b3, b2⟩⟩
              rw [List.length_map, List.length_map]
              simp
            rintro _ H9 ⟨x1, T', rfl, k39, hs9, pj9, tkT', lk⟩
            have eD9 := k39 _ _ g8.dA g8.dB g8.dC g8.pl
            have st9 := K3.stl g8.hs k39
            have kt9 := kt8.stl st9
            have pa9 : PaAt H9 P qs := PaAt.k3 g8.hs g8.pa k39 g8.pA g8.pB g8.pC
            refine ⟨fun σ' H' => σ' = [some (.ref a), some (.ref d0), some (.ref h), some (.ref D), some (.ref P), some (.int (0 + n)), some (.int i), some (.int j), some (.ref c), some (.ref W)] ∧ H' = upd H9 D (.lst ((vs.map fun v => V.ref v.d) ++ [.ref c])), ?_, ?_⟩
            · exact ⟨.ref D, rfl, .inl ⟨rfl, _, .inl (.inl eD9)⟩, .ref c, rfl, D, _, _, rfl, rfl, eD9, by rw [List.length_map, sizeLine_eq]; omega, rfl, rfl⟩
            rintro _ _ ⟨rfl, rfl⟩
            have kD : Kp D H9 (upd H9 D (.lst ((vs.map fun v => V.ref v.d) ++ [.ref c]))) := Kp.put
            have pa10 := pa9.kp kD ⟨_, eD9⟩ (Ne.symm g8.dp)
            have eD10 : upd H9 D (.lst ((vs.map fun v => V.ref v.d) ++ [.ref c])) D = some (.lst ((vs ++ [(⟨x1, c, T, T'⟩ : Vr)]).map fun v => V.ref v.d)) := by rw [upd_same, List.map_append]; rfl
            generalize upd H9 D (.lst ((vs.map fun v => V.ref v.d) ++ [.ref c])) = H10 at *
            obtain ⟨us, eP10, pq10⟩ := id pa10
            have lus : us.length = vs.length := by rw [pq10.length, lq]
            refine ⟨.ref P, rfl, .inl ⟨rfl, _, .inl (.inl eP10)⟩, .int i, rfl, .int j, rfl, (by show 2 ≤ sizeLine; decide), fun t ht => ?_⟩
            have zt := KS.sameUpd (o := .tup [.int i, .int j]) ht
            refine ⟨P, _, _, rfl, rfl, zt _ _ eP10, by rw [lus, sizeLine_eq]; omega, ?_⟩
            have hsF : HsAt CH H9 h A B C ((vs ++ [(⟨x1, c, T, T'⟩ : Vr)]).map (·.p)) (ls ++ [lineOf vs.length ls [i, j]]) (qs ++ [[i, j]]) := by
              rw [List.map_append]
              rw [List.length_map] at hs9
              exact hs9
            have gF := g8.more k39 hsF ⟨kt9, pj9, tkT, tkT', lk⟩ (ks := [i, j]) (fun p hp => by
              simp only [List.mem_cons, List.not_mem_nil, or_false] at hp
              rcases hp with rfl | rfl
              · exact li
              · exact lj) (by simp) (Nat.le_refl _) kD eD10 zt (show _ = some (HO.tup ([i, j].map fun k : Nat => V.int k)) from upd_same) (zt _ _ eP10) rfl
            refine ⟨_, _, _, _, _, _, _, _, rfl, gF, by rw [List.length_append, lv]; show 1 + n + 1 = _; omega, fun b o nb hb => ?_⟩
            rw [upd_ne (ne_of_none hb oP)]
            exact zt _ _ (kD _ _ (ne_of_none hb oD) (k39 _ _ (ne_of_none hb oA) (ne_of_none hb oB) (ne_of_none hb oC) (k8' _ _ nb hb)))
          · have g8 := g7.feed k8 F8
            have k8' := k7.trans k8
            refine ⟨fun σ' H' => ∃ d' T2 G5, σ' = [some (.ref a), some (.ref d0), some (.ref h), some (.ref D), some (.ref P), some (.int (0 + n)), some (.int i), some (.int j), some (.ref c), some (.ref W)] ∧ GrAt CS CM CP CH G5 a h A B C D P vs ls qs ∧ Kp a H G5 ∧ KtAt G5 d' T2 ∧ TbK T2 ∧ H' = upd G5 D (.lst ((vs.map fun v => V.ref v.d) ++ [.ref d'])), ?_, ?_⟩
            · have hvi := g8.ok _ (List.mem_of_getElem? evi)
              refine ⟨.ref D, rfl, .inl ⟨rfl, _, .inl (.inl g8.pl)⟩, .ref a, rfl, .ref D, rfl, .int i, rfl, D, _, _, .ref vi.d, rfl, rfl, .inl (.inl g8.pl), atI_nat (by rw [List.getElem?_map, evi]; rfl), ?_⟩
              refine ⟨a, vi.d, 4, vi.T, rfl, g8.fa, by decide, by decide, hvi.pl, hvi.k, fun d' T2 G5 kt tk2 _ k9 F9 => ?_⟩
              have g9 := g8.feed k9 F9
              exact ⟨D, _, _, rfl, rfl, g9.pl, by rw [List.length_map, sizeLine_eq]; omega, d', T2, G5, rfl, g9, k8'.trans k9, kt, tk2, rfl⟩
            rintro _ _ ⟨d', T2, G5, rfl, g9, k9, kt9, tk2, rfl⟩
            have kD : Kp D G5 (upd G5 D (.lst ((vs.map fun v => V.ref v.d) ++ [.ref d']))) := Kp.put
            have stD : Stl G5 (upd G5 D (.lst ((vs.map fun v => V.ref v.d) ++ [.ref d']))) := Stl.lst g9.pl kD
            have hs10 := g9.hs.kp kD ⟨_, g9.pl⟩ (Ne.symm g9.dA) (Ne.symm g9.dB) (Ne.symm g9.dC)
            have pa10 := g9.pa.kp kD ⟨_, g9.pl⟩ (Ne.symm g9.dp)
            have F10 : Fd (upd G5 D (.lst ((vs.map fun v => V.ref v.d) ++ [.ref d']))) a := fdOther g9.fa g9.aD
            have eD10 : upd G5 D (.lst ((vs.map fun v => V.ref v.d) ++ [.ref d'])) D = some (.lst ((vs.map fun v => V.ref v.d) ++ [.ref d'])) := upd_same
            generalize upd G5 D (.lst ((vs.map fun v => V.ref v.d) ++ [.ref d'])) = H10 at *
            obtain ⟨dh, eh⟩ := hs10.ob
            refine ⟨fun σ' H' => ∃ pp H11, σ' = [some (.ref a), some (.ref d0), some (.ref h), some (.ref D), some (.ref P), some (.int (0 + n)), some (.int i), some (.int j), some (.ref c), some (.ref W)] ∧ Same H10 H11 ∧ PjAt CS CM CP H' pp T2 ∧ HsAt CH H' h A B C (vs.map (·.p) ++ [pp]) (ls ++ [lineOf (vs.map (·.p)).length ls [i]]) (qs ++ [[i]]) ∧ K3 A B C H11 H', ?_, ?_⟩
            · refine ⟨.ref h, rfl, h, dh, _, rfl, eh, rfl, .int i, rfl, .ref D, rfl, 1, rfl, D, _, _, .ref d', rfl, rfl, .inl (.inl eD10), ?_, ?_⟩
              · exact atI_last _ _
              refine ⟨d', T2, rfl, kt9.stl stD, tk2.nd, by have := tk2.len; omega, fun pp H11 s11 pj => ?_⟩
              refine ⟨h, A, B, C, _, ls, qs, i, pp, rfl, hs10.same s11, by rw [List.length_map]; exact li, by rw [List.length_map]; omega, fun H12 hs12 k12 => ?_⟩
              have eD12 := k12 _ _ g9.dA g9.dB g9.dC (s11 _ _ eD10)
              refine ⟨.ref D, rfl, D, _, rfl, .inl (.inl (.inl eD12)), _, 1, rfl, rfl, rfl, false, ?_, iteF ⟨pp, H11, rfl, s11, pj.stl (K3.stl (hs10.same s11) k12), hs12, k12⟩⟩
              rw [List.length_append, List.length_map, List.length_map]
              have : V.int ((vs.length : Nat) : Int) = V.int (((vs.length + [V.ref d'].length : Nat) : Int) - 1) := by
                show V.int _ = V.int (((vs.length + 1 : Nat) : Int) - 1)
                congr 1
                omega
              rw [this]
              simp
            rintro _ H12 ⟨pp, H11, rfl, s11, pj12, hs12, k12⟩
            have st12 := (stD.trans (Stl.same s11)).trans (K3.stl (hs10.same s11) k12)
            have eD12 := k12 _ _ g9.dA g9.dB g9.dC (s11 _ _ eD10)
            have pa12 : PaAt H12 P qs := PaAt.k3 (hs10.same s11) (pa10.same s11) k12 g9.pA g9.pB g9.pC
            have F12 : Fd H12 a := by obtain ⟨u, v, e, g⟩ := F10; exact ⟨u, v, k12 _ _ (Ne.symm g9.aA) (Ne.symm g9.aB) (Ne.symm g9.aC) (s11 _ _ e), g⟩
            obtain ⟨us, eP12, pq12⟩ := id pa12
            have lus : us.length = vs.length := by rw [pq12.length, lq]
            refine ⟨.ref P, rfl, .inl ⟨rfl, _, .inl (.inl eP12)⟩, .int i, rfl, (by show 1 ≤ sizeLine; decide), fun t ht => ?_⟩
            have zt := KS.sameUpd (o := .tup [.int i]) ht
            have et : upd H12 t (.tup [.int i]) t = some (.tup [.int i]) := upd_same
            refine ⟨P, _, _, rfl, rfl, zt _ _ eP12, by rw [lus, sizeLine_eq]; omega, ?_⟩
            generalize upd H12 t (.tup [.int i]) = H13 at *
            have eP13 := zt _ _ eP12
            have kP : Kp P H13 (upd H13 P (.lst (us ++ [.ref t]))) := Kp.put
            have stP : Stl H13 (upd H13 P (.lst (us ++ [.ref t]))) := Stl.lst eP13 kP
            have stAll := (st12.trans (Stl.same zt)).trans stP
            have hsF : HsAt CH H12 h A B C ((vs ++ [(⟨pp, d', T2, T2⟩ : Vr)]).map (·.p)) (ls ++ [lineOf vs.length ls [i]]) (qs ++ [[i]]) := by
              rw [List.map_append]
              rw [List.length_map] at hs12
              exact hs12
            have gF := g9.next (v := ⟨pp, d', T2, T2⟩) (ks := [i]) stAll ((hsF.same zt).kp kP ⟨_, eP13⟩ (Ne.symm g9.pA) (Ne.symm g9.pB) (Ne.symm g9.pC)) (by rw [List.map_append]; exact kP _ _ g9.dp (zt _ _ eD12))
              ⟨us ++ [.ref t], upd_same, Paired.snoc (L2.Paired.mapP pq12 fun _ _ h => (h.stl (Stl.same zt)).stl stP) ⟨t, rfl, stP _ _ et fun _ z => nomatch z⟩⟩ ⟨kt9.stl stAll, (pj12.stl (Stl.same zt)).stl stP, tk2, tk2, TbP.refl _⟩ (fun p hp => by rw [List.mem_singleton.mp hp]; exact li) (by simp) (by show 1 ≤ 2; decide) (fdOther (F12.same zt) g9.aP)
            refine ⟨_, _, _, _, _, _, _, _, rfl, gF, by rw [List.length_append, lv]; show 1 + n + 1 = _; omega, fun b o nb hb => ?_⟩
            rw [upd_ne (ne_of_none hb oP)]
            exact zt _ _ (k12 _ _ (ne_of_none hb oA) (ne_of_none hb oB) (ne_of_none hb oC) (s11 _ _ (kD _ _ (ne_of_none hb oD) (k9 _ _ nb hb))))
        · rw [decide_eq_false cz]
          refine iteF ?_
          have g8 := g7
          have k8' := k7
          refine ⟨fun σ' H' => ∃ d' T2 G5, σ' = [some (.ref a), some (.ref d0), some (.ref h), some (.ref D), some (.ref P), some (.int (0 + n)), some (.int i), some (.int j), some (.ref c), some (.ref W)] ∧ GrAt CS CM CP CH G5 a h A B C D P vs ls qs ∧ Kp a H G5 ∧ KtAt G5 d' T2 ∧ TbK T2 ∧ H' = upd G5 D (.lst ((vs.map fun v => V.ref v.d) ++ [.ref d'])), ?_, ?_⟩
          · have hvi := g8.ok _ (List.mem_of_getElem? evi)
            refine ⟨.ref D, rfl, .inl ⟨rfl, _, .inl (.inl g8.pl)⟩, .ref a, rfl, .ref D, rfl, .int i, rfl, D, _, _, .ref vi.d, rfl, rfl, .inl (.inl g8.pl), atI_nat (by rw [List.getElem?_map, evi]; rfl), ?_⟩
            refine ⟨a, vi.d, 4, vi.T, rfl, g8.fa, by decide, by decide, hvi.pl, hvi.k, fun d' T2 G5 kt tk2 _ k9 F9 => ?_⟩
            have g9 := g8.feed k9 F9
            exact ⟨D, _, _, rfl, rfl, g9.pl, by rw [List.length_map, sizeLine_eq]; omega, d', T2, G5, rfl, g9, k8'.trans k9, kt, tk2, rfl⟩
          rintro _ _ ⟨d', T2, G5, rfl, g9, k9, kt9, tk2, rfl⟩
          have kD : Kp D G5 (upd G5 D (.lst ((vs.map fun v => V.ref v.d) ++ [.ref d']))) := Kp.put
          have stD : Stl G5 (upd G5 D (.lst ((vs.map fun v => V.ref v.d) ++ [.ref d']))) := Stl.lst g9.pl kD
          have hs10 := g9.hs.kp kD ⟨_, g9.pl⟩ (Ne.symm g9.dA) (Ne.symm g9.dB) (Ne.symm g9.dC)
          have pa10 := g9.pa.kp kD ⟨_, g9.pl⟩ (Ne.symm g9.dp)
          have F10 : Fd (upd G5 D (.lst ((vs.map fun v => V.ref v.d) ++ [.ref d']))) a := fdOther g9.fa g9.aD
          have eD10 : upd G5 D (.lst ((vs.map fun v => V.ref v.d) ++ [.ref d'])) D = some (.lst ((vs.map fun v => V.ref v.d) ++ [.ref d'])) := upd_same
          generalize upd G5 D (.lst ((vs.map fun v => V.ref v.d) ++ [.ref d'])) = H10 at *
          obtain ⟨dh, eh⟩ := hs10.ob
          refine ⟨fun σ' H' => ∃ pp H11, σ' = [some (.ref a), some (.ref d0), some (.ref h), some (.ref D), some (.ref P), some (.int (0 + n)), some (.int i), some (.int j), some (.ref c), some (.ref W)] ∧ Same H10 H11 ∧ PjAt CS CM CP H' pp T2 ∧ HsAt CH H' h A B C (vs.map (·.p) ++ [pp]) (ls ++ [lineOf (vs.map (·.p)).length ls [i]]) (qs ++ [[i]]) ∧ K3 A B C H11 H', ?_, ?_⟩
          · refine ⟨.ref h, rfl, h, dh, _, rfl, eh, rfl, .int i, rfl, .ref D, rfl, 1, rfl, D, _, _, .ref d', rfl, rfl, .inl (.inl eD10), ?_, ?_⟩
            · exact atI_last _ _
            refine ⟨d', T2, rfl, kt9.stl stD, tk2.nd, by have := tk2.len; omega, fun pp H11 s11 pj => ?_⟩
            refine ⟨h, A, B, C, _, ls, qs, i, pp, rfl, hs10.same s11, by rw [List.length_map]; exact li, by rw [List.length_map]; omega, fun H12 hs12 k12 => ?_⟩
            have eD12 := k12 _ _ g9.dA g9.dB g9.dC (s11 _ _ eD10)
            refine ⟨.ref D, rfl, D, _, rfl, .inl (.inl (.inl eD12)), _, 1, rfl, rfl, rfl, false, ?_, iteF ⟨pp, H11, rfl, s11, pj.stl (K3.stl (hs10.same s11) k12), hs12, k12⟩⟩
            rw [List.length_append, List.length_map, List.length_map]
            have : V.int ((vs.length : Nat) : Int) = V.int (((vs.length + [V.ref d'].length : Nat) : Int) - 1) := by
              show V.int _ = V.int (((vs.length + 1 : Nat) : Int) - 1)
              congr 1
              omega
            rw [this]
            simp
          rintro _ H12 ⟨pp, H11, rfl, s11, pj12, hs12, k12⟩
          have st12 := (stD.trans (Stl.same s11)).trans (K3.stl (hs10.same s11) k12)
          have eD12 := k12 _ _ g9.dA g9.dB g9.dC (s11 _ _ eD10)
          have pa12 : PaAt H12 P qs := PaAt.k3 (hs10.same s11) (pa10.same s11) k12 g9.pA g9.pB g9.pC
          have F12 : Fd H12 a := by obtain ⟨u, v, e, g⟩ := F10; exact ⟨u, v, k12 _ _ (Ne.symm g9.aA) (Ne.symm g9.aB) (Ne.symm g9.aC) (s11 _ _ e), g⟩
          obtain ⟨us, eP12, pq12⟩ := id pa12
          have lus : us.length = vs.length := by rw [pq12.length, lq]
          refine ⟨.ref P, rfl, .inl ⟨rfl, _, .inl (.inl eP12)⟩, .int i, rfl, (by show 1 ≤ sizeLine; decide), fun t ht => ?_⟩
          have zt := KS.sameUpd (o := .tup [.int i]) ht
          have et : upd H12 t (.tup [.int i]) t = some (.tup [.int i]) := upd_same
          refine ⟨P, _, _, rfl, rfl, zt _ _ eP12, by rw [lus, sizeLine_eq]; omega, ?_⟩
          generalize upd H12 t (.tup [.int i]) = H13 at *
          have eP13 := zt _ _ eP12
          have kP : Kp P H13 (upd H13 P (.lst (us ++ [.ref t]))) := Kp.put
          have stP : Stl H13 (upd H13 P (.lst (us ++ [.ref t]))) := Stl.lst eP13 kP
          have stAll := (st12.trans (Stl.same zt)).trans stP
          have hsF : HsAt CH H12 h A B C ((vs ++ [(⟨pp, d', T2, T2⟩ : Vr)]).map (·.p)) (ls ++ [lineOf vs.length ls [i]]) (qs ++ [[i]]) := by
            rw [List.map_append]
            rw [List.length_map] at hs12
            exact hs12
          have gF := g9.next (v := ⟨pp, d', T2, T2⟩) (ks := [i]) stAll ((hsF.same zt).kp kP ⟨_, eP13⟩ (Ne.symm g9.pA) (Ne.symm g9.pB) (Ne.symm g9.pC)) (by rw [List.map_append]; exact kP _ _ g9.dp (zt _ _ eD12))
            ⟨us ++ [.ref t], upd_same, Paired.snoc (L2.Paired.mapP pq12 fun _ _ h => (h.stl (Stl.same zt)).stl stP) ⟨t, rfl, stP _ _ et fun _ z => nomatch z⟩⟩ ⟨kt9.stl stAll, (pj12.stl (Stl.same zt)).stl stP, tk2, tk2, TbP.refl _⟩ (fun p hp => by rw [List.mem_singleton.mp hp]; exact li) (by simp) (by show 1 ≤ 2; decide) (fdOther (F12.same zt) g9.aP)
          refine ⟨_, _, _, _, _, _, _, _, rfl, gF, by rw [List.length_append, lv]; show 1 + n + 1 = _; omega, fun b o nb hb => ?_⟩
          rw [upd_ne (ne_of_none hb oP)]
          exact zt _ _ (k12 _ _ (ne_of_none hb oA) (ne_of_none hb oB) (ne_of_none hb oC) (s11 _ _ (kD _ _ (ne_of_none hb oD) (k9 _ _ nb hb))))
      · obtain ⟨x5, x6, x7, x8, x9, vs, ls, qs, rfl, g4, lv, k4⟩ := hh
        exact ⟨x5, x6, x7, x8, x9, vs, ls, qs, rfl, g4, by omega, by omega, k4⟩
    rintro _ H3 ⟨x5, x6, x7, x8, x9, vs, ls, qs, rfl, g3, l9, l0, k3⟩
    refine ⟨.ref h, rfl, .ref D, rfl, .ref P, rfl, (by show 3 ≤ sizeLine; decide), fun U hU => ?_⟩
    have zU := KS.sameUpd (o := .tup [.ref h, .ref D, .ref P]) hU
    exact q U h A B C D P vs ls qs _ (g3.same zU) l9 l0 upd_same (k3.trans (Kp.same zU)) oA oB oC oD oP
end
end PJ

set_option Elab.async false
set_option linter.all false
set_option maxRecDepth 100000
set_option maxHeartbeats 8000000
/-! isinstance of the caught error -/
namespace PJ
open PySem PySem.Spec PyProof.Rows L2 KX
/-- isinstance(e, c), e the error that the suite holds, with its dict -/
def rIsD (K : PySem.W.Frag) (a : Addr) (cls : Value) (d : Option Addr) : List V → Hp → VK → Prop := fun xs H Q => ∃ (D : Addr) (c : V) (cv : Value) (b : Bool) (dd : Addr) (fs : List (Str × V)), xs = [.ref a, c] ∧ cls = .ref D ∧ d = some dd ∧ H dd = some (.xd fs) ∧ XC K D ∧ ClsV c cv ∧ PySem.W.kitOne K (.ref D) cv = some b ∧ Q (.bl b) H
theorem callIsD {X : Cx} {a : Addr} {oe : Obj} {pn : List (Addr × Obj)} {cls : Value} {d : Option Addr} (hz : Zc cls d oe) (hf : ∃ vs, oe.data = .fields vs) : CallR (X.suite a ((a, oe) :: pn)) (.builtin "isinstance") (rIsD X.K a cls d) := by
  intro pins s σ H xs us Q I r h
  obtain ⟨D, c, cv, b, dd, fs, rfl, rfl, rfl, hdd, T, hc, ans, q⟩ := h
  obtain ⟨u1, u2, rfl, r1, r2⟩ := vals2 r
  have e2 := hc.eq r2
  subst e2
  cases (show u1 = Value.ref a from r1)
  obtain ⟨hget, _⟩ := I.pin (a, oe) (List.mem_append.mpr (.inl List.mem_cons_self))
  obtain ⟨vs, hv⟩ := hf
  have hx : ObjOk X.prog X.w H s.heap dd (.xd fs) := I.hok dd _ hdd
  obtain ⟨mA, hns, hr⟩ := hx
  obtain ⟨od, ho, hl⟩ := lookIn_ns hns
  have J : PySem.W.InstAt s.heap a oe D (some od) := ⟨hget, hz.1, by unfold PySem.W.notCls; rw [hv] <;> rfl, by rw [hz.2]; exact ho⟩
  have hcl : (PySem.W.clsIn X.K D).isSome = true := by
    obtain ⟨cd, hcd, _⟩ := PySem.W.any_some T.hd
    rw [hcd]
    rfl
  exact PySem.W.kia_one (PySem.W.kitx_exc hcl T.ga T.gg T.ex T.cl T.gt T.st T.ob) I.kIn J ans (fun z => nomatch z) fun tk => ⟨.bl b, H, I.tok tk, rfl, q⟩
end PJ

set_option Elab.async false
set_option linter.all false
set_option maxRecDepth 100000
set_option maxHeartbeats 16000000
/-! the law's looks at a history -/
namespace PJ
open PySem PySem.Spec PyProof.Rows L2 KS KS.La
open KX hiding sameUpd
abbrev lTold : Stmt := top 40
abbrev lTrk : Stmt := top 41
abbrev lLost : Stmt := top 43
def natD (l : List Nat) : PyData := .tuple (l.map fun k : Nat => .int k)
theorem natDpA {K : PySem.W.Frag} {H : Hp} (l : List Nat) : DpAll K H (natVs l) (l.map fun k : Nat => .int k) := by
  induction l with
  | nil => exact .nil
  | cons a l ih => exact .cons (.int _) ih
theorem natDp {K : PySem.W.Frag} {H : Hp} {t : Addr} {l : List Nat} (h : H t = some (.tup (natVs l))) : Dp K H (.ref t) (natD l) := .tup (.inl (.inl h)) (natDpA l)
theorem natSh {l : List Nat} (h : l.length ≤ 100) : SeqAt.shaped (natD l) = true := by
  refine (Od.tup (n := 0) (by rw [List.length_map]; omega) fun d hd => ?_).shaped (by decide)
  obtain ⟨k, _, rfl⟩ := List.mem_map.mp hd
  exact .int _ _
theorem natNil (l : List Nat) : PyData.eqv (natD l) (.tuple []) = decide (l = []) := by
  cases l with
  | nil => rfl
  | cons a l => rfl
section
variable {P : Program} {w : World} {K : PySem.W.Frag} {mg : Str → Option Value} {base : Heap} {f : Addr} {fd : FuncData} {CS CM CP CG CH CF BE NT NS NV : Addr}
/-! ### the law's trunk -/
def spLTrk : Sp := fun vs H Q _ => ∃ pa n qs, vs = [.ref pa, .int ((n : Nat) : Int)] ∧ PaAt H pa qs ∧ ParOk qs ∧ n < qs.length ∧ qs.length ≤ 30 ∧ ∀ t H', Same H H' → H' t = some (.tup (natVs (trunk qs n).reverse)) → Q (.ref t) H'
theorem scTrk : FnScope ["_law_parents", "_law_number", "_law_found"] ["_law_parents", "_law_number"] (defScope lTrk) := ⟨rfl, rfl, rfl, by decide +kernel, rfl, by decide +kernel, by decide +kernel⟩
theorem okLTrk {k : Nat} (B : Bn mg) (F : FnP K "_law_trunk" lTrk f fd) : FnOk P w K mg base CX0 (k + 1) f fd ["_law_parents", "_law_number"] spLTrk := by
  refine F.ok scTrk (fun vs H Q E h => ?_) (fun cdv A outer s H vs Q E hr h => ?_)
  · obtain ⟨pa, n, qs, rfl, _⟩ := h
    rfl
  · obtain ⟨pa, n, qs, rfl, hp, ok, ln, l30, q⟩ := h
    refine ⟨_, PSs.nox (C8.pss_cut (ps_set (i := 2) scTrk.nd rfl (.inl rfl) (pe_lst (pa_cons (pv 1) pa_nil))) (C8.pss_cut (ps_while PassesOwn.never (pt_cmpR (r := rNeD K) (op_neD hr.units) (pe_ix ix_list (pv 0) (pe_ix ix_list (pv 2) pe_int (fun _ _ => rfl)) (fun _ _ => rfl)) (pe_tup pa_nil) (nomark _))
        (pss_one (ps_set (i := 2) scTrk.nd rfl (.inl rfl) (pe_op op_cat (pe_lst (pa_cons (pe_ix ix_tup (pe_ix ix_list (pv 0) (pe_ix ix_list (pv 2) pe_int (fun _ _ => rfl)) (fun _ _ => rfl)) pe_int (fun _ _ => rfl)) pa_nil)) (pv 2))))) (pss_one (ps_ret (pe_callTy (T := "tuple") call_tuple_of (by rfl) B.tuple (by decide +kernel) (pa_cons (pv 2) pa_nil)))))), ?_⟩
    refine ⟨fun σ' H' => ∃ l, σ' = [some (.ref pa), some (.int n), some (.ref l)] ∧ H' l = some (.lst (natVs [n])) ∧ Same H H', ?_, ?_⟩
    · exact ⟨.int n, rfl, (by show 1 ≤ sizeLine; decide), fun l hl => ⟨l, rfl, upd_same, KS.sameUpd hl⟩⟩
    rintro _ H2 ⟨l, rfl, el, s2⟩
    refine ⟨fun σ' H' => ∃ l, σ' = [some (.ref pa), some (.int n), some (.ref l)] ∧ H' l = some (.lst (natVs (trunk qs n).reverse)) ∧ Same H H', ?_, ?_⟩
    · refine ⟨fun m σ' H' => ∃ l rest, σ' = [some (.ref pa), some (.int n), some (.ref l)] ∧ H' l = some (.lst (natVs (m :: rest))) ∧ Same H H' ∧ m < qs.length ∧ (trunk qs n).reverse = (trunk qs m).reverse ++ rest, ⟨n, l, [], rfl, el, s2, ln, by rw [List.append_nil]⟩, fun m σ' H' hW => ?_⟩
      obtain ⟨l, rest, rfl, e3, s3, lm, et⟩ := hW
      obtain ⟨us, eB, pq⟩ := hp.same s3
      have eqm : qs[m]? = some qs[m] := List.getElem?_eq_getElem lm
      obtain ⟨t, et2, ht⟩ := parAt pq eqm
      have egd : qs.getD m [] = qs[m] := by rw [List.getD_eq_getElem?_getD, eqm]; rfl
      have few := ok.few _ (List.getElem_mem lm)
      have lr : rest.length ≤ 31 := by
        have h1 := trunk_len ok n
        have h2 := congrArg List.length et
        rw [List.length_append, List.length_reverse, List.length_reverse] at h2
        omega
      refine ⟨.ref pa, rfl, .ref l, rfl, l, _, 0, .int m, rfl, rfl, .inl (.inl e3), atI_nat (j := 0) rfl, pa, us, m, .ref t, rfl, rfl, .inl (.inl eB), atI_nat et2, Nat.zero_le _, fun u hu => ?_⟩
      have su := KS.sameUpd (o := .tup []) hu
      refine ⟨natD qs[m], .tuple [], natDp (su _ _ ht), .tup (.inl (.inl upd_same)) .nil, natSh (by omega), by decide +kernel, _, rfl, ?_⟩
      rw [natNil]
      have s4 := s3.trans su
      generalize upd H' u (.tup []) = H4 at *
      cases eks : qs[m] with
      | nil =>
        refine iteF ⟨l, rfl, ?_, s4⟩
        rw [et, trunk_nil (by rw [egd, eks])]
        exact su _ _ e3
      | cons p ks =>
        have tc := trunk_cons ok (n := m) (p := p) (ps := ks) (by rw [egd, eks])
        have lt : p < m := ok.lt m _ eqm p (by rw [eks]; exact List.mem_cons_self)
        have ht4 : H4 t = some (.tup (V.int p :: ks.map fun k : Nat => V.int k)) := by rw [su _ _ ht, eks]; rfl
        refine iteT ⟨fun σ2 H2 => ∃ l2, σ2 = [some (.ref pa), some (.int n), some (.ref l2)] ∧ H2 l2 = some (.lst (natVs (p :: m :: rest))) ∧ Same H4 H2, fun σ2 H2 hN => ?_, ?_⟩
        · obtain ⟨l2, rfl, e5, s5⟩ := hN
          refine ⟨p, lt, l2, m :: rest, rfl, e5, s4.trans s5, by omega, ?_⟩
          rw [et, tc, List.reverse_cons, List.append_assoc]
          rfl
        · refine ⟨.ref pa, rfl, .ref l, rfl, l, _, 0, .int m, rfl, rfl, .inl (.inl (su _ _ e3)), atI_nat (j := 0) rfl, pa, us, m, .ref t, rfl, rfl, .inl (.inl (su _ _ eB)), atI_nat et2, t, _, 0, .int p, rfl, rfl, .inl (.inl ht4), atI_nat (j := 0) rfl, (by show 1 ≤ sizeLine; decide), fun l1 hl1 => ?_⟩
          have z1 := KS.sameUpd (o := .lst [.int p]) hl1
          refine ⟨.ref l, rfl, l1, l, _, _, rfl, rfl, upd_same, z1 _ _ (su _ _ e3), ?_, fun l2 hl2 => ?_⟩
          · unfold natVs
            rw [List.length_map, sizeLine_eq]
            show 1 + (rest.length + 1) ≤ _
            omega
          · exact ⟨l2, rfl, upd_same, z1.trans (KS.sameUpd hl2)⟩
    rintro _ H3 ⟨l, rfl, e3, s3⟩
    refine ⟨.ref l, rfl, l, _, rfl, .inl ⟨.inl (.inl e3), fun t ht => ?_⟩⟩
    exact q t _ (s3.trans (KS.sameUpd ht)) upd_same
/-! ### what is told of numbers of no version -/
structure NvC (P : Program) (w : World) (K : PySem.W.Frag) (mg : Str → Option Value) (base : Heap) (CH NV BE : Addr) : Prop where
  xV : Cl1 P w K mg base "NoVersion" NV "number"
  eVV : PySem.W.exmOne K (.ref NV) (.ref NV) = some true
  gBE : mg "BuildError" = some (.ref BE)
  kBE : PySem.W.kitOne K (.ref NV) (.ref BE) = some false
  gIE : mg "IndexError" = none
  kIE : PySem.W.kitOne K (.ref NV) (.type "IndexError") = some true
  par : ∃ (f : Addr) (fd : FuncData), Meth K CH "parents" f ∧ Binds K fd ["self", "number"] [] ∧ FnOk P w K mg base (L2.CX P w) 5 f fd ["self", "number"] (spHPar2 CH NV)
  trk : ∃ (f : Addr) (fd : FuncData), Meth K CH "trunk" f ∧ Binds K fd ["self", "number"] [] ∧ FnOk P w K mg base (L2.CX P w) 5 f fd ["self", "number"] (spHTrunk CH NV)
  com : ∃ (f : Addr) (fd : FuncData), Meth K CH "commit" f ∧ Binds K fd ["self", "parent", "project"] [] ∧ FnOk P w K mg base (L2.CX P w) 5 f fd ["self", "parent", "project"] (spHCommit2 CH NV)
  bas : ∃ (f : Addr) (fd : FuncData), Meth K CH "base" f ∧ Binds K fd ["self", "one", "other"] [] ∧ FnOk P w K mg base (L2.CX P w) 5 f fd ["self", "one", "other"] (spHBase2 CH NV)
  mer : ∃ (f : Addr) (fd : FuncData), Meth K CH "merge" f ∧ Binds K fd ["self", "one", "other"] [] ∧ FnOk P w K mg base (L2.CX P w) 8 f fd ["self", "one", "other"] (spHBase2 CH NV)
  get : ∃ (f : Addr) (fd : FuncData), PySem.W.findIn K (.ref CH) "__getitem__" = some (some (.ref f)) ∧ PySem.W.fnIn K f = true ∧ PySem.W.isFn K (.ref f) = true ∧ Binds K fd ["self", "at"] [] ∧ FnOk P w K mg base (L2.CX P w) 4 f fd ["self", "at"] (spHGet2 CH NV)
def badOf (n : Nat) (fm : Int) (ns : List Int) (bad : Int) : Prop := ((fm = 0 ∨ fm = 1 ∨ fm = 2) ∧ ∃ i, ns = [i] ∧ inB i n = false ∧ bad = i) ∨ ((fm = 3 ∨ fm = 4) ∧ ∃ i j, ns = [i, j] ∧ ((inB i n = false ∧ bad = i) ∨ (inB i n = true ∧ inB j n = false ∧ bad = j)))
def spTold (CH : Addr) : Sp := fun vs H Q _ => ∃ h A B C ps ls qs fm na ns bad, vs = [.ref h, .int fm, .ref na] ∧ HsAt CH H h A B C ps ls qs ∧ H na = some (.lst (ns.map V.int)) ∧ badOf ps.length fm ns bad ∧
  ∀ u H', Same H H' → H' u = some (.tup [.str "no version", .int bad, .bl true]) → Q (.ref u) H'
abbrev nTold : List Str := ["_law_history", "_law_form", "_law_numbers", "_law_found", "e"]
theorem scTold : FnScope nTold ["_law_history", "_law_form", "_law_numbers"] (defScope lTold) := ⟨rfl, rfl, rfl, by decide +kernel, rfl, by decide +kernel, by decide +kernel⟩
theorem okTold {k : Nat} (B : Bn mg) (W : Pjc P w K mg base CS CM CP NT NS) (L : HisC P w K mg base CS CM CP CH CF) (N : NvC P w K mg base CH NV BE) (F : FnP K "_law_told" lTold f fd) : FnOk P w K mg base CX0 (k + 9) f fd ["_law_history", "_law_form", "_law_numbers"] (spTold CH) := by
  obtain ⟨fP, dP, hP, bP, GP⟩ := N.par
  obtain ⟨fT, dT, hT, bT, GT⟩ := N.trk
  obtain ⟨fC, dC, hC, bC, GC⟩ := N.com
  obtain ⟨fB, dB, hB, bB, GB⟩ := N.bas
  obtain ⟨fM, dM, hM, bM, GM⟩ := N.mer
  obtain ⟨fK, dK, MK, bK, GK⟩ := W.mkP
  have xfV : XfC K NV := ⟨N.xV.xc.ga, N.xV.xc.gg, N.xV.xc.ex, N.xV.xc.hd⟩
  refine F.ok scTold (fun vs H Q E h => ?_) (fun cdv A outer s H vs Q E hr h => ?_)
  · obtain ⟨h, A, B, C, ps, ls, qs, fm, na, ns, bad, rfl, _⟩ := h
    rfl
  · obtain ⟨h, A1, B1, C, ps, ls, qs, fm, na, ns, bad, rfl, x, en, hb, q⟩ := h
    have r5 : Room 5 _ := hr.mono (by omega)
    have r8 : Room 8 _ := hr.mono (by omega)
    have r11 : Room (1 + 1) _ := hr.mono (by omega)
    refine ⟨_, PSs.nox (C8.pss_cut (ps_set (i := 3) scTold.nd rfl (.inl rfl) (pe_tup (pa_cons (pe_str) pa_nil))) (C8.pss_cut (psTryMix rfl rfl takes0
        (fun W' pn xe tk _ => (pss_one (ps_if (pt_cmpR (r := rEq) op_eq (pv 1) pe_int (nomark _)) (pss_one (ps_set (i := 3) scTold.nd rfl (.inl rfl) (pe_tup (pa_cons (pe_str) (pa_cons (OD.pe_methT (pv 0) L.iH.cl hP GP r5 bP (fun σ => passAt tk σ) (pa_cons (pe_ix (r := rIxL K) ix_list (pv 2) pe_int (fun _ _ => rfl)) pa_nil)) pa_nil))))) (pss_one (ps_if (pt_cmpR (r := rEq) op_eq (pv 1) pe_int (nomark _)) (pss_one (ps_set (i := 3) scTold.nd rfl (.inl rfl) (pe_tup (pa_cons (pe_str) (pa_cons (OD.pe_methT (pv 0) L.iH.cl hT GT r5 bT (fun σ => passAt tk σ) (pa_cons (pe_ix (r := rIxL K) ix_list (pv 2) pe_int (fun _ _ => rfl)) pa_nil)) pa_nil))))) (pss_one (ps_if (pt_cmpR (r := rEq) op_eq (pv 1) pe_int (nomark _)) (pss_one (ps_set (i := 3) scTold.nd rfl (.inl rfl) (pe_tup (pa_cons (pe_str) (pa_cons (OD.pe_methT (pv 0) L.iH.cl hC GC r5 bC (fun σ => passAt tk σ) (pa_cons (pe_ix (r := rIxL K) ix_list (pv 2) pe_int (fun _ _ => rfl)) (pa_cons (pe_make MK GK r11 (by rfl) W.gP bK .nil pass0 (pa_cons (pe_dnewK) pa_nil)) pa_nil))) pa_nil)))))
            (pss_one (ps_if (pt_cmpR (r := rEq) op_eq (pv 1) pe_int (nomark _)) (pss_one (ps_set (i := 3) scTold.nd rfl (.inl rfl) (pe_tup (pa_cons (pe_str) (pa_cons (OD.pe_methT (pv 0) L.iH.cl hB GB r5 bB (fun σ => passAt tk σ) (pa_cons (pe_ix (r := rIxL K) ix_list (pv 2) pe_int (fun _ _ => rfl)) (pa_cons (pe_ix (r := rIxL K) ix_list (pv 2) pe_int (fun _ _ => rfl)) pa_nil))) pa_nil))))) (pss_one (ps_set (i := 3) scTold.nd rfl (.inl rfl) (pe_tup (pa_cons (pe_str) (pa_cons (OD.pe_methT (pv 0) L.iH.cl hM GM r8 bM (fun σ => passAt tk σ) (pa_cons (pe_ix (r := rIxL K) ix_list (pv 2) pe_int (fun _ _ => rfl)) (pa_cons (pe_ix (r := rIxL K) ix_list (pv 2) pe_int (fun _ _ => rfl)) pa_nil))) pa_nil))))))))))))))
        (.named (i := 4) ⟨rfl, by decide, .inl N.xV.gm⟩ scTold.nd rfl rfl (fun a oe cls d pn hz hf => (pss_one (ps_set (i := 3) scTold.nd rfl (.inl rfl) (pe_tup (pa_cons (pe_str) (pa_cons (pe_xf xfV N.xV.no hz hf (pv 4)) (pa_cons (pe_and (pe_callB (callIsD hz hf) (by rfl) B.isi (by decide +kernel) (pa_cons (pv 4) (pa_cons (pe_bltn (v := .ty "IndexError") (by rfl) N.gIE (by decide +kernel) rfl) pa_nil))) (pe_one (pe_not (pe_callB (callIsD hz hf) (by rfl) B.isi (by decide +kernel) (pa_cons (pv 4) (pa_cons (pe_glob (v := .ref BE) (by rfl) N.gBE rfl) pa_nil)))))) pa_nil))))))) .nil)) (pss_one (ps_ret (pv 3))))), ?_⟩
    refine ⟨fun σ' H' => ∃ u, σ' = [some (.ref h), some (.int fm), some (.ref na), some (.ref u), none] ∧ Same H H', ?_, ?_⟩
    · exact ⟨(by show 1 ≤ sizeLine; decide), fun u hu => ⟨u, rfl, KS.sameUpd hu⟩⟩
    rintro _ H1 ⟨u0, rfl, s1⟩
    have x1 := x.same s1
    obtain ⟨dh, eh⟩ := x1.ob
    have en1 := s1 _ _ en
    refine ⟨fun σ' H' => ∃ u x4, σ' = [some (.ref h), some (.int fm), some (.ref na), some (.ref u), x4] ∧ Same H1 H' ∧ H' u = some (.tup [.str "no version", .int bad, .bl true]), ?_, ?_⟩
    · have dec : ∀ {i j : Int}, decide (V.int i = V.int j) = decide (i = j) := fun {i j} => decide_eq_decide.mpr ⟨fun h => by injection h, fun h => by rw [h]⟩
      rcases hb with ⟨hf, i, rfl, e, rfl⟩ | ⟨hf, i, j, rfl, c⟩
      · have en1' : H1 na = some (.lst [.int bad]) := en1
        rcases hf with rfl | rfl | rfl
        · refine ⟨.int 0, rfl, rfl, true, by decide, iteT ⟨.ref h, rfl, h, dh, _, rfl, eh, rfl, .ref na, rfl, na, _, 0, .int bad, rfl, rfl, .inl (.inl en1'), rfl, h, A1, B1, C, ps, ls, qs, bad, rfl, x1, e, fun dd H2 s2 hd => ?_⟩⟩
          refine ⟨true, N.eVV, fun _ a0 na0 => ?_, fun z => Bool.noConfusion z⟩
          refine ⟨.ref a0, rfl, rfl, rfl, dd, _, .int bad, rfl, hd, rfl, .ref a0, rfl, NV, .ty "IndexError", .type "IndexError", true, dd, _, rfl, rfl, rfl, hd, N.xV.xc, .ty _, N.kIE, true, rfl, iteT ⟨.ref a0, rfl, NV, .ref BE, .ref BE, false, dd, _, rfl, rfl, rfl, hd, N.xV.xc, .own BE, N.kBE, false, rfl, (by show 3 ≤ sizeLine; decide), fun u hu => ?_⟩⟩
          exact ⟨u, _, rfl, s2.trans (KS.sameUpd hu), upd_same⟩
        · refine ⟨.int 1, rfl, rfl, false, by decide, iteF ⟨.int 1, rfl, rfl, true, by decide, iteT ⟨.ref h, rfl, h, dh, _, rfl, eh, rfl, .ref na, rfl, na, _, 0, .int bad, rfl, rfl, .inl (.inl en1'), rfl, h, A1, B1, C, ps, ls, qs, .inr ⟨bad, rfl, x1, e, fun dd H2 s2 hd => ?_⟩⟩⟩⟩
          refine ⟨true, N.eVV, fun _ a0 na0 => ?_, fun z => Bool.noConfusion z⟩
          refine ⟨.ref a0, rfl, rfl, rfl, dd, _, .int bad, rfl, hd, rfl, .ref a0, rfl, NV, .ty "IndexError", .type "IndexError", true, dd, _, rfl, rfl, rfl, hd, N.xV.xc, .ty _, N.kIE, true, rfl, iteT ⟨.ref a0, rfl, NV, .ref BE, .ref BE, false, dd, _, rfl, rfl, rfl, hd, N.xV.xc, .own BE, N.kBE, false, rfl, (by show 3 ≤ sizeLine; decide), fun u hu => ?_⟩⟩
          exact ⟨u, _, rfl, s2.trans (KS.sameUpd hu), upd_same⟩
        · refine ⟨.int 2, rfl, rfl, false, by decide, iteF ⟨.int 2, rfl, rfl, false, by decide, iteF ⟨.int 2, rfl, rfl, true, by decide, iteT ⟨.ref h, rfl, h, dh, _, rfl, eh, rfl, .ref na, rfl, na, _, 0, .int bad, rfl, rfl, .inl (.inl en1'), rfl, fun d0 hd0 y dy hy hdy ney => ?_⟩⟩⟩⟩
          have z0 := KS.sameUpd (o := .dK []) hd0
          refine pjMade (CS := CS) (CM := CM) (T := []) hy hdy ney upd_same .nil fun H5 s5 _ => ?_
          have s15 := z0.trans s5
          refine ⟨h, A1, B1, C, ps, ls, qs, bad, _, rfl, x1.same s15, e, fun dd H2 s52 hd => ?_⟩
          have s2 := s15.trans s52
          refine ⟨true, N.eVV, fun _ a0 na0 => ?_, fun z => Bool.noConfusion z⟩
          refine ⟨.ref a0, rfl, rfl, rfl, dd, _, .int bad, rfl, hd, rfl, .ref a0, rfl, NV, .ty "IndexError", .type "IndexError", true, dd, _, rfl, rfl, rfl, hd, N.xV.xc, .ty _, N.kIE, true, rfl, iteT ⟨.ref a0, rfl, NV, .ref BE, .ref BE, false, dd, _, rfl, rfl, rfl, hd, N.xV.xc, .own BE, N.kBE, false, rfl, (by show 3 ≤ sizeLine; decide), fun u hu => ?_⟩⟩
          exact ⟨u, _, rfl, s2.trans (KS.sameUpd hu), upd_same⟩
      · have en1' : H1 na = some (.lst [.int i, .int j]) := en1
        rcases hf with rfl | rfl
        · refine ⟨.int 3, rfl, rfl, false, by decide, iteF ⟨.int 3, rfl, rfl, false, by decide, iteF ⟨.int 3, rfl, rfl, false, by decide, iteF ⟨.int 3, rfl, rfl, true, by decide, iteT ⟨.ref h, rfl, h, dh, _, rfl, eh, rfl, .ref na, rfl, na, _, 0, .int i, rfl, rfl, .inl (.inl en1'), rfl, .ref na, rfl, na, _, 1, .int j, rfl, rfl, .inl (.inl en1'), rfl, h, A1, B1, C, ps, ls, qs, i, j, bad, rfl, x1, c, fun dd H2 s2 hd => ?_⟩⟩⟩⟩⟩
          refine ⟨true, N.eVV, fun _ a0 na0 => ?_, fun z => Bool.noConfusion z⟩
          refine ⟨.ref a0, rfl, rfl, rfl, dd, _, .int bad, rfl, hd, rfl, .ref a0, rfl, NV, .ty "IndexError", .type "IndexError", true, dd, _, rfl, rfl, rfl, hd, N.xV.xc, .ty _, N.kIE, true, rfl, iteT ⟨.ref a0, rfl, NV, .ref BE, .ref BE, false, dd, _, rfl, rfl, rfl, hd, N.xV.xc, .own BE, N.kBE, false, rfl, (by show 3 ≤ sizeLine; decide), fun u hu => ?_⟩⟩
          exact ⟨u, _, rfl, s2.trans (KS.sameUpd hu), upd_same⟩
        · refine ⟨.int 4, rfl, rfl, false, by decide, iteF ⟨.int 4, rfl, rfl, false, by decide, iteF ⟨.int 4, rfl, rfl, false, by decide, iteF ⟨.int 4, rfl, rfl, false, by decide, iteF ⟨.ref h, rfl, h, dh, _, rfl, eh, rfl, .ref na, rfl, na, _, 0, .int i, rfl, rfl, .inl (.inl en1'), rfl, .ref na, rfl, na, _, 1, .int j, rfl, rfl, .inl (.inl en1'), rfl, h, A1, B1, C, ps, ls, qs, i, j, bad, rfl, x1, c, fun dd H2 s2 hd => ?_⟩⟩⟩⟩⟩
          refine ⟨true, N.eVV, fun _ a0 na0 => ?_, fun z => Bool.noConfusion z⟩
          refine ⟨.ref a0, rfl, rfl, rfl, dd, _, .int bad, rfl, hd, rfl, .ref a0, rfl, NV, .ty "IndexError", .type "IndexError", true, dd, _, rfl, rfl, rfl, hd, N.xV.xc, .ty _, N.kIE, true, rfl, iteT ⟨.ref a0, rfl, NV, .ref BE, .ref BE, false, dd, _, rfl, rfl, rfl, hd, N.xV.xc, .own BE, N.kBE, false, rfl, (by show 3 ≤ sizeLine; decide), fun u hu => ?_⟩⟩
          exact ⟨u, _, rfl, s2.trans (KS.sameUpd hu), upd_same⟩
    rintro _ H2 ⟨u, x4, rfl, s2, eu⟩
    exact ⟨.ref u, rfl, q u H2 (s1.trans s2) eu⟩
/-! ### a number that is not there -/
def spLost (CH : Addr) : Sp := fun vs H Q _ => ∃ h A B C ps ls qs i, vs = [.ref h, .int i] ∧ HsAt CH H h A B C ps ls qs ∧ inB i ps.length = false ∧ ∀ H', Same H H' → Q (.int i) H'
abbrev nLost : List Str := ["_law_history", "_law_number", "_law_found", "e"]
theorem scLost : FnScope nLost ["_law_history", "_law_number"] (defScope lLost) := ⟨rfl, rfl, rfl, by decide +kernel, rfl, by decide +kernel, by decide +kernel⟩
theorem okLost {k : Nat} (N : NvC P w K mg base CH NV BE) (F : FnP K "_law_lost" lLost f fd) : FnOk P w K mg base CX0 (k + 6) f fd ["_law_history", "_law_number"] (spLost CH) := by
  obtain ⟨fG, dG, h1, h2, h3, bG, GG⟩ := N.get
  have xfV : XfC K NV := ⟨N.xV.xc.ga, N.xV.xc.gg, N.xV.xc.ex, N.xV.xc.hd⟩
  refine F.ok scLost (fun vs H Q E h => ?_) (fun cdv A outer s H vs Q E hr h => ?_)
  · obtain ⟨h, A, B, C, ps, ls, qs, i, rfl, _⟩ := h
    rfl
  · obtain ⟨h, A1, B1, C, ps, ls, qs, i, rfl, x, e, q⟩ := h
    have hr5 : Room (4 + 1) _ := hr.mono (by omega)
    obtain ⟨dh, eh⟩ := x.ob
    refine ⟨_, PSs.nox (pss_cons (ps_set (i := 2) scLost.nd rfl (.inl rfl) pe_non) (pss_cons (psTryMix rfl rfl takes0
        (fun W' pn xe tk _ => (pss_one (ps_set (i := 2) scLost.nd rfl (.inl rfl) (OD.pe_ixO (pv 0) (pv 1) GG hr5 h1 h2 h3 bG (fun σ => passAt tk σ)))))
        (.named (i := 3) ⟨rfl, by decide, .inl N.xV.gm⟩ scLost.nd rfl rfl (fun a oe cls d pn hz hf => (pss_one (ps_set (i := 2) scLost.nd rfl (.inl rfl) (pe_xf xfV N.xV.no hz hf (pv 3))))) .nil)) (pss_one (ps_ret (pv 2))))), ?_⟩
    refine ⟨.ref h, rfl, .int i, rfl, h, dh, _, rfl, eh, h, A1, B1, C, ps, ls, qs, i, rfl, x, e, fun dd H2 s2 hdd => ⟨true, N.eVV, fun _ a0 na => ?_, fun z => Bool.noConfusion z⟩⟩
    exact ⟨.ref a0, rfl, rfl, rfl, dd, _, .int i, rfl, hdd, rfl, .int i, rfl, q H2 s2⟩
end
end PJ

set_option Elab.async false
set_option linter.all false
set_option maxRecDepth 100000
set_option maxHeartbeats 16000000
/-! a history that tells all its versions; the law -/
namespace PJ
open PySem PySem.Spec PyProof.Rows L2 KS KS.La
open KX hiding sameUpd
abbrev lRg : Stmt := top 42
abbrev lLaw : Stmt := top 44
/-! ### lists of what is told -/
def badD (b : Int) : PyData := .tuple [.str "no version", .int b, .bool true]
def BadAt (H : Hp) (v : V) (b : Int) : Prop := ∃ u, v = .ref u ∧ H u = some (.tup [.str "no version", .int b, .bl true])
theorem BadAt.same {H H' : Hp} {v : V} {b : Int} (h : BadAt H v b) (s : Same H H') : BadAt H' v b := let ⟨u, e, h⟩ := h; ⟨u, e, s _ _ h⟩
theorem BadAt.dp {K : PySem.W.Frag} {H : Hp} {v : V} {b : Int} (h : BadAt H v b) : Dp K H v (badD b) := by
  obtain ⟨u, rfl, h⟩ := h
  exact .tup (.inl (.inl h)) (.cons (.str _) (.cons (.int _) (.cons (.bl _) .nil)))
theorem badAll {K : PySem.W.Frag} {H : Hp} {b : Int} : ∀ {us : List V}, (∀ v ∈ us, BadAt H v b) → DpAll K H us (List.replicate us.length (badD b))
  | [], _ => .nil
  | v :: us, h => .cons (h v List.mem_cons_self).dp (badAll fun x hx => h x (List.mem_cons_of_mem _ hx))
theorem badOd (b : Int) : Od 1 (badD b) := Od.tup (n := 0) (by show 3 ≤ 100; decide) fun d hd => by
  have : d = .str "no version" ∨ d = .int b ∨ d = .bool true := by simpa using hd
  rcases this with rfl | rfl | rfl
  · exact rOd "no version" (by decide +kernel)
  · exact .int _ _
  · exact .bl _ _
theorem listSh {n : Nat} (hn : n ≤ 60) {ds : List PyData} (h : ∀ d ∈ ds, Od n d) : SeqAt.shaped (.list ds) = true := by
  obtain ⟨a, b⟩ := allLay (ds := ds) (n := n) fun d hd => (h d hd).lay
  have e1 : (PyData.list ds).canLay0 = true := a
  unfold SeqAt.shaped
  rw [e1, Bool.true_and]
  refine decide_eq_true ?_
  simp only [PyData.depth]
  omega
theorem neTold {K : PySem.W.Frag} {H : Hp} {F R : Addr} {us vs : List V} {b : Int} {Q : VK} (hF : H F = some (.lst us)) (hb : ∀ v ∈ us, BadAt H v b) (hR : H R = some (.lst vs)) (l : vs.length = us.length) (hv : ∀ v ∈ vs, BadAt H v b) (q : Q (.bl false) H) : rNeD K (.ref F) (.ref R) H Q := by
  have sh : SeqAt.shaped (.list (List.replicate us.length (badD b))) = true := listSh (n := 1) (by decide) fun d hd => by rw [List.eq_of_mem_replicate hd]; exact badOd b
  have d2 : DpAll K H vs (List.replicate us.length (badD b)) := l ▸ badAll hv
  refine ⟨.list (List.replicate us.length (badD b)), .list (List.replicate us.length (badD b)), .lst (.inl (.inl hF)) (badAll hb), .lst (.inl (.inl hR)) d2, sh, sh, ?_⟩
  rw [SeqAt.eqv_refl _ (SeqAt.canLay_of_shaped sh)]
  exact q
theorem inB_hi {i : Int} {n : Nat} (h : (n : Int) ≤ i) : inB i n = false := by
  unfold inB
  rw [decide_eq_false (show ¬ i < (n : Int) by omega), Bool.and_false]
theorem inB_lo {i : Int} {n : Nat} (h : i < 0) : inB i n = false := by
  unfold inB
  rw [decide_eq_false (show ¬ 0 ≤ i by omega), Bool.false_and]
theorem inB_in {i : Int} {n : Nat} (h : 0 ≤ i) (h2 : i < (n : Int)) : inB i n = true := by
  unfold inB
  rw [decide_eq_true h, decide_eq_true h2]
  rfl
theorem toldLc {K : PySem.W.Frag} {t : Addr} {fs : List Int} {te : TE} {σ : L2.St} {H1 : Hp} {D : Addr} {Qd : Hp → Prop} {b : Int} (ht : H1 t = some (.tup (fs.map V.int))) (l9 : fs.length ≤ 9) (hD : H1 D = none) (hw : ∀ v, wipe ((wipe σ [7]).set 7 (some v)) [7] = wipe σ [7])
    (hs : ∀ fm H (R : VK), fm ∈ fs → Same H1 H → (∀ u H', Same H H' → H' u = some (.tup [.str "no version", .int b, .bl true]) → R (.ref u) H') → te ((wipe σ [7]).set 7 (some (.int fm))) H R)
    (hd : ∀ H us, Same H1 H → H D = some (.lst us) → us.length = fs.length → (∀ v ∈ us, BadAt H v b) → Qd H) :
    ∃ W : Nat → Nat → Hp → Prop, (∃ m, W 0 m (upd H1 D (.lst []))) ∧ ∀ i m H, W i m H →
      ((Itt K t).stop i H ∧ Qd H) ∨ ((Itt K t).go i H ∧ ∃ Nx : Hp → Prop, (∀ H', Nx H' → ∃ m', m' < m ∧ W (i + 1) m' H') ∧ ∀ x H', (Itt K t).yld i H x H' → gName 7 x (wipe σ [7]) H' fun σ2 H2 => wipe σ2 [7] = wipe σ [7] ∧ tYes σ2 H2 fun b H3 =>
        if b = true then te σ2 H3 fun y H4 => ∃ acc, H4 D = some (.lst acc) ∧ acc.length < sizeLine ∧ Nx (upd H4 D (.lst (acc ++ [y]))) else Nx H3) := by
  refine lcJ (n := fs.length) (fun i H => Same H1 H ∧ ∃ us, us.length = i ∧ H D = some (.lst us) ∧ ∀ v ∈ us, BadAt H v b) ⟨KS.sameUpd hD, [], rfl, upd_same, fun v hv => absurd hv (by simp)⟩
    (fun i H lt h => ⟨_, V.int fs[i], .inl (.inl (h.1 _ _ ht)), by rw [List.getElem?_map, List.getElem?_eq_getElem lt]; rfl⟩) (fun H h => ⟨_, .inl (.inl (h.1 _ _ ht)), by rw [List.length_map]; exact Nat.le_refl _⟩) (fun i H x H' lt h y => ?_) (fun H h => ?_)
  · obtain ⟨rfl, y⟩ := y
    obtain ⟨s1, us, lu, eD, hu⟩ := h
    have ex := y _ (.inl (.inl (s1 _ _ ht)))
    rw [List.getElem?_map, List.getElem?_eq_getElem lt] at ex
    obtain rfl : V.int fs[i] = x := Option.some.inj ex
    refine ⟨hw _, ?_⟩
    unfold tYes
    dsimp only
    rw [if_pos rfl]
    refine hs fs[i] _ _ (List.getElem_mem lt) s1 fun u H2 s2 hu2 => ?_
    have eD2 := s2 _ _ eD
    refine ⟨us, eD2, by rw [lu, sizeLine_eq]; omega, fun c o hc => ?_, us ++ [.ref u], by rw [List.length_append, lu]; rfl, upd_same, fun v hv => ?_⟩
    · rw [upd_ne (ne_of_none hc hD)]
      exact s2 _ _ (s1 _ _ hc)
    · have nd : ∀ z o, H2 z = some (HO.tup o) → z ≠ D := fun z o hz e => by rw [e, eD2] at hz; cases hz
      rcases List.mem_append.mp hv with hv | hv
      · obtain ⟨z, rfl, hz⟩ := (hu v hv).same s2
        exact ⟨z, rfl, by rw [upd_ne (nd z _ hz)]; exact hz⟩
      · rw [List.mem_singleton.mp hv]
        exact ⟨u, rfl, by rw [upd_ne (nd u _ hu2)]; exact hu2⟩
  · obtain ⟨s1, us, lu, eD, hu⟩ := h
    exact hd _ us s1 eD lu hu
section
variable {P : Program} {w : World} {K : PySem.W.Frag} {mg : Str → Option Value} {base : Heap} {f : Addr} {fd : FuncData} {CS CM CP CH CF BE NV : Addr}
structure RghC (P : Program) (w : World) (K : PySem.W.Frag) (mg : Str → Option Value) (base : Heap) (CH NV : Addr) : Prop where
  has : HasIn2 P w K mg base CH
  get : ∃ (f : Addr) (fd : FuncData), PySem.W.findIn K (.ref CH) "__getitem__" = some (some (.ref f)) ∧ PySem.W.fnIn K f = true ∧ PySem.W.isFn K (.ref f) = true ∧ Binds K fd ["self", "at"] [] ∧ FnOk P w K mg base (L2.CX P w) 4 f fd ["self", "at"] (spHGet CH)
  len : ∃ (f : Addr) (fd : FuncData), PySem.W.findIn K (.ref CH) "__len__" = some (some (.ref f)) ∧ PySem.W.isFn K (.ref f) = true ∧ Binds K fd ["self"] [] ∧ FnOk P w K mg base CX0 1 f fd ["self"] (spHLen CH)
  par : ∃ (f : Addr) (fd : FuncData), Meth K CH "parents" f ∧ Binds K fd ["self", "number"] [] ∧ FnOk P w K mg base CX0 5 f fd ["self", "number"] (spHPar CH)
  trk : ∃ (f : Addr) (fd : FuncData), Meth K CH "trunk" f ∧ Binds K fd ["self", "number"] [] ∧ FnOk P w K mg base (L2.CX P w) 5 f fd ["self", "number"] (spHTrunk CH NV)
  bas : ∃ (f : Addr) (fd : FuncData), Meth K CH "base" f ∧ Binds K fd ["self", "one", "other"] [] ∧ FnOk P w K mg base CX0 5 f fd ["self", "one", "other"] (spHBase CH)
def spRg (CS CM CP CH : Addr) : Sp := fun vs H Q _ => ∃ a h A B C D P ws ls qs, vs = [.ref a, .ref h, .ref D, .ref P] ∧ GrAt CS CM CP CH H a h A B C D P ws ls qs ∧ 0 < ws.length ∧ ws.length ≤ 9 ∧ ∀ H', Kp a H H' → Fd H' a → Q (.bl true) H'
abbrev nRg : List Str := ["_law_feed", "_law_history", "_law_plans", "_law_parents", "_law_many", "_law_number", "_law_told_here", "_law_form", "_law_one_here", "_law_other", "_law_pair", "_law_due"]
theorem scRg : FnScope nRg ["_law_feed", "_law_history", "_law_plans", "_law_parents"] (defScope lRg) := ⟨rfl, rfl, rfl, by decide +kernel, rfl, by decide +kernel, by decide +kernel⟩
abbrev slR (a h D P : Addr) (x4 x5 x6 x8 x9 x10 x11 : Option V) : L2.St := [some (.ref a), some (.ref h), some (.ref D), some (.ref P), x4, x5, x6, none, x8, x9, x10, x11]
theorem okRg {k : Nat} (F : FnP K "_law_is_right" lRg f fd) (B : Bn mg) (L : HisC P w K mg base CS CM CP CH CF) (R : RghC P w K mg base CH NV)
    (aT : Has P w K mg base 9 "_law_told" ["_law_history", "_law_form", "_law_numbers"] (spTold CH)) (aD : Has P w K mg base 1 "_law_draw" ["_law_feed", "_law_many"] spDraw)
    (aI : Has P w K mg base 6 "_law_is_project" ["_law_project", "_law_targets"] (spIsP CS CM CP)) (aR : Has P w K mg base 1 "_law_trunk" ["_law_parents", "_law_number"] spLTrk) (aB : Has P w K mg base 2 "_law_base" ["_law_parents", "_law_one_here", "_law_other"] spBase) :
    FnOk P w K mg base CX0 (k + 10) f fd ["_law_feed", "_law_history", "_law_plans", "_law_parents"] (spRg CS CM CP CH) := by
  obtain ⟨fT, dT, gT, kT, bT, GT⟩ := aT.ex
  obtain ⟨fD, dD, gD, kD, bD, GD⟩ := aD.ex
  obtain ⟨fI, dI, gI, kI, bI, GI⟩ := aI.ex
  obtain ⟨fR, dR, gR, kR, bR, GR⟩ := aR.ex
  obtain ⟨fB, dB, gB, kB, bB, GB⟩ := aB.ex
  obtain ⟨fH, dH, hH1, hH2, bH, GH⟩ := R.has
  obtain ⟨fE, dE, hE1, hE2, hE3, bE, GE⟩ := R.get
  obtain ⟨fL, dL, hL1, hL2, bL, GL⟩ := R.len
  obtain ⟨fP, dP, hP, bP, GP⟩ := R.par
  obtain ⟨fK, dK, hK, bK, GK⟩ := R.trk
  obtain ⟨fS, dS, hS, bS, GS⟩ := R.bas
  refine F.ok scRg (fun vs H Q E h => ?_) (fun cdv A outer s H vs Q E hr h => ?_)
  · obtain ⟨a, h, A, B, C, D, P, ws, ls, qs, rfl, _⟩ := h
    rfl
  · obtain ⟨a, h, A, B1, C, D, Pp, vs, ls, qs, rfl, g0, l0, l9, q⟩ := h
    have r1 : Room 1 _ := hr.mono (by omega)
    have r2 : Room 2 _ := hr.mono (by omega)
    have r11 : Room (1 + 1) _ := hr.mono (by omega)
    have r41 : Room (4 + 1) _ := hr.mono (by omega)
    have r5 : Room 5 _ := hr.mono (by omega)
    have r6 : Room 6 _ := hr.mono (by omega)
    have r9 : Room 9 _ := hr.mono (by omega)
    refine ⟨_, PSs.nox (C8.pss_cut (ps_set (i := 4) scRg.nd rfl (.inl rfl) (pe_callB call_len_seq (by rfl) B.len PySem.boot_len (pa_cons (pv 2) pa_nil))) (C8.pss_cut (ps_if (pt_cmpR op_ne (pe_callB (OC.call_lenOwn (E := E0) (FnOk.raw GL bL .nil) r11 hL1 hL2 pass0) (by rfl) B.len PySem.boot_len (pa_cons (pv 1) pa_nil)) (pv 4) (nomark _)) (pss_one (ps_ret pe_bl)) pss_nil) (C8.pss_cut (ps_for PassesOwn.never rfl (pi_list (pe_lst (pa_cons (pv 4) (pa_cons (pe_op op_add (pv 4) pe_int) (pa_cons (pe_op op_sub pe_int pe_int) (pa_cons (pe_op op_sub pe_int (pv 4)) pa_nil)))))) (pg_name (i := 5) scRg.nd rfl (.inr rfl))
        (C8.pss_cut (ps_setLc (i := 6) (own := [("_law_form", 7)]) (g := gName 7) (by rfl) scRg.nd rfl rfl (sw_true rfl rfl (by decide +kernel) (by decide +kernel)) (pi_tup (pe_tup (pa_cons (pe_int) (pa_cons (pe_int) (pa_cons (pe_int) pa_nil))))) (blkOk_by (N := nRg) (sc := defScope lRg) (by decide +kernel))
            (fun _ _ _ _ _ => pg_name (i := 7) scRg.nd rfl (.inl rfl) (hf := .inr rfl)) (fun _ _ _ _ _ => pts_nil) (fun _ _ _ _ _ => pe_call GT r9 (by rfl) gT kT bT .nil pass0 (pa_cons (pv 1) (pa_cons (pv 7) (pa_cons (pe_lst (pa_cons (pv 5) pa_nil)) pa_nil))))) (C8.pss_cut (ps_if (PW.pt (pw_or (pt_cmpR (OC.op_inOwn (E := E0) (FnOk.raw GH bH .nil) r2 hH1 hH2 pass0) (pv 5) (pv 1) (by rfl)) (pw_or1 (pt_cmpR (r := rNeD K) (op_neD hr.units) (pv 6) (pe_op op_rep (pe_lst (pa_cons (pe_tup (pa_cons (pe_str) (pa_cons (pv 5) (pa_cons (pe_bl) pa_nil)))) pa_nil)) pe_int) (nomark _))))) (pss_one (ps_ret pe_bl)) pss_nil) (C8.pss_cut (ps_par (i := 8) (j := 9) (by rfl) scRg.nd rfl rfl (by decide) rfl rfl (pa_cons (pe_call GD r1 (by rfl) gD kD bD .nil pass0 (pa_cons (pv 0) (pa_cons (pv 4) pa_nil))) (pa_cons (pe_op op_add (pe_call GD r1 (by rfl) gD kD bD .nil pass0 (pa_cons (pv 0) (pa_cons (pe_int) pa_nil))) (pv 4)) pa_nil)) (by rfl)) (pss_one (ps_for PassesOwn.never rfl (pi_tup (pe_tup (pa_cons (pe_tup (pa_cons (pe_lst (pa_cons (pv 8) (pa_cons (pv 5) pa_nil))) (pa_cons (pv 5) pa_nil))) (pa_cons (pe_tup (pa_cons (pe_lst (pa_cons (pv 5) (pa_cons (pv 8) pa_nil))) (pa_cons (pv 5) pa_nil))) (pa_cons (pe_tup (pa_cons (pe_lst (pa_cons (pv 5) (pa_cons (pv 9) pa_nil))) (pa_cons (pv 5) pa_nil))) pa_nil))))) (pg_tup rfl (pgs_cons ((pg_name (i := 10) scRg.nd rfl (.inr rfl))) (pgs_cons ((pg_name (i := 11) scRg.nd rfl (.inl rfl))) pgs_nil)))
            (C8.pss_cut (ps_setLc (i := 6) (own := [("_law_form", 7)]) (g := gName 7) (by rfl) scRg.nd rfl rfl (sw_true rfl rfl (by decide +kernel) (by decide +kernel)) (pi_tup (pe_tup (pa_cons (pe_int) (pa_cons (pe_int) pa_nil)))) (blkOk_by (N := nRg) (sc := defScope lRg) (by decide +kernel))
                (fun _ _ _ _ _ => pg_name (i := 7) scRg.nd rfl (.inl rfl) (hf := .inr rfl)) (fun _ _ _ _ _ => pts_nil) (fun _ _ _ _ _ => pe_call GT r9 (by rfl) gT kT bT .nil pass0 (pa_cons (pv 1) (pa_cons (pv 7) (pa_cons (pv 10) pa_nil))))) (pss_one (ps_if (pt_cmpR (r := rNeD K) (op_neD hr.units) (pv 6) (pe_op op_rep (pe_lst (pa_cons (pe_tup (pa_cons (pe_str) (pa_cons (pv 11) (pa_cons (pe_bl) pa_nil)))) pa_nil)) pe_int) (nomark _)) (pss_one (ps_ret pe_bl)) pss_nil))))))))) (C8.pss_cut (ps_for PassesOwn.never rfl (pi_range1 (by rfl) B.range (pa_cons (pv 4) pa_nil)) (pg_name (i := 5) scRg.nd rfl (.inr rfl))
        (C8.pss_cut (ps_if (PW.pt (pw_or (pt_cmpR (OC.op_notInOwn (E := E0) (FnOk.raw GH bH .nil) r2 hH1 hH2 pass0) (pv 5) (pv 1) (by rfl)) (pw_or1 (pt_not (pt_val (pe_call GI r6 (by rfl) gI kI bI .nil pass0 (pa_cons (OD.pe_ixO (E := fun _ => E0) (pv 1) (pv 5) GE r41 hE1 hE2 hE3 bE (fun _ => OD.passAt0)) (pa_cons (pe_ix ix_list (pv 2) (pv 5) (fun _ _ => rfl)) pa_nil)))))))) (pss_one (ps_ret pe_bl)) pss_nil) (C8.pss_cut (ps_if (PW.pt (pw_or (pt_cmpR (r := rNeD K) (op_neD hr.units) (pe_meth (pv 1) L.iH.cl hP GP r5 bP .nil pass0 (pa_cons (pv 5) pa_nil)) (pe_ix ix_list (pv 3) (pv 5) (fun _ _ => rfl)) (nomark _)) (pw_or1 (pt_cmpR (r := rNeD K) (op_neD hr.units) (OD.pe_methT (E := fun _ => E0) (pv 1) L.iH.cl hK GK r5 bK (fun _ => OD.passAt0) (pa_cons (pv 5) pa_nil)) (pe_call GR r1 (by rfl) gR kR bR .nil pass0 (pa_cons (pv 3) (pa_cons (pv 5) pa_nil))) (nomark _))))) (pss_one (ps_ret pe_bl)) pss_nil) (pss_one (ps_for PassesOwn.never rfl (pi_range1 (by rfl) B.range (pa_cons (pv 4) pa_nil)) (pg_name (i := 9) scRg.nd rfl (.inl rfl))
            (pss_one (ps_if (pt_cmpR op_ne (pe_meth (pv 1) L.iH.cl hS GS r5 bS .nil pass0 (pa_cons (pv 5) (pa_cons (pv 9) pa_nil))) (pe_call GB r2 (by rfl) gB kB bB .nil pass0 (pa_cons (pv 3) (pa_cons (pv 5) (pa_cons (pv 9) pa_nil)))) (nomark _)) (pss_one (ps_ret pe_bl)) pss_nil))))))) (pss_one (ps_ret (pe_cmpR op_eq (pe_callB (OC.call_lenOwn (E := E0) (FnOk.raw GL bL .nil) r11 hL1 hL2 pass0) (by rfl) B.len PySem.boot_len (pa_cons (pv 1) pa_nil)) (pv 4) rfl))))))), ?_⟩
    have lps : (vs.map (·.p)).length = vs.length := List.length_map _
    have lD : ((vs.map fun v => V.ref v.d).length : Int) = (vs.length : Int) := by rw [List.length_map]
    refine ⟨fun σ' H' => σ' = (slR a h D Pp (some (.int vs.length)) none none none none none none) ∧ H' = H, ?_, ?_⟩
    · refine ⟨.ref D, rfl, D, _, rfl, .inl (.inl (.inl g0.pl)), ?_⟩
      rw [lD]
      exact ⟨rfl, rfl⟩
    rintro _ H ⟨rfl, rfl⟩
    refine ⟨fun σ' H' => σ' = (slR a h D Pp (some (.int vs.length)) none none none none none none) ∧ H' = H, ?_, ?_⟩
    · obtain ⟨dh, eh⟩ := g0.hs.ob
      refine ⟨.ref h, rfl, h, dh, _, rfl, eh, h, A, B1, C, _, _, _, rfl, g0.hs, _, rfl, by omega, by rw [List.length_map]; omega, .int vs.length, rfl, rfl, false, ?_, iteF ⟨rfl, rfl⟩⟩
      rw [List.length_map]
      simp
    rintro _ H ⟨rfl, rfl⟩
    -- numbers that are not there
    refine ⟨fun σ' H' => ∃ x5 x6 x8 x9 x10 x11, σ' = (slR a h D Pp (some (.int vs.length)) x5 x6 x8 x9 x10 x11) ∧ Kp a H H' ∧ Fd H' a, ?_, ?_⟩
    · refine ⟨.int vs.length, rfl, .int vs.length, rfl, _, 5, rfl, rfl, 0, 1, rfl, rfl, .int vs.length, rfl, 0, _, rfl, rfl, (by show 4 ≤ sizeLine; decide), fun Ln hLn => ?_⟩
      obtain ⟨xsA, eaA⟩ := g0.keep
      have nLa : Ln ≠ a := fun z => by rw [z, eaA] at hLn; cases hLn
      have sL := KS.sameUpd (o := .lst [.int vs.length, .int (vs.length + 5), .int (0 - 1), .int (0 - vs.length)]) hLn
      refine ⟨Ln, rfl, ⟨_, .inl (.inl upd_same)⟩, ?_⟩
      refine forJ (n := 4) (fun i σ' H' => ∃ x5 x6 x8 x9 x10 x11, σ' = (slR a h D Pp (some (.int vs.length)) x5 x6 x8 x9 x10 x11) ∧ Kp a H H' ∧ Fd H' a ∧ H' Ln = some (.lst [.int vs.length, .int (vs.length + 5), .int (0 - 1), .int (0 - vs.length)]))
        ⟨none, none, none, none, none, none, rfl, Kp.same sL, g0.fa.same sL, upd_same⟩ (fun i σ' H' lt hh => ?_) (fun σ' H' hh => ?_) (fun i σ' H0 x H1 lti hh y => ?_) (fun σ' H' hh => ?_)
      · obtain ⟨_, _, _, _, _, _, _, _, _, eL⟩ := hh
        exact ⟨_, _, .inl (.inl eL), List.getElem?_eq_getElem (show i < 4 from lt)⟩
      · obtain ⟨_, _, _, _, _, _, _, _, _, eL⟩ := hh
        exact ⟨_, .inl (.inl eL), Nat.le_refl _⟩
      · obtain ⟨rfl, y⟩ := y
        obtain ⟨x5, x6, x8, x9, x10, x11, rfl, k1, F1, eL⟩ := hh
        obtain ⟨b, rfl, nb⟩ : ∃ b : Int, x = .int b ∧ inB b vs.length = false := by
          have ex := y _ (.inl (.inl eL))
          match i, lti with
          | 0, _ => exact ⟨_, (Option.some.inj ex).symm, inB_hi (Int.le_refl _)⟩
          | 1, _ => exact ⟨_, (Option.some.inj ex).symm, inB_hi (by omega)⟩
          | 2, _ => exact ⟨_, (Option.some.inj ex).symm, inB_lo (by omega)⟩
          | 3, _ => exact ⟨_, (Option.some.inj ex).symm, inB_lo (by omega)⟩
        have g1 := g0.feed k1 F1
        have nb' : inB b (vs.map (·.p)).length = false := by rw [lps]; exact nb
        refine ⟨fun σ' H' => ∃ W us, σ' = (slR a h D Pp (some (.int vs.length)) (some (.int b)) (some (.ref W)) x8 x9 x10 x11) ∧ Same H1 H' ∧ H' W = some (.lst us) ∧ us.length = 3 ∧ ∀ v ∈ us, BadAt H' v b, ?_, ?_⟩
        · refine ⟨(by show 3 ≤ sizeLine; decide), fun t ht => ⟨t, rfl, ⟨_, .inl (.inl upd_same)⟩, fun W hW => ?_⟩⟩
          have st := KS.sameUpd (o := .tup [.int 0, .int 1, .int 2]) ht
          refine toldLc (fs := [0, 1, 2]) (b := b) upd_same (by decide) hW (fun v => rfl) (fun fm H2 R' hf s2 cont => ?_) (fun H2 us s2 eW lu hu => ⟨W, us, rfl, st.trans s2, eW, lu, hu⟩)
          refine ⟨.ref h, rfl, .int fm, rfl, .int b, rfl, (by show 1 ≤ sizeLine; decide), fun l hl => ?_⟩
          have sl := KS.sameUpd (o := .lst [.int b]) hl
          refine ⟨h, A, B1, C, _, ls, qs, fm, l, [b], b, rfl, g1.hs.same ((st.trans s2).trans sl), upd_same, .inl ⟨by simpa using hf, b, rfl, nb', rfl⟩, fun u H3 s3 eu => cont u H3 (sl.trans s3) eu⟩
        rintro _ H2 ⟨W, us, rfl, s2, eW, lu, hu⟩
        have g2 := g1.same s2
        refine ⟨fun σ' H' => σ' = (slR a h D Pp (some (.int vs.length)) (some (.int b)) (some (.ref W)) x8 x9 x10 x11) ∧ Same H2 H', ?_, ?_⟩
        · obtain ⟨dh, eh⟩ := g2.hs.ob
          refine ⟨.int b, rfl, .ref h, rfl, h, dh, _, rfl, eh, h, A, B1, C, _, ls, qs, b, rfl, g2.hs, inB b (vs.map (·.p)).length, rfl, inB b (vs.map (·.p)).length, rfl, ?_⟩
          rw [nb']
          refine iteF ⟨.ref W, rfl, .int b, rfl, (by show 3 ≤ sizeLine; decide), fun t ht => ⟨(by show 1 ≤ sizeLine; decide), fun l hl => ?_⟩⟩
          have z1 := KS.sameUpd (o := .tup [.str "no version", .int b, .bl true]) ht
          have z2 := KS.sameUpd (o := .lst [.ref t]) hl
          refine ⟨l, 3, _, rfl, rfl, upd_same, by decide, by decide, (by show 1 * 3 ≤ sizeLine; decide), fun p hp => ?_⟩
          have z3 := KS.sameUpd (o := .lst [.ref t, .ref t, .ref t]) hp
          have eT := z3 _ _ (z2 _ _ (upd_same (H := H2) (a := t) (o := .tup [.str "no version", .int b, .bl true])))
          refine neTold (vs := [.ref t, .ref t, .ref t]) (b := b) (z3 _ _ (z2 _ _ (z1 _ _ eW))) (fun v hv => (hu v hv).same (z1.trans (z2.trans z3))) upd_same lu.symm (fun v hv => ?_) ⟨false, rfl, iteF ⟨rfl, z1.trans (z2.trans z3)⟩⟩
          have : v = .ref t := by simpa using hv
          exact ⟨t, this, eT⟩
        rintro _ H3 ⟨rfl, s3⟩
        have g3 := g2.same s3
        refine ⟨fun σ' H' => ∃ i1 j1 : Int, σ' = (slR a h D Pp (some (.int vs.length)) (some (.int b)) (some (.ref W)) (some (.int i1)) (some (.int j1)) x10 x11) ∧ 0 ≤ i1 ∧ i1 < vs.length ∧ Kp a H3 H' ∧ Fd H' a, ?_, ?_⟩
        · refine ⟨.ref a, rfl, .int vs.length, rfl, a, vs.length, rfl, g3.fa, by omega, by omega, fun i5 H5 i0 i1' k5 F5 => ?_⟩
          refine ⟨.ref a, rfl, a, 3, rfl, F5, by decide, by decide, fun j5 H6 j0 j1' k6 F6 => ⟨.int vs.length, rfl, _, _, rfl, rfl, .int i5, .int (j5 + vs.length), rfl, i5, j5 + vs.length, rfl, i0, i1', k5.trans k6, F6⟩⟩
        rintro _ H4 ⟨i1, j1, rfl, i0, il, k4, F4⟩
        have g4 := g3.feed k4 F4
        have eL4 : H4 Ln = some (.lst [.int vs.length, .int (vs.length + 5), .int (0 - 1), .int (0 - vs.length)]) := k4 _ _ nLa (s3 _ _ (s2 _ _ eL))
        have k04 : Kp a H H4 := k1.trans ((Kp.same (s2.trans s3)).trans k4)
        clear eW lu hu us
        -- pairs
        refine ⟨.int i1, rfl, .int b, rfl, (by show 2 ≤ sizeLine; decide), fun l1 hl1 => ⟨.int b, rfl, (by show 2 ≤ sizeLine; decide), fun t1 ht1 => ?_⟩⟩
        have z1 := KS.sameUpd (o := .lst [.int i1, .int b]) hl1
        have z2 := KS.sameUpd (o := .tup [.ref l1, .int b]) ht1
        have e1 := z2 _ _ (upd_same (H := H4) (a := l1) (o := .lst [.int i1, .int b]))
        have f1 := upd_same (H := upd H4 l1 (.lst [.int i1, .int b])) (a := t1) (o := .tup [.ref l1, .int b])
        have s5 := z1.trans z2
        generalize upd (upd H4 l1 (.lst [.int i1, .int b])) t1 (.tup [.ref l1, .int b]) = H5 at *
        refine ⟨.int b, rfl, .int i1, rfl, (by show 2 ≤ sizeLine; decide), fun l2 hl2 => ⟨.int b, rfl, (by show 2 ≤ sizeLine; decide), fun t2 ht2 => ?_⟩⟩
        have z3 := KS.sameUpd (o := .lst [.int b, .int i1]) hl2
        have z4 := KS.sameUpd (o := .tup [.ref l2, .int b]) ht2
        have e2 := z4 _ _ (upd_same (H := H5) (a := l2) (o := .lst [.int b, .int i1]))
        have f2 := upd_same (H := upd H5 l2 (.lst [.int b, .int i1])) (a := t2) (o := .tup [.ref l2, .int b])
        have s6 := z3.trans z4
        generalize upd (upd H5 l2 (.lst [.int b, .int i1])) t2 (.tup [.ref l2, .int b]) = H6 at *
        refine ⟨.int b, rfl, .int j1, rfl, (by show 2 ≤ sizeLine; decide), fun l3 hl3 => ⟨.int b, rfl, (by show 2 ≤ sizeLine; decide), fun t3 ht3 => ?_⟩⟩
        have z5 := KS.sameUpd (o := .lst [.int b, .int j1]) hl3
        have z6 := KS.sameUpd (o := .tup [.ref l3, .int b]) ht3
        have e3 := z6 _ _ (upd_same (H := H6) (a := l3) (o := .lst [.int b, .int j1]))
        have f3 := upd_same (H := upd H6 l3 (.lst [.int b, .int j1])) (a := t3) (o := .tup [.ref l3, .int b])
        have s7 := z5.trans z6
        generalize upd (upd H6 l3 (.lst [.int b, .int j1])) t3 (.tup [.ref l3, .int b]) = H7 at *
        refine ⟨(by show 3 ≤ sizeLine; decide), fun U hU => ⟨U, rfl, ⟨_, .inl (.inl upd_same)⟩, ?_⟩⟩
        have sU := KS.sameUpd (o := .tup [.ref t1, .ref t2, .ref t3]) hU
        have eU := upd_same (H := H7) (a := U) (o := .tup [.ref t1, .ref t2, .ref t3])
        have wt : ∀ j, j < 3 → ∃ t l ns, ([V.ref t1, .ref t2, .ref t3])[j]? = some (.ref t) ∧ upd H7 U (.tup [.ref t1, .ref t2, .ref t3]) t = some (.tup [.ref l, .int b]) ∧ upd H7 U (.tup [.ref t1, .ref t2, .ref t3]) l = some (.lst (ns.map V.int)) ∧ ∀ fm, fm = 3 ∨ fm = 4 → badOf (vs.map (·.p)).length fm ns b := fun j hj => by
          have ni : inB i1 (vs.map (·.p)).length = true := by rw [lps]; exact inB_in i0 il
          match j, hj with
          | 0, _ => exact ⟨t1, l1, [i1, b], rfl, sU _ _ (s7 _ _ (s6 _ _ f1)), sU _ _ (s7 _ _ (s6 _ _ e1)), fun fm hf => .inr ⟨hf, i1, b, rfl, .inr ⟨ni, nb', rfl⟩⟩⟩
          | 1, _ => exact ⟨t2, l2, [b, i1], rfl, sU _ _ (s7 _ _ f2), sU _ _ (s7 _ _ e2), fun fm hf => .inr ⟨hf, b, i1, rfl, .inl ⟨nb', rfl⟩⟩⟩
          | 2, _ => exact ⟨t3, l3, [b, j1], rfl, sU _ _ f3, sU _ _ e3, fun fm hf => .inr ⟨hf, b, j1, rfl, .inl ⟨nb', rfl⟩⟩⟩
        have s8 : Same H4 (upd H7 U (.tup [.ref t1, .ref t2, .ref t3])) := s5.trans (s6.trans (s7.trans sU))
        generalize upd H7 U (.tup [.ref t1, .ref t2, .ref t3]) = H8 at *
        refine forJ (n := 3) (fun j σ' H' => ∃ x6 x10 x11, σ' = (slR a h D Pp (some (.int vs.length)) (some (.int b)) x6 (some (.int i1)) (some (.int j1)) x10 x11) ∧ Same H8 H') ⟨_, x10, x11, rfl, Same.refl _⟩
          (fun j σ' H' lt hh => by obtain ⟨_, _, _, _, s⟩ := hh; obtain ⟨t, _, _, e, _⟩ := wt j lt; exact ⟨_, .ref t, .inl (.inl (s _ _ eU)), e⟩)
          (fun σ' H' hh => by obtain ⟨_, _, _, _, s⟩ := hh; exact ⟨_, .inl (.inl (s _ _ eU)), Nat.le_refl _⟩) (fun j σ' H0 x H9 ltj hh y => ?_) (fun σ' H' hh => ?_)
        · obtain ⟨rfl, y⟩ := y
          obtain ⟨x6, x10, x11, rfl, s9⟩ := hh
          obtain ⟨t, l, ns, et, ft, fl, bad⟩ := wt j ltj
          have ex := y _ (.inl (.inl (s9 _ _ eU)))
          have ex2 : x = .ref t := Option.some.inj (ex.symm.trans et)
          subst ex2
          have g9 := g4.same (s8.trans s9)
          refine ⟨t, _, rfl, .inl (.inl (s9 _ _ ft)), rfl, .ref l, _, rfl, .int b, _, rfl, rfl, ?_⟩
          refine ⟨fun σ' H' => ∃ W us, σ' = (slR a h D Pp (some (.int vs.length)) (some (.int b)) (some (.ref W)) (some (.int i1)) (some (.int j1)) (some (.ref l)) (some (.int b))) ∧ Same H9 H' ∧ H' W = some (.lst us) ∧ us.length = 2 ∧ ∀ v ∈ us, BadAt H' v b, ?_, ?_⟩
          · refine ⟨(by show 2 ≤ sizeLine; decide), fun t0 ht0 => ⟨t0, rfl, ⟨_, .inl (.inl upd_same)⟩, fun W hW => ?_⟩⟩
            have st := KS.sameUpd (o := .tup [.int 3, .int 4]) ht0
            refine toldLc (fs := [3, 4]) (b := b) upd_same (by decide) hW (fun v => rfl) (fun fm H2 R' hf s2 cont => ?_) (fun H2 us s2 eW lu hu => ⟨W, us, rfl, st.trans s2, eW, lu, hu⟩)
            refine ⟨.ref h, rfl, .int fm, rfl, .ref l, rfl, h, A, B1, C, _, ls, qs, fm, l, ns, b, rfl, g9.hs.same (st.trans s2), s2 _ _ (st _ _ (s9 _ _ fl)), bad fm (by simpa using hf), fun u H3 s3 eu => cont u H3 s3 eu⟩
          rintro _ H10 ⟨W2, us, rfl, s10, eW, lu, hu⟩
          refine ⟨.ref W2, rfl, .int b, rfl, (by show 3 ≤ sizeLine; decide), fun t0 ht0 => ⟨(by show 1 ≤ sizeLine; decide), fun l0' hl0 => ?_⟩⟩
          have y1 := KS.sameUpd (o := .tup [.str "no version", .int b, .bl true]) ht0
          have y2 := KS.sameUpd (o := .lst [.ref t0]) hl0
          refine ⟨l0', 2, _, rfl, rfl, upd_same, by decide, by decide, (by show 1 * 2 ≤ sizeLine; decide), fun p hp => ?_⟩
          have y3 := KS.sameUpd (o := .lst [.ref t0, .ref t0]) hp
          have eT := y3 _ _ (y2 _ _ (upd_same (H := H10) (a := t0) (o := .tup [.str "no version", .int b, .bl true])))
          refine neTold (vs := [.ref t0, .ref t0]) (b := b) (y3 _ _ (y2 _ _ (y1 _ _ eW))) (fun v hv => (hu v hv).same (y1.trans (y2.trans y3))) upd_same lu.symm (fun v hv => ?_) ⟨false, rfl, iteF ⟨_, _, _, rfl, s9.trans (s10.trans (y1.trans (y2.trans y3)))⟩⟩
          have : v = .ref t0 := by simpa using hv
          exact ⟨t0, this, eT⟩
        · obtain ⟨x6, x10, x11, rfl, s9⟩ := hh
          have sA := s8.trans s9
          exact ⟨_, _, _, _, _, _, rfl, k04.trans (Kp.same sA), F4.same sA, sA _ _ eL4⟩
      · obtain ⟨x5, x6, x8, x9, x10, x11, rfl, k1, F1, eL⟩ := hh
        exact ⟨_, _, _, _, _, _, rfl, k1, F1⟩
    rintro _ H1 ⟨x5, x6, x8, x9, x10, x11, rfl, k1, F1⟩
    have g1 := g0.feed k1 F1
    -- those that are
    refine ⟨fun σ' H' => ∃ x5 x9, σ' = (slR a h D Pp (some (.int vs.length)) x5 x6 x8 x9 x10 x11) ∧ Same H1 H', ?_, ?_⟩
    · refine ⟨.int vs.length, rfl, _, rfl, by omega, by omega, ?_⟩
      refine forJ (n := _) (fun n σ' H' => ∃ x5 x9, σ' = (slR a h D Pp (some (.int vs.length)) x5 x6 x8 x9 x10 x11) ∧ Same H1 H') ⟨x5, x9, rfl, Same.refl _⟩ (fun n σ' H' lt _ => lt) (fun σ' H' _ => Nat.le_refl _) (fun n σ' H0 x H2 ltn hh y => ?_) (fun _ _ hh => hh)
      obtain ⟨rfl, rfl⟩ := y
      obtain ⟨x5, x9, rfl, s2⟩ := hh
      have ln : n < vs.length := by omega
      have g2 := g1.same s2
      have en : ((0 : Int) + (n : Int)) = ((n : Nat) : Int) := by omega
      rw [en]
      have evn : vs[n]? = some vs[n] := List.getElem?_eq_getElem ln
      have lq := g2.len
      have eqn : qs[n]? = some qs[n] := List.getElem?_eq_getElem (by omega)
      have few := g2.par.few _ (List.getElem_mem (show n < qs.length by omega))
      refine ⟨fun σ' H' => σ' = (slR a h D Pp (some (.int vs.length)) (some (.int n)) x6 x8 x9 x10 x11) ∧ Same H2 H', ?_, ?_⟩
      · obtain ⟨dh, eh⟩ := g2.hs.ob
        have ok2 := g2.ok _ (List.mem_of_getElem? evn)
        obtain ⟨pk, tb⟩ := TbP.like ok2.like ok2.k'.nd ok2.k.nd (ok2.v' (K := K)) (ok2.v (K := K))
        have nb : inB (n : Int) (vs.map (·.p)).length = true := by rw [lps]; exact inB_in (by omega) (by omega)
        refine ⟨.int n, rfl, .ref h, rfl, h, dh, _, rfl, eh, h, A, B1, C, _, ls, qs, n, rfl, g2.hs, inB n (vs.map (·.p)).length, rfl, !inB n (vs.map (·.p)).length, rfl, ?_⟩
        rw [nb]
        refine iteF ⟨.ref h, rfl, .int n, rfl, h, dh, _, rfl, eh, h, A, B1, C, _, _, _, n, vs[n].p, rfl, g2.hs, by rw [List.getElem?_map, evn]; rfl, ?_⟩
        refine ⟨.ref D, rfl, .int n, rfl, D, _, _, .ref vs[n].d, rfl, rfl, .inl (.inl g2.pl), atI_nat (by rw [List.getElem?_map, evn]; rfl), ?_⟩
        exact ⟨vs[n].p, vs[n].d, _, _, rfl, ok2.pj, ok2.pl, ok2.k'.nd, ok2.k.nd, pk, Nat.le_trans ok2.k.len (by decide), fun z hz => nmsTok z (ok2.k.sub z hz), tb, fun Y sY => ⟨true, rfl, iteF ⟨rfl, sY⟩⟩⟩
      rintro _ H3 ⟨rfl, s3⟩
      have g3 := g2.same s3
      refine ⟨fun σ' H' => σ' = (slR a h D Pp (some (.int vs.length)) (some (.int n)) x6 x8 x9 x10 x11) ∧ Same H3 H', ?_, ?_⟩
      · obtain ⟨dh, eh⟩ := g3.hs.ob
        obtain ⟨us, eP3, pq3⟩ := g3.pa
        obtain ⟨t2, et2, ht2⟩ := parAt pq3 eqn
        refine ⟨.ref h, rfl, h, dh, _, rfl, eh, rfl, .int n, rfl, h, A, B1, C, _, _, _, n, qs[n], rfl, g3.hs, eqn, fun t ht => ?_⟩
        refine ⟨.ref Pp, rfl, .int n, rfl, Pp, us, n, .ref t2, rfl, rfl, .inl (.inl eP3), atI_nat et2, ?_⟩
        refine ⟨natD qs[n], natD qs[n], natDp ht, natDp ht2, natSh (by omega), natSh (by omega), false, by rw [SeqAt.eqv_refl _ (SeqAt.canLay_of_shaped (natSh (by omega)))]; rfl, iteF ?_⟩
        have shT : SeqAt.shaped (natD (trunk qs n).reverse) = true := natSh (by rw [List.length_reverse]; have := trunk_len g3.par n; omega)
        refine ⟨.ref h, rfl, h, dh, _, rfl, eh, rfl, .int n, rfl, h, A, B1, C, _, ls, qs, .inl ⟨n, rfl, g3.hs, by rw [lps]; exact ln, by rw [lps]; omega, g3.par, fun t5 H5 s5 ht5 => ?_⟩⟩
        refine ⟨.ref Pp, rfl, .int n, rfl, Pp, n, qs, rfl, g3.pa.same s5, g3.par, by omega, by omega, fun t6 H6 s6 ht6 => ?_⟩
        exact ⟨natD (trunk qs n).reverse, natD (trunk qs n).reverse, natDp (s6 _ _ ht5), natDp ht6, shT, shT, false, by rw [SeqAt.eqv_refl _ (SeqAt.canLay_of_shaped shT)]; rfl, iteF ⟨rfl, s5.trans s6⟩⟩
      rintro _ H4 ⟨rfl, s4⟩
      refine ⟨.int vs.length, rfl, _, rfl, by omega, by omega, ?_⟩
      have s14 := s2.trans (s3.trans s4)
      refine forJ (n := _) (fun m σ' H' => ∃ x9, σ' = (slR a h D Pp (some (.int vs.length)) (some (.int n)) x6 x8 x9 x10 x11) ∧ Same H1 H') ⟨x9, rfl, s14⟩ (fun n σ' H' lt _ => lt) (fun σ' H' _ => Nat.le_refl _) (fun m σ' H0 x H5 ltm hh y => ?_) (fun σ' H' hh => ?_)
      · obtain ⟨rfl, rfl⟩ := y
        obtain ⟨x9, rfl, s5⟩ := hh
        have lm : m < vs.length := by omega
        have g5 := g1.same s5
        have em : ((0 : Int) + (m : Int)) = ((m : Nat) : Int) := by omega
        rw [em]
        obtain ⟨dh, eh⟩ := g5.hs.ob
        refine ⟨.ref h, rfl, h, dh, _, rfl, eh, rfl, .int n, rfl, .int m, rfl, h, A, B1, C, _, _, _, n, m, rfl, g5.hs, by rw [lps]; exact ln, by rw [lps]; exact lm, ?_⟩
        refine ⟨.ref Pp, rfl, .int n, rfl, .int m, rfl, Pp, n, m, qs, rfl, g5.pa, g5.par, by omega, by omega, by omega, fun b H6 a1 a2 mx s6 => ?_⟩
        have eb := base_is g5.lns g5.par (by omega) (by omega) a1 a2 mx
        refine ⟨rfl, false, ?_, iteF ⟨_, rfl, s5.trans s6⟩⟩
        rw [eb]
        have : (((b + 1 : Nat) : Int) - 1) = (b : Int) := by omega
        rw [this]
        simp
      · obtain ⟨x9, rfl, s5⟩ := hh
        exact ⟨_, _, rfl, s5⟩
    rintro _ H2 ⟨x5, x9, rfl, s2⟩
    have g2 := g1.same s2
    obtain ⟨dh, eh⟩ := g2.hs.ob
    refine ⟨.ref h, rfl, h, dh, _, rfl, eh, h, A, B1, C, _, _, _, rfl, g2.hs, _, rfl, by omega, by rw [List.length_map]; omega, .int vs.length, rfl, rfl, ?_⟩
    have e : decide (V.int (((vs.map (·.p)).length : Nat) : Int) = V.int vs.length) = true := by rw [lps]; simp
    rw [e]
    exact q H2 (k1.trans (Kp.same s2)) g2.fa
end
end PJ

set_option Elab.async false
set_option linter.all false
set_option maxRecDepth 100000
set_option maxHeartbeats 16000000
/-! the law -/
namespace PJ
open PySem PySem.Spec PyProof.Rows L2 KS KS.La
open KX hiding sameUpd
def spLaw (K : PySem.W.Frag) : Sp := fun vs H Q _ => ∃ (a : Addr) (ns : List Int), vs = [.ref a] ∧ SqL K H a (ns.map V.int) ∧ ns.length ≤ 63 ∧ ∀ H', Q (.bl true) H'
abbrev nLaw : List Str := ["_law_script", "_law_k", "_law_feed", "_law_grown_here", "_law_number"]
theorem scLaw : FnScope nLaw ["_law_script"] (defScope lLaw) := ⟨rfl, rfl, rfl, by decide +kernel, rfl, by decide +kernel, by decide +kernel⟩
theorem intsSh (i j : Int) : SeqAt.shaped (.list [.int i, .int j]) = true := listSh (n := 0) (by decide) fun d hd => by
  have : d = .int i ∨ d = .int j := by simpa using hd
  rcases this with rfl | rfl
  · exact .int _ _
  · exact .int _ _
section
variable {P : Program} {w : World} {K : PySem.W.Frag} {mg : Str → Option Value} {base : Heap} {f : Addr} {fd : FuncData} {CS CM CP CH CF BE NV : Addr}
theorem okLaw {k : Nat} (F : FnP K "law" lLaw f fd) (B : Bn mg)
    (aF : Has P w K mg base 1 "_law_feed_of" ["_law_script", "_law_k"] (spFeed K)) (aG : Has P w K mg base 9 "_law_grown" ["_law_feed"] (spGrown CS CM CP CH))
    (aR : Has P w K mg base 10 "_law_is_right" ["_law_feed", "_law_history", "_law_plans", "_law_parents"] (spRg CS CM CP CH)) (aL : Has P w K mg base 6 "_law_lost" ["_law_history", "_law_number"] (spLost CH)) :
    FnOk P w K mg base CX0 (k + 11) f fd ["_law_script"] (spLaw K) := by
  obtain ⟨fF, dF, gF, kF, bF, GF⟩ := aF.ex
  obtain ⟨fG, dG, gG, kG, bG, GG⟩ := aG.ex
  obtain ⟨fR, dR, gR, kR, bR, GR⟩ := aR.ex
  obtain ⟨fL, dL, gL, kL, bL, GL⟩ := aL.ex
  refine F.ok scLaw (fun vs H Q E h => ?_) (fun cdv A outer s H vs Q E hr h => ?_)
  · obtain ⟨a, ns, rfl, _⟩ := h
    rfl
  · obtain ⟨sc, ns, rfl, hSc, hlen, q⟩ := h
    have r1 : Room 1 _ := hr.mono (by omega)
    have r9 : Room 9 _ := hr.mono (by omega)
    have r10 : Room 10 _ := hr.mono (by omega)
    have r6 : Room 6 _ := hr.mono (by omega)
    refine ⟨_, PSs.nox (C8.pss_cut (ps_for PassesOwn.never rfl (pi_range1 (by rfl) B.range (pa_cons (pe_callB (call_max2 rfl) (by rfl) B.max (by decide +kernel) (pa_cons (pe_int) (pa_cons (pe_callB (call_min2 rfl) (by rfl) B.min (by decide +kernel) (pa_cons (pe_int) (pa_cons (pe_callB call_len_seq (by rfl) B.len PySem.boot_len (pa_cons (pv 0) pa_nil)) pa_nil))) pa_nil))) pa_nil)) (pg_name (i := 1) scLaw.nd rfl (.inl rfl))
      (C8.pss_cut (ps_set (i := 2) scLaw.nd rfl (.inl rfl) (pe_call GF r1 (by rfl) gF kF bF .nil pass0 (pa_cons (pv 0) (pa_cons (pv 1) pa_nil)))) (C8.pss_cut (ps_set (i := 3) scLaw.nd rfl (.inr rfl) (pe_call GG r9 (by rfl) gG kG bG .nil pass0 (pa_cons (pv 2) pa_nil))) (C8.pss_cut (ps_if (PW.pt (pw_or (pt_cmp (pc_isN (pv 3))) (pw_or1 (pt_not (pt_val (pe_call GR r10 (by rfl) gR kR bR .nil pass0 (pa_cons (pv 2) (pa_cons (pe_ix ix_tup (pv 3) pe_int (fun _ _ => rfl)) (pa_cons (pe_ix ix_tup (pv 3) pe_int (fun _ _ => rfl)) (pa_cons (pe_ix ix_tup (pv 3) pe_int (fun _ _ => rfl)) pa_nil)))))))))) (pss_one (ps_ret pe_bl)) pss_nil) (pss_one (ps_if (pt_cmpR (r := rNeD K) (op_neD hr.units) (pe_lc (own := [("_law_number", 4)]) (g := gName 4) rfl scLaw.nd (pi_tup (pe_tup (pa_cons (pe_callB call_len_seq (by rfl) B.len PySem.boot_len (pa_cons (pe_ix ix_tup (pv 3) pe_int (fun _ _ => rfl)) pa_nil)) (pa_cons (pe_op op_sub pe_int pe_int) pa_nil)))) (blkOk_by (N := nLaw) (sc := defScope lLaw) (by decide +kernel))
            (fun _ _ _ _ _ => pg_name (i := 4) scLaw.nd rfl (.inl rfl) (hf := .inr rfl)) (fun _ _ _ _ _ => pts_nil) (fun _ _ _ _ _ => pe_call GL r6 (by rfl) gL kL bL .nil pass0 (pa_cons (pe_ix (r := rIxT K) ix_tup (pv 3) pe_int (fun _ _ => rfl)) (pa_cons (pv 4) pa_nil))))
          (pe_lst (pa_cons (pe_callB call_len_seq (by rfl) B.len PySem.boot_len (pa_cons (pe_ix ix_tup (pv 3) pe_int (fun _ _ => rfl)) pa_nil)) (pa_cons (pe_op op_sub pe_int pe_int) pa_nil))) (nomark _)) (pss_one (ps_ret pe_bl)) pss_nil)))))) (pss_one (ps_ret pe_bl))), ?_⟩
    refine ⟨fun _ _ => True, ?_, fun σ' H' _ => q H'⟩
    refine ⟨.ref sc, rfl, sc, _, rfl, .inl hSc, 4, _, rfl, 2, _, rfl, _, rfl, ?b1, ?b2, ?main⟩
    case b1 => split <;> (try split) <;> omega
    case b2 => split <;> (try split) <;> omega
    case main =>
    have hN : ∀ L : Int, 0 ≤ L → (if (if L < 4 then L else 4) > 2 then (if L < 4 then L else 4) else 2).toNat ≤ 4 := fun L hL => by split <;> (try split) <;> omega
    refine forJ (n := _) (fun i σ' H' => (∃ x1 x2 x3, σ' = [some (.ref sc), x1, x2, x3, none]) ∧ SqL K H' sc (ns.map V.int)) ⟨⟨none, none, none, rfl⟩, hSc⟩ (fun i σ' H' lt _ => lt) (fun σ' H' _ => Nat.le_refl _) (fun i σ' H0 x H1 lt h y => ?_) (fun _ _ _ => True.intro)
    obtain ⟨rfl, rfl⟩ := y
    obtain ⟨⟨x1, x2, x3, rfl⟩, hS1⟩ := h
    have li : i < 4 := Nat.lt_of_lt_of_le lt (hN _ (Int.natCast_nonneg _))
    refine ⟨fun σ' H2 => ∃ a, σ' = [some (.ref sc), some (.int (0 + i)), some (.ref a), x3, none] ∧ Same H1 H2 ∧ Fd H2 a ∧ H1 a = none, ?_, ?_⟩
    · exact ⟨.ref sc, rfl, .int (0 + i), rfl, sc, ns, 0 + i, rfl, hS1, hlen, by omega, by omega, fun p Hp sm np fd => ⟨p, rfl, sm, fd, np⟩⟩
    rintro _ H2 ⟨a, rfl, s2, F2, na⟩
    refine ⟨fun σ' H3 => ∃ U h A B C D P vs ls qs, σ' = [some (.ref sc), some (.int (0 + i)), some (.ref a), some (.ref U), none] ∧ H3 U = some (.tup [.ref h, .ref D, .ref P]) ∧ GrAt CS CM CP CH H3 a h A B C D P vs ls qs ∧ vs.length ≤ 9 ∧ 0 < vs.length ∧ Kp a H2 H3, ?_, ?_⟩
    · exact ⟨.ref a, rfl, a, rfl, F2, fun U h A B C D P vs ls qs H3 g l9 l0 eU k3 oA oB oC oD oP => ⟨U, h, A, B, C, D, P, vs, ls, qs, rfl, eU, g, l9, l0, k3⟩⟩
    rintro _ H3 ⟨U, h, A, B, C, D, P, vs, ls, qs, rfl, eU, g3, l9, l0, k3⟩
    have nUa : U ≠ a := fun z => by obtain ⟨xs, ea⟩ := g3.keep; rw [← z, eU] at ea; cases ea
    have s13 : ∀ b o, H1 b = some o → H3 b = some o := fun b o hb => k3 _ _ (ne_of_none hb na) (s2 _ _ hb)
    refine ⟨fun σ' H' => σ' = [some (.ref sc), some (.int (0 + i)), some (.ref a), some (.ref U), none] ∧ Kp a H3 H' ∧ Fd H' a, ?_, ?_⟩
    · refine ⟨.ref U, rfl, false, rfl, iteF ⟨.ref a, rfl, .ref U, rfl, U, _, 0, .ref h, rfl, rfl, .inl (.inl eU), atI_nat (j := 0) rfl, .ref U, rfl, U, _, 1, .ref D, rfl, rfl, .inl (.inl eU), atI_nat (j := 1) rfl, .ref U, rfl, U, _, 2, .ref P, rfl, rfl, .inl (.inl eU), atI_nat (j := 2) rfl, ?_⟩⟩
      exact ⟨a, h, A, B, C, D, P, vs, ls, qs, rfl, g3, l0, l9, fun H' k F => ⟨true, rfl, iteF ⟨rfl, k, F⟩⟩⟩
    rintro _ H4 ⟨rfl, k4, F4⟩
    have g4 := g3.feed k4 F4
    have eU4 := k4 _ _ nUa eU
    have lps : (vs.map (·.p)).length = vs.length := List.length_map _
    have lD : ((vs.map fun v => V.ref v.d).length : Int) = (vs.length : Int) := by rw [List.length_map]
    refine ⟨.ref U, rfl, U, _, 1, .ref D, rfl, rfl, .inl (.inl eU4), atI_nat (j := 1) rfl, D, _, rfl, .inl (.inl (.inl g4.pl)), ?_⟩
    rw [lD]
    refine ⟨0, 1, rfl, rfl, (by show 2 ≤ sizeLine; decide), fun t ht => ⟨t, rfl, ⟨_, .inl (.inl upd_same)⟩, fun W hW => ?_⟩⟩
    have st := KS.sameUpd (o := .tup [.int vs.length, .int (0 - 1)]) ht
    have et := upd_same (H := H4) (a := t) (o := .tup [.int vs.length, .int (0 - 1)])
    generalize upd H4 t (.tup [.int vs.length, .int (0 - 1)]) = H5 at *
    have g5 := g4.same st
    have eU5 := st _ _ eU4
    refine lcJ (n := 2) (vs := [4]) (fun j H' => Same H5 H' ∧ H' W = some (.lst ([V.int vs.length, .int (0 - 1)].take j))) ⟨KS.sameUpd hW, upd_same⟩
      (fun j H' lt h => ⟨_, _, .inl (.inl (h.1 _ _ et)), List.getElem?_eq_getElem (show j < 2 from lt)⟩) (fun H' h => ⟨_, .inl (.inl (h.1 _ _ et)), Nat.le_refl _⟩) (fun j H' x H6 ltj h y => ?_) (fun H6 h => ?_)
    · obtain ⟨rfl, y⟩ := y
      obtain ⟨s6, eW⟩ := h
      have ex := y _ (.inl (.inl (s6 _ _ et)))
      have g6 := g5.same s6
      obtain ⟨b, rfl, nb, ej⟩ : ∃ b : Int, x = .int b ∧ inB b (vs.map (·.p)).length = false ∧ [V.int vs.length, .int (0 - 1)].take (j + 1) = [V.int vs.length, .int (0 - 1)].take j ++ [.int b] := by
        rw [lps]
        match j, ltj with
        | 0, _ => exact ⟨_, (Option.some.inj ex).symm, inB_hi (Int.le_refl _), rfl⟩
        | 1, _ => exact ⟨_, (Option.some.inj ex).symm, inB_lo (by decide), rfl⟩
      refine ⟨rfl, .ref U, rfl, U, _, 0, .ref h, rfl, rfl, .inl (.inl (s6 _ _ eU5)), atI_nat (j := 0) rfl, .int b, rfl, h, A, B, C, _, ls, qs, b, rfl, g6.hs, nb, fun H7 s7 => ?_⟩
      refine ⟨_, s7 _ _ eW, ?_, fun c o hc => ?_, ?_⟩
      · rw [List.length_take, sizeLine_eq]
        omega
      · rw [upd_ne (ne_of_none hc hW)]
        exact s7 _ _ (s6 _ _ hc)
      · rw [upd_same, ej]
    · obtain ⟨s6, eW⟩ := h
      have g6 := g5.same s6
      refine ⟨.ref U, rfl, U, _, 1, .ref D, rfl, rfl, .inl (.inl (s6 _ _ eU5)), atI_nat (j := 1) rfl, D, _, rfl, .inl (.inl (.inl g6.pl)), ?_⟩
      rw [lD]
      refine ⟨0, 1, rfl, rfl, (by show 2 ≤ sizeLine; decide), fun l hl => ?_⟩
      have sl := KS.sameUpd (o := .lst [.int vs.length, .int (0 - 1)]) hl
      refine ⟨.list [.int vs.length, .int (0 - 1)], .list [.int vs.length, .int (0 - 1)], .lst (.inl (.inl (sl _ _ eW))) (.cons (.int _) (.cons (.int _) .nil)), .lst (.inl (.inl upd_same)) (.cons (.int _) (.cons (.int _) .nil)), intsSh _ _, intsSh _ _, false, by rw [SeqAt.eqv_refl _ (SeqAt.canLay_of_shaped (intsSh _ _))]; rfl, iteF ⟨⟨_, _, _, rfl⟩, ?_⟩⟩
      exact Same.seq (fun b o hb => sl _ _ (s6 _ _ (st _ _ (k4 _ _ (ne_of_none hb na) (s13 _ _ hb))))) hS1
end
end PJ

set_option Elab.async false
set_option linter.all false
set_option maxRecDepth 100000
set_option maxHeartbeats 0
namespace PJ.HD
open PySem PySem.Spec PyProof.Rows L2 KS KS.La
open KX hiding sameUpd
open He (ga ma)
section
variable {P : Program} {w : World} {K : PySem.W.Frag} {mg : Str → Option Value} {base h : Heap}
theorem hasMono {j k : Nat} {x : Str} {ps : List Str} {sp : Sp} (A : Has P w K mg base j x ps sp) (h : j ≤ k) : Has P w K mg base k x ps sp := by
  obtain ⟨f, fd, a, b, c, F⟩ := A.ex
  exact ⟨f, fd, a, b, c, F.mono h⟩
theorem factM (c : He.SaysD fa fn K) {f : He.Fa} (hm : f ∈ fa) : f.ok K = true := by
  obtain ⟨i, hi, e⟩ := List.mem_iff_getElem.mp hm
  exact c.fact i (f := f) (by rw [List.getElem?_eq_getElem hi, e])
theorem factX (c : He.SaysD fa fn K) {f : He.Fa} (hm : f ∈ faC ++ (faN ++ faM)) : f.ok K = true := factM c (List.mem_append_right _ (List.mem_append_right _ hm))
theorem factC (c : He.SaysD fa fn K) {f : He.Fa} (hm : f ∈ faC) : f.ok K = true := factX c (List.mem_append_left _ hm)
theorem factN (c : He.SaysD fa fn K) {f : He.Fa} (hm : f ∈ faN) : f.ok K = true := factX c (List.mem_append_right _ (List.mem_append_left _ hm))
theorem factT (c : He.SaysD fa fn K) {f : He.Fa} (hm : f ∈ faM) : f.ok K = true := factX c (List.mem_append_right _ (List.mem_append_right _ hm))
theorem propOf {C p g : Addr} {m : Str} (h1 : PySem.W.findIn K (.ref C) m = some (some (.ref p))) (h2 : PySem.W.specialIn K (.ref p) "__get__" = some (some (.builtin "property.__get__"))) (h3 : PySem.W.takesIn K (.ref p) = some true)
    (h4 : (PySem.W.recIn K p "property").map (fun l => l.head?) = some (some (.ref g))) : PropOf K C m p g := by
  refine ⟨h1, h2, h3, ?_⟩
  cases hr : PySem.W.recIn K p "property" with
  | none =>
    rw [hr] at h4
    cases h4
  | some l =>
    rw [hr] at h4
    cases l with
    | nil => cases h4
    | cons v l =>
      have ev : some (some v) = some (some (Value.ref g)) := h4
      injection ev with ev
      injection ev with ev
      exact ⟨l, by rw [ev]⟩
theorem kbnOf {x q : Str} {params : Arguments} {body : List Stmt} {scope : Scope} {f : Addr} {fd : FuncData} {ps ks : List Str} {n : Nat} {g : List Value → List Value → List Value} {gV : List V → List V → List V} (F : FunD K x q params body scope [] [] f fd)
    (hto : ∀ (kV doc pm : Value) (an : Option Addr) (cdv ct : Value) (us ws : List Value), us.length = n → ws.length = ks.length → bindArgs (PySem.W.fnOf x q params body scope .none kV doc pm an cdv ct) ⟨us, ks.zip ws⟩ = pure (ps.zip (g us ws)))
    (hrel : ∀ {vs : List V} {us : List Value} {zs : List V} {ws : List Value}, Vals vs us → Vals zs ws → Vals (gV vs zs) (g us ws)) : KBn K fd ps n ks g gV := by
  obtain ⟨oc, od, dV, kV, doc, pm, an, cdv, ct, osl, rfl, lk, hcd, hD, _⟩ := F.ex
  rcases hD with ⟨_, rfl⟩ | ⟨e, _⟩
  · exact ⟨fun s us ws _ h1 h2 => .of_eq (hto kV doc pm an cdv ct us ws h1 h2), hrel⟩
  · exact absurd rfl e
theorem exB_parts (e : exB K = true) : xcB K (ga K "NoTarget") veB "ValueError.__new__" = true ∧
    PySem.W.findIn K (.ref (ga K "NoTarget")) "name" = some none ∧
    PySem.W.findIn K (.ref (ga K "NoTarget")) "__init__" = some (some (.ref (ma K (ga K "NoTarget") "__init__"))) ∧
    PySem.W.typeIn K (.ref (ma K (ga K "NoTarget") "__init__")) = some (.type "function") ∧
    xcB K (ga K "NotSource") veB "ValueError.__new__" = true ∧
    PySem.W.findIn K (.ref (ga K "NotSource")) "name" = some none ∧
    PySem.W.findIn K (.ref (ga K "NotSource")) "__init__" = some (some (.ref (ma K (ga K "NotSource") "__init__"))) ∧
    PySem.W.typeIn K (.ref (ma K (ga K "NotSource") "__init__")) = some (.type "function") ∧
    xcB K (ga K "Conflict") veB "ValueError.__new__" = true ∧
    PySem.W.findIn K (.ref (ga K "Conflict")) "conflicts" = some none ∧
    PySem.W.findIn K (.ref (ga K "Conflict")) "__init__" = some (some (.ref (ma K (ga K "Conflict") "__init__"))) ∧
    PySem.W.typeIn K (.ref (ma K (ga K "Conflict") "__init__")) = some (.type "function") ∧
    xcB K (ga K "NoVersion") ieB "IndexError.__new__" = true ∧
    PySem.W.findIn K (.ref (ga K "NoVersion")) "number" = some none ∧
    PySem.W.findIn K (.ref (ga K "NoVersion")) "__init__" = some (some (.ref (ma K (ga K "NoVersion") "__init__"))) ∧
    PySem.W.typeIn K (.ref (ma K (ga K "NoVersion") "__init__")) = some (.type "function") ∧
    PySem.W.findIn K (.ref (ga K "Source")) "__class__" = some (some (.builtin "object.__class__")) ∧
    PySem.W.mroIn K (ga K "Source") (.type "object") = some true ∧
    PySem.W.findIn K (.ref (ga K "Made")) "__class__" = some (some (.builtin "object.__class__")) ∧
    PySem.W.mroIn K (ga K "Made") (.type "object") = some true ∧
    PySem.W.findIn K (.ref (ga K "Project")) "__class__" = some (some (.builtin "object.__class__")) ∧
    PySem.W.mroIn K (ga K "Project") (.type "object") = some true ∧
    PySem.W.findIn K (.ref (ga K "Merger")) "__class__" = some (some (.builtin "object.__class__")) ∧
    PySem.W.mroIn K (ga K "Merger") (.type "object") = some true ∧
    PySem.W.findIn K (.ref (ga K "History")) "__class__" = some (some (.builtin "object.__class__")) ∧
    PySem.W.mroIn K (ga K "History") (.type "object") = some true ∧
    PySem.W.subIn K (.type "dict") (.ref (ga K "Source")) = some false ∧
    PySem.W.subIn K (.type "dict") (.ref (ga K "Made")) = some false ∧
    PySem.W.subIn K (.type "dict") (.ref (ga K "Project")) = some false ∧
    PySem.W.subIn K (.type "NoneType") (.ref (ga K "Source")) = some false ∧
    PySem.W.subIn K (.ref (ga K "Source")) (.type "NoneType") = some false ∧
    PySem.W.kitOne K (.type "NoneType") (.ref (ga K "Source")) = some false ∧
    PySem.W.subIn K (.type "NoneType") (.ref (ga K "Made")) = some false ∧
    PySem.W.subIn K (.ref (ga K "Made")) (.type "NoneType") = some false ∧
    PySem.W.kitOne K (.type "NoneType") (.ref (ga K "Made")) = some false ∧
    PySem.W.specialIn K (.builtin "object.__class__") "__get__" = some (some (.builtin "getset_descriptor.__get__")) ∧
    PySem.W.takesIn K (.builtin "object.__class__") = some true ∧
    PySem.W.kitOne K (.ref (ga K "Source")) (.ref (ga K "Source")) = some true ∧
    PySem.W.kitOne K (.ref (ga K "Made")) (.ref (ga K "Source")) = some false ∧
    PySem.W.kitOne K (.ref (ga K "Source")) (.ref (ga K "Made")) = some false ∧
    PySem.W.kitOne K (.ref (ga K "Made")) (.ref (ga K "Made")) = some true ∧
    PySem.W.kitOne K (.ref (ga K "Project")) (.ref (ga K "Project")) = some true ∧
    PySem.W.kitOne K (.ref (ga K "Source")) (.ref (ga K "Target")) = some true ∧
    PySem.W.kitOne K (.ref (ga K "Made")) (.ref (ga K "Target")) = some true ∧
    PySem.W.kitOne K (.ref (ga K "Conflict")) (.ref (ga K "BuildError")) = some true ∧
    PySem.W.kitOne K (.ref (ga K "NoVersion")) (.ref (ga K "BuildError")) = some false ∧
    PySem.W.kitOne K (.type "dict") (.ref (ga K "Project")) = some false ∧
    PySem.W.kitOne K (.ref (ga K "Project")) (.type "str") = some false ∧
    PySem.W.kitOne K (.ref (ga K "NoVersion")) (.type "IndexError") = some true ∧
    PySem.W.subIn K (.ref (ga K "Made")) (.ref (ga K "Source")) = some false ∧
    PySem.W.subIn K (.ref (ga K "Source")) (.ref (ga K "Made")) = some false ∧
    PySem.W.findIn K (.ref (ga K "Project")) "__ne__" = some (some (.builtin "object.__ne__")) ∧
    PySem.W.findIn K (.ref (ga K "Made")) "__ne__" = some (some (.builtin "object.__ne__")) ∧
    PySem.W.findIn K (.ref (ga K "Source")) "__ne__" = some (some (.builtin "object.__ne__")) ∧
    PySem.W.exmOne K (.ref (ga K "NoVersion")) (.ref (ga K "NoVersion")) = some true ∧
    PySem.W.fnIn K (ma K (ga K "Project") "__getitem__") = true ∧
    PySem.W.fnIn K (ma K (ga K "History") "__getitem__") = true ∧
    emB K (He.dflAt ("Made", some "__init__") 0 K) = true ∧
    PySem.W.findIn K (.ref (ga K "Source")) "outputs" = some (some (.ref (pAd K "Source" "outputs"))) ∧
    PySem.W.specialIn K (.ref (pAd K "Source" "outputs")) "__get__" = some (some (.builtin "property.__get__")) ∧
    PySem.W.takesIn K (.ref (pAd K "Source" "outputs")) = some true ∧
    (PySem.W.recIn K (pAd K "Source" "outputs") "property").map (fun l => l.head?) = some (some (.ref (gAd K "Source" "outputs"))) ∧
    okAt K (gAd K "Source" "outputs") "Source.outputs" = true ∧
    PySem.W.findIn K (.ref (ga K "Made")) "recipe" = some (some (.ref (pAd K "Made" "recipe"))) ∧
    PySem.W.specialIn K (.ref (pAd K "Made" "recipe")) "__get__" = some (some (.builtin "property.__get__")) ∧
    PySem.W.takesIn K (.ref (pAd K "Made" "recipe")) = some true ∧
    (PySem.W.recIn K (pAd K "Made" "recipe") "property").map (fun l => l.head?) = some (some (.ref (gAd K "Made" "recipe"))) ∧
    okAt K (gAd K "Made" "recipe") "Made.recipe" = true ∧
    PySem.W.findIn K (.ref (ga K "Made")) "arguments" = some (some (.ref (pAd K "Made" "arguments"))) ∧
    PySem.W.specialIn K (.ref (pAd K "Made" "arguments")) "__get__" = some (some (.builtin "property.__get__")) ∧
    PySem.W.takesIn K (.ref (pAd K "Made" "arguments")) = some true ∧
    (PySem.W.recIn K (pAd K "Made" "arguments") "property").map (fun l => l.head?) = some (some (.ref (gAd K "Made" "arguments"))) ∧
    okAt K (gAd K "Made" "arguments") "Made.arguments" = true ∧
    PySem.W.findIn K (.ref (ga K "Project")) "names" = some (some (.ref (pAd K "Project" "names"))) ∧
    PySem.W.specialIn K (.ref (pAd K "Project" "names")) "__get__" = some (some (.builtin "property.__get__")) ∧
    PySem.W.takesIn K (.ref (pAd K "Project" "names")) = some true ∧
    (PySem.W.recIn K (pAd K "Project" "names") "property").map (fun l => l.head?) = some (some (.ref (gAd K "Project" "names"))) ∧
    okAt K (gAd K "Project" "names") "Project.names" = true := by
  unfold exB at e
  simp only [Bool.and_eq_true, decide_eq_true_eq] at e
  exact e
theorem facts {f : Addr} (X : K.In h) (G : h.Ns mainGlobals mg) (hfa : mg ("law" : Str) = some (.ref f)) (y : Says K) :
    ∃ fd : FuncData, (∀ (s : Shared) (v : Value), BindsTo s fd ⟨[v], []⟩ [("_law_script", v)]) ∧ ∀ base : Heap, K.In base → base.Ns mainGlobals mg → FnOk P w K mg base CX0 66 f fd ["_law_script"] (spLaw K) := by
  obtain ⟨c, e, eg⟩ := y
  obtain ⟨p1, p2, p3, p4, p5, p6, p7, p8, p9, p10, p11, p12, p13, p14, p15, p16, p17, p18, p19, p20, p21, p22, p23, p24, p25, p26, p27, p28, p29, p30, p31, p32, p33, p34, p35, p36, p37, p38, p39, p40, p41, p42, p43, p44, p45, p46, p47, p48, p49, p50, p51, p52, p53, p54, p55, p56, p57, p58, p59, p60, p61, p62, p63, p64, p65, p66, p67, p68, p69, p70, p71, p72, p73, p74, p75, p76, p77, p78⟩ := exB_parts e
  have glo : ∀ x ∈ glos ++ ([("law" : Str)] : List Str), mg x = some (.ref (ga K x)) := fun x hx => He.glo_ok X G (factM c (f := .glo x) (List.mem_append_left _ (List.mem_map_of_mem hx)))
  have fre : ∀ x ∈ frees, mg x = none := fun x hx => He.free_ok X G (factM c (f := .free x) (List.mem_append_right _ (List.mem_append_left _ (List.mem_map_of_mem hx))))
  have clSource : Cls K (ga K "Source") := He.cls_ok (factC c (f := .cls "Source") (by simp [faC]))
  have clMade : Cls K (ga K "Made") := He.cls_ok (factC c (f := .cls "Made") (by simp [faC]))
  have clProject : Cls K (ga K "Project") := He.cls_ok (factC c (f := .cls "Project") (by simp [faC]))
  have clMerger : Cls K (ga K "Merger") := He.cls_ok (factC c (f := .cls "Merger") (by simp [faC]))
  have clHistory : Cls K (ga K "History") := He.cls_ok (factC c (f := .cls "History") (by simp [faC]))
  have mkSource : Mk K (ga K "Source") (ma K (ga K "Source") "__init__") := He.mkr_ok (factC c (f := .mkr "Source") (by simp [faC]))
  have mkMade : Mk K (ga K "Made") (ma K (ga K "Made") "__init__") := He.mkr_ok (factC c (f := .mkr "Made") (by simp [faC]))
  have mkProject : Mk K (ga K "Project") (ma K (ga K "Project") "__init__") := He.mkr_ok (factC c (f := .mkr "Project") (by simp [faC]))
  have mkMerger : Mk K (ga K "Merger") (ma K (ga K "Merger") "__init__") := He.mkr_ok (factC c (f := .mkr "Merger") (by simp [faC]))
  have mkHistory : Mk K (ga K "History") (ma K (ga K "History") "__init__") := He.mkr_ok (factC c (f := .mkr "History") (by simp [faC]))
  have naSource_outputs : NoAttr K (ga K "Source") "_outputs" := He.noat_ok (factN c (f := .noat "Source" "_outputs") (by simp [faN]))
  have naMade_recipe : NoAttr K (ga K "Made") "_recipe" := He.noat_ok (factN c (f := .noat "Made" "_recipe") (by simp [faN]))
  have naMade_arguments : NoAttr K (ga K "Made") "_arguments" := He.noat_ok (factN c (f := .noat "Made" "_arguments") (by simp [faN]))
  have naProject_targets : NoAttr K (ga K "Project") "_targets" := He.noat_ok (factN c (f := .noat "Project" "_targets") (by simp [faN]))
  have naMerger_projects : NoAttr K (ga K "Merger") "_projects" := He.noat_ok (factN c (f := .noat "Merger" "_projects") (by simp [faN]))
  have naMerger_targets : NoAttr K (ga K "Merger") "_targets" := He.noat_ok (factN c (f := .noat "Merger" "_targets") (by simp [faN]))
  have naMerger_conflicts : NoAttr K (ga K "Merger") "_conflicts" := He.noat_ok (factN c (f := .noat "Merger" "_conflicts") (by simp [faN]))
  have naHistory_projects : NoAttr K (ga K "History") "_projects" := He.noat_ok (factN c (f := .noat "History" "_projects") (by simp [faN]))
  have naHistory_parents : NoAttr K (ga K "History") "_parents" := He.noat_ok (factN c (f := .noat "History" "_parents") (by simp [faN]))
  have naHistory_lines : NoAttr K (ga K "History") "_lines" := He.noat_ok (factN c (f := .noat "History" "_lines") (by simp [faN]))
  have meSource__eq__ : Meth K (ga K "Source") "__eq__" (ma K (ga K "Source") "__eq__") := He.meth_ok (factT c (f := .meth "Source" "__eq__") (by simp [faM]))
  have meMade__eq__ : Meth K (ga K "Made") "__eq__" (ma K (ga K "Made") "__eq__") := He.meth_ok (factT c (f := .meth "Made" "__eq__") (by simp [faM]))
  have meProject__getitem__ : Meth K (ga K "Project") "__getitem__" (ma K (ga K "Project") "__getitem__") := He.meth_ok (factT c (f := .meth "Project" "__getitem__") (by simp [faM]))
  have meProject__contains__ : Meth K (ga K "Project") "__contains__" (ma K (ga K "Project") "__contains__") := He.meth_ok (factT c (f := .meth "Project" "__contains__") (by simp [faM]))
  have meProject__eq__ : Meth K (ga K "Project") "__eq__" (ma K (ga K "Project") "__eq__") := He.meth_ok (factT c (f := .meth "Project" "__eq__") (by simp [faM]))
  have meMergerresult : Meth K (ga K "Merger") "result" (ma K (ga K "Merger") "result") := He.meth_ok (factT c (f := .meth "Merger" "result") (by simp [faM]))
  have meMergerfailed : Meth K (ga K "Merger") "failed" (ma K (ga K "Merger") "failed") := He.meth_ok (factT c (f := .meth "Merger" "failed") (by simp [faM]))
  have meMerger_merge_target : Meth K (ga K "Merger") "_merge_target" (ma K (ga K "Merger") "_merge_target") := He.meth_ok (factT c (f := .meth "Merger" "_merge_target") (by simp [faM]))
  have meMerger_merged_source : Meth K (ga K "Merger") "_merged_source" (ma K (ga K "Merger") "_merged_source") := He.meth_ok (factT c (f := .meth "Merger" "_merged_source") (by simp [faM]))
  have meHistorycommit : Meth K (ga K "History") "commit" (ma K (ga K "History") "commit") := He.meth_ok (factT c (f := .meth "History" "commit") (by simp [faM]))
  have meHistory__getitem__ : Meth K (ga K "History") "__getitem__" (ma K (ga K "History") "__getitem__") := He.meth_ok (factT c (f := .meth "History" "__getitem__") (by simp [faM]))
  have meHistory__contains__ : Meth K (ga K "History") "__contains__" (ma K (ga K "History") "__contains__") := He.meth_ok (factT c (f := .meth "History" "__contains__") (by simp [faM]))
  have meHistory__len__ : Meth K (ga K "History") "__len__" (ma K (ga K "History") "__len__") := He.meth_ok (factT c (f := .meth "History" "__len__") (by simp [faM]))
  have meHistoryparents : Meth K (ga K "History") "parents" (ma K (ga K "History") "parents") := He.meth_ok (factT c (f := .meth "History" "parents") (by simp [faM]))
  have meHistorytrunk : Meth K (ga K "History") "trunk" (ma K (ga K "History") "trunk") := He.meth_ok (factT c (f := .meth "History" "trunk") (by simp [faM]))
  have meHistorybase : Meth K (ga K "History") "base" (ma K (ga K "History") "base") := He.meth_ok (factT c (f := .meth "History" "base") (by simp [faM]))
  have meHistorymerge : Meth K (ga K "History") "merge" (ma K (ga K "History") "merge") := He.meth_ok (factT c (f := .meth "History" "merge") (by simp [faM]))
  have meHistory_check : Meth K (ga K "History") "_check" (ma K (ga K "History") "_check") := He.meth_ok (factT c (f := .meth "History" "_check") (by simp [faM]))
  have meHistory_add : Meth K (ga K "History") "_add" (ma K (ga K "History") "_add") := He.meth_ok (factT c (f := .meth "History" "_add") (by simp [faM]))
  have prSourceoutputs := propOf p59 p60 p61 p62
  obtain ⟨fdP0, FP0⟩ := funAt (congrArg (fun z : He.FnW × He.FnW × He.FnW × He.FnW => z.1) eg) p63
  have bP0 := FunD.bindsN (ps := ["self"]) FP0 (fun _ _ _ _ _ _ us hl => match us, hl with | [_], _ => rfl)
  have prMaderecipe := propOf p64 p65 p66 p67
  obtain ⟨fdP1, FP1⟩ := funAt (congrArg (fun z : He.FnW × He.FnW × He.FnW × He.FnW => z.2.1) eg) p68
  have bP1 := FunD.bindsN (ps := ["self"]) FP1 (fun _ _ _ _ _ _ us hl => match us, hl with | [_], _ => rfl)
  have prMadearguments := propOf p69 p70 p71 p72
  obtain ⟨fdP2, FP2⟩ := funAt (congrArg (fun z : He.FnW × He.FnW × He.FnW × He.FnW => z.2.2.1) eg) p73
  have bP2 := FunD.bindsN (ps := ["self"]) FP2 (fun _ _ _ _ _ _ us hl => match us, hl with | [_], _ => rfl)
  have prProjectnames := propOf p74 p75 p76 p77
  obtain ⟨fdP3, FP3⟩ := funAt (congrArg (fun z : He.FnW × He.FnW × He.FnW × He.FnW => z.2.2.2) eg) p78
  have bP3 := FunD.bindsN (ps := ["self"]) FP3 (fun _ _ _ _ _ _ us hl => match us, hl with | [_], _ => rfl)
  have B : Bn mg := ⟨fre _ (by decide +kernel), fre _ (by decide +kernel), fre _ (by decide +kernel), fre _ (by decide +kernel), fre _ (by decide +kernel), fre _ (by decide +kernel), fre _ (by decide +kernel), fre _ (by decide +kernel), fre _ (by decide +kernel), fre _ (by decide +kernel), fre _ (by decide +kernel), fre _ (by decide +kernel), fre _ (by decide +kernel), fre _ (by decide +kernel)⟩
  obtain ⟨fd, F⟩ := c.def_ 27 (d := dOf "law" 44) rfl
  have ef := hfa.symm.trans (glo "law" (by decide +kernel))
  cases ef
  have b := FunD.bindsA (ps := ["_law_script"]) F fun _ _ _ _ _ _ us hl => match us, hl with | [_], _ => rfl
  refine ⟨fd, fun s v => b s [v] rfl, fun base hb hg => ?_⟩
  obtain ⟨d0, F0⟩ := c.def_ 0 (d := dOf "_wall" 0) rfl
  have g0 : mg "_wall" = some (.ref (ga K "_wall")) := glo _ (by decide +kernel)
  have b0 : Binds K d0 ["k"] [] := F0.bindsN (fun _ _ _ _ _ _ us hl => match us, hl with | [_], _ => rfl)
  obtain ⟨d1, F1⟩ := c.def_ 1 (d := dOf "_may_choose" 14) rfl
  have g1 : mg "_may_choose" = some (.ref (ga K "_may_choose")) := glo _ (by decide +kernel)
  have b1 : Binds K d1 ["base", "one", "other"] [] := F1.bindsN (fun _ _ _ _ _ _ us hl => match us, hl with | [_, _, _], _ => rfl)
  obtain ⟨d2, F2⟩ := c.def_ 2 (d := dOf "_chosen" 15) rfl
  have g2 : mg "_chosen" = some (.ref (ga K "_chosen")) := glo _ (by decide +kernel)
  have b2 : Binds K d2 ["base", "one", "other"] [] := F2.bindsN (fun _ _ _ _ _ _ us hl => match us, hl with | [_, _, _], _ => rfl)
  obtain ⟨d3, F3⟩ := c.def_ 3 (d := dOf "is_integer" 17) rfl
  have g3 : mg "is_integer" = some (.ref (ga K "is_integer")) := glo _ (by decide +kernel)
  have b3 : Binds K d3 ["value"] [] := F3.bindsN (fun _ _ _ _ _ _ us hl => match us, hl with | [_], _ => rfl)
  obtain ⟨d4, F4⟩ := c.def_ 4 (d := dOf "_law_feed_of" 21) rfl
  have g4 : mg "_law_feed_of" = some (.ref (ga K "_law_feed_of")) := glo _ (by decide +kernel)
  have b4 : Binds K d4 ["_law_script", "_law_k"] [] := F4.bindsN (fun _ _ _ _ _ _ us hl => match us, hl with | [_, _], _ => rfl)
  obtain ⟨d5, F5⟩ := c.def_ 5 (d := dOf "_law_draw" 22) rfl
  have g5 : mg "_law_draw" = some (.ref (ga K "_law_draw")) := glo _ (by decide +kernel)
  have b5 : Binds K d5 ["_law_feed", "_law_many"] [] := F5.bindsN (fun _ _ _ _ _ _ us hl => match us, hl with | [_, _], _ => rfl)
  obtain ⟨d6, F6⟩ := c.def_ 6 (d := dOf "_law_pick" 23) rfl
  have g6 : mg "_law_pick" = some (.ref (ga K "_law_pick")) := glo _ (by decide +kernel)
  have b6 : Binds K d6 ["_law_feed", "_law_items"] [] := F6.bindsN (fun _ _ _ _ _ _ us hl => match us, hl with | [_, _], _ => rfl)
  obtain ⟨d7, F7⟩ := c.def_ 7 (d := dOf "_law_outs" 24) rfl
  have g7 : mg "_law_outs" = some (.ref (ga K "_law_outs")) := glo _ (by decide +kernel)
  have b7 : Binds K d7 [] [] := F7.bindsN (fun _ _ _ _ _ _ us hl => match us, hl with | [], _ => rfl)
  obtain ⟨d8, F8⟩ := c.def_ 8 (d := dOf "_law_calls" 25) rfl
  have g8 : mg "_law_calls" = some (.ref (ga K "_law_calls")) := glo _ (by decide +kernel)
  have b8 : Binds K d8 [] [] := F8.bindsN (fun _ _ _ _ _ _ us hl => match us, hl with | [], _ => rfl)
  obtain ⟨d9, F9⟩ := c.def_ 9 (d := dOf "_law_text" 26) rfl
  have g9 : mg "_law_text" = some (.ref (ga K "_law_text")) := glo _ (by decide +kernel)
  have b9 : Binds K d9 ["_law_feed"] [] := F9.bindsN (fun _ _ _ _ _ _ us hl => match us, hl with | [_], _ => rfl)
  obtain ⟨d10, F10⟩ := c.def_ 10 (d := dOf "_law_source" 27) rfl
  have g10 : mg "_law_source" = some (.ref (ga K "_law_source")) := glo _ (by decide +kernel)
  have b10 : Binds K d10 ["_law_feed"] [] := F10.bindsN (fun _ _ _ _ _ _ us hl => match us, hl with | [_], _ => rfl)
  obtain ⟨d11, F11⟩ := c.def_ 11 (d := dOf "_law_target" 28) rfl
  have g11 : mg "_law_target" = some (.ref (ga K "_law_target")) := glo _ (by decide +kernel)
  have b11 : Binds K d11 ["_law_feed"] [] := F11.bindsN (fun _ _ _ _ _ _ us hl => match us, hl with | [_], _ => rfl)
  obtain ⟨d12, F12⟩ := c.def_ 12 (d := dOf "_law_one" 29) rfl
  have g12 : mg "_law_one" = some (.ref (ga K "_law_one")) := glo _ (by decide +kernel)
  have b12 : Binds K d12 ["_law_told_here"] [] := F12.bindsN (fun _ _ _ _ _ _ us hl => match us, hl with | [_], _ => rfl)
  obtain ⟨d13, F13⟩ := c.def_ 13 (d := dOf "_law_names" 30) rfl
  have g13 : mg "_law_names" = some (.ref (ga K "_law_names")) := glo _ (by decide +kernel)
  have b13 : Binds K d13 [] [] := F13.bindsN (fun _ _ _ _ _ _ us hl => match us, hl with | [], _ => rfl)
  obtain ⟨d14, F14⟩ := c.def_ 14 (d := dOf "_law_drawn" 31) rfl
  have g14 : mg "_law_drawn" = some (.ref (ga K "_law_drawn")) := glo _ (by decide +kernel)
  have b14 : Binds K d14 ["_law_feed"] [] := F14.bindsN (fun _ _ _ _ _ _ us hl => match us, hl with | [_], _ => rfl)
  obtain ⟨d15, F15⟩ := c.def_ 15 (d := dOf "_law_moved" 32) rfl
  have g15 : mg "_law_moved" = some (.ref (ga K "_law_moved")) := glo _ (by decide +kernel)
  have b15 : Binds K d15 ["_law_feed", "_law_targets", "_law_many"] [] := F15.bindsN (fun _ _ _ _ _ _ us hl => match us, hl with | [_, _, _], _ => rfl)
  obtain ⟨d16, F16⟩ := c.def_ 16 (d := dOf "_law_package" 33) rfl
  have g16 : mg "_law_package" = some (.ref (ga K "_law_package")) := glo _ (by decide +kernel)
  have b16 : Binds K d16 ["_law_targets"] [] := F16.bindsN (fun _ _ _ _ _ _ us hl => match us, hl with | [_], _ => rfl)
  obtain ⟨d17, F17⟩ := c.def_ 17 (d := dOf "_law_is_project" 34) rfl
  have g17 : mg "_law_is_project" = some (.ref (ga K "_law_is_project")) := glo _ (by decide +kernel)
  have b17 : Binds K d17 ["_law_project", "_law_targets"] [] := F17.bindsN (fun _ _ _ _ _ _ us hl => match us, hl with | [_, _], _ => rfl)
  obtain ⟨d18, F18⟩ := c.def_ 18 (d := dOf "_law_lineage" 35) rfl
  have g18 : mg "_law_lineage" = some (.ref (ga K "_law_lineage")) := glo _ (by decide +kernel)
  have b18 : Binds K d18 ["_law_parents", "_law_number"] [] := F18.bindsN (fun _ _ _ _ _ _ us hl => match us, hl with | [_, _], _ => rfl)
  obtain ⟨d19, F19⟩ := c.def_ 19 (d := dOf "_law_base" 36) rfl
  have g19 : mg "_law_base" = some (.ref (ga K "_law_base")) := glo _ (by decide +kernel)
  have b19 : Binds K d19 ["_law_parents", "_law_one_here", "_law_other"] [] := F19.bindsN (fun _ _ _ _ _ _ us hl => match us, hl with | [_, _, _], _ => rfl)
  obtain ⟨d20, F20⟩ := c.def_ 20 (d := dOf "_law_merged_outputs" 37) rfl
  have g20 : mg "_law_merged_outputs" = some (.ref (ga K "_law_merged_outputs")) := glo _ (by decide +kernel)
  have b20 : Binds K d20 ["_law_name", "_law_b", "_law_x", "_law_y"] [] := F20.bindsN (fun _ _ _ _ _ _ us hl => match us, hl with | [_, _, _, _], _ => rfl)
  obtain ⟨d21, F21⟩ := c.def_ 21 (d := dOf "_law_merged" 38) rfl
  have g21 : mg "_law_merged" = some (.ref (ga K "_law_merged")) := glo _ (by decide +kernel)
  have b21 : Binds K d21 ["_law_base_here", "_law_one_here", "_law_other"] [] := F21.bindsN (fun _ _ _ _ _ _ us hl => match us, hl with | [_, _, _], _ => rfl)
  obtain ⟨d22, F22⟩ := c.def_ 22 (d := dOf "_law_grown" 39) rfl
  have g22 : mg "_law_grown" = some (.ref (ga K "_law_grown")) := glo _ (by decide +kernel)
  have b22 : Binds K d22 ["_law_feed"] [] := F22.bindsN (fun _ _ _ _ _ _ us hl => match us, hl with | [_], _ => rfl)
  obtain ⟨d23, F23⟩ := c.def_ 23 (d := dOf "_law_told" 40) rfl
  have g23 : mg "_law_told" = some (.ref (ga K "_law_told")) := glo _ (by decide +kernel)
  have b23 : Binds K d23 ["_law_history", "_law_form", "_law_numbers"] [] := F23.bindsN (fun _ _ _ _ _ _ us hl => match us, hl with | [_, _, _], _ => rfl)
  obtain ⟨d24, F24⟩ := c.def_ 24 (d := dOf "_law_trunk" 41) rfl
  have g24 : mg "_law_trunk" = some (.ref (ga K "_law_trunk")) := glo _ (by decide +kernel)
  have b24 : Binds K d24 ["_law_parents", "_law_number"] [] := F24.bindsN (fun _ _ _ _ _ _ us hl => match us, hl with | [_, _], _ => rfl)
  obtain ⟨d25, F25⟩ := c.def_ 25 (d := dOf "_law_is_right" 42) rfl
  have g25 : mg "_law_is_right" = some (.ref (ga K "_law_is_right")) := glo _ (by decide +kernel)
  have b25 : Binds K d25 ["_law_feed", "_law_history", "_law_plans", "_law_parents"] [] := F25.bindsN (fun _ _ _ _ _ _ us hl => match us, hl with | [_, _, _, _], _ => rfl)
  obtain ⟨d26, F26⟩ := c.def_ 26 (d := dOf "_law_lost" 43) rfl
  have g26 : mg "_law_lost" = some (.ref (ga K "_law_lost")) := glo _ (by decide +kernel)
  have b26 : Binds K d26 ["_law_history", "_law_number"] [] := F26.bindsN (fun _ _ _ _ _ _ us hl => match us, hl with | [_, _], _ => rfl)
  obtain ⟨eNoTarget__init__, FNoTarget__init__⟩ := c.def_ 28 (d := dIn "NoTarget" "__init__" "NoTarget.__init__" 3 0) rfl
  have bNoTarget__init__ : Binds K eNoTarget__init__ ["self", "name"] [] := FunD.bindsN FNoTarget__init__ (fun _ _ _ _ _ _ us hl => match us, hl with | [_, _], _ => rfl)
  obtain ⟨eNotSource__init__, FNotSource__init__⟩ := c.def_ 29 (d := dIn "NotSource" "__init__" "NotSource.__init__" 4 0) rfl
  have bNotSource__init__ : Binds K eNotSource__init__ ["self", "name"] [] := FunD.bindsN FNotSource__init__ (fun _ _ _ _ _ _ us hl => match us, hl with | [_, _], _ => rfl)
  obtain ⟨eConflict__init__, FConflict__init__⟩ := c.def_ 30 (d := dIn "Conflict" "__init__" "Conflict.__init__" 5 0) rfl
  have bConflict__init__ : Binds K eConflict__init__ ["self", "conflicts"] [] := FunD.bindsN FConflict__init__ (fun _ _ _ _ _ _ us hl => match us, hl with | [_, _], _ => rfl)
  obtain ⟨eNoVersion__init__, FNoVersion__init__⟩ := c.def_ 31 (d := dIn "NoVersion" "__init__" "NoVersion.__init__" 6 0) rfl
  have bNoVersion__init__ : Binds K eNoVersion__init__ ["self", "number"] [] := FunD.bindsN FNoVersion__init__ (fun _ _ _ _ _ _ us hl => match us, hl with | [_, _], _ => rfl)
  obtain ⟨eSource__init__, FSource__init__⟩ := c.def_ 32 (d := dIn "Source" "__init__" "Source.__init__" 9 0) rfl
  have bSource__init__ : Binds K eSource__init__ ["self", "outputs"] [] := FunD.bindsN FSource__init__ (fun _ _ _ _ _ _ us hl => match us, hl with | [_, _], _ => rfl)
  obtain ⟨eSource__eq__, FSource__eq__⟩ := c.def_ 33 (d := dIn "Source" "__eq__" "Source.__eq__" 9 1) rfl
  have bSource__eq__ : Binds K eSource__eq__ ["self", "other"] [] := FunD.bindsN FSource__eq__ (fun _ _ _ _ _ _ us hl => match us, hl with | [_, _], _ => rfl)
  obtain ⟨eMade__init__, FMade__init__⟩ := c.def_ 34 (d := dInD "Made" "__init__" "Made.__init__" 10 0) rfl
  obtain ⟨dsDMade__init__, vDMade__init__, bDMade__init__⟩ := FMade__init__.binds1 (ps := ["self", "recipe", "arguments"]) 2 0 (by simp [dInD, He.DefD.dvs]) rfl (fun _ _ _ _ _ _ _ us its hl hi => by
    rcases us with _ | ⟨u0, _ | ⟨u1, _ | ⟨u2, us⟩⟩⟩ <;> first | (cases hl; done) | skip
    rcases its with _ | ⟨i0, _ | ⟨i1, its⟩⟩ <;> first | (cases hi; done) | skip
    exact ⟨_, rfl, rfl⟩)
  obtain ⟨dsAMade__init__, vAMade__init__, bAMade__init__⟩ := FMade__init__.binds1 (ps := ["self", "recipe", "arguments"]) 3 1 (by simp [dInD, He.DefD.dvs]) rfl (fun _ _ _ _ _ _ _ us its hl hi => by
    rcases us with _ | ⟨u0, _ | ⟨u1, _ | ⟨u2, _ | ⟨u3, us⟩⟩⟩⟩ <;> first | (cases hl; done) | skip
    rcases its with _ | ⟨i0, _ | ⟨i1, its⟩⟩ <;> first | (cases hi; done) | skip
    exact ⟨_, rfl, rfl⟩)
  cases vAMade__init__
  rcases vDMade__init__ with _ | ⟨hE, _ | _⟩
  cases hE
  obtain ⟨eMade__eq__, FMade__eq__⟩ := c.def_ 35 (d := dIn "Made" "__eq__" "Made.__eq__" 10 1) rfl
  have bMade__eq__ : Binds K eMade__eq__ ["self", "other"] [] := FunD.bindsN FMade__eq__ (fun _ _ _ _ _ _ us hl => match us, hl with | [_, _], _ => rfl)
  obtain ⟨eProject__init__, FProject__init__⟩ := c.def_ 36 (d := dIn "Project" "__init__" "Project.__init__" 11 0) rfl
  have bProject__init__ : Binds K eProject__init__ ["self", "targets"] [] := FunD.bindsN FProject__init__ (fun _ _ _ _ _ _ us hl => match us, hl with | [_, _], _ => rfl)
  obtain ⟨eProject__getitem__, FProject__getitem__⟩ := c.def_ 37 (d := dIn "Project" "__getitem__" "Project.__getitem__" 11 1) rfl
  have bProject__getitem__ : Binds K eProject__getitem__ ["self", "at"] [] := FunD.bindsN FProject__getitem__ (fun _ _ _ _ _ _ us hl => match us, hl with | [_, _], _ => rfl)
  obtain ⟨eProject__contains__, FProject__contains__⟩ := c.def_ 38 (d := dIn "Project" "__contains__" "Project.__contains__" 11 3) rfl
  have bProject__contains__ : Binds K eProject__contains__ ["self", "x"] [] := FunD.bindsN FProject__contains__ (fun _ _ _ _ _ _ us hl => match us, hl with | [_, _], _ => rfl)
  obtain ⟨eProject__eq__, FProject__eq__⟩ := c.def_ 39 (d := dIn "Project" "__eq__" "Project.__eq__" 11 5) rfl
  have bProject__eq__ : Binds K eProject__eq__ ["self", "other"] [] := FunD.bindsN FProject__eq__ (fun _ _ _ _ _ _ us hl => match us, hl with | [_, _], _ => rfl)
  obtain ⟨eMerger__init__, FMerger__init__⟩ := c.def_ 40 (d := dIn "Merger" "__init__" "Merger.__init__" 13 0) rfl
  have bMerger__init__ : Binds K eMerger__init__ ["self", "base", "one", "other"] [] := FunD.bindsN FMerger__init__ (fun _ _ _ _ _ _ us hl => match us, hl with | [_, _, _, _], _ => rfl)
  obtain ⟨eMergerresult, FMergerresult⟩ := c.def_ 41 (d := dIn "Merger" "result" "Merger.result" 13 1) rfl
  have bMergerresult : Binds K eMergerresult ["self"] [] := FunD.bindsN FMergerresult (fun _ _ _ _ _ _ us hl => match us, hl with | [_], _ => rfl)
  obtain ⟨eMergerfailed, FMergerfailed⟩ := c.def_ 42 (d := dIn "Merger" "failed" "Merger.failed" 13 2) rfl
  have bMergerfailed : Binds K eMergerfailed ["self"] [] := FunD.bindsN FMergerfailed (fun _ _ _ _ _ _ us hl => match us, hl with | [_], _ => rfl)
  obtain ⟨eMerger_merge_target, FMerger_merge_target⟩ := c.def_ 43 (d := dIn "Merger" "_merge_target" "Merger._merge_target" 13 3) rfl
  have bMerger_merge_target : Binds K eMerger_merge_target ["self", "name"] [] := FunD.bindsN FMerger_merge_target (fun _ _ _ _ _ _ us hl => match us, hl with | [_, _], _ => rfl)
  obtain ⟨eMerger_merged_source, FMerger_merged_source⟩ := c.def_ 44 (d := dIn "Merger" "_merged_source" "Merger._merged_source" 13 4) rfl
  have bMerger_merged_source : Binds K eMerger_merged_source ["self", "name", "base", "one", "other"] [] := FunD.bindsN FMerger_merged_source (fun _ _ _ _ _ _ us hl => match us, hl with | [_, _, _, _, _], _ => rfl)
  obtain ⟨eHistory__init__, FHistory__init__⟩ := c.def_ 45 (d := dIn "History" "__init__" "History.__init__" 19 0) rfl
  have bHistory__init__ : Binds K eHistory__init__ ["self", "project"] [] := FunD.bindsN FHistory__init__ (fun _ _ _ _ _ _ us hl => match us, hl with | [_, _], _ => rfl)
  obtain ⟨eHistorycommit, FHistorycommit⟩ := c.def_ 46 (d := dIn "History" "commit" "History.commit" 19 1) rfl
  have bHistorycommit : Binds K eHistorycommit ["self", "parent", "project"] [] := FunD.bindsN FHistorycommit (fun _ _ _ _ _ _ us hl => match us, hl with | [_, _, _], _ => rfl)
  obtain ⟨eHistory__getitem__, FHistory__getitem__⟩ := c.def_ 47 (d := dIn "History" "__getitem__" "History.__getitem__" 19 2) rfl
  have bHistory__getitem__ : Binds K eHistory__getitem__ ["self", "at"] [] := FunD.bindsN FHistory__getitem__ (fun _ _ _ _ _ _ us hl => match us, hl with | [_, _], _ => rfl)
  obtain ⟨eHistory__contains__, FHistory__contains__⟩ := c.def_ 48 (d := dIn "History" "__contains__" "History.__contains__" 19 4) rfl
  have bHistory__contains__ : Binds K eHistory__contains__ ["self", "x"] [] := FunD.bindsN FHistory__contains__ (fun _ _ _ _ _ _ us hl => match us, hl with | [_, _], _ => rfl)
  obtain ⟨eHistory__len__, FHistory__len__⟩ := c.def_ 49 (d := dIn "History" "__len__" "History.__len__" 19 5) rfl
  have bHistory__len__ : Binds K eHistory__len__ ["self"] [] := FunD.bindsN FHistory__len__ (fun _ _ _ _ _ _ us hl => match us, hl with | [_], _ => rfl)
  obtain ⟨eHistoryparents, FHistoryparents⟩ := c.def_ 50 (d := dIn "History" "parents" "History.parents" 19 6) rfl
  have bHistoryparents : Binds K eHistoryparents ["self", "number"] [] := FunD.bindsN FHistoryparents (fun _ _ _ _ _ _ us hl => match us, hl with | [_, _], _ => rfl)
  obtain ⟨eHistorytrunk, FHistorytrunk⟩ := c.def_ 51 (d := dIn "History" "trunk" "History.trunk" 19 9) rfl
  have bHistorytrunk : Binds K eHistorytrunk ["self", "number"] [] := FunD.bindsN FHistorytrunk (fun _ _ _ _ _ _ us hl => match us, hl with | [_, _], _ => rfl)
  obtain ⟨eHistorybase, FHistorybase⟩ := c.def_ 52 (d := dIn "History" "base" "History.base" 19 7) rfl
  have bHistorybase : Binds K eHistorybase ["self", "one", "other"] [] := FunD.bindsN FHistorybase (fun _ _ _ _ _ _ us hl => match us, hl with | [_, _, _], _ => rfl)
  obtain ⟨eHistorymerge, FHistorymerge⟩ := c.def_ 53 (d := dIn "History" "merge" "History.merge" 19 8) rfl
  have bHistorymerge : Binds K eHistorymerge ["self", "one", "other"] [] := FunD.bindsN FHistorymerge (fun _ _ _ _ _ _ us hl => match us, hl with | [_, _, _], _ => rfl)
  obtain ⟨eHistory_check, FHistory_check⟩ := c.def_ 54 (d := dIn "History" "_check" "History._check" 19 10) rfl
  have bHistory_check : Binds K eHistory_check ["self", "number"] [] := FunD.bindsN FHistory_check (fun _ _ _ _ _ _ us hl => match us, hl with | [_, _], _ => rfl)
  obtain ⟨eHistory_add, FHistory_add⟩ := c.def_ 55 (d := dIn "History" "_add" "History._add" 19 11) rfl
  have bHistory_add : Binds K eHistory_add ["self", "project", "parents"] [] := FunD.bindsN FHistory_add (fun _ _ _ _ _ _ us hl => match us, hl with | [_, _, _], _ => rfl)
  have xT : Cl1 P w K mg base "NoTarget" (ga K "NoTarget") "name" := ⟨xcB_ok kdVe p1, glo _ (by decide +kernel), p2, _, _, p3, p4, okIni FNoTarget__init__ ⟨rfl, rfl, rfl, by decide +kernel, rfl, by decide +kernel, by decide +kernel⟩ rfl rfl (by decide) (by decide),
    kbnOf FNoTarget__init__ (fun _ _ _ _ _ _ us ws h1 h2 => match us, h1, ws, h2 with | [_, _], _, [], _ => rfl) (fun r _ => r), kbnOf FNoTarget__init__ (fun _ _ _ _ _ _ us ws h1 h2 => match us, h1, ws, h2 with | [_], _, [_], _ => rfl) (fun r t => r.append t)⟩
  have xN : Cl1 P w K mg base "NotSource" (ga K "NotSource") "name" := ⟨xcB_ok kdVe p5, glo _ (by decide +kernel), p6, _, _, p7, p8, okIni FNotSource__init__ ⟨rfl, rfl, rfl, by decide +kernel, rfl, by decide +kernel, by decide +kernel⟩ rfl rfl (by decide) (by decide),
    kbnOf FNotSource__init__ (fun _ _ _ _ _ _ us ws h1 h2 => match us, h1, ws, h2 with | [_, _], _, [], _ => rfl) (fun r _ => r), kbnOf FNotSource__init__ (fun _ _ _ _ _ _ us ws h1 h2 => match us, h1, ws, h2 with | [_], _, [_], _ => rfl) (fun r t => r.append t)⟩
  have xF : Cl1 P w K mg base "Conflict" (ga K "Conflict") "conflicts" := ⟨xcB_ok kdVe p9, glo _ (by decide +kernel), p10, _, _, p11, p12, okIni FConflict__init__ ⟨rfl, rfl, rfl, by decide +kernel, rfl, by decide +kernel, by decide +kernel⟩ rfl rfl (by decide) (by decide),
    kbnOf FConflict__init__ (fun _ _ _ _ _ _ us ws h1 h2 => match us, h1, ws, h2 with | [_, _], _, [], _ => rfl) (fun r _ => r), kbnOf FConflict__init__ (fun _ _ _ _ _ _ us ws h1 h2 => match us, h1, ws, h2 with | [_], _, [_], _ => rfl) (fun r t => r.append t)⟩
  have xV : Cl1 P w K mg base "NoVersion" (ga K "NoVersion") "number" := ⟨xcB_ok kdIe p13, glo _ (by decide +kernel), p14, _, _, p15, p16, okIni FNoVersion__init__ ⟨rfl, rfl, rfl, by decide +kernel, rfl, by decide +kernel, by decide +kernel⟩ rfl rfl (by decide) (by decide),
    kbnOf FNoVersion__init__ (fun _ _ _ _ _ _ us ws h1 h2 => match us, h1, ws, h2 with | [_, _], _, [], _ => rfl) (fun r _ => r), kbnOf FNoVersion__init__ (fun _ _ _ _ _ _ us ws h1 h2 => match us, h1, ws, h2 with | [_], _, [_], _ => rfl) (fun r t => r.append t)⟩
  have iS : IsC K (ga K "Source") := ⟨clSource, p17, p36, p37, p18⟩
  have iM : IsC K (ga K "Made") := ⟨clMade, p19, p36, p37, p20⟩
  have iP : IsC K (ga K "Project") := ⟨clProject, p21, p36, p37, p22⟩
  have iG : IsC K (ga K "Merger") := ⟨clMerger, p23, p36, p37, p24⟩
  have iH : IsC K (ga K "History") := ⟨clHistory, p25, p36, p37, p26⟩
  have mi : mg "isinstance" = none := fre _ (by decide +kernel)
  have md : mg "dict" = none := fre _ (by decide +kernel)
  have oSI := okSInit (P := P) (w := w) (mg := mg) (base := base) (k := 0) clSource naSource_outputs md FSource__init__
  have oPI := okPInit (P := P) (w := w) (mg := mg) (base := base) (k := 0) clProject naProject_targets md FProject__init__
  have oMI := okMInit (P := P) (w := w) (mg := mg) (base := base) (k := 0) clMade naMade_recipe naMade_arguments (fre _ (by decide +kernel)) FMade__init__
  have gS : mg "Source" = some (.ref (ga K "Source")) := glo _ (by decide +kernel)
  have gM : mg "Made" = some (.ref (ga K "Made")) := glo _ (by decide +kernel)
  have oSE := okSEq (P := P) (w := w) (base := base) (k := 0) mi gS iS iM naSource_outputs p38 p39 FSource__eq__
  have oME := okMEq (P := P) (w := w) (base := base) (k := 0) mi gM iS iM naMade_recipe naMade_arguments p41 p40 FMade__eq__
  have oSN := okSEqN (P := P) (w := w) (base := base) (k := 0) mi gS p32 FSource__eq__
  have oMN := okMEqN (P := P) (w := w) (base := base) (k := 0) mi gM p35 FMade__eq__
  have oSO := okSOut (P := P) (w := w) (mg := mg) (base := base) (k := 0) clSource naSource_outputs md FP0
  have oMR := okMRec (P := P) (w := w) (mg := mg) (base := base) (k := 0) clMade naMade_recipe FP1
  have oMA := okMArg (P := P) (w := w) (mg := mg) (base := base) (k := 0) clMade naMade_arguments FP2
  have W : Pjc P w K mg base (ga K "Source") (ga K "Made") (ga K "Project") (ga K "NoTarget") (ga K "NotSource") := ⟨iS, iM, iP, naSource_outputs, naProject_targets, gS, gM, glo _ (by decide +kernel), mi, md, fre _ (by decide +kernel), fre _ (by decide +kernel), fre _ (by decide +kernel), p38, p39, p42, p47, p50, p51,
    ⟨_, _, mkSource, bSource__init__, oSI⟩, ⟨_, _, mkProject, bProject__init__, oPI⟩, ⟨_, _, meSource__eq__.at_, meSource__eq__.fn, bSource__eq__, oSE⟩, ⟨_, _, meMade__eq__.at_, meMade__eq__.fn, bMade__eq__, oME⟩, ⟨_, _, _, prSourceoutputs, bP0, oSO⟩, xT, xN⟩
  have N : Pjn P w K mg base (ga K "Source") (ga K "Made") := ⟨⟨_, _, meSource__eq__.at_, meSource__eq__.fn, bSource__eq__, oSN⟩, ⟨_, _, meMade__eq__.at_, meMade__eq__.fn, bMade__eq__, oMN⟩, p30, p31, p33, p34, p27, p28, p32⟩
  have oPG := okPGet (k := 0) W FProject__getitem__
  have Pa : Pas P w K mg base (ga K "Project") (ga K "NoTarget") := ⟨⟨_, _, meProject__getitem__.at_, p56, meProject__getitem__.fn, bProject__getitem__, oPG⟩, ⟨_, _, meProject__contains__.at_, meProject__contains__.fn, bProject__contains__, okPHas (k := 0) W FProject__contains__⟩, ⟨_, _, _, prProjectnames, bP3, okPNames (k := 0) W FP3⟩⟩
  have Mm : Mdc P w K mg base (ga K "Made") (He.dflAt ("Made", some "__init__") 0 K) := ⟨⟨_, _, mkMade, bDMade__init__, bAMade__init__, oMI⟩, emB_ok p58⟩
  have Li : Lip P w K mg base (ga K "Source") (ga K "Made") (ga K "Project") := ⟨⟨_, _, meProject__eq__.at_, meProject__eq__.fn, bProject__eq__, okPEq (k := 0) W FProject__eq__⟩, p52, p22, ⟨_, _, _, prMaderecipe, bP1, oMR⟩, ⟨_, _, _, prMadearguments, bP2, oMA⟩, p41⟩
  have aMay : Has P w K mg base 2 "_may_choose" ["base", "one", "other"] (spMay (ga K "Source") (ga K "Made")) := ⟨_, d1, g1, F1.kp, b1, okMay (k := 0) W N F1⟩
  have aCho : Has P w K mg base 2 "_chosen" ["base", "one", "other"] (spCho (ga K "Source") (ga K "Made")) := ⟨_, d2, g2, F2.kp, b2, okCho (k := 0) W N F2⟩
  have Mg : Mgc P w K mg base (ga K "Source") (ga K "Made") (ga K "Merger") := ⟨clMerger, iG, naMerger_projects, naMerger_targets, naMerger_conflicts, fre _ (by decide +kernel)⟩
  have oGS := okGSrc (k := 0) W Mg aMay aCho FMerger_merged_source
  have oGT := okGTgt (k := 0) W N Pa Mg aMay aCho ⟨_, _, meMerger_merged_source, bMerger_merged_source, oGS⟩ FMerger_merge_target
  have oGI := okGInit (k := 0) W Pa Mg ⟨_, _, meMerger_merge_target, bMerger_merge_target, oGT⟩ FMerger__init__
  have Hs : Hsc P w K mg base (ga K "History") (ga K "NoVersion") := ⟨iH, naHistory_projects, naHistory_parents, naHistory_lines, xV, mi, fre _ (by decide +kernel), fre _ (by decide +kernel), fre _ (by decide +kernel)⟩
  have aInt : Has P w K mg base 1 "is_integer" ["value"] (spIsInt) := ⟨_, d3, g3, F3.kp, b3, okIsInt (k := 0) Hs F3⟩
  have Hi : HasIn P w K mg base (ga K "History") := ⟨_, _, meHistory__contains__.at_, meHistory__contains__.fn, bHistory__contains__, okHHas (k := 0) Hs aInt FHistory__contains__⟩
  have Hm : Hme P w K mg base (ga K "History") := ⟨⟨_, _, meHistory_check, bHistory_check, okHCheck (k := 0) Hs Hi FHistory_check⟩, ⟨_, _, meHistory_add, bHistory_add, okHAdd (k := 0) Hs FHistory_add⟩⟩
  have Hn : Hmm P w K mg base (ga K "Source") (ga K "Made") (ga K "Project") (ga K "Merger") (ga K "History") (ga K "Conflict") := ⟨glo _ (by decide +kernel), ⟨_, _, mkMerger, bMerger__init__, oGI⟩, ⟨_, _, meMergerresult, bMergerresult, okGRes (k := 0) W Mg FMergerresult⟩, ⟨_, _, meMergerfailed, bMergerfailed, okGFail (k := 0) W Mg FMergerfailed⟩, ⟨_, _, meHistorybase, bHistorybase, okHBase (k := 0) Hs Hm FHistorybase⟩, xF⟩
  have oHM := okHMerge (k := 0) Hs Mg Hm Hn FHistorymerge
  have oHC := okHCommit (k := 0) Hs Hm FHistorycommit
  have oHG := okHGet (k := 0) Hs Hi FHistory__getitem__
  have oHL := okHLen (k := 0) Hs FHistory__len__
  have oHI := okHInit (k := 0) Hs FHistory__init__
  have aFeed : Has P w K mg base 1 "_law_feed_of" ["_law_script", "_law_k"] (spFeed K) := ⟨_, d4, g4, F4.kp, b4, okFeed (k := 0) F4 B.len⟩
  have aDraw : Has P w K mg base 1 "_law_draw" ["_law_feed", "_law_many"] (spDraw) := ⟨_, d5, g5, F5.kp, b5, okDraw (k := 0) F5⟩
  have aPick : Has P w K mg base 2 "_law_pick" ["_law_feed", "_law_items"] (spPick K) := ⟨_, d6, g6, F6.kp, b6, KS.La.okPick (k := 0) F6 B.len aDraw⟩
  have aOuts : Has P w K mg base 1 "_law_outs" [] (spOutsT) := ⟨_, d7, g7, F7.kp, b7, okOutsT (k := 0) F7⟩
  have aCalls : Has P w K mg base 1 "_law_calls" [] (spCalls) := ⟨_, d8, g8, F8.kp, b8, okCalls (k := 0) F8⟩
  have aText : Has P w K mg base 3 "_law_text" ["_law_feed"] (spText) := ⟨_, d9, g9, F9.kp, b9, okTxt (k := 0) F9 aDraw aPick aCalls⟩
  have aSrc : Has P w K mg base 4 "_law_source" ["_law_feed"] (spDrawn) := ⟨_, d10, g10, F10.kp, b10, okSource (k := 0) aDraw aText aOuts F10⟩
  have aTgt : Has P w K mg base 5 "_law_target" ["_law_feed"] (spDrawn) := ⟨_, d11, g11, F11.kp, b11, okTarget (k := 0) F11 B aDraw aPick aCalls aText aSrc⟩
  have aOne : Has P w K mg base 3 "_law_one" ["_law_told_here"] (spOne (ga K "Source") (ga K "Made")) := ⟨_, d12, g12, F12.kp, b12, okOne (k := 0) W Mm F12⟩
  have aNms : Has P w K mg base 1 "_law_names" [] (spNms) := ⟨_, d13, g13, F13.kp, b13, okNms (k := 0) F13⟩
  have aPkg : Has P w K mg base 4 "_law_package" ["_law_targets"] (spWhole (ga K "Source") (ga K "Made") (ga K "Project")) := ⟨_, d16, g16, F16.kp, b16, okWhole (k := 0) W aOne F16⟩
  have aIsP : Has P w K mg base 6 "_law_is_project" ["_law_project", "_law_targets"] (spIsP (ga K "Source") (ga K "Made") (ga K "Project")) := ⟨_, d17, g17, F17.kp, b17, okIsP (k := 0) W Pa Li aPkg F17⟩
  have Bm0 : Bm mg := ⟨B, fre _ (by decide +kernel), fre _ (by decide +kernel), md⟩
  have oHP := okHPar (k := 0) Hs Hm FHistoryparents
  have Hc : HisC P w K mg base (ga K "Source") (ga K "Made") (ga K "Project") (ga K "History") (ga K "Conflict") := ⟨iH, glo _ (by decide +kernel), ⟨_, _, mkHistory, bHistory__init__, oHI⟩, ⟨_, _, meHistorycommit, bHistorycommit, oHC⟩, ⟨_, _, meHistorymerge, bHistorymerge, oHM⟩⟩
  have Hi2 : HasIn2 P w K mg base (ga K "History") := ⟨_, _, meHistory__contains__.at_, meHistory__contains__.fn, bHistory__contains__, okHHas2 (k := 0) Hs aInt FHistory__contains__⟩
  have Ck2 : Chk2 P w K mg base (ga K "History") (ga K "NoVersion") := ⟨_, _, meHistory_check, bHistory_check, okHCheck2 (k := 0) Hs Hi2 FHistory_check⟩
  have oB2 := okHBase2 (k := 0) Hs Ck2 FHistorybase
  have oM2 := okHMerge2 (k := 0) Hs Mg Hm Hn ⟨_, _, meHistorybase, bHistorybase, oB2⟩ FHistorymerge
  have oP2 := okHPar2 (k := 0) Hs Ck2 FHistoryparents
  have oC2 := okHCommit2 (k := 0) Hs Ck2 Hm FHistorycommit
  have oG2 := okHGet2 (k := 0) Hs Hi2 FHistory__getitem__
  have oTk := okHTrunk (k := 0) Hs (fre _ (by decide +kernel)) Ck2 FHistorytrunk
  have oHB := okHBase (k := 0) Hs Hm FHistorybase
  have Nv : NvC P w K mg base (ga K "History") (ga K "NoVersion") (ga K "BuildError") := ⟨xV, p55, glo _ (by decide +kernel), p46, fre _ (by decide +kernel), p49, ⟨_, _, meHistoryparents, bHistoryparents, oP2⟩, ⟨_, _, meHistorytrunk, bHistorytrunk, oTk⟩, ⟨_, _, meHistorycommit, bHistorycommit, oC2⟩, ⟨_, _, meHistorybase, bHistorybase, oB2⟩, ⟨_, _, meHistorymerge, bHistorymerge, oM2⟩, ⟨_, _, meHistory__getitem__.at_, p57, meHistory__getitem__.fn, bHistory__getitem__, oG2⟩⟩
  have Rg : RghC P w K mg base (ga K "History") (ga K "NoVersion") := ⟨Hi2, ⟨_, _, meHistory__getitem__.at_, p57, meHistory__getitem__.fn, bHistory__getitem__, oHG⟩, ⟨_, _, meHistory__len__.at_, meHistory__len__.fn, bHistory__len__, oHL⟩, ⟨_, _, meHistoryparents, bHistoryparents, oHP⟩, ⟨_, _, meHistorytrunk, bHistorytrunk, oTk⟩, ⟨_, _, meHistorybase, bHistorybase, oHB⟩⟩
  have aDrn : Has P w K mg base 6 "_law_drawn" ["_law_feed"] (spTabN) := ⟨_, d14, g14, F14.kp, b14, okDrawn (k := 0) aDraw aTgt aNms F14⟩
  have aMov : Has P w K mg base 6 "_law_moved" ["_law_feed", "_law_targets", "_law_many"] (spMoved) := ⟨_, d15, g15, F15.kp, b15, okMoved (k := 0) B md aDraw aPick aText aOuts aTgt aNms F15⟩
  have aLin : Has P w K mg base 1 "_law_lineage" ["_law_parents", "_law_number"] (spLin) := ⟨_, d18, g18, F18.kp, b18, okLin (k := 0) B F18⟩
  have aBas : Has P w K mg base 2 "_law_base" ["_law_parents", "_law_one_here", "_law_other"] (spBase) := ⟨_, d19, g19, F19.kp, b19, okBase (k := 0) B aLin F19⟩
  have aMO : Has P w K mg base 1 "_law_merged_outputs" ["_law_name", "_law_b", "_law_x", "_law_y"] (spMO) := ⟨_, d20, g20, F20.kp, b20, okMO (k := 0) Bm0 F20⟩
  have aMgd : Has P w K mg base 2 "_law_merged" ["_law_base_here", "_law_one_here", "_law_other"] (spMg) := ⟨_, d21, g21, F21.kp, b21, okMg (k := 0) Bm0 aMO F21⟩
  have aGrn : Has P w K mg base 9 "_law_grown" ["_law_feed"] (spGrown (ga K "Source") (ga K "Made") (ga K "Project") (ga K "History")) := ⟨_, d22, g22, F22.kp, b22, okGr (k := 0) Bm0 Hc aDrn aDraw aMgd aBas aMov aPkg F22⟩
  have aTld : Has P w K mg base 9 "_law_told" ["_law_history", "_law_form", "_law_numbers"] (spTold (ga K "History")) := ⟨_, d23, g23, F23.kp, b23, okTold (k := 0) B W Hc Nv F23⟩
  have aTrk : Has P w K mg base 1 "_law_trunk" ["_law_parents", "_law_number"] (spLTrk) := ⟨_, d24, g24, F24.kp, b24, okLTrk (k := 0) B F24⟩
  have aRgt : Has P w K mg base 10 "_law_is_right" ["_law_feed", "_law_history", "_law_plans", "_law_parents"] (spRg (ga K "Source") (ga K "Made") (ga K "Project") (ga K "History")) := ⟨_, d25, g25, F25.kp, b25, okRg (k := 0) F25 B Hc Rg aTld aDraw aIsP aTrk aBas⟩
  have aLst : Has P w K mg base 6 "_law_lost" ["_law_history", "_law_number"] (spLost (ga K "History")) := ⟨_, d26, g26, F26.kp, b26, okLost (k := 0) Nv F26⟩
  exact (okLaw (k := 0) F B aFeed aGrn aRgt aLst).mono (by decide)
end
end PJ.HD

set_option Elab.async false
set_option linter.all false
set_option maxRecDepth 100000
set_option maxHeartbeats 0
open PySem PySem.W PySem.Calls PyProof.Rows
theorem PySem.Challenge.cw_farenough_k49_versions_of_a_project_holds : PySem.Challenge.rw_farenough_k49_versions_of_a_project.Holds := by
  w_on; o_law
  refine HandSHeadRun.head_any (r := OpenLaw.row PySem.Challenge.rw_farenough_k49_versions_of_a_project) (q := view (OpenLaw.row PySem.Challenge.rw_farenough_k49_versions_of_a_project).prog [44]) (H := PJ.HD.hk) (ob := PJ.HD.ob) (M := 20000) (loose := PJ.HD.loose)
    (d := HandSHeadRun.topDef (OpenLaw.row PySem.Challenge.rw_farenough_k49_versions_of_a_project).prog 44) (kwd := []) PJ.HD.ob_eq
    (by kernel_rfl) (fun s => by kernel_rfl) PJ.HD.run (by kernel_rfl) (by kernel_rfl) (by kernel_rfl) (by rfl) (by first | assumption | decide +kernel) (by decide +kernel) ⟨rfl, rfl, rfl, rfl, rfl, by decide +kernel⟩ ?hw ?hc
  case hw => w_witness2
  case hc =>
    refine L2.walk_ofE (l := PySem.Challenge.rw_farenough_k49_versions_of_a_project) (n := 63) (k := 66) (x := "_law_script") (CX := L2.CX0) rfl (by decide) (by kernel_rfl) ⟨rfl, by decide, by decide⟩ ?F (fun _ _ _ _ z => z)
    intro w mg fa h Y G hmg0
    obtain ⟨K, KX, y⟩ := Y
    have hmg : mg ("law" : PySem.Str) = some (.ref fa) := by
      have e : (HandSHeadRun.topDef (OpenLaw.row PySem.Challenge.rw_farenough_k49_versions_of_a_project).prog 44).name = ("law" : PySem.Str) := by kernel_rfl
      rw [← e]
      exact hmg0
    obtain ⟨fd, hb, hF⟩ := PJ.HD.facts (P := (PySem.Challenge.rw_farenough_k49_versions_of_a_project).prog) (w := w) KX G hmg y
    exact ⟨K, fd, PJ.spLaw K, KX, hb, fun H a ns hl _ hS => ⟨a, ns, rfl, hS, hl, fun _ => rfl⟩, hF⟩


import PyProof.Rows.All
import HandS.ForMost
import HandS.Style
import HandS.IsInst
import HandS.Zip
import HandS.TupAny
import HandS.Codes
import HandS.Words
import HandS.Defaults
import PySem.Challenge.RW_farenough_k48_changes_of_projects
import Wide.All
import OpenK.AllK
import Wide.FinOn
import HandS.ForExc
import HandS.ExcInit
import HandS.ExcField
import HandS.ExcIs
import HandS.ExcValue
import PyProof.ExcBaseAll.IndexError
import PyProof.ExcBaseAll.LookupError
import KE.KExcInit
import KE.KExcIs
import HandS.MakeKw
import KE.KStateDown
import HandS.More
import HandS.Head0
import HandS.Head1
import HandS.Head2
import HandS.HeadEnd
import HandS.HeadHook2
import HandS.DictEq
import HandS.DictComp
import PyProof.Rows.StrJoinRep
import HandS.WordsDict
import HandS.OwnEq
import OpenK.KMeth
import PyProof.InstEq
import HandS.New
import HandS.Iter
import HandS.Dict
import HandS.Star
import OpenK.KOps
import HandS.TryMany
import HandS.Property
import PyProof.EqKinds
import HandS.TupSets
import HandS.Strs
import HandS.SetTxt0
import HandS.SetBool
import HandS.SetFor
import KE.DataCmp
import PyProof.Rows.SortStr
import PyProof.Rows.StrMeet
import PyProof.Rows.TmSorted
import HandS.ExcOwn
import HandS.CallSlots
import PyProof.NeKinds
import HandS.Flow
import HandS.WideBits
set_option Elab.async false
set_option linter.all false
set_option maxRecDepth 100000
set_option maxHeartbeats 4000000
namespace KS
open PySem PySem.Spec PyProof.Rows L2
def top (i : Nat) : Stmt := PySem.Challenge.pw_farenough_k48_changes_of_projects.main.body.getD i (.Pass ⟨0, 0, 0, 0⟩)
abbrev FnP (K : PySem.W.Frag) (x : Str) (st : Stmt) (f : Addr) (fd : FuncData) : Prop := FunD K x x (defArgs st) (defBody st) (defScope st) [] [] f fd
abbrev lFeed : Stmt := top 17
abbrev lDraw : Stmt := top 18
abbrev lPick : Stmt := top 19
abbrev lCalls : Stmt := top 21
abbrev lText : Stmt := top 22
end KS

set_option Elab.async false
set_option linter.all false
set_option maxRecDepth 100000
set_option maxHeartbeats 4000000
namespace KX
open PySem PySem.Spec PyProof.Rows
abbrev veB : List Value := [.type "ValueError", .type "Exception", .type "BaseException", .type "object"]
abbrev keB : List Value := [.type "KeyError", .type "LookupError", .type "Exception", .type "BaseException", .type "object"]
abbrev ieB : List Value := [.type "IndexError", .type "LookupError", .type "Exception", .type "BaseException", .type "object"]
theorem storeKey : StoreFacts "KeyError" keB "object.__setattr__" "object" where
  mro := by kernel_rfl
  slot := .of (owner := "object") (n := "__setattr__")
    (by rw [typeLookup_type, builtinLookup_eq_fast]; kernel_rfl)
    (by decide +kernel)
    (by decide +kernel) (by decide +kernel)
    (by first
      | exact .inl (by decide +kernel)
      | exact .inr (by decide +kernel))
    (by rw [isSubtype_type]; kernel_rfl)
  entry := F.entry_object_sa
  kind := by decide +kernel
  split := by decide +kernel
  hasOwner := by decide +kernel
  args := fun a b c => by unfold argsOk; kernel_rfl
  passes := fun self => by kernel_rfl
/-- a chain of classes over a built-in error, made by newId -/
structure Kd (bmB : List Value) (newId : String) : Prop where
  made : ∃ B initId bmF, ExcBaseFacts B newId initId bmF ∧ bmB.contains (.type B) = true ∧ bmB.contains (.type "AttributeError") = false ∧ bmB.contains (.type "NameError") = false
  st : ∃ S, StoreFacts S bmB "object.__setattr__" "object"
theorem kdVe : Kd veB "ValueError.__new__" := ⟨⟨_, _, _, F.excBase_ValueError, by decide +kernel, by decide +kernel, by decide +kernel⟩, ⟨_, F.store_ValueError⟩⟩
theorem kdKe : Kd keB "LookupError.__new__" := ⟨⟨_, _, _, F.excBase_LookupError, by decide +kernel, by decide +kernel, by decide +kernel⟩, ⟨_, storeKey⟩⟩
theorem kdIe : Kd ieB "IndexError.__new__" := ⟨⟨_, _, _, F.excBase_IndexError, by decide +kernel, by decide +kernel, by decide +kernel⟩, ⟨_, F.store_IndexError⟩⟩
section
variable {prog : Program} {w : World} {A : Around} {E : Value → Shared → Prop} {R : Result → Shared → Prop} {h : Heap} {g : Array GenState} {d : Drawn} {t : Nat} {os : OsState}
variable {nm q : Str} {C N : Addr} {bs bm bmF : List Value} {hdct : Bool} {sn : List Str} {sub : List Value} {ab : Bool} {col : Option Bool} {dd : Option Addr} {k0 k1 k2 k3 k5 : Option Value} {B newId initId : String}
abbrev Stands (h : Heap) (nm q : Str) (C N : Addr) (bs bm : List Value) (hdct : Bool) (sn : List Str) (sub : List Value) (ab : Bool) (col : Option Bool) (dd : Option Addr) (k0 k1 k2 k3 k5 : Option Value) (newId : String) : Prop :=
  h.get? C = some (excClassObj nm q C N bs bm hdct sn sub ab col dd k0 k1 k2 k3 k5 newId)
theorem chkNew {M : Model} (F : ExcBaseFacts B newId initId bmF) (hB : bm.contains (.type B) = true) {rest : List Value} {kw : List (Str × Value)} {Q : Unit → Shared → Prop}
    (hC : Stands h nm q C N bs bm hdct sn sub ab col dd k0 k1 k2 k3 k5 newId) (hq : Q () ⟨h, g, d, t, os⟩) :
    wpAny M A (checkBuiltinCall newId ⟨.ref C :: rest, kw⟩) Q E ⟨h, g, d, t, os⟩ := by
  have hin : (Value.ref C :: bm).contains (.type B) = true := by
    rw [List.contains_cons, hB, Bool.or_true]
  have star := F.noStar
  simp only [checkBuiltinCall, F.newKind, F.newSplit, F.newRow]
  repeat (first
    | refine wpAny_loadPart_at hC ?_
    | (refine wpAny_isSubtype_exc hC ?_; rw [hin])
    | refine wpAny_staticBase_exc hC ?_
    | refine wpAny_madeBy_exc hC ?_
    | simp only [bne_self_eq_false, Bool.false_eq_true, if_false]
    | wp_step)
  exact hq
theorem newG (F : ExcBaseFacts B newId initId bmF) (hB : bm.contains (.type B) = true) (hA : bm.contains (.type "AttributeError") = false) (hN : bm.contains (.type "NameError") = false)
    {rest : List Value} {kw : List (Str × Value)} (hC : Stands h nm q C N bs bm hdct sn sub ab col dd k0 k1 k2 k3 k5 newId)
    (hq : R (.ok (.ret (.ref (h.objs.size + 1)))) ⟨(h.push (W.kdv_tup rest)).push (HandSPX.excO C h.objs.size), g, d, t, os⟩) (hrest : rest.length ≤ sizeLine) :
    codeAny (model prog w) A (.builtin newId ⟨.ref C :: rest, kw⟩) R ⟨h, g, d, t, os⟩ := by
  have ends := F.ends
  have i1 : (Value.ref C :: bm).contains (.type B) = true := by
    rw [List.contains_cons, hB, Bool.or_true]
  have i2 : (Value.ref C :: bm).contains (.type "AttributeError") = false := by
    rw [List.contains_cons, hA]; rfl
  have i3 : (Value.ref C :: bm).contains (.type "NameError") = false := by
    rw [List.contains_cons, hN]; rfl
  refine codeAny_builtinAt F.entry ?_
  unfold Builtin.«BaseException.__new__»
  refine PySem.wpAt_bind ?_
  show PySem.wpAt _ _ _ (PySem.stack >>= _) _ _ _
  refine PySem.wpAt_bind (PySem.wpAt_stack fun p below => PySem.wpAt_of_wpAny ?_)
  wp_walk
  refine PySem.wpAt_of_wpAny ?_
  rw [F.owner]
  repeat (first
    | with_reducible refine wpAny_madeHere_exc F.canon hC ?_
    | with_reducible refine wpAny_loadPart_at hC ?_
    | (with_reducible refine wpAny_isSubtype_exc hC ?_
       first | rw [i1] | rw [i2] | rw [i3])
    | wp_step)
  show R _ _
  rw [Heap.size_push]
  exact hq
theorem tcallG (F : ExcBaseFacts B newId initId bmF) (hB : bm.contains (.type B) = true) (hA : bm.contains (.type "AttributeError") = false) (hN : bm.contains (.type "NameError") = false)
    {rest : List Value} {kw : List (Str × Value)} {fI : Addr} {Q : Fin → Shared → Prop} (hC : Stands h nm q C N bs bm hdct sn sub ab col dd k0 k1 k2 k3 k5 newId)
    (hi : W.Looks (model prog w) h (typeLookup (.ref C) "__init__") (some (.ref fI))) (hb : ∀ self, W.Looks (model prog w) h (bindSpecial (.ref fI) self) (.ref fI, [self])) (hrest : rest.length ≤ sizeLine)
    (hq : codeAny (model prog w) A (.call (.ref fI) ⟨.ref (h.objs.size + 1) :: rest, kw⟩)
      (fun r s' => match r with
        | .ok (.ret v) => v = .none ∧ Q (.done (.ret (.ref (h.objs.size + 1)))) s'
        | .ok _ => False
        | .error e => E e s')
      ⟨(h.push (W.kdv_tup rest)).push (HandSPX.excO C h.objs.size), g, d, t, os⟩) :
    wpAny (model prog w) A (Builtin.«type.__call__» ⟨.ref C :: rest, kw⟩) Q E ⟨h, g, d, t, os⟩ := by
  repeat (first
    | with_reducible refine wpAny_loadPart_at hC ?_
    | with_reducible refine wpAny_madeBy_exc hC ?_
    | wp_step)
  refine codeAny_call_builtin_code (Code.quiet_builtin _ F.quiet) (chkNew F hB hC ?_)
  refine newG F hB hA hN hC ?_ hrest
  show wpAny _ _ _ _ _ _
  have k : ∀ b o, h.get? b = some o → ((h.push (W.kdv_tup rest)).push (HandSPX.excO C h.objs.size)).get? b = some o := fun b o e =>
    Heap.get?_push_of_some _ (Heap.get?_push_of_some _ e)
  have hC1 := k _ _ hC
  have there : ((h.push (W.kdv_tup rest)).push (HandSPX.excO C h.objs.size)).get? (h.objs.size + 1) = some (HandSPX.excO C h.objs.size) := by
    heap_get
  have self : (Value.ref C :: bm).contains (.ref C) = true := by simp
  have j1 := hi.keeps k
  have j2 := (hb (.ref (h.objs.size + 1))).keeps k
  unfold isInstance
  repeat (first
    | with_reducible refine wpAny_loadPart_at there ?_
    | (with_reducible refine wpAny_isSubtype_exc hC1 ?_
       rw [self])
    | wp_step)
  show wpAny _ _ (typeLookup (.ref C) _) _ _ _
  refine j1.at ?_
  refine wpAny_holding (wpAny_bind (j2.at ?_))
  refine wpAny_bind (wpAny_call (codeAny_mono hq fun r s' z => ?_))
  rcases r with e | (v | _ | _ | _) <;> first | exact z | exact z.elim | skip
  obtain ⟨rfl, z⟩ := z
  first
    | exact wpAny_pure (wpAny_pure z)
    | (wp_walk; exact z)
theorem callG (F : ExcBaseFacts B newId initId bmF) (hB : bm.contains (.type B) = true) (hA : bm.contains (.type "AttributeError") = false) (hN : bm.contains (.type "NameError") = false)
    {rest : List Value} {kw : List (Str × Value)} {fI : Addr} (hC : Stands h nm q C N bs bm hdct sn sub ab col dd k0 k1 k2 k3 k5 newId)
    (hi : W.Looks (model prog w) h (typeLookup (.ref C) "__init__") (some (.ref fI))) (hb : ∀ self, W.Looks (model prog w) h (bindSpecial (.ref fI) self) (.ref fI, [self])) (hrest : rest.length ≤ sizeLine)
    (hq : codeAny (model prog w) (A.under (.builtin "type.__call__" ⟨.ref C :: rest, kw⟩)) (.call (.ref fI) ⟨.ref (h.objs.size + 1) :: rest, kw⟩) (W.InitBack (h.objs.size + 1) R)
      ⟨(h.push (W.kdv_tup rest)).push (HandSPX.excO C h.objs.size), g, d, t, os⟩) :
    codeAny (model prog w) A (.call (.ref C) ⟨rest, kw⟩) R ⟨h, g, d, t, os⟩ := by
  have f1 := tc_lookup
  have f2 := tc_bind (.ref C)
  have isT : (⟨h, g, d, t, os⟩ : Shared).TypeIs (.ref C) "type" := ⟨_, hC, rfl⟩
  refine codeAny_of_tree ?_
  show wpAny _ _ (callAny (.ref C) _) _ _ _
  repeat (any_goals (first
    | assumption
    | with_reducible refine wpAny_loadPart_at hC ?_
    | wp_step))
  refine ⟨rfl, ?_⟩
  refine codeAny_call_builtin_at (Code.quiet_builtin _ (by decide +kernel)) entry_typeCall (wpAny_check_type_call_sub hC (tcallG F hB hA hN hC hi hb hrest ?_))
  refine codeAny_mono hq fun r s' z => ?_
  rcases r with e | (v | _ | _ | _) <;> exact z
end
end KX

set_option Elab.async false
set_option linter.all false
set_option maxRecDepth 100000
set_option maxHeartbeats 4000000
namespace KX
open PySem PySem.Spec PyProof.Rows L2
open Builtin.ObjectAttr (storeInOwnDict ownDictForStores)
open PySem.W (Frag findIn subIn typeIn keepIn hasDictIn mroIn specialIn takesIn excInitIn excOver clsIn takerIn)
/-! ### a class of errors, as the written part has it -/
structure XC (K : Frag) (C : Addr) : Prop where
  kd : ∃ bmB newId, Kd bmB newId ∧ excInitIn K C bmB newId = true ∧ excOver K C bmB = true
  sa : findIn K (.ref C) "__setattr__" = some (some (.builtin "object.__setattr__"))
  ga : findIn K (.ref C) "__getattribute__" = some (some (.builtin "BaseException.__getattribute__"))
  gg : findIn K (.ref C) "__getattr__" = some none
  ex : subIn K (.ref C) (.type "BaseException") = some true
  ty : typeIn K (.ref C) = some (.type "type")
  kp : keepIn K (.ref C) = true
  hd : hasDictIn K C = true
  cl : findIn K (.ref C) "__class__" = some (some (.builtin "object.__class__"))
  gt : specialIn K (.builtin "object.__class__") "__get__" = some (some (.builtin "getset_descriptor.__get__"))
  st : takesIn K (.builtin "object.__class__") = some true
  ob : mroIn K C (.type "object") = some true
def xcB (K : Frag) (C : Addr) (bmB : List Value) (newId : String) : Bool :=
  excInitIn K C bmB newId && (excOver K C bmB && (decide (findIn K (.ref C) "__setattr__" = some (some (.builtin "object.__setattr__")))
    && (decide (findIn K (.ref C) "__getattribute__" = some (some (.builtin "BaseException.__getattribute__"))) && (decide (findIn K (.ref C) "__getattr__" = some none)
    && (decide (subIn K (.ref C) (.type "BaseException") = some true) && (decide (typeIn K (.ref C) = some (.type "type")) && (keepIn K (.ref C) && (hasDictIn K C
    && (decide (findIn K (.ref C) "__class__" = some (some (.builtin "object.__class__"))) && (decide (specialIn K (.builtin "object.__class__") "__get__" = some (some (.builtin "getset_descriptor.__get__")))
    && (decide (takesIn K (.builtin "object.__class__") = some true) && decide (mroIn K C (.type "object") = some true))))))))))))
theorem xcB_ok {K : Frag} {C : Addr} {bmB : List Value} {newId : String} (k : Kd bmB newId) (h : xcB K C bmB newId = true) : XC K C := by
  unfold xcB at h
  simp only [Bool.and_eq_true, decide_eq_true_eq] at h
  obtain ⟨h1, h2, h3, h4, h5, h6, h7, h8, h9, h10, h11, h12, h13⟩ := h
  exact ⟨⟨_, _, k, h1, h2⟩, h3, h4, h5, h6, h7, h8, h9, h10, h11, h12, h13⟩
/-! ### self.name = v -/
section
variable {prog : Program} {w : World} {A : Around} {R : Result → Shared → Prop} {hp : Heap} {g : Array GenState} {d : Drawn} {t : Nat} {os : OsState}
theorem osaNew {K : Frag} {name : Str} {tk : Tok} {v : Value} {x C : Addr} {fv : Array Value} {S : String} {bmB : List Value} (SF : StoreFacts S bmB "object.__setattr__" "object")
    (X : K.In hp) (hx : hp.get? x = some { cls := .ref C, data := .fields fv }) (ov : excOver K C bmB = true) (hh : hasDictIn K C = true) (ha : findIn K (.ref C) name = some none)
    (hq : ∀ h' tk' dx, (∀ b o, b ≠ x → hp.get? b = some o → h'.get? b = some o) → hp.objs.size ≤ dx → dx ≠ x →
      h'.get? x = some { cls := .ref C, dict := some dx, data := .fields fv } → h'.Ns1 dx (fun y => if y = name then some v else none) → R (.ok (.ret .none)) ⟨h', g, d, tk', os⟩) :
    codeAny (model prog w) A (.call (.builtin "object.__setattr__") ⟨[.ref x, .str name tk, v], []⟩) R ⟨hp, g, d, t, os⟩ := by
  have hxs : x ≠ hp.objs.size := Nat.ne_of_lt (Heap.lt_size hx)
  have tkr : takerIn K C name = some none := by
    unfold PySem.W.takerIn
    rw [ha]
    rfl
  refine PySem.W.osa_openX (s := ⟨hp, g, d, t, os⟩) (od := none) SF X ⟨hx, rfl, rfl, trivial⟩ ov tkr fun b => ?_
  obtain ⟨cd, hcd, hdd⟩ := PySem.W.any_some hh
  have hcls : PySem.W.Looks (model prog w) hp (classData C) cd := PySem.W.looks_clsIn X hcd
  show wpAny _ _ (storeInOwnDict (.ref x) (.ref C) (.str name tk) name v b) _ _ _
  obtain ⟨nm, bs, mro, ns, qn, hd, sn, sb, ab, col, del⟩ := cd
  dsimp only at hdd
  subst hdd
  unfold storeInOwnDict ownDictForStores
  repeat (first
    | with_reducible refine HandSPX.store_in_new ?_ ?_
    | with_reducible refine wpAny_loadPart_at hx ?_
    | with_reducible refine hcls.at ?_
    | wp_step)
  · exact ⟨_, #[], _, (Heap.get?_update_ne _ _ _ _ hxs.symm).trans (Heap.get?_push_at rfl rfl), rfl, fun e he => absurd he (by simp), fun _ => rfl⟩
  · intro h' tk' hn' hs
    have hx1 : (hp.push { cls := .type "dict", data := .dict #[] }).get? x = some { cls := .ref C, data := .fields fv } := Heap.get?_push_of_some _ hx
    refine hq h' tk' hp.objs.size (fun b o hb ho => ?_) (Nat.le_refl _) hxs.symm ?_ hn'
    · refine (hs.2 b (Nat.ne_of_lt (Heap.lt_size ho))).trans ?_
      exact (Heap.get?_update_ne _ _ _ _ hb).trans (Heap.get?_push_of_some _ ho)
    · exact (hs.2 x hxs).trans (Heap.get?_update_self _ hx1 rfl)
theorem osaOld {K : Frag} {name : Str} {tk : Tok} {v : Value} {x C dx : Addr} {fv : Array Value} {m0 : Str → Option Value} {nl : List Str} {S : String} {bmB : List Value} (SF : StoreFacts S bmB "object.__setattr__" "object")
    (X : K.In hp) (hx : hp.get? x = some { cls := .ref C, dict := some dx, data := .fields fv }) (hns : hp.Ns1 dx m0) (hw : Within m0 nl) (hz : nl.length ≤ 1000)
    (ov : excOver K C bmB = true) (hh : hasDictIn K C = true) (ha : findIn K (.ref C) name = some none)
    (hq : ∀ h' tk', (∀ b o, b ≠ dx → hp.get? b = some o → h'.get? b = some o) → h'.Ns1 dx (fun y => if y = name then some v else m0 y) → R (.ok (.ret .none)) ⟨h', g, d, tk', os⟩) :
    codeAny (model prog w) A (.call (.builtin "object.__setattr__") ⟨[.ref x, .str name tk, v], []⟩) R ⟨hp, g, d, t, os⟩ := by
  obtain ⟨oD, esD, epD, hoD, hdD, _⟩ := hns.count hw
  have tkr : takerIn K C name = some none := by
    unfold PySem.W.takerIn
    rw [ha]
    rfl
  refine PySem.W.osa_openX (s := ⟨hp, g, d, t, os⟩) (od := some oD) SF X ⟨hx, rfl, rfl, hoD⟩ ov tkr fun b => ?_
  obtain ⟨cd, hcd, hdd⟩ := PySem.W.any_some hh
  have hcls : PySem.W.Looks (model prog w) hp (classData C) cd := PySem.W.looks_clsIn X hcd
  show wpAny _ _ (storeInOwnDict (.ref x) (.ref C) (.str name tk) name v b) _ _ _
  obtain ⟨nm, bs, mro, ns, qn, hd, sn, sb, ab, col, del⟩ := cd
  dsimp only at hdd
  subst hdd
  unfold storeInOwnDict ownDictForStores
  repeat (first
    | with_reducible refine OEX.store_in_old hns hw hz ?_
    | with_reducible refine wpAny_loadPart_at hx ?_
    | with_reducible refine hcls.at ?_
    | wp_step)
  intro h' tk' hn' hs
  exact hq h' tk' (fun b o hb ho => (hs.2 b hb).trans ho) hn'
end
end KX

set_option Elab.async false
set_option linter.all false
set_option maxRecDepth 100000
set_option maxHeartbeats 4000000
namespace KX
open PySem PySem.Spec PyProof.Rows L2
open PySem.W (Frag findIn subIn typeIn keepIn hasDictIn mroIn specialIn takesIn excInitIn excOver clsIn takerIn)
/-! ### stores, reads, isinstance, over the abstract heap -/
section
variable {X : Cx} {pins : List (Addr × Obj)} {σ : L2.St} {H : Hp} {s : Shared} {a C dx : Addr} {f : Str} {y : V} {u : Value} {fs : List (Str × V)} {E : Value → Shared → Prop} {A : Around}
theorem unTwo {hp h' : Heap} {dx : Addr} (e : H a = some (exo a C none)) (hnd : H dx = none) (dn : hp.objs.size ≤ dx) (k : ∀ b o, b ≠ a → hp.get? b = some o → h'.get? b = some o)
    (hx : ∃ o, h'.get? a = some o) : Un X.fs [] H (upd (upd H dx (exd dx fs)) a (exo a C (some dx))) hp h' := by
  have fresh : ∀ {b : Addr} {o : Obj}, hp.get? b = some o → b ≠ dx := fun q => Nat.ne_of_lt (Nat.lt_of_lt_of_le (Heap.lt_size q) dn)
  have off : ∀ {b : Addr}, H b = none → b ≠ a := fun n z => by
    rw [z, e] at n
    cases n
  constructor
  · exact fun b o q n _ _ => k b o (off n) q
  · exact fun b o q n _ _ => ⟨o.slots, k b o (off n) q⟩
  · intro b o q n _
    rw [upd_ne (off n), upd_ne (fresh q)]
    exact n
  · intro b o q _
    by_cases hb : b = a
    · rw [hb]
      exact hx
    · exact ⟨o, k b o hb q⟩
  · intro b xs q
    rw [upd_ne (at_ne e q exo_tup), upd_ne (ne_of_none q hnd)]
    exact q
  · intro b o v q
    rw [upd_ne (at_ne e q exo_frz), upd_ne (ne_of_none q hnd)]
    exact q
  · intro b ps q
    refine ⟨#[], ?_⟩
    rw [upd_ne (at_ne e q exo_tbl), upd_ne (ne_of_none q hnd), q]
    simp
theorem ostNew {Q : Unit → Shared → Prop} (T : XC X.K C) (I : Inv X pins σ H s) (e : H a = some (exo a C none)) (hno : findIn X.K (.ref C) f = some none) (ry : RelV y u)
    (h : ∀ dx s', H dx = none → dx ≠ a → Inv X pins σ (upd (upd H dx (exd dx [(f, y)])) a (exo a C (some dx))) s' → Q () s') :
    wpAny (model X.prog X.w) A (setAttr (.ref a) f u) Q E s := by
  obtain ⟨bmB, newId, ⟨_, S, SF⟩, _, ov⟩ := T.kd
  obtain ⟨t1, ho⟩ := exo_at I.hok e
  obtain ⟨hp, gs, dr, tk, os⟩ := s
  refine PySem.W.set_plain I.kIn (ox := HandSPX.excO C t1) (od := none) ⟨ho, rfl, rfl, trivial⟩ T.sa ?_
  refine osaNew SF I.kIn ho ov T.hd hno (fun h' tk' dx k dn dne hx hn => ?_)
  have hnd : H dx = none := I.hok.fresh dn
  refine h dx _ hnd dne (I.un (t' := tk') (unTwo e hnd dn k ⟨_, hx⟩) fun b o q => ?_)
  by_cases hb : b = a
  · subst hb
    rw [upd_same] at q
    cases q
    exact exo_ok hx
  · rw [upd_ne hb] at q
    by_cases hd : b = dx
    · subst hd
      rw [upd_same] at q
      cases q
      exact exd_ok hn (relO_put (fs := []) ry fun _ => True.intro)
    · rw [upd_ne hd] at q
      refine (I.hok b o q).stay (fun c v hc z => k c v ?_ z) (fun c hc => ?_) fun c xs hc => ?_
      · rcases hc with hc | hc
        · rw [hc]
          exact hb
        · exact at_ne e hc exo_own
      · rw [upd_ne (at_ne e hc exo_own), upd_ne (ne_of_none hc hnd)]
        exact hc
      · rw [upd_ne (at_ne e hc exo_tup), upd_ne (ne_of_none hc hnd)]
        exact hc
theorem ostOld {Q : Unit → Shared → Prop} (T : XC X.K C) (I : Inv X pins σ H s) (e : H a = some (exo a C (some dx))) (ed : H dx = some (exd dx fs)) (hl : fs.length ≤ 900) (hno : findIn X.K (.ref C) f = some none) (ry : RelV y u)
    (h : ∀ s', Inv X pins σ (upd H dx (exd dx ((f, y) :: fs))) s' → Q () s') :
    wpAny (model X.prog X.w) A (setAttr (.ref a) f u) Q E s := by
  obtain ⟨bmB, newId, ⟨_, S, SF⟩, _, ov⟩ := T.kd
  obtain ⟨t1, ho⟩ := exo_at I.hok e
  obtain ⟨mA, hns, rel⟩ := exd_at I.hok ed
  have hw := within_of rel
  obtain ⟨hp, gs, dr, tk, os⟩ := s
  obtain ⟨oD, _, _, hoD, _, _⟩ := hns.count hw
  refine PySem.W.set_plain I.kIn (ox := { HandSPX.excO C t1 with dict := some dx }) (od := some oD) ⟨ho, rfl, rfl, hoD⟩ T.sa ?_
  refine osaOld SF I.kIn ho hns hw (by rw [List.length_map]; omega) ov T.hd hno (fun h' tk' k hn => ?_)
  have there : ∃ o, h'.get? dx = some o := by
    obtain ⟨o, _, _, e', _⟩ := hn
    exact ⟨o, e'⟩
  refine h _ (I.write (t' := tk') (x := dx) (e := dx) (o := exd dx ((f, y) :: fs)) ?_ (.inl rfl) k there (exd_ok hn (relO_put ry rel)))
  rw [ed]
  exact True.intro
/-- at e: an error of the class at C whose dict holds fs | that has no dict -/
def ErD (H : Hp) (e C : Addr) (fs : List (Str × V)) : Prop := ∃ d, H e = some (exo e C (some d)) ∧ H d = some (exd d fs)
def Er0 (H : Hp) (e C : Addr) : Prop := H e = some (exo e C none)
def Er (H : Hp) (e C : Addr) : Prop := Er0 H e C ∨ ∃ fs, ErD H e C fs
theorem ErD.same {H H' : Hp} {e C : Addr} {fs : List (Str × V)} (k : Same H H') : ErD H e C fs → ErD H' e C fs := fun ⟨d, h1, h2⟩ => ⟨d, k _ _ h1, k _ _ h2⟩
theorem Er0.same {H H' : Hp} {e C : Addr} (k : Same H H') : Er0 H e C → Er0 H' e C := fun h => k _ _ h
theorem Er.same {H H' : Hp} {e C : Addr} (k : Same H H') : Er H e C → Er H' e C
  | .inl h => .inl (h.same k)
  | .inr ⟨fs, h⟩ => .inr ⟨fs, h.same k⟩
/-- an error as an instance -/
theorem Er.inst (I : Inv X pins σ H s) {e C : Addr} (h : Er H e C) : ∃ ox od, PySem.W.InstAt s.heap e ox C od := by
  rcases h with h | ⟨fs, d, h1, h2⟩
  · obtain ⟨t1, ho⟩ := exo_at I.hok h
    exact ⟨_, none, ho, rfl, rfl, trivial⟩
  · obtain ⟨t1, ho⟩ := exo_at I.hok h1
    obtain ⟨mA, hns, rel⟩ := exd_at I.hok h2
    obtain ⟨oD, _, _, hoD, _, _⟩ := hns.count (within_of rel)
    exact ⟨_, some oD, ho, rfl, rfl, hoD⟩
/-- isinstance(e, c), c one class -/
def rIsX (K : Frag) : List V → Hp → VK → Prop := fun xs H Q => ∃ (e C : Addr) (c : V) (cv : Value) (b : Bool), xs = [.ref e, c] ∧ Er H e C ∧ XC K C ∧ ClsV c cv ∧ PySem.W.kitOne K (.ref C) cv = some b ∧ Q (.bl b) H
theorem callIsX : CallR X (.builtin "isinstance") (rIsX X.K) := by
  intro pins s σ H xs us Q I r h
  obtain ⟨e, C, c, cv, b, rfl, he, T, hc, ans, q⟩ := h
  obtain ⟨u1, u2, rfl, r1, r2⟩ := vals2 r
  have e2 := hc.eq r2
  subst e2
  cases (show u1 = Value.ref e from r1)
  obtain ⟨ox, od, J⟩ := he.inst I
  have hcl : (clsIn X.K C).isSome = true := by
    obtain ⟨cd, hcd, _⟩ := PySem.W.any_some T.hd
    rw [hcd]
    rfl
  exact PySem.W.kia_one (PySem.W.kitx_exc hcl T.ga T.gg T.ex T.cl T.gt T.st T.ob) I.kIn J ans (fun z => nomatch z) fun tk => ⟨.bl b, H, I.tok tk, rfl, q⟩
/-- e.f, e an error that is held -/
def tXfld (K : Frag) (f : Str) (te : TE) : TE := fun σ H Q => te σ H fun x H1 => ∃ (e C : Addr) (fs : List (Str × V)) (v : V), x = .ref e ∧ ErD H1 e C fs ∧ XC K C ∧ findIn K (.ref C) f = some none ∧ fs.lookup f = some v ∧ Q v H1
theorem peXfld {o : Expr} {te : TE} {pos : Pos} (ho : PE X o te) (hb : attributeBase o f X.env (eval o X.env) = eval o X.env := by rfl) : PE X (.Attribute o f pos) (tXfld X.K f te) := by
  refine ⟨fun pins s σ H Q I h => ?_⟩
  refine attr_of hb (thn (ho.run pins s σ H _ I h) fun w s1 hh => ?_)
  obtain ⟨x, H1, I1, rx, e, C, fs, v, ex, ⟨d, h1, h2⟩, T, hno, l, q⟩ := hh
  subst ex
  cases (show w = Value.ref e from rx)
  obtain ⟨t1, he⟩ := exo_at I1.hok h1
  obtain ⟨mA, hns, rel⟩ := exd_at I1.hok h2
  obtain ⟨od, hod, hl⟩ := lookIn_ns hns
  obtain ⟨u, hu, ru⟩ := RelO.some_of (v := v) (o := mA f) (by rw [← l]; exact rel f)
  have J : PySem.W.InstAt s1.heap e { HandSPX.excO C t1 with dict := some d } C (some od) := ⟨he, rfl, rfl, hod⟩
  exact HandSPX.exc_get I1.kIn J T.ga T.gg T.ex (PySem.W.findObj_own T.hd hno rfl (by rw [hl, hu])) (handed_of ru) ⟨v, H1, I1.tok _, ru, q⟩
/-- self.f = e -/
def tOstX (K : Frag) (f : Str) (to te : TE) : TS := fun D σ H => te σ H fun y H1 => to σ H1 fun x H2 => ∃ a C : Addr, x = .ref a ∧ XC K C ∧ findIn K (.ref C) f = some none ∧
  ((H2 a = some (exo a C none) ∧ ∀ dx, H2 dx = none → dx ≠ a → D.nx σ (upd (upd H2 dx (exd dx [(f, y)])) a (exo a C (some dx)))) ∨
    ∃ (dx : Addr) (fs : List (Str × V)), H2 a = some (exo a C (some dx)) ∧ H2 dx = some (exd dx fs) ∧ fs.length ≤ 900 ∧ D.nx σ (upd H2 dx (exd dx ((f, y) :: fs))))
theorem psOstX {o e : Expr} {to te : TE} {p' pos : Pos} (ho : PE X o to) (he : PE X e te) (hs : swapsWith e (some (.Attribute o f p')) pos.line X.env = pure false := by rfl) : PS X (.Assign [.Attribute o f p'] e pos) (tOstX X.K f to te) := by
  refine ⟨fun pins s σ H D I h => ?_⟩
  refine plainObj_wpAny_Assign_Attribute (thn (he.run pins s σ H _ I h) fun v s1 ⟨y, H1, I1, r1, q1⟩ => ?_) hs
  refine thn (ho.run pins s1 σ H1 _ I1 q1) fun u s2 ⟨x, H2, I2, r2, a, C, ex, T, hno, q⟩ => ?_
  subst ex
  cases (show u = Value.ref a from r2)
  rcases q with ⟨ea, q⟩ | ⟨dx, fs, ea, ed, hl, q⟩
  · exact ostNew T I2 ea hno r1 fun dx s' n ne J => ⟨σ, _, J, q dx n ne⟩
  · exact ostOld T I2 ea ed hl hno r1 fun s' J => ⟨σ, _, J, q⟩
end
end KX

set_option Elab.async false
set_option linter.all false
set_option maxRecDepth 100000
set_option maxHeartbeats 4000000
namespace KX
open PySem PySem.Spec PyProof.Rows L2
open PySem.W (Frag findIn subIn typeIn keepIn hasDictIn mroIn specialIn takesIn excInitIn excOver clsIn takerIn)
/-! ### C(e, ..), an error with an __init__ of its own -/
section
variable {X : Cx} {CX : CXT} {k n : Nat} {fI C : Addr} {fd : FuncData} {ps ks : List Str} {sp : Sp} {g : List Value → List Value → List Value} {gV : List V → List V → List V}
variable {pins : List (Addr × Obj)} {σ : L2.St} {H : Hp} {s : Shared} {us ws : List Value} {vs zs : List V}
/-- the making, down to the __init__: R what is wanted of its end -/
theorem mkRun {R : Value → Shared → Prop} {Er' : Value → Shared → Prop} {E : XK} {Qi : Addr → VK} (T : XC X.K C) (iC : findIn X.K (.ref C) "__init__" = some (some (.ref fI))) (tI : typeIn X.K (.ref fI) = some (.type "function"))
    (F : FnOk X.prog X.w X.K X.mg X.base CX k fI fd ps sp) (hr : Room (k + 1) X.A) (hb : KBn X.K fd ps (n + 1) ks g gV) (I : Inv X pins σ H s) (r : Vals vs us) (rz : Vals zs ws)
    (l1 : vs.length = n) (l2 : zs.length = ks.length) (small : n ≤ 1000)
    (h : ∀ a, H a = none → s.heap.objs.size ≤ a → sp (gV (.ref a :: vs) zs) (upd H a (exo a C none)) (Qi a) E)
    (q : ∀ a t' h0 r' s', H a = none → s.heap.objs.size ≤ a → (∀ b o, s.heap.get? b = some o → h0.get? b = some o) → Inv X pins σ (upd H a (exo a C none)) { s with heap := h0, toks := t' } →
      CR CX X.stack X.prog X.w (upd H a (exo a C none)) { s with heap := h0, toks := t' } (Qi a) E r' s' →
      W.InitBack a (fun r s' => match r with | .ok (.ret v) => R v s' | .ok _ => False | .error e => Er' e s') r' s') :
    wpAny (model X.prog X.w) X.A (call (.ref C) us (ks.zip ws)) R Er' s := by
  obtain ⟨bmB, newId, ⟨⟨B, initId, bmF, F0, hB, hA, hN⟩, _⟩, qI, _⟩ := T.kd
  obtain ⟨nm, N, qn, bs, bm, hdct, sn, sub, ab, col, dd, k0, k1, k2, k3, k5, hC, hT⟩ := PySem.W.excInit_of I.kIn qI
  obtain ⟨hp, gs, dr, tk, os⟩ := s
  have hsz : hp.objs.size ≤ hp.objs.size + 1 := Nat.le_succ _
  have free : H (hp.objs.size + 1) = none := I.hok.fresh hsz
  have hq := h (hp.objs.size + 1) free hsz
  have kk : ∀ b o, hp.get? b = some o → ((hp.push (PySem.W.kdv_tup us)).push (HandSPX.excO C hp.objs.size)).get? b = some o := fun b o e =>
    Heap.get?_push_of_some _ (Heap.get?_push_of_some _ e)
  have there : ((hp.push (PySem.W.kdv_tup us)).push (HandSPX.excO C hp.objs.size)).get? (hp.objs.size + 1) = some (HandSPX.excO C hp.objs.size) := by
    heap_get
  have I2 : Inv X pins σ (upd H (hp.objs.size + 1) (exo (hp.objs.size + 1) C none)) ⟨(hp.push (PySem.W.kdv_tup us)).push (HandSPX.excO C hp.objs.size), gs, dr, tk, os⟩ :=
    I.laid (t' := tk) (a := hp.objs.size + 1) (o := exo (hp.objs.size + 1) C none) kk hsz (exo_ok there)
  have r1 : Vals (V.ref (hp.objs.size + 1) :: vs) (Value.ref (hp.objs.size + 1) :: us) := .cons rfl r
  have r2 := hb.rel r1 rz
  have e1 : (Value.ref (hp.objs.size + 1) :: us).length = n + 1 := r1.length.symm.trans (congrArg Nat.succ l1)
  have e2 : ws.length = ks.length := rz.length.symm.trans l2
  have lus : us.length ≤ sizeLine := by
    rw [← Paired.length r, sizeLine_eq]
    omega
  refine wpAny_call (callG F0 (by rw [hT]; exact hB) (by rw [hT]; exact hA) (by rw [hT]; exact hN) hC (PySem.W.looks_findIn I.kIn iC) (fun self => PySem.W.bind_fn I.kIn self tI) lus ?_)
  refine codeAny_mono (F.run _ X.stack _ _ ⟨Value.ref (hp.objs.size + 1) :: us, ks.zip ws⟩ (g (Value.ref (hp.objs.size + 1) :: us) ws) _ _ E (hr.make C us (ks.zip ws)) (I2.env0.make C us (ks.zip ws)) (hb.to _ _ ws I2.kIn e1 e2) r2 hq) fun r' s' z => ?_
  exact q _ tk _ r' s' free hsz kk I2 z
theorem runMkX {Q : VK} {E : XK} (T : XC X.K C) (iC : findIn X.K (.ref C) "__init__" = some (some (.ref fI))) (tI : typeIn X.K (.ref fI) = some (.type "function"))
    (F : FnOk X.prog X.w X.K X.mg X.base CX k fI fd ps sp) (hr : Room (k + 1) X.A) (hb : KBn X.K fd ps (n + 1) ks g gV) (hx : Passes CX X E) (I : Inv X pins σ H s) (r : Vals vs us) (rz : Vals zs ws)
    (l1 : vs.length = n) (l2 : zs.length = ks.length) (small : n ≤ 1000)
    (h : ∀ a, H a = none → sp (gV (.ref a :: vs) zs) (upd H a (exo a C none)) (fun v H2 => v = .non ∧ Q (.ref a) H2) E) :
    wpAny (model X.prog X.w) X.A (call (.ref C) us (ks.zip ws)) (EP X pins σ Q) X.xe s := by
  refine mkRun (Qi := fun a v H2 => v = .non ∧ Q (.ref a) H2) T iC tI F hr hb I r rz l1 l2 small (E := E) (fun a ha _ => h a ha) ?_
  intro a t' h0 r' s' _ _ _ I2 z
  cases r' with
  | error e => exact hx pins σ _ _ e s' I2 z
  | ok fl =>
    cases fl with
    | ret u =>
      obtain ⟨v, H', I3, rv, ev, q3⟩ := I2.after z
      subst ev
      exact ⟨rv, ⟨V.ref a, H', I3, rfl, q3⟩⟩
    | next => exact False.elim z
    | brk => exact False.elim z
    | cont => exact False.elim z
theorem runMkE {Q : XK} (T : XC X.K C) (iC : findIn X.K (.ref C) "__init__" = some (some (.ref fI))) (tI : typeIn X.K (.ref fI) = some (.type "function"))
    (F : FnOk X.prog X.w X.K X.mg X.base CX k fI fd ps sp) (hr : Room (k + 1) X.A) (hb : KBn X.K fd ps (n + 1) ks g gV) (hx : Passes CX X (fun _ _ _ => False)) (I : Inv X pins σ H s) (r : Vals vs us) (rz : Vals zs ws)
    (l1 : vs.length = n) (l2 : zs.length = ks.length) (small : n ≤ 1000)
    (h : ∀ a, H a = none → sp (gV (.ref a :: vs) zs) (upd H a (exo a C none)) (fun v H2 => v = .non ∧ ∃ (d : Addr) (fs : List (Str × V)), H2 a = some (exo a C (some d)) ∧ H2 d = some (exd d fs) ∧ H d = none ∧ Q (.ref C) (some d) (upd (del H2 a) d (.xd fs))) (fun _ _ _ => False)) :
    wpAny (model X.prog X.w) X.A (call (.ref C) us (ks.zip ws)) (MkP X pins σ Q) X.xe s := by
  refine mkRun (Qi := fun a v H2 => v = .non ∧ ∃ (d : Addr) (fs : List (Str × V)), H2 a = some (exo a C (some d)) ∧ H2 d = some (exd d fs) ∧ H d = none ∧ Q (.ref C) (some d) (upd (del H2 a) d (.xd fs)))
    T iC tI F hr hb I r rz l1 l2 small (fun a ha _ => h a ha) ?_
  intro a t' h0 r' s' _ ge kk I2 z
  cases r' with
  | error e => exact hx pins σ _ _ e s' I2 z
  | ok fl =>
    cases fl with
    | ret u =>
      obtain ⟨v, H2, os2, bare2, un2, hok2, rv, ev, d, fs, ea, ed, hd1, q2⟩ := z
      subst ev
      obtain ⟨hp, g1, d1, t1, o1⟩ := s
      obtain ⟨h2, g2, d2, t2, os'⟩ := s'
      exact ⟨rv, mk_end (raises_own T.ex T.ty) I ge kk un2 hok2 os2 bare2 ea ed hd1 q2⟩
    | next => exact False.elim z
    | brk => exact False.elim z
    | cont => exact False.elim z
end
end KX

set_option Elab.async false
set_option linter.all false
set_option maxRecDepth 100000
set_option maxHeartbeats 4000000
namespace KX
open PySem PySem.Spec PyProof.Rows L2
open PySem.W (Frag findIn subIn typeIn keepIn hasDictIn mroIn specialIn takesIn excInitIn excOver clsIn takerIn)
theorem sameUpd {H : Hp} {p : Addr} {o : HO} (h : H p = none) : Same H (upd H p o) := fun b x e => by
  rw [upd_ne (ne_of_none e h)]
  exact e
/-- __init__(self, f): self.f = f -/
def spIni (K : Frag) (f : Str) : Sp := fun vs H Q _ => ∃ (a C : Addr) (v : V), vs = [.ref a, v] ∧ XC K C ∧ findIn K (.ref C) f = some none ∧ H a = some (exo a C none) ∧
  ∀ dx, H dx = none → dx ≠ a → Q .non (upd (upd H dx (exd dx [(f, v)])) a (exo a C (some dx)))
def spIni2 (K : Frag) (f f2 : Str) : Sp := fun vs H Q _ => ∃ (a C : Addr) (v v2 : V), vs = [.ref a, v, v2] ∧ XC K C ∧ findIn K (.ref C) f = some none ∧ findIn K (.ref C) f2 = some none ∧ H a = some (exo a C none) ∧
  ∀ dx H', Same H (upd H' a (exo a C none)) → H' a = some (exo a C (some dx)) → H' dx = some (exd dx [(f2, v2), (f, v)]) → H dx = none → Q .non H'
section
variable {P : Program} {w : World} {K : Frag} {mg : Str → Option Value} {base : Heap} {fI : Addr} {fd : FuncData} {q f f2 : Str} {params : Arguments} {scope : Scope}
theorem okIni {p1 p2 p3 p4 : Pos} (Fd : FunD K "__init__" q params [.Assign [.Attribute (.Name "self" p1) f p2] (.Name f p3) p4] scope [] [] fI fd) (S : FnScope ["self", f] ["self", f] scope)
    (v0 : scope.names.lookup ("self" : Str) = some .local) (v1 : scope.names.lookup f = some .local) (d1 : (f == ("__debug__" : Str)) = false) (d2 : (f == ("__classdict__" : Str)) = false) :
    FnOk P w K mg base CX0 1 fI fd ["self", f] (spIni K f) := by
  refine Fd.ok S (fun vs H Q E h => ?_) (fun cdv A outer s H vs Q E hr h => ?_)
  · obtain ⟨a, C, v, rfl, _⟩ := h
    rfl
  · refine ⟨_, PSs.nox (pss_one (psOstX (pe_var (i := 0) rfl (.inl v0)) (pe_var (i := 1) rfl (.inl v1) d1 d2))), ?_⟩
    obtain ⟨a, C, v, rfl, T, hno, ha, k⟩ := h
    exact ⟨v, rfl, .ref a, rfl, a, C, rfl, T, hno, .inl ⟨ha, fun dx n ne => k dx n ne⟩⟩
theorem okIni2 {p1 p2 p3 p4 q1 q2 q3 q4 : Pos} (Fd : FunD K "__init__" q params [.Assign [.Attribute (.Name "self" p1) f p2] (.Name f p3) p4, .Assign [.Attribute (.Name "self" q1) f2 q2] (.Name f2 q3) q4] scope [] [] fI fd)
    (S : FnScope ["self", f, f2] ["self", f, f2] scope)
    (v0 : scope.names.lookup ("self" : Str) = some .local) (v1 : scope.names.lookup f = some .local) (v2 : scope.names.lookup f2 = some .local) (d1 : (f == ("__debug__" : Str)) = false) (d2 : (f == ("__classdict__" : Str)) = false)
    (d3 : (f2 == ("__debug__" : Str)) = false) (d4 : (f2 == ("__classdict__" : Str)) = false) : FnOk P w K mg base CX0 1 fI fd ["self", f, f2] (spIni2 K f f2) := by
  refine Fd.ok S (fun vs H Q E h => ?_) (fun cdv A outer s H vs Q E hr h => ?_)
  · obtain ⟨a, C, v, w, rfl, _⟩ := h
    rfl
  · refine ⟨_, PSs.nox (pss_cons (psOstX (pe_var (i := 0) rfl (.inl v0)) (pe_var (i := 1) rfl (.inl v1) d1 d2)) (pss_one (psOstX (pe_var (i := 0) rfl (.inl v0)) (pe_var (i := 2) rfl (.inl v2) d3 d4)))), ?_⟩
    obtain ⟨a, C, v, w, rfl, T, hno, hno2, ha, k⟩ := h
    refine ⟨v, rfl, .ref a, rfl, a, C, rfl, T, hno, .inl ⟨ha, fun dx n ne => ?_⟩⟩
    refine ⟨w, rfl, .ref a, rfl, a, C, rfl, T, hno2, .inr ⟨dx, [(f, v)], upd_same, ?_, (by show 1 ≤ 900; decide), ?_⟩⟩
    · rw [upd_ne ne, upd_same]
    · refine k dx _ (fun b o e => ?_) ?_ upd_same n
      · by_cases hb : b = a
        · rw [hb, upd_same, ← ha, ← hb, e]
        · have hd : b ≠ dx := ne_of_none e n
          rw [upd_ne hb, upd_ne hd, upd_ne hb, upd_ne hd]
          exact e
      · rw [upd_ne (Ne.symm ne), upd_same]
end
/-- the class x of errors with one field f; with two | with none of its own -/
structure Cl1 (P : Program) (w : World) (K : Frag) (mg : Str → Option Value) (base : Heap) (x : Str) (C : Addr) (f : Str) : Prop where
  xc : XC K C
  gm : mg x = some (.ref C)
  no : findIn K (.ref C) f = some none
  ini : ∃ fI fd, findIn K (.ref C) "__init__" = some (some (.ref fI)) ∧ typeIn K (.ref fI) = some (.type "function") ∧ FnOk P w K mg base CX0 1 fI fd ["self", f] (spIni K f) ∧
    KBn K fd ["self", f] 2 [] (fun us _ => us) (fun vs _ => vs) ∧ KBn K fd ["self", f] 1 [f] (fun us ws => us ++ ws) (fun vs zs => vs ++ zs)
structure Cl2 (P : Program) (w : World) (K : Frag) (mg : Str → Option Value) (base : Heap) (x : Str) (C : Addr) (f f2 : Str) : Prop where
  xc : XC K C
  gm : mg x = some (.ref C)
  no : findIn K (.ref C) f = some none
  no2 : findIn K (.ref C) f2 = some none
  ini : ∃ fI fd, findIn K (.ref C) "__init__" = some (some (.ref fI)) ∧ typeIn K (.ref fI) = some (.type "function") ∧ FnOk P w K mg base CX0 1 fI fd ["self", f, f2] (spIni2 K f f2) ∧
    KBn K fd ["self", f, f2] 3 [] (fun us _ => us) (fun vs _ => vs) ∧ KBn K fd ["self", f, f2] 1 [f2, f] (fun us ws => us ++ ws.reverse) (fun vs zs => vs ++ zs.reverse)
structure Cl0 (K : Frag) (mg : Str → Option Value) (x : Str) (C : Addr) : Prop where
  xc : XC K C
  gm : mg x = some (.ref C)
  own : PySem.W.excIn K C veB "ValueError.__new__" = true
section
variable {X : Cx} {C : Addr} {x f f2 : Str} {p pos : Pos} {e e2 : Expr} {te : TE} {ta : TA} {k1 k2 : Pos}
/-- C(e) -/
def tMk1 (C : Addr) (f : Str) (ta : TA) : TE := fun σ H Q => ta σ H fun vs H1 => ∃ v, vs = [v] ∧ ∀ a H2, H1 a = none → Same H1 H2 → ErD H2 a C [(f, v)] → Q (.ref a) H2
theorem mk1_end {H1 : Hp} {Q : VK} {v : V} (T : XC X.K C) (no : findIn X.K (.ref C) f = some none) (q : ∀ a H2, H1 a = none → Same H1 H2 → ErD H2 a C [(f, v)] → Q (.ref a) H2) (a : Addr) (ha : H1 a = none) :
    spIni X.K f [.ref a, v] (upd H1 a (exo a C none)) (fun v H2 => v = .non ∧ Q (.ref a) H2) E0 := by
  refine ⟨a, C, v, rfl, T, no, upd_same, fun dx hdx hne => ⟨rfl, ?_⟩⟩
  have n1 : H1 dx = none := by
    rw [upd_ne hne] at hdx
    exact hdx
  refine q a _ ha (fun b o hb => ?_) ⟨dx, upd_same, ?_⟩
  · have b1 := ne_of_none hb ha
    have b2 := ne_of_none hb n1
    rw [upd_ne b1, upd_ne b2, upd_ne b1]
    exact hb
  · rw [upd_ne hne, upd_same]
theorem peMk1 (T : Cl1 X.prog X.w X.K X.mg X.base x C f) (hr : Room 2 X.A) (hg : Gl X x) (ha : PA X [e] ta) (hdb : (x == ("__debug__" : Str)) = false := by decide)
    (he : starEach [e] X.env = (false, eval e X.env) :: starEach [] X.env := by rfl) (hpl : (backTo pos (starEach [] X.env)).any (·.1) = false := by rfl) :
    PE X (.Call (.Name x p) [e] [] pos) (tMk1 C f ta) := by
  refine ⟨fun pins s σ H Q I h => ?_⟩
  obtain ⟨fI, fd, iC, tI, F, hb, _⟩ := T.ini
  refine wpAny_Call_Name_kw (ld_glob I hg T.gm ?_ hdb)
  refine PySem.W.callWith_K (h₀ := X.base) I.ok.mod.kin T.xc.kp (thn (ha.run pos pins s σ H _ I h) fun us s1 ⟨vs, H1, I1, r, v, ev, q⟩ => ⟨I1.kIn, ?_⟩) he hpl
  subst ev
  exact runMkX (n := 1) (ks := []) (ws := []) (zs := []) T.xc iC tI F hr hb pass0 I1 r .nil rfl rfl (by decide) (fun a ha => mk1_end T.xc T.no q a ha)
/-- C(f = e) -/
theorem peMk1K (T : Cl1 X.prog X.w X.K X.mg X.base x C f) (hr : Room 2 X.A) (hg : Gl X x) (ha : PK X [⟨some f, e, k1⟩] ta) (hdb : (x == ("__debug__" : Str)) = false := by decide)
    (hall : (backToKw pos (keywordEach [⟨some f, e, k1⟩] X.env)).all (·.1.isSome) = true := by rfl) (hks : (backToKw pos (keywordEach [⟨some f, e, k1⟩] X.env)).filterMap (·.1) = [f] := by rfl)
    (hpl : ((backTo pos (starEach [] X.env)).any (·.1) || (backToKw pos (keywordEach [⟨some f, e, k1⟩] X.env)).any (·.1.isNone)) = false := by rfl) :
    PE X (.Call (.Name x p) [] [⟨some f, e, k1⟩] pos) (tMk1 C f ta) := by
  refine ⟨fun pins s σ H Q I h => ?_⟩
  obtain ⟨fI, fd, iC, tI, F, _, hb⟩ := T.ini
  refine wpAny_Call_Name_kw (ld_glob I hg T.gm ?_ hdb)
  refine PySem.W.callWith_KW0 (h₀ := X.base) I.ok.mod.kin T.xc.kp hall (thn (ha.run pos pins s σ H _ I h) fun ws s1 ⟨zs, H1, I1, rz, v, ev, q⟩ => ⟨I1.kIn, ?_⟩) hpl
  subst ev
  rw [hks]
  exact runMkX (n := 0) (ks := [f]) (us := []) (vs := []) T.xc iC tI F hr hb pass0 I1 .nil rz rfl rfl (by decide) (fun a ha => mk1_end T.xc T.no q a ha)
/-- C(e, e2) -/
def tMk2 (C : Addr) (f f2 : Str) (ta : TA) : TE := fun σ H Q => ta σ H fun vs H1 => ∃ v v2, vs = [v, v2] ∧ ∀ a H2, H1 a = none → Same H1 H2 → ErD H2 a C [(f2, v2), (f, v)] → Q (.ref a) H2
theorem mk2_end {H1 : Hp} {Q : VK} {v v2 : V} (T : XC X.K C) (no : findIn X.K (.ref C) f = some none) (no2 : findIn X.K (.ref C) f2 = some none) (q : ∀ a H2, H1 a = none → Same H1 H2 → ErD H2 a C [(f2, v2), (f, v)] → Q (.ref a) H2) (a : Addr) (ha : H1 a = none) :
    spIni2 X.K f f2 [.ref a, v, v2] (upd H1 a (exo a C none)) (fun v H2 => v = .non ∧ Q (.ref a) H2) E0 := by
  refine ⟨a, C, v, v2, rfl, T, no, no2, upd_same, fun dx H' sm h1 h2 hdx => ⟨rfl, ?_⟩⟩
  refine q a _ ha (fun b o hb => ?_) ⟨dx, h1, h2⟩
  have b1 := ne_of_none hb ha
  have z := sm b o (by rw [upd_ne b1]; exact hb)
  rw [upd_ne b1] at z
  exact z
theorem peMk2 (T : Cl2 X.prog X.w X.K X.mg X.base x C f f2) (hr : Room 2 X.A) (hg : Gl X x) (ha : PA X [e, e2] ta) (hdb : (x == ("__debug__" : Str)) = false := by decide)
    (he : starEach [e, e2] X.env = (false, eval e X.env) :: starEach [e2] X.env := by rfl) (hpl : (backTo pos (starEach [e2] X.env)).any (·.1) = false := by rfl) :
    PE X (.Call (.Name x p) [e, e2] [] pos) (tMk2 C f f2 ta) := by
  refine ⟨fun pins s σ H Q I h => ?_⟩
  obtain ⟨fI, fd, iC, tI, F, hb, _⟩ := T.ini
  refine wpAny_Call_Name_kw (ld_glob I hg T.gm ?_ hdb)
  refine PySem.W.callWith_K (h₀ := X.base) I.ok.mod.kin T.xc.kp (thn (ha.run pos pins s σ H _ I h) fun us s1 ⟨vs, H1, I1, r, v, v2, ev, q⟩ => ⟨I1.kIn, ?_⟩) he hpl
  subst ev
  exact runMkX (n := 2) (ks := []) (ws := []) (zs := []) T.xc iC tI F hr hb pass0 I1 r .nil rfl rfl (by decide) (fun a ha => mk2_end T.xc T.no T.no2 q a ha)
/-- C(f2 = e, f = e2) -/
def tMk2K (C : Addr) (f f2 : Str) (ta : TA) : TE := fun σ H Q => ta σ H fun vs H1 => ∃ v v2, vs = [v2, v] ∧ ∀ a H2, H1 a = none → Same H1 H2 → ErD H2 a C [(f2, v2), (f, v)] → Q (.ref a) H2
theorem peMk2K (T : Cl2 X.prog X.w X.K X.mg X.base x C f f2) (hr : Room 2 X.A) (hg : Gl X x) (ha : PK X [⟨some f2, e, k1⟩, ⟨some f, e2, k2⟩] ta) (hdb : (x == ("__debug__" : Str)) = false := by decide)
    (hall : (backToKw pos (keywordEach [⟨some f2, e, k1⟩, ⟨some f, e2, k2⟩] X.env)).all (·.1.isSome) = true := by rfl) (hks : (backToKw pos (keywordEach [⟨some f2, e, k1⟩, ⟨some f, e2, k2⟩] X.env)).filterMap (·.1) = [f2, f] := by rfl)
    (hpl : ((backTo pos (starEach [] X.env)).any (·.1) || (backToKw pos (keywordEach [⟨some f2, e, k1⟩, ⟨some f, e2, k2⟩] X.env)).any (·.1.isNone)) = false := by rfl) :
    PE X (.Call (.Name x p) [] [⟨some f2, e, k1⟩, ⟨some f, e2, k2⟩] pos) (tMk2K C f f2 ta) := by
  refine ⟨fun pins s σ H Q I h => ?_⟩
  obtain ⟨fI, fd, iC, tI, F, _, hb⟩ := T.ini
  refine wpAny_Call_Name_kw (ld_glob I hg T.gm ?_ hdb)
  refine PySem.W.callWith_KW0 (h₀ := X.base) I.ok.mod.kin T.xc.kp hall (thn (ha.run pos pins s σ H _ I h) fun ws s1 ⟨zs, H1, I1, rz, v, v2, ev, q⟩ => ⟨I1.kIn, ?_⟩) hpl
  subst ev
  rw [hks]
  exact runMkX (n := 0) (ks := [f2, f]) (us := []) (vs := []) T.xc iC tI F hr hb pass0 I1 .nil rz rfl rfl (by decide) (fun a ha => mk2_end T.xc T.no T.no2 q a ha)
/-- C(), no __init__ of its own -/
def tMk0 (C : Addr) : TE := fun _ H Q => ∀ a, H a = none → Q (.ref a) (upd H a (exo a C none))
theorem peMk0 (T : Cl0 X.K X.mg x C) (hg : Gl X x) (hdb : (x == ("__debug__" : Str)) = false := by decide) : PE X (.Call (.Name x p) [] [] pos) (tMk0 C) := by
  refine ⟨fun pins s σ H Q I h => ?_⟩
  refine wpAny_Call_Name_kw (ld_glob I hg T.gm ?_ hdb)
  refine PySem.W.callWith_K0 I.kIn T.xc.kp ?_
  show wpAny _ _ (call (.ref C) []) _ _ _
  obtain ⟨bm, N, nm, qn, bs, hdct, sn, sub, ab, col, dd, k0, k1, k2, k3, k5, mN, hC, hN, hni, O⟩ := exc_obj I.kIn T.own
  refine wpAny_call_exc_subT F.excBase_ValueError O hC hN hni (fun h' a hm => ?_) (Nat.zero_le _)
  have hn : H a = none := I.hok.gone hm.new
  obtain ⟨t, ht, _, _⟩ := hm.there
  exact ⟨.ref a, upd H a (exo a C none), I.laidN hm.keeps hm.new hn (exo_ok ht), rfl, h a hn⟩
/-- raise C(e) | raise C() -/
def tMkE (C : Addr) (f : Str) (ta : TA) : L2.St → Hp → XK → Prop := fun σ H Q => ta σ H fun vs H1 => ∃ v, vs = [v] ∧ ∀ d H2, Same H1 H2 → H2 d = some (.xd [(f, v)]) → Q (.ref C) (some d) H2
theorem pmkX (T : Cl1 X.prog X.w X.K X.mg X.base x C f) (hr : Room 2 X.A) (hg : Gl X x) (ha : PA X [e] ta) (hdb : (x == ("__debug__" : Str)) = false := by decide)
    (he : starEach [e] X.env = (false, eval e X.env) :: starEach [] X.env := by rfl) (hpl : (backTo pos (starEach [] X.env)).any (·.1) = false := by rfl) :
    PMk X (.Call (.Name x p) [e] [] pos) (tMkE C f ta) := by
  intro pins s σ H Q I h
  obtain ⟨fI, fd, iC, tI, F, hb, _⟩ := T.ini
  refine wpAny_Call_Name_kw (ld_glob I hg T.gm ?_ hdb)
  refine PySem.W.callWith_K (h₀ := X.base) I.ok.mod.kin T.xc.kp (thn (ha.run pos pins s σ H _ I h) fun us s1 ⟨vs, H1, I1, r, v, ev, q⟩ => ⟨I1.kIn, ?_⟩) he hpl
  subst ev
  refine runMkE (n := 1) (ks := []) (ws := []) (zs := []) T.xc iC tI F hr hb pass0 I1 r .nil rfl rfl (by decide) (fun a ha => ?_)
  refine ⟨a, C, v, rfl, T.xc, T.no, upd_same, fun dx hdx hne => ⟨rfl, dx, [(f, v)], upd_same, ?_, ?_, ?_⟩⟩
  · rw [upd_ne hne, upd_same]
  · rw [upd_ne hne] at hdx
    exact hdx
  · have n1 : H1 dx = none := by
      rw [upd_ne hne] at hdx
      exact hdx
    refine q dx _ (fun b o hb => ?_) upd_same
    have b1 := ne_of_none hb ha
    have b2 := ne_of_none hb n1
    rw [upd_ne b2, del_ne b1, upd_ne b1, upd_ne b2, upd_ne b1]
    exact hb
theorem pmk0 (T : Cl0 X.K X.mg x C) (hg : Gl X x) (hdb : (x == ("__debug__" : Str)) = false := by decide) : PMk X (.Call (.Name x p) [] [] pos) (fun _ H Q => Q (.ref C) none H) := by
  intro pins s σ H Q I h
  refine wpAny_Call_Name_kw (ld_glob I hg T.gm ?_ hdb)
  refine PySem.W.callWith_K0 I.kIn T.xc.kp ?_
  show wpAny _ _ (call (.ref C) []) _ _ _
  obtain ⟨bm, N, nm, qn, bs, hdct, sn, sub, ab, col, dd, k0, k1, k2, k3, k5, mN, hC, hN, hni, O⟩ := exc_obj I.kIn T.own
  refine wpAny_call_exc_subT F.excBase_ValueError O hC hN hni (fun h' e hm => ?_) (Nat.zero_le _)
  exact mk_of I hm (raises_own T.xc.ex T.xc.ty) h (I.hok.gone hm.new)
end
end KX

set_option Elab.async false
set_option linter.all false
set_option maxRecDepth 100000
set_option maxHeartbeats 0
namespace PJ.HD
open PySem PySem.Spec PyProof.Rows L2 KS
open KX hiding sameUpd
open He (ga ma)
abbrev R : PySem.W.OpenRow := PySem.W.OpenLaw.row PySem.Challenge.rw_farenough_k48_changes_of_projects
def dOf (x : Str) (i : Nat) : He.DefD := ⟨(x, none), x, x, defArgs (top i), defBody (top i), defScope (top i), [], []⟩
def dIn (x m q : Str) (i j : Nat) : He.DefD := ⟨(x, some m), m, q, defArgs (inClass (top i) j), defBody (inClass (top i) j), defScope (inClass (top i) j), [], []⟩
def dInD (x m q : Str) (i j : Nat) : He.DefD := ⟨(x, some m), m, q, defArgs (inClass (top i) j), defBody (inClass (top i) j), defScope (inClass (top i) j), [.adr (He.dflAt (x, some m) 0)], []⟩
def fn1 : List He.DefD := [
  dOf "_wall" 0,
  dOf "change_between" 8,
  dOf "_by_name" 9,
  dOf "_target_of" 10,
  dOf "_law_feed_of" 17,
  dOf "_law_draw" 18,
  dOf "_law_pick" 19,
  dOf "_law_outs" 20,
  dOf "_law_calls" 21,
  dOf "_law_text" 22,
  dOf "_law_source" 23,
  dOf "_law_target" 24,
  dOf "_law_one" 25,
  dOf "_law_names" 26,
  dOf "_law_drawn" 27,
  dOf "_law_moved" 28,
  dOf "_law_package" 29,
  dOf "_law_is_project" 30,
  dOf "_law_parts_due" 31,
  dOf "_law_handed" 32,
  dOf "_law_done" 33,
  dOf "_law_is_done" 34,
  dOf "_law_joined" 35,
  dOf "_law_summed" 36,
  dOf "_law_is_like" 37,
  dOf "_law_kept_right" 38,
  dOf "law" 39]
def fn2 : List He.DefD := [
  dIn "NoTarget" "__init__" "NoTarget.__init__" 3 0,
  dIn "NotSource" "__init__" "NotSource.__init__" 4 0,
  dIn "Mismatch" "__init__" "Mismatch.__init__" 5 0,
  dIn "Source" "__init__" "Source.__init__" 13 0,
  dIn "Source" "__eq__" "Source.__eq__" 13 1,
  dInD "Made" "__init__" "Made.__init__" 14 0,
  dIn "Made" "__eq__" "Made.__eq__" 14 1,
  dIn "Project" "__init__" "Project.__init__" 15 0,
  dIn "Project" "__getitem__" "Project.__getitem__" 15 1,
  dIn "Project" "__contains__" "Project.__contains__" 15 3,
  dIn "Project" "__eq__" "Project.__eq__" 15 5,
  dIn "Project" "put" "Project.put" 15 7,
  dIn "Project" "without" "Project.without" 15 8,
  dInD "Change" "__init__" "Change.__init__" 7 0,
  dIn "Change" "__call__" "Change.__call__" 7 1,
  dIn "Change" "__invert__" "Change.__invert__" 7 2,
  dIn "Change" "__add__" "Change.__add__" 7 3,
  dIn "Change" "__len__" "Change.__len__" 7 4,
  dIn "Change" "__contains__" "Change.__contains__" 7 5,
  dIn "Change" "__eq__" "Change.__eq__" 7 6]
def fn : List He.DefD := fn1 ++ fn2
def frees : List Str := ["isinstance", "len", "zip", "all", "list", "tuple", "bool", "int", "str", "range", "ord", "set", "max", "min", "dict", "sorted", "ValueError"]
def glos0 : List Str := ["BuildError", "NoTarget", "NotSource", "Mismatch", "Change", "Target", "Source", "Made", "Project", "_wall", "change_between", "_by_name", "_target_of", "_law_feed_of", "_law_draw", "_law_pick", "_law_outs", "_law_calls"]
def glos1 : List Str := ["_law_text", "_law_source", "_law_target", "_law_one", "_law_names", "_law_drawn", "_law_moved", "_law_package", "_law_is_project", "_law_parts_due", "_law_handed", "_law_done", "_law_is_done", "_law_joined", "_law_summed", "_law_is_like", "_law_kept_right"]
def glos : List Str := glos0 ++ glos1
def loose : List Str := glos
def faC : List He.Fa := [He.Fa.cls "Source", He.Fa.cls "Made", He.Fa.cls "Project", He.Fa.cls "Change", He.Fa.mkr "Source", He.Fa.mkr "Made", He.Fa.mkr "Project", He.Fa.mkr "Change"]
def faN : List He.Fa := [He.Fa.noat "Source" "_outputs", He.Fa.noat "Made" "_recipe", He.Fa.noat "Made" "_arguments", He.Fa.noat "Project" "_targets", He.Fa.noat "Change" "_parts"]
def faM : List He.Fa := [He.Fa.meth "Source" "__eq__", He.Fa.meth "Made" "__eq__", He.Fa.meth "Project" "__getitem__", He.Fa.meth "Project" "__contains__", He.Fa.meth "Project" "__eq__", He.Fa.meth "Project" "put", He.Fa.meth "Project" "without", He.Fa.meth "Change" "__call__", He.Fa.meth "Change" "__invert__", He.Fa.meth "Change" "__add__", He.Fa.meth "Change" "__len__", He.Fa.meth "Change" "__contains__", He.Fa.meth "Change" "__eq__"]
def fa : List He.Fa := (glos ++ ([("law" : Str)] : List Str)).map He.Fa.glo ++ (frees.map He.Fa.free ++ (faC ++ (faN ++ faM)))
/-- a property of a class, its getter -/
def pAd (K : PySem.W.Frag) (c m : Str) : Addr := ma K (ga K c) m
def gAd (K : PySem.W.Frag) (c m : Str) : Addr := match PySem.W.recIn K (pAd K c m) "property" with
  | some (.ref g :: _) => g
  | _ => 0
/-- an empty tuple -/
def emB (K : PySem.W.Frag) (a : Addr) : Bool := match K.lookup a with
  | some ⟨.type c, _, .seq its _, _⟩ => decide (c = "tuple") && its.isEmpty
  | _ => false
theorem emB_ok {K : PySem.W.Frag} {a : Addr} (h : emB K a = true) (H : Hp) : SqT K H a [] := by
  unfold emB at h
  cases q : K.lookup a with
  | none =>
    rw [q] at h
    cases h
  | some o =>
    obtain ⟨oc, od, dt, osl⟩ := o
    rw [q] at h
    cases oc with
    | type c =>
      cases dt with
      | seq its n =>
        obtain ⟨h1, h2⟩ := He.ba (show (decide (c = "tuple") && its.isEmpty) = true from h)
        have e : its = #[] := Array.isEmpty_iff.mp h2
        subst e
        exact .inr ⟨_, #[], n, q, congrArg Value.type (of_decide_eq_true h1), rfl, Nat.zero_le _, .nil⟩
      | _ => cases h
    | _ => cases dt <;> cases h
def fnAt (K : PySem.W.Frag) (a : Addr) : He.FnW := match K.lookup a with
  | some o => (match o.data with
    | .func u => some (u.name, u.qualname, u.params, u.body, u.scope, u.globals, u.closure, u.builtins)
    | _ => none)
  | none => none
def okAt (K : PySem.W.Frag) (a : Addr) (q : Str) : Bool := PySem.W.keepIn K (.ref a) && (match K.lookup a with
  | some o => (match o.data with
    | .func u => PySem.W.codeIn K u.code q && (He.dflB K u.defaults [] && He.kwdB K u.kwdefaults [])
    | _ => false)
  | none => false)
theorem funAt {K : PySem.W.Frag} {a : Addr} {x q : Str} {ps : Arguments} {b : List Stmt} {sc : Scope} (e : fnAt K a = some (x, q, ps, .stmts b, sc, mainGlobals, [], builtinsNs)) (c : okAt K a q = true) : ∃ fd, FunD K x q ps b sc [] [] a fd := by
  unfold okAt at c
  unfold fnAt at e
  rw [Bool.and_eq_true] at c
  obtain ⟨kp, c⟩ := c
  generalize hl : K.lookup a = o at c e
  rcases o with _ | ⟨oc, od, dt, sl⟩
  · cases c
  · dsimp only at c e
    cases dt with
    | func u =>
      dsimp only at c e
      rw [Bool.and_eq_true, Bool.and_eq_true] at c
      obtain ⟨c1, c2, c3⟩ := c
      obtain ⟨m1, m2, m3, m4, m5, m6, m7, m8, m9, m10, m11, m12, m13, m14, m15⟩ := u
      dsimp only at c1 c2 c3 e
      injection e with e
      simp only [Prod.mk.injEq] at e
      obtain ⟨rfl, rfl, rfl, rfl, rfl, rfl, rfl, rfl⟩ := e
      refine ⟨_, ⟨oc, od, m8, m9, m10, m11, m12, m13, m14, sl, rfl, hl, c1, ?_, ?_⟩, kp⟩
      · exact He.dflB_ok c2
      · exact He.kwdB_ok c3
    | _ => cases c
/-- the other facts, as one Bool -/
def exB (K : PySem.W.Frag) : Bool :=
  xcB K (ga K "NoTarget") veB "ValueError.__new__"
  && (decide (PySem.W.findIn K (.ref (ga K "NoTarget")) "name" = some none)
  && (decide (PySem.W.findIn K (.ref (ga K "NoTarget")) "__init__" = some (some (.ref (ma K (ga K "NoTarget") "__init__"))))
  && (decide (PySem.W.typeIn K (.ref (ma K (ga K "NoTarget") "__init__")) = some (.type "function"))
  && (xcB K (ga K "NotSource") veB "ValueError.__new__"
  && (decide (PySem.W.findIn K (.ref (ga K "NotSource")) "name" = some none)
  && (decide (PySem.W.findIn K (.ref (ga K "NotSource")) "__init__" = some (some (.ref (ma K (ga K "NotSource") "__init__"))))
  && (decide (PySem.W.typeIn K (.ref (ma K (ga K "NotSource") "__init__")) = some (.type "function"))
  && (xcB K (ga K "Mismatch") veB "ValueError.__new__"
  && (decide (PySem.W.findIn K (.ref (ga K "Mismatch")) "name" = some none)
  && (decide (PySem.W.findIn K (.ref (ga K "Mismatch")) "__init__" = some (some (.ref (ma K (ga K "Mismatch") "__init__"))))
  && (decide (PySem.W.typeIn K (.ref (ma K (ga K "Mismatch") "__init__")) = some (.type "function"))
  && (decide (PySem.W.findIn K (.ref (ga K "Source")) "__class__" = some (some (.builtin "object.__class__")))
  && (decide (PySem.W.mroIn K (ga K "Source") (.type "object") = some true)
  && (decide (PySem.W.findIn K (.ref (ga K "Made")) "__class__" = some (some (.builtin "object.__class__")))
  && (decide (PySem.W.mroIn K (ga K "Made") (.type "object") = some true)
  && (decide (PySem.W.findIn K (.ref (ga K "Project")) "__class__" = some (some (.builtin "object.__class__")))
  && (decide (PySem.W.mroIn K (ga K "Project") (.type "object") = some true)
  && (decide (PySem.W.findIn K (.ref (ga K "Change")) "__class__" = some (some (.builtin "object.__class__")))
  && (decide (PySem.W.mroIn K (ga K "Change") (.type "object") = some true)
  && (decide (PySem.W.subIn K (.type "dict") (.ref (ga K "Source")) = some false)
  && (decide (PySem.W.subIn K (.type "dict") (.ref (ga K "Made")) = some false)
  && (decide (PySem.W.subIn K (.type "dict") (.ref (ga K "Project")) = some false)
  && (decide (PySem.W.subIn K (.type "dict") (.ref (ga K "Change")) = some false)
  && (decide (PySem.W.subIn K (.type "NoneType") (.ref (ga K "Source")) = some false)
  && (decide (PySem.W.subIn K (.ref (ga K "Source")) (.type "NoneType") = some false)
  && (decide (PySem.W.kitOne K (.type "NoneType") (.ref (ga K "Source")) = some false)
  && (decide (PySem.W.subIn K (.type "NoneType") (.ref (ga K "Made")) = some false)
  && (decide (PySem.W.subIn K (.ref (ga K "Made")) (.type "NoneType") = some false)
  && (decide (PySem.W.kitOne K (.type "NoneType") (.ref (ga K "Made")) = some false)
  && (decide (PySem.W.specialIn K (.builtin "object.__class__") "__get__" = some (some (.builtin "getset_descriptor.__get__")))
  && (decide (PySem.W.takesIn K (.builtin "object.__class__") = some true)
  && (decide (PySem.W.kitOne K (.ref (ga K "Source")) (.ref (ga K "Source")) = some true)
  && (decide (PySem.W.kitOne K (.ref (ga K "Made")) (.ref (ga K "Source")) = some false)
  && (decide (PySem.W.kitOne K (.ref (ga K "Source")) (.ref (ga K "Made")) = some false)
  && (decide (PySem.W.kitOne K (.ref (ga K "Made")) (.ref (ga K "Made")) = some true)
  && (decide (PySem.W.kitOne K (.ref (ga K "Project")) (.ref (ga K "Project")) = some true)
  && (decide (PySem.W.kitOne K (.ref (ga K "Source")) (.ref (ga K "Target")) = some true)
  && (decide (PySem.W.kitOne K (.ref (ga K "Made")) (.ref (ga K "Target")) = some true)
  && (decide (PySem.W.kitOne K (.ref (ga K "Mismatch")) (.ref (ga K "BuildError")) = some true)
  && (decide (PySem.W.kitOne K (.ref (ga K "Change")) (.ref (ga K "Change")) = some true)
  && (decide (PySem.W.kitOne K (.type "dict") (.ref (ga K "Project")) = some false)
  && (decide (PySem.W.kitOne K (.ref (ga K "Project")) (.type "str") = some false)
  && (decide (PySem.W.subIn K (.ref (ga K "Made")) (.ref (ga K "Source")) = some false)
  && (decide (PySem.W.subIn K (.ref (ga K "Source")) (.ref (ga K "Made")) = some false)
  && (decide (PySem.W.findIn K (.ref (ga K "Project")) "__ne__" = some (some (.builtin "object.__ne__")))
  && (decide (PySem.W.findIn K (.ref (ga K "Made")) "__ne__" = some (some (.builtin "object.__ne__")))
  && (decide (PySem.W.findIn K (.ref (ga K "Source")) "__ne__" = some (some (.builtin "object.__ne__")))
  && (decide (PySem.W.findIn K (.ref (ga K "Change")) "__ne__" = some (some (.builtin "object.__ne__")))
  && (decide (PySem.W.exmOne K (.ref (ga K "Mismatch")) (.ref (ga K "Mismatch")) = some true)
  && (PySem.W.fnIn K (ma K (ga K "Project") "__getitem__")
  && (PySem.W.fnIn K (ma K (ga K "Change") "__call__")
  && (emB K (He.dflAt ("Made", some "__init__") 0 K)
  && (emB K (He.dflAt ("Change", some "__init__") 0 K)
  && (PySem.W.selfFirst K (ga K "Change")
  && (decide (PySem.W.findIn K (.ref (ga K "Source")) "outputs" = some (some (.ref (pAd K "Source" "outputs"))))
  && (decide (PySem.W.specialIn K (.ref (pAd K "Source" "outputs")) "__get__" = some (some (.builtin "property.__get__")))
  && (decide (PySem.W.takesIn K (.ref (pAd K "Source" "outputs")) = some true)
  && (decide ((PySem.W.recIn K (pAd K "Source" "outputs") "property").map (fun l => l.head?) = some (some (.ref (gAd K "Source" "outputs"))))
  && (okAt K (gAd K "Source" "outputs") "Source.outputs"
  && (decide (PySem.W.findIn K (.ref (ga K "Made")) "recipe" = some (some (.ref (pAd K "Made" "recipe"))))
  && (decide (PySem.W.specialIn K (.ref (pAd K "Made" "recipe")) "__get__" = some (some (.builtin "property.__get__")))
  && (decide (PySem.W.takesIn K (.ref (pAd K "Made" "recipe")) = some true)
  && (decide ((PySem.W.recIn K (pAd K "Made" "recipe") "property").map (fun l => l.head?) = some (some (.ref (gAd K "Made" "recipe"))))
  && (okAt K (gAd K "Made" "recipe") "Made.recipe"
  && (decide (PySem.W.findIn K (.ref (ga K "Made")) "arguments" = some (some (.ref (pAd K "Made" "arguments"))))
  && (decide (PySem.W.specialIn K (.ref (pAd K "Made" "arguments")) "__get__" = some (some (.builtin "property.__get__")))
  && (decide (PySem.W.takesIn K (.ref (pAd K "Made" "arguments")) = some true)
  && (decide ((PySem.W.recIn K (pAd K "Made" "arguments") "property").map (fun l => l.head?) = some (some (.ref (gAd K "Made" "arguments"))))
  && (okAt K (gAd K "Made" "arguments") "Made.arguments"
  && (decide (PySem.W.findIn K (.ref (ga K "Project")) "names" = some (some (.ref (pAd K "Project" "names"))))
  && (decide (PySem.W.specialIn K (.ref (pAd K "Project" "names")) "__get__" = some (some (.builtin "property.__get__")))
  && (decide (PySem.W.takesIn K (.ref (pAd K "Project" "names")) = some true)
  && (decide ((PySem.W.recIn K (pAd K "Project" "names") "property").map (fun l => l.head?) = some (some (.ref (gAd K "Project" "names"))))
  && (okAt K (gAd K "Project" "names") "Project.names"
  && (decide (PySem.W.findIn K (.ref (ga K "Change")) "names" = some (some (.ref (pAd K "Change" "names"))))
  && (decide (PySem.W.specialIn K (.ref (pAd K "Change" "names")) "__get__" = some (some (.builtin "property.__get__")))
  && (decide (PySem.W.takesIn K (.ref (pAd K "Change" "names")) = some true)
  && (decide ((PySem.W.recIn K (pAd K "Change" "names") "property").map (fun l => l.head?) = some (some (.ref (gAd K "Change" "names"))))
  && (okAt K (gAd K "Change" "names") "Change.names")))))))))))))))))))))))))))))))))))))))))))))))))))))))))))))))))))))))))))))))
def vSourceoutputs : He.FnW := some ("outputs", "Source.outputs", defArgs (inClass (top 13) 2), .stmts (defBody (inClass (top 13) 2)), defScope (inClass (top 13) 2), mainGlobals, [], builtinsNs)
def vMaderecipe : He.FnW := some ("recipe", "Made.recipe", defArgs (inClass (top 14) 2), .stmts (defBody (inClass (top 14) 2)), defScope (inClass (top 14) 2), mainGlobals, [], builtinsNs)
def vMadearguments : He.FnW := some ("arguments", "Made.arguments", defArgs (inClass (top 14) 3), .stmts (defBody (inClass (top 14) 3)), defScope (inClass (top 14) 3), mainGlobals, [], builtinsNs)
def vProjectnames : He.FnW := some ("names", "Project.names", defArgs (inClass (top 15) 6), .stmts (defBody (inClass (top 15) 6)), defScope (inClass (top 15) 6), mainGlobals, [], builtinsNs)
def vChangenames : He.FnW := some ("names", "Change.names", defArgs (inClass (top 7) 7), .stmts (defBody (inClass (top 7) 7)), defScope (inClass (top 7) 7), mainGlobals, [], builtinsNs)
/-- the head's look: defs, names, numbers, these -/
abbrev Al : Type := He.AlD × (Bool × (He.FnW × He.FnW × He.FnW × He.FnW × He.FnW))
def obsK (K : PySem.W.Frag) : Al := (He.obsD fa fn K, exB K, fnAt K (gAd K "Source" "outputs"), fnAt K (gAd K "Made" "recipe"), fnAt K (gAd K "Made" "arguments"), fnAt K (gAd K "Project" "names"), fnAt K (gAd K "Change" "names"))
def obsM (n : Nat) (g : Addr → Option Obj) : Al := obsK (He.frG g (He.asD g n))
structure Says (K : PySem.W.Frag) : Prop where
  d : He.SaysD fa fn K
  e : exB K = true
  g : (fnAt K (gAd K "Source" "outputs"), fnAt K (gAd K "Made" "recipe"), fnAt K (gAd K "Made" "arguments"), fnAt K (gAd K "Project" "names"), fnAt K (gAd K "Change" "names")) = (vSourceoutputs, vMaderecipe, vMadearguments, vProjectnames, vChangenames)
def hk : PySem.W.Hook where
  α := Al
  obs := fun s => obsM 6 s.heap.get?
  val := fun _ => (He.valD fn, true, vSourceoutputs, vMaderecipe, vMadearguments, vProjectnames, vChangenames)
  says := fun _ h => ∃ K : PySem.W.Frag, K.In h ∧ Says K
  of := fun _ _ e => ⟨_, He.frG_in, ⟨congrArg (fun z : Al => z.1) e, congrArg (fun z : Al => z.2.1) e, congrArg (fun z : Al => z.2.2) e⟩⟩
  keeps := fun _ _ _ ⟨K, hK, c⟩ k => ⟨K, PySem.W.Frag.In.keeps hK k, c⟩
def ob (s : PySem.W.SharedT) : Al := obsM 6 (HandSHeadRun.getT s)
theorem ob_eq (s : PySem.W.SharedT) : ob s = hk.obs s.abs := by
  have e : HandSHeadRun.getT s = s.abs.heap.get? := funext (HandSHeadRun.getT_eq s)
  unfold ob
  rw [e] <;> rfl
theorem run (w : World) : HandSHeadRun.RunEq R (PySem.W.view R.prog [39]) hk ob 20000 loose w := by
  intro os
  kernel_rfl
end PJ.HD

set_option Elab.async false
set_option linter.all false
set_option maxRecDepth 100000
set_option maxHeartbeats 4000000
namespace KS
open PySem PySem.Spec PyProof.Rows L2
theorem sameUpd {H : Hp} {p : Addr} {o : HO} (h : H p = none) : Same H (upd H p o) := fun b u e => by
  rw [upd_ne (ne_of_none e h)]
  exact e
theorem sameTup {K : PySem.W.Frag} {H H' : Hp} {a : Addr} {xs : List V} (e : Same H H') (h : SqT K H a xs) : SqT K H' a xs := by
  rcases h with (h | ⟨o, h⟩) | h
  · exact .inl (.inl (e _ _ h))
  · exact .inl (.inr ⟨o, e _ _ h⟩)
  · exact .inr h
mutual
theorem dpSame {K : PySem.W.Frag} {H H' : Hp} (e : Same H H') : ∀ (d : PyData) (v : V), Dp K H v d → Dp K H' v d
  | .none, _, h => by cases h; exact .non
  | .bool b, _, h => by cases h; exact .bl b
  | .int i, _, h => by cases h; exact .int i
  | .str x, _, h => by cases h; exact .str x
  | .list ds, _, h => by
    cases h with
    | lst ha hd => exact .lst (e.seq ha) (dpAllSame e ds _ hd)
  | .tuple ds, _, h => by
    cases h with
    | tup ha hd => exact .tup (sameTup e ha) (dpAllSame e ds _ hd)
  | .dict _, _, h => nomatch h
theorem dpAllSame {K : PySem.W.Frag} {H H' : Hp} (e : Same H H') : ∀ (ds : List PyData) (vs : List V), DpAll K H vs ds → DpAll K H' vs ds
  | [], _, h => by cases h; exact .nil
  | d :: ds, _, h => by
    cases h with
    | cons h1 h2 => exact .cons (dpSame e d _ h1) (dpAllSame e ds _ h2)
end
theorem dpLen {K : PySem.W.Frag} {H : Hp} : ∀ {vs : List V} {ds : List PyData}, DpAll K H vs ds → vs.length = ds.length
  | _, _, .nil => rfl
  | _, _, .cons _ r => by rw [List.length_cons, List.length_cons, dpLen r]
theorem dpAt {K : PySem.W.Frag} {H : Hp} : ∀ {vs : List V} {ds : List PyData}, DpAll K H vs ds → ∀ {i : Nat} {d : PyData}, ds[i]? = some d → ∃ v, vs[i]? = some v ∧ Dp K H v d
  | _, _, .nil, _, _, h => by simp at h
  | _, _, .cons h1 r, 0, _, h => by
    cases h
    exact ⟨_, rfl, h1⟩
  | _, _, .cons h1 r, i + 1, _, h => dpAt r (by simpa using h)
def SOk (z : Str) : Prop := z.cps.all (· < 0x110000) = true
/-- data down to the depth n: texts not too long, tuples not too wide, no lists -/
inductive Od : Nat → PyData → Prop
  | non (n : Nat) : Od n .none
  | bl (n : Nat) (b : Bool) : Od n (.bool b)
  | int (n : Nat) (i : Int) : Od n (.int i)
  | str (n : Nat) {z : Str} (h : SOk z) (h2 : z.length ≤ 2000) : Od n (.str z)
  | tup {n : Nat} {ds : List PyData} (h : ds.length ≤ 100) (h2 : ∀ d ∈ ds, Od n d) : Od (n + 1) (.tuple ds)
theorem Od.up {n : Nat} {d : PyData} (h : Od n d) : ∀ {m : Nat}, n ≤ m → Od m d := by
  induction h with
  | non n => exact fun _ => .non _
  | bl n b => exact fun _ => .bl _ b
  | int n i => exact fun _ => .int _ i
  | str n h h2 => exact fun _ => .str _ h h2
  | @tup n ds h h2 ih =>
    intro m hm
    obtain ⟨k, rfl⟩ : ∃ k, m = k + 1 := ⟨m - 1, by omega⟩
    exact .tup h fun d hd => ih d hd (by omega)
theorem allLay : ∀ {ds : List PyData} {n : Nat}, (∀ d ∈ ds, d.canLay0 = true ∧ d.depth ≤ n) → PyData.canLayAll0 ds = true ∧ PyData.depthAll ds ≤ n
  | [], n, _ => ⟨rfl, Nat.zero_le _⟩
  | d :: ds, n, h => by
    obtain ⟨h1, h2⟩ := h d List.mem_cons_self
    obtain ⟨h3, h4⟩ := allLay (n := n) fun x hx => h x (List.mem_cons_of_mem _ hx)
    constructor
    · simp only [PyData.canLayAll0, h1, h3, Bool.and_self]
    · simp only [PyData.depthAll]
      exact Nat.max_le.mpr ⟨h2, h4⟩
theorem Od.lay {n : Nat} {d : PyData} (h : Od n d) : d.canLay0 = true ∧ d.depth ≤ n := by
  induction h with
  | non n => exact ⟨rfl, Nat.zero_le _⟩
  | bl n b => exact ⟨rfl, Nat.zero_le _⟩
  | int n i => exact ⟨rfl, Nat.zero_le _⟩
  | str n h h2 => exact ⟨h, Nat.zero_le _⟩
  | @tup n ds h h2 ih =>
    obtain ⟨a, b⟩ := allLay (n := n) ih
    refine ⟨a, ?_⟩
    simp only [PyData.depth]
    omega
theorem Od.shaped {n : Nat} {d : PyData} (h : Od n d) (hn : n ≤ 64) : SeqAt.shaped d = true := by
  obtain ⟨a, b⟩ := h.lay
  unfold SeqAt.shaped
  rw [a, Bool.true_and]
  exact decide_eq_true (by omega)
/-! kinds -/
def tyD : PyData → String
  | .none => "NoneType" | .bool _ => "bool" | .int _ => "int" | .str _ => "str" | .list _ => "list" | .tuple _ => "tuple" | .dict _ => "dict"
def isT (t c : String) : Bool := t == c || (t == "bool" && c == "int")
def isD (d : PyData) (c : String) : Bool := isT (tyD d) c
theorem kitAll : ∀ t ∈ ["NoneType", "bool", "int", "str", "list", "tuple"], ∀ c ∈ ["tuple", "str", "int", "bool", "list"], kitB t c = some (isT t c) := by decide +kernel
theorem dpTy {K : PySem.W.Frag} {H : Hp} {v : V} {d : PyData} (h : Dp K H v d) : TyX K H v (.type (tyD d)) := by
  cases h with
  | non => exact .base .non
  | bl b => exact .base (.bl b)
  | int i => exact .base (.int i)
  | str x => exact .base (.str x)
  | lst h _ =>
    rcases h with (h | ⟨o, h⟩) | ⟨o, its, n, h, c, _⟩
    · exact .base (.lst h)
    · exact .base (.frz h)
    · exact .kList h c
  | tup h _ =>
    rcases h with (h | ⟨o, h⟩) | ⟨o, its, n, h, c, _⟩
    · exact .base (.tup h)
    · exact .fTuple h
    · exact .kTuple h c
theorem dpKit {K : PySem.W.Frag} {H : Hp} {v : V} {d : PyData} (h : Dp K H v d) {c : String} (hc : c = "tuple" ∨ c = "str" ∨ c = "int" ∨ c = "bool" ∨ c = "list") : PySem.W.kitOne K (.type (tyD d)) (.type c) = some (isD d c) := by
  have hc' : c ∈ ["tuple", "str", "int", "bool", "list"] := by rcases hc with rfl | rfl | rfl | rfl | rfl <;> simp
  refine kit_ty (kitAll _ ?_ _ hc')
  cases h <;> simp [tyD]
theorem isi {K : PySem.W.Frag} {H : Hp} {v : V} {d : PyData} (h : Dp K H v d) {c : String} (hc : c = "tuple" ∨ c = "str" ∨ c = "int" ∨ c = "bool" ∨ c = "list") {Q : VK} (q : Q (.bl (isD d c)) H) : rIsi K [v, .ty c] H Q :=
  ⟨v, .ty c, _, _, _, rfl, .ty c, dpTy h, dpKit h hc, q⟩
/-- the built-in names that are read -/
structure Bn (mg : Str → Option Value) : Prop where
  isi : mg "isinstance" = none
  len : mg "len" = none
  zip : mg "zip" = none
  all : mg "all" = none
  list : mg "list" = none
  tuple : mg "tuple" = none
  bool : mg "bool" = none
  int : mg "int" = none
  str : mg "str" = none
  range : mg "range" = none
  ord : mg "ord" = none
  set : mg "set" = none
  max : mg "max" = none
  min : mg "min" = none
/-! comprehensions with one name -/
theorem lcJ {J : It} {n : Nat} {g : TG} {tt : TT} {te : TE} {vs : List Nat} {σ : L2.St} {H1 : Hp} {D : Addr} {Qd : Hp → Prop} (Pv : Nat → Hp → Prop) (h0 : Pv 0 (upd H1 D (.lst [])))
    (hgo : ∀ i H, i < n → Pv i H → J.go i H) (hst : ∀ H, Pv n H → J.stop n H)
    (hs : ∀ i H x H', i < n → Pv i H → J.yld i H x H' → g x (wipe σ vs) H' fun σ2 H2 => wipe σ2 vs = wipe σ vs ∧ tt σ2 H2 fun b H3 =>
      if b = true then te σ2 H3 fun y H4 => ∃ acc, H4 D = some (.lst acc) ∧ acc.length < sizeLine ∧ Pv (i + 1) (upd H4 D (.lst (acc ++ [y]))) else Pv (i + 1) H3)
    (hd : ∀ H, Pv n H → Qd H) :
    ∃ W : Nat → Nat → Hp → Prop, (∃ m, W 0 m (upd H1 D (.lst []))) ∧ ∀ i m H, W i m H →
      (J.stop i H ∧ Qd H) ∨ (J.go i H ∧ ∃ Nx : Hp → Prop, (∀ H', Nx H' → ∃ m', m' < m ∧ W (i + 1) m' H') ∧ ∀ x H', J.yld i H x H' → g x (wipe σ vs) H' fun σ2 H2 => wipe σ2 vs = wipe σ vs ∧ tt σ2 H2 fun b H3 =>
        if b = true then te σ2 H3 fun y H4 => ∃ acc, H4 D = some (.lst acc) ∧ acc.length < sizeLine ∧ Nx (upd H4 D (.lst (acc ++ [y]))) else Nx H3) := by
  refine ⟨fun i m H => m = n - i ∧ i ≤ n ∧ Pv i H, ⟨n, by simp, Nat.zero_le _, h0⟩, fun i m H hW => ?_⟩
  obtain ⟨rfl, hi, p⟩ := hW
  by_cases lt : i < n
  · refine .inr ⟨hgo i H lt p, Pv (i + 1), fun H' p' => ⟨n - (i + 1), by omega, rfl, lt, p'⟩, fun x H' y => ?_⟩
    exact hs i H x H' lt p y
  · have e : i = n := by omega
    subst e
    exact .inl ⟨hst H p, hd H p⟩
/-- the list at D, all else as it was -/
def At (H1 : Hp) (D : Addr) (xs : List V) (H : Hp) : Prop := Same H1 H ∧ H D = some (.lst xs)
theorem At.put {H1 H H' : Hp} {D : Addr} {xs ys : List V} (hD : H1 D = none) (h : At H1 D xs H) (s : Same H H') : H' D = some (.lst xs) ∧ At H1 D ys (upd H' D (.lst ys)) := by
  obtain ⟨a, b⟩ := h
  refine ⟨s _ _ b, fun c o e => ?_, upd_same⟩
  rw [upd_ne (ne_of_none e hD)]
  exact s _ _ (a _ _ e)
theorem dpSnoc {K : PySem.W.Frag} {H : Hp} {y : V} {e : PyData} (hy : Dp K H y e) : ∀ {xs : List V} {ds : List PyData}, DpAll K H xs ds → DpAll K H (xs ++ [y]) (ds ++ [e])
  | _, _, .nil => .cons hy .nil
  | _, _, .cons h r => .cons h (dpSnoc hy r)
/-- every item answers a Bool -/
theorem lcAll {J : It} {n j : Nat} {te : TE} {σ : L2.St} {H1 : Hp} {D : Addr} {Qd : Hp → Prop} (b : Nat → Bool) (hD : H1 D = none) (hn : n ≤ 1000000) (hw : ∀ v, wipe ((wipe σ [j]).set j (some v)) [j] = wipe σ [j])
    (hgo : ∀ i H, i < n → Same H1 H → J.go i H) (hst : ∀ H, Same H1 H → J.stop n H)
    (hs : ∀ i H x H', i < n → Same H1 H → J.yld i H x H' → Same H H' ∧ ∀ (R : VK), (∀ H2, Same H' H2 → R (.bl (b i)) H2) → te ((wipe σ [j]).set j (some x)) H' R)
    (hd : ∀ H, Same H1 H → H D = some (.lst (((List.range n).map b).map V.bl)) → Qd H) :
    ∃ W : Nat → Nat → Hp → Prop, (∃ m, W 0 m (upd H1 D (.lst []))) ∧ ∀ i m H, W i m H →
      (J.stop i H ∧ Qd H) ∨ (J.go i H ∧ ∃ Nx : Hp → Prop, (∀ H', Nx H' → ∃ m', m' < m ∧ W (i + 1) m' H') ∧ ∀ x H', J.yld i H x H' → gName j x (wipe σ [j]) H' fun σ2 H2 => wipe σ2 [j] = wipe σ [j] ∧ tYes σ2 H2 fun b H3 =>
        if b = true then te σ2 H3 fun y H4 => ∃ acc, H4 D = some (.lst acc) ∧ acc.length < sizeLine ∧ Nx (upd H4 D (.lst (acc ++ [y]))) else Nx H3) := by
  refine lcJ (n := n) (fun i H => At H1 D (((List.range i).map b).map V.bl) H) ⟨sameUpd hD, upd_same⟩ (fun i H lt h => hgo i H lt h.1) (fun H h => hst H h.1) (fun i H x H' lt h y => ?_) (fun H h => hd H h.1 h.2)
  obtain ⟨s1, s2⟩ := hs i H x H' lt h.1 y
  refine ⟨hw x, ?_⟩
  unfold tYes
  dsimp only
  rw [if_pos rfl]
  refine s2 _ fun H2 s3 => ?_
  obtain ⟨e1, e2⟩ := h.put (ys := ((List.range (i + 1)).map b).map V.bl) hD (s1.trans s3)
  refine ⟨_, e1, ?_, ?_⟩
  · rw [List.length_map, List.length_map, List.length_range, sizeLine_eq]
    omega
  · have e3 : ((List.range (i + 1)).map b).map V.bl = ((List.range i).map b).map V.bl ++ [V.bl (b i)] := by
      rw [List.range_succ, List.map_append, List.map_append]
      rfl
    rw [← e3]
    exact e2
/-- the ones that answer true are kept -/
theorem lcSome {K : PySem.W.Frag} {J : It} {n j : Nat} {tt : TT} {te : TE} {σ : L2.St} {H1 : Hp} {D : Addr} {Qd : Hp → Prop} (b : Nat → Bool) (hD : H1 D = none) (hn : n ≤ 1000000) (hw : ∀ v, wipe ((wipe σ [j]).set j (some v)) [j] = wipe σ [j])
    (hgo : ∀ i H, i < n → Same H1 H → J.go i H) (hst : ∀ H, Same H1 H → J.stop n H)
    (hs : ∀ i H x H', i < n → Same H1 H → J.yld i H x H' → Same H H' ∧ (∀ (F : Bool → Hp → Prop), (∀ H2, Same H' H2 → F (b i) H2) → tt ((wipe σ [j]).set j (some x)) H' F) ∧ ∃ y d, (∀ H, Dp K H y d) ∧ Od 0 d ∧ ∀ (R : VK) H2, R y H2 → te ((wipe σ [j]).set j (some x)) H2 R)
    (hd : ∀ H xs, Same H1 H → H D = some (.lst xs) → (xs = [] ↔ ∀ i, i < n → b i = false) → (∃ ds, (∀ H, DpAll K H xs ds) ∧ (∀ d ∈ ds, Od 0 d) ∧ ds.length ≤ n) → Qd H) :
    ∃ W : Nat → Nat → Hp → Prop, (∃ m, W 0 m (upd H1 D (.lst []))) ∧ ∀ i m H, W i m H →
      (J.stop i H ∧ Qd H) ∨ (J.go i H ∧ ∃ Nx : Hp → Prop, (∀ H', Nx H' → ∃ m', m' < m ∧ W (i + 1) m' H') ∧ ∀ x H', J.yld i H x H' → gName j x (wipe σ [j]) H' fun σ2 H2 => wipe σ2 [j] = wipe σ [j] ∧ tt σ2 H2 fun b H3 =>
        if b = true then te σ2 H3 fun y H4 => ∃ acc, H4 D = some (.lst acc) ∧ acc.length < sizeLine ∧ Nx (upd H4 D (.lst (acc ++ [y]))) else Nx H3) := by
  refine lcJ (n := n) (fun i H => ∃ xs, At H1 D xs H ∧ (xs = [] ↔ ∀ k, k < i → b k = false) ∧ xs.length ≤ i ∧ ∃ ds, (∀ H, DpAll K H xs ds) ∧ ∀ d ∈ ds, Od 0 d) ⟨[], ⟨sameUpd hD, upd_same⟩, ⟨fun _ k hk => absurd hk (Nat.not_lt_zero _), fun _ => rfl⟩, Nat.le_refl _, [], fun _ => .nil, fun d hd => absurd hd (by simp)⟩ (fun i H lt h => hgo i H lt h.choose_spec.1.1) (fun H h => hst H h.choose_spec.1.1) (fun i H x H' lt h y => ?_)
    (fun H h => by obtain ⟨xs, h1, h2, h3, h4⟩ := h; obtain ⟨ds, g1, g2⟩ := h4; exact hd H xs h1.1 h1.2 h2 ⟨ds, g1, g2, by have := dpLen (g1 H); omega⟩)
  obtain ⟨xs, h, e0, hl, ds, hda, hod⟩ := h
  obtain ⟨s1, s2, z, zd, z1, z2, s4⟩ := hs i H x H' lt h.1 y
  refine ⟨hw x, s2 _ fun H2 s3 => ?_⟩
  cases hb : b i with
  | true =>
    refine iteT (s4 _ _ ?_)
    obtain ⟨e1, e2⟩ := h.put (ys := xs ++ [z]) hD (s1.trans s3)
    refine ⟨_, e1, by rw [sizeLine_eq]; omega, _, e2, ⟨fun q => absurd q (by simp), fun q => ?_⟩, by rw [List.length_append]; exact Nat.succ_le_succ hl, ds ++ [zd], fun H => dpSnoc (z1 H) (hda H), fun d hd => ?_⟩
    · rw [q i (Nat.lt_succ_self _)] at hb
      cases hb
    · rcases List.mem_append.mp hd with y | y
      · exact hod d y
      · rw [List.mem_singleton.mp y]
        exact z2
  | false =>
    refine iteF ⟨xs, ⟨(h.1.trans s1).trans s3, s3 _ _ (s1 _ _ h.2)⟩, ⟨fun q k hk => ?_, fun q => e0.mpr fun k hk => q k (by omega)⟩, by omega, ds, hda, hod⟩
    rcases Nat.lt_succ_iff_lt_or_eq.mp hk with c | c
    · exact e0.mp q k c
    · rw [c]
      exact hb
/-- all(..) over a tuple -/
theorem lcAllT {K : PySem.W.Frag} {a : Addr} {xs : List V} {ds : List PyData} {j : Nat} {te : TE} {σ : L2.St} {H1 : Hp} {D : Addr} {Qd : Hp → Prop} (p : PyData → Bool) (ha : SqT K H1 a xs) (hx : DpAll K H1 xs ds) (hn : ds.length ≤ 1000) (hD : H1 D = none) (hw : ∀ v, wipe ((wipe σ [j]).set j (some v)) [j] = wipe σ [j])
    (hs : ∀ v d H, d ∈ ds → Same H1 H → Dp K H v d → ∀ (R : VK), (∀ H2, Same H H2 → R (.bl (p d)) H2) → te ((wipe σ [j]).set j (some v)) H R)
    (hd : ∀ H, Same H1 H → H D = some (.lst ((ds.map p).map V.bl)) → Qd H) :
    ∃ W : Nat → Nat → Hp → Prop, (∃ m, W 0 m (upd H1 D (.lst []))) ∧ ∀ i m H, W i m H →
      ((Itt K a).stop i H ∧ Qd H) ∨ ((Itt K a).go i H ∧ ∃ Nx : Hp → Prop, (∀ H', Nx H' → ∃ m', m' < m ∧ W (i + 1) m' H') ∧ ∀ x H', (Itt K a).yld i H x H' → gName j x (wipe σ [j]) H' fun σ2 H2 => wipe σ2 [j] = wipe σ [j] ∧ tYes σ2 H2 fun b H3 =>
        if b = true then te σ2 H3 fun y H4 => ∃ acc, H4 D = some (.lst acc) ∧ acc.length < sizeLine ∧ Nx (upd H4 D (.lst (acc ++ [y]))) else Nx H3) := by
  have hl := dpLen hx
  refine lcAll (n := ds.length) (fun i => p (ds.getD i .none)) hD (by omega) hw (fun i H lt s => ?_) (fun H s => ⟨xs, sameTup s ha, by omega⟩) (fun i H x H' lt s y => ?_) (fun H s e => hd H s ?_)
  · exact ⟨xs, xs[i], sameTup s ha, List.getElem?_eq_getElem (by omega)⟩
  · obtain ⟨rfl, y⟩ := y
    refine ⟨Same.refl _, fun R hR => ?_⟩
    have e := y xs (sameTup s ha)
    have e2 : ds[i]? = some ds[i] := List.getElem?_eq_getElem lt
    obtain ⟨v, h1, h2⟩ := dpAt hx e2
    obtain rfl : v = x := Option.some.inj (h1.symm.trans e)
    rw [List.getD_eq_getElem?_getD, e2] at hR
    exact hs v ds[i] _ (List.getElem_mem lt) s (dpSame s _ _ h2) R hR
  · rw [e]
    have : (List.range ds.length).map (fun i => p (ds.getD i .none)) = ds.map p := by
      refine List.ext_getElem (by simp) fun i h1 h2 => ?_
      simp only [List.getElem_map, List.getElem_range]
      rw [List.getD_eq_getElem?_getD, List.getElem?_eq_getElem (by simpa using h1)]
      rfl
    rw [this]
/-- the kept ones of a tuple -/
theorem lcSomeT {K : PySem.W.Frag} {a : Addr} {xs : List V} {ds : List PyData} {j : Nat} {tt : TT} {te : TE} {σ : L2.St} {H1 : Hp} {D : Addr} {Qd : Hp → Prop} (p : PyData → Bool) (ha : SqT K H1 a xs) (hx : DpAll K H1 xs ds) (hn : ds.length ≤ 1000) (hD : H1 D = none) (hw : ∀ v, wipe ((wipe σ [j]).set j (some v)) [j] = wipe σ [j])
    (hs : ∀ v d H, d ∈ ds → Same H1 H → Dp K H v d → (∀ (F : Bool → Hp → Prop), (∀ H2, Same H H2 → F (p d) H2) → tt ((wipe σ [j]).set j (some v)) H F) ∧ ∃ y d, (∀ H, Dp K H y d) ∧ Od 0 d ∧ ∀ (R : VK) H2, R y H2 → te ((wipe σ [j]).set j (some v)) H2 R)
    (hd : ∀ H zs, Same H1 H → H D = some (.lst zs) → (zs = [] ↔ ∀ d ∈ ds, p d = false) → (∃ es, (∀ H, DpAll K H zs es) ∧ (∀ d ∈ es, Od 0 d) ∧ es.length ≤ ds.length) → Qd H) :
    ∃ W : Nat → Nat → Hp → Prop, (∃ m, W 0 m (upd H1 D (.lst []))) ∧ ∀ i m H, W i m H →
      ((Itt K a).stop i H ∧ Qd H) ∨ ((Itt K a).go i H ∧ ∃ Nx : Hp → Prop, (∀ H', Nx H' → ∃ m', m' < m ∧ W (i + 1) m' H') ∧ ∀ x H', (Itt K a).yld i H x H' → gName j x (wipe σ [j]) H' fun σ2 H2 => wipe σ2 [j] = wipe σ [j] ∧ tt σ2 H2 fun b H3 =>
        if b = true then te σ2 H3 fun y H4 => ∃ acc, H4 D = some (.lst acc) ∧ acc.length < sizeLine ∧ Nx (upd H4 D (.lst (acc ++ [y]))) else Nx H3) := by
  have hl := dpLen hx
  refine lcSome (K := K) (n := ds.length) (fun i => p (ds.getD i .none)) hD (by omega) hw (fun i H lt s => ?_) (fun H s => ⟨xs, sameTup s ha, by omega⟩) (fun i H x H' lt s y => ?_) (fun H zs s e e0 es => hd H zs s e (e0.trans ?_) es)
  · exact ⟨xs, xs[i], sameTup s ha, List.getElem?_eq_getElem (by omega)⟩
  · obtain ⟨rfl, y⟩ := y
    have e := y xs (sameTup s ha)
    have e2 : ds[i]? = some ds[i] := List.getElem?_eq_getElem lt
    obtain ⟨v, h1, h2⟩ := dpAt hx e2
    obtain rfl : v = x := Option.some.inj (h1.symm.trans e)
    rw [List.getD_eq_getElem?_getD, e2]
    exact ⟨Same.refl _, hs v ds[i] _ (List.getElem_mem lt) s (dpSame s _ _ h2)⟩
  · constructor
    · intro h d hd
      obtain ⟨i, hi, e⟩ := List.getElem_of_mem hd
      have := h i hi
      rw [List.getD_eq_getElem?_getD, List.getElem?_eq_getElem hi] at this
      rw [← e]
      exact this
    · intro h i hi
      rw [List.getD_eq_getElem?_getD, List.getElem?_eq_getElem hi]
      exact h _ (List.getElem_mem hi)
/-- a kept list against [] -/
theorem eqNil {K : PySem.W.Frag} {H : Hp} {D e : Addr} {zs : List V} {Q : VK} {n : Nat} (hD : H D = some (.lst zs)) (he : H e = some (.lst [])) (es : ∃ es, (∀ H, DpAll K H zs es) ∧ (∀ d ∈ es, Od 0 d) ∧ es.length ≤ n) (h : Q (.bl (decide (zs = []))) H) : rEqD K (.ref D) (.ref e) H Q := by
  obtain ⟨ds, h1, h2, _⟩ := es
  refine ⟨.list ds, .list [], .lst (.inl (.inl hD)) (h1 H), .lst (.inl (.inl he)) .nil, ?_, rfl, ?_⟩
  · obtain ⟨a, b⟩ := allLay (ds := ds) (n := 0) fun d hd => (h2 d hd).lay
    have e1 : (PyData.list ds).canLay0 = true := a
    unfold SeqAt.shaped
    rw [e1, Bool.true_and]
    refine decide_eq_true ?_
    simp only [PyData.depth]
    omega
  · have hl := dpLen (h1 H)
    cases ds with
    | nil =>
      have : zs = [] := List.eq_nil_of_length_eq_zero hl
      subst this
      exact h
    | cons d ds =>
      have : ¬ zs = [] := fun z => by rw [z] at hl; cases hl
      rw [decide_eq_false this] at h
      exact h
theorem neNil {K : PySem.W.Frag} {H : Hp} {D e : Addr} {zs : List V} {Q : VK} {n : Nat} (hD : H D = some (.lst zs)) (he : H e = some (.lst [])) (es : ∃ es, (∀ H, DpAll K H zs es) ∧ (∀ d ∈ es, Od 0 d) ∧ es.length ≤ n) (h : Q (.bl (!decide (zs = []))) H) : rNeD K (.ref D) (.ref e) H Q := by
  obtain ⟨d, e, h1, h2, h3, h4, h5⟩ := eqNil (Q := fun x H => Q (match x with | .bl b => .bl (!b) | _ => x) H) hD he es h
  exact ⟨d, e, h1, h2, h3, h4, h5⟩
end KS

set_option Elab.async false
set_option linter.all false
set_option maxRecDepth 100000
set_option maxHeartbeats 4000000
namespace KS
open PySem PySem.Spec PyProof.Rows L2
/-- a def's bundle -/
structure Has (P : Program) (w : World) (K : PySem.W.Frag) (mg : Str → Option Value) (base : Heap) (k : Nat) (x : Str) (ps : List Str) (sp : Sp) : Prop where
  ex : ∃ (f : Addr) (fd : FuncData), mg x = some (.ref f) ∧ PySem.W.keepIn K (.ref f) = true ∧ Binds K fd ps [] ∧ FnOk P w K mg base CX0 k f fd ps sp
/-- one that may raise -/
structure HasX (P : Program) (w : World) (K : PySem.W.Frag) (mg : Str → Option Value) (base : Heap) (k : Nat) (x : Str) (ps : List Str) (sp : Sp) : Prop where
  ex : ∃ (f : Addr) (fd : FuncData), mg x = some (.ref f) ∧ PySem.W.keepIn K (.ref f) = true ∧ Binds K fd ps [] ∧ FnOk P w K mg base (L2.CX P w) k f fd ps sp
end KS

set_option Elab.async false
set_option linter.all false
set_option maxRecDepth 100000
set_option maxHeartbeats 4000000
/-! == of data that may hold dicts, either way -/
namespace PySem.SeqAt
open AutoSeq1 (wpAny_loadPart')
open MeetsSeq MeetsSeq2 MeetsSeq3 SeqRoads2
section
variable {prog : Program} {w : World}
/-- pairs compared from the left, no further than the first unlike ones -/
inductive Cmp (prog : Program) (w : World) (A : Around) (s : Shared) : List (Value × Value) → Bool → Prop
  | nil : Cmp prog w A s [] true
  | cons {x y : Value} {r : List (Value × Value)} {a b : Bool} (h : EqP prog w A s x y a) (t : a = true → Cmp prog w A s r b) : Cmp prog w A s ((x, y) :: r) (a && b)
theorem Cmp.inv {A : Around} {s : Shared} {x y : Value} {r : List (Value × Value)} {c : Bool} (h : Cmp prog w A s ((x, y) :: r) c) : ∃ a b, c = (a && b) ∧ EqP prog w A s x y a ∧ (a = true → Cmp prog w A s r b) := by
  cases h with
  | cons h t => exact ⟨_, _, rfl, h, t⟩
theorem tupCmp (l b : Addr) (p q : Array Value) (n m : Nat) (d1 d2 : Option Addr) (sl1 sl2 : Array (Option Value)) :
    MeetsIn prog w (Builtin.«tuple.__eq__» ⟨[.ref l, .ref b], []⟩)
      (fun A R s => s.heap.get? l = some { cls := .type "tuple", dict := d1, data := .seq p n, slots := sl1 } ∧ s.heap.get? b = some { cls := .type "tuple", dict := d2, data := .seq q m, slots := sl2 } ∧
        ∃ c, Cmp prog w A.in1 s (p.toList.zip q.toList) c ∧ R (.ok (.ret (.bool (c && p.size == q.size)))) s) :=
  .of_wp fun A R s0 h => by
    obtain ⟨g1, g2, c0, hc, hR⟩ := h
    obtain ⟨hp, g, d, tk, os⟩ := s0
    have sub := AutoSeq1.sub_tuple_tuple
    wp_walk using wpAny_loadPart' g1, wpAny_loadPart' g2, wpAny_forIn_list _ (fun rest z s' => z.1 = none ∧ s' = ⟨hp, g, d, tk, os⟩ ∧ ∃ c, Cmp prog w A.in1 ⟨hp, g, d, tk, os⟩ rest c ∧ R (.ok (.ret (.bool (c && p.size == q.size)))) ⟨hp, g, d, tk, os⟩) _
    case turn =>
      rintro ⟨x, y⟩ rest z s' ⟨_, rfl, c, hc, hR⟩
      obtain ⟨a, b, rfl, hxy, hr⟩ := hc.inv
      refine wpAny_bind (hxy _ _ ?_)
      cases a with
      | false =>
        wp_walk
        exact ⟨_, rfl, hR⟩
      | true =>
        wp_walk
        exact ⟨rfl, rfl, b, hr rfl, hR⟩
    case fin =>
      rintro ⟨z1, z2⟩ s' ⟨hz, rfl, c, hc, hR⟩
      cases hc
      have e : z1 = none := hz
      subst e
      wp_walk
      exact ⟨_, rfl, by simpa [Builtin.Tuple.tupleCompareSizes] using hR⟩
    case h =>
      exact ⟨rfl, rfl, c0, hc, hR⟩
theorem rcCmp {A : Around} {s : Shared} {l b : Addr} {p q : Array Value} {c : Bool} (h1 : s.heap.IsTuple l p) (h2 : s.heap.IsTuple b q) (hu : A.units < cLine) (hc : Cmp prog w A.in1 s (p.toList.zip q.toList) c)
    (E Q : Value → Shared → Prop) (k : Q (.bool (c && p.size == q.size)) s) : wpAny (model prog w) A (richCompare .Eq (.ref l) (.ref b)) Q E s := by
  obtain ⟨⟨_, d1, _, sl1⟩, o1, e1, n, e2⟩ := h1
  obtain ⟨⟨_, d2, _, sl2⟩, o2, e3, m, e4⟩ := h2
  simp only at e1 e2 e3 e4
  subst e1 e2 e3 e4
  have t1 : s.TypeIs (.ref l) "tuple" := ⟨_, o1, rfl⟩
  have t2 : s.TypeIs (.ref b) "tuple" := ⟨_, o2, rfl⟩
  refine wpAny_richCompare_same_room (op := .Eq) t1 t2 F.slot_tuple_eq (call_meetsIn F.slot_tuple_eq t1 F.entry_tuple_eq (F.args_tuple_eq_2 _ _) (tupCmp l b p q n m d1 d2 sl1 sl2) ⟨o1, o2, c, hc, ?_⟩) hu
  exact ⟨(fun z => nomatch z), k⟩
end
end PySem.SeqAt
namespace DB
open PySem PySem.Spec PyProof.Rows L2
/-- data, or flat ones -/
def EbD (K : PySem.W.Frag) (H : Hp) (x y : V) (c : Bool) : Prop := (flatV x = true ∧ flatV y = true ∧ c = eqV x y) ∨ ∃ d1 d2, Dp K H x d1 ∧ Dp K H y d2 ∧ SeqAt.shaped d1 = true ∧ SeqAt.shaped d2 = true ∧ c = PyData.eqv d1 d2
/-- two rows compared from the left -/
inductive EbL (F : V → V → Bool → Prop) : List V → List V → Bool → Prop
  | nilL {ys : List V} : EbL F [] ys true
  | nilR {xs : List V} : EbL F xs [] true
  | cons {x y : V} {xs ys : List V} {a b : Bool} (h : F x y a) (t : a = true → EbL F xs ys b) : EbL F (x :: xs) (y :: ys) (a && b)
/-- how two values compare: data, tuples, dicts, down to the depth n -/
def Eb (K : PySem.W.Frag) (H : Hp) : Nat → V → V → Bool → Prop
  | 0 => fun x y c => EbD K H x y c
  | n + 1 => fun x y c => EbD K H x y c ∨
      (∃ (a b : Addr) (xs ys : List V) (e : Bool), x = .ref a ∧ y = .ref b ∧ SqT K H a xs ∧ SqT K H b ys ∧ (a = b → c = true) ∧ EbL (Eb K H n) xs ys e ∧ c = (e && xs.length == ys.length)) ∨
      ∃ (a b : Addr) (ka kb : List (Key × V)) (e : Key → Bool), x = .ref a ∧ y = .ref b ∧ H a = some (.dK ka) ∧ H b = some (.dK kb) ∧ (a = b → c = true) ∧ (∀ k v u, (k, v) ∈ ka → valV kb k = some u → Eb K H n v u (e k)) ∧ c = (ka.length == kb.length && ka.all fun p => (valV kb p.1).isSome && e p.1)
section
variable {X : Cx} {pins : List (Addr × Obj)} {σ : L2.St} {H : Hp} {s : Shared}
theorem hitsB {A : Around} {n : Nat} {e : Key → Bool} (ih : ∀ x y v u c, Eb X.K H n x y c → RelV x v → RelV y u → SeqAt.EqP X.prog X.w A s v u c) {ls : List (Key × V)} {vb : List (Key × Value)} (rb : KV ls vb) {ks : List (Key × V)} {va : List (Key × Value)}
    (ra : KV ks va) : (∀ k v u, (k, v) ∈ ks → valV ls k = some u → Eb X.K H n v u (e k)) → PySem.W.KeqHitsP X.prog X.w A s vb va (ks.all fun p => (valV ls p.1).isSome && e p.1) := by
  unfold KV at ra
  induction ra with
  | nil => intro _; exact .nil
  | @cons p q ps qs h t k =>
    intro hp
    obtain ⟨h1, h2⟩ := h
    obtain ⟨key, v⟩ := q
    obtain ⟨kk, pv⟩ := p
    have h1' : kk = key := h1
    subst h1'
    have rr := rb.val kk
    rw [List.all_cons]
    cases hv : valV ls kk with
    | none =>
      rw [hv] at rr
      have hn : valueAt vb kk = none := by
        cases hb : valueAt vb kk with
        | none => rfl
        | some y => rw [hb] at rr; exact (show False from rr).elim
      exact .miss hn
    | some u =>
      rw [hv] at rr
      obtain ⟨y, hy, ry⟩ := rr.some_of
      exact .hit hy (ih _ _ _ _ _ (hp kk pv u List.mem_cons_self hv) h2 ry) (k fun k' v' u' hm hv' => hp k' v' u' (List.mem_cons_of_mem _ hm) hv')
theorem data_run (I : Inv X pins σ H s) {A : Around} (hu : A.units + 70 < cLine) {x y : V} {v u : Value} {c : Bool} (h : EbD X.K H x y c) (rx : RelV x v) (ry : RelV y u) : SeqAt.EqP X.prog X.w A s v u c := by
  rcases h with ⟨f1, f2, rfl⟩ | ⟨d1, d2, h1, h2, s1, s2, rfl⟩
  · exact (eqAt_V rx ry f1 f2).eqP
  obtain ⟨as, r1⟩ := Dp.reads I d1 x v h1 rx
  obtain ⟨bs, r2⟩ := Dp.reads I d2 y u h2 ry
  exact (SeqAt.eqAt_reads d1 d2 A s v u as bs r1 r2 (SeqAt.canLay_of_shaped s1) (SeqAt.canLay_of_shaped s2) (SeqAt.room_of_shaped s1 (by omega))).eqP
/-- the comparison itself of two objects -/
theorem rc_run (I : Inv X pins σ H s) {A : Around} {n : Nat} (hu : A.units + 1 < cLine) (ih : ∀ x y v u c, Eb X.K H n x y c → RelV x v → RelV y u → SeqAt.EqP X.prog X.w A.in1 s v u c) {a b : Addr} {c : Bool} 
    (h : (∃ (xs ys : List V) (e : Bool), SqT X.K H a xs ∧ SqT X.K H b ys ∧ EbL (Eb X.K H n) xs ys e ∧ c = (e && xs.length == ys.length)) ∨
      ∃ (ka kb : List (Key × V)) (e : Key → Bool), H a = some (.dK ka) ∧ H b = some (.dK kb) ∧ (∀ k v u, (k, v) ∈ ka → valV kb k = some u → Eb X.K H n v u (e k)) ∧ c = (ka.length == kb.length && ka.all fun p => (valV kb p.1).isSome && e p.1))
    (E Q : Value → Shared → Prop) (q : Q (.bool c) s) : wpAny (model X.prog X.w) A (richCompare .Eq (.ref a) (.ref b)) Q E s := by
  rcases h with ⟨xs, ys, e, ha, hb, hp, rfl⟩ | ⟨ka, kb, e, ha, hb, hp, rfl⟩
  · obtain ⟨us, r1, p1, -⟩ := I.tuple ha
    obtain ⟨ws, r2, p2, -⟩ := I.tuple hb
    refine SeqAt.rcCmp (c := e) p1 p2 (by omega) ?_ E Q ?_
    · show SeqAt.Cmp X.prog X.w A.in1 s (us.zip ws) e
      clear p1 p2 ha hb q
      induction hp generalizing us ws with
      | nilL => cases r1; exact .nil
      | nilR => cases r2; rw [List.zip_nil_right]; exact .nil
      | cons h _ k =>
        cases r1 with
        | cons a1 b1 =>
          cases r2 with
          | cons a2 b2 => exact .cons (ih _ _ _ _ _ h a1 a2) fun z => k z _ b1 _ b2
    · rw [List.size_toArray, List.size_toArray, ← r1.length, ← r2.length]
      exact q
  · obtain ⟨_, ya, va, ra, da⟩ := (show ObjOk X.prog X.w H s.heap a (.dK ka) from I.hok a _ ha)
    obtain ⟨_, yb, vb, rb, db⟩ := (show ObjOk X.prog X.w H s.heap b (.dK kb) from I.hok b _ hb)
    refine PySem.W.rcP_dicts (knd := mixKind X.prog X.w) (r := ka.all fun p => (valV kb p.1).isSome && e p.1) ya yb da db (by omega) (fun _ => hitsB ih rb ra hp) E Q ?_
    rw [ra.length, rb.length] at q
    exact q
theorem eb_run (I : Inv X pins σ H s) : ∀ (n : Nat) (A : Around), A.units + n + 70 < cLine → ∀ (x y : V) (v u : Value) (c : Bool), Eb X.K H n x y c → RelV x v → RelV y u → SeqAt.EqP X.prog X.w A s v u c
  | 0, A, hu, x, y, v, u, c, h, rx, ry => by
    exact data_run I (by omega) h rx ry
  | n + 1, A, hu, x, y, v, u, c, h, rx, ry => by
    have ih := eb_run I n A.in1 (by show A.units + 1 + n + 70 < cLine; omega)
    rcases h with h | ⟨a, b, xs, ys, e, rfl, rfl, ha, hb, hs, hp, hc⟩ | ⟨a, b, ka, kb, e, rfl, rfl, ha, hb, hs, hp, hc⟩
    · exact data_run I (by omega) h rx ry
    · cases (show v = Value.ref a from rx)
      cases (show u = Value.ref b from ry)
      by_cases e1 : a = b
      · rw [hs e1, e1]
        exact (SeqAt.EqAt.same _).eqP
      · exact SeqAt.eqP_refs e1 fun E Q q => rc_run I (by omega) ih (.inl ⟨xs, ys, e, ha, hb, hp, hc⟩) E Q q
    · cases (show v = Value.ref a from rx)
      cases (show u = Value.ref b from ry)
      by_cases e1 : a = b
      · rw [hs e1, e1]
        exact (SeqAt.EqAt.same _).eqP
      · exact SeqAt.eqP_refs e1 fun E Q q => rc_run I (by omega) ih (.inr ⟨ka, kb, e, ha, hb, hp, hc⟩) E Q q
end
/-- d == e of two dicts of data -/
def rEqDB (K : PySem.W.Frag) : R2 := fun x y H Q => ∃ (n : Nat) (a b : Addr) (ka kb : List (Key × V)) (e : Key → Bool), n ≤ 20 ∧ x = .ref a ∧ y = .ref b ∧ H a = some (.dK ka) ∧ H b = some (.dK kb) ∧ (∀ k v u, (k, v) ∈ ka → valV kb k = some u → Eb K H n v u (e k)) ∧ Q (.bl (ka.length == kb.length && ka.all fun p => (valV kb p.1).isSome && e p.1)) H
theorem op_eqDB {X : Cx} (hu : X.A.units + 100 < cLine) : OpR X (compareOp .Eq) (rEqDB X.K) := by
  intro pins s σ H x y v u Q I rx ry h
  obtain ⟨n, a, b, ka, kb, e, hn, rfl, rfl, ha, hb, hp, q⟩ := h
  cases (show v = Value.ref a from rx)
  cases (show u = Value.ref b from ry)
  exact rc_run I (by omega) (eb_run I n X.A.in1 (by show X.A.units + 1 + n + 70 < cLine; omega)) (.inr ⟨ka, kb, e, ha, hb, hp, rfl⟩) _ _ ⟨.bl _, H, I, rfl, q⟩
theorem op_or {X : Cx} {f : Value → Value → Sem Value} {r1 r2 : R2} (h1 : OpR X f r1) (h2 : OpR X f r2) : OpR X f (fun x y H Q => r1 x y H Q ∨ r2 x y H Q) := fun pins s σ H x y v u Q I rx ry h => h.elim (h1 pins s σ H x y v u Q I rx ry) (h2 pins s σ H x y v u Q I rx ry)
theorem un100 {k : Nat} {A : Around} (r : Room k A) : A.units + 100 < cLine := by
  have := r.un
  omega
end DB

set_option Elab.async false
set_option linter.all false
set_option maxRecDepth 100000
set_option maxHeartbeats 4000000
namespace KS.La
open PySem PySem.Spec PyProof.Rows L2
/-! ### the feed -/
/-- all but the list at f stands -/
def Kp (f : Addr) (H H' : Hp) : Prop := ∀ b o, b ≠ f → H b = some o → H' b = some o
def Fd (H : Hp) (f : Addr) : Prop := ∃ x y : Int, H f = some (.lst [.int x, .int y]) ∧ 0 ≤ x ∧ 0 ≤ y
theorem Kp.refl (f : Addr) (H : Hp) : Kp f H H := fun _ _ _ h => h
theorem Kp.trans {f : Addr} {H H1 H2 : Hp} (a : Kp f H H1) (b : Kp f H1 H2) : Kp f H H2 := fun c o n h => b c o n (a c o n h)
theorem Kp.put {f : Addr} {H : Hp} {o : HO} : Kp f H (upd H f o) := fun b u n h => by
  rw [upd_ne n]
  exact h
theorem Kp.new {f p : Addr} {H : Hp} {o : HO} (h : H p = none) : Kp f H (upd H p o) := fun b u _ e => by
  rw [upd_ne (ne_of_none e h)]
  exact e
theorem Kp.same {f : Addr} {H H' : Hp} (s : Same H H') : Kp f H H' := fun b o _ h => s b o h
theorem Fd.same {f : Addr} {H H' : Hp} (s : Same H H') : Fd H f → Fd H' f := fun ⟨x, y, h, a, b⟩ => ⟨x, y, s _ _ h, a, b⟩
theorem Fd.new {f p : Addr} {H : Hp} {o : HO} (h : H p = none) (e : Fd H f) : Fd (upd H p o) f := e.same (sameUpd h)
theorem Fd.put {f : Addr} {H : Hp} {x y : Int} (hx : 0 ≤ x) (hy : 0 ≤ y) : Fd (upd H f (.lst [.int x, .int y])) f := ⟨x, y, upd_same, hx, hy⟩
/-! ### promises -/
def spFeed (K : PySem.W.Frag) : Sp := fun vs H Q _ => ∃ (a : Addr) (ns : List Int) (k : Int), vs = [.ref a, .int k] ∧ SqL K H a (ns.map V.int) ∧ ns.length ≤ 63 ∧ 0 ≤ k ∧ k < 1000 ∧ ∀ p H', Same H H' → H p = none → Fd H' p → Q (.ref p) H'
def spDraw : Sp := fun vs H Q _ => ∃ (f : Addr) (n : Int), vs = [.ref f, .int n] ∧ Fd H f ∧ 0 < n ∧ n < 1000000 ∧ ∀ (r : Int) H', 0 ≤ r → r < n → Kp f H H' → Fd H' f → Q (.int r) H'
def spPick (K : PySem.W.Frag) : Sp := fun vs H Q _ => ∃ (f l : Addr) (xs : List V), vs = [.ref f, .ref l] ∧ Fd H f ∧ SqL K H l xs ∧ l ≠ f ∧ 0 < xs.length ∧ xs.length < 1000 ∧ ∀ (i : Nat) (v : V) H', xs[i]? = some v → Kp f H H' → Fd H' f → Q v H'
def spCalls : Sp := fun vs H Q _ => vs = [] ∧ ∀ p, H p = none → Q (.ref p) (upd H p (.lst [.str "make", .str "", .str "r 2", .str "Mend!"]))
def TOk (z : Str) : Prop := SOk z ∧ z.length ≤ 1000
instance (z : Str) : Decidable (TOk z) := by unfold TOk SOk; infer_instance
theorem sokFold : ∀ (l : List (Array Nat)) (a : Array Nat), a.all (· < 0x110000) = true → (∀ b ∈ l, b.all (· < 0x110000) = true) → (l.foldl (· ++ ·) a).all (· < 0x110000) = true
  | [], _, h, _ => h
  | b :: l, a, h, k => sokFold l (a ++ b) (by rw [Array.all_append, h, k b (List.mem_cons_self ..)]; rfl) fun c hc => k c (List.mem_cons_of_mem _ hc)
theorem sokMul {z : Str} {n : Int} (h : SOk z) : SOk (Txt.mul z n) := by
  unfold Txt.mul
  split
  · (show Str.empty.cps.all (· < 0x110000) = true; decide +kernel)
  · split
    · exact h
    · exact sokFold _ #[] (by simp) fun b hb => by rw [List.eq_of_mem_replicate hb]; exact h
theorem tokMul {z : Str} {n : Int} {c : Nat} (h : SOk z) (e : z = ⟨#[c]⟩) (m : n ≤ 1000) : TOk (Txt.mul z n) := ⟨sokMul h, len_mul_one (N := 1000) e m⟩
def spText : Sp := fun vs H Q _ => ∃ f : Addr, vs = [.ref f] ∧ Fd H f ∧ ∀ (z : Str) H', TOk z → Kp f H H' → Fd H' f → Q (.str z) H'
section
variable {P : Program} {w : World} {K : PySem.W.Frag} {mg : Str → Option Value} {base : Heap} {f : Addr} {fd : FuncData}
theorem scFeed : FnScope ["_law_script", "_law_k", "_law_cell", "_law_great"] ["_law_script", "_law_k"] (defScope lFeed) := ⟨rfl, rfl, rfl, by decide +kernel, rfl, by decide +kernel, by decide +kernel⟩
theorem seqNat {ns : List Int} {k : Int} (h0 : 0 ≤ k) (h : k < (ns.length : Int)) : ∃ n : Int, atI (ns.map V.int) k = some (.int n) := by
  obtain ⟨j, rfl⟩ : ∃ j : Nat, k = (j : Int) := ⟨k.toNat, by omega⟩
  have hj : j < ns.length := by omega
  refine ⟨ns[j], atI_nat ?_⟩
  rw [List.getElem?_map, List.getElem?_eq_getElem hj]
  rfl
theorem okFeed {k : Nat} (F : FnP K "_law_feed_of" lFeed f fd) (ml : mg "len" = none) : FnOk P w K mg base CX0 (k + 1) f fd ["_law_script", "_law_k"] (spFeed K) := by
  refine F.ok scFeed (fun vs H Q E h => ?_) (fun cdv A outer s H vs Q E hr h => ?_)
  · obtain ⟨a, ns, k, rfl, _⟩ := h
    rfl
  · obtain ⟨a, ns, n, rfl, hS, hlen, hn0, hn1, q⟩ := h
    refine ⟨_, PSs.nox (pss_cons (ps_set (i := 2) scFeed.nd rfl (.inl rfl) (pe_op op_add (pe_op op_mul pe_int (pv 1)) pe_int))
      (C8.pss_cut (ps_if (pt_cmpR op_lt (pv 1) (pe_callB call_len_seq (by rfl) ml PySem.boot_len (pa_cons (pv 0) pa_nil)) (nomark _)) (pss_one (ps_set (i := 2) scFeed.nd rfl (.inl rfl) (pe_ix ix_list (pv 0) (pv 1) (fun _ _ => rfl)))) pss_nil)
      (C8.pss_cut (ps_if (pt_cmpR op_lt (pv 2) pe_int (nomark _)) (pss_one (ps_set (i := 2) scFeed.nd rfl (.inl rfl) (pe_op op_sub pe_int (pe_op op_mul pe_int (pv 2))))) pss_nil)
      (C8.pss_cut (ps_set (i := 3) scFeed.nd rfl (.inl rfl) (pe_ifExp (pt_cmpR op_ge (pv 2) (pe_op op_pow pe_int pe_int) (nomark _)) (pv 2) pe_int))
      (pss_one (ps_ret (pe_lst (pa_cons (pv 3) (pa_cons (pe_op op_add (pe_op op_add (pe_op op_mod (pv 2) pe_int) (pe_op op_mul pe_int (pv 1))) pe_int) pa_nil))))))))), ?_⟩
    refine ⟨.int n, rfl, 9029, n, rfl, rfl, .inl ⟨by decide, by decide⟩, 9029 * n, 31, rfl, rfl, ?_⟩
    refine ⟨fun σ' H' => H' = H ∧ ∃ c : Int, σ' = [some (.ref a), some (.int n), some (.int c), none], ?_, ?_⟩
    · refine ⟨.int n, rfl, .ref a, rfl, a, _, rfl, .inl hS, n, _, rfl, rfl, _, rfl, ite2 (fun e => ?_) (fun _ => ?_)⟩
      · have e1 : n < ((ns.map V.int).length : Int) := of_decide_eq_true e
        rw [List.length_map] at e1
        obtain ⟨c, hc⟩ := seqNat hn0 e1
        exact ⟨.ref a, rfl, .int n, rfl, a, _, n, _, rfl, rfl, hS, hc, rfl, c, rfl⟩
      · exact ⟨rfl, _, rfl⟩
    rintro σ' H' ⟨rfl, c, rfl⟩
    refine ⟨fun σ' H2 => H2 = H' ∧ ∃ c : Int, 0 ≤ c ∧ σ' = [some (.ref a), some (.int n), some (.int c), none], ?_, ?_⟩
    · refine ⟨.int c, rfl, c, 0, rfl, rfl, _, rfl, ite2 (fun e => ?_) (fun e => ?_)⟩
      · have e1 : c < 0 := of_decide_eq_true e
        exact ⟨.int c, rfl, 7, c, rfl, rfl, .inl ⟨by decide, by decide⟩, 5, 7 * c, rfl, rfl, rfl, 5 - 7 * c, by omega, rfl⟩
      · have e1 : ¬ c < 0 := fun z => e (decide_eq_true z)
        exact ⟨rfl, c, by omega, rfl⟩
    rintro σ' H2 ⟨rfl, d, hd, rfl⟩
    refine ⟨fun σ' H3 => H3 = H2 ∧ ∃ g : Int, 0 ≤ g ∧ σ' = [some (.ref a), some (.int n), some (.int d), some (.int g)], ?_, ?_⟩
    · refine ⟨.int d, rfl, 10, 18, rfl, rfl, ⟨by decide, by decide, by decide⟩, d, _, rfl, rfl, _, rfl, ite2 (fun _ => ?_) (fun _ => ?_)⟩
      · exact ⟨.int d, rfl, rfl, d, hd, rfl⟩
      · exact ⟨rfl, 0, by decide, rfl⟩
    rintro σ' H3 ⟨rfl, g, hg, rfl⟩
    refine ⟨.int g, rfl, .int d, rfl, d, 1000003, rfl, rfl, (by show (0 : Int) < 1000003; decide), .int n, rfl, 11, n, rfl, rfl, .inl ⟨by decide, by decide⟩, _, _, rfl, rfl, _, _, rfl, rfl, (by show 2 ≤ sizeLine; decide), fun p hp => ?_⟩
    refine q p _ (sameUpd hp) hp ⟨_, _, upd_same, hg, ?_⟩
    have := Int.emod_nonneg d (show (1000003 : Int) ≠ 0 by decide)
    omega
theorem scDraw : FnScope ["_law_feed", "_law_many", "_law_digit"] ["_law_feed", "_law_many"] (defScope lDraw) := ⟨rfl, rfl, rfl, by decide +kernel, rfl, by decide +kernel, by decide +kernel⟩
theorem okDraw {k : Nat} (F : FnP K "_law_draw" lDraw f fd) : FnOk P w K mg base CX0 (k + 1) f fd ["_law_feed", "_law_many"] spDraw := by
  refine F.ok scDraw (fun vs H Q E h => ?_) (fun cdv A outer s H vs Q E hr h => ?_)
  · obtain ⟨a, n, rfl, _⟩ := h
    rfl
  · obtain ⟨a, n, rfl, ⟨x, y, hf, hx, hy⟩, hn0, hn1, q⟩ := h
    have hS : ∀ {x y : Int} {H : Hp}, H a = some (.lst [.int x, .int y]) → SqL K H a [.int x, .int y] := fun h => .inl (.inl h)
    refine ⟨_, PSs.nox (pss_cons (ps_if (pt_cmpR op_gt (pe_ix ix_list (pv 0) pe_int (fun _ _ => rfl)) pe_int (nomark _))
        (pss_cons (ps_set (i := 2) scDraw.nd rfl (.inl rfl) (pe_op op_modN (pe_ix ix_list (pv 0) pe_int (fun _ _ => rfl)) (pv 1)))
        (pss_cons (ps_asg (pe_op op_fdivN (pe_ix ix_list (pv 0) pe_int (fun _ _ => rfl)) (pv 1)) (pg_sub (pv 0) pe_int set_list))
        (pss_one (ps_ret (pv 2))))) pss_nil)
      (pss_cons (ps_asg (pe_op op_mod (pe_op op_add (pe_op op_mul (pe_ix ix_list (pv 0) pe_int (fun _ _ => rfl)) pe_int) pe_int) pe_int) (pg_sub (pv 0) pe_int set_list))
      (pss_one (ps_ret (pe_op op_modN (pe_op op_fdiv (pe_ix ix_list (pv 0) pe_int (fun _ _ => rfl)) pe_int) (pv 1)))))), ?_⟩
    refine ⟨.ref a, rfl, a, _, 0, .int x, rfl, rfl, hS hf, atI_nat (j := 0) rfl, x, 0, rfl, rfl, _, rfl, ite2 (fun e => ?_) (fun e => ?_)⟩
    · refine ⟨.ref a, rfl, a, _, 0, .int x, rfl, rfl, hS hf, atI_nat (j := 0) rfl, .int n, rfl, x, n, rfl, rfl, (by show n ≠ 0; omega), ?_⟩
      refine ⟨.ref a, rfl, a, _, 0, .int x, rfl, rfl, hS hf, atI_nat (j := 0) rfl, .int n, rfl, x, n, rfl, rfl, ⟨(by omega), (by omega)⟩, ?_⟩
      refine ⟨.ref a, rfl, a, _, _, 0, rfl, rfl, hf, rfl, ?_⟩
      refine ⟨_, rfl, ?_⟩
      show Q (.int (x.fmod n)) (upd H a (.lst [.int (x.fdiv n), .int y]))
      rw [Int.fmod_eq_emod_of_nonneg x (by omega), Int.fdiv_eq_ediv_of_nonneg x (by omega)]
      exact q (x % n) _ (Int.emod_nonneg x (by omega)) (Int.emod_lt_of_pos x hn0) Kp.put (Fd.put (Int.ediv_nonneg hx (by omega)) hy)
    · refine ⟨.ref a, rfl, a, _, 1, .int y, rfl, rfl, hS hf, atI_nat (j := 1) rfl, y, 48271, rfl, rfl, .inr ⟨by decide, by decide⟩, _, 11, rfl, rfl, _, 2147483647, rfl, rfl, (by show (0 : Int) < 2147483647; decide), ?_⟩
      refine ⟨.ref a, rfl, a, _, _, 1, rfl, rfl, hf, rfl, ?_⟩
      have hm := Int.emod_nonneg (y * 48271 + 11) (show (2147483647 : Int) ≠ 0 by decide)
      refine ⟨.ref a, rfl, a, [.int x, .int ((y * 48271 + 11) % 2147483647)], 1, .int ((y * 48271 + 11) % 2147483647), rfl, rfl, hS upd_same, atI_nat (j := 1) rfl, (y * 48271 + 11) % 2147483647, 127, rfl, rfl, ⟨by decide, by decide⟩, ?_⟩
      refine ⟨.int n, rfl, _, n, rfl, rfl, (by show n ≠ 0; omega), ?_⟩
      show Q (.int (((y * 48271 + 11) % 2147483647 / 127).fmod n)) (upd H a (.lst [.int x, .int ((y * 48271 + 11) % 2147483647)]))
      rw [Int.fmod_eq_emod_of_nonneg _ (by omega)]
      exact q _ _ (Int.emod_nonneg _ (by omega)) (Int.emod_lt_of_pos _ hn0) Kp.put (Fd.put hx hm)
theorem scPick : FnScope ["_law_feed", "_law_items"] ["_law_feed", "_law_items"] (defScope lPick) := ⟨rfl, rfl, rfl, by decide +kernel, rfl, by decide +kernel, by decide +kernel⟩
theorem okPick {k : Nat} (F : FnP K "_law_pick" lPick f fd) (ml : mg "len" = none) (D : Has P w K mg base (k + 1) "_law_draw" ["_law_feed", "_law_many"] spDraw) : FnOk P w K mg base CX0 (k + 2) f fd ["_law_feed", "_law_items"] (spPick K) := by
  obtain ⟨fD, fdD, gD, kD, bD, GD⟩ := D.ex
  refine F.ok scPick (fun vs H Q E h => ?_) (fun cdv A outer s H vs Q E hr h => ?_)
  · obtain ⟨a, l, xs, rfl, _⟩ := h
    rfl
  · obtain ⟨a, l, xs, rfl, hF, hL, ne, h0, h1, q⟩ := h
    refine ⟨_, PSs.nox (pss_one (ps_ret (pe_ix ix_list (pv 1) (pe_call GD hr (by rfl) gD kD bD .nil pass0 (pa_cons (pv 0) (pa_cons (pe_callB call_len_seq (by rfl) ml PySem.boot_len (pa_cons (pv 1) pa_nil)) pa_nil))) (fun _ _ => rfl)))), ?_⟩
    refine ⟨.ref l, rfl, .ref a, rfl, .ref l, rfl, l, xs, rfl, .inl hL, ?_⟩
    refine ⟨a, (xs.length : Int), rfl, hF, by omega, by omega, fun r H' r0 r1 kp fd' => ?_⟩
    obtain ⟨j, rfl⟩ : ∃ j : Nat, r = (j : Int) := ⟨r.toNat, by omega⟩
    have hj : j < xs.length := by omega
    have hv : xs[j]? = some xs[j] := List.getElem?_eq_getElem hj
    have hL' : SqL K H' l xs := by
      rcases hL with (h | ⟨o, h⟩) | h
      · exact .inl (.inl (kp _ _ ne h))
      · exact .inl (.inr ⟨o, kp _ _ ne h⟩)
      · exact .inr h
    exact ⟨l, xs, _, _, rfl, rfl, hL', atI_nat hv, q j _ H' hv kp fd'⟩
theorem scCalls : FnScope [] [] (defScope lCalls) := ⟨rfl, rfl, rfl, by decide +kernel, rfl, by decide +kernel, by decide +kernel⟩
theorem okCalls {k : Nat} (F : FnP K "_law_calls" lCalls f fd) : FnOk P w K mg base CX0 (k + 1) f fd [] spCalls := by
  refine F.ok scCalls (fun vs H Q E h => ?_) (fun cdv A outer s H vs Q E hr h => ?_)
  · obtain ⟨rfl, _⟩ := h
    rfl
  · obtain ⟨rfl, q⟩ := h
    refine ⟨_, PSs.nox (pss_one (ps_ret (pe_lst (pa_cons pe_str (pa_cons pe_str (pa_cons pe_str (pa_cons pe_str pa_nil))))))), ?_⟩
    exact ⟨(by show 4 ≤ sizeLine; decide), fun p hp => q p hp⟩
/-- z * n, z one sign -/
def rRepX : R2 := fun x y H Q => ∃ (z : Str) (n : Int), x = .str z ∧ y = .int n ∧ z.length = 1 ∧ 0 ≤ n ∧ n ≤ 1000 ∧ Q (.str (Txt.mul z n)) H
theorem opRepX {X : Cx} : OpR X (binaryOp .Mult) rRepX := by
  intro pins s σ H x y v u Q I rx ry h
  obtain ⟨z, n, rfl, rfl, hz, h0, h1, q⟩ := h
  obtain ⟨t, rfl⟩ := rx
  obtain ⟨t', rfl⟩ := ry
  refine SB.mul ⟨?_, fun g _ => ?_, fun _ _ => ?_⟩ fun t2 k => ⟨.str (Txt.mul z n), H, I.tok k, ⟨t2, rfl⟩, q⟩
  · simp
    omega
  · rw [hz]
    have hn : 0 < n := by omega
    have hle : (1 : Int) ≤ (2 ^ 63 - 1) / n := by
      rw [Int.le_ediv_iff_mul_le hn]
      omega
    show ¬ ((1 : Nat) : Int) > (2 ^ 63 - 1) / n
    omega
  · rw [hz]
    unfold Builtin.Str.tooLong
    rw [decide_eq_false_iff_not, sizeLine_eq]
    omega
theorem scTxt : FnScope ["_law_feed", "_law_some"] ["_law_feed"] (defScope lText) := ⟨rfl, rfl, rfl, by decide +kernel, rfl, by decide +kernel, by decide +kernel⟩
theorem okTxt {k : Nat} (F : FnP K "_law_text" lText f fd) (D : Has P w K mg base (k + 1) "_law_draw" ["_law_feed", "_law_many"] spDraw) (Pk : Has P w K mg base (k + 2) "_law_pick" ["_law_feed", "_law_items"] (spPick K))
    (Ca : Has P w K mg base (k + 1) "_law_calls" [] spCalls) : FnOk P w K mg base CX0 (k + 3) f fd ["_law_feed"] spText := by
  obtain ⟨fD, fdD, gD, kD, bD, GD⟩ := D.ex
  obtain ⟨fP, fdP, gP, kP, bP, GP⟩ := Pk.ex
  obtain ⟨fC, fdC, gC, kC, bC, GC⟩ := Ca.ex
  refine F.ok scTxt (fun vs H Q E h => ?_) (fun cdv A outer s H vs Q E hr h => ?_)
  · obtain ⟨a, rfl, _⟩ := h
    rfl
  · obtain ⟨a, rfl, hF, q⟩ := h
    have hr1 : Room (k + 1) _ := hr.mono (by omega)
    refine ⟨_, PSs.nox (pss_cons (ps_set (i := 1) scTxt.nd rfl (.inl rfl) (pe_lst (pa_cons (pe_str) (pa_cons (pe_str) (pa_cons (pe_str) (pa_cons (pe_str) (pa_cons (pe_str) (pa_cons (pe_str) (pa_cons (pe_str) (pa_cons (pe_str) (pa_cons (pe_str) (pa_cons (pe_op opRepX pe_str (pe_op op_add pe_int (pe_call GD hr1 (by rfl) gD kD bD .nil pass0 (pa_cons (pv 0) (pa_cons (pe_int) pa_nil))))) pa_nil)))))))))))) (pss_one (ps_ret (pe_call GP hr (by rfl) gP kP bP .nil pass0 (pa_cons (pv 0) (pa_cons (pe_op op_cat (pv 1) (pe_slice sl_list (pe_call0 GC hr1 (by rfl) gC kC bC .nil pass0) po_none (po_some (pe_op op_add pe_int (pe_call GD hr1 (by rfl) gD kD bD .nil pass0 (pa_cons (pv 0) (pa_cons (pe_int) pa_nil))))))) pa_nil)))))), ?_⟩
    have neF : ∀ {H : Hp} {p : Addr}, Fd H a → H p = none → p ≠ a := fun ⟨x, y, e, _⟩ hp z => by
      rw [z, e] at hp
      cases hp
    refine ⟨.ref a, rfl, a, 40, rfl, hF, by decide, by decide, fun r H1 r0 r1 k1 F1 => ⟨1, r, rfl, rfl, _, 1 + r, rfl, rfl, rfl, by omega, by omega, (by show 10 ≤ sizeLine; decide), fun p hp => ?_⟩⟩
    have ep : (upd H1 p (.lst ([.str "0", .str "1", .str "0", .str "1", .str "", .str "10", .str " ", .str "a b", .str "None", .str (Txt.mul "x" (1 + r))] : List V))) p = some (.lst [.str "0", .str "1", .str "0", .str "1", .str "", .str "10", .str " ", .str "a b", .str "None", .str (Txt.mul "x" (1 + r))]) := upd_same
    have np := neF F1 hp
    have F2 := F1.new (o := .lst ([.str "0", .str "1", .str "0", .str "1", .str "", .str "10", .str " ", .str "a b", .str "None", .str (Txt.mul "x" (1 + r))] : List V)) hp
    have k2 := k1.trans (Kp.new (o := .lst ([.str "0", .str "1", .str "0", .str "1", .str "", .str "10", .str " ", .str "a b", .str "None", .str (Txt.mul "x" (1 + r))] : List V)) hp)
    have good : ∀ v ∈ ([.str "0", .str "1", .str "0", .str "1", .str "", .str "10", .str " ", .str "a b", .str "None", .str (Txt.mul "x" (1 + r)), .str "make", .str "", .str "r 2", .str "Mend!"] : List V), ∃ z, v = .str z ∧ TOk z := fun v hv => by
      simp only [List.mem_cons, List.not_mem_nil, or_false] at hv
      rcases hv with rfl | rfl | rfl | rfl | rfl | rfl | rfl | rfl | rfl | rfl | rfl | rfl | rfl | rfl
      all_goals first
        | exact ⟨_, rfl, by decide +kernel⟩
        | exact ⟨_, rfl, tokMul (by show SOk _; unfold SOk; decide +kernel) rfl (by omega)⟩
    refine ⟨.ref a, rfl, .ref p, rfl, rfl, fun pc hpc => ?_⟩
    have nc := neF F2 hpc
    have ncp : pc ≠ p := fun z => by rw [z, ep] at hpc; cases hpc
    refine ⟨.ref a, rfl, a, 4, rfl, F2.new hpc, by decide, by decide, fun r2 H4 r20 r21 k4 F4 => ⟨1, r2, rfl, rfl, 1 + r2, rfl, pc, _, rfl, .inl (.inl (k4 _ _ nc upd_same)), fun p2 hp2 => ?_⟩⟩
    have ep4 : H4 p = some _ := k4 _ _ np (KS.sameUpd hpc _ _ ep)
    have n2p : p2 ≠ p := fun z => by rw [z, ep4] at hp2; cases hp2
    have lc := cutV_length ([.str "make", .str "", .str "r 2", .str "Mend!"] : List V) none (some (1 + r2))
    refine ⟨p, p2, _, _, rfl, rfl, KS.sameUpd hp2 _ _ ep4, upd_same, ?_, fun p3 hp3 => ?_⟩
    · rw [sizeLine_eq]
      have : ([.str "make", .str "", .str "r 2", .str "Mend!"] : List V).length = 4 := rfl
      show 10 + _ ≤ _
      omega
    have F5 := F4.new (o := .lst (cutV ([.str "make", .str "", .str "r 2", .str "Mend!"] : List V) none (some (1 + r2)))) hp2
    refine ⟨a, p3, _, rfl, F5.new hp3, .inl (.inl upd_same), neF F5 hp3, ?_, ?_, fun i v H6 hv k6 F6 => ?_⟩
    · rw [List.length_append]
      show 0 < 10 + _
      omega
    · rw [List.length_append]
      have : ([.str "make", .str "", .str "r 2", .str "Mend!"] : List V).length = 4 := rfl
      show 10 + _ < 1000
      omega
    · obtain ⟨z, rfl, tz⟩ := good v (by
        rcases List.mem_append.mp (List.mem_of_getElem? hv) with h | h
        · exact List.mem_append_left [.str "make", .str "", .str "r 2", .str "Mend!"] h
        · exact List.mem_append_right [.str "0", .str "1", .str "0", .str "1", .str "", .str "10", .str " ", .str "a b", .str "None", .str (Txt.mul "x" (1 + r))] (List.mem_of_mem_drop (List.mem_of_mem_take h)))
      exact q z H6 tz (((((k2.trans (Kp.new hpc)).trans k4).trans (Kp.new hp2)).trans (Kp.new hp3)).trans k6) F6
end
/-! ### values that are alike -/
inductive Fl : V → String → Prop
  | non : Fl .non "NoneType"
  | bl (b : Bool) : Fl (.bl b) "bool"
  | int (i : Int) : Fl (.int i) "int"
  | str (z : Str) : Fl (.str z) "str"
section
variable {K : PySem.W.Frag} {H : Hp}
theorem Fl.tyX {v : V} {t : String} (h : Fl v t) : TyX K H v (.type t) := by
  cases h
  · exact .base .non
  · exact .base (.bl _)
  · exact .base (.int _)
  · exact .base (.str _)
theorem Fl.noSeq {v : V} {t : String} (h : Fl v t) : PySem.W.kitAny K (.type t) [.type "list", .type "tuple"] = some false := by
  cases h <;> exact kitAny_cons (b := false) (kit_ty (by decide +kernel)) (fun _ => kitAny_cons (b := false) (kit_ty (by decide +kernel)) (fun _ => kitAny_nil) (fun z => z)) (fun z => z)
theorem Fl.kit {v : V} {t : String} (h : Fl v t) (c : String) (hc : c = "bool" ∨ c = "int" ∨ c = "str") : ∃ b, PySem.W.kitOne K (.type t) (.type c) = some b := by
  rcases hc with rfl | rfl | rfl <;> cases h <;> first | exact ⟨true, kit_ty (by decide +kernel)⟩ | exact ⟨false, kit_ty (by decide +kernel)⟩
theorem Fl.scal {v : V} {t : String} (h : Fl v t) : L2.scal v v = true := by
  cases h <;> rfl
theorem kitSeqL : PySem.W.kitAny K (.type "list") [.type "list", .type "tuple"] = some true := kitAny_cons (b := true) (kit_ty (by decide +kernel)) (fun z => by cases z) (fun _ => rfl)
theorem kitSeqT : PySem.W.kitAny K (.type "tuple") [.type "list", .type "tuple"] = some true := kitAny_cons (b := false) (kit_ty (by decide +kernel)) (fun _ => kitAny_cons (b := true) (kit_ty (by decide +kernel)) (fun z => by cases z) (fun _ => rfl)) (fun _ => rfl)
theorem SqL.tyX {a : Addr} {xs : List V} (h : SqL K H a xs) : TyX K H (.ref a) (.type "list") := by
  rcases h with (h | ⟨o, h⟩) | ⟨o, its, n, h, c, _⟩
  · exact .base (.lst h)
  · exact .base (.frz h)
  · exact .kList h c
theorem SqT.tyX {a : Addr} {xs : List V} (h : SqT K H a xs) : TyX K H (.ref a) (.type "tuple") := by
  rcases h with (h | ⟨o, h⟩) | ⟨o, its, n, h, c, _⟩
  · exact .base (.tup h)
  · exact .fTuple h
  · exact .kTuple h c
end
/-- alike down to the depth n -/
inductive Sv (K : PySem.W.Frag) (H : Hp) : Nat → V → V → Prop
  | flat {n : Nat} {v : V} {t : String} (h : Fl v t) : Sv K H n v v
  | lst {n : Nat} {a b : Addr} {xs ys : List V} (ha : SqL K H a xs) (hb : SqL K H b ys) (hl : xs.length = ys.length) (hz : xs.length ≤ 1000) (h : ∀ (i : Nat) v w, xs[i]? = some v → ys[i]? = some w → Sv K H n v w) : Sv K H (n + 1) (.ref a) (.ref b)
  | tup {n : Nat} {a b : Addr} {xs ys : List V} (ha : SqT K H a xs) (hb : SqT K H b ys) (hl : xs.length = ys.length) (hz : xs.length ≤ 1000) (h : ∀ (i : Nat) v w, xs[i]? = some v → ys[i]? = some w → Sv K H n v w) : Sv K H (n + 1) (.ref a) (.ref b)
  | dct {n : Nat} {a b : Addr} {ka kb : List (Key × V)} (ha : H a = some (.dK ka)) (hb : H b = some (.dK kb)) (hl : ka.length = kb.length) (h : ∀ p ∈ ka, ∃ z, p.2 = .str z ∧ valV kb p.1 = some p.2) : Sv K H n (.ref a) (.ref b)
theorem Sv.same {K : PySem.W.Frag} {H H' : Hp} (e : Same H H') {n : Nat} {v w : V} (h : Sv K H n v w) : Sv K H' n v w := by
  induction h with
  | flat h => exact .flat h
  | lst ha hb hl hz _ ih => exact .lst (e.seq ha) (e.seq hb) hl hz ih
  | tup ha hb hl hz _ ih => exact .tup (sameTup e ha) (sameTup e hb) hl hz ih
  | dct ha hb hl h => exact .dct (e _ _ ha) (e _ _ hb) hl h
theorem dctEb {K : PySem.W.Frag} {H : Hp} {ka kb : List (Key × V)} (h : ∀ p ∈ ka, ∃ z, p.2 = .str z ∧ valV kb p.1 = some p.2) : ∀ k v u, (k, v) ∈ ka → valV kb k = some u → DB.Eb K H 0 v u true := fun k v u hm hv => by
  obtain ⟨z, e, e2⟩ := h _ hm
  rw [hv] at e2
  have e3 := Option.some.inj e2
  have e4 : v = .str z := e
  have e5 : u = v := e3
  subst e5
  subst e4
  exact .inl ⟨rfl, rfl, (by show true = (z == z); simp)⟩
theorem dctAll {ka kb : List (Key × V)} (hl : ka.length = kb.length) (h : ∀ p ∈ ka, ∃ z, p.2 = .str z ∧ valV kb p.1 = some p.2) : (ka.length == kb.length && ka.all fun p => (valV kb p.1).isSome && true) = true := by
  rw [hl]
  simp only [beq_self_eq_true, Bool.true_and, Bool.and_true, List.all_eq_true]
  intro p hp
  obtain ⟨z, _, e⟩ := h p hp
  rw [e]
  rfl
theorem kitDct {K : PySem.W.Frag} : PySem.W.kitAny K (.type "dict") [.type "list", .type "tuple"] = some false := kitAny_cons (b := false) (kit_ty (by decide +kernel)) (fun _ => kitAny_cons (b := false) (kit_ty (by decide +kernel)) (fun _ => kitAny_nil) (fun z => z)) (fun z => z)
theorem tyDct {K : PySem.W.Frag} {H : Hp} {a : Addr} {ka : List (Key × V)} (h : H a = some (.dK ka)) : TyX K H (.ref a) (.type "dict") := .base (.dK h)
end KS.La

set_option Elab.async false
set_option linter.all false
set_option maxRecDepth 100000
set_option maxHeartbeats 4000000
/-! targets and tables of targets -/
namespace PJ
open PySem PySem.Spec PyProof.Rows L2 KS KS.La
abbrev Outs := List (Str × Str)
def kvO (p : Str × Str) : Key × V := (.inr p.1, .str p.2)
def oK (os : Outs) : List (Key × V) := os.map kvO
inductive Rc where
  | txt (z : Str)
  | key (a b : Str)
def rcD : Rc → PyData
  | .txt z => .str z
  | .key a b => .tuple [.str a, .str b]
def argsD (as : List Str) : PyData := .tuple (as.map .str)
inductive Tg where
  | src (os : Outs)
  | mad (r : Rc) (as : List Str)
abbrev Tb := List (Str × Tg)
def tLook (T : Tb) (k : Str) : Option Tg := (T.find? fun p => decide (p.1 = k)).map (·.2)
def tPut (T : Tb) (k : Str) (t : Tg) : Tb := if (T.any fun p => decide (p.1 = k)) = true then T.map (fun p => if p.1 = k then (p.1, t) else p) else T ++ [(k, t)]
def tDrop (T : Tb) (k : Str) : Tb := T.filter fun p => decide (p.1 ≠ k)
def oPut (os : Outs) (k : Str) (z : Str) : Outs := if (os.any fun p => decide (p.1 = k)) = true then os.map (fun p => if p.1 = k then (p.1, z) else p) else os ++ [(k, z)]
def oDrop (os : Outs) (k : Str) : Outs := os.filter fun p => decide (p.1 ≠ k)
/-! ### outputs -/
theorem oK_any (k : Str) : ∀ (os : Outs), ((oK os).any fun kv => decide (kv.1 = (.inr k : Key))) = os.any fun p => decide (p.1 = k)
  | [] => rfl
  | p :: os => by
    show (decide ((.inr p.1 : Key) = .inr k) || _) = (decide (p.1 = k) || _)
    have ih := oK_any k os
    unfold oK at ih
    rw [ih]
    congr 1
    exact decide_eq_decide.mpr ⟨fun h => Sum.inr.inj h, fun h => by rw [h]⟩
theorem oK_put (os : Outs) (k z : Str) : putK (oK os) (.inr k) (.str z) = oK (oPut os k z) := by
  unfold putK oPut
  rw [oK_any]
  split
  · unfold oK
    rw [List.map_map, List.map_map]
    refine List.map_congr_left fun p _ => ?_
    by_cases e : p.1 = k
    · show (if (.inr p.1 : Key) = .inr k then ((.inr p.1 : Key), V.str z) else kvO p) = kvO (if p.1 = k then (p.1, z) else p)
      rw [if_pos e, if_pos (by rw [e])]
      rfl
    · show (if (.inr p.1 : Key) = .inr k then ((.inr p.1 : Key), V.str z) else kvO p) = kvO (if p.1 = k then (p.1, z) else p)
      rw [if_neg e, if_neg fun h => e (Sum.inr.inj h)]
  · unfold oK
    rw [List.map_append]
    rfl
theorem oK_drop (os : Outs) (k : Str) : dropK (oK os) (.inr k) = oK (oDrop os k) := by
  unfold dropK oK oDrop
  rw [List.filter_map]
  congr 1
  refine List.filter_congr fun p _ => ?_
  show decide ((.inr p.1 : Key) ≠ .inr k) = decide (p.1 ≠ k)
  exact decide_eq_decide.mpr ⟨fun h e => h (by rw [e]), fun h e => h (Sum.inr.inj e)⟩
theorem oK_len (os : Outs) : (oK os).length = os.length := List.length_map _
theorem oK_keys (os : Outs) : (oK os).map (·.1) = (os.map (·.1)).map Sum.inr := by
  unfold oK
  rw [List.map_map, List.map_map]
  rfl
theorem oK_str {os : Outs} : ∀ p ∈ oK os, ∃ z, p.2 = .str z := fun p hp => by
  obtain ⟨q, _, rfl⟩ := List.mem_map.mp hp
  exact ⟨q.2, rfl⟩
theorem oK_nd {os : Outs} (h : (os.map (·.1)).Nodup) : ((oK os).map (·.1)).Nodup := by
  rw [oK_keys, List.nodup_iff_pairwise_ne, List.pairwise_map]
  rw [List.nodup_iff_pairwise_ne] at h
  exact h.imp fun n e => n (Sum.inr.inj e)
theorem valMem : ∀ {ka : List (Key × V)}, (ka.map (·.1)).Nodup → ∀ {k : Key} {v : V}, (k, v) ∈ ka → valV ka k = some v
  | [], _, _, _, h => absurd h (by simp)
  | (k0, v0) :: r, nd, k, v, h => by
    rw [List.map_cons, List.nodup_cons] at nd
    rcases List.mem_cons.mp h with e | h
    · injection e with e1 e2
      subst e1 e2
      exact valV_pos (p := (k, v)) rfl
    · have ne : ¬ k0 = k := fun e => nd.1 (List.mem_map.mpr ⟨(k, v), h, e.symm⟩)
      rw [valV_neg (p := (k0, v0)) ne]
      exact valMem nd.2 h
/-! ### how tables compare -/
def eF (ka kb : List (Key × V)) (k : Key) : Bool := match valV ka k, valV kb k with
  | some v, some u => eqV v u
  | _, _ => false
def osE (os os' : Outs) : Bool := (oK os).length == (oK os').length && (oK os).all fun p => (valV (oK os') p.1).isSome && eF (oK os) (oK os') p.1
def tgE : Tg → Tg → Bool
  | .src os, .src os' => osE os os'
  | .mad r as, .mad r' as' => PyData.eqv (rcD r) (rcD r') && PyData.eqv (argsD as) (argsD as')
  | _, _ => false
def teF (T T' : Tb) (k : Str) : Bool := match tLook T k, tLook T' k with
  | some t, some t' => tgE t t'
  | _, _ => false
def tbE (T T' : Tb) : Bool := T.length == T'.length && T.all fun p => (tLook T' p.1).isSome && teF T T' p.1
theorem osE_refl {os : Outs} (nd : (os.map (·.1)).Nodup) : osE os os = true := by
  unfold osE
  rw [beq_self_eq_true, Bool.true_and, List.all_eq_true]
  intro p hp
  obtain ⟨z, ez⟩ := oK_str p hp
  have hv : valV (oK os) p.1 = some p.2 := valMem (oK_nd nd) hp
  unfold eF
  rw [hv, ez]
  show (true && (z == z)) = true
  simp
/-! ### a table of things -/
inductive Tab (R : V → Tg → Prop) : List (Key × V) → Tb → Prop
  | nil : Tab R [] []
  | cons {k : Str} {v : V} {t : Tg} {kvs : List (Key × V)} {T : Tb} (h : R v t) (r : Tab R kvs T) : Tab R ((.inr k, v) :: kvs) ((k, t) :: T)
section
variable {R R' : V → Tg → Prop} {kvs : List (Key × V)} {T : Tb}
theorem Tab.len (h : Tab R kvs T) : kvs.length = T.length := by
  induction h with
  | nil => rfl
  | cons _ _ ih => rw [List.length_cons, List.length_cons, ih]
theorem Tab.keys (h : Tab R kvs T) : kvs.map (·.1) = (T.map (·.1)).map Sum.inr := by
  induction h with
  | nil => rfl
  | cons _ _ ih => rw [List.map_cons, List.map_cons, List.map_cons, ih]
theorem Tab.imp (h : Tab R kvs T) (i : ∀ k v t, (.inr k, v) ∈ kvs → (k, t) ∈ T → R v t → R' v t) : Tab R' kvs T := by
  induction h with
  | nil => exact .nil
  | cons h r ih => exact .cons (i _ _ _ List.mem_cons_self List.mem_cons_self h) (ih fun k v t a b => i k v t (List.mem_cons_of_mem _ a) (List.mem_cons_of_mem _ b))
theorem Tab.look (h : Tab R kvs T) (k : Str) : (valV kvs (.inr k) = none ∧ tLook T k = none) ∨ ∃ v t, valV kvs (.inr k) = some v ∧ tLook T k = some t ∧ R v t := by
  induction h with
  | nil => exact .inl ⟨rfl, rfl⟩
  | @cons k0 v t kvs T h r ih =>
    by_cases e : k0 = k
    · subst e
      exact .inr ⟨v, t, valV_pos (p := ((Sum.inr k0 : Key), v)) rfl, by simp [tLook], h⟩
    · rw [valV_neg (p := ((Sum.inr k0 : Key), v)) fun q => e (Sum.inr.inj q)]
      have : tLook ((k0, t) :: T) k = tLook T k := by simp [tLook, e]
      rw [this]
      exact ih
theorem Tab.any (h : Tab R kvs T) (k : Str) : (kvs.any fun kv => decide (kv.1 = (.inr k : Key))) = T.any fun p => decide (p.1 = k) := by
  induction h with
  | nil => rfl
  | @cons k0 v t kvs T h r ih =>
    rw [List.any_cons, List.any_cons, ih]
    congr 1
    exact decide_eq_decide.mpr ⟨fun h => Sum.inr.inj h, fun (h : k0 = k) => congrArg Sum.inr h⟩
theorem Tab.append {k : Str} {v : V} {t : Tg} (h : Tab R kvs T) (hv : R v t) : Tab R (kvs ++ [(.inr k, v)]) (T ++ [(k, t)]) := by
  induction h with
  | nil => exact .cons hv .nil
  | cons h r ih => exact .cons h ih
theorem Tab.set {k : Str} {v : V} {t : Tg} (h : Tab R kvs T) (hv : R v t) : Tab R (kvs.map fun kv => if kv.1 = (.inr k : Key) then (kv.1, v) else kv) (T.map fun p => if p.1 = k then (p.1, t) else p) := by
  induction h with
  | nil => exact .nil
  | @cons k0 v0 t0 kvs T h r ih =>
    rw [List.map_cons, List.map_cons]
    by_cases e : k0 = k
    · rw [if_pos (by rw [e]), if_pos e]
      exact .cons hv ih
    · rw [if_neg fun q => e (Sum.inr.inj q), if_neg e]
      exact .cons h ih
theorem Tab.put {k : Str} {v : V} {t : Tg} (h : Tab R kvs T) (hv : R v t) : Tab R (putK kvs (.inr k) v) (tPut T k t) := by
  unfold putK tPut
  rw [h.any k]
  split
  · exact h.set hv
  · exact h.append hv
theorem Tab.drop (k : Str) (h : Tab R kvs T) : Tab R (dropK kvs (.inr k)) (tDrop T k) := by
  unfold dropK tDrop
  induction h with
  | nil => exact .nil
  | @cons k0 v0 t0 kvs T h r ih =>
    rw [List.filter_cons, List.filter_cons]
    by_cases e : k0 = k
    · rw [if_neg (by simp [e]), if_neg (by simp [e])]
      exact ih
    · rw [if_pos (by simpa using e), if_pos (by simpa using e)]
      exact .cons h ih
theorem Tab.mem (h : Tab R kvs T) : ∀ k v, (k, v) ∈ kvs → ∃ z t, k = .inr z ∧ (z, t) ∈ T ∧ R v t := by
  induction h with
  | nil => exact fun k v h => absurd h (by simp)
  | cons h r ih =>
    intro k v hm
    rcases List.mem_cons.mp hm with e | hm
    · injection e with e1 e2
      subst e1 e2
      exact ⟨_, _, rfl, List.mem_cons_self, h⟩
    · obtain ⟨z, t, a, b, c⟩ := ih k v hm
      exact ⟨z, t, a, List.mem_cons_of_mem _ b, c⟩
end
theorem keysInj {T : Tb} (h : (T.map (·.1)).Nodup) : ((T.map (·.1)).map (Sum.inr : Str → Key)).Nodup := by
  rw [List.nodup_iff_pairwise_ne, List.pairwise_map]
  rw [List.nodup_iff_pairwise_ne] at h
  exact h.imp fun n e => n (Sum.inr.inj e)
theorem Tab.nd {R : V → Tg → Prop} {kvs : List (Key × V)} {T : Tb} (h : Tab R kvs T) (nd : (T.map (·.1)).Nodup) : (kvs.map (·.1)).Nodup := by
  rw [h.keys]
  exact keysInj nd
theorem tMem {T : Tb} (nd : (T.map (·.1)).Nodup) {k : Str} {t : Tg} (h : (k, t) ∈ T) : tLook T k = some t := by
  induction T with
  | nil => exact absurd h (by simp)
  | cons p T ih =>
    obtain ⟨k0, t0⟩ := p
    rw [List.map_cons, List.nodup_cons] at nd
    rcases List.mem_cons.mp h with e | h
    · injection e with e1 e2
      subst e1 e2
      simp [tLook]
    · have ne : ¬ k0 = k := fun e => nd.1 (List.mem_map.mpr ⟨(k, t), h, e.symm⟩)
      have : tLook ((k0, t0) :: T) k = tLook T k := by simp [tLook, ne]
      rw [this]
      exact ih nd.2 h
/-- two tables of like things compare as their targets do -/
theorem tabAll {R R' : V → Tg → Prop} {kvs ls : List (Key × V)} {T T' : Tb} (h : Tab R kvs T) (h' : Tab R' ls T') (e : Key → Bool) (he : ∀ k, e (.inr k) = teF T T' k) : (kvs.length == ls.length && kvs.all fun p => (valV ls p.1).isSome && e p.1) = tbE T T' := by
  unfold tbE
  rw [h.len, h'.len]
  congr 1
  have : ∀ {ks : List (Key × V)} {S : Tb}, Tab R ks S → (ks.all fun p => (valV ls p.1).isSome && e p.1) = S.all fun p => (tLook T' p.1).isSome && teF T T' p.1 := fun {ks S} g => by
    induction g with
    | nil => rfl
    | @cons k0 v t ks S _ _ ih =>
      rw [List.all_cons, List.all_cons, ih, he]
      congr 2
      rcases h'.look k0 with ⟨a, b⟩ | ⟨_, _, a, b, _⟩ <;> rw [a, b] <;> rfl
  exact this h
/-! ### where a target stands: the program's, the law's -/
def RcIn (H : Hp) (v : V) : Rc → Prop
  | .txt z => v = .str z ∧ TOk z
  | .key a b => (∃ t, v = .ref t ∧ H t = some (.tup [.str a, .str b])) ∧ TOk a ∧ TOk b
def AsIn (H : Hp) (v : V) (as : List Str) : Prop := ∃ t, v = .ref t ∧ H t = some (.tup (as.map .str)) ∧ as.length ≤ 100 ∧ ∀ z ∈ as, TOk z
def OsIn (H : Hp) (d : Addr) (os : Outs) : Prop := H d = some (.dK (oK os)) ∧ (os.map (·.1)).Nodup ∧ os.length ≤ 100
def TgAt (CS CM : Addr) (H : Hp) (v : V) : Tg → Prop
  | .src os => ∃ x dx d, v = .ref x ∧ H x = some (.ins CS dx [("_outputs", .ref d)]) ∧ OsIn H d os
  | .mad r as => ∃ x dx vr va, v = .ref x ∧ H x = some (.ins CM dx [("_recipe", vr), ("_arguments", va)]) ∧ RcIn H vr r ∧ AsIn H va as
def ToAt (H : Hp) (v : V) : Tg → Prop
  | .src os => ∃ t d, v = .ref t ∧ H t = some (.tup [.str "source", .ref d]) ∧ OsIn H d os
  | .mad r as => ∃ t vr va, v = .ref t ∧ H t = some (.tup [.str "made", vr, va]) ∧ RcIn H vr r ∧ AsIn H va as
/-- all but lists stands -/
def Stl (H H' : Hp) : Prop := ∀ b o, H b = some o → (∀ xs, o ≠ .lst xs) → H' b = some o
theorem Stl.refl (H : Hp) : Stl H H := fun _ _ e _ => e
theorem Stl.trans {H H1 H2 : Hp} (a : Stl H H1) (b : Stl H1 H2) : Stl H H2 := fun x o e t => b x o (a x o e t) t
theorem Stl.same {H H' : Hp} (s : Same H H') : Stl H H' := fun a o e _ => s a o e
theorem Stl.lst {H H' : Hp} {a : Addr} {xs : List V} (h : H a = some (.lst xs)) (k : Kp a H H') : Stl H H' := fun b o e t => by
  refine k b o (fun z => ?_) e
  subst z
  exact t xs (Option.some.inj (h.symm.trans e)).symm
theorem Stl.fd {H H' : Hp} {a : Addr} (h : Fd H a) (k : Kp a H H') : Stl H H' := by
  obtain ⟨x, y, e, _⟩ := h
  exact Stl.lst e k
theorem RcIn.stl {H H' : Hp} {v : V} {r : Rc} (h : RcIn H v r) (s : Stl H H') : RcIn H' v r := by
  cases r with
  | txt z => exact h
  | key a b => exact ⟨let ⟨t, e, h⟩ := h.1; ⟨t, e, s _ _ h (fun _ z => nomatch z)⟩, h.2⟩
theorem AsIn.stl {H H' : Hp} {v : V} {as : List Str} (h : AsIn H v as) (s : Stl H H') : AsIn H' v as := let ⟨t, e, h, z⟩ := h; ⟨t, e, s _ _ h (fun _ z => nomatch z), z⟩
theorem OsIn.stl {H H' : Hp} {d : Addr} {os : Outs} (h : OsIn H d os) (s : Stl H H') : OsIn H' d os := ⟨s _ _ h.1 (fun _ z => nomatch z), h.2⟩
theorem TgAt.stl {CS CM : Addr} {H H' : Hp} {v : V} {t : Tg} (h : TgAt CS CM H v t) (s : Stl H H') : TgAt CS CM H' v t := by
  cases t with
  | src os => obtain ⟨x, dx, d, e, h1, h2⟩ := h; exact ⟨x, dx, d, e, s _ _ h1 (fun _ z => nomatch z), h2.stl s⟩
  | mad r as => obtain ⟨x, dx, vr, va, e, h1, h2, h3⟩ := h; exact ⟨x, dx, vr, va, e, s _ _ h1 (fun _ z => nomatch z), h2.stl s, h3.stl s⟩
theorem ToAt.stl {H H' : Hp} {v : V} {t : Tg} (h : ToAt H v t) (s : Stl H H') : ToAt H' v t := by
  cases t with
  | src os => obtain ⟨x, d, e, h1, h2⟩ := h; exact ⟨x, d, e, s _ _ h1 (fun _ z => nomatch z), h2.stl s⟩
  | mad r as => obtain ⟨x, vr, va, e, h1, h2, h3⟩ := h; exact ⟨x, vr, va, e, s _ _ h1 (fun _ z => nomatch z), h2.stl s, h3.stl s⟩
theorem Tab.tg {CS CM : Addr} {H H' : Hp} {kvs : List (Key × V)} {T : Tb} (h : Tab (TgAt CS CM H) kvs T) (s : Stl H H') : Tab (TgAt CS CM H') kvs T := h.imp fun _ _ _ _ _ h => h.stl s
theorem Tab.to {H H' : Hp} {kvs : List (Key × V)} {T : Tb} (h : Tab (ToAt H) kvs T) (s : Stl H H') : Tab (ToAt H') kvs T := h.imp fun _ _ _ _ _ h => h.stl s
def rOd (z : Str) (h : TOk z) : Od 0 (.str z) := .str _ h.1 (by have := h.2; omega)
theorem RcIn.dp {K : PySem.W.Frag} {H : Hp} {v : V} {r : Rc} (h : RcIn H v r) : Dp K H v (rcD r) ∧ SeqAt.shaped (rcD r) = true := by
  cases r with
  | txt z =>
    obtain ⟨rfl, hz⟩ := h
    exact ⟨.str z, (rOd z hz).shaped (by decide)⟩
  | key a b =>
    obtain ⟨⟨t, rfl, h⟩, ha, hb⟩ := h
    refine ⟨.tup (.inl (.inl h)) (.cons (.str a) (.cons (.str b) .nil)), (Od.tup (n := 0) (by show 2 ≤ 100; decide) fun d hd => ?_).shaped (by decide)⟩
    simp only [List.mem_cons, List.not_mem_nil, or_false] at hd
    rcases hd with rfl | rfl
    · exact rOd _ ha
    · exact rOd _ hb
theorem dpStrs {K : PySem.W.Frag} {H : Hp} : ∀ (as : List Str), DpAll K H (as.map .str) (as.map .str)
  | [] => .nil
  | z :: as => .cons (.str z) (dpStrs as)
theorem argsShaped {as : List Str} (hl : as.length ≤ 100) (h : ∀ z ∈ as, TOk z) : SeqAt.shaped (argsD as) = true := by
  refine (Od.tup (n := 0) (by rw [List.length_map]; exact hl) fun d hd => ?_).shaped (by decide)
  obtain ⟨z, hz, rfl⟩ := List.mem_map.mp hd
  exact rOd z (h z hz)
theorem AsIn.dp {K : PySem.W.Frag} {H : Hp} {v : V} {as : List Str} (h : AsIn H v as) : Dp K H v (argsD as) ∧ SeqAt.shaped (argsD as) = true := by
  obtain ⟨t, rfl, h, hl, hz⟩ := h
  exact ⟨.tup (.inl (.inl h)) (dpStrs as), argsShaped hl hz⟩
end PJ

set_option Elab.async false
set_option linter.all false
set_option maxRecDepth 100000
set_option maxHeartbeats 4000000
/-! o[k], o.m(..) where it may raise; x != y by an own __eq__ -/
namespace OD
open PySem PySem.Spec PyProof.Rows L2
section
variable {X : Cx} {CX : CXT} {k : Nat} {C f : Addr} {fd : FuncData} {ps : List Str} {sp : Sp} {E : L2.St → XK} {o e i : Expr} {es : List Expr} {ta tb : TE} {t : TA} {pos apos : Pos} {m : Str}
/-- o[i] -/
def tIxO (C : Addr) (sp : Sp) (E : L2.St → XK) (ta tb : TE) : TE := fun σ H Q => ta σ H fun x H1 => tb σ H1 fun y H2 => ∃ a dx fs, x = .ref a ∧ H2 a = some (.ins C dx fs) ∧ sp [.ref a, y] H2 Q (E σ)
theorem pe_ixO (ha : PE X o ta) (hi : PE X i tb) (F : FnOk X.prog X.w X.K X.mg X.base CX k f fd ps sp) (hr : Room (k + 1) X.A) (hs : PySem.W.findIn X.K (.ref C) "__getitem__" = some (some (.ref f))) (hf : PySem.W.fnIn X.K f = true) (hfn : PySem.W.isFn X.K (.ref f) = true)
    (hb : Binds X.K fd ps []) (hx : ∀ σ, PassesAt CX X σ (E σ)) (hsl : ∀ (a : Addr) (u : Value), subscripted i true (.ref a) u = runValue (.builtin "lifetime.subscript" ⟨[.ref a, u], []⟩) := by intro _ _; with_unfolding_all rfl) : PE X (.Subscript o i pos) (tIxO C sp E ta tb) := by
  refine ⟨fun pins s σ H Q I h => ?_⟩
  refine Subscript_ (thn (ha.run pins s σ H _ I h) fun v s1 ⟨x, H1, I1, r1, q1⟩ => thn (hi.run pins s1 σ H1 _ I1 q1) fun u s2 ⟨y, H2, I2, r2, a, dx, fs, ex, hins, q⟩ => ?_)
  subst ex
  obtain rfl : v = Value.ref a := r1
  obtain ⟨mA, J, _⟩ := ins_get I2.hok hins
  obtain ⟨od, J, _⟩ := J.look
  obtain ⟨m, hF⟩ := I2.fr
  refine PySem.W.sub_K hF I2.ok.mod.kin J hs hf hfn ?_ (hsl a u)
  have r : Vals [V.ref a, y] [Value.ref a, u] := .cons rfl (.cons r2 .nil)
  have hl : [Value.ref a, u].length = ps.length := by rw [← r.length]; exact F.len _ _ _ _ q
  have b := hb s2 [.ref a, u] I2.kIn (by rw [List.append_nil]; exact hl)
  rw [List.append_nil] at b
  refine wpAny_call (codeAny_mono (F.run X.A.in1 X.stack s2 H2 ⟨[.ref a, u], []⟩ [.ref a, u] [.ref a, y] Q (E σ) hr.in1 I2.env0.in1 b r q) fun r s' hq => ?_)
  cases r with
  | error e => exact hx σ pins H2 s2 e s' I2 hq
  | ok fl =>
    cases fl with
    | ret u => exact I2.after hq
    | next => exact False.elim hq
    | brk => exact False.elim hq
    | cont => exact False.elim hq
/-- o.m(e, ..), which may raise -/
def tMethT (C : Addr) (m : Str) (sp : Sp) (E : L2.St → XK) (ta : TE) (t : TA) : TE := fun σ H Q => ta σ H fun x H1 => ∃ a dx fs, x = .ref a ∧ H1 a = some (.ins C dx fs) ∧ fs.lookup m = none ∧ t σ H1 fun vs H2 => sp (.ref a :: vs) H2 Q (E σ)
theorem pe_methT {pl : Sem Bool} (he : PE X o ta) (c : Cls X.K C) (hm : Meth X.K C m f) (F : FnOk X.prog X.w X.K X.mg X.base CX k f fd ps sp) (hr : Room k X.A) (hb : Binds X.K fd ps []) (hx : ∀ σ, PassesAt CX X σ (E σ)) (ha : PA X (e :: es) t)
    (hst : starEach (e :: es) X.env = (false, eval e X.env) :: starEach es X.env := by rfl) (hpl : (backTo pos (starEach es X.env)).any (·.1) = false := by rfl)
    (ht : eval (.Call (.Attribute o m apos) (e :: es) [] pos) X.env = (do
      let ov ← eval o X.env
      standAt apos.atName
      let (f, first) ← holding [ov] (getMethod ov m pl)
      callWith pos f first (backTo pos (starEach (e :: es) X.env)) (backToKw pos (keywordEach [] X.env))) := by rfl) :
    PE X (.Call (.Attribute o m apos) (e :: es) [] pos) (tMethT C m sp E ta t) := by
  refine ⟨fun pins s σ H Q I h => ?_⟩
  refine PySem.W.methodCall_KW (pl := pl) (thn (he.run pins s σ H _ I h) fun u s1 ⟨x, H1, I1, rx, a, dx, fs, ex, ea, l, q⟩ => ?_) ht
  subst ex
  obtain rfl : u = Value.ref a := rx
  refine getmeth_ok I1 ea c hm l ?_
  refine PySem.W.callWith_K (first := [.ref a]) (h₀ := X.base) I.ok.mod.kin hm.kp (thn (ha.run pos pins s1 σ H1 _ I1 q) fun us s2 ⟨vs, H2, I2, r, q2⟩ => ⟨I2.kIn, ?_⟩) hst hpl
  exact run_fnS (us := .ref a :: us) (vs := .ref a :: vs) F hr hb (hx σ) I2 (.cons rfl r) q2
end
/-! ### a call that is promised not to raise -/
theorem passE0 {X : Cx} : Passes (L2.CX X.prog X.w) X E0 := fun _ _ _ _ _ _ _ c => by
  obtain ⟨_, _, _, _, _, _, _, _, _, _, _, _, e⟩ := c
  exact e.elim
theorem passAt0 {X : Cx} {σ : L2.St} : PassesAt (L2.CX X.prog X.w) X σ E0 := fun _ _ _ _ _ _ c => by
  obtain ⟨_, _, _, _, _, _, _, _, _, _, _, _, e⟩ := c
  exact e.elim
/-! ### != -/
theorem slotNe : Slot "object" "__ne__" "object.__ne__" :=
  Slot.of (T := "object") (name := "__ne__") (owner := "object") (n := "__ne__") (by rw [typeLookup_type, builtinLookup_eq_fast]; kernel_rfl) (by decide +kernel) (by decide +kernel) (by decide +kernel)
    (.inl (by decide +kernel)) (by rw [isSubtype_type]; kernel_rfl)
def rNeOwn (C : Addr) (sp : Sp) (E : XK) : R2 := fun x y H Q => ∃ a b dx fs dy gs, x = .ref a ∧ y = .ref b ∧ H a = some (.ins C dx fs) ∧ H b = some (.ins C dy gs) ∧ sp [x, y] H (fun v H' => ∃ c, v = .bl c ∧ Q (.bl (!c)) H') E
theorem op_neOwn {X : Cx} {CX : CXT} {n : Nat} {C f : Addr} {fd : FuncData} {ps : List Str} {sp : Sp} {E : XK} (F : FnOk X.prog X.w X.K X.mg X.base CX n f fd ps sp) (hr : Room (n + 1) X.A)
    (hs : PySem.W.findIn X.K (.ref C) "__eq__" = some (some (.ref f))) (hf : PySem.W.isFn X.K (.ref f) = true) (hb : Binds X.K fd ps []) (hx : Passes CX X E)
    (hn : PySem.W.findIn X.K (.ref C) "__ne__" = some (some (.builtin "object.__ne__"))) (ht : PySem.W.mroIn X.K C (.type "object") = some true) : OpR X (compareOp .NotEq) (rNeOwn C sp E) := by
  intro pins s σ H x y v u Q I rx ry h
  obtain ⟨a, b, dx, fs, dy, gs, rfl, rfl, ha, hb', hsp⟩ := h
  cases rx
  cases ry
  obtain ⟨mA, J, _⟩ := ins_get I.hok ha
  obtain ⟨od, J, _⟩ := J.look
  obtain ⟨mB, J', _⟩ := ins_get I.hok hb'
  obtain ⟨od', J', _⟩ := J'.look
  obtain ⟨m, hF⟩ := I.fr
  have XK := I.kIn
  show wpAny (model X.prog X.w) X.A (richCompare .NotEq (.ref a) (.ref b)) (EP X pins σ Q) X.xe s
  unfold richCompare
  simp only [oneThing_ref]
  refine wpAny_holding ?_
  refine wpAny_bind (wpAny_cRoomFor hr.units0 ?_)
  rw [cmpInfo_NotEq]
  dsimp only
  refine wpAny_bind (J.type.here (wpAny_bind (J'.type.here ?_)))
  rw [show (Value.ref C != Value.ref C) = false from by simp]
  simp only [Bool.false_eq_true, if_false]
  refine wpAny_bind (wpAny_pure ?_)
  simp only [Bool.false_eq_true, if_false]
  refine wpAny_bind ?_
  simp only [tryCompare]
  refine wpAny_bind ?_
  simp only [callSpecialIfBound?, bindSpecialIfBound?]
  refine wpAny_holding (wpAny_bind (wpAny_bind (wpAny_bind (J.type.here ((PySem.W.looks_findIn XK hn).here ?_)))))
  refine wpAny_bind (wpAny_askSetting (wpAny_ite ?_))
  have two : PySem.W.Looks (model X.prog X.w) s.heap (isInstance (.ref a) (.type "object")) true := J.type.andThen (PySem.W.looks_mroIn XK ht)
  have callE : wpAny (model X.prog X.w) X.A.in1 (call (.ref f) [.ref a, .ref b]) (fun v s' => ∃ c, v = .bool c ∧ ∃ H', Inv X pins σ H' s' ∧ Q (.bl (!c)) H') X.xe s := by
    have hl := F.len _ _ _ _ hsp
    have r2 : Vals [V.ref a, V.ref b] [Value.ref a, Value.ref b] := .cons rfl (.cons rfl .nil)
    refine wpAny_call (codeAny_mono (F.run X.A.in1 X.stack s H ⟨[.ref a, .ref b], []⟩ [.ref a, .ref b] [.ref a, .ref b] _ E hr.in1 I.env0.in1 (by
      have := hb s [.ref a, .ref b] I.kIn (by simpa using hl)
      simpa using this) r2 hsp) fun r s' hq => ?_)
    cases r with
    | error e => exact hx pins σ H s e s' I hq
    | ok fl =>
      cases fl with
      | ret w =>
        obtain ⟨z, H', I', rz, c, ez, q⟩ := I.after hq
        subst ez
        cases rz
        exact ⟨c, rfl, H', I', q⟩
      | next => exact False.elim hq
      | brk => exact False.elim hq
      | cont => exact False.elim hq
  have callN : wpAny (model X.prog X.w) X.A (call (.builtin "object.__ne__") [.ref a, .ref b]) (fun v s' => ∃ c, v = .bool c ∧ EP X pins σ Q (.bool c) s') X.xe s := by
    refine wpAny_call (codeAny_call_builtin slotNe.plain PySem.F.cmpEntry_ne (@PySem.W.check_slot (model X.prog X.w) _ _ _ "object.__ne__" "object" "__ne__" (.ref a) [.ref b] [] _ PySem.F.cmpKind_ne PySem.F.cmpSplit_ne two (PySem.F.cmpArgs_ne _ _) ?_))
    have hu : X.A.in1.units < cLine := hr.in1.units0
    unfold Builtin.«object.__ne__»
    repeat (first
      | with_reducible refine wpAny_cRoomFor hu ?_
      | (refine wpAny_bind (m := callSpecialIfBound? (.ref a) (Str.ofString "__eq__") [.ref b])
          (PySem.W.ifBound_K XK J hs hf (wpAny_mono callE (fun r s' hr => by
            obtain ⟨c, rfl, H', I', q⟩ := hr
            have fin : EP X pins σ Q (.bool (!c)) s' := ⟨.bl (!c), H', I', rfl, q⟩
            repeat (first | exact ⟨_, rfl, fin⟩ | (refine wpAny_bind (m := truthy (.bool _)) (wpAny_truthy_bool ?_)) | wp_step)) fun _ _ e => e)))
      | wp_step)
  have fin : wpAny (model X.prog X.w) X.A (call (.builtin "object.__ne__") ([.ref a] ++ [.ref b]) >>= fun v => pure (some v)) (fun r s' => ∃ c, r = some (.bool c) ∧ EP X pins σ Q (.bool c) s') X.xe s := wpAny_bind (wpAny_mono callN (fun v s' z => by
    obtain ⟨c, rfl, q⟩ := z
    exact wpAny_pure ⟨c, rfl, q⟩) fun _ _ e => e)
  split
  · rw [slotNe.bind]
    refine wpAny_bind (wpAny_pure (wpAny_pure ?_))
    refine wpAny_mono fin (fun r s' z => ?_) fun _ _ e => e
    obtain ⟨c, rfl, q⟩ := z
    exact wpAny_pure (wpAny_pure q)
  · rw [slotNe.bind]
    refine wpAny_tryCatch (wpAny_bind (wpAny_pure (wpAny_pure ?_)))
    refine wpAny_mono fin (fun r s' z => ?_) fun _ _ e => e
    obtain ⟨c, rfl, q⟩ := z
    exact wpAny_pure (wpAny_pure q)
end OD

set_option Elab.async false
set_option linter.all false
set_option maxRecDepth 100000
set_option maxHeartbeats 4000000
/-! C() without an own __init__; x == y by an own __eq__ that answers either way -/
namespace OW
open PySem PySem.Spec PyProof.Rows L2
structure Bare (K : PySem.W.Frag) (C : Addr) : Prop where
  makes : PySem.W.makesIn K C = true
  init : PySem.W.findIn K (.ref C) "__init__" = some (some (.builtin "object.__init__"))
  top : PySem.W.mroIn K C (.type "object") = some true
  kp : PySem.W.keepIn K (.ref C) = true
def tBare (C : Addr) : TE := fun _ H Q => ∀ x dx, H x = none → H dx = none → dx ≠ x → Q (.ref x) (upd (upd H dx (.own x)) x (.ins C dx []))
section
variable {X : Cx} {C : Addr} {x : Str} {p pos : Pos}
theorem pe_bare (M : Bare X.K C) (hg : Gl X x) (hm : X.mg x = some (.ref C)) (hdb : (x == ("__debug__" : Str)) = false := by decide) : PE X (.Call (.Name x p) [] [] pos) (tBare C) := by
  refine ⟨fun pins s σ H Q I h => ?_⟩
  refine wpAny_Call_Name_kw (ld_glob I hg hm ?_ hdb)
  refine PySem.W.callWith_K0 I.kIn M.kp ?_
  refine wpAny_call (make_map0 I.kIn M.makes M.init (fun self => PySem.W.Looks.of_pure (PySem.W.oi_bind _)) ?_)
  have I2 := Inv.made (C := C) I
  have ho : ((s.heap.push PySem.W.emptyDict).push (PySem.W.instObj C s.heap.objs.size)).get? (s.heap.objs.size + 1) = some (PySem.W.instObj C s.heap.objs.size) := by
    have := Heap.get?_push_size (s.heap.push PySem.W.emptyDict) (o := PySem.W.instObj C s.heap.objs.size) rfl
    rwa [Heap.size_push] at this
  have t2 : PySem.W.Looks (model X.prog X.w) _ (isInstance (.ref (s.heap.objs.size + 1)) (.type "object")) true := (NwA.type_at ho rfl).andThen (PySem.W.looks_mroIn I2.kIn M.top)
  refine codeAny_call_builtin PySem.W.oi_plain PySem.W.entry_oi (@PySem.W.check_slot (model X.prog X.w) _ _ _ "object.__init__" "object" "__init__" (.ref (s.heap.objs.size + 1)) [] [] _ PySem.W.oi_kind PySem.W.oi_split t2 (NwA.oi_args_any _ _ _) ?_)
  rw [PySem.W.oi_run]
  exact wpAny_pure ⟨rfl, V.ref (s.heap.objs.size + 1), _, I2, rfl, h _ _ (I.hok.fresh (Nat.le_succ _)) (I.hok.fresh (Nat.le_refl _)) (Nat.ne_of_lt (Nat.lt_succ_self _))⟩
/-! ### == -/
def rEqOwn (K : PySem.W.Frag) (C : Addr) (sp : Sp) (E : XK) : R2 := fun x y H Q => ∃ a b dx fs, x = .ref a ∧ y = .ref b ∧ H a = some (.ins C dx fs) ∧ ((∃ dy gs, H b = some (.ins C dy gs)) ∨ ∃ ys, SqT K H b ys) ∧ sp [x, y] H (fun v H' => ∃ c, v = .bl c ∧ Q v H') E
theorem op_eqOwn {CX : CXT} {n : Nat} {f : Addr} {fd : FuncData} {ps : List Str} {sp : Sp} {E : XK} (F : FnOk X.prog X.w X.K X.mg X.base CX n f fd ps sp) (hr : Room n X.A)
    (hs : PySem.W.findIn X.K (.ref C) "__eq__" = some (some (.ref f))) (hf : PySem.W.isFn X.K (.ref f) = true) (hb : Binds X.K fd ps []) (hx : Passes CX X E) (hT : PySem.W.subIn X.K (.type "tuple") (.ref C) = some false) : OpR X (compareOp .Eq) (rEqOwn X.K C sp E) := by
  intro pins s σ H x y v u Q I rx ry h
  obtain ⟨a, b, dx, fs, rfl, rfl, ha, hy, hsp⟩ := h
  cases rx
  cases ry
  obtain ⟨mA, J, _⟩ := ins_get I.hok ha
  obtain ⟨od, J, _⟩ := J.look
  obtain ⟨m, hF⟩ := I.fr
  show wpAny (model X.prog X.w) X.A (richCompare .Eq (.ref a) (.ref b)) (EP X pins σ Q) X.xe s
  have go : ∀ {tb : Value}, PySem.W.Looks (model X.prog X.w) s.heap (typeOf (.ref b)) tb → PySem.W.notFirst X.K C tb = true → wpAny (model X.prog X.w) X.A (richCompare .Eq (.ref a) (.ref b)) (EP X pins σ Q) X.xe s := fun {tb} lk nf => by
    refine PySem.W.cmp_K (op := .Eq) (tb := tb) hr.units0 hF I.ok.mod.kin J lk nf hs hf ?_
    have hl := F.len _ _ _ _ hsp
    have r2 : Vals [V.ref a, V.ref b] [Value.ref a, Value.ref b] := .cons rfl (.cons rfl .nil)
    refine wpAny_call (codeAny_mono (F.run X.A X.stack s H ⟨[.ref a, .ref b], []⟩ [.ref a, .ref b] [.ref a, .ref b] _ E hr I.env0 (by
      have := hb s [.ref a, .ref b] I.kIn (by simpa using hl)
      simpa using this) r2 hsp) fun r s' hq => ?_)
    cases r with
    | error e => exact hx pins σ H s e s' I hq
    | ok fl =>
      cases fl with
      | ret w =>
        obtain ⟨z, H', I', rz, c, ez, q⟩ := I.after hq
        subst ez
        cases rz
        exact ⟨.bl c, H', I', rfl, q⟩
      | next => exact False.elim hq
      | brk => exact False.elim hq
      | cont => exact False.elim hq
  rcases hy with ⟨dy, gs, hb'⟩ | ⟨ys, hT2⟩
  · obtain ⟨mB, J', _⟩ := ins_get I.hok hb'
    obtain ⟨od', J', _⟩ := J'.look
    exact go J'.type (by simp [PySem.W.notFirst])
  · obtain ⟨its, r, ⟨o, ho, hc, _⟩, _⟩ := I.tuple hT2
    exact go (tb := .type "tuple") ((PySem.W.Looks.ld ho).andThen (by rw [hc]; exact .now)) (by simp [PySem.W.notFirst, hT])
end
end OW

set_option Elab.async false
set_option linter.all false
set_option maxRecDepth 100000
set_option maxHeartbeats 4000000
/-! == of dicts whose values have an own __eq__ that answers either way -/
namespace EB
open PySem PySem.Spec PyProof.Rows L2 PySem.W
/-- how two values compare, by the abstract heap -/
abbrev Eqb := V → V → Bool → Hp → Prop
def Mon2 (D : Eqb) : Prop := ∀ x y c H H', Ext H H' → D x y c H → D x y c H'
def EqB (X : Cx) (n : Nat) (D : Eqb) : Prop :=
  ∀ (A : Around) (pins : List (Addr × Obj)) (s : Shared) (σ : L2.St) (H : Hp) (x y : V) (c : Bool) (u v : Value), Sub X n A → Inv X pins σ H s → RelV x u → RelV y v → D x y c H →
    wpAny (model X.prog X.w) A (eqBool u v) (fun r s' => r = c ∧ ∃ H', Inv X pins σ H' s' ∧ Ext H H') X.xe s
def RcB (X : Cx) (n : Nat) (D : Eqb) : Prop :=
  ∀ (A : Around) (pins : List (Addr × Obj)) (s : Shared) (σ : L2.St) (H : Hp) (x y : V) (c : Bool) (u v : Value), Sub X n A → Inv X pins σ H s → RelV x u → RelV y v → D x y c H →
    wpAny (model X.prog X.w) A (richCompare .Eq u v) (fun r s' => r = .bool c ∧ ∃ H', Inv X pins σ H' s' ∧ Ext H H') X.xe s
/-- the pairs of one table looked up in another one -/
inductive Hits (D : Eqb) (H : Hp) (kb : List (Key × V)) : List (Key × V) → Bool → Prop
  | nil : Hits D H kb [] true
  | miss {k : Key} {v : V} {r : List (Key × V)} : valV kb k = none → Hits D H kb ((k, v) :: r) false
  | hit {k : Key} {v y : V} {r : List (Key × V)} {e b : Bool} : valV kb k = some y → D v y e H → Hits D H kb r b → Hits D H kb ((k, v) :: r) (e && b)
section
variable {D : Eqb} {H H' : Hp} {kb : List (Key × V)}
theorem Hits.mon (hD : Mon2 D) (x : Ext H H') {r : List (Key × V)} {b : Bool} (h : Hits D H kb r b) : Hits D H' kb r b := by
  induction h with
  | nil => exact .nil
  | miss h => exact .miss h
  | hit h d _ ih => exact .hit h (hD _ _ _ _ _ x d) ih
theorem Hits.inv {k : Key} {v : V} {r : List (Key × V)} {b : Bool} (h : Hits D H kb ((k, v) :: r) b) : (valV kb k = none ∧ b = false) ∨ ∃ y e b', valV kb k = some y ∧ D v y e H ∧ Hits D H kb r b' ∧ b = (e && b') := by
  cases h with
  | miss hn => exact .inl ⟨hn, rfl⟩
  | hit hy he hr => exact .inr ⟨_, _, _, hy, he, hr, rfl⟩
theorem Hits.of (e : Key → Bool) : ∀ (r : List (Key × V)), (∀ k v y, (k, v) ∈ r → valV kb k = some y → D v y (e k) H) → Hits D H kb r (r.all fun p => (valV kb p.1).isSome && e p.1)
  | [], _ => .nil
  | (k, v) :: r, h => by
    cases hv : valV kb k with
    | none =>
      have q : (((k, v) :: r).all fun p => (valV kb p.1).isSome && e p.1) = false := by simp [hv]
      rw [q]
      exact .miss hv
    | some y =>
      have q : (((k, v) :: r).all fun p => (valV kb p.1).isSome && e p.1) = (e k && r.all fun p => (valV kb p.1).isSome && e p.1) := by simp [hv]
      rw [q]
      exact .hit hv (h k v y List.mem_cons_self hv) (Hits.of e r fun k' v' y' hm hv' => h k' v' y' (List.mem_cons_of_mem _ hm) hv')
end
section
variable {X : Cx} {n : Nat} {D : Eqb} {A : Around} {pins : List (Addr × Obj)} {σ : L2.St} {H : Hp} {s : Shared} {a b : Addr} {oa ob : Obj} {ka kb : List (Key × V)} {r : Bool}
theorem find_arr {K : Type} (P : K → Value → Bool) (es : Array DictEntry) (k : K) : findBy P es k = (es.toList.find? fun e => P k e.key).map (·.val) := by
  obtain ⟨l⟩ := es
  simp [findBy]
/-- what stands in the memory of a locked dict -/
theorem tab (I : Inv X pins σ H s) (ha : H a = some (.frz oa (.dK ka))) : ∃ es ep, oa.data = .dict es ep ∧ es.size = ka.length ∧ (a == sysModules) = false ∧ ∀ (s' : Shared) (H' : Hp), Inv X pins σ H' s' → Ext H H' →
    s'.heap.get? a = some oa ∧ ∃ vs, KV ka vs ∧ KeysOf (mixKind X.prog X.w) es ∧ Pairs (mixKind X.prog X.w) es.toList vs ∧ (vs.map (·.1)).Nodup := by
  obtain ⟨hs, hg, hx, es, ep, vs, hdt, hsz, kv, o', es', ho', hx', hd', hk, hp, hn⟩ := I.frzK ha
  refine ⟨es, ep, hdt, hsz, hs, fun s' H' I' e => ?_⟩
  obtain ⟨_, hg2, _, es2, ep2, vs2, hdt2, _, kv2, o2, es3, ho2, _, hd2, hk2, hp2, hn2⟩ := I'.frzK (e _ _ ha)
  rw [hg2] at ho2
  obtain rfl := Option.some.inj ho2
  rw [hdt] at hd2
  injection hd2 with e1 e2
  subst e1
  exact ⟨hg2, vs2, kv2, hk2, hp2, hn2⟩
theorem samePairsB {nm : String} (hD : Mon2 D) (h : EqB X n D) (sb : Sub X n A) (I : Inv X pins σ H s) (ha : H a = some (.frz oa (.dK ka))) (hb : H b = some (.frz ob (.dK kb))) (hits : ka.length = kb.length → Hits D H kb ka r)
    {Q : Bool → Shared → Prop} (q : ∀ s' H', Inv X pins σ H' s' → Ext H H' → Q (ka.length == kb.length && r) s') : wpAny (model X.prog X.w) A (Builtin.Dict.samePairs nm a b) Q X.xe s := by
  obtain ⟨es, ep, hda, hsa, sa, ta⟩ := tab I ha
  obtain ⟨es', ep', hdb, hsb, sb', tb⟩ := tab I hb
  obtain ⟨hoa, _⟩ := ta s H I Ext.rfl'
  obtain ⟨hob, _⟩ := tb s H I Ext.rfl'
  rw [← hsa, ← hsb] at q
  unfold Builtin.Dict.samePairs Builtin.Dict.showsAll
  rw [if_neg (show ¬ (a == sysModules) = true by rw [sa]; exact Bool.false_ne_true), if_neg (show ¬ (b == sysModules) = true by rw [sb']; exact Bool.false_ne_true)]
  refine wpAny_bind (wpAny_pure (wpAny_bind (wpAny_pure ?_)))
  refine wpAny_bind (wpAny_dictEntries hoa hda ?_)
  dsimp only
  refine wpAny_bind (wpAny_dictEntries hob hdb ?_)
  by_cases hsz : es.size = es'.size
  case neg =>
    rw [if_pos (by simpa using hsz)]
    have hbf : (es.size == es'.size) = false := by simpa using hsz
    rw [hbf, Bool.false_and] at q
    exact wpAny_bind (wpAny_rule (wpAny_pure (q s H I Ext.rfl')))
  case pos =>
    have q' : ∀ s' H', Inv X pins σ H' s' → Ext H H' → Q r s' := by simpa [hsz] using q
    have hits' := hits (by rw [← hsa, ← hsb]; exact hsz)
    rw [if_neg (by rw [hsz]; simp)]
    refine wpAny_bind (wpAny_dictEpoch hoa hda ?_)
    refine wpAny_bind ?_
    rw [Std.Legacy.Range.forIn_eq_forIn_range']
    simp only [Std.Legacy.Range.size, Nat.sub_zero, Nat.add_sub_cancel, Nat.div_one]
    refine wpAny_forIn_list _
      (fun rest z s' => (∃ H', Inv X pins σ H' s' ∧ Ext H H' ∧ Hits D H' kb (ka.drop (es.size - rest.length)) r) ∧ z = (none, ()) ∧ ∃ i, rest = List.range' i (es.size - i) ∧ i ≤ es.size)
      _ ?_ ?_ _ _ ⟨⟨H, I, Ext.rfl', by rw [List.length_range', Nat.sub_self]; exact hits'⟩, rfl, 0, by simp, Nat.zero_le _⟩
    · rintro x rest z s' ⟨⟨H1, I1, x1, hpre⟩, rfl, i, hr, hi⟩
      have hlt : i < es.size := by
        rcases Nat.lt_or_ge i es.size with h | h
        · exact h
        · rw [Nat.sub_eq_zero_of_le h] at hr; simp at hr
      obtain ⟨rfl, hrest⟩ : x = i ∧ rest = List.range' (i + 1) (es.size - (i + 1)) := by
        have e : es.size - i = (es.size - (i + 1)) + 1 := by omega
        rw [e, List.range'_succ] at hr
        injection hr with h1 h2
        exact ⟨h1, h2⟩
      have hl1 : es.size - (x :: rest).length = x := by
        rw [List.length_cons, hrest, List.length_range']; omega
      have hl2 : es.size - rest.length = x + 1 := by
        rw [hrest, List.length_range']; omega
      rw [hl1] at hpre
      obtain ⟨ga, vs, kv, hka, hpa, hna⟩ := ta s' H1 I1 x1
      obtain ⟨gb, us, ku, hkb, hpb, hnb⟩ := tb s' H1 I1 x1
      refine wpAny_bind (wpAny_dictEntries ga hda ?_)
      rw [Array.getElem?_eq_getElem hlt]
      have hlt' : x < ka.length := by rw [← hsa]; exact hlt
      obtain ⟨k, v, hkv⟩ : ∃ k v, ka[x] = (k, v) := ⟨_, _, rfl⟩
      have hdrop : ka.drop x = (k, v) :: ka.drop (x + 1) := by rw [← hkv]; exact List.drop_eq_getElem_cons hlt'
      obtain ⟨⟨k2, v2⟩, hv2, ek, rv⟩ : ∃ p, vs[x]? = some p ∧ k = p.1 ∧ RelV v p.2 := by
        obtain ⟨p, hp, e1, e2⟩ := paired_get kv (List.getElem?_eq_getElem hlt')
        rw [hkv] at e1 e2
        exact ⟨p, hp, e1, e2⟩
      simp only at ek rv
      subst ek
      obtain ⟨hkey, hval⟩ := hpa.get? (i := x) (e := es[x]) (k := k) (v := v2) (by rw [Array.getElem?_toList]; exact Array.getElem?_eq_getElem hlt) hv2
      obtain ⟨k', hk', hh⟩ := hka es[x] (Array.getElem_mem hlt)
      have ekk : k' = k := (mixKind X.prog X.w).inj _ _ _ hk' hkey
      rw [ekk] at hh
      rw [hdrop] at hpre
      have hfind : ∀ k, findBy (mixKind X.prog X.w).is es' k = valueAt us k := fun k => by
        rw [← hpb.find k]
        exact find_arr _ _ _
      have rel := ku.val k
      show wpAny _ _ (holding [es[x].key, es[x].val] _ >>= _) _ _ _
      rw [hh]
      refine wpAny_bind (wpAny_holding (wpAny_bind (wpAny_dictFind_of hkey gb hdb hkb ?_)))
      cases hj : es'.findIdx? fun e => (mixKind X.prog X.w).is k e.key with
      | none =>
        have hn : valueAt us k = none := by rw [← hfind k, findBy_of_findIdx?, hj]
        have hn' : valV kb k = none := by
          rw [hn] at rel
          cases hv : valV kb k with
          | none => rfl
          | some y => rw [hv] at rel; exact (show False from rel).elim
        rcases hpre.inv with ⟨_, er⟩ | ⟨y, _, _, hy, _⟩
        · rw [er] at q'
          refine wpAny_pure ?_
          show wpAny _ _ (if (!false) = true then _ else _) _ _ _
          rw [if_pos (by decide)]
          exact wpAny_pure (wpAny_pure (q' _ _ I1 x1))
        · rw [hn'] at hy; exact nomatch hy
      | some j =>
        obtain ⟨hjlt, _, _⟩ := Array.findIdx?_eq_some_iff_getElem.mp hj
        have hv' : valueAt us k = some es'[j].val := by
          rw [← hfind k, findBy_of_findIdx?, hj]
          simp [Array.getElem?_eq_getElem hjlt]
        refine wpAny_bind (wpAny_dictEntries gb hdb ?_)
        rw [Array.getElem?_eq_getElem hjlt]
        rw [hv'] at rel
        rcases hpre.inv with ⟨hn, _⟩ | ⟨y, e, b', hy, he, hrr, er⟩
        · rw [hn] at rel; exact (show False from rel).elim
        · rw [hy] at rel
          have ry : RelV y es'[j].val := rel
          rw [← hval] at rv
          refine wpAny_holding (wpAny_mono (h A pins s' σ H1 v y e _ _ sb I1 rv ry he) (fun c s2 w2 => ?_) fun _ _ x => x)
          obtain ⟨ec, H2, I2, x2⟩ := w2
          subst ec
          cases c with
          | false =>
            rw [er, Bool.false_and] at q'
            show wpAny _ _ (if (!false) = true then _ else _) _ _ _
            rw [if_pos (by decide)]
            exact wpAny_pure (wpAny_pure (q' _ _ I2 (x1.trans x2)))
          | true =>
            rw [Bool.true_and] at er
            rw [← er] at hrr
            obtain ⟨ga2, _⟩ := ta s2 H2 I2 (x1.trans x2)
            show wpAny _ _ (if (!true) = true then _ else _) _ _ _
            rw [if_neg (by decide)]
            refine wpAny_bind (wpAny_dictEpoch ga2 hda ?_)
            rw [if_neg (by simp)]
            exact wpAny_pure ⟨⟨H2, I2, x1.trans x2, by rw [hl2]; exact hrr.mon hD x2⟩, rfl, x + 1, hrest, hlt⟩
    · rintro z s' ⟨⟨H1, I1, x1, hpre⟩, rfl, i, hr, hi⟩
      refine wpAny_pure ?_
      rw [List.length_nil, Nat.sub_zero, hsa, List.drop_length] at hpre
      cases hpre
      exact q' _ _ I1 x1
theorem richB (hD : Mon2 D) (h : EqB X n D) (sb : Sub X (n + 1) A) (I : Inv X pins σ H s) (ha : H a = some (.frz oa (.dK ka))) (hb : H b = some (.frz ob (.dK kb))) (hits : ka.length = kb.length → Hits D H kb ka r)
    {Q : Value → Shared → Prop} (q : ∀ s' H', Inv X pins σ H' s' → Ext H H' → Q (.bool (ka.length == kb.length && r)) s') : wpAny (model X.prog X.w) A (richCompare .Eq (.ref a) (.ref b)) Q X.xe s := by
  obtain ⟨_, _, ta⟩ := dk_rd I.hok (.inr ⟨_, ha⟩)
  obtain ⟨vs, _, da⟩ := ta
  obtain ⟨_, _, tb⟩ := dk_rd I.hok (.inr ⟨_, hb⟩)
  obtain ⟨us, _, db⟩ := tb
  refine wpAny_richCompare_same_room (op := .Eq) da.typeIs db.typeIs F.slot_dict_eq (wpAny_call_entry F.slot_dict_eq da.typeIs F.entry_dict_eq ?_ (F.args_dict_eq_2 _ _)) sb.room.units0
  show wpAny _ _ (Builtin.Dict.dictSlotArgs "__eq__" ⟨[.ref a, .ref b], []⟩ >>= _) _ _ s
  refine wpAny_bind ?_
  unfold Builtin.Dict.dictSlotArgs
  refine wpAny_bind (wpAny_notOrdered_dict da.typeIs ?_)
  show wpAny _ _ (pure (Value.ref a, Value.ref b)) _ _ s
  refine wpAny_pure ?_
  refine wpAny_bind (wpAny_isInstance (T := "dict") db.typeIs F.sub_dict_dict ?_)
  simp only [Bool.not_true, Bool.false_eq_true, if_false]
  refine wpAny_bind (wpAny_pure (wpAny_bind (wpAny_pure ?_)))
  refine wpAny_bind (samePairsB hD h sb.in1 I ha hb hits fun s' H' I' x => ?_)
  refine wpAny_pure ⟨_, rfl, ?_, ?_⟩
  · exact fun z => nomatch z
  · simpa using q s' H' I' x
end
/-! ### as an expression, the two dicts locked meanwhile -/
def rEqD (D : Eqb) : R2 := fun x y H Q => ∃ a b ka kb r, x = .ref a ∧ y = .ref b ∧ H a = some (.dK ka) ∧ H b = some (.dK kb) ∧
  (ka.length = kb.length → ∀ H', (∀ c, c ≠ a → c ≠ b → H' c = H c) → Hits D H' kb ka r) ∧ ∀ H', Ext H H' → Q (.bl (ka.length == kb.length && r)) H'
section
variable {X : Cx} {n m : Nat} {D D' : Eqb}
theorem op_eqD (hD : Mon2 D) (h : EqB X n D) (hr : Room (n + 1) X.A) : OpR X (compareOp .Eq) (rEqD D) := by
  intro pins s σ H x y v u Q I rx ry hq
  obtain ⟨a, b, ka, kb, r, rfl, rfl, ha, hb, hits, q⟩ := hq
  cases rx
  cases ry
  show wpAny (model X.prog X.w) X.A (richCompare .Eq (.ref a) (.ref b)) (EP X pins σ Q) X.xe s
  obtain ⟨oa, I1⟩ := I.lock ha True.intro
  have na := I.nofrz ha True.intro
  by_cases hab : a = b
  · subst hab
    rw [ha] at hb
    cases hb
    have e1 : upd H a (.frz oa (.dK ka)) a = some (.frz oa (.dK ka)) := upd_same
    refine richB hD h ⟨hr, rfl⟩ I1 e1 e1 (fun hl => hits hl _ fun c hc _ => upd_ne hc) fun s' H' I' x => ?_
    have I2 := I'.unlock (x _ _ e1) na
    refine ⟨.bl _, _, I2, rfl, q _ fun c o e => ?_⟩
    by_cases hc : c = a
    · rw [hc, upd_same, ← e, hc, ha]
    · rw [upd_ne hc]; exact x _ _ (by rw [upd_ne hc]; exact e)
  · have hb1 : upd H a (.frz oa (.dK ka)) b = some (.dK kb) := by rw [upd_ne (Ne.symm hab)]; exact hb
    obtain ⟨ob, I2⟩ := I1.lock hb1 True.intro
    have nb := I1.nofrz hb1 True.intro
    have ea : upd (upd H a (.frz oa (.dK ka))) b (.frz ob (.dK kb)) a = some (.frz oa (.dK ka)) := by rw [upd_ne hab]; exact upd_same
    have eb : upd (upd H a (.frz oa (.dK ka))) b (.frz ob (.dK kb)) b = some (.frz ob (.dK kb)) := upd_same
    refine richB hD h ⟨hr, rfl⟩ I2 ea eb (fun hl => hits hl _ fun c hc hc' => by rw [upd_ne hc', upd_ne hc]) fun s' H' I' x => ?_
    have I3 := I'.unlock (x _ _ eb) nb
    have I4 := I3.unlock (d := a) (od := oa) (u := .dK ka) (by rw [upd_ne hab]; exact x _ _ ea) na
    refine ⟨.bl _, _, I4, rfl, q _ fun c o e => ?_⟩
    by_cases hc : c = a
    · rw [hc, upd_same, ← e, hc, ha]
    · rw [upd_ne hc]
      by_cases hc' : c = b
      · rw [hc', upd_same, ← e, hc', hb]
      · rw [upd_ne hc']; exact x _ _ (by rw [upd_ne hc', upd_ne hc]; exact e)
/-! ### what the values may be -/
theorem EqB.mono (h : EqB X n D) (hn : n ≤ m) : EqB X m D := fun A pins s σ H x y c u v sb => h A pins s σ H x y c u v (sb.mono hn)
theorem EqB.or (h : EqB X n D) (h' : EqB X n D') : EqB X n (fun x y c H => D x y c H ∨ D' x y c H) := fun A pins s σ H x y c u v sb I rx ry d => by
  rcases d with d | d
  · exact h A pins s σ H x y c u v sb I rx ry d
  · exact h' A pins s σ H x y c u v sb I rx ry d
theorem Mon2.or (h : Mon2 D) (h' : Mon2 D') : Mon2 (fun x y c H => D x y c H ∨ D' x y c H) := fun x y c H H' e d => d.elim (fun d => .inl (h x y c H H' e d)) fun d => .inr (h' x y c H H' e d)
def EFlat : Eqb := fun x y c _ => flatV x = true ∧ flatV y = true ∧ eqV x y = c
theorem mon_eflat : Mon2 EFlat := fun _ _ _ _ _ _ d => d
theorem eqB_flat : EqB X 0 EFlat := by
  intro A pins s σ H x y c u v sb I rx ry d
  obtain ⟨fx, fy, e⟩ := d
  have q := eqAt_V (A := A) (s := s) rx ry fx fy
  rw [e] at q
  exact q X.prog X.w X.xe _ ⟨rfl, H, I, Ext.rfl'⟩
/-- an instance of C, whose == is the text's own, and an instance of this class or of another one that isn't below it -/
def EOwn (K : PySem.W.Frag) (C : Addr) (sp : Sp) (E : XK) : Eqb := fun x y c H => ∃ a b C' dx fs dy gs, x = .ref a ∧ y = .ref b ∧ H a = some (.ins C dx fs) ∧ H b = some (.ins C' dy gs) ∧ PySem.W.notFirst K C (.ref C') = true ∧ (a = b → c = true) ∧
  ∀ H', Ext H H' → sp [x, y] H' (fun v H2 => v = .bl c ∧ Ext H' H2) E
theorem mon_eown {K : PySem.W.Frag} {C : Addr} {sp : Sp} {E : XK} : Mon2 (EOwn K C sp E) := fun x y c H H' e d => by
  obtain ⟨a, b, C', dx, fs, dy, gs, hx, hy, h1, h2, hn, hc, r⟩ := d
  exact ⟨a, b, C', dx, fs, dy, gs, hx, hy, e _ _ h1, e _ _ h2, hn, hc, fun H2 e2 => r H2 (e.trans e2)⟩
theorem eqB_own {CX : CXT} {C f : Addr} {fd : FuncData} {ps : List Str} {sp : Sp} {E : XK} (F : FnOk X.prog X.w X.K X.mg X.base CX n f fd ps sp)
    (hs : PySem.W.findIn X.K (.ref C) "__eq__" = some (some (.ref f))) (hf : PySem.W.isFn X.K (.ref f) = true) (hb : Binds X.K fd ps []) (hx : Passes CX X E) : EqB X n (EOwn X.K C sp E) := by
  intro A pins s σ H x y c u v sb I rx ry d
  obtain ⟨a, b, C', dx, fs, dy, gs, rfl, rfl, ha, hb', hn, hc, hr⟩ := d
  cases rx
  cases ry
  by_cases hab : a = b
  · subst hab
    rw [hc rfl]
    exact SeqAt.EqAt.same (A := A) (s := s) (.ref a) X.prog X.w X.xe _ ⟨rfl, H, I, Ext.rfl'⟩
  · refine GQ.eqBool_refG hab ?_
    obtain ⟨mA, J, _⟩ := ins_get I.hok ha
    obtain ⟨mB, J', _⟩ := ins_get I.hok hb'
    obtain ⟨od, J, _⟩ := J.look
    obtain ⟨od', J', _⟩ := J'.look
    obtain ⟨m, hF⟩ := I.fr
    refine PySem.W.cmp_K (op := .Eq) (tb := .ref C') sb.room.units0 hF I.ok.mod.kin J J'.type hn hs hf ?_
    have hsp := hr H Ext.rfl'
    have e0 : Env0 X.prog X.w X.K X.mg X.base A X.stack s H := by
      have e := I.env0
      exact ⟨by rw [sb.fr]; exact e.frames, e.mod, e.bs, e.bsz, e.funs, e.frf, e.hok, e.bare⟩
    have hl := F.len _ _ _ _ hsp
    have r2 : Vals [V.ref a, V.ref b] [Value.ref a, Value.ref b] := .cons rfl (.cons rfl .nil)
    refine wpAny_call (codeAny_mono (F.run A X.stack s H ⟨[.ref a, .ref b], []⟩ [.ref a, .ref b] [.ref a, .ref b] _ E sb.room e0 (by
      have := hb s [.ref a, .ref b] I.kIn (by simpa using hl)
      simpa using this) r2 hsp) fun r s' hq => ?_)
    cases r with
    | error e => exact hx pins σ H s e s' I hq
    | ok fl =>
      cases fl with
      | ret w =>
        obtain ⟨z, H', I', rz, ez, ex⟩ := I.after hq
        subst ez
        cases rz
        exact ⟨c, rfl, rfl, H', I', ex⟩
      | next => exact False.elim hq
      | brk => exact False.elim hq
      | cont => exact False.elim hq
end
end EB

set_option Elab.async false
set_option linter.all false
set_option maxRecDepth 100000
set_option maxHeartbeats 4000000
/-! a dict's display with one more dict in it: {**d, k: v} -/
namespace MM
open PySem PySem.Spec PyProof.Rows L2
section
variable {prog : Program} {w : World} {K : Type} [DecidableEq K] {knd : KeyKind prog w K} {A : Around} {E : Value → Shared → Prop} {s : Shared}
theorem putAt {d : Addr} {kvs : List (K × Value)} {k : K} {key v : Value} {Q : Unit → Shared → Prop} (hkey : knd.is k key = true) (hm : s.heap.DictOf knd d kvs) (hsz : kvs.length ≤ sizeLine)
    (hQ : ∀ h', h'.DictOf knd d (stored kvs k v) → Heap.SameBut d s.heap h' → Q () { s with heap := h' }) : wpAny (model prog w) A (dictPut d (knd.hash k) key v) Q E s := by
  obtain ⟨o, es, ep, ho, hc, hd, hk, hp, hn⟩ := hm
  have hes : es.size ≤ sizeLine := by
    have e1 := hp.length
    rw [Array.length_toList] at e1
    omega
  have same : (es.findIdx? fun e => knd.is k e.key) = kvs.findIdx? fun kv => decide (kv.1 = k) := by
    rw [← hp.findIdx k]
    obtain ⟨l⟩ := es
    simp
  unfold dictPut
  refine wpAny_bind (wpAny_dictFind_of hkey ho hd hk ?_)
  rcases hi : es.findIdx? fun e => knd.is k e.key with _ | i
  · have no : k ∉ kvs.map (·.1) := not_mem_of_findIdx_none (same ▸ hi)
    have st : stored kvs k v = kvs ++ [(k, v)] := by
      unfold stored
      rw [if_neg]
      intro h
      obtain ⟨q, hq, e⟩ := List.any_eq_true.mp h
      exact no (List.mem_map.mpr ⟨q, hq, of_decide_eq_true e⟩)
    have hq := hQ
    rw [st] at hq
    rw [hi]
    refine wpAny_updateDictKeys (f := fun es => es.push ⟨knd.hash k, key, v⟩) (hz := hes) ho hd (hq _ ?_ (Heap.SameBut.update ..))
    refine ⟨_, _, ep + 1, Heap.get?_update_self _ ho (Obj.isFreed_of_dict (Obj.data_mapDictKeys hd _)), hc.mapDictKeys _, Obj.data_mapDictKeys hd _, hk.push hkey _, ?_, ?_⟩
    · have := hp.append hkey (knd.hash k) v
      obtain ⟨l⟩ := es
      simpa using this
    · rw [List.map_append, List.nodup_append]
      refine ⟨hn, by simp, fun a ha b hb e => no ?_⟩
      rw [List.map_cons, List.map_nil, List.mem_singleton] at hb
      have ea : a = k := e.trans hb
      exact ea ▸ ha
  · have st : stored kvs k v = kvs.map fun kv => if kv.1 = k then (kv.1, v) else kv := by
      unfold stored
      rw [if_pos (any_of_findIdx_some (same ▸ hi))]
    have hl : (es.toList.findIdx? fun e => knd.is k e.key) = some i := by
      rw [← hi]
      obtain ⟨l⟩ := es
      simp
    have hq := hQ
    rw [st] at hq
    rw [hi]
    refine wpAny_updateDict (f := fun es => es.modify i fun e => { e with val := v }) ho hd (hq _ ?_ (Heap.SameBut.update ..))
    refine ⟨_, _, ep, Heap.get?_update_self _ ho (Obj.isFreed_of_dict (Obj.data_mapDict hd _)), hc.mapDict _, Obj.data_mapDict hd _, hk.modify _ _, ?_, ?_⟩
    · have := hp.modify hn hl v
      obtain ⟨l⟩ := es
      simpa using this
    · rw [keys_map_store]
      exact hn
theorem merge_plain {d a : Addr} {kvs more : List (K × Value)} {Q : Unit → Shared → Prop} (hda : d ≠ a) (hoS : (a == sysModules) = false) (hd : s.heap.DictOf knd d kvs) (ha : s.heap.DictOf knd a more)
    (hsz : kvs.length + more.length ≤ sizeLine) (hQ : ∀ h', h'.DictOf knd d (merged kvs more) → Heap.SameBut d s.heap h' → Q () { s with heap := h' }) :
    wpAny (model prog w) A (mergeMapping d (.ref a) false) Q E s := by
  have tA := ha.typeIs (s := s)
  obtain ⟨od, esd, epd, hod, hcd, hdd, hkd, hpd, hnd⟩ := id hd
  obtain ⟨oo, eso, epo, hoo, hco, hdo, hko, hpo, hno⟩ := id ha
  have hlen : more.length = eso.size := by
    rw [← hpo.length, Array.length_toList]
  unfold mergeMapping
  refine wpAny_bind ?_
  refine wpAny_bind (wpAny_typeOf tA (wpAny_of_eq isSubtype_dict_dict ?_))
  rw [if_pos rfl]
  refine wpAny_bind (wpAny_specialOf tA F.slot_dict_iter.lookup ?_)
  refine wpAny_bind (wpAny_pure ?_)
  simp only [beq_self_eq_true]
  rw [if_neg (by rw [hoS]; exact Bool.false_ne_true)]
  have main : wpAny (model prog w) A (do
      let l ← dictEntries a
      let epoch ← dictEpoch a
      forIn (List.range l.size) PUnit.unit fun i (_ : PUnit) => (do
          let l' ← dictEntries a
          match l'[i]? with
            | some e => do
              holding [e.key, e.val] (dictPut d e.hash e.key e.val)
              let ep' ← dictEpoch a
              if (ep' != epoch) = true then do
                  (unsupported "dict.changed-during-merge" : Sem PUnit)
                  pure (ForInStep.yield PUnit.unit)
                else pure (ForInStep.yield PUnit.unit)
            | _ => do
              (unsupported "dict.changed-during-merge" : Sem PUnit)
              pure (ForInStep.yield PUnit.unit) : Sem (ForInStep PUnit))
      pure ()) Q E s := by
    refine wpAny_bind (wpAny_dictEntries hoo hdo ?_)
    refine wpAny_bind (wpAny_dictEpoch hoo hdo ?_)
    refine wpAny_bind ?_
    rw [List.range_eq_range']
    refine wpAny_forIn_list _ (fun l _ t => ∃ h' i, t = { s with heap := h' } ∧ l = List.range' i (eso.size - i) ∧ i ≤ eso.size ∧ h'.DictOf knd d (merged kvs (more.take i)) ∧ h'.get? a = some oo ∧ Heap.SameBut d s.heap h') _ ?_ ?_ _ _
      ⟨s.heap, 0, rfl, by simp, Nat.zero_le _, by simpa [merged] using hd, hoo, Heap.SameBut.refl _ _⟩
    · rintro x l b t ⟨h', i, rfl, hr, hi, hd', ha', hs'⟩
      have lt : i < eso.size := by
        refine Nat.lt_of_not_le fun h => ?_
        rw [Nat.sub_eq_zero_of_le h] at hr
        cases hr
      rw [show eso.size - i = (eso.size - (i + 1)) + 1 by omega, List.range'_succ] at hr
      injection hr with e1 e2
      subst e1
      refine wpAny_bind (wpAny_dictEntries ha' hdo ?_)
      rw [Array.getElem?_eq_getElem lt]
      have hm : ∃ k v, more[x]? = some (k, v) := by
        have hx : x < more.length := hlen ▸ lt
        exact ⟨_, _, List.getElem?_eq_getElem hx⟩
      obtain ⟨k, v, hkv⟩ := hm
      obtain ⟨hk1, hv1⟩ := hpo.get? (e := eso[x]) (by simp [lt]) hkv
      obtain ⟨k2, hk2, hh⟩ := hko eso[x] (Array.getElem_mem lt)
      obtain rfl : k2 = k := knd.inj _ _ _ hk2 hk1
      show wpAny _ _ (holding [eso[x].key, eso[x].val] (dictPut d eso[x].hash eso[x].key eso[x].val) >>= _) _ _ _
      rw [hh, hv1]
      have small : (merged kvs (more.take x)).length ≤ sizeLine := by
        have q1 := merged_length_le kvs (more.take x)
        have q2 := List.length_take_le x more
        omega
      refine wpAny_bind (wpAny_holding (putAt hk1 hd' small fun h2 hd2 hs2 => ?_))
      have ha2 : h2.get? a = some oo := (hs2.2 a (Ne.symm hda)).trans ha'
      refine wpAny_bind (wpAny_dictEpoch ha2 hdo ?_)
      rw [if_neg (by simp)]
      exact wpAny_pure ⟨h2, x + 1, rfl, e2, lt, by rw [merged_take_succ kvs more x _ hkv]; exact hd2, ha2, hs'.trans hs2⟩
    · rintro b t ⟨h', i, rfl, hr, hi, hd', ha', hs'⟩
      have ei : i = more.length := by
        refine hlen ▸ Nat.le_antisymm hi (Nat.le_of_not_lt fun h => ?_)
        rw [show eso.size - i = (eso.size - (i + 1)) + 1 by omega, List.range'_succ] at hr
        cases hr
      rw [ei, List.take_length] at hd'
      exact wpAny_pure (hQ h' hd' hs')
  refine wpAny_bind (wpAny_dictEntries hod hdd ?_)
  split
  · refine wpAny_bind (wpAny_dictEntries hoo hdo ?_)
    refine wpAny_bind ?_
    rw [← Array.forIn_toList]
    refine wpAny_forIn_list _ (fun l _ t => t = s ∧ ∀ e ∈ l, ∃ k, knd.is k e.key = true) _ ?_ ?_ _ _ ⟨rfl, fun e he => ?_⟩
    · rintro x l b t ⟨rfl, hl⟩
      obtain ⟨k, hk⟩ := hl x List.mem_cons_self
      have bv := knd.byValue _ _ hk
      split
      · rename_i r er
        rw [er] at bv
        cases bv
      · exact wpAny_pure ⟨rfl, fun e he => hl e (List.mem_cons_of_mem _ he)⟩
    · rintro b t ⟨rfl, _⟩
      exact main
    · obtain ⟨k, hk, _⟩ := hko e (by simpa using he)
      exact ⟨k, hk⟩
  · exact main
end
end MM

set_option Elab.async false
set_option linter.all false
set_option maxRecDepth 100000
set_option maxHeartbeats 4000000
namespace MM
open PySem PySem.Spec PyProof.Rows L2
def tStarPut (tm tk tv : TE) : TE := fun σ H Q => ∀ d, H d = none → tm σ (upd H d (.dK [])) fun x H1 => ∃ a kvs, x = .ref a ∧ Rd H1 a (.dK kvs) ∧ d ≠ a ∧ H1 d = some (.dK []) ∧ kvs.length < sizeLine ∧
  ∀ u, upd H1 d (.dK kvs) u = none → tk σ (upd (upd H1 d (.dK kvs)) u (.dK [])) fun y H2 => tv σ H2 fun z H3 => ∃ key : Key, y = kV key ∧ H3 u = some (.dK []) ∧ H3 d = some (.dK kvs) ∧ Q (.ref d) (upd (upd H3 u (.dK [(key, z)])) d (.dK (putK kvs key z)))
section
variable {X : Cx} {em k ev : Expr} {pos : Pos} {tm tk tv : TE}
theorem pe_starPut (hm : PE X em tm) (hk : PE X k tk) (hv : PE X ev tv) : PE X (.Dict [none, some k] [em, ev] pos) (tStarPut tm tk tv) := by
  refine ⟨fun pins s σ H Q I q => ?_⟩
  rw [arm_eval_Dict]
  refine wpAny_bind (wpAny_standAt ?_)
  show wpAny _ _ (dictDisplay [(none, (do let x ← eval em X.env; standAt pos; pure x)), (some (eval k X.env), (do let x ← eval ev X.env; standAt pos; pure x))]) _ _ _
  unfold dictDisplay
  dsimp only
  refine wpAny_bind ?_
  rw [List.forIn_cons]
  refine wpAny_bind ?_
  dsimp only
  refine wpAny_bind (wpAny_pure ?_)
  dsimp only
  refine wpAny_bind (wpAny_alloc ?_)
  have hn := I.hok.fresh (Nat.le_refl s.heap.objs.size)
  have I1 := I.laid (a := s.heap.objs.size) (o := .dK []) (h' := s.heap.push { cls := .type "dict", data := .dict #[] }) (t' := s.toks) (fun _ _ q => Heap.get?_push_of_some _ q) (Nat.le_refl _) (dk_empty s.heap I.big)
  refine wpAny_bind (wpAny_holding (wpAny_bind (thn (hm.run pins _ σ _ _ I1 (q _ hn)) fun m s2 ⟨x, H2, I2, rx, a, kvs, ex, ha, ne, hd0, hz, q2⟩ => wpAny_bind (wpAny_standAt (wpAny_pure ?_)))))
  subst ex
  cases rx
  obtain ⟨z0, hd1, vs0, r0, dd0⟩ := dk_of I2.hok hd0
  cases r0
  obtain ⟨z1, ha1, vs1, r1, dd1⟩ := dk_rd I2.hok ha
  have nod : (vs1.map (·.1)).Nodup := let ⟨_, _, _, _, _, _, _, _, h⟩ := dd1; h
  refine wpAny_bind (wpAny_onRaise (wpAny_tryCatch (wpAny_onRaise (wpAny_holding (merge_plain ne ha1 dd0 dd1 (by rw [List.length_nil, Nat.zero_add, ← r1.length]; exact z1) fun h3 d3 hs3 => ?_)))))
  rw [merged_nil_of_nodup vs1 nod] at d3
  have he3 : ∃ q, h3.get? s.heap.objs.size = some q := let ⟨q, _, _, hq, _⟩ := d3; ⟨q, hq⟩
  have I3 := d_write (ob := .dK kvs) (t' := s2.toks) I2 (by rw [hd0]; exact True.intro) hs3 he3 (dk_new z1 hd1 r1 d3)
  refine wpAny_pure ?_
  dsimp only
  rw [List.forIn_cons]
  refine wpAny_bind ?_
  dsimp only
  rw [if_neg (by simp)]
  refine wpAny_pure ?_
  dsimp only
  rw [List.forIn_nil]
  refine wpAny_pure ?_
  dsimp only
  rw [if_neg (by simp)]
  refine wpAny_bind ?_
  refine wpAny_bind (wpAny_holding (wpAny_subDict (knd := mixKind X.prog X.w) (by simp) ?_))
  have hn3 := I3.hok.fresh (Nat.le_refl h3.objs.size)
  have I4 := I3.laid (a := h3.objs.size) (o := .dK []) (h' := h3.push { cls := .type "dict", data := .dict #[] }) (t' := s2.toks) (fun _ _ q => Heap.get?_push_of_some _ q) (Nat.le_refl _) (dk_empty h3 I3.big)
  show wpAny _ _ (evalPairs [(eval k X.env, (do let x ← eval ev X.env; standAt pos; pure x))]) _ _ _
  unfold evalPairs evalPairs
  refine wpAny_bind (thn (hk.run pins _ σ _ _ I4 (q2 _ hn3)) fun kv s5 ⟨y, H5, I5, ry, q5⟩ => ?_)
  refine wpAny_bind (wpAny_holding (wpAny_bind (thn (hv.run pins s5 σ _ _ I5 q5) fun vv s6 ⟨z, H6, I6, rz, key, ey, eu, ed, q6⟩ => wpAny_bind (wpAny_standAt (wpAny_pure ?_)))))
  refine wpAny_bind (wpAny_holding (wpAny_pure (wpAny_pure ?_)))
  subst ey
  obtain ⟨rs, c, rk⟩ := carries_of (P := X.prog) (w := X.w) (kvs := [(key, z)]) (ws := [(kv, vv)]) (.cons ⟨ry, rz⟩ .nil)
  obtain ⟨z6, hu6, vs6, r6, dd6⟩ := dk_of I6.hok eu
  cases r6
  refine ⟨rs, c, dd6, fun h7 dd7 hs7 => ?_⟩
  have he7 : ∃ q, h7.get? h3.objs.size = some q := let ⟨q, _, _, hq, _⟩ := dd7; ⟨q, hq⟩
  have rk1 : KV [(key, z)] (merged [] rs) := rk.merge .nil
  have I7 := d_write (ob := .dK [(key, z)]) (t' := s6.toks + [(kv, vv)].length) I6 (by rw [eu]; exact True.intro) hs7 he7 (dk_new (by rw [sizeLine_eq]; simp) hu6 rk1 dd7)
  have nud : h3.objs.size ≠ s.heap.objs.size := fun e => by
    rw [e, upd_same] at hn3
    cases hn3
  have ed7 : upd H6 h3.objs.size (.dK [(key, z)]) s.heap.objs.size = some (.dK kvs) := by rw [upd_ne (Ne.symm nud)]; exact ed
  obtain ⟨z8, hd8, vs8, r8, dd8⟩ := dk_of I7.hok ed7
  refine wpAny_bind (wpAny_onRaise (wpAny_holding (merge_plain (Ne.symm nud) hu6 dd8 dd7 ?_ fun h9 d9 hs9 => ?_)))
  · have e1 := rk1.length
    have e2 := r8.length
    rw [← e1, ← e2, List.length_singleton]
    omega
  · have he9 : ∃ q, h9.get? s.heap.objs.size = some q := let ⟨q, _, _, hq, _⟩ := d9; ⟨q, hq⟩
    have rk9 : KV (mergeK kvs [(key, z)]) (merged vs8 (merged [] rs)) := rk1.merge r8
    have z9 : (mergeK kvs [(key, z)]).length ≤ sizeLine := by
      have := length_mergeK [(key, z)] kvs
      rw [List.length_singleton] at this
      omega
    have I9 := d_write (ob := .dK (mergeK kvs [(key, z)])) (t' := s6.toks + [(kv, vv)].length) I7 (by rw [ed7]; exact True.intro) hs9 he9 (dk_new z9 hd8 rk9 d9)
    exact wpAny_pure (wpAny_pure ⟨.ref s.heap.objs.size, _, I9, rfl, q6⟩)
end
end MM

set_option Elab.async false
set_option linter.all false
set_option maxRecDepth 100000
set_option maxHeartbeats 4000000
/-! x in o, len(o), o[k], o(), o(k = v) by the methods of an own class -/
namespace OC
open PySem PySem.Spec PyProof.Rows L2 StX
def rInOwn (C : Addr) (sp : Sp) (E : XK) (g : Bool → Bool) : R2 := fun x y H Q => ∃ a dx fs, y = .ref a ∧ H a = some (.ins C dx fs) ∧ sp [y, x] H (fun v H' => ∃ c, v = .bl c ∧ Q (.bl (g c)) H') E
def rLenOwn (C : Addr) (sp : Sp) (E : XK) : List V → Hp → VK → Prop := fun xs H Q => ∃ a dx fs, xs = [.ref a] ∧ H a = some (.ins C dx fs) ∧ sp [.ref a] H (fun v H' => ∃ n : Int, v = .int n ∧ 0 ≤ n ∧ n < 2 ^ 63 ∧ Q (.int n) H') E
section
variable {X : Cx} {CX : CXT} {n : Nat} {C f : Addr} {sp : Sp} {E : XK}
theorem op_inOwn (F : FnR X.prog X.w X.K X.mg X.base CX n f sp) (hr : Room n X.A) (hs : PySem.W.findIn X.K (.ref C) "__contains__" = some (some (.ref f))) (hf : PySem.W.isFn X.K (.ref f) = true) (hx : Passes CX X E) : OpR X (compareOp .In) (rInOwn C sp E id) := by
  intro pins s σ H x y v u Q I rx ry h
  obtain ⟨a, dx, fs, rfl, ha, hsp⟩ := h
  cases ry
  obtain ⟨mA, J, _⟩ := ins_get I.hok ha
  obtain ⟨od, J, _⟩ := J.look
  obtain ⟨m, hF⟩ := I.fr
  refine PySem.W.in_K hF I.ok.mod.kin J hs hf ?_
  refine thn (wpAny_call (run_fnR (us := [.ref a, v]) (vs := [V.ref a, x]) F hr hx I (.cons rfl (.cons rx .nil)) hsp)) fun r s' ⟨z, H', I', rz, c, ez, q⟩ => ?_
  subst ez
  cases rz
  exact wpAny_truthy_bool ⟨.bl c, H', I', rfl, q⟩
theorem op_notInOwn (F : FnR X.prog X.w X.K X.mg X.base CX n f sp) (hr : Room n X.A) (hs : PySem.W.findIn X.K (.ref C) "__contains__" = some (some (.ref f))) (hf : PySem.W.isFn X.K (.ref f) = true) (hx : Passes CX X E) : OpR X (compareOp .NotIn) (rInOwn C sp E not) := by
  intro pins s σ H x y v u Q I rx ry h
  obtain ⟨a, dx, fs, rfl, ha, hsp⟩ := h
  cases ry
  obtain ⟨mA, J, _⟩ := ins_get I.hok ha
  obtain ⟨od, J, _⟩ := J.look
  obtain ⟨m, hF⟩ := I.fr
  refine PySem.W.notIn_K hF I.ok.mod.kin J hs hf ?_
  refine thn (wpAny_call (run_fnR (us := [.ref a, v]) (vs := [V.ref a, x]) F hr hx I (.cons rfl (.cons rx .nil)) hsp)) fun r s' ⟨z, H', I', rz, c, ez, q⟩ => ?_
  subst ez
  cases rz
  exact wpAny_truthy_bool ⟨.bl (!c), H', I', rfl, q⟩
theorem call_lenOwn (F : FnR X.prog X.w X.K X.mg X.base CX n f sp) (hr : Room (n + 1) X.A) (hs : PySem.W.findIn X.K (.ref C) "__len__" = some (some (.ref f))) (hf : PySem.W.isFn X.K (.ref f) = true) (hx : Passes CX X E) : CallR X (.builtin "len") (rLenOwn C sp E) := by
  intro pins s σ H xs us Q I r h
  obtain ⟨a, dx, fs, rfl, ha, hsp⟩ := h
  obtain ⟨u, rfl, ru⟩ := vals1 r
  cases ru
  obtain ⟨mA, J, _⟩ := ins_get I.hok ha
  obtain ⟨od, J, _⟩ := J.look
  obtain ⟨m, hF⟩ := I.fr
  refine PySem.W.len_K hF I.ok.mod.kin J hs hf ?_
  refine wpAny_call (codeAny_mono (F X.A.in1 X.stack s H [.ref a] [V.ref a] _ E hr.in1 I.env0.in1 (.cons rfl .nil) hsp) fun r s' hq => ?_)
  cases r with
  | error e => exact hx pins σ H s e s' I hq
  | ok fl =>
    cases fl with
    | ret u =>
      obtain ⟨z, H', I', rz, k, ez, h0, h1, q⟩ := I.after hq
      subst ez
      obtain ⟨t, rfl⟩ := rz
      exact ⟨⟨h0, h1⟩, .int k, H', I'.tok _, ⟨_, rfl⟩, q⟩
    | next => exact False.elim hq
    | brk => exact False.elim hq
    | cont => exact False.elim hq
end
section
variable {M : Model} {A : Around} {E : Value → Shared → Prop} {s : Shared} {a : Addr} {pos : Pos} {Q : Value → Shared → Prop} {args : List (Bool × Sem Value)} {kws : List (Option Str × Sem Value)}
theorem callsOwn (hplain : (args.any (·.1) || kws.any (·.1.isNone)) = false)
    (h : wpAny M A (evalArgs (.ref a) true args kws) (fun z t => (∃ C ox od, PySem.W.InstAt t.heap a ox C od ∧ ox.data = .plain) ∧ wpAny M A (call (.ref a) ([] ++ z.pos) z.kw) Q E t) E s) : wpAny M A (callWith pos (.ref a) [] args kws) Q E s := by
  unfold callWith
  refine wpAny_bind (wpAny_holding (thn h fun z t ⟨⟨C, ox, od, J, hd⟩, hq⟩ => wpAny_bind (wpAny_standAt ?_)))
  have L := PySem.W.kco_keeper (M := M) J hd
  simp only [hplain]
  refine wpAny_bind (L.here ?_)
  have last : ∀ {m : Sem Value}, wpAny M A m Q E t → wpAny M A (do let r ← m; holding [r] point; pure r) Q E t := fun hm => wpAny_bind (thn hm fun r t2 hr => wpAny_bind (wpAny_holding (wpAny_point (wpAny_pure hr))))
  exact last (wpAny_operateT hq)
end
section
variable {X : Cx} {CX : CXT} {k : Nat} {C g : Addr} {fd : FuncData} {ps ks : List Str} {sp : Sp} {E : XK} {fe : Expr} {tf : TE} {tk : TA} {pos : Pos} {kws : List Keyword} {gg : List Value → List Value → List Value} {gV : List V → List V → List V}
/-- o() -/
theorem pe_callO0 (hf : PE X fe tf) (c : CallO X.K C g) (F : FnR X.prog X.w X.K X.mg X.base CX k g sp) (hr : Room k X.A) (hx : Passes CX X E)
    (ht : eval (.Call fe [] [] pos) X.env = (do callWith pos (← eval fe X.env) [] (backTo pos (starEach [] X.env)) (backToKw pos (keywordEach [] X.env))) := by rfl) : PE X (.Call fe [] [] pos) (tCallO X C sp E tf tNil) := by
  refine ⟨fun pins s σ H Q I h => ?_⟩
  refine Call_ (thn (hf.run pins s σ H _ I h) fun u s1 ⟨y, H1, I1, ry, a, ey, hi, q⟩ => ?_) ht
  subst ey
  obtain rfl : u = Value.ref a := ry
  obtain ⟨ox, od, J, hd⟩ := insC_at I1 hi
  exact callsOwn rfl (evalArgs_nil3 ⟨⟨C, ox, od, J, hd⟩, run_callO c F hr hx I1 hi .nil q⟩)
/-- o(x = e, ..) -/
def tCallOK (X : Cx) (C : Addr) (sp : Sp) (gV : List V → List V → List V) (E : XK) (tf : TE) (tk : TA) : TE := fun σ H Q => tf σ H fun y H1 => ∃ a, y = V.ref a ∧ tk σ H1 fun zs H2 => InsC X H2 a C ∧ sp (gV [.ref a] zs) H2 Q E
theorem pe_callOK (hf : PE X fe tf) (c : CallO X.K C g) (F : FnOk X.prog X.w X.K X.mg X.base CX k g fd ps sp) (hr : Room k X.A) (hb : KBinds X.K fd ps ks gg gV) (hx : Passes CX X E) (hkw : PK X kws tk)
    (ht : eval (.Call fe [] kws pos) X.env = (do callWith pos (← eval fe X.env) [] (backTo pos (starEach [] X.env)) (backToKw pos (keywordEach kws X.env))) := by rfl)
    (hall : (backToKw pos (keywordEach kws X.env)).all (·.1.isSome) = true := by rfl) (hnone : (backToKw pos (keywordEach kws X.env)).any (·.1.isNone) = false := by rfl) (hks : (backToKw pos (keywordEach kws X.env)).filterMap (·.1) = ks := by rfl) :
    PE X (.Call fe [] kws pos) (tCallOK X C sp gV E tf tk) := by
  refine ⟨fun pins s σ H Q I h => ?_⟩
  rw [ht]
  refine wpAny_bind (thn (hf.run pins s σ H _ I h) fun u s1 ⟨y, H1, I1, ry, a, ey, q⟩ => ?_)
  subst ey
  obtain rfl : u = Value.ref a := ry
  refine callsOwn hnone (evalArgs_kw_nil hall (thn (hkw.run pos pins s1 σ H1 _ I1 q) fun ws s2 ⟨zs, H2, I2, rz, hi, q2⟩ => ?_))
  obtain ⟨ox, od, J, hd⟩ := insC_at I2 hi
  refine ⟨⟨C, ox, od, J, hd⟩, ?_⟩
  rw [hks]
  have r2 := hb.rel (us := [.ref a]) (vs := [.ref a]) (.cons rfl .nil) rz
  have hl : (gg [.ref a] ws).length = ps.length := by rw [← r2.length]; exact F.len _ _ _ _ q2
  refine wpAny_call (PySem.W.kco_code I2.kIn J hd c.at_ c.fn c.fi (codeAny_mono (F.run X.A X.stack s2 H2 ⟨[.ref a], ks.zip ws⟩ (gg [.ref a] ws) (gV [.ref a] zs) Q E hr I2.env0 (hb.to s2 [.ref a] ws I2.kIn hl) r2 q2) fun r s' hq => ?_))
  cases r with
  | error e => exact hx pins σ H2 s2 e s' I2 hq
  | ok fl =>
    cases fl with
    | ret u => exact I2.after hq
    | next => exact False.elim hq
    | brk => exact False.elim hq
    | cont => exact False.elim hq
end
end OC

set_option Elab.async false
set_option linter.all false
set_option maxRecDepth 100000
set_option maxHeartbeats 4000000
namespace KX
open PySem PySem.Spec PyProof.Rows L2
/-- what a suite under «as n» (n in slot i) leaves: the name is gone behind it -/
def asEnds (i : Nat) (D : Ends) : Ends := { nx := fun σ' H' => D.nx (σ'.set i none) H', rt := D.rt, bk := fun σ' H' => D.bk (σ'.set i none) H', ct := fun σ' H' => D.ct (σ'.set i none) H' }
def asSuite (i : Nat) (ts : Addr → Value → Option Addr → TS) : Addr → Value → Option Addr → TS := fun a cls d D σ H => ts a cls d (asEnds i D) (σ.set i (some (.ref a))) H
/-- except clauses, with a name or without -/
inductive Mix (X : Cx) : List ExceptHandler → List (Value × (Addr → Value → Option Addr → TS)) → Prop
  | nil : Mix X [] []
  | bare {x : Str} {c : Value} {ts : Addr → Value → Option Addr → TS} {b : Stmt} {suite : List Stmt} {np q : Pos} {hds : List ExceptHandler} {l : List (Value × (Addr → Value → Option Addr → TS))} (hc : Names X x c)
      (hsu : ∀ (a : Addr) (oe : Obj) (cls : Value) (d : Option Addr) (pn : List (Addr × Obj)), Zc cls d oe → (∃ vs, oe.data = .fields vs) → PSs (X.suite a ((a, oe) :: pn)) (b :: suite) (ts a cls d)) (r : Mix X hds l) :
      Mix X (.ExceptHandler (some (.Name x np)) none (b :: suite) q :: hds) ((c, ts) :: l)
  | named {x n : Str} {i : Nat} {c : Value} {ts : Addr → Value → Option Addr → TS} {b : Stmt} {suite : List Stmt} {np q : Pos} {hds : List ExceptHandler} {l : List (Value × (Addr → Value → Option Addr → TS))} (hc : Names X x c)
      (hN : X.N.Nodup) (hi : X.N[i]? = some n) (hln : X.env.kindOf n = some .local)
      (hsu : ∀ (a : Addr) (oe : Obj) (cls : Value) (d : Option Addr) (pn : List (Addr × Obj)), Zc cls d oe → (∃ vs, oe.data = .fields vs) → PSs (X.suite a ((a, oe) :: pn)) (b :: suite) (ts a cls d)) (r : Mix X hds l) :
      Mix X (.ExceptHandler (some (.Name x np)) (some n) (b :: suite) q :: hds) ((c, asSuite i ts) :: l)
section
variable {X : Cx} {body : List Stmt} {h0 : ExceptHandler} {hds : List ExceptHandler} {l : List (Value × (Addr → Value → Option Addr → TS))} {pos : Pos} {tb : WX → TS} {Wout : WX}
theorem psTryMix (hs : X.stack = X.env :: X.outer) (hf : X.env.frame = some X.env.locals) (tk : Takes X Wout)
    (hb : ∀ (W : WX) (pn : List (Addr × Obj)) (xe : Value → Shared → Prop), Takes (X.tr pn xe) W → PassesOwn (model X.prog X.w) X.A X.env xe → PSs (X.tr pn xe) body (tb W))
    (hh : Mix X (h0 :: hds) l) : PS X (.Try body (h0 :: hds) [] [] pos) (fun D σ H => tb (wMany X.K Wout D l) D σ H) := by
  refine ⟨fun pins s σ H D I h => ?_⟩
  have ok := I.ok
  have frames : X.A.frames = some (X.env :: X.outer) := by
    rw [ok.frames, hs]
  refine wpAny_Try_except ?_
  have inner := hb (wMany X.K Wout D l) (X.pn ++ pins) (fun e s1 => wpAny (model X.prog X.w) X.A (noteFrame e X.env) (fun _ s2 =>
    wpAny (model X.prog X.w) X.A (setFlight e none) (fun _ s3 => wpAny (model X.prog X.w) X.A (handleBy e X.env (h0 :: hds)) (SP X pins D) X.xe s3) X.xe s2) X.xe s1)
  refine wpAny_mono ((inner (fun u s' xx => ?_) PassesOwn.looking).run [] s σ H D (I.toTry _) h) (fun f s1 hsp => ?_) (fun _ _ z => z)
  · obtain ⟨a, B, sI, pins', σ', H', cls, d, rfl, J', nb, up, sky, na, os, ag, w⟩ := xx
    have J : Inv X pins σ' H' sI := J'.ofTry ok
    have sky' : Sky B (X.env :: X.outer) a (Zc cls d) X.env.locals s'.heap := by
      rw [← hs]
      exact sky
    show wpAny (model X.prog X.w) X.A (noteFrame (.ref a) X.env) _ _ _
    refine Sky.land Zc.steady frames hf sky' fun h3 fl3 up3 => ?_
    have J3 : Inv X pins σ' H' { s' with heap := h3 } := J.landed nb fl3.1 (up.trans up3) os ag
    obtain ⟨oe3, vs3, he3, hz3, hd3⟩ := fl3.there
    have out : a ∉ frs (X.env :: X.outer) := fun hm => by
      obtain ⟨_, o', e', hnf⟩ := fl3.2.2.1.mem hm
      rw [he3] at e'
      cases e'
      exact hnf _ hd3
    have nL : a ≠ X.env.locals := fun z => out (List.mem_filterMap.mpr ⟨X.env, List.mem_cons_self, by rw [hf, z]⟩)
    have nF : a ∉ X.fs := fun hm => by
      obtain ⟨e, he, q⟩ := List.mem_filterMap.mp hm
      exact out (List.mem_filterMap.mpr ⟨e, List.mem_cons_of_mem _ he, q⟩)
    have S3 := J3.suite he3 hd3 na nL nF
    have LT : PySem.W.Looks (model X.prog X.w) h3 (typeOf (.ref a)) cls := fun A Q E s k q => wpAny_typeOf_ref (k _ _ he3) (by rw [hz3.1]; exact q)
    have asked : ∀ {x : Str} {c : Value} {np : Pos} {Q E : Value → Shared → Prop}, Names X x c → Q c { s' with heap := h3 } → wpAny (model X.prog X.w) (X.A.mark (some (.ref a))) (eval (.Name x np) X.env) Q E { s' with heap := h3 } := fun {x c np Q E} hc q => by
      obtain ⟨hg, hdbg, hm | ⟨hm, hv, hnn⟩⟩ := hc
      · exact ld_glob (X := X.suite a ((a, oe3) :: (X.pn ++ pins))) S3 hg hm q hdbg
      · exact ld_blt (X := X.suite a ((a, oe3) :: (X.pn ++ pins))) S3 hg hm hv q hnn hdbg
    have go : ∀ {hds' : List ExceptHandler} {l' : List (Value × (Addr → Value → Option Addr → TS))}, Mix X hds' l' → wMany X.K Wout D l' cls d σ' H' →
        wpAny (model X.prog X.w) X.A (handleBy (.ref a) X.env hds') (SP X pins D) X.xe { s' with heap := h3 } := by
      intro hds' l' hk
      induction hk with
      | nil =>
        intro w
        refine wpAny_handleBy_nil ?_
        obtain ⟨k1, k2, k3, oe, vs, T, oT, ts', he, hz, hd, h1, hr⟩ := id fl3
        unfold PySem.passOn
        refine wpAny_bind (wpAny_field he hd h1 ?_)
        rw [if_neg (show ¬ ((Value.ref T == Value.none) = true) from by simp)]
        have fin : wpAny (model X.prog X.w) X.A (setFlight (.ref a) X.env.frame) (fun _ s4 => wpAny (model X.prog X.w) X.A (throw (.ref a) : Sem Flow) (SP X pins D) X.xe s4) X.xe { s' with heap := h3 } := by
          rw [hf]
          refine HandSPX.setFlight_upZ fl3 fun h4 hh4 up4 => wpAny_throw (tk _ _ ?_)
          exact ⟨a, B, sI, pins, σ', H', cls, d, rfl, J, nb, (up.trans up3).trans up4, .inr (.inr (by rw [hs]; exact hh4)), na, os, ag, w⟩
        first
          | exact wpAny_bind (wpAny_pure (wpAny_bind fin))
          | exact wpAny_bind fin
      | @bare x c ts b suite np q hds2 l2 hc hsu r ih =>
        intro w
        obtain ⟨b, hb1, hyes, hno⟩ := w
        refine wpAny_handleBy_cons (codeAny_handlers_test ?_) (by intro q; cases q)
        have LM := PySem.W.exm_one (M := model X.prog X.w) (J3.kIn) LT hb1
        refine asked hc (LM.here ?_)
        cases b with
        | true =>
          refine codeAny_handlers_suite ?_
          refine HandSPX.lands_againZ fl3 fun h4 fl4 up4 => ?_
          have J4 : Inv X pins σ' H' { s' with heap := h4 } := J.landed nb fl4.1 ((up.trans up3).trans up4) os ag
          obtain ⟨oe4, vs4, he4, hz4, hd4⟩ := fl4.there
          have S4 := J4.suite he4 hd4 na nL nF
          refine wpAny_mono ((hsu a oe4 cls d (X.pn ++ pins) hz4 ⟨_, hd4⟩).run [] _ _ H' _ S4 (hyes rfl a na)) (fun f s6 hsp => ?_) (fun _ _ z => False.elim z)
          cases f with
          | ret u =>
            obtain ⟨v6, σ6, H6, S6, r6, q6⟩ := hsp
            exact ⟨_, _, _, S6.unsuite ok, r6, q6⟩
          | _ =>
            obtain ⟨σ6, H6, S6, q6⟩ := hsp
            exact ⟨_, _, S6.unsuite ok, q6⟩
        | false => exact ih (hno rfl)
      | @named x n i c ts b suite np q hds2 l2 hc hN hi hln hsu r ih =>
        intro w
        obtain ⟨b, hb1, hyes, hno⟩ := w
        refine wpAny_handleBy_cons (codeAny_handlers_test ?_) (by intro q; cases q)
        have LM := PySem.W.exm_one (M := model X.prog X.w) (J3.kIn) LT hb1
        refine asked hc (LM.here ?_)
        cases b with
        | true =>
          refine codeAny_handlers_suite_as ?_
          refine HandSPX.lands_againZ fl3 fun h4 fl4 up4 => ?_
          have J4 : Inv X pins σ' H' { s' with heap := h4 } := J.landed nb fl4.1 ((up.trans up3).trans up4) os ag
          obtain ⟨oe4, vs4, he4, hz4, hd4⟩ := fl4.there
          have S4 := J4.suite he4 hd4 na nL nF
          refine store_ok (X := X.suite a ((a, oe4) :: (X.pn ++ pins))) (v := .ref a) S4 hN hi (.inl hln) rfl (fun s5 S5 => ?_) (.inr hln)
          refine wpAny_mono ((hsu a oe4 cls d (X.pn ++ pins) hz4 ⟨_, hd4⟩).run [] s5 _ H' _ S5 (hyes rfl a na)) (fun f s6 hsp => ?_) (fun _ _ z => False.elim z)
          have fin : ∀ {σ6 : L2.St} {H6 : Hp} {Q : Shared → Prop}, Inv (X.suite a ((a, oe4) :: (X.pn ++ pins))) [] σ6 H6 s6 → (∀ s7, Inv X pins (σ6.set i none) H6 s7 → Q s7) →
              wpAny (model X.prog X.w) X.A (do bindName X.env n .none; unbindBehindTheSuite X.env n q) (fun _ s7 => Q s7) X.xe s6 := fun S6 hq => gone_ok (S6.unsuite ok) hN hi hln hq
          cases f with
          | ret u =>
            obtain ⟨v6, σ6, H6, S6, r6, q6⟩ := hsp
            exact fin S6 fun s7 J7 => ⟨_, _, _, J7, r6, q6⟩
          | next =>
            obtain ⟨σ6, H6, S6, q6⟩ := hsp
            exact fin S6 fun s7 J7 => ⟨_, _, J7, q6⟩
          | brk =>
            obtain ⟨σ6, H6, S6, q6⟩ := hsp
            exact fin S6 fun s7 J7 => ⟨_, _, J7, q6⟩
          | cont =>
            obtain ⟨σ6, H6, S6, q6⟩ := hsp
            exact fin S6 fun s7 J7 => ⟨_, _, J7, q6⟩
        | false => exact ih (hno rfl)
    exact go hh w
  · cases f with
    | ret u =>
      obtain ⟨v, σ', H', J', r, q⟩ := hsp
      exact ⟨v, σ', H', J'.ofTry ok, r, q⟩
    | next =>
      obtain ⟨σ', H', J', q⟩ := hsp
      exact wpAny_execs_nil ⟨σ', H', J'.ofTry ok, q⟩
    | brk =>
      obtain ⟨σ', H', J', q⟩ := hsp
      exact ⟨σ', H', J'.ofTry ok, q⟩
    | cont =>
      obtain ⟨σ', H', J', q⟩ := hsp
      exact ⟨σ', H', J'.ofTry ok, q⟩
end
end KX

set_option Elab.async false
set_option linter.all false
set_option maxRecDepth 100000
set_option maxHeartbeats 8000000
/-! the classes: sources, made targets -/
namespace PJ
open PySem PySem.Spec PyProof.Rows L2 KS KS.La
open KX hiding sameUpd
abbrev sSInit : Stmt := inClass (top 13) 0
abbrev sSEq : Stmt := inClass (top 13) 1
abbrev sSOut : Stmt := inClass (top 13) 2
abbrev sMInit : Stmt := inClass (top 14) 0
abbrev sMEq : Stmt := inClass (top 14) 1
abbrev sMRec : Stmt := inClass (top 14) 2
abbrev sMArg : Stmt := inClass (top 14) 3
abbrev sPInit : Stmt := inClass (top 15) 0
abbrev sPGet : Stmt := inClass (top 15) 1
abbrev sPHas : Stmt := inClass (top 15) 3
abbrev sPLen : Stmt := inClass (top 15) 4
abbrev sPEq : Stmt := inClass (top 15) 5
abbrev sPNames : Stmt := inClass (top 15) 6
abbrev sPPut : Stmt := inClass (top 15) 7
abbrev sPWithout : Stmt := inClass (top 15) 8
abbrev sPWrite : Stmt := inClass (top 15) 9
abbrev sPErase : Stmt := inClass (top 15) 10
abbrev sPOuts : Stmt := inClass (top 15) 11
abbrev FnM (K : PySem.W.Frag) (x q : Str) (st : Stmt) (f : Addr) (fd : FuncData) : Prop := FunD K x q (defArgs st) (defBody st) (defScope st) [] [] f fd
/-- a class's instances in isinstance -/
structure IsC (K : PySem.W.Frag) (C : Addr) : Prop where
  cl : Cls K C
  ha : PySem.W.findIn K (.ref C) "__class__" = some (some (.builtin "object.__class__"))
  hn : PySem.W.specialIn K (.builtin "object.__class__") "__get__" = some (some (.builtin "getset_descriptor.__get__"))
  ht : PySem.W.takesIn K (.builtin "object.__class__") = some true
  hm : PySem.W.mroIn K C (.type "object") = some true
theorem IsC.ty {K : PySem.W.Frag} {C : Addr} (c : IsC K C) {H : Hp} {a dx : Addr} {fs : List (Str × V)} (h : H a = some (.ins C dx fs)) : TyX K H (.ref a) (.ref C) := .base (.ins h c.cl c.ha c.hn c.ht c.hm)
theorem call_dictD {X : Cx} : CallR X (.type "dict") (fun xs H Q => ∃ a kvs, xs = [V.ref a] ∧ H a = some (.dK kvs) ∧ ∀ p, H p = none → Q (.ref p) (upd H p (.dK kvs))) := by
  intro pins s σ H xs us Q I r h
  obtain ⟨a, kvs, rfl, ha, q⟩ := h
  obtain ⟨u, rfl, ru⟩ := vals1 r
  cases ru
  exact d_copyOf I (.inl ha) fun p s' n I' => ⟨.ref p, _, I', rfl, q p n⟩
theorem noneSame {H H' : Hp} {p : Addr} (s : Same H H') (h : H' p = none) : H p = none := by
  cases e : H p with
  | none => rfl
  | some o => rw [s _ _ e] at h; cases h
/-- self.f = dict(x) -/
def spDInit (C : Addr) (fld : Str) : Sp := fun vs H Q _ => ∃ s ds M kvs, vs = [.ref s, .ref M] ∧ H s = some (.ins C ds []) ∧ H M = some (.dK kvs) ∧ ∀ H' D, Kp s H H' → H D = none → H' s = some (.ins C ds [(fld, .ref D)]) → H' D = some (.dK kvs) → Q .non H'
theorem dMade {C : Addr} {fld : Str} {H : Hp} {x dx M : Addr} {kvs : List (Key × V)} {R : Hp → Prop} {E : XK} (hx : H x = none) (hdx : H dx = none) (ne : dx ≠ x) (hM : H M = some (.dK kvs)) (q : ∀ H' D, H D = none → Same H H' → H' x = some (.ins C dx [(fld, .ref D)]) → H' D = some (.dK kvs) → R H') :
    spDInit C fld [.ref x, .ref M] (upd (upd H dx (.own x)) x (.ins C dx [])) (fun v H2 => v = .non ∧ R H2) E := by
  have s1 : Same H (upd (upd H dx (.own x)) x (.ins C dx [])) := fun b o hb => by
    rw [upd_ne (ne_of_none hb hx), upd_ne (ne_of_none hb hdx)]
    exact hb
  exact ⟨x, dx, M, kvs, rfl, upd_same, s1 _ _ hM, fun H' D k nD h1 h2 => ⟨rfl, q H' D (noneSame s1 nD) (fun b o hb => k _ _ (ne_of_none hb hx) (s1 _ _ hb)) h1 h2⟩⟩
section
variable {P : Program} {w : World} {K : PySem.W.Frag} {mg : Str → Option Value} {base : Heap} {f : Addr} {fd : FuncData} {CS CM CP : Addr}
theorem scSInit : FnScope ["self", "outputs"] ["self", "outputs"] (defScope sSInit) := ⟨rfl, rfl, rfl, by decide +kernel, rfl, by decide +kernel, by decide +kernel⟩
theorem okSInit {k : Nat} (cW : Cls K CS) (n1 : NoAttr K CS "_outputs") (md : mg "dict" = none) (F : FnM K "__init__" "Source.__init__" sSInit f fd) : FnOk P w K mg base CX0 (k + 1) f fd ["self", "outputs"] (spDInit CS "_outputs") := by
  refine F.ok scSInit (fun vs H Q E h => ?_) (fun cdv A outer s H vs Q E hr h => ?_)
  · obtain ⟨a, ds, M, mvs, rfl, _⟩ := h
    rfl
  · obtain ⟨a, ds, M, mvs, rfl, ha, hM, q⟩ := h
    refine ⟨_, PSs.nox (pss_one (ps_fld (pv 0) (pe_callTy call_dictD (by rfl) md (by decide +kernel) (pa_cons (pv 1) pa_nil)) rfl)), ?_⟩
    refine ⟨.ref M, rfl, M, mvs, rfl, hM, fun D hD => ⟨.ref a, rfl, a, CS, ds, _, rfl, KS.sameUpd hD _ _ ha, cW, n1, by decide, ?_⟩⟩
    refine q _ D ((Kp.same (KS.sameUpd hD)).trans Kp.put) hD upd_same ?_
    rw [upd_ne fun z => by rw [z, ha] at hD; cases hD]
    exact upd_same
theorem scPInit : FnScope ["self", "targets"] ["self", "targets"] (defScope sPInit) := ⟨rfl, rfl, rfl, by decide +kernel, rfl, by decide +kernel, by decide +kernel⟩
theorem okPInit {k : Nat} (cW : Cls K CP) (n1 : NoAttr K CP "_targets") (md : mg "dict" = none) (F : FnM K "__init__" "Project.__init__" sPInit f fd) : FnOk P w K mg base CX0 (k + 1) f fd ["self", "targets"] (spDInit CP "_targets") := by
  refine F.ok scPInit (fun vs H Q E h => ?_) (fun cdv A outer s H vs Q E hr h => ?_)
  · obtain ⟨a, ds, M, mvs, rfl, _⟩ := h
    rfl
  · obtain ⟨a, ds, M, mvs, rfl, ha, hM, q⟩ := h
    refine ⟨_, PSs.nox (pss_one (ps_fld (pv 0) (pe_callTy call_dictD (by rfl) md (by decide +kernel) (pa_cons (pv 1) pa_nil)) rfl)), ?_⟩
    refine ⟨.ref M, rfl, M, mvs, rfl, hM, fun D hD => ⟨.ref a, rfl, a, CP, ds, _, rfl, KS.sameUpd hD _ _ ha, cW, n1, by decide, ?_⟩⟩
    refine q _ D ((Kp.same (KS.sameUpd hD)).trans Kp.put) hD upd_same ?_
    rw [upd_ne fun z => by rw [z, ha] at hD; cases hD]
    exact upd_same
def fsM (vr va : V) : List (Str × V) := [("_recipe", vr), ("_arguments", va)]
def spMInit (K : PySem.W.Frag) (CM : Addr) : Sp := fun vs H Q _ => ∃ s ds vr t xs, vs = [.ref s, vr, .ref t] ∧ H s = some (.ins CM ds []) ∧
  ((SqT K H t xs ∧ ∀ H', Kp s H H' → H' s = some (.ins CM ds (fsM vr (.ref t))) → Q .non H') ∨ (H t = some (.lst xs) ∧ ∀ H' u, Kp s H H' → H u = none → H' u = some (.tup xs) → H' s = some (.ins CM ds (fsM vr (.ref u))) → Q .non H'))
theorem scMInit : FnScope ["self", "recipe", "arguments"] ["self", "recipe", "arguments"] (defScope sMInit) := ⟨rfl, rfl, rfl, by decide +kernel, rfl, by decide +kernel, by decide +kernel⟩
theorem okMInit {k : Nat} {dvs : List V} (cW : Cls K CM) (n1 : NoAttr K CM "_recipe") (n2 : NoAttr K CM "_arguments") (mt : mg "tuple" = none) (F : FunD K "__init__" "Made.__init__" (defArgs sMInit) (defBody sMInit) (defScope sMInit) dvs [] f fd) : FnOk P w K mg base CX0 (k + 1) f fd ["self", "recipe", "arguments"] (spMInit K CM) := by
  refine F.ok scMInit (fun vs H Q E h => ?_) (fun cdv A outer s H vs Q E hr h => ?_)
  · obtain ⟨a, ds, vr, t, xs, rfl, _⟩ := h
    rfl
  · obtain ⟨a, ds, vr, t, xs, rfl, ha, h⟩ := h
    refine ⟨_, PSs.nox (pss_cons (ps_fld (pv 0) (pv 1) rfl) (pss_one (ps_fld (pv 0) (pe_callTy (T := "tuple") call_tuple_of (by rfl) mt (by decide +kernel) (pa_cons (pv 2) pa_nil)) rfl))), ?_⟩
    refine ⟨vr, rfl, .ref a, rfl, a, CM, ds, _, rfl, ha, cW, n1, by decide, ?_⟩
    have h1 : upd H a (.ins CM ds (putF "_recipe" vr [])) a = some (.ins CM ds [("_recipe", vr)]) := upd_same
    have k1 : Kp a H (upd H a (.ins CM ds (putF "_recipe" vr []))) := Kp.put
    generalize upd H a (.ins CM ds (putF "_recipe" vr [])) = H1 at *
    rcases h with ⟨ht, q⟩ | ⟨ht, q⟩
    · have ht1 : SqT K H1 t xs := by
        have nt : ∀ {o}, H t = some o → (∀ D d f, o ≠ .ins D d f) → H1 t = some o := fun e z => k1 _ _ (fun w => by rw [w, ha] at e; exact z _ _ _ (Option.some.inj e).symm) e
        rcases ht with (h | ⟨o, h⟩) | h
        · exact .inl (.inl (nt h fun _ _ _ z => nomatch z))
        · exact .inl (.inr ⟨o, nt h fun _ _ _ z => nomatch z⟩)
        · exact .inr h
      refine ⟨.ref t, rfl, t, xs, rfl, .inr ⟨ht1, .ref a, rfl, a, CM, ds, _, rfl, h1, cW, n2, by show 1 < 1000; decide, ?_⟩⟩
      exact q _ (k1.trans Kp.put) upd_same
    · have ht1 : H1 t = some (.lst xs) := k1 _ _ (fun w => by rw [w, ha] at ht; cases ht) ht
      refine ⟨.ref t, rfl, t, xs, rfl, .inl ⟨.inl (.inl ht1), fun u hu => ⟨.ref a, rfl, a, CM, ds, _, rfl, KS.sameUpd hu _ _ h1, cW, n2, by show 1 < 1000; decide, ?_⟩⟩⟩
      have nua : u ≠ a := fun z => by rw [z, h1] at hu; cases hu
      refine q _ u ((k1.trans (Kp.same (KS.sameUpd hu))).trans Kp.put) ?_ (by rw [upd_ne nua]; exact upd_same) upd_same
      cases e : H u with
      | none => rfl
      | some o => rw [k1 _ _ nua e] at hu; cases hu
def spSOut (CS : Addr) : Sp := fun vs H Q _ => ∃ s ds d kvs, vs = [.ref s] ∧ H s = some (.ins CS ds [("_outputs", .ref d)]) ∧ H d = some (.dK kvs) ∧ ∀ p, H p = none → Q (.ref p) (upd H p (.dK kvs))
theorem scSOut : FnScope ["self"] ["self"] (defScope sSOut) := ⟨rfl, rfl, rfl, by decide +kernel, rfl, by decide +kernel, by decide +kernel⟩
theorem okSOut {k : Nat} (cW : Cls K CS) (n1 : NoAttr K CS "_outputs") (md : mg "dict" = none) (F : FnM K "outputs" "Source.outputs" sSOut f fd) : FnOk P w K mg base CX0 (k + 1) f fd ["self"] (spSOut CS) := by
  refine F.ok scSOut (fun vs H Q E h => ?_) (fun cdv A outer s H vs Q E hr h => ?_)
  · obtain ⟨a, ds, d, kvs, rfl, _⟩ := h
    rfl
  · obtain ⟨a, ds, d, kvs, rfl, ha, hd, q⟩ := h
    exact ⟨_, PSs.nox (pss_one (ps_ret (pe_callTy call_dictD (by rfl) md (by decide +kernel) (pa_cons (pe_fld (pv 0) rfl) pa_nil)))), .ref a, rfl, a, CS, ds, _, .ref d, rfl, ha, cW, n1, rfl, d, kvs, rfl, hd, q⟩
theorem scMRec : FnScope ["self"] ["self"] (defScope sMRec) := ⟨rfl, rfl, rfl, by decide +kernel, rfl, by decide +kernel, by decide +kernel⟩
theorem okMRec {k : Nat} (cl : Cls K CM) (nf : NoAttr K CM "_recipe") (F : FnM K "recipe" "Made.recipe" sMRec f fd) : FnOk P w K mg base CX0 (k + 1) f fd ["self"] (getSp CM "_recipe") := by
  refine F.ok scMRec (fun vs H Q E h => ?_) (fun cdv A outer s H vs Q E hr h => ?_)
  · obtain ⟨a, dx, fs, v, rfl, _⟩ := h
    rfl
  · obtain ⟨a, dx, fs, v, rfl, ha, hl, q⟩ := h
    exact ⟨_, PSs.nox (pss_one (ps_ret (pe_fld (pv 0) rfl))), .ref a, rfl, a, CM, dx, fs, v, rfl, ha, cl, nf, hl, q⟩
theorem scMArg : FnScope ["self"] ["self"] (defScope sMArg) := ⟨rfl, rfl, rfl, by decide +kernel, rfl, by decide +kernel, by decide +kernel⟩
theorem okMArg {k : Nat} (cl : Cls K CM) (nf : NoAttr K CM "_arguments") (F : FnM K "arguments" "Made.arguments" sMArg f fd) : FnOk P w K mg base CX0 (k + 1) f fd ["self"] (getSp CM "_arguments") := by
  refine F.ok scMArg (fun vs H Q E h => ?_) (fun cdv A outer s H vs Q E hr h => ?_)
  · obtain ⟨a, dx, fs, v, rfl, _⟩ := h
    rfl
  · obtain ⟨a, dx, fs, v, rfl, ha, hl, q⟩ := h
    exact ⟨_, PSs.nox (pss_one (ps_ret (pe_fld (pv 0) rfl))), .ref a, rfl, a, CM, dx, fs, v, rfl, ha, cl, nf, hl, q⟩
/-! ### == -/
theorem osEb {K : PySem.W.Frag} {H : Hp} {os os' : Outs} (nd : (os.map (·.1)).Nodup) : ∀ k v u, (k, v) ∈ oK os → valV (oK os') k = some u → DB.Eb K H 0 v u (eF (oK os) (oK os') k) := fun k v u hm hv => by
  obtain ⟨z, ez⟩ := oK_str _ hm
  have hv1 : valV (oK os) k = some v := valMem (oK_nd nd) hm
  have ev : v = .str z := ez
  subst ev
  obtain ⟨q, hq, hq2⟩ : ∃ q, q ∈ oK os' ∧ q.2 = u := by
    unfold valV at hv
    cases hf : (oK os').find? fun kv => decide (kv.1 = k) with
    | none => rw [hf] at hv; cases hv
    | some q =>
      rw [hf] at hv
      exact ⟨q, List.mem_of_find?_eq_some hf, Option.some.inj hv⟩
  obtain ⟨z', ez'⟩ := oK_str _ hq
  rw [hq2] at ez'
  subst ez'
  refine .inl ⟨rfl, rfl, ?_⟩
  unfold eF
  rw [hv1, hv]
def spSEq (CS CM : Addr) : Sp := fun vs H Q _ => ∃ x dx d os y, vs = [.ref x, .ref y] ∧ H x = some (.ins CS dx [("_outputs", .ref d)]) ∧ OsIn H d os ∧
  ((∃ dy d' os', H y = some (.ins CS dy [("_outputs", .ref d')]) ∧ OsIn H d' os' ∧ Q (.bl (osE os os')) H) ∨ (∃ dy fs, H y = some (.ins CM dy fs) ∧ Q (.bl false) H))
theorem scSEq : FnScope ["self", "other"] ["self", "other"] (defScope sSEq) := ⟨rfl, rfl, rfl, by decide +kernel, rfl, by decide +kernel, by decide +kernel⟩
theorem okSEq {k : Nat} (mi : mg "isinstance" = none) (gC : mg "Source" = some (.ref CS)) (iS : IsC K CS) (iM : IsC K CM) (nf : NoAttr K CS "_outputs") (k1 : PySem.W.kitOne K (.ref CS) (.ref CS) = some true) (k2 : PySem.W.kitOne K (.ref CM) (.ref CS) = some false)
    (F : FnM K "__eq__" "Source.__eq__" sSEq f fd) : FnOk P w K mg base CX0 (k + 1) f fd ["self", "other"] (spSEq CS CM) := by
  refine F.ok scSEq (fun vs H Q E h => ?_) (fun cdv A outer s H vs Q E hr h => ?_)
  · obtain ⟨a, dx, d, os, y, rfl, _⟩ := h
    rfl
  · obtain ⟨a, dx, d, os, y, rfl, ha, ho, h⟩ := h
    refine ⟨_, PSs.nox (pss_one (ps_ret (pe_and (pe_callB call_isi (by rfl) mi (by decide +kernel) (pa_cons (pv 1) (pa_cons (pe_glob (v := .ref CS) (by rfl) gC rfl) pa_nil))) (pe_one (pe_cmpR (r := DB.rEqDB K) (DB.op_eqDB (DB.un100 hr)) (pe_fld (pv 0) rfl) (pe_fld (pv 1) rfl) (nomark _)))))), ?_⟩
    rcases h with ⟨dy, d', os', hb, ho', q⟩ | ⟨dy, fs, hb, q⟩
    · refine ⟨.ref y, rfl, .ref y, .ref CS, .ref CS, .ref CS, true, rfl, .own CS, iS.ty hb, k1, true, rfl, iteT ?_⟩
      exact ⟨.ref a, rfl, a, CS, dx, _, .ref d, rfl, ha, iS.cl, nf, rfl, .ref y, rfl, y, CS, dy, _, .ref d', rfl, hb, iS.cl, nf, rfl, 0, d, d', oK os, oK os', eF (oK os) (oK os'), by decide, rfl, rfl, ho.1, ho'.1, osEb ho.2.1, q⟩
    · exact ⟨.ref y, rfl, .ref y, .ref CS, .ref CM, .ref CS, false, rfl, .own CS, iM.ty hb, k2, false, rfl, iteF q⟩
def spMEq (K : PySem.W.Frag) (CS CM : Addr) : Sp := fun vs H Q _ => ∃ x dx vr va d1 d2 y, vs = [.ref x, .ref y] ∧ H x = some (.ins CM dx (fsM vr va)) ∧ Dp K H vr d1 ∧ Dp K H va d2 ∧ SeqAt.shaped d1 = true ∧ SeqAt.shaped d2 = true ∧
  ((∃ dy vr' va' d1' d2', H y = some (.ins CM dy (fsM vr' va')) ∧ Dp K H vr' d1' ∧ Dp K H va' d2' ∧ SeqAt.shaped d1' = true ∧ SeqAt.shaped d2' = true ∧ Q (.bl (PyData.eqv d1 d1' && PyData.eqv d2 d2')) H) ∨ (∃ dy fs, H y = some (.ins CS dy fs) ∧ Q (.bl false) H))
theorem scMEq : FnScope ["self", "other"] ["self", "other"] (defScope sMEq) := ⟨rfl, rfl, rfl, by decide +kernel, rfl, by decide +kernel, by decide +kernel⟩
theorem okMEq {k : Nat} (mi : mg "isinstance" = none) (gC : mg "Made" = some (.ref CM)) (iS : IsC K CS) (iM : IsC K CM) (n1 : NoAttr K CM "_recipe") (n2 : NoAttr K CM "_arguments") (k1 : PySem.W.kitOne K (.ref CM) (.ref CM) = some true) (k2 : PySem.W.kitOne K (.ref CS) (.ref CM) = some false)
    (F : FnM K "__eq__" "Made.__eq__" sMEq f fd) : FnOk P w K mg base CX0 (k + 1) f fd ["self", "other"] (spMEq K CS CM) := by
  refine F.ok scMEq (fun vs H Q E h => ?_) (fun cdv A outer s H vs Q E hr h => ?_)
  · obtain ⟨a, dx, vr, va, d1, d2, y, rfl, _⟩ := h
    rfl
  · obtain ⟨a, dx, vr, va, d1, d2, y, rfl, ha, h1, h2, s1, s2, h⟩ := h
    refine ⟨_, PSs.nox (pss_one (ps_ret (pe_and (pe_callB call_isi (by rfl) mi (by decide +kernel) (pa_cons (pv 1) (pa_cons (pe_glob (v := .ref CM) (by rfl) gC rfl) pa_nil))) (pe_and (pe_cmpR (r := rEqD K) (op_eqD hr.units) (pe_fld (pv 0) rfl) (pe_fld (pv 1) rfl) (nomark _)) (pe_one (pe_cmpR (r := rEqD K) (op_eqD hr.units) (pe_fld (pv 0) rfl) (pe_fld (pv 1) rfl) (nomark _))))))), ?_⟩
    rcases h with ⟨dy, vr', va', d1', d2', hb, h1', h2', s1', s2', q⟩ | ⟨dy, fs, hb, q⟩
    · refine ⟨.ref y, rfl, .ref y, .ref CM, .ref CM, .ref CM, true, rfl, .own CM, iM.ty hb, k1, true, rfl, iteT ?_⟩
      refine ⟨.ref a, rfl, a, CM, dx, _, vr, rfl, ha, iM.cl, n1, rfl, .ref y, rfl, y, CM, dy, _, vr', rfl, hb, iM.cl, n1, rfl, d1, d1', h1, h1', s1, s1', _, rfl, ?_⟩
      cases e : PyData.eqv d1 d1' with
      | true =>
        rw [e, Bool.true_and] at q
        exact iteT ⟨.ref a, rfl, a, CM, dx, _, va, rfl, ha, iM.cl, n2, rfl, .ref y, rfl, y, CM, dy, _, va', rfl, hb, iM.cl, n2, rfl, d2, d2', h2, h2', s2, s2', q⟩
      | false =>
        rw [e, Bool.false_and] at q
        exact iteF q
    · exact ⟨.ref y, rfl, .ref y, .ref CM, .ref CS, .ref CM, false, rfl, .own CM, iS.ty hb, k2, false, rfl, iteF q⟩
end
end PJ

set_option Elab.async false
set_option linter.all false
set_option maxRecDepth 100000
set_option maxHeartbeats 8000000
/-! the classes: projects -/
namespace PJ
open PySem PySem.Spec PyProof.Rows L2 KS KS.La
open KX hiding sameUpd
def PrAt (CP : Addr) (H : Hp) (p : Addr) (kvs : List (Key × V)) : Prop := ∃ dp D, H p = some (.ins CP dp [("_targets", .ref D)]) ∧ H D = some (.dK kvs)
theorem PrAt.stl {CP : Addr} {H H' : Hp} {p : Addr} {kvs : List (Key × V)} (h : PrAt CP H p kvs) (s : Stl H H') : PrAt CP H' p kvs := let ⟨dp, D, a, b⟩ := h; ⟨dp, D, s _ _ a (fun _ z => nomatch z), s _ _ b (fun _ z => nomatch z)⟩
def PjAt (CS CM CP : Addr) (H : Hp) (p : Addr) (T : Tb) : Prop := ∃ kvs, PrAt CP H p kvs ∧ Tab (TgAt CS CM H) kvs T
theorem PjAt.stl {CS CM CP : Addr} {H H' : Hp} {p : Addr} {T : Tb} (h : PjAt CS CM CP H p T) (s : Stl H H') : PjAt CS CM CP H' p T := let ⟨kvs, a, b⟩ := h; ⟨kvs, a.stl s, b.tg s⟩
section
variable {P : Program} {w : World} {K : PySem.W.Frag} {mg : Str → Option Value} {base : Heap} {f : Addr} {fd : FuncData} {CS CM CP NT NS : Addr}
/-- what projects rest on -/
structure Pjc (P : Program) (w : World) (K : PySem.W.Frag) (mg : Str → Option Value) (base : Heap) (CS CM CP NT NS : Addr) : Prop where
  iS : IsC K CS
  iM : IsC K CM
  iP : IsC K CP
  nS : NoAttr K CS "_outputs"
  nP : NoAttr K CP "_targets"
  gS : mg "Source" = some (.ref CS)
  gM : mg "Made" = some (.ref CM)
  gP : mg "Project" = some (.ref CP)
  mi : mg "isinstance" = none
  md : mg "dict" = none
  ml : mg "len" = none
  ms : mg "sorted" = none
  mt : mg "tuple" = none
  kSS : PySem.W.kitOne K (.ref CS) (.ref CS) = some true
  kMS : PySem.W.kitOne K (.ref CM) (.ref CS) = some false
  kPP : PySem.W.kitOne K (.ref CP) (.ref CP) = some true
  kDP : PySem.W.kitOne K (.type "dict") (.ref CP) = some false
  sMS : PySem.W.subIn K (.ref CM) (.ref CS) = some false
  sSM : PySem.W.subIn K (.ref CS) (.ref CM) = some false
  mkS : ∃ (f : Addr) (fd : FuncData), Mk K CS f ∧ Binds K fd ["self", "outputs"] [] ∧ FnOk P w K mg base CX0 1 f fd ["self", "outputs"] (spDInit CS "_outputs")
  mkP : ∃ (f : Addr) (fd : FuncData), Mk K CP f ∧ Binds K fd ["self", "targets"] [] ∧ FnOk P w K mg base CX0 1 f fd ["self", "targets"] (spDInit CP "_targets")
  eqS : ∃ (f : Addr) (fd : FuncData), PySem.W.findIn K (.ref CS) "__eq__" = some (some (.ref f)) ∧ PySem.W.isFn K (.ref f) = true ∧ Binds K fd ["self", "other"] [] ∧ FnOk P w K mg base CX0 1 f fd ["self", "other"] (spSEq CS CM)
  eqM : ∃ (f : Addr) (fd : FuncData), PySem.W.findIn K (.ref CM) "__eq__" = some (some (.ref f)) ∧ PySem.W.isFn K (.ref f) = true ∧ Binds K fd ["self", "other"] [] ∧ FnOk P w K mg base CX0 1 f fd ["self", "other"] (spMEq K CS CM)
  outS : ∃ (p g : Addr) (fd : FuncData), PropOf K CS "outputs" p g ∧ Binds K fd ["self"] [] ∧ FnOk P w K mg base CX0 1 g fd ["self"] (spSOut CS)
  xT : Cl1 P w K mg base "NoTarget" NT "name"
  xN : Cl1 P w K mg base "NotSource" NS "name"
theorem eqSame {r r' : Rc} {H : Hp} {v : V} (h : RcIn H v r) (h' : RcIn H v r') : rcD r = rcD r' := by
  cases r with
  | txt z =>
    cases r' with
    | txt z' => rw [show z = z' from V.str.inj (h.1.symm.trans h'.1)]
    | key a b =>
      obtain ⟨⟨t, e, _⟩, _⟩ := h'
      rw [h.1] at e
      cases e
  | key a b =>
    obtain ⟨⟨t, e, ht⟩, _⟩ := h
    cases r' with
    | txt z' =>
      rw [h'.1] at e
      cases e
    | key a' b' =>
      obtain ⟨⟨t', e', ht'⟩, _⟩ := h'
      rw [e] at e'
      cases e'
      rw [ht] at ht'
      have := Option.some.inj ht'
      injection this with this
      injection this with e1 e2
      injection e2 with e2 _
      rw [V.str.inj e1, V.str.inj e2]
theorem asSame {as as' : List Str} {H : Hp} {v : V} (h : AsIn H v as) (h' : AsIn H v as') : as = as' := by
  obtain ⟨t, rfl, ht, _⟩ := h
  obtain ⟨t', e, ht', _⟩ := h'
  cases e
  rw [ht] at ht'
  have := Option.some.inj ht'
  injection this with this
  exact List.map_inj_right (fun a b e => V.str.inj e) |>.mp this
/-- two targets compare as they are told -/
def DT (K : PySem.W.Frag) (CS CM : Addr) : EB.Eqb := fun x y c H => EB.EOwn K CS (spSEq CS CM) E0 x y c H ∨ EB.EOwn K CM (spMEq K CS CM) E0 x y c H
theorem tgD (W : Pjc P w K mg base CS CM CP NT NS) {H : Hp} {v u : V} {t t' : Tg} (h : TgAt CS CM H v t) (h' : TgAt CS CM H u t') : DT K CS CM v u (tgE t t') H := by
  have stl : ∀ {H'}, L2.Ext H H' → Stl H H' := fun e b o hb _ => e b o hb
  cases t with
  | src os =>
    obtain ⟨x, dx, d, rfl, hx, ho⟩ := h
    cases t' with
    | src os' =>
      obtain ⟨y, dy, d', rfl, hy, ho'⟩ := h'
      refine .inl ⟨x, y, CS, dx, _, dy, _, rfl, rfl, hx, hy, by simp [PySem.W.notFirst], fun e => ?_, fun H' e => ?_⟩
      · subst e
        rw [hx] at hy
        have := Option.some.inj hy
        injection this with _ _ e3
        injection e3 with e4 _
        have ed : d = d' := V.ref.inj (congrArg Prod.snd e4)
        subst ed
        have eo : oK os = oK os' := by
          have := Option.some.inj (ho.1.symm.trans ho'.1)
          injection this
        show osE os os' = true
        have := osE_refl ho.2.1
        unfold osE at this ⊢
        rw [← eo]
        exact this
      · exact ⟨x, dx, d, os, y, rfl, e _ _ hx, ho.stl (stl e), .inl ⟨dy, d', os', e _ _ hy, ho'.stl (stl e), rfl, fun _ _ z => z⟩⟩
    | mad r as =>
      obtain ⟨y, dy, vr, va, rfl, hy, _⟩ := h'
      refine .inl ⟨x, y, CM, dx, _, dy, _, rfl, rfl, hx, hy, by simp [PySem.W.notFirst, W.sMS], fun e => ?_, fun H' e => ?_⟩
      · subst e
        rw [hx] at hy
        have := Option.some.inj hy
        injection this with _ _ e3
        injection e3 with _ e5
        cases e5
      · exact ⟨x, dx, d, os, y, rfl, e _ _ hx, ho.stl (stl e), .inr ⟨dy, _, e _ _ hy, rfl, fun _ _ z => z⟩⟩
  | mad r as =>
    obtain ⟨x, dx, vr, va, rfl, hx, hr, ha⟩ := h
    cases t' with
    | src os' =>
      obtain ⟨y, dy, d', rfl, hy, ho'⟩ := h'
      refine .inr ⟨x, y, CS, dx, _, dy, _, rfl, rfl, hx, hy, by simp [PySem.W.notFirst, W.sSM], fun e => ?_, fun H' e => ?_⟩
      · subst e
        rw [hx] at hy
        have := Option.some.inj hy
        injection this with _ _ e3
        injection e3 with _ e5
        cases e5
      · have hr' := hr.stl (stl e)
        have ha' := ha.stl (stl e)
        exact ⟨x, dx, vr, va, rcD r, argsD as, y, rfl, e _ _ hx, hr'.dp.1, ha'.dp.1, hr'.dp (K := K).2, ha'.dp (K := K).2, .inr ⟨dy, _, e _ _ hy, rfl, fun _ _ z => z⟩⟩
    | mad r' as' =>
      obtain ⟨y, dy, vr', va', rfl, hy, hr', ha'⟩ := h'
      refine .inr ⟨x, y, CM, dx, _, dy, _, rfl, rfl, hx, hy, by simp [PySem.W.notFirst], fun e => ?_, fun H' e => ?_⟩
      · subst e
        rw [hx] at hy
        have := Option.some.inj hy
        injection this with _ _ e3
        injection e3 with e4 e5
        injection e5 with e5 _
        have e6 : vr = vr' := congrArg Prod.snd e4
        have e7 : va = va' := congrArg Prod.snd e5
        subst e6 e7
        show (PyData.eqv (rcD r) (rcD r') && PyData.eqv (argsD as) (argsD as')) = true
        rw [← eqSame hr hr', ← asSame ha ha', SeqAt.eqv_refl _ (SeqAt.canLay_of_shaped (hr.dp (K := K)).2), SeqAt.eqv_refl _ (SeqAt.canLay_of_shaped (ha.dp (K := K)).2)]
        rfl
      · have g1 := hr.stl (stl e)
        have g2 := ha.stl (stl e)
        have g3 := hr'.stl (stl e)
        have g4 := ha'.stl (stl e)
        exact ⟨x, dx, vr, va, rcD r, argsD as, y, rfl, e _ _ hx, g1.dp.1, g2.dp.1, (g1.dp (K := K)).2, (g2.dp (K := K)).2, .inl ⟨dy, vr', va', rcD r', argsD as', e _ _ hy, g3.dp.1, g4.dp.1, (g3.dp (K := K)).2, (g4.dp (K := K)).2, rfl, fun _ _ z => z⟩⟩
/-- a target that is seen while two dicts are locked -/
theorem tgLock {H H' : Hp} {a b : Addr} {ka kb : List (Key × V)} {k1 k2 : Key} {x1 x2 : Addr} (ha : H a = some (.dK ka)) (hb : H b = some (.dK kb)) (m1 : (k1, V.ref x1) ∈ ka) (m2 : (k2, V.ref x2) ∈ kb) (e : ∀ c, c ≠ a → c ≠ b → H' c = H c) {v : V} {t : Tg} (h : TgAt CS CM H v t) : TgAt CS CM H' v t := by
  have ne : ∀ {c o}, H c = some o → (∀ ks, o ≠ .dK ks) → H' c = some o := fun {c o} hc hn => by
    rw [e c (fun z => by rw [z, ha] at hc; exact hn _ (Option.some.inj hc).symm) (fun z => by rw [z, hb] at hc; exact hn _ (Option.some.inj hc).symm)]
    exact hc
  have nd : ∀ {c os}, H c = some (.dK (oK os)) → H' c = some (.dK (oK os)) := fun {c os} hc => by
    rw [e c (fun z => ?_) (fun z => ?_)]
    · exact hc
    · rw [z, ha] at hc
      have : ka = oK os := by
        have := Option.some.inj hc
        injection this
      rw [this] at m1
      obtain ⟨z, ez⟩ := oK_str _ m1
      cases ez
    · rw [z, hb] at hc
      have : kb = oK os := by
        have := Option.some.inj hc
        injection this
      rw [this] at m2
      obtain ⟨z, ez⟩ := oK_str _ m2
      cases ez
  cases t with
  | src os =>
    obtain ⟨x, dx, d, rfl, hx, ho, r⟩ := h
    exact ⟨x, dx, d, rfl, ne hx (fun _ z => nomatch z), nd ho, r⟩
  | mad r as =>
    obtain ⟨x, dx, vr, va, rfl, hx, hr, ⟨u, e1, hu, g⟩⟩ := h
    refine ⟨x, dx, vr, va, rfl, ne hx (fun _ z => nomatch z), ?_, ⟨u, e1, ne hu (fun _ z => nomatch z), g⟩⟩
    cases r with
    | txt z => exact hr
    | key a b => exact ⟨let ⟨t, e, h⟩ := hr.1; ⟨t, e, ne h (fun _ z => nomatch z)⟩, hr.2⟩
def eT (T T' : Tb) : Key → Bool
  | .inr s => teF T T' s
  | .inl _ => false
theorem valMem2 {ka : List (Key × V)} {k : Key} {v : V} (h : valV ka k = some v) : (k, v) ∈ ka := by
  unfold valV at h
  cases hf : ka.find? fun kv => decide (kv.1 = k) with
  | none => rw [hf] at h; cases h
  | some q =>
    rw [hf] at h
    have e1 : q.1 = k := by
      have := List.find?_some hf
      exact of_decide_eq_true this
    have e2 : q.2 = v := Option.some.inj h
    have := List.mem_of_find?_eq_some hf
    rw [← e1, ← e2]
    exact this
theorem hitsT (W : Pjc P w K mg base CS CM CP NT NS) {H H' : Hp} {a b : Addr} {ka kb : List (Key × V)} {T T' : Tb} (ha : H a = some (.dK ka)) (hb : H b = some (.dK kb)) (t1 : Tab (TgAt CS CM H) ka T) (t2 : Tab (TgAt CS CM H) kb T') (nd : (T.map (·.1)).Nodup) (e : ∀ c, c ≠ a → c ≠ b → H' c = H c) :
    EB.Hits (DT K CS CM) H' kb ka (ka.all fun p => (valV kb p.1).isSome && eT T T' p.1) := by
  refine EB.Hits.of (eT T T') ka fun k v y hm hv => ?_
  obtain ⟨z, t, rfl, mt, ht⟩ := t1.mem k v hm
  rcases t2.look z with ⟨n, _⟩ | ⟨y2, t', e1, e2, ht'⟩
  · rw [hv] at n; cases n
  · obtain rfl : y = y2 := Option.some.inj (hv.symm.trans e1)
    have ref : ∀ {v t}, TgAt CS CM H v t → ∃ x, v = .ref x := fun {v t} h => by
      cases t with
      | src os => obtain ⟨x, _, _, e, _⟩ := h; exact ⟨x, e⟩
      | mad r as => obtain ⟨x, _, _, _, e, _⟩ := h; exact ⟨x, e⟩
    obtain ⟨x1, ex1⟩ := ref ht
    obtain ⟨x2, ex2⟩ := ref ht'
    have m1 : ((.inr z : Key), V.ref x1) ∈ ka := ex1 ▸ hm
    have m2 : ((.inr z : Key), V.ref x2) ∈ kb := ex2 ▸ valMem2 hv
    have r := tgD W (tgLock ha hb m1 m2 e ht) (tgLock ha hb m1 m2 e ht')
    have eq : eT T T' (.inr z) = tgE t t' := by
      show teF T T' z = _
      unfold teF
      rw [tMem nd mt, e2]
    rw [eq]
    exact r
def spPEq (CS CM CP : Addr) : Sp := fun vs H Q _ => ∃ p y T, vs = [.ref p, .ref y] ∧ PjAt CS CM CP H p T ∧ (T.map (·.1)).Nodup ∧
  ((∃ T', PjAt CS CM CP H y T' ∧ ∀ H', Same H H' → Q (.bl (tbE T T')) H') ∨ (∃ ls, H y = some (.dK ls) ∧ Q (.bl false) H))
theorem scPEq : FnScope ["self", "other"] ["self", "other"] (defScope sPEq) := ⟨rfl, rfl, rfl, by decide +kernel, rfl, by decide +kernel, by decide +kernel⟩
theorem okPEq {k : Nat} (W : Pjc P w K mg base CS CM CP NT NS) (F : FnM K "__eq__" "Project.__eq__" sPEq f fd) : FnOk P w K mg base CX0 (k + 3) f fd ["self", "other"] (spPEq CS CM CP) := by
  obtain ⟨fS, dS, hS, iS, bS, GS⟩ := W.eqS
  obtain ⟨fM, dM, hM, iM, bM, GM⟩ := W.eqM
  refine F.ok scPEq (fun vs H Q E h => ?_) (fun cdv A outer s H vs Q E hr h => ?_)
  · obtain ⟨a, y, T, rfl, _⟩ := h
    rfl
  · obtain ⟨a, y, T, rfl, ⟨ka, ⟨dp, D, ha, hD⟩, tA⟩, nd, h⟩ := h
    have hr2 : Room (1 + 1) _ := hr.mono (by omega)
    have m2 : EB.Mon2 (DT K CS CM) := EB.Mon2.or EB.mon_eown EB.mon_eown
    refine ⟨_, PSs.nox (pss_one (ps_ret (pe_and (pe_callB call_isi (by rfl) W.mi (by decide +kernel) (pa_cons (pv 1) (pa_cons (pe_glob (v := .ref CP) (by rfl) W.gP rfl) pa_nil))) (pe_one (pe_cmpR (r := EB.rEqD (DT K CS CM)) (EB.op_eqD (n := 1) m2 (EB.EqB.or (EB.eqB_own GS hS iS bS pass0) (EB.eqB_own GM hM iM bM pass0)) hr2) (pe_fld (pv 0) rfl) (pe_fld (pv 1) rfl) (nomark _)))))), ?_⟩
    rcases h with ⟨T', ⟨kb, ⟨dq, D', hb, hD'⟩, tB⟩, q⟩ | ⟨ls, hb, q⟩
    · refine ⟨.ref y, rfl, .ref y, .ref CP, .ref CP, .ref CP, true, rfl, .own CP, W.iP.ty hb, W.kPP, true, rfl, iteT ?_⟩
      refine ⟨.ref a, rfl, a, CP, dp, _, .ref D, rfl, ha, W.iP.cl, W.nP, rfl, .ref y, rfl, y, CP, dq, _, .ref D', rfl, hb, W.iP.cl, W.nP, rfl, D, D', ka, kb, _, rfl, rfl, hD, hD', fun _ H' e => hitsT W hD hD' tA tB nd e, fun H' e => ?_⟩
      rw [tabAll tA tB (eT T T') fun _ => rfl]
      exact q H' e
    · exact ⟨.ref y, rfl, .ref y, .ref CP, .type "dict", .ref CP, false, rfl, .own CP, tyDct hb, W.kDP, false, rfl, iteF q⟩
end
end PJ

set_option Elab.async false
set_option linter.all false
set_option maxRecDepth 100000
set_option maxHeartbeats 8000000
/-! what projects do -/
namespace PJ
open PySem PySem.Spec PyProof.Rows L2 KS KS.La
open KX hiding sameUpd
section
variable {P : Program} {w : World} {K : PySem.W.Frag} {mg : Str → Option Value} {base : Heap} {f : Addr} {fd : FuncData} {CS CM CP NT NS : Addr}
/-- an error with its name -/
def Nm (C : Addr) (z : Str) (H : Hp) (E : XK) : Prop := ∀ d H', Same H H' → H' d = some (.xd [("name", .str z)]) → E (.ref C) (some d) H'
theorem Nm.same {C : Addr} {z : Str} {H H1 : Hp} {E : XK} (h : Nm C z H E) (s : Same H H1) : Nm C z H1 E := fun d H' s' e => h d H' (s.trans s') e
def spPGet (CP NT : Addr) : Sp := fun vs H Q E => ∃ p kvs z, vs = [.ref p, .str z] ∧ PrAt CP H p kvs ∧ (∀ v, valV kvs (.inr z) = some v → Q v H) ∧ (valV kvs (.inr z) = none → Nm NT z H E)
theorem scPGet : FnScope ["self", "at"] ["self", "at"] (defScope sPGet) := ⟨rfl, rfl, rfl, by decide +kernel, rfl, by decide +kernel, by decide +kernel⟩
theorem okPGet {k : Nat} (W : Pjc P w K mg base CS CM CP NT NS) (F : FnM K "__getitem__" "Project.__getitem__" sPGet f fd) : FnOk P w K mg base (L2.CX P w) (k + 3) f fd ["self", "at"] (spPGet CP NT) := by
  refine F.ok scPGet (fun vs H Q E h => ?_) (fun cdv A outer s H vs Q E hr h => ?_)
  · obtain ⟨a, kvs, z, rfl, _⟩ := h
    rfl
  · obtain ⟨a, kvs, z, rfl, ⟨dp, D, ha, hD⟩, q1, q2⟩ := h
    have hu1 : (A.deeper (envOfC "Project.__getitem__" (defScope sPGet) s.heap.objs.size f cdv)).units + 1 < cLine := by
      have := hr.units
      omega
    refine ⟨_, (pss_cons (ps_if (pt_cmp (pc_dnotin hu1 (pv 1) (pe_fld (pv 0) rfl))) (pss_one (ps_raise rfl (takes_of rfl rfl rfl rfl) (pmkX W.xT (hr.mono (by omega)) (by rfl) (pa_cons (pv 1) pa_nil)))) pss_nil) (pss_one (ps_ret (pe_dget hu1 (pe_fld (pv 0) rfl) (pv 1) (fun _ _ => rfl))))), ?_⟩
    refine ⟨.str z, rfl, .ref a, rfl, a, CP, dp, _, .ref D, rfl, ha, W.iP.cl, W.nP, rfl, D, _, rfl, DGet.k (k := Sum.inr z) hD, _, rfl, ?_⟩
    cases e : valV kvs (Sum.inr z) with
    | none => exact iteT ⟨.str z, rfl, .str z, rfl, fun d H2 s2 hd => q2 e d H2 s2 hd⟩
    | some v => exact iteF ⟨.ref a, rfl, a, CP, dp, _, .ref D, rfl, ha, W.iP.cl, W.nP, rfl, .str z, rfl, D, v, rfl, by have := DGet.k (k := Sum.inr z) hD; rw [e] at this; exact this, q1 v e⟩
def spPHas (CP : Addr) : Sp := fun vs H Q _ => ∃ p kvs z, vs = [.ref p, .str z] ∧ PrAt CP H p kvs ∧ Q (.bl (valV kvs (.inr z)).isSome) H
theorem scPHas : FnScope ["self", "x"] ["self", "x"] (defScope sPHas) := ⟨rfl, rfl, rfl, by decide +kernel, rfl, by decide +kernel, by decide +kernel⟩
theorem okPHas {k : Nat} (W : Pjc P w K mg base CS CM CP NT NS) (F : FnM K "__contains__" "Project.__contains__" sPHas f fd) : FnOk P w K mg base CX0 (k + 1) f fd ["self", "x"] (spPHas CP) := by
  refine F.ok scPHas (fun vs H Q E h => ?_) (fun cdv A outer s H vs Q E hr h => ?_)
  · obtain ⟨a, kvs, z, rfl, _⟩ := h
    rfl
  · obtain ⟨a, kvs, z, rfl, ⟨dp, D, ha, hD⟩, q⟩ := h
    have hu1 : (A.deeper (envOfC "Project.__contains__" (defScope sPHas) s.heap.objs.size f cdv)).units + 1 < cLine := by
      have := hr.units
      omega
    refine ⟨_, PSs.nox (pss_one (ps_ret (pe_cmp (pc_din hu1 (pv 1) (pe_fld (pv 0) rfl)) rfl))), ?_⟩
    exact ⟨.str z, rfl, .ref a, rfl, a, CP, dp, _, .ref D, rfl, ha, W.iP.cl, W.nP, rfl, D, _, rfl, DGet.k (k := Sum.inr z) hD, q⟩
def spPLen (CP : Addr) : Sp := fun vs H Q _ => ∃ p kvs, vs = [.ref p] ∧ PrAt CP H p kvs ∧ Q (.int kvs.length) H
theorem scPLen : FnScope ["self"] ["self"] (defScope sPLen) := ⟨rfl, rfl, rfl, by decide +kernel, rfl, by decide +kernel, by decide +kernel⟩
theorem okPLen {k : Nat} (W : Pjc P w K mg base CS CM CP NT NS) (F : FnM K "__len__" "Project.__len__" sPLen f fd) : FnOk P w K mg base CX0 (k + 1) f fd ["self"] (spPLen CP) := by
  refine F.ok scPLen (fun vs H Q E h => ?_) (fun cdv A outer s H vs Q E hr h => ?_)
  · obtain ⟨a, kvs, rfl, _⟩ := h
    rfl
  · obtain ⟨a, kvs, rfl, ⟨dp, D, ha, hD⟩, q⟩ := h
    refine ⟨_, PSs.nox (pss_one (ps_ret (pe_callB call_lenD (by rfl) W.ml PySem.boot_len (pa_cons (pe_fld (pv 0) rfl) pa_nil)))), ?_⟩
    exact ⟨.ref a, rfl, a, CP, dp, _, .ref D, rfl, ha, W.iP.cl, W.nP, rfl, D, _, rfl, hD, q⟩
def spNames (CP : Addr) : Sp := fun vs H Q _ => ∃ p kvs ks, vs = [.ref p] ∧ PrAt CP H p kvs ∧ kvs.map (·.1) = (ks.map Sum.inr : List Key) ∧ ks.length < 64 ∧ ∀ ys u H', ys.Perm ks → sortedS ys = true → Same H H' → H' u = some (.tup (ys.map V.str)) → Q (.ref u) H'
theorem scPNames : FnScope ["self"] ["self"] (defScope sPNames) := ⟨rfl, rfl, rfl, by decide +kernel, rfl, by decide +kernel, by decide +kernel⟩
theorem okPNames {k : Nat} (W : Pjc P w K mg base CS CM CP NT NS) (F : FnM K "names" "Project.names" sPNames f fd) : FnOk P w K mg base CX0 (k + 1) f fd ["self"] (spNames CP) := by
  refine F.ok scPNames (fun vs H Q E h => ?_) (fun cdv A outer s H vs Q E hr h => ?_)
  · obtain ⟨a, kvs, ks, rfl, _⟩ := h
    rfl
  · obtain ⟨a, kvs, ks, rfl, ⟨dp, D, ha, hD⟩, hk, hl, q⟩ := h
    refine ⟨_, PSs.nox (pss_one (ps_ret (pe_callTy (T := "tuple") call_tuple_of (by rfl) W.mt (by decide +kernel) (pa_cons (pe_callB (call_sortedD rfl) (by rfl) W.ms (by decide +kernel) (pa_cons (pe_fld (pv 0) rfl) pa_nil)) pa_nil)))), ?_⟩
    refine ⟨.ref a, rfl, a, CP, dp, _, .ref D, rfl, ha, W.iP.cl, W.nP, rfl, D, kvs, ks, rfl, .inl hD, hk, hl, fun ys p hp hs np => ?_⟩
    refine ⟨p, _, rfl, .inl ⟨.inl (.inl upd_same), fun u hu => ?_⟩⟩
    exact q ys u _ hp hs ((KS.sameUpd np).trans (KS.sameUpd hu)) upd_same
/-- Project(d) -/
theorem pjMade {H : Hp} {x dx M : Addr} {kvs : List (Key × V)} {T : Tb} {R : Hp → Prop} {E : XK} (hx : H x = none) (hdx : H dx = none) (ne : dx ≠ x) (hM : H M = some (.dK kvs)) (hT : Tab (TgAt CS CM H) kvs T) (q : ∀ H', Same H H' → PjAt CS CM CP H' x T → R H') :
    spDInit CP "_targets" [.ref x, .ref M] (upd (upd H dx (.own x)) x (.ins CP dx [])) (fun v H2 => v = .non ∧ R H2) E :=
  dMade hx hdx ne hM fun H' D nD s h1 h2 => q H' s ⟨kvs, ⟨dx, D, h1, h2⟩, hT.tg (Stl.same s)⟩
def spPPut (CS CM CP : Addr) : Sp := fun vs H Q _ => ∃ p z v T t, vs = [.ref p, .str z, v] ∧ PjAt CS CM CP H p T ∧ TgAt CS CM H v t ∧ T.length ≤ 100 ∧ ∀ p' H', H p' = none → Same H H' → PjAt CS CM CP H' p' (tPut T z t) → Q (.ref p') H'
theorem scPPut : FnScope ["self", "name", "target"] ["self", "name", "target"] (defScope sPPut) := ⟨rfl, rfl, rfl, by decide +kernel, rfl, by decide +kernel, by decide +kernel⟩
theorem okPPut {k : Nat} (W : Pjc P w K mg base CS CM CP NT NS) (F : FnM K "put" "Project.put" sPPut f fd) : FnOk P w K mg base CX0 (k + 3) f fd ["self", "name", "target"] (spPPut CS CM CP) := by
  obtain ⟨fI, dI, M, bI, GI⟩ := W.mkP
  refine F.ok scPPut (fun vs H Q E h => ?_) (fun cdv A outer s H vs Q E hr h => ?_)
  · obtain ⟨a, z, v, T, t, rfl, _⟩ := h
    rfl
  · obtain ⟨a, z, v, T, t, rfl, ⟨kvs, ⟨dp, D, ha, hD⟩, hT⟩, hv, lT, q⟩ := h
    have hr2 : Room (1 + 1) _ := hr.mono (by omega)
    have lk := hT.len
    refine ⟨_, PSs.nox (pss_one (ps_ret (pe_make M GI hr2 (by rfl) W.gP bI .nil pass0 (pa_cons (MM.pe_starPut (pe_fld (pv 0) rfl) (pv 1) (pv 2)) pa_nil)))), ?_⟩
    refine fun d hd => ?_
    have s1 := KS.sameUpd (o := .dK []) hd
    have nDd : d ≠ D := fun z => by rw [z, hD] at hd; cases hd
    refine ⟨.ref a, rfl, a, CP, dp, _, .ref D, rfl, s1 _ _ ha, W.iP.cl, W.nP, rfl, D, kvs, rfl, .inl (s1 _ _ hD), nDd, upd_same, by rw [sizeLine_eq]; omega, fun u hu => ?_⟩
    refine ⟨.str z, rfl, v, rfl, .inr z, rfl, upd_same, ?_, fun x dx hx hdx nex => ?_⟩
    · rw [upd_ne fun z => by rw [← z, upd_same] at hu; cases hu]
      exact upd_same
    have nu : H u = none := by
      cases e : H u with
      | none => rfl
      | some o =>
        have nud : u ≠ d := fun z => by rw [z] at e; rw [e] at hd; cases hd
        rw [upd_ne nud, s1 _ _ e] at hu
        cases hu
    have sA : Same H (upd (upd (upd (upd (upd H d (.dK [])) d (.dK kvs)) u (.dK [])) u (.dK [(.inr z, v)])) d (.dK (putK kvs (.inr z) v))) := fun b o hb => by
      rw [upd_ne (ne_of_none hb hd), upd_ne (ne_of_none hb nu), upd_ne (ne_of_none hb nu), upd_ne (ne_of_none hb hd), upd_ne (ne_of_none hb hd)]
      exact hb
    exact pjMade hx hdx nex upd_same ((hT.put (k := z) hv).tg (Stl.same sA)) fun H' s2 h => q x H' (noneSame sA hx) (sA.trans s2) h
def spPWithout (CS CM CP NT : Addr) : Sp := fun vs H Q E => ∃ p z T, vs = [.ref p, .str z] ∧ PjAt CS CM CP H p T ∧ (tLook T z ≠ none → ∀ p' H', H p' = none → Same H H' → PjAt CS CM CP H' p' (tDrop T z) → Q (.ref p') H') ∧ (tLook T z = none → Nm NT z H E)
theorem scPWithout : FnScope ["self", "name", "targets"] ["self", "name"] (defScope sPWithout) := ⟨rfl, rfl, rfl, by decide +kernel, rfl, by decide +kernel, by decide +kernel⟩
theorem okPWithout {k : Nat} (W : Pjc P w K mg base CS CM CP NT NS) (F : FnM K "without" "Project.without" sPWithout f fd) : FnOk P w K mg base (L2.CX P w) (k + 3) f fd ["self", "name"] (spPWithout CS CM CP NT) := by
  obtain ⟨fI, dI, M, bI, GI⟩ := W.mkP
  refine F.ok scPWithout (fun vs H Q E h => ?_) (fun cdv A outer s H vs Q E hr h => ?_)
  · obtain ⟨a, z, T, rfl, _⟩ := h
    rfl
  · obtain ⟨a, z, T, rfl, ⟨kvs, ⟨dp, D, ha, hD⟩, hT⟩, q1, q2⟩ := h
    have hr2 : Room (1 + 1) _ := hr.mono (by omega)
    have hu1 : (A.deeper (envOfC "Project.without" (defScope sPWithout) s.heap.objs.size f cdv)).units + 1 < cLine := by
      have := hr.units
      omega
    refine ⟨_, (pss_cons (ps_if (pt_cmp (pc_dnotin hu1 (pv 1) (pe_fld (pv 0) rfl))) (pss_one (ps_raise rfl (takes_of rfl rfl rfl rfl) (pmkX W.xT (hr.mono (by omega)) (by rfl) (pa_cons (pv 1) pa_nil)))) pss_nil) (pss_cons (ps_set (i := 2) scPWithout.nd rfl (.inl rfl) (pe_callTy call_dictD (by rfl) W.md (by decide +kernel) (pa_cons (pe_fld (pv 0) rfl) pa_nil))) (pss_cons (ps_ddel (pv 2) (pv 1)) (pss_one (ps_ret (pe_make M GI hr2 (by rfl) W.gP bI .nil pass0 (pa_cons (pv 2) pa_nil))))))), ?_⟩
    refine ⟨.str z, rfl, .ref a, rfl, a, CP, dp, _, .ref D, rfl, ha, W.iP.cl, W.nP, rfl, D, _, rfl, DGet.k (k := Sum.inr z) hD, _, rfl, ?_⟩
    rcases hT.look z with ⟨e, e2⟩ | ⟨v, t, e, e2, _⟩
    · rw [e]
      exact iteT ⟨.str z, rfl, .str z, rfl, fun d H2 s2 hd => q2 e2 d H2 s2 hd⟩
    · rw [e]
      refine iteF ⟨.ref a, rfl, a, CP, dp, _, .ref D, rfl, ha, W.iP.cl, W.nP, rfl, D, kvs, rfl, hD, fun u hu => ?_⟩
      have s1 := KS.sameUpd (o := .dK kvs) hu
      refine ⟨.ref u, rfl, .str z, rfl, u, kvs, .inr z, rfl, upd_same, rfl, by rw [e]; rfl, ?_⟩
      have sA : Same H (upd (upd H u (.dK kvs)) u (.dK (dropK kvs (.inr z)))) := fun b o hb => by
        rw [upd_ne (ne_of_none hb hu), upd_ne (ne_of_none hb hu)]
        exact hb
      refine ⟨.ref u, rfl, fun x dx hx hdx nex => ?_⟩
      exact pjMade hx hdx nex upd_same ((hT.drop z).tg (Stl.same sA)) fun H' s2 h => q1 (by rw [e2]; exact fun z => nomatch z) x H' (noneSame sA hx) (sA.trans s2) h
end
end PJ

set_option Elab.async false
set_option linter.all false
set_option maxRecDepth 100000
set_option maxHeartbeats 4000000
/-! None == x and x == None, x with an own __eq__ -/
namespace EN
open PySem PySem.Spec PyProof.Rows L2
section
variable {X : Cx} {C : Addr} {CX : CXT} {n : Nat} {f : Addr} {fd : FuncData} {ps : List Str} {sp : Sp} {E : XK}
def rOwnNon (C : Addr) (sp : Sp) (E : XK) : R2 := fun x y H Q => ∃ b dy gs, ((x = .non ∧ y = .ref b) ∨ (x = .ref b ∧ y = .non)) ∧ H b = some (.ins C dy gs) ∧ sp [.ref b, .non] H (fun v H' => ∃ c, v = .bl c ∧ Q v H') E
theorem op_ownNon (F : FnOk X.prog X.w X.K X.mg X.base CX n f fd ps sp) (hr : Room n X.A)
    (hs : PySem.W.findIn X.K (.ref C) "__eq__" = some (some (.ref f))) (hf : PySem.W.isFn X.K (.ref f) = true) (hb : Binds X.K fd ps []) (hx : Passes CX X E)
    (hT : PySem.W.subIn X.K (.type "NoneType") (.ref C) = some false) (hT2 : PySem.W.subIn X.K (.ref C) (.type "NoneType") = some false) : OpR X (compareOp .Eq) (rOwnNon C sp E) := by
  intro pins s σ H x y v u Q I rx ry h
  obtain ⟨b, dy, gs, hxy, hbb, hsp⟩ := h
  obtain ⟨mA, J, _⟩ := ins_get I.hok hbb
  obtain ⟨od, J, _⟩ := J.look
  obtain ⟨m, hF⟩ := I.fr
  have call : wpAny (model X.prog X.w) X.A (call (.ref f) [.ref b, .none]) (fun v s' => ∃ c, v = Value.bool c ∧ EP X pins σ Q v s') X.xe s := by
    have hl := F.len _ _ _ _ hsp
    have r2 : Vals [V.ref b, V.non] [Value.ref b, Value.none] := .cons rfl (.cons rfl .nil)
    refine wpAny_call (codeAny_mono (F.run X.A X.stack s H ⟨[.ref b, .none], []⟩ [.ref b, .none] [.ref b, .non] _ E hr I.env0 (by
      have := hb s [.ref b, .none] I.kIn (by simpa using hl)
      simpa using this) r2 hsp) fun r s' hq => ?_)
    cases r with
    | error e => exact hx pins σ H s e s' I hq
    | ok fl =>
      cases fl with
      | ret w =>
        obtain ⟨z, H', I', rz, c, ez, q⟩ := I.after hq
        subst ez
        cases rz
        exact ⟨c, rfl, .bl c, H', I', rfl, q⟩
      | next => exact False.elim hq
      | brk => exact False.elim hq
      | cont => exact False.elim hq
  rcases hxy with ⟨rfl, rfl⟩ | ⟨rfl, rfl⟩
  · cases rx
    cases ry
    have hN : s.TypeIs .none "NoneType" := rfl
    have Xk := I.ok.mod.kin.keeps hF.keep
    show wpAny (model X.prog X.w) X.A (richCompare .Eq .none (.ref b)) (EP X pins σ Q) X.xe s
    unfold richCompare
    simp only [hN.oneThing_none]
    refine wpAny_holding (wpAny_bind (wpAny_cRoomFor hr.units0 ?_))
    refine wpAny_bind (wpAny_typeOf hN (wpAny_bind (J.type.here ?_)))
    rw [if_pos (by simp)]
    refine wpAny_bind ((PySem.W.looks_subIn Xk hT2).here ?_)
    simp only [Bool.false_eq_true, if_false]
    refine wpAny_bind (wpAny_tryCompare_declines hN PySem.F.slot_NoneType_eq (call_gives PySem.F.slot_NoneType_eq hN PySem.F.entry_NoneType_eq (PySem.F.args_NoneType_eq_2 _ _) (PySem.SeqAt.NoneType___eq___none_ref_0 b) ⟨rfl, ?_⟩))
    simp only [Bool.not_false, if_true]
    refine wpAny_bind ?_
    unfold tryCompare
    refine wpAny_bind (PySem.W.ifBound_K Xk J hs hf (wpAny_mono call (fun v s' hv => ?_) fun _ _ e => e))
    obtain ⟨c, rfl, q⟩ := hv
    exact wpAny_pure (wpAny_pure q)
  · cases rx
    cases ry
    show wpAny (model X.prog X.w) X.A (richCompare .Eq (.ref b) .none) (EP X pins σ Q) X.xe s
    refine PySem.W.cmp_K (op := .Eq) (tb := .type "NoneType") hr.units0 hF I.ok.mod.kin J .now (by simp [PySem.W.notFirst, hT]) hs hf (wpAny_mono call (fun v s' hv => ?_) fun _ _ e => e)
    obtain ⟨c, rfl, q⟩ := hv
    exact q
end
end EN

set_option Elab.async false
set_option linter.all false
set_option maxRecDepth 100000
set_option maxHeartbeats 8000000
/-! targets and none: == -/
namespace PJ
open PySem PySem.Spec PyProof.Rows L2 KS KS.La
open KX hiding sameUpd
/-! ### == of an own object, either way -/
def rEqO (K : PySem.W.Frag) (C : Addr) (sp : Sp) : R2 := fun x y H Q => ∃ a b dx fs, x = .ref a ∧ y = .ref b ∧ H a = some (.ins C dx fs) ∧ ((∃ C' dy gs, H b = some (.ins C' dy gs) ∧ PySem.W.notFirst K C (.ref C') = true) ∨ ∃ kvs, H b = some (.dK kvs)) ∧ sp [x, y] H (fun v H' => ∃ c, v = .bl c ∧ Q v H') E0
theorem op_eqO {X : Cx} {n : Nat} {C f : Addr} {fd : FuncData} {ps : List Str} {sp : Sp} (F : FnOk X.prog X.w X.K X.mg X.base CX0 n f fd ps sp) (hr : Room n X.A)
    (hs : PySem.W.findIn X.K (.ref C) "__eq__" = some (some (.ref f))) (hf : PySem.W.isFn X.K (.ref f) = true) (hb : Binds X.K fd ps []) (hD : PySem.W.subIn X.K (.type "dict") (.ref C) = some false) : OpR X (compareOp .Eq) (rEqO X.K C sp) := by
  intro pins s σ H x y v u Q I rx ry h
  obtain ⟨a, b, dx, fs, rfl, rfl, ha, hy, hsp⟩ := h
  cases rx
  cases ry
  obtain ⟨mA, J, _⟩ := ins_get I.hok ha
  obtain ⟨od, J, _⟩ := J.look
  obtain ⟨m, hF⟩ := I.fr
  show wpAny (model X.prog X.w) X.A (richCompare .Eq (.ref a) (.ref b)) (EP X pins σ Q) X.xe s
  have go : ∀ {tb : Value}, PySem.W.Looks (model X.prog X.w) s.heap (typeOf (.ref b)) tb → PySem.W.notFirst X.K C tb = true → wpAny (model X.prog X.w) X.A (richCompare .Eq (.ref a) (.ref b)) (EP X pins σ Q) X.xe s := fun {tb} lk nf => by
    refine PySem.W.cmp_K (op := .Eq) (tb := tb) hr.units0 hF I.ok.mod.kin J lk nf hs hf ?_
    have hl := F.len _ _ _ _ hsp
    have r2 : Vals [V.ref a, V.ref b] [Value.ref a, Value.ref b] := .cons rfl (.cons rfl .nil)
    refine wpAny_call (codeAny_mono (F.run X.A X.stack s H ⟨[.ref a, .ref b], []⟩ [.ref a, .ref b] [.ref a, .ref b] _ E0 hr I.env0 (by
      have := hb s [.ref a, .ref b] I.kIn (by simpa using hl)
      simpa using this) r2 hsp) fun r s' hq => ?_)
    cases r with
    | error e => exact pass0 pins σ H s e s' I hq
    | ok fl =>
      cases fl with
      | ret w =>
        obtain ⟨z, H', I', rz, c, ez, q⟩ := I.after hq
        subst ez
        cases rz
        exact ⟨.bl c, H', I', rfl, q⟩
      | next => exact False.elim hq
      | brk => exact False.elim hq
      | cont => exact False.elim hq
  rcases hy with ⟨C', dy, gs, hb', nf⟩ | ⟨kvs, hb'⟩
  · obtain ⟨mB, J', _⟩ := ins_get I.hok hb'
    obtain ⟨od', J', _⟩ := J'.look
    exact go J'.type nf
  · obtain ⟨_, _, vs, _, dd⟩ := dk_of I.hok hb'
    obtain ⟨o, ho, hc⟩ := dd.typeIs (s := s)
    exact go (tb := .type "dict") ((PySem.W.Looks.ld ho).andThen (by rw [hc]; exact .now)) (by simp [PySem.W.notFirst, hD])
theorem fdNe {H : Hp} {f p : Addr} (h : Fd H f) (hp : H p = none) : p ≠ f := fun z => by
  obtain ⟨x, y, e, _⟩ := h
  rw [z, e] at hp
  cases hp
theorem fdOther {H : Hp} {f p : Addr} {o : HO} (h : Fd H f) (hp : p ≠ f) : Fd (upd H p o) f := by
  obtain ⟨x, y, e, a, b⟩ := h
  exact ⟨x, y, by rw [upd_ne (Ne.symm hp)]; exact e, a, b⟩
theorem kpNone {H H' : Hp} {f p : Addr} (h : Fd H f) (k : Kp f H H') (F : Fd H' f) (hp : H' p = none) : H p = none := by
  cases e : H p with
  | none => rfl
  | some o => rw [k p o (fdNe F hp) e] at hp; cases hp
theorem notTake {α : Type} {l : List α} (h : l.Nodup) {i : Nat} (lt : i < l.length) : l[i] ∉ l.take i := fun hm => by
  have h2 : (l.take (i + 1)).Nodup := h.sublist (List.take_sublist _ _)
  rw [List.take_succ_eq_append_getElem lt] at h2
  exact (List.nodup_append.mp h2).2.2 _ hm _ (List.mem_singleton.mpr rfl) rfl
theorem forJ {J : It} {n : Nat} {g : TG} {tb : TS} {D : Ends} {σ : L2.St} {H : Hp} (Pv : Nat → L2.St → Hp → Prop) (h0 : Pv 0 σ H) (hgo : ∀ i σ H, i < n → Pv i σ H → J.go i H) (hst : ∀ σ H, Pv n σ H → J.stop n H)
    (hs : ∀ i σ H x H', i < n → Pv i σ H → J.yld i H x H' → g x σ H' fun σ2 H2 => tb { D with nx := Pv (i + 1), ct := Pv (i + 1), bk := D.nx } σ2 H2) (hd : ∀ σ H, Pv n σ H → D.nx σ H) :
    ∃ W : Nat → Nat → L2.St → Hp → Prop, (∃ m, W 0 m σ H) ∧ ∀ i m σ H, W i m σ H →
      (J.stop i H ∧ D.nx σ H) ∨ (J.go i H ∧ ∃ N : L2.St → Hp → Prop, (∀ σ' H', N σ' H' → ∃ m', m' < m ∧ W (i + 1) m' σ' H') ∧ ∀ x H', J.yld i H x H' → g x σ H' fun σ2 H2 => tb { D with nx := N, ct := N, bk := D.nx } σ2 H2) := by
  refine ⟨fun i m σ H => m = n - i ∧ i ≤ n ∧ Pv i σ H, ⟨n, by simp, Nat.zero_le _, h0⟩, fun i m σ H hW => ?_⟩
  obtain ⟨rfl, hi, p⟩ := hW
  by_cases lt : i < n
  · exact .inr ⟨hgo i σ H lt p, Pv (i + 1), fun σ' H' p' => ⟨n - (i + 1), by omega, rfl, lt, p'⟩, fun x H' y => hs i σ H x H' lt p y⟩
  · have e : i = n := by omega
    subst e
    exact .inl ⟨hst σ H p, hd σ H p⟩
section
variable {P : Program} {w : World} {K : PySem.W.Frag} {mg : Str → Option Value} {base : Heap} {f : Addr} {fd : FuncData} {CS CM CP NT NS : Addr}
def spEqN (C : Addr) : Sp := fun vs H Q _ => ∃ x dx fs, vs = [.ref x, .non] ∧ H x = some (.ins C dx fs) ∧ Q (.bl false) H
theorem okSEqN {k : Nat} (mi : mg "isinstance" = none) (gC : mg "Source" = some (.ref CS)) (k1 : PySem.W.kitOne K (.type "NoneType") (.ref CS) = some false) (F : FnM K "__eq__" "Source.__eq__" sSEq f fd) : FnOk P w K mg base CX0 (k + 1) f fd ["self", "other"] (spEqN CS) := by
  refine F.ok scSEq (fun vs H Q E h => ?_) (fun cdv A outer s H vs Q E hr h => ?_)
  · obtain ⟨a, dx, fs, rfl, _⟩ := h
    rfl
  · obtain ⟨a, dx, fs, rfl, ha, q⟩ := h
    exact ⟨_, PSs.nox (pss_one (ps_ret (pe_and (pe_callB call_isi (by rfl) mi (by decide +kernel) (pa_cons (pv 1) (pa_cons (pe_glob (v := .ref CS) (by rfl) gC rfl) pa_nil))) (pe_one (pe_cmpR (r := DB.rEqDB K) (DB.op_eqDB (DB.un100 hr)) (pe_fld (pv 0) rfl) (pe_fld (pv 1) rfl) (nomark _)))))),
      .non, rfl, .non, .ref CS, .type "NoneType", .ref CS, false, rfl, .own CS, .base .non, k1, false, rfl, iteF q⟩
theorem okMEqN {k : Nat} (mi : mg "isinstance" = none) (gC : mg "Made" = some (.ref CM)) (k1 : PySem.W.kitOne K (.type "NoneType") (.ref CM) = some false) (F : FnM K "__eq__" "Made.__eq__" sMEq f fd) : FnOk P w K mg base CX0 (k + 1) f fd ["self", "other"] (spEqN CM) := by
  refine F.ok scMEq (fun vs H Q E h => ?_) (fun cdv A outer s H vs Q E hr h => ?_)
  · obtain ⟨a, dx, fs, rfl, _⟩ := h
    rfl
  · obtain ⟨a, dx, fs, rfl, ha, q⟩ := h
    exact ⟨_, PSs.nox (pss_one (ps_ret (pe_and (pe_callB call_isi (by rfl) mi (by decide +kernel) (pa_cons (pv 1) (pa_cons (pe_glob (v := .ref CM) (by rfl) gC rfl) pa_nil))) (pe_and (pe_cmpR (r := rEqD K) (op_eqD hr.units) (pe_fld (pv 0) rfl) (pe_fld (pv 1) rfl) (nomark _)) (pe_one (pe_cmpR (r := rEqD K) (op_eqD hr.units) (pe_fld (pv 0) rfl) (pe_fld (pv 1) rfl) (nomark _))))))),
      .non, rfl, .non, .ref CM, .type "NoneType", .ref CM, false, rfl, .own CM, .base .non, k1, false, rfl, iteF q⟩
/-- what more == with None asks for -/
structure Pjn (P : Program) (w : World) (K : PySem.W.Frag) (mg : Str → Option Value) (base : Heap) (CS CM : Addr) : Prop where
  eqS : ∃ (f : Addr) (fd : FuncData), PySem.W.findIn K (.ref CS) "__eq__" = some (some (.ref f)) ∧ PySem.W.isFn K (.ref f) = true ∧ Binds K fd ["self", "other"] [] ∧ FnOk P w K mg base CX0 1 f fd ["self", "other"] (spEqN CS)
  eqM : ∃ (f : Addr) (fd : FuncData), PySem.W.findIn K (.ref CM) "__eq__" = some (some (.ref f)) ∧ PySem.W.isFn K (.ref f) = true ∧ Binds K fd ["self", "other"] [] ∧ FnOk P w K mg base CX0 1 f fd ["self", "other"] (spEqN CM)
  nS : PySem.W.subIn K (.type "NoneType") (.ref CS) = some false
  sN : PySem.W.subIn K (.ref CS) (.type "NoneType") = some false
  nM : PySem.W.subIn K (.type "NoneType") (.ref CM) = some false
  mN : PySem.W.subIn K (.ref CM) (.type "NoneType") = some false
  dS : PySem.W.subIn K (.type "dict") (.ref CS) = some false
  dM : PySem.W.subIn K (.type "dict") (.ref CM) = some false
  kNS : PySem.W.kitOne K (.type "NoneType") (.ref CS) = some false
/-- a target or none -/
def OAt (CS CM : Addr) (H : Hp) (v : V) : Option Tg → Prop
  | none => v = .non
  | some t => TgAt CS CM H v t
theorem OAt.stl {CS CM : Addr} {H H' : Hp} {v : V} {o : Option Tg} (h : OAt CS CM H v o) (s : Stl H H') : OAt CS CM H' v o := by
  cases o with
  | none => exact h
  | some t => exact TgAt.stl h s
def oE : Option Tg → Option Tg → Bool
  | none, none => true
  | some t, some t' => tgE t t'
  | _, _ => false
def rOT (CS CM : Addr) : R2 := fun x y H Q => ∃ o o', OAt CS CM H x o ∧ OAt CS CM H y o' ∧ Q (.bl (oE o o')) H
theorem op_eqOT {X : Cx} (W : Pjc X.prog X.w X.K X.mg X.base CS CM CP NT NS) (N : Pjn X.prog X.w X.K X.mg X.base CS CM) (hr : Room 1 X.A) : OpR X (compareOp .Eq) (rOT CS CM) := by
  intro pins s σ H x y v u Q I rx ry h
  obtain ⟨o, o', ho, ho', q⟩ := h
  obtain ⟨fS, dS, hS, iS, bS, GS⟩ := W.eqS
  obtain ⟨fM, dM, hM, iM, bM, GM⟩ := W.eqM
  obtain ⟨fSn, dSn, hSn, iSn, bSn, GSn⟩ := N.eqS
  obtain ⟨fMn, dMn, hMn, iMn, bMn, GMn⟩ := N.eqM
  cases o with
  | none =>
    obtain rfl : x = .non := ho
    cases o' with
    | none =>
      obtain rfl : y = .non := ho'
      exact op_eq pins s σ H .non .non v u Q I rx ry ⟨rfl, q⟩
    | some t =>
      cases t with
      | src os =>
        obtain ⟨x, dx, d, rfl, hx, _⟩ := ho'
        exact EN.op_ownNon (E := E0) GSn hr hSn iSn bSn pass0 N.nS N.sN pins s σ H .non (.ref x) v u Q I rx ry ⟨x, dx, _, .inl ⟨rfl, rfl⟩, hx, x, dx, _, rfl, hx, false, rfl, q⟩
      | mad r as =>
        obtain ⟨x, dx, vr, va, rfl, hx, _⟩ := ho'
        exact EN.op_ownNon (E := E0) GMn hr hMn iMn bMn pass0 N.nM N.mN pins s σ H .non (.ref x) v u Q I rx ry ⟨x, dx, _, .inl ⟨rfl, rfl⟩, hx, x, dx, _, rfl, hx, false, rfl, q⟩
  | some t =>
    cases o' with
    | none =>
      obtain rfl : y = .non := ho'
      cases t with
      | src os =>
        obtain ⟨x, dx, d, rfl, hx, _⟩ := ho
        exact EN.op_ownNon (E := E0) GSn hr hSn iSn bSn pass0 N.nS N.sN pins s σ H (.ref x) .non v u Q I rx ry ⟨x, dx, _, .inr ⟨rfl, rfl⟩, hx, x, dx, _, rfl, hx, false, rfl, q⟩
      | mad r as =>
        obtain ⟨x, dx, vr, va, rfl, hx, _⟩ := ho
        exact EN.op_ownNon (E := E0) GMn hr hMn iMn bMn pass0 N.nM N.mN pins s σ H (.ref x) .non v u Q I rx ry ⟨x, dx, _, .inr ⟨rfl, rfl⟩, hx, x, dx, _, rfl, hx, false, rfl, q⟩
    | some t' =>
      cases t with
      | src os =>
        obtain ⟨x, dx, d, rfl, hx, hos⟩ := ho
        refine op_eqO GS hr hS iS bS N.dS pins s σ H _ y v u Q I rx ry ?_
        cases t' with
        | src os' =>
          obtain ⟨y, dy, d', rfl, hy, hos'⟩ := ho'
          exact ⟨x, y, dx, _, rfl, rfl, hx, .inl ⟨CS, dy, _, hy, by simp [PySem.W.notFirst]⟩, x, dx, d, os, y, rfl, hx, hos, .inl ⟨dy, d', os', hy, hos', _, rfl, q⟩⟩
        | mad r as =>
          obtain ⟨y, dy, vr, va, rfl, hy, _⟩ := ho'
          exact ⟨x, y, dx, _, rfl, rfl, hx, .inl ⟨CM, dy, _, hy, by simp [PySem.W.notFirst, W.sMS]⟩, x, dx, d, os, y, rfl, hx, hos, .inr ⟨dy, _, hy, _, rfl, q⟩⟩
      | mad r as =>
        obtain ⟨x, dx, vr, va, rfl, hx, hr', ha⟩ := ho
        refine op_eqO GM hr hM iM bM N.dM pins s σ H _ y v u Q I rx ry ?_
        cases t' with
        | src os' =>
          obtain ⟨y, dy, d', rfl, hy, hos'⟩ := ho'
          exact ⟨x, y, dx, _, rfl, rfl, hx, .inl ⟨CS, dy, _, hy, by simp [PySem.W.notFirst, W.sSM]⟩, x, dx, vr, va, rcD r, argsD as, y, rfl, hx, hr'.dp.1, ha.dp.1, (hr'.dp (K := X.K)).2, (ha.dp (K := X.K)).2, .inr ⟨dy, _, hy, _, rfl, q⟩⟩
        | mad r2 as2 =>
          obtain ⟨y, dy, vr2, va2, rfl, hy, hr2, ha2⟩ := ho'
          exact ⟨x, y, dx, _, rfl, rfl, hx, .inl ⟨CM, dy, _, hy, by simp [PySem.W.notFirst]⟩, x, dx, vr, va, rcD r, argsD as, y, rfl, hx, hr'.dp.1, ha.dp.1, (hr'.dp (K := X.K)).2, (ha.dp (K := X.K)).2, .inl ⟨dy, vr2, va2, rcD r2, argsD as2, hy, hr2.dp.1, ha2.dp.1, (hr2.dp (K := X.K)).2, (ha2.dp (K := X.K)).2, _, rfl, q⟩⟩
/-- Source(d) -/
theorem srcMade {H : Hp} {x dx M : Addr} {os : Outs} {R : Hp → Prop} {E : XK} (hx : H x = none) (hdx : H dx = none) (ne : dx ≠ x) (hM : OsIn H M os) (q : ∀ H', Same H H' → TgAt CS CM H' (.ref x) (.src os) → R H') :
    spDInit CS "_outputs" [.ref x, .ref M] (upd (upd H dx (.own x)) x (.ins CS dx [])) (fun v H2 => v = .non ∧ R H2) E :=
  dMade hx hdx ne hM.1 fun H' D nD s h1 h2 => q H' s ⟨x, dx, D, rfl, h1, h2, hM.2⟩
structure Pgt (P : Program) (w : World) (K : PySem.W.Frag) (mg : Str → Option Value) (base : Heap) (CP NT : Addr) : Prop where
  get : ∃ (f : Addr) (fd : FuncData), PySem.W.findIn K (.ref CP) "__getitem__" = some (some (.ref f)) ∧ PySem.W.fnIn K f = true ∧ PySem.W.isFn K (.ref f) = true ∧ Binds K fd ["self", "at"] [] ∧ FnOk P w K mg base (L2.CX P w) 3 f fd ["self", "at"] (spPGet CP NT)
end
end PJ

set_option Elab.async false
set_option linter.all false
set_option maxRecDepth 100000
/-! tables of 8, 16 or 32 slots laid anew -/
namespace SX
open PySem PySem.Spec PyProof.Rows L2
def M3 (m : Nat) : Prop := m = 7 ∨ m = 15 ∨ m = 31
theorem lcg15 : ((List.range 16).all fun i => (List.range 16).all fun j => (List.range 16).any fun k => lcgI 15 i k == j) = true := by decide +kernel
theorem meets {m : Nat} (hm : M3 m) (h : Int) {j : Nat} (hj : j ≤ m) : ∃ n, n ≤ m + 12 ∧ runI m (SetTable.bits h) n = j := by
  rcases hm with rfl | rfl | rfl
  · exact run_meets (.inl rfl) h hj
  · have h1 := List.all_eq_true.mp lcg15 (runI 15 (SetTable.bits h) 12) (List.mem_range.mpr (Nat.lt_succ_of_le (runI_le 15 _ 12)))
    have h2 := List.all_eq_true.mp h1 j (List.mem_range.mpr (Nat.lt_succ_of_le hj))
    obtain ⟨k, hk, e⟩ := List.any_eq_true.mp h2
    have hk' := List.mem_range.mp hk
    exact ⟨12 + k, by omega, by rw [runI_tail (bits_lt h)]; exact beq_iff_eq.mp e⟩
  · exact run_meets (.inr (.inl rfl)) h hj
/-- a free slot is found -/
theorem found (m : Nat) (owner : Array (Option Nat)) : ∀ (f n i b : Nat), n < f → i ≤ m → oAt owner (itL m i b n).1 = none → ∃ j, SetTable.layClean.free m owner f i b = some j ∧ oAt owner j = none ∧ j ≤ m
  | 0, _, _, _, hn, _, _ => absurd hn (Nat.not_lt_zero _)
  | f + 1, n, i, b, hn, hi, hf => by
    have hr := runEnd_bd hi
    rw [free_succ]
    cases e : (List.range (SetTable.runEnd m i + 1 - i)).find? fun k => (oAt owner (i + k)).isNone with
    | some k =>
      have h1 := List.find?_some e
      have h2 := List.mem_range.mp (List.mem_of_find?_eq_some e)
      refine ⟨i + k, rfl, ?_, by omega⟩
      simpa using h1
    | none =>
      cases n with
      | zero =>
        have h0 := List.find?_eq_none.mp e 0 (List.mem_range.mpr (by omega))
        exact absurd (by show (oAt owner (i + 0)).isNone = true; rw [Nat.add_zero, show oAt owner i = none from hf]; rfl) h0
      | succ n =>
        exact found m owner f n _ _ (by omega) (Nat.le_of_lt_succ (Nat.mod_lt _ (Nat.succ_pos _))) hf
/-- n numbers sit in the table -/
structure Sits (m n : Nat) (owner : Array (Option Nat)) : Prop where
  sz : owner.size = m + 1
  all : ∀ k, k < n → ∃ j, j ≤ m ∧ oAt owner j = some k
  ps : ∃ ps : List Nat, ps.length = n ∧ ∀ j, j ≤ m → oAt owner j ≠ none → j ∈ ps
theorem Sits.step {m n : Nat} {owner : Array (Option Nat)} (hm : M3 m) (W : Sits m n owner) (hn : n ≤ m) (h : Int) :
    ∃ j, SetTable.layClean.free m owner (SetTable.turns m) (SetTable.bits h % (m + 1)) (SetTable.bits h) = some j ∧ Sits m (n + 1) (owner.setIfInBounds j (some n)) := by
  obtain ⟨ps, lp, inp⟩ := W.ps
  obtain ⟨j0, hj0, out⟩ := st_missing ps (m + 1) (by omega)
  have fr : oAt owner j0 = none := by
    cases e : oAt owner j0 with
    | none => rfl
    | some k => exact absurd (inp j0 (by omega) (by rw [e]; exact fun z => nomatch z)) out
  obtain ⟨r, hr, er⟩ := meets hm h (j := j0) (by omega)
  obtain ⟨j, e1, e2, e3⟩ := found m owner (SetTable.turns m) r (SetTable.bits h % (m + 1)) (SetTable.bits h) (by unfold SetTable.turns; omega) (Nat.le_of_lt_succ (Nat.mod_lt _ (Nat.succ_pos _))) (by rw [itL_run, er]; exact fr)
  have hs : j < owner.size := by rw [W.sz]; omega
  refine ⟨j, e1, by rw [Array.size_setIfInBounds]; exact W.sz, fun k hk => ?_, j :: ps, by rw [List.length_cons, lp], fun i hi ne => ?_⟩
  · by_cases c : k = n
    · exact ⟨j, e3, by rw [c]; exact oAt_set_self _ hs⟩
    · obtain ⟨i, hi, e⟩ := W.all k (by omega)
      refine ⟨i, hi, ?_⟩
      rw [oAt_set_ne _ fun z => by rw [z, e2] at e; cases e]
      exact e
  · by_cases c : i = j
    · rw [c]; exact List.mem_cons_self
    · rw [oAt_set_ne _ c] at ne
      exact List.mem_cons_of_mem _ (inp i hi ne)
theorem sitsAll {m : Nat} (hm : M3 m) : ∀ (hs : List Int) (n : Nat) (owner : Array (Option Nat)), Sits m n owner → n + hs.length ≤ m + 1 → ∃ owner', hs.foldl (stepF m) (some (owner, n)) = some (owner', n + hs.length) ∧ Sits m (n + hs.length) owner'
  | [], n, owner, W, _ => ⟨owner, rfl, W⟩
  | h :: hs, n, owner, W, hl => by
    rw [List.length_cons] at hl
    obtain ⟨j, e, W'⟩ := W.step hm (by omega) h
    obtain ⟨o', e', W2⟩ := sitsAll hm hs (n + 1) _ W' (by omega)
    have en : n + 1 + hs.length = n + (h :: hs).length := by rw [List.length_cons]; omega
    rw [en] at e' W2
    exact ⟨o', by rw [List.foldl_cons, stepF_some e]; exact e', W2⟩
/-- a table laid anew -/
theorem laid_ok {m : Nat} (hm : M3 m) (fg mv : Nat) (led plain : Bool) {hs : Array Int} (hn : hs.size ≤ m) :
    ∃ t order, SetTable.laid m fg mv led plain hs = some (t, order) ∧ order.toList.Perm (List.range hs.size) ∧ Ris t.place.toList ∧ t.place.size = hs.size ∧ t.mask = m ∧ t.dummies = #[] ∧ t.led = led := by
  obtain ⟨owner, e, W⟩ := sitsAll hm hs.toList 0 (Array.replicate (m + 1) none) ⟨by simp, fun k hk => absurd hk (Nat.not_lt_zero _), [], rfl, fun j hj ne => absurd (oAt_init hj) ne⟩ (by rw [Array.length_toList]; omega)
  rw [Nat.zero_add, Array.length_toList] at e W
  have hl : SetTable.layClean m hs = some owner := by
    rw [layClean_eq, e]
    rfl
  have ris := ris_live (fun j => owner.getD j none) (List.range (m + 1)) (by
    unfold Ris
    first | exact List.pairwise_lt_range | exact List.pairwise_lt_range _)
  have r1 : Ris ((liveOf m owner).map (·.1)) := ris.1
  have nd : ((liveOf m owner).map (·.1)).Nodup := List.Pairwise.imp (fun h => Nat.ne_of_lt h) r1
  have every : ∀ k, k < hs.size → k ∈ (liveOf m owner).map (·.2) := fun k hk => by
    obtain ⟨j, hj, e⟩ := W.all k hk
    exact List.mem_map.mpr ⟨(j, k), (mem_live W.sz).2 ⟨hj, e⟩, rfl⟩
  have len : (liveOf m owner).length = hs.size := by
    obtain ⟨ps, lp, inp⟩ := W.ps
    have a := nat_nodup_len _ ps nd fun x hx => by
      obtain ⟨⟨y, k⟩, hq, rfl⟩ := List.mem_map.mp hx
      obtain ⟨b1, b2⟩ := (mem_live W.sz).1 hq
      exact inp y b1 (by rw [b2]; exact fun z => nomatch z)
    have b := nat_nodup_len (List.range hs.size) ((liveOf m owner).map (·.2)) List.nodup_range fun k hk => every k (List.mem_range.mp hk)
    rw [List.length_map] at a
    rw [List.length_map, List.length_range] at b
    omega
  refine ⟨{ mask := m, place := ((liveOf m owner).map (·.1)).toArray, dummies := #[], finger := fg, led, moves := mv, plain }, ((liveOf m owner).map (·.2)).toArray, ?_, ?_, r1, ?_, rfl, rfl, rfl⟩
  · unfold SetTable.laid
    rw [hl]
    rfl
  · exact perm_range hs.size _ (by show ((liveOf m owner).map (·.2)).length = hs.size; rw [List.length_map]; exact len) every
  · show ((liveOf m owner).map (·.1)).toArray.size = hs.size
    rw [List.size_toArray, List.length_map]
    exact len
theorem above : ((List.range 32).all fun n => decide (n < SetTable.sizeAbove n) && (SetTable.sizeAbove n - 1 == 7 || SetTable.sizeAbove n - 1 == 15 || SetTable.sizeAbove n - 1 == 31)) = true := by decide +kernel
theorem above_ok {n : Nat} (h : n < 32) : n ≤ SetTable.sizeAbove n - 1 ∧ M3 (SetTable.sizeAbove n - 1) := by
  have e := List.all_eq_true.mp above n (List.mem_range.mpr h)
  rw [Bool.and_eq_true, decide_eq_true_eq, Bool.or_eq_true, Bool.or_eq_true, beq_iff_eq, beq_iff_eq, beq_iff_eq, or_assoc] at e
  exact ⟨by omega, e.2⟩
end SX

set_option Elab.async false
set_option linter.all false
set_option maxRecDepth 100000
set_option maxHeartbeats 2000000
/-! sets of texts: stored, laid anew, walked, added to -/
namespace SX
open PySem PySem.Spec PyProof.Rows L2
open Froz (sObj TxOk SD)
structure At (P : Program) (w : World) (h : Heap) (a : Addr) (es : Array (Int × Value)) (ep : Nat) (t : SetTable) (l : List Str) : Prop where
  ob : h.get? a = some (sObj "set" (es, ep, t))
  tx : TxOk P w (es, ep, t) l
  nd : l.Nodup
  ris : Ris t.place.toList
  led : w.params.followText "set-order" = true ∨ t.led = true
section
variable {P : Program} {w : World} {A : Around} {E : Value → Shared → Prop} {s : Shared} {a o : Addr} {es es2 : Array (Int × Value)} {ep ep2 : Nat} {t t2 : SetTable} {l m : List Str}
theorem At.size {h : Heap} (R : At P w h a es ep t l) : es.size = l.length := R.tx.sz
theorem At.fits {h : Heap} (R : At P w h a es ep t l) : t.fits es.size = true := R.tx.fit
theorem At.set {h : Heap} (R : At P w h a es ep t l) : SetAt h a es ep t := ⟨_, R.ob, rfl, rfl⟩
theorem At.same {h h' : Heap} (R : At P w h a es ep t l) (e : h'.get? a = h.get? a) : At P w h' a es ep t l := ⟨e.trans R.ob, R.tx, R.nd, R.ris, R.led⟩
theorem At.but {h h' : Heap} (R : At P w h o es ep t l) (b : Heap.SameBut a h h') (ne : o ≠ a) : At P w h' o es ep t l := R.same (b.2 o ne)
theorem At.keep {h h' : Heap} (R : At P w h a es ep t l) (k : ∀ o, h.get? a = some o → h'.get? a = some o) : At P w h' a es ep t l := ⟨k _ R.ob, R.tx, R.nd, R.ris, R.led⟩
theorem state_x (R : At P w s.heap a es ep t l) {Q : (Array (Int × Value) × Nat × SetTable) → Shared → Prop} (h : Q (es, ep, t) s) : wpAny (model P w) A (setState a) Q E s := wpAny_setState_of R.ob rfl R.fits h
theorem epoch_x (R : At P w s.heap a es ep t l) {Q : Nat → Shared → Prop} (h : Q ep s) : wpAny (model P w) A (setEpoch a) Q E s := wpAny_setEpoch_of R.ob rfl R.fits h
/-- stored -/
theorem put_x (ob : s.heap.get? a = some (sObj "set" (es, ep, t))) (tx : ∀ ep', TxOk P w (es2, ep', t2) l) (nd : l.Nodup) (ris : Ris t2.place.toList) (led : w.params.followText "set-order" = true ∨ t2.led = true) (few : l.length < 4096) {Q : Unit → Shared → Prop}
    (h : ∀ h', Heap.SameBut a s.heap h' → At P w h' a es2 (ep + 1) t2 l → Q () { s with heap := h' }) : wpAny (model P w) A (storeSet a es2 t2) Q E s := by
  have hz : es2.size = l.length := (tx 0).sz
  refine wpAny_storeSet_of ob rfl ?_ (by rw [hz, sizeLine_eq]; omega)
  exact h _ (Heap.SameBut.update ..) ⟨store_at ob rfl, tx _, nd, ris, led⟩
/-- laid anew -/
theorem order_perm {es : Array (Int × Value)} {order : Array Nat} (hp : order.toList.Perm (List.range es.size)) : (order.filterMap (es[·]?)).toList.Perm es.toList := by
  rw [Array.toList_filterMap]
  exact (hp.filterMap _).trans (by rw [filterMap_getElem?_range])
theorem order_size {es : Array (Int × Value)} {order : Array Nat} (hp : order.toList.Perm (List.range es.size)) : (order.filterMap (es[·]?)).size = es.size := by
  rw [← Array.length_toList, (order_perm hp).length_eq, Array.length_toList]
theorem relay_x (R : At P w s.heap a es ep t l) {wanted : Nat} (hw : wanted < 32) (hl : l.length ≤ wanted) {Q : Unit → Shared → Prop}
    (hQ : ∀ h' es' t', Heap.SameBut a s.heap h' → At P w h' a es' (ep + 1) t' l → t'.dummies = #[] → M3 t'.mask → wanted ≤ t'.mask → Q () { s with heap := h' }) : wpAny (model P w) A (setRelay a wanted) Q E s := by
  obtain ⟨ha, hm⟩ := above_ok hw
  have hz := R.size
  obtain ⟨t', order, e, hp, ris, pz, em, ed, el⟩ := laid_ok hm t.finger (t.movedTo (SetTable.sizeAbove wanted - 1)) t.led t.plain (hs := es.map (·.1)) (by rw [Array.size_map]; omega)
  have er : t.relaid (es.map (·.1)) wanted = some (t', order) := e
  rw [Array.size_map] at hp pz
  have hs2 := order_size hp
  have big : SetTable.sizeAbove wanted ≤ sizeLine := by
    rw [sizeLine_eq]
    rcases hm with h | h | h <;> omega
  rw [setRelay_eq]
  refine wpAny_bind (state_x R ?_)
  dsimp only
  refine wp_if_neg (by omega) ?_
  try refine wpAny_bind (wpAny_pure ?_)
  rw [er]
  dsimp only
  refine wpAny_bind ?_
  refine wp_if_neg (by rw [hs2]; simp) ?_
  try refine wpAny_bind (wpAny_pure ?_)
  refine wpAny_pure ?_
  dsimp only
  refine put_x R.ob (fun ep' => R.tx.perm (order_perm hp) ?_) R.nd ris (by rw [el]; exact R.led) (by omega) fun h' sb R' => hQ h' _ t' sb R' ed (by rw [em]; exact hm) (by rw [em]; exact ha)
  unfold SetTable.fits SetTable.fill
  rw [ed, Bool.and_eq_true, beq_iff_eq, decide_eq_true_eq, hs2]
  refine ⟨pz, ?_⟩
  show t'.place.size + 0 ≤ t'.mask
  omega
/-- a text that is there -/
theorem add_old (R : At P w s.heap a es ep t l) {k : Str} {u : Tok} (hk : k ∈ l) (few : l.length < 4096) {Q : Bool → Shared → Prop} (h : Q false s) : wpAny (model P w) A (setAddHashed a (.str k u) (hashStr w k)) Q E s := by
  have hb : es.size < scanBound := by rw [R.size]; exact few
  obtain ⟨e, he, hp⟩ := (R.tx.mem k).mp hk
  have hel : ElemsOf (strKind P w) es.toList := R.tx.el
  unfold setAddHashed setAddHashedIn
  refine wpAny_holding (wpAny_bind (state_x R ?_))
  dsimp only
  rw [byScan_of rfl hb hel]
  simp only [↓reduceIte]
  unfold setAddByScan
  refine wpAny_bind ?_
  refine wpAny_bind (wpAny_rule ?_)
  refine wpAny_bind (wpAny_setScan_of (knd := strKind P w) (k := k) (Froz.is_str k u) R.ob rfl R.fits hel ?_)
  cases hr : es.toList.findIdx? (fun e => (strKind P w).is k e.2) with
  | none =>
    have := List.findIdx?_eq_none_iff.mp hr e he
    rw [hp] at this
    exact nomatch this
  | some j =>
    dsimp only
    exact wpAny_pure (wpAny_pure h)
theorem tail_good {ep : Nat} {es1 : Array (Int × Value)} {t2 : SetTable} {wd : Bool} (r : Ris t2.place.toList) : Ris (Froz.tailTx ep es1 t2 wd).2.2.place.toList ∧ (Froz.tailTx ep es1 t2 wd).2.2.led = t2.led := by
  unfold Froz.tailTx
  by_cases c : (!wd && t2.tooFull) = true
  · rw [if_pos c]
    exact ⟨relayAll_ris _ _ _, relayAll_led _ _ _⟩
  · rw [if_neg c]
    exact ⟨r, rfl⟩
/-- a text, put in -/
theorem add_any (R : At P w s.heap a es ep t l) {k : Str} {u : Tok} (few : l.length < 64) {Q : Bool → Shared → Prop}
    (h : ∀ b h' es' ep' t' l', Heap.SameBut a s.heap h' → At P w h' a es' ep' t' l' → (∀ z, z ∈ l' ↔ z ∈ l ∨ z = k) → l'.length ≤ l.length + 1 → Q b { s with heap := h' }) : wpAny (model P w) A (setAddHashed a (.str k u) (hashStr w k)) Q E s := by
  by_cases hk : k ∈ l
  · refine add_old R hk (by omega) (h false s.heap es ep t l (Heap.SameBut.refl a s.heap) R (fun z => ⟨.inl, fun q => q.elim id fun e => e ▸ hk⟩) (Nat.le_succ _))
  · refine Froz.add_x (D := (es, ep, t)) R.ob R.tx hk (by unfold scanBound; omega) ?_
    have F := Froz.add_ok u (k := k) R.tx
    have sb : Heap.SameBut a s.heap (s.heap.update a fun _ => sObj "set" (Froz.addTx (hashStr w k) (.str k u) (es, ep, t))) := Heap.SameBut.update ..
    have ob : (s.heap.update a fun _ => sObj "set" (Froz.addTx (hashStr w k) (.str k u) (es, ep, t))).get? a = some (sObj "set" (Froz.addTx (hashStr w k) (.str k u) (es, ep, t))) := Froz.get_upd _ R.ob rfl
    have good : Ris (Froz.addTx (hashStr w k) (.str k u) (es, ep, t)).2.2.place.toList ∧ (Froz.addTx (hashStr w k) (.str k u) (es, ep, t)).2.2.led = t.led := by
      have r1 := layNew_ris t es (hashStr w k) (.str k u) R.ris
      have l1 := layNew_led t es (hashStr w k) (.str k u)
      unfold Froz.addTx
      dsimp only
      by_cases c : (layNew t es (hashStr w k) (Value.str k u)).2.1.plain = true
      · rw [if_pos c]
        obtain ⟨g1, g2⟩ := tail_good (ep := ep) (es1 := (layNew t es (hashStr w k) (Value.str k u)).1) (t2 := { (layNew t es (hashStr w k) (Value.str k u)).2.1 with plain := false }) (wd := (layNew t es (hashStr w k) (Value.str k u)).2.2.1) r1
        exact ⟨g1, g2.trans l1⟩
      · rw [if_neg c]
        obtain ⟨g1, g2⟩ := tail_good (ep := ep) (es1 := (layNew t es (hashStr w k) (Value.str k u)).1) (t2 := (layNew t es (hashStr w k) (Value.str k u)).2.1) (wd := (layNew t es (hashStr w k) (Value.str k u)).2.2.1) r1
        exact ⟨g1, g2.trans l1⟩
    refine h true _ _ _ _ (k :: l) sb ⟨ob, F, List.nodup_cons.mpr ⟨hk, R.nd⟩, good.1, ?_⟩ (fun z => ?_) (Nat.le_refl _)
    · exact R.led.imp id fun e => good.2.trans e
    · rw [List.mem_cons]
      exact ⟨fun q => q.elim .inr .inl, fun q => q.elim .inr .inl⟩
end
end SX

set_option Elab.async false
set_option linter.all false
set_option maxRecDepth 100000
set_option maxHeartbeats 4000000
/-! sets of texts: walked, merged -/
namespace SX
open PySem PySem.Spec PyProof.Rows L2
open Froz (sObj TxOk SD)
def kOf (e : Int × Value) : Str := match e.2 with | .str k _ => k | _ => ⟨#[]⟩
section
variable {P : Program} {w : World} {A : Around} {E : Value → Shared → Prop} {s : Shared} {a o : Addr} {es es2 : Array (Int × Value)} {ep ep2 : Nat} {t t2 : SetTable} {l m : List Str}
theorem At.strs {h : Heap} (R : At P w h a es ep t l) : ∀ e ∈ es.toList, ∃ k u, k ∈ l ∧ e = (hashStr w k, Value.str k u) := fun e he => by
  obtain ⟨⟨k, hk, hh⟩, _⟩ := R.tx.el e he
  obtain ⟨u, hu⟩ := Value.isStrOf_shape (x := k) (v := e.2) hk
  exact ⟨k, u, (R.tx.mem k).mpr ⟨e, he, hk⟩, Prod.ext hh hu⟩
theorem At.keys {h : Heap} (R : At P w h a es ep t l) (z : Str) : z ∈ es.toList.map kOf ↔ z ∈ l := by
  rw [List.mem_map]
  constructor
  · rintro ⟨e, he, rfl⟩
    obtain ⟨k, u, hk, rfl⟩ := R.strs e he
    exact hk
  · intro hz
    obtain ⟨e, he, hp⟩ := (R.tx.mem z).mp hz
    obtain ⟨u, hu⟩ := Value.isStrOf_shape (x := z) (v := e.2) hp
    exact ⟨e, he, by unfold kOf; rw [hu]⟩
theorem quiet_x (R : At P w s.heap o es ep t m) (S : At P w s.heap a es2 ep2 t2 l) {Q : Bool → Shared → Prop} (h : Q true s) : wpAny (model P w) A (setsQuiet [o, a]) Q E s := by
  unfold setsQuiet
  refine wpAny_bind (wpAny_forIn_list _ (fun rest r s' => r.1 = none ∧ s' = s ∧ ∀ b ∈ rest, b = o ∨ b = a) _ (fun b rest r s' z => ?_) (fun r s' z => ?_) _ _ ⟨rfl, rfl, fun b hb => by simpa using hb⟩)
  · obtain ⟨z1, rfl, z3⟩ := z
    have more : ∀ c ∈ rest, c = o ∨ c = a := fun c hc => z3 c (List.mem_cons_of_mem _ hc)
    obtain ⟨eb, pb, tb, lb, T⟩ : ∃ es ep t l, At P w s'.heap b es ep t l := by
      rcases z3 b List.mem_cons_self with rfl | rfl
      · exact ⟨_, _, _, _, R⟩
      · exact ⟨_, _, _, _, S⟩
    dsimp only
    refine wpAny_bind ?_
    unfold setEntries
    refine wpAny_bind (state_x T (wpAny_pure ?_))
    dsimp only
    rw [← Array.forIn_toList]
    refine wpAny_bind (wpAny_forIn_list _ (fun rest r s2 => r.1 = none ∧ s2 = s' ∧ ∀ e ∈ rest, ∃ k u, e.2 = Value.str k u) _ (fun e rest r s2 z => ?_) (fun r s2 z => ?_) _ _ ⟨rfl, rfl, fun e he => ?_⟩)
    · obtain ⟨y1, rfl, y3⟩ := z
      obtain ⟨k, u, hu⟩ := y3 e List.mem_cons_self
      obtain ⟨e1, e2⟩ := e
      simp only at hu
      subst hu
      exact wpAny_pure ⟨rfl, rfl, fun e' he' => y3 e' (List.mem_cons_of_mem _ he')⟩
    · obtain ⟨r1, r2⟩ := r
      obtain ⟨y1, rfl, _⟩ := z
      simp only at y1
      subst y1
      exact wpAny_pure ⟨rfl, rfl, more⟩
    · obtain ⟨k, u, _, e2⟩ := T.strs e he
      exact ⟨k, u, by rw [e2]⟩
  · obtain ⟨r1, r2⟩ := r
    obtain ⟨z1, rfl, _⟩ := z
    simp only at z1
    subst z1
    exact wpAny_pure h
theorem setWalk_x (R : At P w s.heap o es ep t m) {Q : Array (Int × Value) → Shared → Prop} (h : ∀ ys d, ys.toList.Perm es.toList → Q ys { s with drawn := d }) : wpAny (model P w) A (setWalk o) Q E s := by
  have same : ∀ {ys : Array (Int × Value)}, ys.toList.Perm es.toList → Q ys s := fun {ys} p => h ys s.drawn p
  unfold setWalk
  refine wpAny_bind (state_x R ?_)
  dsimp only
  refine wpAny_bind (wpAny_byText ?_)
  by_cases hb : w.params.followText "set-order" = true
  · refine wp_if_pos hb ?_
    exact wpAny_bind (wpAny_askSetting (wpAny_pure (same (pick_perm _ _))))
  · refine wp_if_neg hb ?_
    try refine wpAny_bind (wpAny_pure ?_)
    by_cases hd : (!t.plain && decide (es.size > 1)) = true
    · refine wp_if_pos hd ?_
      refine wpAny_bind (drawOrder_at es.size es.toList s _ (by rw [Array.length_toList]; exact Nat.le_refl _) fun ys d p => ?_)
      exact wpAny_pure (h ys.toArray d (by simpa using p))
    · refine wp_if_neg hd ?_
      try refine wpAny_bind (wpAny_pure ?_)
      refine wpAny_bind (wpAny_of_eq (a := ()) ?_ ?_)
      · show (if (!t.led && decide (es.size > 1)) = true then unsupported "set:maker-not-led" else pure ()) = pure ()
        rw [R.led.resolve_left hb]
        rfl
      · exact wpAny_pure (same (List.Perm.refl _))
theorem walk_x (R : At P w s.heap o es ep t m) (S : At P w s.heap a es2 ep2 t2 l) (few : l.length < 4096) (ne : a ≠ o) {Q : Array (Int × Value) → Shared → Prop}
    (h : ∀ ys h' d ep' t', ys.toList.Perm es.toList → Heap.SameBut a s.heap h' → At P w h' a es2 ep' t' l → Q ys { s with heap := h', drawn := d }) : wpAny (model P w) A (setWalkUnseen o [a] (some a)) Q E s := by
  have plainly : wpAny (model P w) A (setWalk o) Q E s := setWalk_x R fun ys d p => h ys s.heap d ep2 t2 p (Heap.SameBut.refl a s.heap) S
  unfold setWalkUnseen
  refine wpAny_bind (state_x R ?_)
  dsimp only
  refine wpAny_bind (wpAny_byText ?_)
  by_cases c : (w.params.followText "set-order" || (t.led && t.plain) || decide (es.size ≤ 1)) = true
  · refine wp_if_pos c ?_
    exact plainly
  · refine wp_if_neg c ?_
    try refine wpAny_bind (wpAny_pure ?_)
    refine wpAny_bind (quiet_x R S ?_)
    refine wp_if_neg (by decide) ?_
    try refine wpAny_bind (wpAny_pure ?_)
    refine wpAny_bind (wpAny_rule ?_)
    refine wpAny_bind (state_x S ?_)
    dsimp only
    by_cases g : ((t2.led && !t.led) || (t2.plain && !t.plain)) = true
    · refine wp_if_pos g ?_
      have tl : w.params.followText "set-order" = true ∨ (t2.led && t.led) = true := by
        rcases R.led with q | q
        · exact .inl q
        · rcases S.led with q2 | q2
          · exact .inl q2
          · exact .inr (by rw [q, q2]; rfl)
      refine wpAny_bind (put_x (es2 := es2) (t2 := { t2 with led := t2.led && t.led, plain := t2.plain && t.plain }) S.ob (fun ep' => S.tx.perm (List.Perm.refl _) ?_) S.nd S.ris tl few fun h' sb S' => ?_)
      · have := S.fits
        cases t2
        exact this
      · exact wpAny_pure (h es h' s.drawn _ _ (List.Perm.refl _) sb S')
    · refine wp_if_neg g ?_
      try refine wpAny_bind (wpAny_pure ?_)
      exact wpAny_pure (h es s.heap s.drawn ep2 t2 (List.Perm.refl _) (Heap.SameBut.refl a s.heap) S)
theorem merge_x {each : Sem Unit} (S : At P w s.heap a es2 ep2 t2 l) (R : At P w s.heap o es ep t m) (ne : a ≠ o) (few : l.length + m.length ≤ 15) (fr : l = [] → t2.dummies = #[] ∧ M3 t2.mask)
    (he : ∀ (s' : Shared) (Q : Unit → Shared → Prop), At P w s'.heap o es ep t m → Q () s' → wpAny (model P w) A each Q E s') {Q : Unit → Shared → Prop}
    (h : ∀ h' d es' ep' t' l', Heap.SameBut a s.heap h' → At P w h' a es' ep' t' l' → (∀ z, z ∈ l' ↔ z ∈ l ∨ z ∈ m) → l'.length ≤ l.length + m.length → Q () { s with heap := h', drawn := d }) :
    wpAny (model P w) A (setMerge a o each) Q E s := by
  have hzo := R.size
  have hza := S.size
  unfold setMerge
  refine wp_if_neg (by simpa using ne) ?_
  try refine wpAny_bind (wpAny_pure ?_)
  refine wpAny_bind (state_x R ?_)
  dsimp only
  by_cases em : es.isEmpty = true
  · refine wp_if_pos em ?_
    have : m = [] := by
      have : es.size = 0 := by simpa using em
      exact List.eq_nil_of_length_eq_zero (hzo.symm.trans this)
    subst this
    exact wpAny_pure (h s.heap s.drawn es2 ep2 t2 l (Heap.SameBut.refl a s.heap) S (fun z => by simp) (Nat.le_add_right _ _))
  · refine wp_if_neg em ?_
    try refine wpAny_bind (wpAny_pure ?_)
    have mid : ∀ (h1 : Heap) (es1 : Array (Int × Value)) (ep1 : Nat) (t1 : SetTable), Heap.SameBut a s.heap h1 → At P w h1 a es1 ep1 t1 l → (l = [] → t1.dummies = #[] ∧ M3 t1.mask ∧ es.size ≤ t1.mask) → wpAny (model P w) A (do
        let (_, _, ts) ← setState a
        match ts.road t with
        | .slotForSlot => storeSet a es { t with finger := ts.finger, led := ts.led && t.led, moves := ts.moves, plain := ts.plain && t.plain }
        | .clean =>
          let (es, t) ← (do
            let some (t, order) := SetTable.laid ts.mask ts.finger ts.moves (led := ts.led && t.led) (plain := ts.plain && t.plain) (es.map (·.1)) | unsupported "internal:set-table-without-room"
            let es' := order.filterMap (es[·]?)
            if es'.size != es.size then unsupported "internal:set-table-lost-an-element"
            pure (es', t) : Sem (Array (Int × Value) × SetTable))
          storeSet a es t
        | .oneByOne =>
          for (h, x) in ← setWalkUnseen o [a] (some a) do
            let _ ← holding [x] (setAddHashed a x h)
            each
            if (← setState o).2.1 != ep then unsupported "set.changed-during-merge") Q E { s with heap := h1 } := fun h1 es1 ep1 t1 sb S1 f1 => by
      have R1 : At P w h1 o es ep t m := R.but sb (Ne.symm ne)
      have hz1 := S1.size
      have hp1 : t1.place.size = es1.size := by
        have := S1.fits
        unfold SetTable.fits at this
        rw [Bool.and_eq_true, beq_iff_eq] at this
        exact this.1
      have tl : w.params.followText "set-order" = true ∨ (t1.led && t.led) = true := by
        rcases R.led with q | q
        · exact .inl q
        · rcases S1.led with q2 | q2
          · exact .inl q2
          · exact .inr (by rw [q, q2]; rfl)
      refine wpAny_bind (state_x (s := { s with heap := h1 }) S1 ?_)
      dsimp only
      by_cases ll : l = []
      · subst ll
        obtain ⟨d1, m1, big⟩ := f1 rfl
        have f0 : (t1.fill != 0) = false := by
          have : t1.fill = 0 := by
            unfold SetTable.fill
            rw [d1, hp1, hz1]
            rfl
          rw [this]
          rfl
        by_cases c : (t1.mask == t.mask && t.dummies.isEmpty) = true
        · have er : t1.road t = .slotForSlot := by
            unfold SetTable.road
            rw [f0, if_neg Bool.false_ne_true, if_pos c]
          rw [er]
          dsimp only
          refine put_x (s := { s with heap := h1 }) (es2 := es) (t2 := { t with finger := t1.finger, led := t1.led && t.led, moves := t1.moves, plain := t1.plain && t.plain }) S1.ob (fun ep' => R.tx.perm (List.Perm.refl _) ?_) R.nd R.ris tl (by omega) fun h' sb' S' => h h' s.drawn _ _ _ m (sb.trans sb') S' (fun z => by simp) (by simp)
          have := R.fits
          cases t
          exact this
        · have er : t1.road t = .clean := by
            unfold SetTable.road
            rw [f0, if_neg Bool.false_ne_true, if_neg c]
          rw [er]
          dsimp only
          obtain ⟨t', order, e, hp, ris, pz, em2, ed, el⟩ := laid_ok m1 t1.finger t1.moves (t1.led && t.led) (t1.plain && t.plain) (hs := es.map (·.1)) (by rw [Array.size_map]; exact big)
          rw [Array.size_map] at hp pz
          have hs2 := order_size hp
          rw [e]
          dsimp only
          refine wpAny_bind ?_
          refine wp_if_neg (by rw [hs2]; simp) ?_
          try refine wpAny_bind (wpAny_pure ?_)
          refine wpAny_pure ?_
          dsimp only
          refine put_x (s := { s with heap := h1 }) S1.ob (fun ep' => R.tx.perm (order_perm hp) ?_) R.nd ris (by rw [el]; exact tl) (by omega) fun h' sb' S' => h h' s.drawn _ _ _ m (sb.trans sb') S' (fun z => by simp) (by simp)
          unfold SetTable.fits SetTable.fill
          rw [ed, Bool.and_eq_true, beq_iff_eq, decide_eq_true_eq, hs2]
          refine ⟨pz, ?_⟩
          show t'.place.size + 0 ≤ t'.mask
          omega
      · have er : t1.road t = .oneByOne := by
          unfold SetTable.road
          refine if_pos ?_
          have : t1.fill ≠ 0 := by
            unfold SetTable.fill
            have := List.length_pos_iff.mpr ll
            omega
          simpa using this
        rw [er]
        dsimp only
        refine wpAny_bind (walk_x (s := { s with heap := h1 }) R1 S1 (by omega) ne fun ys h2 d ep2' t2' pm sb2 S2 => ?_)
        have R2 : At P w h2 o es ep t m := R1.but sb2 (Ne.symm ne)
        rw [← Array.forIn_toList]
        refine wpAny_bind (wpAny_forIn_list _ (fun rest r s' => ∃ h' es' ep' t' l', s' = { s with heap := h', drawn := d } ∧ Heap.SameBut a s.heap h' ∧ At P w h' a es' ep' t' l' ∧ (∀ z, (z ∈ l' ∨ z ∈ rest.map kOf) ↔ z ∈ l ∨ z ∈ m) ∧ l'.length + rest.length ≤ l.length + m.length ∧ ∀ e ∈ rest, ∃ k u, e = (hashStr w k, Value.str k u)) _ (fun e rest r s' z => ?_) (fun r s' z => ?_) _ _ ⟨h2, _, _, _, l, rfl, sb.trans sb2, S2, fun z => ?_, ?_, fun e h => ?_⟩)
        · obtain ⟨h', es', ep', t', l', rfl, sb', S', hm, hl, hs⟩ := z
          obtain ⟨k, u, rfl⟩ := hs e List.mem_cons_self
          rw [List.length_cons] at hl
          dsimp only
          refine wpAny_bind (wpAny_holding ?_)
          refine add_any (s := { s with heap := h', drawn := d }) S' (by omega) fun b h3 es3 ep3 t3 l3 sb3 S3 hm3 hl3 => ?_
          have R3 : At P w h3 o es ep t m := R.but (sb'.trans sb3) (Ne.symm ne)
          refine wpAny_bind (he _ _ R3 ?_)
          refine wpAny_bind (state_x (s := { s with heap := h3, drawn := d }) R3 ?_)
          refine wp_if_neg (by simp) ?_
          refine wpAny_pure ⟨h3, es3, ep3, t3, l3, rfl, sb'.trans sb3, S3, fun z => ?_, by omega, fun e he' => hs e (List.mem_cons_of_mem _ he')⟩
          rw [← hm z, hm3 z, List.map_cons, List.mem_cons, or_assoc]
          exact Iff.rfl
        · obtain ⟨h', es', ep', t', l', rfl, sb', S', hm, hl, hs⟩ := z
          refine wpAny_pure (h h' d es' ep' t' l' sb' S' (fun z => ?_) (by simpa using hl))
          rw [← hm z]
          simp
        · rw [(pm.map kOf).mem_iff, R.keys z]
        · have e0 : es.toList.length = m.length := by rw [Array.length_toList]; exact hzo
          rw [pm.length_eq, e0]
          exact Nat.le_refl _
        · obtain ⟨k, u, _, e⟩ := R.strs e (pm.mem_iff.mp h)
          exact ⟨k, u, e⟩
    unfold setRoomFor
    refine wpAny_bind ?_
    refine wpAny_bind (state_x S ?_)
    dsimp only
    cases hr : t2.roomFor es.size with
    | none =>
      dsimp only
      refine wpAny_pure (mid s.heap es2 ep2 t2 (Heap.SameBut.refl a s.heap) S fun z => ⟨(fr z).1, (fr z).2, ?_⟩)
      unfold SetTable.roomFor at hr
      split at hr
      · cases hr
      · omega
    | some wanted =>
      dsimp only
      have hw : wanted = (t2.place.size + es.size) * 2 := by
        unfold SetTable.roomFor at hr
        split at hr
        · exact (Option.some.inj hr).symm
        · cases hr
      have hp : t2.place.size = es2.size := by
        have := S.fits
        unfold SetTable.fits at this
        rw [Bool.and_eq_true, beq_iff_eq] at this
        exact this.1
      exact relay_x S (by omega) (by omega) fun h' es' t' sb S' d1 d2 d3 => mid h' es' _ t' sb S' fun _ => ⟨d1, d2, by omega⟩
end
end SX

set_option Elab.async false
set_option linter.all false
set_option maxRecDepth 100000
set_option maxHeartbeats 4000000
/-! sets of texts: a | b -/
namespace SX
open PySem PySem.Spec PyProof.Rows L2
open Froz (sObj TxOk SD)
open PySem.Builtin.Frozenset (addrOf isAnySet slot1 copyOf updateFrom baseOf unchanged)
theorem or_eq (args : Args) : Builtin.«frozenset.__or__» args = (do
    let (l, r) ← slot1 "__or__" args
    if !(← isAnySet l <&&> isAnySet r) then rule s!"frozenset.{"__or__"}.declined"; return ← ret .notImplemented
    let a ← addrOf l
    ret (← (do
      let result ← copyOf a
      if r != .ref a then holding [result] (updateFrom s!"frozenset.{"__or__"}" (← addrOf result) r)
      return result))) := rfl
theorem entry_set_or : entryFor table "set.__or__" = some Builtin.«frozenset.__or__» :=
  entryFor_alias (id' := "frozenset.__or__") (by kernel_rfl) rfl (by decide +kernel) (by kernel_rfl)
abbrev newO (w : World) : Obj := { cls := .type "set", dict := none, data := .set #[] 0 (.fresh 0 0 (!w.params.followText "set-order")) }
section
variable {P : Program} {w : World} {A : Around} {E : Value → Shared → Prop} {s : Shared} {a o : Addr} {es es2 : Array (Int × Value)} {ep ep2 : Nat} {t t2 : SetTable} {l m : List Str}
theorem At.new {h : Heap} (e : h.get? a = some (newO w)) : At P w h a #[] 0 (.fresh 0 0 (!w.params.followText "set-order")) [] where
  ob := e
  tx := Froz.TxOk.nil (by cases w.params.followText "set-order" <;> decide)
  nd := List.nodup_nil
  ris := List.Pairwise.nil
  led := by
    show _ ∨ (!w.params.followText "set-order") = true
    cases w.params.followText "set-order"
    · exact .inr rfl
    · exact .inl rfl
theorem At.typeIs (R : At P w s.heap a es ep t l) : s.TypeIs (.ref a) "set" := ⟨_, R.ob, rfl⟩
theorem any_x (R : At P w s.heap a es ep t l) {Q : Bool → Shared → Prop} (h : Q true s) : wpAny (model P w) A (isAnySet (.ref a)) Q E s := by
  unfold isAnySet
  refine wpAny_bind (wpAny_isInstance (T := "set") (b := true) R.typeIs sub_set_self ?_)
  exact wpAny_pure h
theorem base_x (R : At P w s.heap a es ep t l) {Q : Value → Shared → Prop} (h : Q (.type "set") s) : wpAny (model P w) A (baseOf a) Q E s := by
  unfold baseOf
  refine wpAny_bind (wpAny_isInstance (T := "set") (b := true) R.typeIs sub_set_self ?_)
  exact wpAny_pure h
theorem lt_of {h : Heap} (R : At P w h a es ep t l) : a < h.objs.size := Heap.lt_size R.ob
/-- a copy -/
theorem copy_x (R : At P w s.heap a es ep t l) (few : l.length ≤ 15) {Q : Value → Shared → Prop}
    (h : ∀ h' d es' ep' t' l', Heap.SameBut s.heap.objs.size (s.heap.push (newO w)) h' → At P w h' s.heap.objs.size es' ep' t' l' → (∀ z, z ∈ l' ↔ z ∈ l) → l'.length ≤ l.length → (l' = [] → t'.dummies = #[] ∧ M3 t'.mask) → Q (.ref s.heap.objs.size) { s with heap := h', drawn := d }) :
    wpAny (model P w) A (copyOf a) Q E s := by
  have hn : (s.heap.push (newO w)).get? s.heap.objs.size = some (newO w) := Heap.get?_push_size _ rfl
  have S : At P w (s.heap.push (newO w)) s.heap.objs.size #[] 0 (.fresh 0 0 (!w.params.followText "set-order")) [] := At.new hn
  have R1 : At P w (s.heap.push (newO w)) a es ep t l := R.keep fun o e => Heap.get?_push_of_some _ e
  have ne : s.heap.objs.size ≠ a := Nat.ne_of_gt (lt_of R)
  unfold copyOf
  refine wpAny_bind (base_x R ?_)
  refine wpAny_bind (PpSet.newSet_ok ?_)
  show wpAny _ _ (addrOf (.ref s.heap.objs.size) >>= _) _ _ _
  unfold addrOf
  refine wpAny_bind (wpAny_pure ?_)
  by_cases c : l = []
  · subst c
    -- nothing to merge
    have z0 : es.size = 0 := R.size
    refine wpAny_bind ?_
    unfold setMerge
    refine wp_if_neg (by simpa using ne) ?_
    try refine wpAny_bind (wpAny_pure ?_)
    refine wpAny_bind (state_x (s := { s with heap := s.heap.push (newO w) }) R1 ?_)
    dsimp only
    refine wp_if_pos (by simpa using z0) ?_
    exact wpAny_pure (wpAny_pure (h _ s.drawn _ _ _ [] (Heap.SameBut.refl _ _) S (fun z => Iff.rfl) (Nat.le_refl _) fun _ => ⟨rfl, .inl rfl⟩))
  · refine wpAny_bind (merge_x (s := { s with heap := s.heap.push (newO w) }) S R1 ne (by simpa using few) (fun _ => ⟨rfl, .inl rfl⟩) (fun s' Q q1 q2 => wpAny_pure q2) fun h' d es' ep' t' l' sb S' hm hl => ?_)
    refine wpAny_pure (h h' d es' ep' t' l' sb S' (fun z => by rw [hm z]; simp) (by simpa using hl) fun e => absurd ?_ c)
    subst e
    cases l with
    | nil => rfl
    | cons x r => exact absurd ((hm x).mpr (.inr List.mem_cons_self)) (by simp)
/-- a | b -/
theorem or_x (L : At P w s.heap a es ep t l) (R : At P w s.heap o es2 ep2 t2 m) (few : l.length + m.length ≤ 15) {Q : Value → Shared → Prop}
    (h : ∀ h' d es' ep' t' l', Heap.SameBut s.heap.objs.size (s.heap.push (newO w)) h' → At P w h' s.heap.objs.size es' ep' t' l' → (∀ z, z ∈ l' ↔ z ∈ l ∨ z ∈ m) → l'.length ≤ l.length + m.length → Q (.ref s.heap.objs.size) { s with heap := h', drawn := d }) :
    wpAny (model P w) A (binaryOp .BitOr (.ref a) (.ref o)) Q E s := by
  refine wpAny_binaryOp_same (op := .BitOr) (T := "set") L.typeIs R.typeIs F.fills_set_or F.slot_set_or ?_
  refine wpAny_call_entry F.slot_set_or L.typeIs entry_set_or ?_ (F.args_set_or_2 _ _)
  rw [or_eq]
  refine wpAny_bind (m := slot1 "__or__" _) (wpAny_pure ?_)
  dsimp only
  refine wpAny_bind ?_
  refine wpAny_bind (any_x L ?_)
  refine any_x R ?_
  refine wp_if_neg (by decide) ?_
  try refine wpAny_bind (wpAny_pure ?_)
  refine wpAny_bind ?_
  refine wpAny_bind (copy_x L (by omega) fun h1 d1 es1 ep1 t1 l1 sb S1 m1 n1 f1 => ?_)
  by_cases c : (Value.ref o != .ref a) = true
  · refine wp_if_pos c ?_
    have hlt := lt_of R
    have ne : s.heap.objs.size ≠ o := Nat.ne_of_gt hlt
    have R1 : At P w h1 o es2 ep2 t2 m := (R.keep (h' := s.heap.push (newO w)) fun u e => Heap.get?_push_of_some _ e).but sb (Ne.symm ne)
    refine wpAny_bind (m := addrOf (.ref s.heap.objs.size)) (wpAny_pure ?_)
    refine wpAny_bind ?_
    refine wpAny_holding ?_
    unfold updateFrom
    refine wpAny_bind (any_x (s := { s with heap := h1, drawn := d1 }) R1 ?_)
    refine wp_if_pos rfl ?_
    refine wpAny_bind (m := addrOf (.ref o)) (wpAny_pure ?_)
    unfold Builtin.Frozenset.merge
    refine wpAny_bind (epoch_x (s := { s with heap := h1, drawn := d1 }) R1 ?_)
    refine merge_x (s := { s with heap := h1, drawn := d1 }) S1 R1 ne (by omega) f1 (fun s' Q' q1 q2 => ?_) fun h' d es' ep' t' l' sb2 S' hm hl => ?_
    · unfold unchanged
      refine wpAny_bind (epoch_x q1 ?_)
      refine wp_if_neg (by simp) ?_
      exact wpAny_pure q2
    · refine wpAny_pure (wpAny_pure ⟨_, rfl, (fun z => nomatch z), ?_⟩)
      exact h h' d es' ep' t' l' (sb.trans sb2) S' (fun z => by rw [hm z, m1 z]) (by omega)
  · refine wp_if_neg c ?_
    try refine wpAny_bind (wpAny_pure ?_)
    have e : o = a := by simpa using c
    subst e
    have em : ∀ z, z ∈ m ↔ z ∈ l := fun z => by
      rw [← R.keys z, ← L.keys z]
      have := L.ob.symm.trans R.ob
      have e2 := Option.some.inj this
      unfold sObj at e2
      injection e2 with _ _ e3 _
      injection e3 with e4 _ _
      have e5 : es = es2 := e4
      rw [e5]
    refine wpAny_pure (wpAny_pure ⟨_, rfl, (fun z => nomatch z), ?_⟩)
    exact h h1 d1 es1 ep1 t1 l1 sb S1 (fun z => by rw [m1 z, em z]; simp) (by omega)
end
end SX

set_option Elab.async false
set_option linter.all false
set_option maxRecDepth 100000
set_option maxHeartbeats 4000000
/-! sets of texts: set(x), x a tuple or a list of texts, or a dict with text keys -/
namespace SX
open PySem PySem.Spec PyProof.Rows L2
open Froz (sObj TxOk SD)
open PySem.Builtin.Frozenset (addrOf isAnySet updateFrom)
section
variable {P : Program} {w : World} {A : Around} {E : Value → Shared → Prop} {s : Shared} {a o : Addr} {es es2 : Array (Int × Value)} {ep ep2 : Nat} {t t2 : SetTable} {l m : List Str}
/-- the loop that fills it: ks the texts that come -/
theorem fill {I : Addr} {fp wr : List Addr} {G : Array GenState → Array GenState → Prop} {n : Nat} {Pv : Nat → Value → Prop} {St : Nat → Shared → Prop} {R : Result → Shared → Prop}
    (W : WalksS P w A.in1 I fp wr G n Pv St) (S : Addr) (hSf : S ∉ fp) (ks : List Str) (hn : n = ks.length) (few : ks.length ≤ 15) (hval : ∀ i v, Pv i v → ∃ k u, ks[i]? = some k ∧ v = .str k u)
    (h0 : Heap) (hS0 : h0.get? S = none) (hw0 : ∀ b ∈ wr, h0.get? b = none) :
    ∀ (m i : Nat) (s : Shared), n - i = m → i ≤ n → St i s → (∀ b o, h0.get? b = some o → s.heap.get? b = some o) → (∃ es ep t l, At P w s.heap S es ep t l ∧ (∀ z, z ∈ l ↔ z ∈ ks.take i) ∧ l.length ≤ i) →
      (∀ s' es ep t l, Moved (S :: wr) G s s' → At P w s'.heap S es ep t l → (∀ z, z ∈ l ↔ z ∈ ks) → l.length ≤ ks.length → (∀ b o, h0.get? b = some o → s'.heap.get? b = some o) → R (.ok (.ret .none)) s') →
      codeAny (model P w) A (.builtin "set.update.loop" ⟨[.ref S, .ref I], []⟩) R s := by
  have hSw : S ∉ wr := fun h => hSf (W.sub _ h)
  have wide : ∀ b ∈ wr, b ∈ S :: wr := fun b hb => List.mem_cons_of_mem _ hb
  have stay : ∀ {s s' : Shared}, Moved wr G s s' → (∀ b o, h0.get? b = some o → s.heap.get? b = some o) → ∀ b o, h0.get? b = some o → s'.heap.get? b = some o := fun hm z b o e =>
    hm.heap b o (fun hb => by rw [hw0 b hb] at e; cases e) (z b o e)
  intro m
  induction m with
  | zero =>
    intro i s hk' hi hst hkp ⟨es, ep, t, l, T, g, gl⟩ hR
    obtain rfl : i = n := by omega
    refine codeAny_builtin F.entry_set_update_loop ?_
    rw [Around.under_plainId F.plain_set_update_loop _]
    show wpAny _ A.in1 (pyNext (.ref I) >>= _) _ _ s
    refine wpAny_bind (W.done s _ _ hst fun s' hm => ?_)
    show wpAny _ A.in1 (ret Value.none) _ _ s'
    exact wpAny_pure (hR s' es ep t l (hm.mono wide) (T.keep fun o e => hm.heap S o hSw e) (fun z => by rw [g z, hn, List.take_length]) (by omega) (stay hm hkp))
  | succ m ih =>
    intro i s hk' hi hst hkp ⟨es, ep, t, l, T, g, gl⟩ hR
    have hlt : i < n := by omega
    refine codeAny_builtin F.entry_set_update_loop ?_
    rw [Around.under_plainId F.plain_set_update_loop _]
    show wpAny _ A.in1 (pyNext (.ref I) >>= _) _ _ s
    refine wpAny_bind (W.item i s _ _ hlt hst fun v s' hP hst' hm => ?_)
    obtain ⟨k, u, hq, rfl⟩ := hval i v hP
    have z := stay hm hkp
    have T' : At P w s'.heap S es ep t l := T.keep fun o e => hm.heap S o hSw e
    show wpAny _ A.in1 (holding [Value.str k u] (setAdd S (.str k u)) >>= _) _ _ s'
    refine wpAny_bind (wpAny_holding ?_)
    unfold setAdd
    refine wpAny_holding ?_
    refine wpAny_bind ((strKind P w).pyHash (Froz.is_str k u) ?_)
    refine add_any (s := { s' with toks := s'.toks + 1 }) T' (by omega) fun b h' es' ep' t' l' sb T2 c1 c2 => ?_
    have et : ks.take (i + 1) = ks.take i ++ [k] := L2.take_next hq
    have z2 : ∀ b o, h0.get? b = some o → h'.get? b = some o := fun b o e => (sb.2 b (fun y => by rw [y, hS0] at e; cases e)).trans (z b o e)
    refine wpAny_pure ⟨plainId_quiet F.plain_set_update_loop _, ih (i + 1) _ (by omega) hlt (W.frame _ s' _ _ hst' (Nat.le_add_right _ _) fun b hb o e => ?_) z2 ⟨es', ep', t', l', T2, fun y => ?_, by omega⟩ fun s2 es2 ep2 t2 l2 hm2 T3 g3 l3 z3 => ?_⟩
    · rw [sb.2 b (fun h : b = S => hSf (by rw [← h]; exact hb))]; exact e
    · rw [c1 y, g y, et, List.mem_append, List.mem_singleton]
    · refine hR s2 es2 ep2 t2 l2 (Moved.trans W.gtrans ((hm.mono wide).then_heap (Nat.le_add_right _ _) fun b o hb e => ?_) hm2) T3 g3 l3 z3
      rw [sb.2 b (fun h : b = S => hb (by rw [h]; exact List.mem_cons_self))]; exact e
/-- set(x): what updateFrom has to do -/
theorem call_set {x : Value} {Q : Value → Shared → Prop} (ks : List Str)
    (up : ∀ (A' : Around) (s1 : Shared) (Q' : Unit → Shared → Prop), s1 = { s with heap := s.heap.push (newO w) } → A'.handled = A.handled → (∀ h' d tk es ep t l, At P w h' s.heap.objs.size es ep t l → (∀ z, z ∈ l ↔ z ∈ ks) → l.length ≤ ks.length → (∀ b o, s.heap.get? b = some o → h'.get? b = some o) → Q' () { s with heap := h', drawn := d, toks := tk }) →
      wpAny (model P w) A' (updateFrom "set.__init__" s.heap.objs.size x) Q' E s1)
    (h : ∀ (h' : Heap) d (tk : Nat) es ep t l, At P w h' s.heap.objs.size es ep t l → (∀ z, z ∈ l ↔ z ∈ ks) → l.length ≤ ks.length → (∀ b o, s.heap.get? b = some o → h'.get? b = some o) → Q (.ref s.heap.objs.size) { s with heap := h', drawn := d, toks := tk }) :
    wpAny (model P w) A (call (.type "set") [x]) Q E s := by
  obtain ⟨c, tl, hmro⟩ := F.called_set.mro
  have hmade := F.called_set.made
  have hsub := F.called_set.sub
  refine wpAny_call (codeAny_of_tree ?_)
  show wpAny _ _ (callAny (.type "set") _) _ _ _
  refine wpAny_pure ⟨Code.quiet_builtin _ (by decide +kernel), codeAny_builtin F.entry_type_call ?_⟩
  rw [Around.under_plain (weight_type_call_type "set" [x] []) rfl]
  have h1 := F.called_set.notType
  have h2 := F.called_set.canCreate
  have hct := F.typeCall_set_1 x
  repeat (any_goals (first | assumption | wp_step))
  refine codeAny_mono (code_set_led1 x (E := E) (Q₁ := fun obj s₁ => obj = .ref s.heap.objs.size ∧ s₁ = { s with heap := s.heap.push (newO w) }) ⟨rfl, rfl⟩) fun r s₁ hr => ?_
  rcases r with e | fl
  · exact hr
  cases fl with
  | ret obj =>
    obtain ⟨rfl, rfl⟩ := hr
    have hS : (s.heap.push (newO w)).get? s.heap.objs.size = some (newO w) := Heap.get?_push_size _ rfl
    have hT : Shared.TypeIs { s with heap := s.heap.push (newO w) } (.ref s.heap.objs.size) "set" := ⟨_, hS, rfl⟩
    have hli := F.called_set.init.lookup
    have hbi := F.called_set.init.bind (.ref s.heap.objs.size)
    repeat (any_goals (first | assumption | wp_step))
    refine codeAny_mono (codeAny_call_builtin (R := wants (fun r s₂ => r = .none ∧ ∃ h' d tk es ep t l, s₂ = { s with heap := h', drawn := d, toks := tk } ∧ At P w h' s.heap.objs.size es ep t l ∧ (∀ z, z ∈ l ↔ z ∈ ks) ∧ l.length ≤ ks.length ∧
        (∀ b o, s.heap.get? b = some o → h'.get? b = some o)) E) F.called_set.init.plain F.entry_set_init (check_set_init_1 hT ?_)) fun r₂ s₂ hr₂ => ?_
    · have R0 : At P w (s.heap.push (newO w)) s.heap.objs.size #[] 0 (.fresh 0 0 (!w.params.followText "set-order")) [] := At.new hS
      unfold Builtin.«set.__init__» noKeywords
      generalize hUF : updateFrom = UF
      wp_walk
      subst hUF
      exact up _ _ _ rfl (by simp) fun h' d tk es ep t l T g gl z => wpAny_pure ⟨rfl, h', d, tk, es, ep, t, l, rfl, T, g, gl, z⟩
    · rcases r₂ with e | fl₂
      · exact hr₂
      cases fl₂ with
      | ret r =>
        obtain ⟨rfl, h', d, tk, es, ep, t, l, rfl, T, g, gl, z⟩ := hr₂
        repeat (any_goals (first | assumption | wp_step))
        exact h _ _ _ _ _ _ _ T g gl z
      | _ => exact hr₂.elim
  | _ => exact hr.elim
end
end SX

set_option Elab.async false
set_option linter.all false
set_option maxRecDepth 100000
set_option maxHeartbeats 4000000
/-! sets of texts: from a tuple, a list, a dict -/
namespace SX
open PySem PySem.Spec PyProof.Rows L2
open Froz (sObj TxOk SD)
open PySem.Builtin.Frozenset (addrOf isAnySet updateFrom)
section
variable {P : Program} {w : World} {A : Around} {E : Value → Shared → Prop} {s : Shared} {a o : Addr} {es es2 : Array (Int × Value)} {ep ep2 : Nat} {t t2 : SetTable} {l m : List Str}
theorem strs_at : ∀ {us : List Value} {ks : List Str}, StrsAre us ks → ∀ (i : Nat) (v : Value), us[i]? = some v → ∃ k u, ks[i]? = some k ∧ v = .str k u
  | _, _, .nil, i, v, h => by simp at h
  | _, _, .cons y u r, 0, v, h => ⟨y, u, rfl, (Option.some.inj h).symm⟩
  | _, _, .cons y u r, i + 1, v, h => by
    obtain ⟨k, u', a, b⟩ := strs_at r i v (by simpa using h)
    exact ⟨k, u', by simpa using a, b⟩
theorem strs_len : ∀ {us : List Value} {ks : List Str}, StrsAre us ks → us.length = ks.length
  | _, _, .nil => rfl
  | _, _, .cons _ _ r => by rw [List.length_cons, List.length_cons, strs_len r]
theorem up_tup {id : String} {l : Addr} {items : Array Value} {ks : List Str} {Q : Unit → Shared → Prop} (hl : s.heap.IsTuple l items) (hit : StrsAre items.toList ks) (few : ks.length ≤ 15) (hh : A.handled = none)
    (h : ∀ h' d tk es ep t l, At P w h' s.heap.objs.size es ep t l → (∀ z, z ∈ l ↔ z ∈ ks) → l.length ≤ ks.length → (∀ b o, s.heap.get? b = some o → h'.get? b = some o) → Q () { s with heap := h', drawn := d, toks := tk }) :
    wpAny (model P w) A (updateFrom id s.heap.objs.size (.ref l)) Q E { s with heap := s.heap.push (newO w) } := by
  have hsz : items.size = ks.length := by rw [← Array.length_toList, strs_len hit]
  have hS : (s.heap.push (newO w)).get? s.heap.objs.size = some (newO w) := Heap.get?_push_size _ rfl
  obtain ⟨ol, hol, hcl, nl, hdl⟩ := hl
  obtain ⟨ocls, odict, odata, oslots⟩ := ol
  simp only at hcl hdl
  subst hcl; subst hdl
  have hol' : (s.heap.push (newO w)).get? l = some { cls := .type "tuple", dict := odict, data := .seq items nl, slots := oslots } := Heap.get?_push_of_some _ hol
  have hT' : Shared.TypeIs { s with heap := s.heap.push (newO w) } (.ref l) "tuple" := ⟨_, hol', rfl⟩
  have hl1 : (s.heap.push (newO w)).IsTuple l items := ⟨_, hol', rfl, nl, rfl⟩
  have hlS : l < s.heap.objs.size := Heap.lt_size hol
  have hsize : (s.heap.push (newO w)).objs.size = s.heap.objs.size + 1 := Heap.size_push ..
  have hneI : l ≠ (s.heap.push (newO w)).objs.size := by rw [hsize]; exact Nat.ne_of_lt (Nat.lt_succ_of_lt hlS)
  have hSf : s.heap.objs.size ∉ [(s.heap.push (newO w)).objs.size, l] := by
    rw [hsize]
    simp only [List.mem_cons, List.not_mem_nil, or_false, not_or]
    exact ⟨Nat.ne_of_lt (Nat.lt_succ_self _), Nat.ne_of_gt hlS⟩
  have hval : ∀ (i : Nat) (v : Value), items[i]? = some v → ∃ k u, ks[i]? = some k ∧ v = .str k u := fun i v hv => strs_at hit i v (by rw [Array.getElem?_toList]; exact hv)
  have off : ∀ b, s.heap.objs.size ≤ b → s.heap.get? b = none := fun b hb => by
    cases z : s.heap.get? b with
    | none => rfl
    | some o => exact absurd (Nat.lt_of_lt_of_le (Heap.lt_size z) hb) (Nat.lt_irrefl _)
  have hh3 : A.in1.handled = none := by simp [hh]
  unfold updateFrom
  refine wpAny_bind (m := isAnySet _) ?_
  unfold isAnySet
  refine wpAny_bind (wpAny_isInstance (b := false) hT' F.sub_tuple_set ?_)
  refine wpAny_isInstance (b := false) hT' F.sub_tuple_frozenset ?_
  refine wp_if_neg (by decide) ?_
  try refine wpAny_bind (wpAny_pure ?_)
  refine wpAny_bind (wpAny_typeOf hT' ?_)
  refine wp_if_neg (by decide) ?_
  try refine wpAny_bind (wpAny_pure ?_)
  refine wpAny_bind (wpAny_pyIter_tuple hl1 ?_)
  refine wpAny_bind (wpAny_runValue ?_)
  refine fill ((Walks.tuple hh3 _ l hneI items).toS) s.heap.objs.size hSf ks hsz few hval s.heap (off _ (Nat.le_refl _)) (fun b hb => off b (by rw [List.mem_singleton.mp hb, hsize]; exact Nat.le_succ _)) (items.size - 0) 0 _ (by omega) (Nat.zero_le _)
    ⟨⟨_, Heap.get?_push_size _ rfl, rfl, rfl⟩, (hl1.push _)⟩ (fun b o e => Heap.get?_push_of_some _ (Heap.get?_push_of_some _ e)) ⟨_, _, _, [], At.new (Heap.get?_push_of_some _ hS), fun z => by simp, Nat.le_refl _⟩ fun s' es ep t l' hm T g gl z => ?_
  obtain ⟨h', g2, d', tk', os'⟩ := s'
  obtain rfl : g2 = s.gens := hm.gens
  obtain rfl : os' = s.os := hm.os
  exact wpAny_pure (h h' d' tk' es ep t l' T g gl z)
theorem up_dict {id : String} {d : Addr} {ob : Obj} {ds : Array DictEntry} {dep : Nat} {ks : List Str} {Q : Unit → Shared → Prop} (ho : s.heap.get? d = some ob) (hc : ob.cls = .type "dict") (hd : ob.data = .dict ds dep) (sys : (d == sysModules) = false) (hsz : ds.size = ks.length)
    (hk : ∀ (i : Nat) (e : DictEntry), ds[i]? = some e → ∃ k u, ks[i]? = some k ∧ e.key = .str k u ∧ e.hash = hashStr w k) (few : ks.length ≤ 15)
    (h : ∀ h' es ep t l, At P w h' s.heap.objs.size es ep t l → (∀ z, z ∈ l ↔ z ∈ ks) → l.length ≤ ks.length → (∀ b o, s.heap.get? b = some o → h'.get? b = some o) → Q () { s with heap := h' }) :
    wpAny (model P w) A (updateFrom id s.heap.objs.size (.ref d)) Q E { s with heap := s.heap.push (newO w) } := by
  have hS : (s.heap.push (newO w)).get? s.heap.objs.size = some (newO w) := Heap.get?_push_size _ rfl
  have ho' : (s.heap.push (newO w)).get? d = some ob := Heap.get?_push_of_some _ ho
  have hT' : Shared.TypeIs { s with heap := s.heap.push (newO w) } (.ref d) "dict" := ⟨_, ho', hc⟩
  have hlt : d < s.heap.objs.size := Heap.lt_size ho
  have ne : d ≠ s.heap.objs.size := Nat.ne_of_lt hlt
  have there : ∀ {h1 : Heap}, Heap.SameBut s.heap.objs.size (s.heap.push (newO w)) h1 → h1.get? d = some ob := fun sb => (sb.2 d ne).trans ho'
  have old : ∀ {h1 : Heap}, Heap.SameBut s.heap.objs.size (s.heap.push (newO w)) h1 → ∀ b o, s.heap.get? b = some o → h1.get? b = some o := fun sb b o e => (sb.2 b (Nat.ne_of_lt (Heap.lt_size e))).trans (Heap.get?_push_of_some _ e)
  have S0 : At P w (s.heap.push (newO w)) s.heap.objs.size #[] 0 (.fresh 0 0 (!w.params.followText "set-order")) [] := At.new hS
  unfold updateFrom
  refine wpAny_bind (m := isAnySet _) ?_
  unfold isAnySet
  refine wpAny_bind (wpAny_isInstance (b := false) hT' (by rw [isSubtype_type]; kernel_rfl) ?_)
  refine wpAny_isInstance (b := false) hT' (by rw [isSubtype_type]; kernel_rfl) ?_
  refine wp_if_neg (by decide) ?_
  try refine wpAny_bind (wpAny_pure ?_)
  refine wpAny_bind (wpAny_typeOf hT' ?_)
  refine wp_if_pos (by decide) ?_
  refine wpAny_bind (wpAny_rule ?_)
  refine wpAny_bind (m := addrOf (.ref d)) (wpAny_pure ?_)
  refine wp_if_neg (by rw [sys]; decide) ?_
  try refine wpAny_bind (wpAny_pure ?_)
  refine wpAny_bind (wpAny_dictEpoch ho' hd ?_)
  refine wpAny_bind (wpAny_dictEntries ho' hd ?_)
  have mid : ∀ (h1 : Heap) (es1 : Array (Int × Value)) (ep1 : Nat) (t1 : SetTable), Heap.SameBut s.heap.objs.size (s.heap.push (newO w)) h1 → At P w h1 s.heap.objs.size es1 ep1 t1 [] → wpAny (model P w) A (do
      for i in [0:(← dictEntries d).size] do
        let some e := (← dictEntries d)[i]? | unsupported "internal:set-from-dict"
        let _ ← holding [e.key] (setAddHashed s.heap.objs.size e.key e.hash)
        if (← dictEpoch d) != dep then unsupported s!"{id}:changed-during-callback"
      return) Q E { s with heap := h1 } := fun h1 es1 ep1 t1 sb S1 => by
    refine wpAny_bind (wpAny_dictEntries (s := { s with heap := h1 }) (there sb) hd ?_)
    rw [Std.Legacy.Range.forIn_eq_forIn_range']
    simp only [Std.Legacy.Range.size, Nat.sub_zero, Nat.add_sub_cancel, Nat.div_one]
    refine wpAny_bind ?_
    refine wpAny_forIn_list _
      (fun rest r s' => ∃ i h' es' ep' t' l', rest = List.range' i (ds.size - i) ∧ i ≤ ds.size ∧ s' = { s with heap := h' } ∧ Heap.SameBut s.heap.objs.size (s.heap.push (newO w)) h' ∧ At P w h' s.heap.objs.size es' ep' t' l' ∧ (∀ z, z ∈ l' ↔ z ∈ ks.take i) ∧ l'.length ≤ i)
      _ (fun x rest r s' z => ?_) (fun r s' z => ?_) _ _ ⟨0, h1, _, _, _, [], by simp, Nat.zero_le _, rfl, sb, S1, fun z => by simp, Nat.le_refl _⟩
    · obtain ⟨i, h', es', ep', t', l', er, hi, rfl, sb', S', hm, hl⟩ := z
      have hlt' : i < ds.size := by
        rcases Nat.lt_or_ge i ds.size with h | h
        · exact h
        · rw [Nat.sub_eq_zero_of_le h] at er; simp at er
      obtain ⟨rfl, er'⟩ : x = i ∧ rest = List.range' (i + 1) (ds.size - (i + 1)) := by
        have e : ds.size - i = (ds.size - (i + 1)) + 1 := by omega
        rw [e, List.range'_succ] at er
        injection er with h1 h2
        exact ⟨h1, h2⟩
      refine wpAny_bind (wpAny_dictEntries (s := { s with heap := h' }) (there sb') hd ?_)
      obtain ⟨k, u, ek, ey, eh⟩ := hk x ds[x] (Array.getElem?_eq_getElem hlt')
      rw [Array.getElem?_eq_getElem hlt']
      dsimp only
      rw [ey, eh]
      refine wpAny_bind (wpAny_holding ?_)
      refine add_any (s := { s with heap := h' }) S' (by omega) fun b h3 es3 ep3 t3 l3 sb3 S3 hm3 hl3 => ?_
      refine wpAny_bind (wpAny_dictEpoch (s := { s with heap := h3 }) (there (sb'.trans sb3)) hd ?_)
      refine wp_if_neg (by simp) ?_
      refine wpAny_pure ⟨x + 1, h3, es3, ep3, t3, l3, er', hlt', rfl, sb'.trans sb3, S3, fun z => ?_, by omega⟩
      have et : ks.take (x + 1) = ks.take x ++ [k] := L2.take_next ek
      rw [hm3 z, hm z, et, List.mem_append, List.mem_singleton]
    · obtain ⟨i, h', es', ep', t', l', er, hi, rfl, sb', S', hm, hl⟩ := z
      have ei : i = ds.size := by
        have := congrArg List.length er
        rw [List.length_nil, List.length_range'] at this
        omega
      refine wpAny_pure (h h' es' ep' t' l' S' (fun z => ?_) (by omega) (old sb'))
      rw [hm z, ei, hsz, List.take_length]
  unfold setRoomFor
  refine wpAny_bind ?_
  refine wpAny_bind (state_x (s := { s with heap := s.heap.push (newO w) }) S0 ?_)
  dsimp only
  cases hr : (SetTable.fresh 0 0 (!w.params.followText "set-order")).roomFor ds.size with
  | none =>
    dsimp only
    exact wpAny_pure (mid _ _ _ _ (Heap.SameBut.refl _ _) S0)
  | some wanted =>
    dsimp only
    have hw : wanted = (0 + ds.size) * 2 := by
      unfold SetTable.roomFor at hr
      split at hr
      · exact (Option.some.inj hr).symm
      · cases hr
    exact relay_x (s := { s with heap := s.heap.push (newO w) }) S0 (by omega) (Nat.zero_le _) fun h' es' t' sb S' _ _ _ => mid h' es' _ t' sb S'
end
end SX

set_option Elab.async false
set_option linter.all false
set_option maxRecDepth 100000
set_option maxHeartbeats 4000000
/-! sets of texts over the layer: set(t), set(d), a | b, sorted(a) -/
namespace SX
open PySem PySem.Spec PyProof.Rows L2
theorem permOf : ∀ (l m : List Str), l.Nodup → (∀ z, z ∈ l → z ∈ m) → m.length ≤ l.length → m.Perm l
  | [], m, _, _, hl => by
    rw [List.eq_nil_of_length_eq_zero (Nat.le_zero.mp hl)]
  | x :: l, m, nd, hs, hl => by
    obtain ⟨h1, h2⟩ := List.nodup_cons.mp nd
    have hx := hs x List.mem_cons_self
    refine (List.perm_cons_erase hx).trans ((permOf l (m.erase x) h2 (fun z hz => (List.mem_erase_of_ne fun (e : z = x) => h1 (e ▸ hz)).2 (hs z (List.mem_cons_of_mem _ hz))) ?_).cons x)
    rw [List.length_erase_of_mem hx]
    rw [List.length_cons] at hl
    omega
/-- the set of the texts l at a -/
def SetX (P : Program) (w : World) (a : Addr) (l : List Str) : HO := .ext fun h => ∃ es ep t, At P w h a es ep t l
section
variable {X : Cx} {pins : List (Addr × Obj)} {σ : L2.St} {H : Hp} {s : Shared} {a : Addr} {l m : List Str}
theorem setX_new {P : Program} {w : World} {H : Hp} {h : Heap} {es : Array (Int × Value)} {ep : Nat} {t : SetTable} (R : At P w h a es ep t l) : ObjOk P w H h a (SetX P w a l) :=
  ⟨⟨es, ep, t, R⟩, ⟨_, R.ob⟩, fun h1 h2 ⟨es, ep, t, R⟩ k => ⟨es, ep, t, R.keep k⟩⟩
theorem setX_get (I : Inv X pins σ H s) (ha : H a = some (SetX X.prog X.w a l)) : ∃ es ep t, At X.prog X.w s.heap a es ep t l := (I.hok a _ ha).1
theorem laidD {h' : Heap} {d : Drawn} {tk : Nat} {p : Addr} {o : HO} (I : Inv X pins σ H s) (k : ∀ b u, s.heap.get? b = some u → h'.get? b = some u) (hp : s.heap.objs.size ≤ p) (ok : ObjOk X.prog X.w (upd H p o) h' p o) :
    Inv X pins σ (upd H p o) { s with heap := h', drawn := d, toks := tk } :=
  I.call (ch := []) (Un.laid k hp (I.hok.fresh hp)) (I.hok.laid k hp ok) I.bare (fun _ z => nomatch z)
/-- set(t) -/
def rSetT (P : Program) (w : World) (K : PySem.W.Frag) : List V → Hp → VK → Prop := fun xs H Q => ∃ (p : Addr) (ks : List Str), xs = [.ref p] ∧ SqT K H p (ks.map V.str) ∧ ks.length ≤ 15 ∧
  ∀ l q, l.Nodup → (∀ z, z ∈ l ↔ z ∈ ks) → l.length ≤ ks.length → H q = none → Q (.ref q) (upd H q (SetX P w q l))
theorem cr_setT (hc : X.calm = true) : CallR X (.type "set") (rSetT X.prog X.w X.K) := by
  intro pins s σ H xs us Q I r h
  obtain ⟨p, ks, rfl, hq, few, q⟩ := h
  rw [Vals.ref1 r]
  obtain ⟨its, rv, hT, hz⟩ := I.tuple hq
  refine call_set ks (fun A' s1 Q' e1 e2 h => ?_) fun h' d tk es ep t l T g gl z => ?_
  · subst e1
    exact up_tup hT (by simpa using strsAre_of rv) few (by rw [e2]; exact I.ok.hd hc) h
  · exact ⟨.ref _, _, laidD I z (Nat.le_refl _) (setX_new T), rfl, q l _ T.nd g gl (I.hok.fresh (Nat.le_refl _))⟩
/-- set(d) -/
def rSetD (P : Program) (w : World) : List V → Hp → VK → Prop := fun xs H Q => ∃ (p : Addr) (kvs : List (Key × V)) (ks : List Str), xs = [.ref p] ∧ H p = some (.dK kvs) ∧ kvs.map (·.1) = (ks.map Sum.inr : List Key) ∧ ks.length ≤ 15 ∧
  ∀ l q, l.Nodup → (∀ z, z ∈ l ↔ z ∈ ks) → l.length ≤ ks.length → H q = none → Q (.ref q) (upd H q (SetX P w q l))
theorem cr_setD : CallR X (.type "set") (rSetD X.prog X.w) := by
  intro pins s σ H xs us Q I r h
  obtain ⟨p, kvs, ks, rfl, hd, hk, few, q⟩ := h
  rw [Vals.ref1 r]
  obtain ⟨z, lo, vs, rel, dd⟩ := dk_of I.hok hd
  obtain ⟨ep, ob, es, ho, hex, hdat, hko, hpr, hnd⟩ := dd.dictAt
  have hkeys : vs.map (·.1) = ks.map Sum.inr := rel.keys.symm.trans hk
  have hl : vs.length = ks.length := by
    have e := congrArg List.length hkeys
    rw [List.length_map, List.length_map] at e
    exact e
  have hsz : es.size = ks.length := by rw [← Array.length_toList, hpr.length, hl]
  have hat : ∀ (i : Nat) (e : DictEntry), es[i]? = some e → ∃ k u, ks[i]? = some k ∧ e.key = .str k u ∧ e.hash = hashStr X.w k := fun i e he => by
    have hi : i < es.size := by
      rcases Nat.lt_or_ge i es.size with c | c
      · exact c
      · rw [Array.getElem?_eq_none c] at he; cases he
    obtain ⟨⟨k, v⟩, ekv⟩ : ∃ kv, vs[i]? = some kv := ⟨_, List.getElem?_eq_getElem (by omega)⟩
    obtain ⟨h1, _⟩ := hpr.get? (i := i) (e := e) (k := k) (v := v) (by rw [Array.getElem?_toList]; exact he) ekv
    obtain ⟨k', h2, hh⟩ := hko e (Array.mem_of_getElem? he)
    have ek : k' = k := (mixKind X.prog X.w).inj _ _ _ h2 h1
    subst ek
    have e3 : (vs.map (·.1))[i]? = some k' := by rw [List.getElem?_map, ekv]; rfl
    rw [hkeys, List.getElem?_map] at e3
    obtain ⟨y, e4, e5⟩ := Option.map_eq_some_iff.mp e3
    subst e5
    obtain ⟨u, hu⟩ := Value.isStrOf_shape (x := y) (v := e.key) h1
    exact ⟨y, u, e4, hu, hh⟩
  refine call_set ks (fun A' s1 Q' e1 e2 h => ?_) fun h' d tk es ep t l T g gl z => ?_
  · subst e1
    exact up_dict ho hex.1 hdat lo hsz hat few fun h' es ep t l T g gl z => h h' s.drawn s.toks es ep t l T g gl z
  · exact ⟨.ref _, _, laidD I z (Nat.le_refl _) (setX_new T), rfl, q l _ T.nd g gl (I.hok.fresh (Nat.le_refl _))⟩
/-- a | b -/
def rOr (P : Program) (w : World) : V → V → Hp → VK → Prop := fun x y H Q => ∃ (a b : Addr) (l m : List Str), x = .ref a ∧ y = .ref b ∧ H a = some (SetX P w a l) ∧ H b = some (SetX P w b m) ∧ l.length + m.length ≤ 15 ∧
  ∀ l' q, l'.Nodup → (∀ z, z ∈ l' ↔ z ∈ l ∨ z ∈ m) → l'.length ≤ l.length + m.length → H q = none → Q (.ref q) (upd H q (SetX P w q l'))
theorem op_orX : OpR X (binaryOp .BitOr) (rOr X.prog X.w) := by
  intro pins s σ H x y v u Q I rx ry h
  obtain ⟨a, b, l, m, rfl, rfl, ha, hb, few, q⟩ := h
  cases rx
  cases ry
  obtain ⟨es, ep, t, L⟩ := setX_get I ha
  obtain ⟨es2, ep2, t2, R⟩ := setX_get I hb
  refine or_x L R few fun h' d es' ep' t' l' sb T g gl => ?_
  exact ⟨.ref _, _, laidD I (fun b u e => (sb.2 b (Nat.ne_of_lt (Heap.lt_size e))).trans (Heap.get?_push_of_some _ e)) (Nat.le_refl _) (setX_new T), rfl, q l' _ T.nd g gl (I.hok.fresh (Nat.le_refl _))⟩
/-- sorted(a) -/
def kV2 (v : Value) : Str := match v with | .str k _ => k | _ => ⟨#[]⟩
theorem strsOf : ∀ (vs : List Value), (∀ v ∈ vs, ∃ k u, v = Value.str k u) → StrsAre vs (vs.map kV2)
  | [], _ => .nil
  | v :: vs, h => by
    obtain ⟨k, u, rfl⟩ := h v List.mem_cons_self
    exact .cons k u (strsOf vs fun x hx => h x (List.mem_cons_of_mem _ hx))
def rSortX (P : Program) (w : World) : List V → Hp → VK → Prop := fun xs H Q => ∃ (a : Addr) (l : List Str), xs = [.ref a] ∧ H a = some (SetX P w a l) ∧ l.length < 64 ∧ ∀ ys p, ys.Perm l → sortedS ys = true → H p = none → Q (.ref p) (upd H p (.lst (ys.map V.str)))
theorem cr_sortX (hc : X.calm = true) : CallR X (.builtin "sorted") (rSortX X.prog X.w) := by
  intro pins s σ H xs us Q I r h
  obtain ⟨a, l, rfl, ha, h64, q⟩ := h
  rw [Vals.ref1 r]
  obtain ⟨es, ep, t, R⟩ := setX_get I ha
  refine Calls.call_function_entry PyProof.Rows.kind_sorted PyProof.Rows.plain_sorted PyProof.Rows.entry_sorted (PyProof.Rows.args_sorted1 _) ?_
  unfold Builtin.«sorted»
  refine wpAny_bind (m := checkCount "sorted" 1 1 _) (wpAny_pure ?_)
  refine wpAny_bind (collect_set (A := X.A.in1) (I.ok.hd hc) R.set R.fits (by rw [R.size]; unfold scanBound; omega) R.ris R.led fun s1 vs k1 hz g1 o1 pm => ?_)
  have hstr : ∀ v ∈ vs, ∃ k u, v = Value.str k u := fun v hv => by
    obtain ⟨e, he, rfl⟩ := List.mem_map.mp (pm.mem_iff.mp hv)
    obtain ⟨k, u, _, rfl⟩ := R.strs e he
    exact ⟨k, u, rfl⟩
  have hS := strsOf vs hstr
  have hl : vs.length = l.length := by rw [pm.length_eq, List.length_map, Array.length_toList]; exact R.size
  have hp : (vs.map kV2).Perm l := by
    have e : es.toList.map kOf = (es.toList.map (·.2)).map kV2 := by rw [List.map_map]; rfl
    refine permOf l _ R.nd (fun z hz => ?_) (by rw [List.length_map]; omega)
    rw [(pm.map kV2).mem_iff, ← e]
    exact (R.keys z).mpr hz
  refine wpAny_bind (wpAny_newList ?_ (by rw [hl, sizeLine_eq]; omega))
  have hoL : (s1.heap.push (seqObj "list" vs.toArray 0)).get? s1.heap.objs.size = some (seqObj "list" vs.toArray 0) := Heap.get?_push_size _ rfl
  refine wpAny_bind (wpAny_holding (wpAny_call_entry PyProof.Rows.slot_list_sort ⟨_, hoL, rfl⟩ PyProof.Rows.entry_list_sort
    (list_sort_treeK strKind_oneLt (s := { s1 with heap := s1.heap.push (seqObj "list" vs.toArray 0) }) hoL hS.keysOf (fun v₁ v₂ rest e => keyKind_strs (by rw [← e]; exact hS)) (by rw [hl]; exact h64) fun st' hp hs => ⟨_, rfl, ?_⟩)
    (PyProof.Rows.args_list_sort _)))
  rename_i hp0
  obtain ⟨ys, g1', g2, g3⟩ := sorted_out_str hS hp hs
  obtain ⟨e', he'⟩ := PyProof.Rows.sortedHeap_at (vs := vs) (out := (arrOf st').map (·.2)) hoL
  have hlen : (ys.map V.str).length ≤ sizeLine := by
    rw [List.length_map, (g2.trans hp0).length_eq]
    exact Nat.le_trans (Nat.le_of_lt h64) (by decide)
  have es' : ∀ h' : Heap, ({ s1 with heap := h' } : Shared) = { s with heap := h', drawn := s1.drawn, toks := s1.toks } := fun h' => by
    obtain ⟨h1, gg, d1, t1, os1⟩ := s1
    simp only at g1 o1
    subst g1 o1
    rfl
  refine wpAny_pure ⟨_, rfl, .ref s1.heap.objs.size, upd H s1.heap.objs.size (.lst (ys.map V.str)), ?_, rfl, q ys _ (g2.trans hp0) g3 (I.hok.fresh hz)⟩
  have J := laidD (d := s1.drawn) (tk := s1.toks) (h' := sortedHeap (s1.heap.push (seqObj "list" vs.toArray 0)) s1.heap.objs.size vs ((arrOf st').map (·.2))) I (p := s1.heap.objs.size) (o := .lst (ys.map V.str)) (fun b u e => by
      have e2 := k1 b u e
      have hb : b < s1.heap.objs.size := Heap.lt_size e2
      rw [PyProof.Rows.sortedHeap_old (Nat.ne_of_lt hb) (by rw [size_push']; exact Nat.lt_succ_of_lt hb)]
      exact Heap.get?_push_of_some _ e2) hz
    (show ObjOk X.prog X.w _ _ _ (.lst (ys.map V.str)) from ⟨hlen, ((arrOf st').map (·.2)).toList, e', vals_of_strs g1', by rw [Array.toArray_toList]; exact he'⟩)
  rw [← es'] at J
  exact J
end
end SX

set_option Elab.async false
set_option linter.all false
set_option maxRecDepth 100000
set_option maxHeartbeats 4000000
/-! sets of texts: set(list) -/
namespace SX
open PySem PySem.Spec PyProof.Rows L2
open Froz (sObj TxOk SD)
open PySem.Builtin.Frozenset (addrOf isAnySet updateFrom)
section
variable {P : Program} {w : World} {A : Around} {E : Value → Shared → Prop} {s : Shared} {a o : Addr} {es es2 : Array (Int × Value)} {ep ep2 : Nat} {t t2 : SetTable} {l m : List Str}
/-- the loop that fills it: ks the texts that come -/
theorem fillM {I : Addr} {fp wr : List Addr} {G : Array GenState → Array GenState → Prop} {n : Nat} {Pv : Nat → Value → Prop} {St : Nat → Shared → Prop} {R : Result → Shared → Prop}
    (W : WalksS P w A.in1 I fp wr G n Pv St) (S : Addr) (hSf : S ∉ fp) (ks : List Str) (hn : n = ks.length) (few : ks.length ≤ 60) (hval : ∀ i v, Pv i v → ∃ k u, ks[i]? = some k ∧ v = .str k u)
    (h0 : Heap) (hS0 : h0.get? S = none) (hw0 : ∀ b ∈ wr, h0.get? b = none) :
    ∀ (m i : Nat) (s : Shared), n - i = m → i ≤ n → St i s → (∀ b o, h0.get? b = some o → s.heap.get? b = some o) → (∃ es ep t l, At P w s.heap S es ep t l ∧ (∀ z, z ∈ l ↔ z ∈ ks.take i) ∧ l.length ≤ i) →
      (∀ s' es ep t l, Moved (S :: wr) G s s' → At P w s'.heap S es ep t l → (∀ z, z ∈ l ↔ z ∈ ks) → l.length ≤ ks.length → (∀ b o, h0.get? b = some o → s'.heap.get? b = some o) → R (.ok (.ret .none)) s') →
      codeAny (model P w) A (.builtin "set.update.loop" ⟨[.ref S, .ref I], []⟩) R s := by
  have hSw : S ∉ wr := fun h => hSf (W.sub _ h)
  have wide : ∀ b ∈ wr, b ∈ S :: wr := fun b hb => List.mem_cons_of_mem _ hb
  have stay : ∀ {s s' : Shared}, Moved wr G s s' → (∀ b o, h0.get? b = some o → s.heap.get? b = some o) → ∀ b o, h0.get? b = some o → s'.heap.get? b = some o := fun hm z b o e =>
    hm.heap b o (fun hb => by rw [hw0 b hb] at e; cases e) (z b o e)
  intro m
  induction m with
  | zero =>
    intro i s hk' hi hst hkp ⟨es, ep, t, l, T, g, gl⟩ hR
    obtain rfl : i = n := by omega
    refine codeAny_builtin F.entry_set_update_loop ?_
    rw [Around.under_plainId F.plain_set_update_loop _]
    show wpAny _ A.in1 (pyNext (.ref I) >>= _) _ _ s
    refine wpAny_bind (W.done s _ _ hst fun s' hm => ?_)
    show wpAny _ A.in1 (ret Value.none) _ _ s'
    exact wpAny_pure (hR s' es ep t l (hm.mono wide) (T.keep fun o e => hm.heap S o hSw e) (fun z => by rw [g z, hn, List.take_length]) (by omega) (stay hm hkp))
  | succ m ih =>
    intro i s hk' hi hst hkp ⟨es, ep, t, l, T, g, gl⟩ hR
    have hlt : i < n := by omega
    refine codeAny_builtin F.entry_set_update_loop ?_
    rw [Around.under_plainId F.plain_set_update_loop _]
    show wpAny _ A.in1 (pyNext (.ref I) >>= _) _ _ s
    refine wpAny_bind (W.item i s _ _ hlt hst fun v s' hP hst' hm => ?_)
    obtain ⟨k, u, hq, rfl⟩ := hval i v hP
    have z := stay hm hkp
    have T' : At P w s'.heap S es ep t l := T.keep fun o e => hm.heap S o hSw e
    show wpAny _ A.in1 (holding [Value.str k u] (setAdd S (.str k u)) >>= _) _ _ s'
    refine wpAny_bind (wpAny_holding ?_)
    unfold setAdd
    refine wpAny_holding ?_
    refine wpAny_bind ((strKind P w).pyHash (Froz.is_str k u) ?_)
    refine add_any (s := { s' with toks := s'.toks + 1 }) T' (by omega) fun b h' es' ep' t' l' sb T2 c1 c2 => ?_
    have et : ks.take (i + 1) = ks.take i ++ [k] := L2.take_next hq
    have z2 : ∀ b o, h0.get? b = some o → h'.get? b = some o := fun b o e => (sb.2 b (fun y => by rw [y, hS0] at e; cases e)).trans (z b o e)
    refine wpAny_pure ⟨plainId_quiet F.plain_set_update_loop _, ih (i + 1) _ (by omega) hlt (W.frame _ s' _ _ hst' (Nat.le_add_right _ _) fun b hb o e => ?_) z2 ⟨es', ep', t', l', T2, fun y => ?_, by omega⟩ fun s2 es2 ep2 t2 l2 hm2 T3 g3 l3 z3 => ?_⟩
    · rw [sb.2 b (fun h : b = S => hSf (by rw [← h]; exact hb))]; exact e
    · rw [c1 y, g y, et, List.mem_append, List.mem_singleton]
    · refine hR s2 es2 ep2 t2 l2 (Moved.trans W.gtrans ((hm.mono wide).then_heap (Nat.le_add_right _ _) fun b o hb e => ?_) hm2) T3 g3 l3 z3
      rw [sb.2 b (fun h : b = S => hb (by rw [h]; exact List.mem_cons_self))]; exact e
theorem up_lst {id : String} {l : Addr} {items : Array Value} {ks : List Str} {Q : Unit → Shared → Prop} (hl : s.heap.IsList l items) (hit : StrsAre items.toList ks) (few : ks.length ≤ 60) (hh : A.handled = none)
    (h : ∀ h' d tk es ep t l, At P w h' s.heap.objs.size es ep t l → (∀ z, z ∈ l ↔ z ∈ ks) → l.length ≤ ks.length → (∀ b o, s.heap.get? b = some o → h'.get? b = some o) → Q () { s with heap := h', drawn := d, toks := tk }) :
    wpAny (model P w) A (updateFrom id s.heap.objs.size (.ref l)) Q E { s with heap := s.heap.push (newO w) } := by
  have hsz : items.size = ks.length := by rw [← Array.length_toList, strs_len hit]
  have hS : (s.heap.push (newO w)).get? s.heap.objs.size = some (newO w) := Heap.get?_push_size _ rfl
  obtain ⟨ol, hol, hcl, nl, hdl⟩ := hl
  obtain ⟨ocls, odict, odata, oslots⟩ := ol
  simp only at hcl hdl
  subst hcl; subst hdl
  have hol' : (s.heap.push (newO w)).get? l = some { cls := .type "list", dict := odict, data := .seq items nl, slots := oslots } := Heap.get?_push_of_some _ hol
  have hT' : Shared.TypeIs { s with heap := s.heap.push (newO w) } (.ref l) "list" := ⟨_, hol', rfl⟩
  have hl1 : (s.heap.push (newO w)).IsList l items := ⟨_, hol', rfl, nl, rfl⟩
  have hlS : l < s.heap.objs.size := Heap.lt_size hol
  have hsize : (s.heap.push (newO w)).objs.size = s.heap.objs.size + 1 := Heap.size_push ..
  have hneI : l ≠ (s.heap.push (newO w)).objs.size := by rw [hsize]; exact Nat.ne_of_lt (Nat.lt_succ_of_lt hlS)
  have hSf : s.heap.objs.size ∉ [(s.heap.push (newO w)).objs.size, l] := by
    rw [hsize]
    simp only [List.mem_cons, List.not_mem_nil, or_false, not_or]
    exact ⟨Nat.ne_of_lt (Nat.lt_succ_self _), Nat.ne_of_gt hlS⟩
  have hval : ∀ (i : Nat) (v : Value), items[i]? = some v → ∃ k u, ks[i]? = some k ∧ v = .str k u := fun i v hv => strs_at hit i v (by rw [Array.getElem?_toList]; exact hv)
  have off : ∀ b, s.heap.objs.size ≤ b → s.heap.get? b = none := fun b hb => by
    cases z : s.heap.get? b with
    | none => rfl
    | some o => exact absurd (Nat.lt_of_lt_of_le (Heap.lt_size z) hb) (Nat.lt_irrefl _)
  have hh3 : A.in1.handled = none := by simp [hh]
  unfold updateFrom
  refine wpAny_bind (m := isAnySet _) ?_
  unfold isAnySet
  refine wpAny_bind (wpAny_isInstance (b := false) hT' F.sub_list_set ?_)
  refine wpAny_isInstance (b := false) hT' (by rw [isSubtype_type]; kernel_rfl) ?_
  refine wp_if_neg (by decide) ?_
  try refine wpAny_bind (wpAny_pure ?_)
  refine wpAny_bind (wpAny_typeOf hT' ?_)
  refine wp_if_neg (by decide) ?_
  try refine wpAny_bind (wpAny_pure ?_)
  refine wpAny_bind (wpAny_pyIter_list hl1 ?_)
  refine wpAny_bind (wpAny_runValue ?_)
  refine fillM ((Walks.list hh3 _ l hneI items).toS) s.heap.objs.size hSf ks hsz few hval s.heap (off _ (Nat.le_refl _)) (fun b hb => off b (by rw [List.mem_singleton.mp hb, hsize]; exact Nat.le_succ _)) (items.size - 0) 0 _ (by omega) (Nat.zero_le _)
    ⟨⟨_, Heap.get?_push_size _ rfl, rfl, rfl⟩, (hl1.push _)⟩ (fun b o e => Heap.get?_push_of_some _ (Heap.get?_push_of_some _ e)) ⟨_, _, _, [], At.new (Heap.get?_push_of_some _ hS), fun z => by simp, Nat.le_refl _⟩ fun s' es ep t l' hm T g gl z => ?_
  obtain ⟨h', g2, d', tk', os'⟩ := s'
  obtain rfl : g2 = s.gens := hm.gens
  obtain rfl : os' = s.os := hm.os
  exact wpAny_pure (h h' d' tk' es ep t l' T g gl z)
end
theorem hL {h : Heap} {a : Addr} {items : Array Value} (p : PlainL h a items) : h.IsList a items := by
  obtain ⟨o, n, e, c, _, d⟩ := p
  exact ⟨o, e, c, n, d⟩
section
variable {X : Cx} {pins : List (Addr × Obj)} {σ : L2.St} {H : Hp} {s : Shared} {a : Addr} {l m : List Str}
/-- set(list) -/
def rSetL (P : Program) (w : World) (K : PySem.W.Frag) : List V → Hp → VK → Prop := fun xs H Q => ∃ (p : Addr) (ks : List Str), xs = [.ref p] ∧ SqL K H p (ks.map V.str) ∧ ks.length ≤ 60 ∧
  ∀ l q, l.Nodup → (∀ z, z ∈ l ↔ z ∈ ks) → l.length ≤ ks.length → H q = none → Q (.ref q) (upd H q (SetX P w q l))
theorem cr_setL (hc : X.calm = true) : CallR X (.type "set") (rSetL X.prog X.w X.K) := by
  intro pins s σ H xs us Q I r h
  obtain ⟨p, ks, rfl, hq, few, q⟩ := h
  rw [Vals.ref1 r]
  obtain ⟨its, rv, hT, hz⟩ := I.list hq
  refine call_set ks (fun A' s1 Q' e1 e2 h => ?_) fun h' d tk es ep t l T g gl z => ?_
  · subst e1
    exact up_lst (hL hT) (by simpa using strsAre_of rv) few (by rw [e2]; exact I.ok.hd hc) h
  · exact ⟨.ref _, _, laidD I z (Nat.le_refl _) (setX_new T), rfl, q l _ T.nd g gl (I.hok.fresh (Nat.le_refl _))⟩
end
end SX

set_option Elab.async false
set_option linter.all false
set_option maxRecDepth 100000
set_option maxHeartbeats 4000000
/-! what told tables have in common -/
namespace PJ
open PySem PySem.Spec PyProof.Rows L2 KS KS.La
def outsL : List Str := ["o", "out", "p1", "z9z9z9z9"]
theorem ndLen : ∀ (l u : List Str), l.Nodup → (∀ z ∈ l, z ∈ u) → l.length ≤ u.length
  | [], _, _, _ => Nat.zero_le _
  | x :: l, u, nd, h => by
    obtain ⟨h1, h2⟩ := List.nodup_cons.mp nd
    have hx := h x List.mem_cons_self
    have ih := ndLen l (u.erase x) h2 fun z hz => (List.mem_erase_of_ne fun (e : z = x) => h1 (e ▸ hz)).2 (h z (List.mem_cons_of_mem _ hz))
    have e := List.length_erase_of_mem hx
    have hp : 0 < u.length := List.length_pos_of_mem hx
    rw [List.length_cons]
    omega
theorem tLook_mem {T : Tb} {k : Str} {t : Tg} (h : tLook T k = some t) : (k, t) ∈ T := by
  unfold tLook at h
  obtain ⟨p, hp, e⟩ := Option.map_eq_some_iff.mp h
  have h1 := List.mem_of_find?_eq_some hp
  have h2 : p.1 = k := of_decide_eq_true (List.find?_some (p := fun p : Str × Tg => decide (p.1 = k)) hp)
  rw [← h2, ← e]
  exact h1
theorem outsNd : outsL.Nodup := by unfold outsL; decide +kernel
theorem outsLen : ∀ k ∈ outsL, k.length ≤ 1000 := by unfold outsL; decide +kernel
def OsK (os : Outs) : Prop := os.length ≤ 4 ∧ ∀ p ∈ os, p.1 ∈ outsL
def TgK : Tg → Prop
  | .src os => OsK os
  | .mad _ _ => True
structure Pas (P : Program) (w : World) (K : PySem.W.Frag) (mg : Str → Option Value) (base : Heap) (CP NT : Addr) : Prop where
  get : ∃ (f : Addr) (fd : FuncData), PySem.W.findIn K (.ref CP) "__getitem__" = some (some (.ref f)) ∧ PySem.W.fnIn K f = true ∧ PySem.W.isFn K (.ref f) = true ∧ Binds K fd ["self", "at"] [] ∧ FnOk P w K mg base (L2.CX P w) 3 f fd ["self", "at"] (spPGet CP NT)
  has : ∃ (f : Addr) (fd : FuncData), PySem.W.findIn K (.ref CP) "__contains__" = some (some (.ref f)) ∧ PySem.W.isFn K (.ref f) = true ∧ Binds K fd ["self", "x"] [] ∧ FnOk P w K mg base CX0 1 f fd ["self", "x"] (spPHas CP)
  nam : ∃ (p g : Addr) (fd : FuncData), PropOf K CP "names" p g ∧ Binds K fd ["self"] [] ∧ FnOk P w K mg base CX0 1 g fd ["self"] (spNames CP)
end PJ

set_option autoImplicit false
namespace SU
open PySem PySem.Spec PyProof.Rows
theorem pwRising : ∀ (l : List Str) (p : Str), risingS p l = true → (p :: l).Pairwise (fun a b => a.cps.toList ≤ b.cps.toList)
  | [], p, _ => List.pairwise_singleton _ _
  | x :: r, p, h => by
    have h2 : (!ltCps x.cps.toList p.cps.toList && risingS x r) = true := h
    rw [Bool.and_eq_true, Bool.not_eq_true', ltCps_eq] at h2
    have le : p.cps.toList ≤ x.cps.toList := List.not_lt.mp (of_decide_eq_false h2.1)
    have ih := pwRising r x h2.2
    refine List.pairwise_cons.mpr ⟨fun y hy => ?_, ih⟩
    rcases List.mem_cons.mp hy with rfl | hy
    · exact le
    · exact List.le_trans le ((List.pairwise_cons.mp ih).1 y hy)
theorem pwSorted (l : List Str) (h : sortedS l = true) : l.Pairwise (fun a b => a.cps.toList ≤ b.cps.toList) := by
  cases l with
  | nil => exact .nil
  | cons x r => exact pwRising r x h
theorem uniq {a b : List Str} (h : a.Perm b) (s1 : sortedS a = true) (s2 : sortedS b = true) : a = b := by
  refine List.Perm.eq_of_pairwise (le := fun a b : Str => a.cps.toList ≤ b.cps.toList) (fun x y _ _ h1 h2 => ?_) (pwSorted a s1) (pwSorted b s2) h
  have e := List.le_antisymm h1 h2
  cases x; cases y
  simpa using e
end SU

set_option Elab.async false
set_option linter.all false
set_option maxRecDepth 100000
set_option maxHeartbeats 8000000
/-! the law's drawn targets -/
namespace PJ
open PySem PySem.Spec PyProof.Rows L2 KS KS.La
open KX hiding sameUpd
abbrev lOuts : Stmt := top 20
abbrev lSource : Stmt := top 23
abbrev lTarget : Stmt := top 24
section
variable {P : Program} {w : World} {K : PySem.W.Frag} {mg : Str → Option Value} {base : Heap} {f : Addr} {fd : FuncData} {CS CM CP NT NS : Addr}
def spOutsT : Sp := fun vs H Q _ => vs = [] ∧ ∀ p, H p = none → Q (.ref p) (upd H p (.lst (outsL.map V.str)))
theorem scOuts : FnScope [] [] (defScope lOuts) := ⟨rfl, rfl, rfl, by decide +kernel, rfl, by decide +kernel, by decide +kernel⟩
theorem okOutsT {k : Nat} (F : FnP K "_law_outs" lOuts f fd) : FnOk P w K mg base CX0 (k + 1) f fd [] spOutsT := by
  refine F.ok scOuts (fun vs H Q E h => ?_) (fun cdv A outer s H vs Q E hr h => ?_)
  · obtain ⟨rfl, _⟩ := h
    rfl
  · obtain ⟨rfl, q⟩ := h
    exact ⟨_, PSs.nox (pss_one (ps_ret (pe_lst (pa_cons (pe_str) (pa_cons (pe_str) (pa_cons (pe_str) (pa_cons (pe_str) pa_nil))))))), (by show 4 ≤ sizeLine; decide), fun p hp => q p hp⟩
/-- a list of drawn texts -/
theorem lcTexts {J : It} {n j : Nat} {te : TE} {σ : L2.St} {H1 : Hp} {D a : Addr} {Qd : Hp → Prop} (hF : Fd H1 a) (hD : H1 D = none) (hn : n ≤ 1000) (hw : ∀ v, wipe ((wipe σ [j]).set j (some v)) [j] = wipe σ [j])
    (hgo : ∀ i H, i < n → J.go i H) (hst : ∀ H, J.stop n H) (hy : ∀ i H x H', J.yld i H x H' → H' = H)
    (hs : ∀ x H, Fd H a → ∀ (R : VK), (∀ z H', TOk z → Kp a H H' → Fd H' a → R (.str z) H') → te ((wipe σ [j]).set j (some x)) H R)
    (hd : ∀ (as : List Str) (H : Hp), H D = some (.lst (as.map .str)) → (∀ z ∈ as, TOk z) → as.length ≤ n → Kp a H1 H → Fd H a → Qd H) :
    ∃ W : Nat → Nat → Hp → Prop, (∃ m, W 0 m (upd H1 D (.lst []))) ∧ ∀ i m H, W i m H →
      (J.stop i H ∧ Qd H) ∨ (J.go i H ∧ ∃ Nx : Hp → Prop, (∀ H', Nx H' → ∃ m', m' < m ∧ W (i + 1) m' H') ∧ ∀ x H', J.yld i H x H' → gName j x (wipe σ [j]) H' fun σ2 H2 => wipe σ2 [j] = wipe σ [j] ∧ tYes σ2 H2 fun b H3 =>
        if b = true then te σ2 H3 fun y H4 => ∃ acc, H4 D = some (.lst acc) ∧ acc.length < sizeLine ∧ Nx (upd H4 D (.lst (acc ++ [y]))) else Nx H3) := by
  have nD := fdNe hF hD
  refine lcJ (n := n) (fun i H => ∃ as : List Str, H D = some (.lst (as.map .str)) ∧ (∀ z ∈ as, TOk z) ∧ as.length = i ∧ Kp a H1 H ∧ Fd H a) ⟨[], upd_same, fun z hz => absurd hz (by simp), rfl, Kp.new hD, fdOther hF nD⟩ (fun i H lt _ => hgo i H lt) (fun H _ => hst H) (fun i H x H' lt h y => ?_) (fun H h => ?_)
  · obtain ⟨as, e, ha, hl, k1, F1⟩ := h
    have := hy i H x H' y
    subst this
    refine ⟨hw x, ?_⟩
    unfold tYes
    dsimp only
    rw [if_pos rfl]
    refine hs x _ F1 _ fun z H2 tz k2 F2 => ⟨_, k2 _ _ nD e, by rw [List.length_map, sizeLine_eq]; omega, as ++ [z], ?_, fun y hy => ?_, by rw [List.length_append, hl]; rfl, fun b o nb hb => ?_, fdOther F2 nD⟩
    · rw [List.map_append]
      exact upd_same
    · rcases List.mem_append.mp hy with h | h
      · exact ha y h
      · rw [List.mem_singleton.mp h]; exact tz
    · rw [upd_ne (ne_of_none hb hD)]
      exact k2 _ _ nb (k1 _ _ nb hb)
  · obtain ⟨as, e, ha, hl, k1, F1⟩ := h
    exact hd as H e ha (by omega) k1 F1
/-- told by what is new behind H -/
def ToN (H H' : Hp) (v : V) (t : Tg) : Prop := ∀ H2, (∀ b o, H b = none → H' b = some o → (∀ xs, o ≠ .lst xs) → H2 b = some o) → ToAt H2 v t
theorem ToN.to {H H' : Hp} {v : V} {t : Tg} (h : ToN H H' v t) : ToAt H' v t := h H' fun _ _ _ e _ => e

/-- a drawn target, as it is told -/
def spDrawn : Sp := fun vs H Q _ => ∃ f : Addr, vs = [.ref f] ∧ Fd H f ∧ ∀ r t H', ToN H H' r t → TgK t → Kp f H H' → Fd H' f → Q r H'
abbrev nSource : List Str := ["_law_feed", "_law_outputs", "_law_out"]
theorem scSource : FnScope nSource ["_law_feed"] (defScope lSource) := ⟨rfl, rfl, rfl, by decide +kernel, rfl, by decide +kernel, by decide +kernel⟩
theorem okSource {k : Nat} (D : Has P w K mg base (k + 1) "_law_draw" ["_law_feed", "_law_many"] spDraw) (T : Has P w K mg base (k + 3) "_law_text" ["_law_feed"] spText) (O : Has P w K mg base (k + 1) "_law_outs" [] spOutsT) (F : FnP K "_law_source" lSource f fd) : FnOk P w K mg base CX0 (k + 4) f fd ["_law_feed"] spDrawn := by
  obtain ⟨fD, fdD, gD, kD, bD, GD⟩ := D.ex
  obtain ⟨fT, fdT, gT, kT, bT, GT⟩ := T.ex
  obtain ⟨fO, fdO, gO, kO, bO, GO⟩ := O.ex
  refine F.ok scSource (fun vs H Q E h => ?_) (fun cdv A outer s H vs Q E hr h => ?_)
  · obtain ⟨a, rfl, _⟩ := h
    rfl
  · obtain ⟨a, rfl, hF, q⟩ := h
    have hr1 : Room (k + 1) _ := hr.mono (by omega)
    have hu1 : (A.deeper (envOfC "_law_source" (defScope lSource) s.heap.objs.size f cdv)).units + 1 < cLine := by
      have := hr.units
      omega
    refine ⟨_, PSs.nox (C8.pss_cut (ps_set (i := 1) scSource.nd rfl (.inl rfl) pe_dnewK) (C8.pss_cut (ps_for PassesOwn.never rfl (pi_list (pe_call0 GO hr1 (by rfl) gO kO bO .nil pass0)) (pg_name (i := 2) scSource.nd rfl (.inl rfl))
        (pss_one (ps_if (pt_cmpR op_gt (pe_call GD hr1 (by rfl) gD kD bD .nil pass0 (pa_cons (pv 0) (pa_cons (pe_int) pa_nil))) pe_int (nomark _)) (pss_one (ps_dput hu1 (pv 1) (pv 2) (pe_call GT hr (by rfl) gT kT bT .nil pass0 (pa_cons (pv 0) pa_nil)) rfl)) pss_nil))) (pss_one (ps_ret (pe_tup (pa_cons (pe_str) (pa_cons (pv 1) pa_nil))))))), ?_⟩
    refine ⟨fun σ' H' => ∃ d, σ' = [some (.ref a), some (.ref d), none] ∧ H' d = some (.dK []) ∧ H d = none ∧ Same H H', ?_, ?_⟩
    · exact fun d hd => ⟨d, rfl, upd_same, hd, KS.sameUpd hd⟩
    rintro _ H1 ⟨d, rfl, ed, nd, s1⟩
    have nda : d ≠ a := fdNe hF nd
    refine ⟨fun σ' H' => ∃ x2 os, σ' = [some (.ref a), some (.ref d), x2] ∧ H' d = some (.dK (oK os)) ∧ (os.map (·.1)).Nodup ∧ OsK os ∧ Kp a H H' ∧ Fd H' a, ?_, ?_⟩
    · refine ⟨rfl, fun O hO => ⟨O, rfl, ⟨_, .inl (.inl upd_same)⟩, ?_⟩⟩
      have sO := KS.sameUpd (o := .lst (outsL.map V.str)) hO
      have eO : upd H1 O (.lst (outsL.map V.str)) O = some (.lst (outsL.map V.str)) := upd_same
      have F1 := (hF.same s1).same sO
      have nOa := fdNe (hF.same s1) hO
      have nOd : O ≠ d := fun z => by rw [z, ed] at hO; cases hO
      have k1 : Kp a H (upd H1 O (.lst (outsL.map V.str))) := Kp.same (s1.trans sO)
      have ed1 := sO _ _ ed
      generalize upd H1 O (.lst (outsL.map V.str)) = H2 at *
      refine forJ (n := outsL.length) (fun i σ' H' => ∃ x2 os, σ' = [some (.ref a), some (.ref d), x2] ∧ H' d = some (.dK (oK os)) ∧ H' O = some (.lst (outsL.map V.str)) ∧ (os.map (·.1)).Nodup ∧ (∀ o ∈ os, o.1 ∈ outsL.take i) ∧ os.length ≤ i ∧ Kp a H H' ∧ Fd H' a)
        ⟨none, [], rfl, ed1, eO, List.nodup_nil, fun o ho => absurd ho (by simp), Nat.zero_le _, k1, F1⟩
        (fun i σ' H' lt h => by obtain ⟨_, _, _, _, e, _⟩ := h; exact ⟨outsL.map V.str, V.str outsL[i], .inl (.inl e), by rw [List.getElem?_map, List.getElem?_eq_getElem lt]; rfl⟩)
        (fun σ' H' h => by obtain ⟨_, _, _, _, e, _⟩ := h; exact ⟨outsL.map V.str, .inl (.inl e), by rw [List.length_map]; exact Nat.le_refl _⟩) (fun i σ' H3 x H4 lt h y => ?_) (fun σ' H' h => ?_)
      · obtain ⟨rfl, y⟩ := y
        obtain ⟨x2, os, rfl, e1, e2, ndp, hm, hl, kk, F3⟩ := h
        have ex := y _ (.inl (.inl e2))
        rw [List.getElem?_map, List.getElem?_eq_getElem lt] at ex
        obtain rfl : V.str outsL[i] = x := Option.some.inj ex
        refine ⟨.ref a, rfl, a, 4, rfl, F3, by decide, by decide, fun r H5 r0 r1 k5 F5 => ⟨r, 0, rfl, rfl, _, rfl, ite2 (fun _ => ?_) (fun _ => ?_)⟩⟩
        · refine ⟨.ref a, rfl, a, rfl, F5, fun z H6 tz k6 F6 => ?_⟩
          have e16 := k6 _ _ nda (k5 _ _ nda e1)
          have nw : (os.any fun p => decide (p.1 = outsL[i])) = false := List.any_eq_false.mpr fun p hp e => by
            have h1 := hm p hp
            rw [of_decide_eq_true e] at h1
            exact notTake outsNd lt h1
          have lo : outsL.length = 4 := rfl
          refine ⟨.ref d, rfl, .str outsL[i], rfl, d, _, rfl, DPut.k (k := Sum.inr outsL[i]) e16 (by rw [oK_len, sizeLine_eq]; omega), some (.str outsL[i]), os ++ [(outsL[i], z)], rfl, ?_, by rw [upd_ne nOd]; exact k6 _ _ nOa (k5 _ _ nOa e2), ?_, fun o ho => ?_, by rw [List.length_append]; show os.length + 1 ≤ _; omega, fun b o nb hb => ?_, fdOther F6 nda⟩
          · rw [upd_same, oK_put]
            unfold oPut
            rw [nw, if_neg Bool.false_ne_true]
          · rw [List.map_append]
            refine List.nodup_append.mpr ⟨ndp, by simp, fun u hu v hv e => ?_⟩
            obtain ⟨o, ho, rfl⟩ := List.mem_map.mp hu
            have hv2 : v = outsL[i] := List.mem_singleton.mp hv
            rw [hv2] at e
            have h1 := hm o ho
            rw [e] at h1
            exact notTake outsNd lt h1
          · rw [List.take_succ_eq_append_getElem lt]
            rcases List.mem_append.mp ho with z' | z'
            · exact List.mem_append_left _ (hm o z')
            · rw [List.mem_singleton.mp z']
              exact List.mem_append_right _ (List.mem_singleton.mpr rfl)
          · rw [upd_ne (ne_of_none hb nd)]
            exact k6 _ _ nb (k5 _ _ nb (kk _ _ nb hb))
        · refine ⟨some (.str outsL[i]), os, rfl, k5 _ _ nda e1, k5 _ _ nOa e2, ndp, fun o ho => ?_, by omega, kk.trans k5, F5⟩
          rw [List.take_succ_eq_append_getElem lt]
          exact List.mem_append_left _ (hm o ho)
      · obtain ⟨x2, os, rfl, e1, e2, ndp, hm, hl, kk, F3⟩ := h
        exact ⟨x2, os, rfl, e1, ndp, ⟨hl, fun p hp => List.mem_of_mem_take (hm p hp)⟩, kk, F3⟩
    rintro _ H2 ⟨x2, os, rfl, e1, ndp, ok, kk, F2⟩
    refine ⟨.ref d, rfl, (by show 2 ≤ sizeLine; decide), fun U hU => ?_⟩
    have nU : H U = none := kpNone hF kk F2 hU
    refine q _ (.src os) _ (fun H3 g => ⟨U, d, rfl, g _ _ nU upd_same (fun _ z => nomatch z), g _ _ nd (KS.sameUpd hU _ _ e1) (fun _ z => nomatch z), ndp, by have := ok.1; omega⟩) ok (kk.trans (Kp.new hU)) (F2.new hU)
end
end PJ

set_option Elab.async false
set_option linter.all false
set_option maxRecDepth 100000
set_option maxHeartbeats 8000000
/-! the law's targets, its projects -/
namespace PJ
open PySem PySem.Spec PyProof.Rows L2 KS KS.La
open KX hiding sameUpd
abbrev lOne : Stmt := top 25
abbrev lNames : Stmt := top 26
abbrev lPackage : Stmt := top 29
/-- the law's own table -/
def KtAt (H : Hp) (d : Addr) (T : Tb) : Prop := ∃ kvs, H d = some (.dK kvs) ∧ Tab (ToAt H) kvs T
theorem KtAt.stl {H H' : Hp} {d : Addr} {T : Tb} (h : KtAt H d T) (s : Stl H H') : KtAt H' d T := let ⟨kvs, a, b⟩ := h; ⟨kvs, s _ _ a (fun _ z => nomatch z), b.to s⟩
theorem ToAt.rf {H : Hp} {v : V} {t : Tg} (h : ToAt H v t) : ∃ x, v = .ref x := by
  cases t with
  | src os => obtain ⟨x, _, e, _⟩ := h; exact ⟨x, e⟩
  | mad r as => obtain ⟨x, _, _, e, _⟩ := h; exact ⟨x, e⟩
theorem TgAt.rf {CS CM : Addr} {H : Hp} {v : V} {t : Tg} (h : TgAt CS CM H v t) : ∃ x, v = .ref x := by
  cases t with
  | src os => obtain ⟨x, _, _, e, _⟩ := h; exact ⟨x, e⟩
  | mad r as => obtain ⟨x, _, _, _, e, _⟩ := h; exact ⟨x, e⟩
/-- seen while the table is locked, and behind it -/
theorem toLock {H H' : Hp} {d : Addr} {kvs : List (Key × V)} {k1 : Key} {x1 : Addr} (hd : H d = some (.dK kvs)) (m1 : (k1, V.ref x1) ∈ kvs) (e : ∀ c o, c ≠ d → H c = some o → H' c = some o) {v : V} {t : Tg} (h : ToAt H v t) : ToAt H' v t := by
  have ne : ∀ {c o}, H c = some o → (∀ ks, o ≠ .dK ks) → H' c = some o := fun {c o} hc hn => e c o (fun z => by rw [z, hd] at hc; exact hn _ (Option.some.inj hc).symm) hc
  have nd : ∀ {c os}, H c = some (.dK (oK os)) → H' c = some (.dK (oK os)) := fun {c os} hc => e c _ (fun z => by
    rw [z, hd] at hc
    have : kvs = oK os := by
      have := Option.some.inj hc
      injection this
    rw [this] at m1
    obtain ⟨z, ez⟩ := oK_str _ m1
    cases ez) hc
  cases t with
  | src os =>
    obtain ⟨x, d', rfl, hx, ho, r⟩ := h
    exact ⟨x, d', rfl, ne hx (fun _ z => nomatch z), nd ho, r⟩
  | mad r as =>
    obtain ⟨x, vr, va, rfl, hx, hr, ⟨u, e1, hu, g⟩⟩ := h
    refine ⟨x, vr, va, rfl, ne hx (fun _ z => nomatch z), ?_, ⟨u, e1, ne hu (fun _ z => nomatch z), g⟩⟩
    cases r with
    | txt z => exact hr
    | key a b => exact ⟨let ⟨t, e, h⟩ := hr.1; ⟨t, e, ne h (fun _ z => nomatch z)⟩, hr.2⟩
theorem tgFree {CS CM : Addr} {H H' : Hp} {d : Addr} {p : Obj} {u : HO} (hd : H d = some (.frz p u)) (e : ∀ c o, c ≠ d → H c = some o → H' c = some o) {v : V} {t : Tg} (h : TgAt CS CM H v t) : TgAt CS CM H' v t := by
  have ne : ∀ {c o}, H c = some o → (∀ q u, o ≠ .frz q u) → H' c = some o := fun {c o} hc hn => e c o (fun z => by rw [z, hd] at hc; exact hn _ _ (Option.some.inj hc).symm) hc
  cases t with
  | src os =>
    obtain ⟨x, dx, d', rfl, hx, ho, r⟩ := h
    exact ⟨x, dx, d', rfl, ne hx (fun _ _ z => nomatch z), ne ho (fun _ _ z => nomatch z), r⟩
  | mad r as =>
    obtain ⟨x, dx, vr, va, rfl, hx, hr, ⟨u, e1, hu, g⟩⟩ := h
    refine ⟨x, dx, vr, va, rfl, ne hx (fun _ _ z => nomatch z), ?_, ⟨u, e1, ne hu (fun _ _ z => nomatch z), g⟩⟩
    cases r with
    | txt z => exact hr
    | key a b => exact ⟨let ⟨t, e, h⟩ := hr.1; ⟨t, e, ne h (fun _ _ z => nomatch z)⟩, hr.2⟩
theorem mergeApp : ∀ (l acc : List (Key × V)), ((acc ++ l).map (·.1)).Nodup → mergeK acc l = acc ++ l
  | [], acc, _ => by rw [List.append_nil]; rfl
  | o :: l, acc, h => by
    have e : putK acc o.1 o.2 = acc ++ [o] := by
      rw [putK_new]
      cases hv : valV acc o.1 with
      | none => rfl
      | some v =>
        have h1 := valMem2 hv
        rw [List.map_append, List.map_cons] at h
        exact absurd rfl ((List.nodup_append.mp h).2.2 _ (List.mem_map_of_mem (f := (·.1)) h1) _ List.mem_cons_self)
    show mergeK (putK acc o.1 o.2) l = _
    rw [e, mergeApp l (acc ++ [o]) (by rw [List.append_assoc]; exact h), List.append_assoc]
    rfl
section
variable {P : Program} {w : World} {K : PySem.W.Frag} {mg : Str → Option Value} {base : Heap} {f : Addr} {fd : FuncData} {CS CM CP NT NS : Addr}
abbrev nTarget : List Str := ["_law_feed", "_law_call", "_law_turn"]
theorem scTarget : FnScope nTarget ["_law_feed"] (defScope lTarget) := ⟨rfl, rfl, rfl, by decide +kernel, rfl, by decide +kernel, by decide +kernel⟩
theorem okTarget {k : Nat} (F : FnP K "_law_target" lTarget f fd) (B : Bn mg) (D : Has P w K mg base (k + 1) "_law_draw" ["_law_feed", "_law_many"] spDraw) (Pk : Has P w K mg base (k + 2) "_law_pick" ["_law_feed", "_law_items"] (spPick K)) (Ca : Has P w K mg base (k + 1) "_law_calls" [] spCalls) (T : Has P w K mg base (k + 3) "_law_text" ["_law_feed"] spText) (O : Has P w K mg base (k + 4) "_law_source" ["_law_feed"] spDrawn) : FnOk P w K mg base CX0 (k + 5) f fd ["_law_feed"] spDrawn := by
  obtain ⟨fD, fdD, gD, kD, bD, GD⟩ := D.ex
  obtain ⟨fP, fdP, gP, kP, bP, GP⟩ := Pk.ex
  obtain ⟨fC, fdC, gC, kC, bC, GC⟩ := Ca.ex
  obtain ⟨fT, fdT, gT, kT, bT, GT⟩ := T.ex
  obtain ⟨fO, fdO, gO, kO, bO, GO⟩ := O.ex
  refine F.ok scTarget (fun vs H Q E h => ?_) (fun cdv A outer s H vs Q E hr h => ?_)
  · obtain ⟨a, rfl, _⟩ := h
    rfl
  · obtain ⟨a, rfl, hF, q⟩ := h
    have hr1 : Room (k + 1) _ := hr.mono (by omega)
    have hr2 : Room (k + 2) _ := hr.mono (by omega)
    have hr3 : Room (k + 3) _ := hr.mono (by omega)
    refine ⟨_, PSs.nox (pss_cons (ps_if (pt_cmpR op_eq (pe_call GD hr1 (by rfl) gD kD bD .nil pass0 (pa_cons (pv 0) (pa_cons (pe_int) pa_nil))) pe_int (nomark _)) (pss_one (ps_ret (pe_call GO hr (by rfl) gO kO bO .nil pass0 (pa_cons (pv 0) pa_nil)))) pss_nil) (C8.pss_cut (ps_set (i := 1) scTarget.nd rfl (.inl rfl) (pe_call GP hr2 (by rfl) gP kP bP .nil pass0 (pa_cons (pv 0) (pa_cons (pe_op op_cat (pe_call0 GC hr1 (by rfl) gC kC bC .nil pass0) (pe_lst (pa_cons (pe_tup (pa_cons (pe_str) (pa_cons (pe_str) pa_nil))) (pa_cons (pe_tup (pa_cons (pe_str) (pa_cons (pe_str) pa_nil))) pa_nil)))) pa_nil)))) (pss_one (ps_ret (pe_tup (pa_cons (pe_str) (pa_cons (pv 1) (pa_cons (pe_callTy (T := "tuple") call_tuple_of (by rfl) B.tuple (by decide +kernel) (pa_cons (pe_lc (own := [("_law_turn", 2)]) (g := gName 2) rfl scTarget.nd (pi_range1 (by rfl) B.range (pa_cons (pe_call GD hr1 (by rfl) gD kD bD .nil pass0 (pa_cons (pv 0) (pa_cons (pe_int) pa_nil))) pa_nil)) (blkOk_by (N := nTarget) (sc := defScope lTarget) (by decide +kernel))
        (fun _ _ _ _ _ => pg_name (i := 2) scTarget.nd rfl (.inl rfl) (hf := .inr rfl)) (fun _ _ _ _ _ => pts_nil) (fun _ _ _ _ _ => pe_call GT hr3 (by rfl) gT kT bT .nil pass0 (pa_cons (pv 0) pa_nil))) pa_nil)) pa_nil)))))))), ?_⟩
    refine ⟨.ref a, rfl, a, 2, rfl, hF, by decide, by decide, fun r H1 r0 r1 k1 F1 => ⟨rfl, _, rfl, ite2 (fun e => ?_) (fun e => ?_)⟩⟩
    · refine ⟨.ref a, rfl, a, rfl, F1, fun r t H2 hn ht k2 F2 => q r t H2 (fun H3 g => hn H3 fun b o nb hb hx => g b o ?_ hb hx) ht (k1.trans k2) F2⟩
      cases e : H b with
      | none => rfl
      | some o' => rw [k1 b o' (fun z => by obtain ⟨x, y, eF, _⟩ := F1; rw [z, eF] at nb; cases nb) e] at nb; cases nb
    refine ⟨fun σ' H' => ∃ v r, σ' = [some (.ref a), some v, none] ∧ (∀ H2, (∀ b o, H b = none → H' b = some o → (∀ xs, o ≠ .lst xs) → H2 b = some o) → RcIn H2 v r) ∧ Kp a H H' ∧ Fd H' a, ?_, ?_⟩
    · refine ⟨.ref a, rfl, rfl, fun pc hpc => ⟨(by show 2 ≤ sizeLine; decide), fun U hU => ⟨(by show 2 ≤ sizeLine; decide), fun U2 hU2 => ⟨(by show 2 ≤ sizeLine; decide), fun L hL => ?_⟩⟩⟩⟩
      have s0 := KS.sameUpd (o := .lst [.str "make", .str "", .str "r 2", .str "Mend!"]) hpc
      have s1 := KS.sameUpd (o := .tup [.str "h", .str "o"]) hU
      have s2 := KS.sameUpd (o := .tup [.str "b1", .str "out"]) hU2
      have s3 := KS.sameUpd (o := .lst [.ref U, .ref U2]) hL
      have e0 : _ = some (HO.lst [.str "make", .str "", .str "r 2", .str "Mend!"]) := s3 _ _ (s2 _ _ (s1 _ _ (upd_same (H := H1) (a := pc))))
      refine ⟨pc, L, _, _, rfl, rfl, e0, upd_same, (by show 4 + 2 ≤ sizeLine; decide), fun L2 hL2 => ?_⟩
      have s4 := KS.sameUpd (o := .lst ([.str "make", .str "", .str "r 2", .str "Mend!"] ++ [.ref U, .ref U2])) hL2
      have F0 := F1.same s0
      have FA := F0.same (s1.trans s2)
      have F5 := ((F1.same s0).same (s1.trans (s2.trans s3))).same s4
      have nU : H U = none := kpNone hF (k1.trans (Kp.same s0)) F0 hU
      have nU2 : H U2 = none := kpNone hF (k1.trans (Kp.same (s0.trans s1))) (F0.same s1) hU2
      refine ⟨a, L2, _, rfl, F5, .inl (.inl upd_same), fdNe (FA.same s3) hL2, (by show 0 < 6; decide), (by show 6 < 1000; decide), fun i v H6 hv k6 F6 => ?_⟩
      have st := Stl.fd F5 k6
      have eU := st _ _ (s4 _ _ (s3 _ _ (s2 _ _ (upd_same (H := upd H1 pc (.lst [.str "make", .str "", .str "r 2", .str "Mend!"])) (a := U) (o := .tup [.str "h", .str "o"]))))) (fun _ z => nomatch z)
      have eU2 := st _ _ (s4 _ _ (s3 _ _ (upd_same (H := upd (upd H1 pc (.lst [.str "make", .str "", .str "r 2", .str "Mend!"])) U (.tup [.str "h", .str "o"])) (a := U2) (o := .tup [.str "b1", .str "out"])))) (fun _ z => nomatch z)
      have kk : Kp a H H6 := (k1.trans (Kp.same (s0.trans (s1.trans (s2.trans (s3.trans s4)))))).trans k6
      match i, hv with
      | 0, hv => cases hv; exact ⟨_, .txt "make", rfl, fun _ _ => ⟨rfl, by decide +kernel⟩, kk, F6⟩
      | 1, hv => cases hv; exact ⟨_, .txt "", rfl, fun _ _ => ⟨rfl, by decide +kernel⟩, kk, F6⟩
      | 2, hv => cases hv; exact ⟨_, .txt "r 2", rfl, fun _ _ => ⟨rfl, by decide +kernel⟩, kk, F6⟩
      | 3, hv => cases hv; exact ⟨_, .txt "Mend!", rfl, fun _ _ => ⟨rfl, by decide +kernel⟩, kk, F6⟩
      | 4, hv => cases hv; exact ⟨_, .key "h" "o", rfl, fun _ g => ⟨⟨U, rfl, g _ _ nU eU fun _ z => nomatch z⟩, by decide +kernel, by decide +kernel⟩, kk, F6⟩
      | 5, hv => cases hv; exact ⟨_, .key "b1" "out", rfl, fun _ g => ⟨⟨U2, rfl, g _ _ nU2 eU2 fun _ z => nomatch z⟩, by decide +kernel, by decide +kernel⟩, kk, F6⟩
    rintro _ H2 ⟨v, r, rfl, hv, k2, F2⟩
    refine ⟨v, rfl, .ref a, rfl, a, 3, rfl, F2, by decide, by decide, fun m H3 m0 m1 k3 F3 => ⟨m, rfl, by omega, by omega, fun D hD => ?_⟩⟩
    refine lcTexts (n := m.toNat) (a := a) F3 hD (by omega) (fun v => rfl) (fun i H' lt => ?_) (fun H' => ?_) (fun i H' x H'' y => y.1) (fun x H' F' R hR => ⟨.ref a, rfl, a, rfl, F', hR⟩) (fun as H4 e4 ha hl k4 F4 => ?_)
    · exact lt
    · exact Nat.le_refl _
    refine ⟨D, as.map .str, rfl, .inl ⟨.inl (.inl e4), fun U hU => ⟨(by show 3 ≤ sizeLine; decide), fun U2 hU2 => ?_⟩⟩⟩
    have s1 := KS.sameUpd (o := .tup (as.map .str)) hU
    have s2 := KS.sameUpd (o := .tup [.str "made", v, .ref U]) hU2
    have kA : Kp a H _ := ((k2.trans (k3.trans k4)).trans (Kp.same s1)).trans (Kp.same s2)
    have kB := k2.trans (k3.trans k4)
    have nU : H U = none := kpNone hF kB F4 hU
    have nU2 : H U2 = none := kpNone hF (kB.trans (Kp.same s1)) (F4.same s1) hU2
    have stA := (Stl.fd F2 (k3.trans k4)).trans (Stl.same (s1.trans s2))
    refine q _ (.mad r as) _ (fun H5 g => ⟨U2, v, .ref U, rfl, g _ _ nU2 upd_same (fun _ z => nomatch z), hv H5 (fun b o nb hb hx => g _ _ nb (stA _ _ hb hx) hx), U, rfl, g _ _ nU (s2 _ _ upd_same) (fun _ z => nomatch z), by omega, ha⟩) True.intro kA (F4.same (s1.trans s2))
/-- how made targets are made -/
structure Mdc (P : Program) (w : World) (K : PySem.W.Frag) (mg : Str → Option Value) (base : Heap) (CM : Addr) (e : Addr) : Prop where
  mak : ∃ (f : Addr) (fd : FuncData), Mk K CM f ∧ Binds K fd ["self", "recipe", "arguments"] [.ref e] ∧ Binds K fd ["self", "recipe", "arguments"] [] ∧ FnOk P w K mg base CX0 1 f fd ["self", "recipe", "arguments"] (spMInit K CM)
  em : ∀ H, SqT K H e []
theorem madMade {H : Hp} {x dx t : Addr} {vr : V} {r : Rc} {as : List Str} {R : Hp → Prop} {E : XK} (hx : H x = none) (hdx : H dx = none) (ne : dx ≠ x) (hr : RcIn H vr r) (ha : AsIn H (.ref t) as) (q : ∀ H', Same H H' → TgAt CS CM H' (.ref x) (.mad r as) → R H') :
    spMInit K CM [.ref x, vr, .ref t] (upd (upd H dx (.own x)) x (.ins CM dx [])) (fun v H2 => v = .non ∧ R H2) E := by
  have s1 : Same H (upd (upd H dx (.own x)) x (.ins CM dx [])) := fun b o hb => by
    rw [upd_ne (ne_of_none hb hx), upd_ne (ne_of_none hb hdx)]
    exact hb
  obtain ⟨t', et, ht, hl⟩ := id ha
  cases et
  refine ⟨x, dx, vr, t, as.map .str, rfl, upd_same, .inl ⟨.inl (.inl (s1 _ _ ht)), fun H' k h1 => ⟨rfl, ?_⟩⟩⟩
  have sH : Same H H' := fun b o hb => k _ _ (ne_of_none hb hx) (s1 _ _ hb)
  exact q H' sH ⟨x, dx, vr, .ref t, rfl, h1, hr.stl (Stl.same sH), ha.stl (Stl.same sH)⟩
theorem wSS : decide (V.str "source" = V.str "source") = true := decide_eq_true rfl
theorem wMS : decide (V.str "made" = V.str "source") = false := by decide +kernel
def spOne (CS CM : Addr) : Sp := fun vs H Q _ => ∃ v t, vs = [v] ∧ ToAt H v t ∧ ∀ r H', Same H H' → TgAt CS CM H' r t → Q r H'
theorem scOne : FnScope ["_law_told"] ["_law_told"] (defScope lOne) := ⟨rfl, rfl, rfl, by decide +kernel, rfl, by decide +kernel, by decide +kernel⟩
theorem okOne {k : Nat} {e : Addr} (W : Pjc P w K mg base CS CM CP NT NS) (M : Mdc P w K mg base CM e) (F : FnP K "_law_one" lOne f fd) : FnOk P w K mg base CX0 (k + 3) f fd ["_law_told"] (spOne CS CM) := by
  obtain ⟨fI, dI, MI, bI, GI⟩ := W.mkS
  obtain ⟨fJ, dJ, MJ, _, bJ, GJ⟩ := M.mak
  refine F.ok scOne (fun vs H Q E h => ?_) (fun cdv A outer s H vs Q E hr h => ?_)
  · obtain ⟨v, t, rfl, _⟩ := h
    rfl
  · obtain ⟨v, t, rfl, hv, q⟩ := h
    have hr2 : Room (1 + 1) _ := hr.mono (by omega)
    refine ⟨_, PSs.nox (pss_cons (ps_if (pt_cmp (pc_isN (pv 0))) (pss_one (ps_ret pe_non)) pss_nil) (pss_one (ps_ret (pe_ifExp (pt_cmpR op_eq (pe_ix ix_tup (pv 0) pe_int (fun _ _ => rfl)) pe_str (nomark _)) (pe_make MI GI hr2 (by rfl) W.gS bI .nil pass0 (pa_cons (pe_ix ix_tup (pv 0) pe_int (fun _ _ => rfl)) pa_nil))
      (pe_make MJ GJ hr2 (by rfl) W.gM bJ .nil pass0 (pa_cons (pe_ix ix_tup (pv 0) pe_int (fun _ _ => rfl)) (pa_cons (pe_ix ix_tup (pv 0) pe_int (fun _ _ => rfl)) pa_nil))))))), ?_⟩
    cases t with
    | src os =>
      obtain ⟨t, d, rfl, ht, ho⟩ := hv
      refine ⟨.ref t, rfl, false, rfl, iteF ⟨.ref t, rfl, t, _, 0, .str "source", rfl, rfl, .inl (.inl ht), rfl, rfl, _, rfl, ?_⟩⟩
      rw [wSS]
      refine iteT ⟨.ref t, rfl, t, _, 1, .ref d, rfl, rfl, .inl (.inl ht), rfl, fun x dx hx hdx nex => ?_⟩
      exact srcMade (CM := CM) hx hdx nex ho fun H' s2 h => q _ H' s2 h
    | mad r as =>
      obtain ⟨t, vr, va, rfl, ht, hr', ha⟩ := hv
      obtain ⟨u, rfl, _⟩ := id ha
      refine ⟨.ref t, rfl, false, rfl, iteF ⟨.ref t, rfl, t, _, 0, .str "made", rfl, rfl, .inl (.inl ht), rfl, rfl, _, rfl, ?_⟩⟩
      rw [wMS]
      refine iteF ⟨.ref t, rfl, t, _, 1, vr, rfl, rfl, .inl (.inl ht), rfl, .ref t, rfl, t, _, 2, .ref u, rfl, rfl, .inl (.inl ht), rfl, fun x dx hx hdx nex => ?_⟩
      exact madMade hx hdx nex hr' ha fun H' s2 h => q _ H' s2 h
def nmsL : List Str := ["h", "b1", "tx2", "q", "k", "azz0zz0z"]
theorem nmsNd : nmsL.Nodup := by unfold nmsL; decide +kernel
theorem nmsLen : ∀ k ∈ nmsL, k.length ≤ 1000 := by unfold nmsL; decide +kernel
def spNms : Sp := fun vs H Q _ => vs = [] ∧ ∀ p, H p = none → Q (.ref p) (upd H p (.lst (nmsL.map V.str)))
theorem scNms : FnScope [] [] (defScope lNames) := ⟨rfl, rfl, rfl, by decide +kernel, rfl, by decide +kernel, by decide +kernel⟩
theorem okNms {k : Nat} (F : FnP K "_law_names" lNames f fd) : FnOk P w K mg base CX0 (k + 1) f fd [] spNms := by
  refine F.ok scNms (fun vs H Q E h => ?_) (fun cdv A outer s H vs Q E hr h => ?_)
  · obtain ⟨rfl, _⟩ := h
    rfl
  · obtain ⟨rfl, q⟩ := h
    exact ⟨_, PSs.nox (pss_one (ps_ret (pe_lst (pa_cons (pe_str) (pa_cons (pe_str) (pa_cons (pe_str) (pa_cons (pe_str) (pa_cons (pe_str) (pa_cons (pe_str) pa_nil))))))))), (by show 6 ≤ sizeLine; decide), fun p hp => q p hp⟩
def spWhole (CS CM CP : Addr) : Sp := fun vs H Q _ => ∃ d T, vs = [.ref d] ∧ KtAt H d T ∧ (T.map (·.1)).Nodup ∧ T.length ≤ 100 ∧ ∀ p H', Same H H' → PjAt CS CM CP H' p T → Q (.ref p) H'
abbrev nWhole : List Str := ["_law_targets", "_law_name"]
theorem scWhole : FnScope nWhole ["_law_targets"] (defScope lPackage) := ⟨rfl, rfl, rfl, by decide +kernel, rfl, by decide +kernel, by decide +kernel⟩
theorem okWhole {k : Nat} (W : Pjc P w K mg base CS CM CP NT NS) (O : Has P w K mg base 3 "_law_one" ["_law_told"] (spOne CS CM)) (F : FnP K "_law_package" lPackage f fd) : FnOk P w K mg base CX0 (k + 4) f fd ["_law_targets"] (spWhole CS CM CP) := by
  obtain ⟨fI, dI, MI, bI, GI⟩ := W.mkP
  obtain ⟨fO, fdO, gO, kO, bO, GO⟩ := O.ex
  refine F.ok scWhole (fun vs H Q E h => ?_) (fun cdv A outer s H vs Q E hr h => ?_)
  · obtain ⟨d, T, rfl, _⟩ := h
    rfl
  · obtain ⟨d, T, rfl, ⟨kvs, hd, tT⟩, nd, lT, q⟩ := h
    have hr2 : Room (1 + 1) _ := hr.mono (by omega)
    have hr3 : Room 3 _ := hr.mono (by omega)
    have hu1 : (A.deeper (envOfC "_law_package" (defScope lPackage) s.heap.objs.size f cdv)).units + 1 < cLine := by
      have := hr.units
      omega
    refine ⟨_, PSs.nox (pss_one (ps_ret (pe_make MI GI hr2 (by rfl) W.gP bI .nil pass0 (pa_cons (pe_callTy (T := "dict") (call_dictP rfl) (by rfl) W.md (by decide +kernel) (pa_cons (pe_lock (pe_lc (own := [("_law_name", 1)]) (g := gName 1) rfl scWhole.nd (pi_keys (pv 0)) (blkOk_by (N := nWhole) (sc := defScope lPackage) (by decide +kernel))
        (fun _ _ _ _ _ => pg_name (i := 1) scWhole.nd rfl (.inl rfl) (hf := .inr rfl)) (fun _ _ _ _ _ => pts_nil) (fun _ _ _ _ _ => pe_tup (pa_cons (pv 1) (pa_cons (pe_call GO hr3 (by rfl) gO kO bO .nil pass0 (pa_cons (pe_dget hu1 (pv 0) (pv 1) (fun _ _ => rfl)) pa_nil)) pa_nil))))) pa_nil)) pa_nil)))), ?_⟩
    refine ⟨d, .dK kvs, hd, True.intro, fun od => ?_⟩
    have ed : upd H d (.frz od (.dK kvs)) d = some (.frz od (.dK kvs)) := upd_same
    have eo : ∀ c o, c ≠ d → H c = some o → upd H d (.frz od (.dK kvs)) c = some o := fun c o n h => by rw [upd_ne n]; exact h
    have back : ∀ c o, c ≠ d → upd H d (.frz od (.dK kvs)) c = some o → H c = some o := fun c o n h => by rw [upd_ne n] at h; exact h
    generalize upd H d (.frz od (.dK kvs)) = H1 at *
    refine ⟨.ref d, rfl, d, od, rfl, .inl ⟨kvs, ed, fun D hD => ?_⟩⟩
    have nDd : D ≠ d := fun z => by rw [z, ed] at hD; cases hD
    have lk := tT.len
    have ndk := tT.nd nd
    refine lcJ (n := kvs.length) (vs := [1]) (fun i H2 => ∃ (ps : List Addr) (ks : List (Key × V)), H2 D = some (.lst (ps.map V.ref)) ∧ Paired (fun p (kv : Key × V) => H2 p = some (.tup [kV kv.1, kv.2])) ps ks ∧ Tab (TgAt CS CM H2) ks (T.take i) ∧ ks.length = i ∧ ps.length = i ∧ ∀ b o, H1 b = some o → H2 b = some o)
      ⟨[], [], upd_same, .nil, .nil, rfl, rfl, KS.sameUpd hD⟩ (fun i H2 lt h => by obtain ⟨_, _, _, _, _, _, _, s⟩ := h; exact ⟨s _ _ ed, lt⟩) (fun H2 h => by obtain ⟨_, _, _, _, _, _, _, s⟩ := h; exact ⟨s _ _ ed, Nat.le_refl _⟩) (fun i H2 x H3 lt h y => ?_) (fun H2 h => ?_)
    · obtain ⟨rfl, k, v, ek, rfl⟩ := y
      obtain ⟨ps, ks, eD, pr, tb, l1, l2, s1⟩ := h
      have hm : (k, v) ∈ kvs := List.mem_of_getElem? ek
      obtain ⟨z, t, rfl, mt, ht⟩ := tT.mem k v hm
      have et : T[i]? = some (z, t) := by
        have lt2 : i < T.length := by omega
        have e1 : (kvs.map (·.1))[i]? = some (Sum.inr z) := by rw [List.getElem?_map, ek]; rfl
        rw [tT.keys, List.getElem?_map, List.getElem?_map, List.getElem?_eq_getElem lt2] at e1
        have e2 : T[i].1 = z := Sum.inr.inj (Option.some.inj e1)
        have e3 : tLook T z = some T[i].2 := tMem nd (by rw [← e2]; exact List.getElem_mem lt2)
        have e4 := tMem nd mt
        rw [e3] at e4
        rw [List.getElem?_eq_getElem lt2, ← e2, ← Option.some.inj e4]
      have hv : valV kvs (.inr z) = some v := valMem ndk hm
      obtain ⟨x1, ex1⟩ := ht.rf
      have ht1 : ToAt H3 v t := toLock hd (ex1 ▸ hm) (fun c o n h => s1 _ _ (eo c o n h)) ht
      refine ⟨rfl, ?_⟩
      unfold tYes
      dsimp only
      rw [if_pos rfl]
      refine ⟨.str z, rfl, .ref d, rfl, .str z, rfl, d, v, rfl, .inl ⟨kvs, .inr z, .inr ⟨od, s1 _ _ ed⟩, rfl, hv.symm⟩, v, t, rfl, ht1, fun r H4 s4 hr4 => ⟨(by show 2 ≤ sizeLine; decide), fun U hU => ?_⟩⟩
      have sU := KS.sameUpd (o := .tup [.str z, r]) hU
      have eU : upd H4 U (.tup [.str z, r]) U = some (.tup [.str z, r]) := upd_same
      have sA := s4.trans sU
      have hr5 := hr4.stl (Stl.same sU)
      generalize upd H4 U (.tup [.str z, r]) = H5 at *
      have eD5 := sA _ _ eD
      have t6 : Stl H5 (upd H5 D (.lst (ps.map V.ref ++ [.ref U]))) := Stl.lst eD5 Kp.put
      have tA : Stl H3 _ := (Stl.same sA).trans t6
      have up : ∀ {ps : List Addr} {ks : List (Key × V)} {H H' : Hp}, Stl H H' → Paired (fun p (o : Key × V) => H p = some (.tup [kV o.1, o.2])) ps ks → Paired (fun p (o : Key × V) => H' p = some (.tup [kV o.1, o.2])) ps ks := fun t h => by
        induction h with
        | nil => exact .nil
        | cons h _ ih => exact .cons (t _ _ h fun _ z => nomatch z) ih
      refine ⟨ps.map V.ref, eD5, by rw [sizeLine_eq, List.length_map]; omega, ps ++ [U], ks ++ [(.inr z, r)], by rw [List.map_append]; exact upd_same, (up tA pr).snoc (t6 _ _ (show H5 U = some (.tup [kV (Sum.inr z : Key), r]) from eU) fun _ z => nomatch z), ?_, by rw [List.length_append, l1]; rfl, by rw [List.length_append, l2]; rfl, fun b o hb => ?_⟩
      · rw [List.take_succ, et]
        exact Tab.append (tb.tg tA) (hr5.stl t6)
      · rw [upd_ne (ne_of_none hb hD)]
        exact sA _ _ (s1 _ _ hb)
    · obtain ⟨ps, ks, eD, pr, tb, l1, l2, s1⟩ := h
      rw [lk, List.take_length] at tb
      refine ⟨s1 _ _ ed, ?_⟩
      have eo2 : ∀ c o, c ≠ d → H2 c = some o → upd H2 d (.dK kvs) c = some o := fun c o n h => by rw [upd_ne n]; exact h
      have pr2 : Paired (fun p (kv : Key × V) => SqT K (upd H2 d (.dK kvs)) p [kV kv.1, kv.2]) ps ks := by
        clear eD l1 l2 tb
        induction pr with
        | nil => exact .nil
        | cons h _ ih => exact .cons (.inl (.inl (eo2 _ _ (fun z => by rw [z, s1 _ _ ed] at h; cases h) h))) ih
      have tb2 : Tab (TgAt CS CM (upd H2 d (.dK kvs))) ks T := tb.imp fun _ _ _ _ _ h => tgFree (s1 _ _ ed) eo2 h
      have sA : Same H (upd H2 d (.dK kvs)) := fun b x hb => by
        by_cases e : b = d
        · subst e
          rw [upd_same, ← hb, hd]
        · exact eo2 _ _ e (s1 _ _ (eo _ _ e hb))
      have eD2 := eo2 _ _ nDd eD
      generalize upd H2 d (.dK kvs) = H3 at *
      refine ⟨D, ps, ks, rfl, .inl (.inl eD2), pr2, fun u hu => ?_⟩
      have em := mergeApp ks [] (by rw [List.nil_append]; exact tb2.nd nd)
      rw [List.nil_append] at em
      rw [em]
      have su := KS.sameUpd (o := .dK ks) hu
      refine fun x dx hx hdx nex => ?_
      exact pjMade hx hdx nex upd_same (tb2.tg (Stl.same su)) fun H' s2 h => q x H' (sA.trans (su.trans s2)) h
end
end PJ

set_option Elab.async false
set_option linter.all false
set_option maxRecDepth 100000
set_option maxHeartbeats 8000000
/-! the law's look at a project -/
namespace PJ
open PySem PySem.Spec PyProof.Rows L2 KS KS.La
open KX hiding sameUpd
abbrev lIsP : Stmt := top 30
theorem tgLock1 {CS CM : Addr} {H H' : Hp} {d : Addr} {kvs : List (Key × V)} {k1 : Key} {x1 : Addr} (hd : H d = some (.dK kvs)) (m1 : (k1, V.ref x1) ∈ kvs) (e : ∀ c o, c ≠ d → H c = some o → H' c = some o) {v : V} {t : Tg} (h : TgAt CS CM H v t) : TgAt CS CM H' v t := by
  have ne : ∀ {c o}, H c = some o → (∀ ks, o ≠ .dK ks) → H' c = some o := fun {c o} hc hn => e c o (fun z => by rw [z, hd] at hc; exact hn _ (Option.some.inj hc).symm) hc
  have nd : ∀ {c os}, H c = some (.dK (oK os)) → H' c = some (.dK (oK os)) := fun {c os} hc => e c _ (fun z => by
    rw [z, hd] at hc
    have : kvs = oK os := by
      have := Option.some.inj hc
      injection this
    rw [this] at m1
    obtain ⟨z, ez⟩ := oK_str _ m1
    cases ez) hc
  cases t with
  | src os =>
    obtain ⟨x, dx, d', rfl, hx, ho, r⟩ := h
    exact ⟨x, dx, d', rfl, ne hx (fun _ z => nomatch z), nd ho, r⟩
  | mad r as =>
    obtain ⟨x, dx, vr, va, rfl, hx, hr, ⟨u, e1, hu, g⟩⟩ := h
    refine ⟨x, dx, vr, va, rfl, ne hx (fun _ z => nomatch z), ?_, ⟨u, e1, ne hu (fun _ z => nomatch z), g⟩⟩
    cases r with
    | txt z => exact hr
    | key a b => exact ⟨let ⟨t, e, h⟩ := hr.1; ⟨t, e, ne h (fun _ z => nomatch z)⟩, hr.2⟩
theorem osE_da {os os' : Outs} (nd : (os.map (·.1)).Nodup) (h : osE os os' = true) : (oK os).length = (oK os').length ∧ ∀ p ∈ oK os, valV (oK os') p.1 = some p.2 ∧ flatB p.2 = true := by
  unfold osE at h
  rw [Bool.and_eq_true, beq_iff_eq, List.all_eq_true] at h
  refine ⟨h.1, fun p hp => ?_⟩
  have h2 := h.2 p hp
  rw [Bool.and_eq_true] at h2
  obtain ⟨z, ez⟩ := oK_str p hp
  have hv : valV (oK os) p.1 = some p.2 := valMem (oK_nd nd) hp
  cases e : valV (oK os') p.1 with
  | none => rw [e] at h2; exact nomatch h2.1
  | some u =>
    have h3 := h2.2
    unfold eF at h3
    rw [hv, e] at h3
    have hm := valMem2 e
    obtain ⟨y, ey⟩ := oK_str _ hm
    have ey' : u = .str y := ey
    rw [ez, ey'] at h3
    have : z = y := by
      have h4 : (z == y) = true := by
        revert h3
        show (true && (z == y)) = true → _
        simp
      exact eq_of_beq h4
    rw [ey', ez, this]
    exact ⟨rfl, rfl⟩
/-- like tables, name by name -/
theorem tbE_at {T T' : Tb} (nd : (T.map (·.1)).Nodup) (nd' : (T'.map (·.1)).Nodup) (pm : (T.map (·.1)).Perm (T'.map (·.1))) (h : tbE T T' = true) : ∀ k t', (k, t') ∈ T' → ∃ t, tLook T k = some t ∧ tgE t t' = true := fun k t' hm => by
  have hk : k ∈ T.map (·.1) := pm.mem_iff.mpr (List.mem_map.mpr ⟨_, hm, rfl⟩)
  obtain ⟨⟨k2, t⟩, hp, rfl⟩ := List.mem_map.mp hk
  unfold tbE at h
  rw [Bool.and_eq_true, List.all_eq_true] at h
  have h2 := h.2 _ hp
  rw [Bool.and_eq_true] at h2
  have e1 := tMem nd hp
  have e2 := tMem nd' hm
  refine ⟨t, e1, ?_⟩
  have h3 := h2.2
  unfold teF at h3
  dsimp only at h3
  rw [e1, e2] at h3
  exact h3
theorem wSM : decide (V.str "source" = V.str "made") = false := by decide +kernel
theorem wMM : decide (V.str "made" = V.str "made") = true := decide_eq_true rfl
section
variable {P : Program} {w : World} {K : PySem.W.Frag} {mg : Str → Option Value} {base : Heap} {f : Addr} {fd : FuncData} {CS CM CP NT NS : Addr}
structure Lip (P : Program) (w : World) (K : PySem.W.Frag) (mg : Str → Option Value) (base : Heap) (CS CM CP : Addr) : Prop where
  eqP : ∃ (f : Addr) (fd : FuncData), PySem.W.findIn K (.ref CP) "__eq__" = some (some (.ref f)) ∧ PySem.W.isFn K (.ref f) = true ∧ Binds K fd ["self", "other"] [] ∧ FnOk P w K mg base CX0 3 f fd ["self", "other"] (spPEq CS CM CP)
  nP : PySem.W.findIn K (.ref CP) "__ne__" = some (some (.builtin "object.__ne__"))
  oP : PySem.W.mroIn K CP (.type "object") = some true
  rcp : ∃ (p g : Addr) (fd : FuncData), PropOf K CM "recipe" p g ∧ Binds K fd ["self"] [] ∧ FnOk P w K mg base CX0 1 g fd ["self"] (getSp CM "_recipe")
  arg : ∃ (p g : Addr) (fd : FuncData), PropOf K CM "arguments" p g ∧ Binds K fd ["self"] [] ∧ FnOk P w K mg base CX0 1 g fd ["self"] (getSp CM "_arguments")
  kMM : PySem.W.kitOne K (.ref CM) (.ref CM) = some true
def spIsP (CS CM CP : Addr) : Sp := fun vs H Q _ => ∃ p d T T', vs = [.ref p, .ref d] ∧ PjAt CS CM CP H p T ∧ KtAt H d T' ∧ (T.map (·.1)).Nodup ∧ (T'.map (·.1)).Nodup ∧ (T.map (·.1)).Perm (T'.map (·.1)) ∧ T'.length ≤ 60 ∧ (∀ k ∈ T'.map (·.1), TOk k) ∧ tbE T T' = true ∧ ∀ H', Same H H' → Q (.bl true) H'
abbrev nIsP : List Str := ["_law_project", "_law_targets", "_law_name", "_law_told", "_law_target_here"]
theorem scIsP : FnScope nIsP ["_law_project", "_law_targets"] (defScope lIsP) := ⟨rfl, rfl, rfl, by decide +kernel, rfl, by decide +kernel, by decide +kernel⟩
theorem okIsP {k : Nat} (W : Pjc P w K mg base CS CM CP NT NS) (A' : Pas P w K mg base CP NT) (L : Lip P w K mg base CS CM CP) (Pc : Has P w K mg base 4 "_law_package" ["_law_targets"] (spWhole CS CM CP)) (F : FnP K "_law_is_project" lIsP f fd) : FnOk P w K mg base CX0 (k + 6) f fd ["_law_project", "_law_targets"] (spIsP CS CM CP) := by
  obtain ⟨fG, dG, hG1, hG2, hG3, bG, GG⟩ := A'.get
  obtain ⟨pN, gN, dN, hN, bN, GN⟩ := A'.nam
  obtain ⟨fQ, dQ, hQ, iQ, bQ, GQ⟩ := L.eqP
  obtain ⟨pr, gr, dr, hRc, bRc, GRc⟩ := L.rcp
  obtain ⟨pa, ga, da, hAr, bAr, GAr⟩ := L.arg
  obtain ⟨po, go, dO, hO, bO, GO⟩ := W.outS
  obtain ⟨fP, fdP, gP, kP, bP, GP⟩ := Pc.ex
  refine F.ok scIsP (fun vs H Q E h => ?_) (fun cdv A outer s H vs Q E hr h => ?_)
  · obtain ⟨p, d, T, T', rfl, _⟩ := h
    rfl
  · obtain ⟨p, d, T, T', rfl, hp, hd, nd, nd', pm, l6, tok, eq, q⟩ := h
    have hr1 : Room 1 _ := hr.mono (by omega)
    have hr2 : Room (1 + 1) _ := hr.mono (by omega)
    have hr4 : Room 4 _ := hr.mono (by omega)
    have hr4' : Room (3 + 1) _ := hr.mono (by omega)
    refine ⟨_, PSs.nox (C8.pss_cut (ps_if (PW.pt (pw_or (pt_cmpR (r := rNeD K) (op_neD hr.units) (pe_prop (pv 0) W.iP.cl hN GN hr2 bN .nil pass0 rfl) (pe_callTy (T := "tuple") call_tuple_of (by rfl) W.mt (by decide +kernel) (pa_cons (pe_callB (call_sortedD rfl) (by rfl) W.ms (by decide +kernel) (pa_cons (pv 1) pa_nil)) pa_nil)) (nomark _))
          (pw_or1 (pt_cmpR (r := OD.rNeOwn CP (spPEq CS CM CP) E0) (OD.op_neOwn GQ hr4' hQ iQ bQ pass0 L.nP L.oP) (pv 0) (pe_call GP hr4 (by rfl) gP kP bP .nil pass0 (pa_cons (pv 1) pa_nil)) (nomark _))))) (pss_one (ps_ret pe_bl)) pss_nil) (pss_cons (ps_lock (ps_for PassesOwn.never rfl (pi_items (pv 1)) (pg_tup rfl (pgs_cons (pg_name (i := 2) scIsP.nd rfl (.inl rfl)) (pgs_cons (pg_name (i := 3) scIsP.nd rfl (.inl rfl)) pgs_nil)))
        (C8.pss_cut (ps_set (i := 4) scIsP.nd rfl (.inl rfl) (OD.pe_ixO (E := fun _ => E0) (pv 0) (pv 2) GG hr4' hG1 hG2 hG3 bG (fun _ => OD.passAt0))) (C8.pss_cut (ps_if (PW.pt (pw_and (pt_cmpR op_eq (pe_ix ix_tup (pv 3) pe_int (fun _ _ => rfl)) pe_str (nomark _)) (pw_and1 (PW.pt (pw_or (pt_not (pt_val (pe_callB call_isi (by rfl) W.mi (by decide +kernel) (pa_cons (pv 4) (pa_cons (pe_glob (v := .ref CS) (by rfl) W.gS rfl) pa_nil))))) (pw_or1 (pt_cmpR (op_ne_dictA hr.units0) (pe_prop (pv 4) W.iS.cl hO GO hr2 bO .nil pass0 rfl) (pe_ix ix_tup (pv 3) pe_int (fun _ _ => rfl)) (nomark _)))))))) (pss_one (ps_ret pe_bl)) pss_nil) (C8.pss_cut (ps_if (PW.pt (pw_and (pt_cmpR op_eq (pe_ix ix_tup (pv 3) pe_int (fun _ _ => rfl)) pe_str (nomark _)) (pw_and1 (PW.pt (pw_or (pt_not (pt_val (pe_callB call_isi (by rfl) W.mi (by decide +kernel) (pa_cons (pv 4) (pa_cons (pe_glob (v := .ref CM) (by rfl) W.gM rfl) pa_nil))))) (pw_or1 (pt_cmpR (r := rNeD K) (op_neD hr.units) (pe_prop (pv 4) W.iM.cl hRc GRc hr2 bRc .nil pass0 rfl) (pe_ix ix_tup (pv 3) pe_int (fun _ _ => rfl)) (nomark _)))))))) (pss_one (ps_ret pe_bl)) pss_nil) (pss_one (ps_if (PW.pt (pw_and (pt_cmpR op_eq (pe_ix ix_tup (pv 3) pe_int (fun _ _ => rfl)) pe_str (nomark _)) (pw_and1 (pt_cmpR (r := rNeD K) (op_neD hr.units) (pe_prop (pv 4) W.iM.cl hAr GAr hr2 bAr .nil pass0 rfl) (pe_ix ix_tup (pv 3) pe_int (fun _ _ => rfl)) (nomark _))))) (pss_one (ps_ret pe_bl)) pss_nil))))))) (pss_one (ps_ret pe_bl)))), ?_⟩
    obtain ⟨kp, hpr, tP⟩ := id hp
    obtain ⟨kd, ed, tD⟩ := id hd
    obtain ⟨dp, Dp, ha, eDa⟩ := id hpr
    have lT : (T.map (·.1)).length = (T'.map (·.1)).length := pm.length_eq
    have lT' : (T'.map (·.1)).length ≤ 60 := by rw [List.length_map]; exact l6
    refine ⟨fun σ' H' => σ' = [some (.ref p), some (.ref d), none, none, none] ∧ Same H H', ?_, ?_⟩
    · refine ⟨.ref p, rfl, p, dp, _, rfl, ha, p, kp, T.map (·.1), rfl, hpr, tP.keys, by omega, fun ys t H1 py sy s1 et => ?_⟩
      refine ⟨.ref d, rfl, d, kd, T'.map (·.1), rfl, .inl (s1 _ _ ed), tD.keys, by omega, fun zs u pz sz hu => ?_⟩
      have s2 := KS.sameUpd (o := .lst (zs.map V.str)) hu
      refine ⟨u, _, rfl, .inl ⟨.inl (.inl upd_same), fun t2 ht2 => ?_⟩⟩
      have s3 := KS.sameUpd (o := .tup (zs.map V.str)) ht2
      have eyz : ys = zs := SU.uniq (py.trans (pm.trans pz.symm)) sy sz
      subst eyz
      have ly : ys.length ≤ 100 := by rw [pz.length_eq]; omega
      have ty : ∀ z ∈ ys, TOk z := fun z hz => tok z (pz.mem_iff.mp hz)
      have sh := argsShaped ly ty
      have s4 := s1.trans (s2.trans s3)
      refine ⟨argsD ys, argsD ys, .tup (.inl (.inl (s3 _ _ (s2 _ _ et)))) (dpStrs ys), .tup (.inl (.inl upd_same)) (dpStrs ys), sh, sh, false, by rw [SeqAt.eqv_refl _ (SeqAt.canLay_of_shaped sh)]; rfl, iteF ?_⟩
      refine ⟨.ref p, rfl, .ref d, rfl, d, T', rfl, hd.stl (Stl.same s4), nd', by omega, fun p2 H3 s5 pj2 => ?_⟩
      have s6 := s4.trans s5
      obtain ⟨kp2, ⟨dp2, Dp2, hp2, _⟩, _⟩ := id pj2
      refine ⟨p, p2, dp, _, dp2, _, rfl, rfl, s6 _ _ ha, hp2, p, p2, T, rfl, hp.stl (Stl.same s6), nd, .inl ⟨T', pj2, fun H' s' => ⟨tbE T T', rfl, false, by rw [eq]; rfl, iteF ⟨rfl, s6.trans s'⟩⟩⟩⟩
    rintro _ H1 ⟨rfl, s1⟩
    have hp1 := hp.stl (Stl.same s1)
    have ed1 := s1 _ _ ed
    have tD1 := tD.to (Stl.same s1)
    have tP1 := tP.tg (Stl.same s1)
    have hpr1 := hpr.stl (Stl.same s1)
    obtain ⟨dp1, Dp1, ha1, eDa1⟩ := id hpr1
    refine ⟨d, .dK kd, ed1, True.intro, fun od => ?_⟩
    have eo : ∀ c o, c ≠ d → H1 c = some o → upd H1 d (.frz od (.dK kd)) c = some o := fun c o n h => by rw [upd_ne n]; exact h
    have ef : upd H1 d (.frz od (.dK kd)) d = some (.frz od (.dK kd)) := upd_same
    have back : ∀ c o, c ≠ d → upd H1 d (.frz od (.dK kd)) c = some o → H1 c = some o := fun c o n h => by rw [upd_ne n] at h; exact h
    generalize upd H1 d (.frz od (.dK kd)) = H2 at *
    have lk := tD1.len
    refine ⟨.ref d, rfl, d, od, kd, rfl, ef, ?_⟩
    refine forJ (n := kd.length) (fun i σ' H' => (∃ x2 x3 x4, σ' = [some (.ref p), some (.ref d), x2, x3, x4]) ∧ Same H2 H') ⟨⟨none, none, none, rfl⟩, Same.refl _⟩ (fun i σ' H' lt h => ⟨h.2 _ _ ef, lt⟩) (fun σ' H' h => ⟨h.2 _ _ ef, Nat.le_refl _⟩) (fun i σ' H3 x H4 lt h y => ?_) (fun σ' H' h => ?_)
    · obtain ⟨⟨x2, x3, x4, rfl⟩, s3⟩ := h
      obtain ⟨U, k, v, ek, rfl, hU, rfl⟩ := y
      have sU := s3.trans (KS.sameUpd (o := .tup [kV k, v]) hU)
      have eU : upd H3 U (.tup [kV k, v]) U = some (.tup [kV k, v]) := upd_same
      generalize upd H3 U (.tup [kV k, v]) = H5 at *
      have hm : (k, v) ∈ kd := List.mem_of_getElem? ek
      obtain ⟨z, t', rfl, mt, ht⟩ := tD1.mem k v hm
      obtain ⟨x1, ex1⟩ := ht.rf
      have m1 : ((.inr z : Key), V.ref x1) ∈ kd := ex1 ▸ hm
      have out : ∀ c o, c ≠ d → H1 c = some o → H5 c = some o := fun c o n h => sU _ _ (eo c o n h)
      have ht5 : ToAt H5 v t' := toLock ed1 m1 out ht
      obtain ⟨t, et, htt⟩ := tbE_at nd nd' pm eq z t' mt
      obtain ⟨vt, ev, htg⟩ : ∃ vt, valV kp (.inr z) = some vt ∧ TgAt CS CM H1 vt t := by
        rcases tP1.look z with ⟨_, e⟩ | ⟨v2, t2, e1, e2, h2⟩
        · rw [et] at e; cases e
        · rw [et] at e2
          cases e2
          exact ⟨v2, e1, h2⟩
      have ht6 : TgAt CS CM H5 vt t := tgLock1 ed1 m1 out htg
      have nDd : Dp1 ≠ d := fun e => by
        rw [e, ed1] at eDa1
        have : kp = kd := by
          have := Option.some.inj eDa1
          injection this with this
          exact this.symm
        rw [this] at tP1
        obtain ⟨z2, t2, e2, _, h2⟩ := tP1.mem _ _ m1
        rw [ex1] at ht
        cases t2 with
        | src os => obtain ⟨y, _, _, ey, hy, _⟩ := h2; cases ey; cases t' with
          | src os' => obtain ⟨y', _, ey', hy', _⟩ := ht; cases ey'; rw [hy] at hy'; cases hy'
          | mad r as => obtain ⟨y', _, _, ey', hy', _⟩ := ht; cases ey'; rw [hy] at hy'; cases hy'
        | mad r2 as2 => obtain ⟨y, _, _, _, ey, hy, _⟩ := h2; cases ey; cases t' with
          | src os' => obtain ⟨y', _, ey', hy', _⟩ := ht; cases ey'; rw [hy] at hy'; cases hy'
          | mad r as => obtain ⟨y', _, _, ey', hy', _⟩ := ht; cases ey'; rw [hy] at hy'; cases hy'
      have npd : p ≠ d := fun e => by rw [e, ed1] at ha1; cases ha1
      have pr5 : PrAt CP H5 p kp := ⟨dp1, Dp1, out _ _ npd ha1, out _ _ nDd eDa1⟩
      refine ⟨U, _, rfl, .inl (.inl eU), rfl, .str z, _, rfl, v, _, rfl, rfl, ?_⟩
      refine ⟨fun σ' H' => σ' = [some (.ref p), some (.ref d), some (.str z), some v, some vt] ∧ H' = H5, ?_, ?_⟩
      · refine ⟨.ref p, rfl, .str z, rfl, p, dp1, _, rfl, out _ _ npd ha1, p, kp, z, rfl, pr5, fun v' hv' => ?_, fun hn => ?_⟩
        · obtain rfl : vt = v' := Option.some.inj (ev.symm.trans hv')
          exact ⟨rfl, rfl⟩
        · rw [ev] at hn
          cases hn
      rintro _ H6 ⟨rfl, rfl⟩
      cases t with
      | src os =>
        cases t' with
        | mad r as => exact nomatch htt
        | src os' =>
          obtain ⟨x, dx, g, rfl, hx, hos⟩ := ht6
          obtain ⟨t5, d5, rfl, ht5, hos'⟩ := ht5
          obtain ⟨el, ea⟩ := osE_da hos.2.1 htt
          refine ⟨fun σ' H' => σ' = [some (.ref p), some (.ref d), some (.str z), some (.ref t5), some (.ref x)] ∧ Same H6 H', ?_, ?_⟩
          · refine ⟨.ref t5, rfl, t5, _, 0, .str "source", rfl, rfl, .inl (.inl ht5), rfl, rfl, _, rfl, ?_⟩
            rw [wSS]
            refine iteT ⟨.ref x, rfl, .ref x, .ref CS, .ref CS, .ref CS, true, rfl, .own CS, W.iS.ty hx, W.kSS, true, rfl, iteF ?_⟩
            refine ⟨.ref x, rfl, x, dx, _, rfl, hx, x, dx, g, oK os, rfl, hx, hos.1, fun u hu => ?_⟩
            have su := KS.sameUpd (o := .dK (oK os)) hu
            exact ⟨.ref t5, rfl, t5, _, 1, .ref d5, rfl, rfl, .inl (.inl (su _ _ ht5)), rfl, u, d5, oK os, oK os', rfl, rfl, upd_same, su _ _ hos'.1, el, ea, false, rfl, iteF ⟨rfl, su⟩⟩
          rintro _ H7 ⟨rfl, s7⟩
          refine ⟨fun σ' H' => σ' = [some (.ref p), some (.ref d), some (.str z), some (.ref t5), some (.ref x)] ∧ H' = H7, ?_, ?_⟩
          · refine ⟨.ref t5, rfl, t5, _, 0, .str "source", rfl, rfl, .inl (.inl (s7 _ _ ht5)), rfl, rfl, _, rfl, ?_⟩
            rw [wSM]
            exact iteF (iteF ⟨rfl, rfl⟩)
          rintro _ H8 ⟨rfl, rfl⟩
          refine ⟨.ref t5, rfl, t5, _, 0, .str "source", rfl, rfl, .inl (.inl (s7 _ _ ht5)), rfl, rfl, _, rfl, ?_⟩
          rw [wSM]
          exact iteF (iteF ⟨⟨_, _, _, rfl⟩, sU.trans s7⟩)
      | mad r as =>
        cases t' with
        | src os' => exact nomatch htt
        | mad r' as' =>
          obtain ⟨x, dx, vr, va, rfl, hx, hr', has⟩ := ht6
          obtain ⟨t5, vr5, va5, rfl, ht5, hr5, has5⟩ := ht5
          have h2 : (PyData.eqv (rcD r) (rcD r') && PyData.eqv (argsD as) (argsD as')) = true := htt
          rw [Bool.and_eq_true] at h2
          refine ⟨fun σ' H' => σ' = [some (.ref p), some (.ref d), some (.str z), some (.ref t5), some (.ref x)] ∧ H' = H6, ?_, ?_⟩
          · refine ⟨.ref t5, rfl, t5, _, 0, .str "made", rfl, rfl, .inl (.inl ht5), rfl, rfl, _, rfl, ?_⟩
            rw [wMS]
            exact iteF (iteF ⟨rfl, rfl⟩)
          rintro _ H7 ⟨rfl, rfl⟩
          refine ⟨fun σ' H' => σ' = [some (.ref p), some (.ref d), some (.str z), some (.ref t5), some (.ref x)] ∧ H' = H7, ?_, ?_⟩
          · refine ⟨.ref t5, rfl, t5, _, 0, .str "made", rfl, rfl, .inl (.inl ht5), rfl, rfl, _, rfl, ?_⟩
            rw [wMM]
            refine iteT ⟨.ref x, rfl, .ref x, .ref CM, .ref CM, .ref CM, true, rfl, .own CM, W.iM.ty hx, L.kMM, true, rfl, iteF ?_⟩
            exact ⟨.ref x, rfl, x, dx, _, rfl, hx, x, dx, _, vr, rfl, hx, rfl, .ref t5, rfl, t5, _, 1, vr5, rfl, rfl, .inl (.inl ht5), rfl, rcD r, rcD r', hr'.dp.1, hr5.dp.1, (hr'.dp (K := K)).2, (hr5.dp (K := K)).2, false, by rw [h2.1]; rfl, iteF ⟨rfl, rfl⟩⟩
          rintro _ H8 ⟨rfl, rfl⟩
          refine ⟨.ref t5, rfl, t5, _, 0, .str "made", rfl, rfl, .inl (.inl ht5), rfl, rfl, _, rfl, ?_⟩
          rw [wMM]
          refine iteT ⟨.ref x, rfl, x, dx, _, rfl, hx, x, dx, _, va, rfl, hx, rfl, .ref t5, rfl, t5, _, 2, va5, rfl, rfl, .inl (.inl ht5), rfl, argsD as, argsD as', has.dp.1, has5.dp.1, (has.dp (K := K)).2, (has5.dp (K := K)).2, false, by rw [h2.2]; rfl, iteF ?_⟩
          exact ⟨⟨_, _, _, rfl⟩, sU⟩
    · obtain ⟨⟨x2, x3, x4, rfl⟩, s3⟩ := h
      refine ⟨s3 _ _ ef, ?_⟩
      refine q _ fun b o hb => ?_
      by_cases c : b = d
      · rw [c, upd_same, ← hb, c, ed]
      · rw [upd_ne c]
        exact s3 _ _ (eo _ _ c (s1 _ _ hb))
end
end PJ

set_option Elab.async false
set_option linter.all false
set_option maxRecDepth 100000
set_option maxHeartbeats 4000000
/-! what told tables have in common -/
namespace PJ
open PySem PySem.Spec PyProof.Rows L2 KS KS.La
theorem osE_of {os os' : Outs} (nd : (os.map (·.1)).Nodup) (hl : os.length = os'.length) (h : ∀ p ∈ oK os, valV (oK os') p.1 = some p.2) : osE os os' = true := by
  unfold osE
  rw [Bool.and_eq_true, beq_iff_eq, List.all_eq_true]
  refine ⟨by rw [oK_len, oK_len]; exact hl, fun p hp => ?_⟩
  have h1 := h p hp
  obtain ⟨z, ez⟩ := oK_str p hp
  have hv : valV (oK os) p.1 = some p.2 := valMem (oK_nd nd) hp
  unfold eF
  rw [h1, hv, ez]
  show (true && (true && (z == z))) = true
  simp
theorem osE_symm {os os' : Outs} (nd : (os.map (·.1)).Nodup) (nd' : (os'.map (·.1)).Nodup) (h : osE os os' = true) : osE os' os = true := by
  obtain ⟨hl, ha⟩ := osE_da nd h
  rw [oK_len, oK_len] at hl
  have sub : ∀ z, z ∈ os.map (·.1) → z ∈ os'.map (·.1) := fun z hz => by
    obtain ⟨p, hp, rfl⟩ := List.mem_map.mp hz
    have h1 := (ha (kvO p) (List.mem_map.mpr ⟨p, hp, rfl⟩)).1
    obtain ⟨q, hq, eq⟩ := List.mem_map.mp (valMem2 h1)
    have e1 : q.1 = p.1 := Sum.inr.inj (congrArg Prod.fst eq)
    exact List.mem_map.mpr ⟨q, hq, e1⟩
  have pm : (os'.map (·.1)).Perm (os.map (·.1)) := SX.permOf _ _ nd sub (by rw [List.length_map, List.length_map]; omega)
  refine osE_of nd' hl.symm fun p' hp' => ?_
  obtain ⟨q', hq', rfl⟩ := List.mem_map.mp hp'
  have hk : q'.1 ∈ os.map (·.1) := pm.mem_iff.mp (List.mem_map.mpr ⟨q', hq', rfl⟩)
  obtain ⟨q, hq, e⟩ := List.mem_map.mp hk
  have h1 := (ha (kvO q) (List.mem_map.mpr ⟨q, hq, rfl⟩)).1
  have h2 : valV (oK os') (kvO q').1 = some (kvO q').2 := valMem (oK_nd nd') hp'
  have h3 : valV (oK os) (kvO q).1 = some (kvO q).2 := valMem (oK_nd nd) (List.mem_map.mpr ⟨q, hq, rfl⟩)
  have ek : (kvO q).1 = (kvO q').1 := congrArg Sum.inr e
  rw [ek] at h1 h3
  rw [h1] at h2
  rw [h3]
  exact h2
def TgV : Tg → Prop
  | .src os => (os.map (·.1)).Nodup
  | .mad r as => SeqAt.shaped (rcD r) = true ∧ SeqAt.shaped (argsD as) = true
theorem tgE_refl {t : Tg} (h : TgV t) : tgE t t = true := by
  cases t with
  | src os => exact osE_refl h
  | mad r as =>
    show (PyData.eqv (rcD r) (rcD r) && PyData.eqv (argsD as) (argsD as)) = true
    rw [SeqAt.eqv_refl _ (SeqAt.canLay_of_shaped h.1), SeqAt.eqv_refl _ (SeqAt.canLay_of_shaped h.2)]
    rfl
theorem tgE_symm {t t' : Tg} (h : TgV t) (h' : TgV t') (e : tgE t t' = true) : tgE t' t = true := by
  cases t with
  | src os => cases t' with
    | src os' => exact osE_symm h h' e
    | mad r as => exact nomatch e
  | mad r as => cases t' with
    | src os' => exact nomatch e
    | mad r' as' =>
      have e' : (PyData.eqv (rcD r) (rcD r') && PyData.eqv (argsD as) (argsD as')) = true := e
      show (PyData.eqv (rcD r') (rcD r) && PyData.eqv (argsD as') (argsD as)) = true
      rw [PySem.W.eqv_comm (rcD r'), PySem.W.eqv_comm (argsD as')]
      exact e'
/-- what is found is what is due -/
def oQ : Option Tg → Option Tg → Prop
  | none, none => True
  | some t, some t' => tgE t t' = true ∧ TgV t
  | _, _ => False
theorem tLook_none {T : Tb} {k : Str} (h : k ∉ T.map (·.1)) : tLook T k = none := by
  unfold tLook
  rw [Option.map_eq_none_iff, List.find?_eq_none]
  intro p hp e
  exact h (List.mem_map.mpr ⟨p, hp, of_decide_eq_true e⟩)
theorem tLook_key {T : Tb} {k : Str} {t : Tg} (h : tLook T k = some t) : k ∈ T.map (·.1) := List.mem_map.mpr ⟨_, tLook_mem h, rfl⟩
theorem tPut_new {T : Tb} {k : Str} {t : Tg} (h : k ∉ T.map (·.1)) : tPut T k t = T ++ [(k, t)] := by
  unfold tPut
  rw [if_neg]
  intro e
  obtain ⟨p, hp, e2⟩ := List.any_eq_true.mp e
  exact h (List.mem_map.mpr ⟨p, hp, of_decide_eq_true e2⟩)
theorem tLook_app {T : Tb} {k : Str} {t : Tg} (h : k ∉ T.map (·.1)) (k' : Str) : tLook (T ++ [(k, t)]) k' = if k = k' then some t else tLook T k' := by
  by_cases c : k = k'
  · subst c
    rw [if_pos rfl]
    have h1 := tLook_none h
    unfold tLook at *
    rw [Option.map_eq_none_iff] at h1
    rw [List.find?_append, h1]
    simp
  · rw [if_neg c]
    unfold tLook
    rw [List.find?_append]
    simp [c]
theorem permOfMem {l m : List Str} (h1 : l.Nodup) (h2 : m.Nodup) (h : ∀ z, z ∈ l ↔ z ∈ m) : l.Perm m := (List.perm_ext_iff_of_nodup h1 h2).mpr h
/-- all that is due is there, and nothing else -/
theorem likeWhole {T T' : Tb} {D : Str → Option Tg} {ys : List Str} (nd : (T.map (·.1)).Nodup) (nd' : (T'.map (·.1)).Nodup) (sub : ∀ k ∈ T.map (·.1), k ∈ ys) (sub' : ∀ k ∈ T'.map (·.1), k ∈ ys)
    (h : ∀ nm ∈ ys, oQ (tLook T nm) (D nm)) (h' : ∀ nm ∈ ys, tLook T' nm = D nm) : (T.map (·.1)).Perm (T'.map (·.1)) ∧ tbE T T' = true := by
  have pm : (T.map (·.1)).Perm (T'.map (·.1)) := permOfMem nd nd' fun z => by
    constructor
    · intro hz
      have hy := sub z hz
      obtain ⟨⟨k, t⟩, hp, rfl⟩ := List.mem_map.mp hz
      have e := tMem nd hp
      have q := h k hy
      rw [e] at q
      cases e2 : D k with
      | none => rw [e2] at q; exact q.elim
      | some t' => exact tLook_key ((h' k hy).trans e2)
    · intro hz
      have hy := sub' z hz
      obtain ⟨⟨k, t⟩, hp, rfl⟩ := List.mem_map.mp hz
      have e := tMem nd' hp
      have q := h k hy
      rw [← h' k hy, e] at q
      cases e2 : tLook T k with
      | none => rw [e2] at q; exact q.elim
      | some t' => exact tLook_key e2
  refine ⟨pm, ?_⟩
  unfold tbE
  rw [Bool.and_eq_true, beq_iff_eq, List.all_eq_true]
  have hl := pm.length_eq
  rw [List.length_map, List.length_map] at hl
  refine ⟨hl, fun p hp => ?_⟩
  obtain ⟨k, t⟩ := p
  have hy := sub k (List.mem_map.mpr ⟨_, hp, rfl⟩)
  have e := tMem nd hp
  have q := h k hy
  rw [e, ← h' k hy] at q
  unfold teF
  dsimp only
  rw [e]
  cases e2 : tLook T' k with
  | none => rw [e2] at q; exact q.elim
  | some t' =>
    rw [e2] at q
    rw [Bool.and_eq_true]
    exact ⟨rfl, q.1⟩
end PJ

set_option Elab.async false
set_option linter.all false
set_option maxRecDepth 100000
set_option maxHeartbeats 4000000
/-! == and in of told values: None or a tuple that may hold dicts -/
namespace PySem.SeqAt
open AutoSeq1 (wpAny_loadPart')
open MeetsSeq MeetsSeq2 MeetsSeq3 SeqRoads2
section
variable {prog : Program} {w : World}
/-- items asked from the left, no further than the first like one -/
inductive AnyP (prog : Program) (w : World) (A : Around) (s : Shared) (x : Value) : List Value → Bool → Prop
  | nil : AnyP prog w A s x [] false
  | cons {y : Value} {r : List Value} {a b : Bool} (h : EqP prog w A s y x a) (t : a = false → AnyP prog w A s x r b) : AnyP prog w A s x (y :: r) (a || b)
theorem AnyP.inv {A : Around} {s : Shared} {x y : Value} {r : List Value} {c : Bool} (h : AnyP prog w A s x (y :: r) c) : ∃ a b, c = (a || b) ∧ EqP prog w A s y x a ∧ (a = false → AnyP prog w A s x r b) := by
  cases h with
  | cons h t => exact ⟨_, _, rfl, h, t⟩
theorem tupHas (l : Addr) (items : Array Value) (n : Nat) (dd : Option Addr) (sl : Array (Option Value)) (x : Value) :
    MeetsIn prog w (Builtin.«tuple.__contains__» ⟨[.ref l, x], []⟩)
      (fun A R s => s.heap.get? l = some { cls := .type "tuple", dict := dd, data := .seq items n, slots := sl } ∧ ∃ c, AnyP prog w A.in1 s x items.toList c ∧ R (.ok (.ret (.bool c))) s) :=
  .of_wp fun A R s0 h => by
    obtain ⟨hl, c0, hc, hR⟩ := h
    obtain ⟨hp, g, d, tk, os⟩ := s0
    obtain ⟨its⟩ := items
    wp_walk using wpAny_loadPart' hl, wpAny_forIn_array _ (fun rest z s' => z.1 = none ∧ s' = ⟨hp, g, d, tk, os⟩ ∧ ∃ c, AnyP prog w A.in1 ⟨hp, g, d, tk, os⟩ x rest c ∧ R (.ok (.ret (.bool c))) ⟨hp, g, d, tk, os⟩) _
    case turn =>
      rintro y rest z s' ⟨_, rfl, c, hc, hR⟩
      obtain ⟨a, b, rfl, hxy, hr⟩ := hc.inv
      refine wpAny_bind (hxy _ _ ?_)
      cases a with
      | true =>
        wp_walk
        exact ⟨_, rfl, by simpa using hR⟩
      | false =>
        wp_walk
        exact ⟨rfl, rfl, b, hr rfl, by simpa using hR⟩
    case fin =>
      rintro ⟨z1, z2⟩ s' ⟨hz, rfl, c, hc, hR⟩
      cases hc
      have e : z1 = none := hz
      subst e
      wp_walk
      exact ⟨_, rfl, hR⟩
    case h =>
      exact ⟨rfl, rfl, c0, hc, hR⟩
theorem in_tupleP {A : Around} {E : Value → Shared → Prop} {s : Shared} {l : Addr} {items : Array Value} {x : Value} {c : Bool} {Q : Value → Shared → Prop} (hl : s.heap.IsTuple l items) (hc : AnyP prog w A.in1 s x items.toList c)
    (h : Q (.bool c) s) : wpAny (model prog w) A (compareOp .In x (.ref l)) Q E s := by
  obtain ⟨⟨cls, dd, data, sl⟩, ho, he, n, hd⟩ := id hl
  simp only at he hd
  subst he hd
  show wpAny _ A (do return .bool (← contains (.ref l) x)) Q E s
  refine wpAny_bind (wpAny_contains_slot ⟨_, ho, rfl⟩ F.slot_tuple_contains (call_meetsIn F.slot_tuple_contains ⟨_, ho, rfl⟩ F.entry_tuple_contains (F.args_tuple_contains_2 _ _) (tupHas l items n dd sl x) ⟨ho, c, hc, ?_⟩))
  exact wpAny_truthy_bool (wpAny_pure h)
end
end PySem.SeqAt
namespace ET
open PySem PySem.Spec PyProof.Rows L2
/-- how two told values compare -/
def Et (K : PySem.W.Frag) (H : Hp) (x y : V) (c : Bool) : Prop :=
  (x = .non ∧ y = .non ∧ c = true) ∨ (x = .non ∧ (∃ b ys, y = .ref b ∧ SqT K H b ys) ∧ c = false) ∨ ((∃ a xs, x = .ref a ∧ SqT K H a xs) ∧ y = .non ∧ c = false) ∨
    ∃ (a b : Addr) (xs ys : List V) (e : Bool), x = .ref a ∧ y = .ref b ∧ SqT K H a xs ∧ SqT K H b ys ∧ (a = b → c = true) ∧ DB.EbL (DB.Eb K H 1) xs ys e ∧ c = (e && xs.length == ys.length)
section
variable {X : Cx} {pins : List (Addr × Obj)} {σ : L2.St} {H : Hp} {s : Shared}
theorem run (I : Inv X pins σ H s) {A : Around} (hu : A.units + 80 < cLine) {x y : V} {v u : Value} {c : Bool} (h : Et X.K H x y c) (rx : RelV x v) (ry : RelV y u) : SeqAt.EqP X.prog X.w A s v u c := by
  rcases h with ⟨rfl, rfl, rfl⟩ | ⟨rfl, ⟨b, ys, rfl, hb⟩, rfl⟩ | ⟨⟨a, xs, rfl, ha⟩, rfl, rfl⟩ | ⟨a, b, xs, ys, e, rfl, rfl, ha, hb, hs, hp, hc⟩
  · cases rx; cases ry
    exact (SeqAt.EqAt.same _).eqP
  · cases rx; cases ry
    obtain ⟨us, _, p, _⟩ := I.tuple hb
    exact (SeqAt.EqAt.none_tuple p (by omega)).eqP
  · cases rx; cases ry
    obtain ⟨us, _, p, _⟩ := I.tuple ha
    exact (SeqAt.EqAt.tuple_none p (by omega)).eqP
  · exact DB.eb_run I 2 A (by omega) _ _ _ _ _ (.inr (.inl ⟨a, b, xs, ys, e, rfl, rfl, ha, hb, hs, by
      have up : ∀ {x y : V} {c : Bool}, DB.Eb X.K H 1 x y c → DB.Eb X.K H 1 x y c := id
      exact hp, hc⟩)) rx ry
def rEqE (K : PySem.W.Frag) : R2 := fun x y H Q => ∃ c, Et K H x y c ∧ Q (.bl c) H
theorem op_eqE (hu : X.A.units + 100 < cLine) : OpR X (compareOp .Eq) (rEqE X.K) := by
  intro pins s σ H x y v u Q I rx ry h
  obtain ⟨c, h, q⟩ := h
  have fin : EP X pins σ Q (.bool c) s := ⟨.bl c, H, I, rfl, q⟩
  show wpAny (model X.prog X.w) X.A (richCompare .Eq v u) (EP X pins σ Q) X.xe s
  rcases h with ⟨rfl, rfl, rfl⟩ | ⟨rfl, ⟨b, ys, rfl, hb⟩, rfl⟩ | ⟨⟨a, xs, rfl, ha⟩, rfl, rfl⟩ | ⟨a, b, xs, ys, e, rfl, rfl, ha, hb, hs, hp, hc⟩
  · cases rx; cases ry
    exact SeqAt.RcAt.none_none _ _ _ _ fin
  · cases rx; cases ry
    obtain ⟨us, _, p, _⟩ := I.tuple hb
    exact SeqAt.RcAt.none_tuple p (by omega) _ _ _ _ fin
  · cases rx; cases ry
    obtain ⟨us, _, p, _⟩ := I.tuple ha
    exact SeqAt.RcAt.tuple_none p (by omega) _ _ _ _ fin
  · cases (show v = Value.ref a from rx)
    cases (show u = Value.ref b from ry)
    exact DB.rc_run I (n := 1) (by omega) (DB.eb_run I 1 X.A.in1 (by show X.A.units + 1 + 1 + 70 < cLine; omega)) (.inl ⟨xs, ys, e, ha, hb, hp, hc⟩) _ _ fin
/-- one of these is like it, asked from the left -/
inductive AnyE (K : PySem.W.Frag) (H : Hp) (x : V) : List V → Bool → Prop
  | nil : AnyE K H x [] false
  | cons {y : V} {r : List V} {a b : Bool} (h : Et K H y x a) (t : a = false → AnyE K H x r b) : AnyE K H x (y :: r) (a || b)
def rInE (K : PySem.W.Frag) : R2 := fun x y H Q => ∃ p xs c, y = .ref p ∧ SqT K H p xs ∧ AnyE K H x xs c ∧ Q (.bl c) H
theorem anyRun (I : Inv X pins σ H s) {A : Around} (hu : A.units + 80 < cLine) {x : V} {v : Value} (rx : RelV x v) {xs : List V} {c : Bool} (h : AnyE X.K H x xs c) : ∀ {us : List Value}, Vals xs us → SeqAt.AnyP X.prog X.w A s v us c := by
  induction h with
  | nil => intro us r; cases r; exact .nil
  | cons h t ih =>
    intro us r
    cases r with
    | cons r1 r2 => exact .cons (run I hu h r1 rx) fun e => ih e r2
theorem op_inE (hu : X.A.units + 100 < cLine) : OpR X (compareOp .In) (rInE X.K) := by
  intro pins s σ H x y v u Q I rx ry h
  obtain ⟨p, xs, c, rfl, hp, ha, q⟩ := h
  cases (show u = Value.ref p from ry)
  obtain ⟨us, r, pl, _⟩ := I.tuple hp
  exact SeqAt.in_tupleP pl (anyRun I (A := X.A.in1) (by show X.A.units + 1 + 80 < cLine; omega) rx ha r) ⟨.bl c, H, I, rfl, q⟩
end
end ET

set_option Elab.async false
set_option linter.all false
set_option maxRecDepth 100000
set_option maxHeartbeats 8000000
/-! how told values compare; tables of them -/
namespace PJ
open PySem PySem.Spec PyProof.Rows L2 KS KS.La
open KX hiding sameUpd
section
variable {K : PySem.W.Frag}
theorem osEbD {H : Hp} {d d' : Addr} {os os' : Outs} (h : OsIn H d os) (h' : OsIn H d' os') : DB.Eb K H 1 (.ref d) (.ref d') (osE os os') := by
  refine .inr (.inr ⟨d, d', oK os, oK os', eF (oK os) (oK os'), rfl, rfl, h.1, h'.1, fun e => ?_, osEb h.2.1, rfl⟩)
  subst e
  have eo : oK os = oK os' := by
    have := Option.some.inj (h.1.symm.trans h'.1)
    injection this
  have := osE_refl h.2.1
  unfold osE at this ⊢
  rw [← eo]
  exact this
theorem toEt {H : Hp} {v u : V} {t t' : Tg} (h : ToAt H v t) (h' : ToAt H u t') : ET.Et K H v u (tgE t t') := by
  have word : ∀ z : Str, DB.Eb K H 1 (.str z) (.str z) true := fun z => .inl (.inl ⟨rfl, rfl, by show true = (z == z); simp⟩)
  cases t with
  | src os =>
    obtain ⟨x, d, rfl, hx, ho⟩ := h
    cases t' with
    | src os' =>
      obtain ⟨y, d', rfl, hy, ho'⟩ := h'
      refine .inr (.inr (.inr ⟨x, y, _, _, true && (osE os os' && true), rfl, rfl, .inl (.inl hx), .inl (.inl hy), fun e => ?_, .cons (word _) fun _ => .cons (osEbD ho ho') fun _ => .nilL, ?_⟩))
      · subst e
        rw [hx] at hy
        have := Option.some.inj hy
        injection this with this
        injection this with _ this
        injection this with e1 _
        have e2 := V.ref.inj e1
        subst e2
        have eo : oK os = oK os' := by
          have := Option.some.inj (ho.1.symm.trans ho'.1)
          injection this
        show osE os os' = true
        have := osE_refl ho.2.1
        unfold osE at this ⊢
        rw [← eo]
        exact this
      · show osE os os' = _
        simp
    | mad r as =>
      obtain ⟨y, vr, va, rfl, hy, _⟩ := h'
      refine .inr (.inr (.inr ⟨x, y, _, _, false && true, rfl, rfl, .inl (.inl hx), .inl (.inl hy), fun e => ?_, .cons (.inl (.inl ⟨rfl, rfl, by decide +kernel⟩)) (fun z => nomatch z), rfl⟩))
      subst e
      rw [hx] at hy
      have := Option.some.inj hy
      injection this with this
      injection this with _ this
      injection this with _ this
      cases this
  | mad r as =>
    obtain ⟨x, vr, va, rfl, hx, hr, ha⟩ := h
    cases t' with
    | src os' =>
      obtain ⟨y, d', rfl, hy, ho'⟩ := h'
      refine .inr (.inr (.inr ⟨x, y, _, _, false && true, rfl, rfl, .inl (.inl hx), .inl (.inl hy), fun e => ?_, .cons (.inl (.inl ⟨rfl, rfl, by decide +kernel⟩)) (fun z => nomatch z), rfl⟩))
      subst e
      rw [hx] at hy
      have := Option.some.inj hy
      injection this with this
      injection this with _ this
      injection this with _ this
      cases this
    | mad r' as' =>
      obtain ⟨y, vr', va', rfl, hy, hr', ha'⟩ := h'
      have e1 : DB.Eb K H 1 vr vr' (PyData.eqv (rcD r) (rcD r')) := .inl (.inr ⟨_, _, hr.dp.1, hr'.dp.1, (hr.dp (K := K)).2, (hr'.dp (K := K)).2, rfl⟩)
      have e2 : DB.Eb K H 1 va va' (PyData.eqv (argsD as) (argsD as')) := .inl (.inr ⟨_, _, ha.dp.1, ha'.dp.1, (ha.dp (K := K)).2, (ha'.dp (K := K)).2, rfl⟩)
      refine .inr (.inr (.inr ⟨x, y, _, _, true && (PyData.eqv (rcD r) (rcD r') && (PyData.eqv (argsD as) (argsD as') && true)), rfl, rfl, .inl (.inl hx), .inl (.inl hy), fun e => ?_, .cons (word _) fun _ => .cons e1 fun _ => .cons e2 fun _ => .nilL, ?_⟩))
      · subst e
        rw [hx] at hy
        have := Option.some.inj hy
        injection this with this
        injection this with _ this
        injection this with e1 this
        injection this with e2 _
        subst e1 e2
        show (PyData.eqv (rcD r) (rcD r') && PyData.eqv (argsD as) (argsD as')) = true
        rw [← eqSame hr hr', ← asSame ha ha', SeqAt.eqv_refl _ (SeqAt.canLay_of_shaped (hr.dp (K := K)).2), SeqAt.eqv_refl _ (SeqAt.canLay_of_shaped (ha.dp (K := K)).2)]
        rfl
      · show (PyData.eqv (rcD r) (rcD r') && PyData.eqv (argsD as) (argsD as')) = _
        simp
/-- told or None -/
def ToO (H : Hp) (v : V) : Option Tg → Prop
  | none => v = .non
  | some t => ToAt H v t
theorem ToO.stl {H H' : Hp} {v : V} {o : Option Tg} (h : ToO H v o) (s : Stl H H') : ToO H' v o := by
  cases o with
  | none => exact h
  | some t => exact ToAt.stl h s
theorem toSq {H : Hp} {v : V} {t : Tg} (h : ToAt H v t) : ∃ a xs, v = .ref a ∧ SqT K H a xs := by
  cases t with
  | src os => obtain ⟨x, d, rfl, hx, _⟩ := h; exact ⟨x, _, rfl, .inl (.inl hx)⟩
  | mad r as => obtain ⟨x, vr, va, rfl, hx, _⟩ := h; exact ⟨x, _, rfl, .inl (.inl hx)⟩
theorem toO_et {H : Hp} {v u : V} {o o' : Option Tg} (h : ToO H v o) (h' : ToO H u o') : ET.Et K H v u (oE o o') := by
  cases o with
  | none =>
    cases o' with
    | none => exact .inl ⟨h, h', rfl⟩
    | some t' =>
      obtain ⟨b, ys, e, hb⟩ := toSq (K := K) h'
      exact .inr (.inl ⟨h, ⟨b, ys, e, hb⟩, rfl⟩)
  | some t =>
    cases o' with
    | none =>
      obtain ⟨b, ys, e, hb⟩ := toSq (K := K) h
      exact .inr (.inr (.inl ⟨⟨b, ys, e, hb⟩, h', rfl⟩))
    | some t' => exact toEt h h'
end
/-! ### tables over the names -/
structure TbK (T : Tb) : Prop where
  nd : (T.map (·.1)).Nodup
  sub : ∀ k ∈ T.map (·.1), k ∈ nmsL
  tk : ∀ k t, (k, t) ∈ T → TgK t
theorem TbK.len {T : Tb} (h : TbK T) : T.length ≤ 6 := by
  have := ndLen _ nmsL h.nd h.sub
  rw [List.length_map] at this
  exact this
theorem nmsTok : ∀ z ∈ nmsL, TOk z := by unfold nmsL; decide +kernel
theorem putKeys {α : Type} (T : List (Str × α)) (k : Str) (t : α) : ((if (T.any fun p => decide (p.1 = k)) = true then T.map (fun p => if p.1 = k then (p.1, t) else p) else T ++ [(k, t)]).map (·.1)) = if k ∈ T.map (·.1) then T.map (·.1) else T.map (·.1) ++ [k] := by
  by_cases h : k ∈ T.map (·.1)
  · have : (T.any fun p => decide (p.1 = k)) = true := by
      obtain ⟨p, hp, e⟩ := List.mem_map.mp h
      exact List.any_eq_true.mpr ⟨p, hp, decide_eq_true e⟩
    rw [if_pos this, if_pos h, List.map_map]
    refine List.map_congr_left fun p _ => ?_
    show (if p.1 = k then (p.1, t) else p).1 = p.1
    split <;> rfl
  · have : ¬ (T.any fun p => decide (p.1 = k)) = true := fun h2 => by
      obtain ⟨p, hp, e⟩ := List.any_eq_true.mp h2
      exact h (List.mem_map.mpr ⟨p, hp, of_decide_eq_true e⟩)
    rw [if_neg this, if_neg h, List.map_append]
    rfl
theorem putNd {l : List Str} {k : Str} (h : l.Nodup) : (if k ∈ l then l else l ++ [k]).Nodup := by
  split
  · exact h
  · rename_i n
    exact List.nodup_append.mpr ⟨h, by simp, fun a ha b hb e => n (by rw [List.mem_singleton.mp hb] at e; exact e ▸ ha)⟩
theorem putSub {l U : List Str} {k : Str} (h : ∀ z ∈ l, z ∈ U) (hk : k ∈ U) : ∀ z ∈ (if k ∈ l then l else l ++ [k]), z ∈ U := fun z hz => by
  split at hz
  · exact h z hz
  · rcases List.mem_append.mp hz with hz | hz
    · exact h z hz
    · rw [List.mem_singleton.mp hz]; exact hk
theorem tPut_keys2 (T : Tb) (k : Str) (t : Tg) : (tPut T k t).map (·.1) = if k ∈ T.map (·.1) then T.map (·.1) else T.map (·.1) ++ [k] := putKeys T k t
theorem oPut_keys2 (os : Outs) (k z : Str) : (oPut os k z).map (·.1) = if k ∈ os.map (·.1) then os.map (·.1) else os.map (·.1) ++ [k] := putKeys os k z
theorem TbK.put {T : Tb} {k : Str} {t : Tg} (h : TbK T) (hk : k ∈ nmsL) (ht : TgK t) : TbK (tPut T k t) := by
  refine ⟨by rw [tPut_keys2]; exact putNd h.nd, by rw [tPut_keys2]; exact putSub h.sub hk, fun k' t' hm => ?_⟩
  unfold tPut at hm
  split at hm
  · obtain ⟨p, hp, e⟩ := List.mem_map.mp hm
    by_cases c : p.1 = k
    · rw [if_pos c] at e
      injection e with _ e2
      rw [← e2]
      exact ht
    · rw [if_neg c] at e
      subst e
      exact h.tk _ _ hp
  · rcases List.mem_append.mp hm with hp | hp
    · exact h.tk _ _ hp
    · have e := List.mem_singleton.mp hp
      injection e with _ e2
      rw [e2]
      exact ht
theorem TbK.drop {T : Tb} (h : TbK T) (k : Str) : TbK (tDrop T k) :=
  ⟨h.nd.sublist (List.Sublist.map _ List.filter_sublist), fun z hz => h.sub z ((List.Sublist.map _ List.filter_sublist).subset hz), fun z t hm => h.tk z t (List.mem_filter.mp hm).1⟩
theorem TbK.nil : TbK [] := ⟨List.nodup_nil, fun k h => absurd h (by simp), fun k t h => absurd h (by simp)⟩
theorem ndO {os : Outs} {k z : Str} (h : (os.map (·.1)).Nodup) : ((oPut os k z).map (·.1)).Nodup := by rw [oPut_keys2]; exact putNd h
theorem oskOf {os : Outs} (nd : (os.map (·.1)).Nodup) (h : ∀ z ∈ os.map (·.1), z ∈ outsL) : OsK os := ⟨by
  have := ndLen _ outsL nd h
  rw [List.length_map] at this
  exact this, fun p hp => h _ (List.mem_map_of_mem hp)⟩
theorem OsK.keys {os : Outs} (h : OsK os) : ∀ z ∈ os.map (·.1), z ∈ outsL := fun z hz => by
  obtain ⟨p, hp, rfl⟩ := List.mem_map.mp hz
  exact h.2 p hp
theorem OsK.put {os : Outs} {k z : Str} (h : OsK os) (nd : (os.map (·.1)).Nodup) (hk : k ∈ outsL) : OsK (oPut os k z) := oskOf (ndO nd) (by rw [oPut_keys2]; exact putSub h.keys hk)
theorem ndOD {os : Outs} {k : Str} (h : (os.map (·.1)).Nodup) : ((oDrop os k).map (·.1)).Nodup := h.sublist (List.Sublist.map _ List.filter_sublist)
theorem OsK.drop {os : Outs} (h : OsK os) (k : Str) : OsK (oDrop os k) := ⟨Nat.le_trans (List.length_filter_le _ _) h.1, fun p hp => h.2 p (List.mem_filter.mp hp).1⟩
/-! ### told away from a dict -/
def ToD (d : Addr) (H : Hp) (v : V) : Tg → Prop
  | .src os => ∃ t d', v = .ref t ∧ H t = some (.tup [.str "source", .ref d']) ∧ d' ≠ d ∧ OsIn H d' os
  | .mad r as => ToAt H v (.mad r as)
theorem ToD.to {d : Addr} {H : Hp} {v : V} {t : Tg} (h : ToD d H v t) : ToAt H v t := by
  cases t with
  | src os => obtain ⟨t, d', e, ht, _, ho⟩ := h; exact ⟨t, d', e, ht, ho⟩
  | mad r as => exact h
theorem ToD.stl {d : Addr} {H H' : Hp} {v : V} {t : Tg} (h : ToD d H v t) (s : Stl H H') : ToD d H' v t := by
  cases t with
  | src os => obtain ⟨t, d', e, ht, n, ho⟩ := h; exact ⟨t, d', e, s _ _ ht (fun _ z => nomatch z), n, s _ _ ho.1 (fun _ z => nomatch z), ho.2⟩
  | mad r as => exact ToAt.stl (t := .mad r as) h s
theorem ToD.kp {d : Addr} {H H' : Hp} {v : V} {t : Tg} {kvs : List (Key × V)} (h : ToD d H v t) (hd : H d = some (.dK kvs)) (k : Kp d H H') : ToD d H' v t := by
  have ne : ∀ {c o}, H c = some o → (∀ ks, o ≠ .dK ks) → H' c = some o := fun {c o} hc hn => k c o (fun z => by rw [z, hd] at hc; exact hn _ (Option.some.inj hc).symm) hc
  cases t with
  | src os => obtain ⟨t, d', e, ht, n, ho⟩ := h; exact ⟨t, d', e, ne ht (fun _ z => nomatch z), n, k _ _ n ho.1, ho.2⟩
  | mad r as =>
    obtain ⟨x, vr, va, rfl, hx, hr, ⟨u, e1, hu, g⟩⟩ := h
    refine ⟨x, vr, va, rfl, ne hx (fun _ z => nomatch z), ?_, ⟨u, e1, ne hu (fun _ z => nomatch z), g⟩⟩
    cases r with
    | txt z => exact hr
    | key a b => exact ⟨let ⟨t, e, h⟩ := hr.1; ⟨t, e, ne h (fun _ z => nomatch z)⟩, hr.2⟩
theorem ToAt.away {d : Addr} {H H' : Hp} {v : V} {t : Tg} (h : ToAt H v t) (nd : H d = none) (s : Same H H') : ToD d H' v t := by
  cases t with
  | src os => obtain ⟨t, d', e, ht, ho⟩ := h; exact ⟨t, d', e, s _ _ ht, ne_of_none ho.1 nd, s _ _ ho.1, ho.2⟩
  | mad r as => exact ToAt.stl (t := .mad r as) h (Stl.same s)
theorem ToN.away {H0 H : Hp} {d : Addr} {v : V} {t : Tg} (h : ToN H0 H v t) (nd : H0 d ≠ none) : ToD d H v t := by
  have g := h (upd H d (.lst [])) fun b o nb hb _ => by
    rw [upd_ne fun z => nd (by rw [← z]; exact nb)]
    exact hb
  cases t with
  | src os =>
    obtain ⟨t, d', e, ht, ho⟩ := g
    have n1 : t ≠ d := fun z => by rw [z, upd_same] at ht; cases ht
    have n2 : d' ≠ d := fun z => by have := ho.1; rw [z, upd_same] at this; cases this
    rw [upd_ne n1] at ht
    have ho1 := ho.1
    rw [upd_ne n2] at ho1
    exact ⟨t, d', e, ht, n2, ho1, ho.2⟩
  | mad r as => exact h.to
end PJ

set_option Elab.async false
set_option linter.all false
set_option maxRecDepth 100000
set_option maxHeartbeats 8000000
/-! the law's plans: drawn, moved -/
namespace PJ
open PySem PySem.Spec PyProof.Rows L2 KS KS.La
open KX hiding sameUpd
abbrev lDrawn : Stmt := top 27
abbrev lMoved : Stmt := top 28
section
variable {P : Program} {w : World} {K : PySem.W.Frag} {mg : Str → Option Value} {base : Heap} {f : Addr} {fd : FuncData} {CS CM CP NT NS : Addr}
/-- a new table -/
def spTabN : Sp := fun vs H Q _ => ∃ f : Addr, vs = [.ref f] ∧ Fd H f ∧ ∀ d T H', KtAt H' d T → TbK T → H d = none → Kp f H H' → Fd H' f → Q (.ref d) H'
abbrev nDrawn : List Str := ["_law_feed", "_law_found", "_law_name"]
theorem scDrawn : FnScope nDrawn ["_law_feed"] (defScope lDrawn) := ⟨rfl, rfl, rfl, by decide +kernel, rfl, by decide +kernel, by decide +kernel⟩
theorem okDrawn {k : Nat} (D : Has P w K mg base 1 "_law_draw" ["_law_feed", "_law_many"] spDraw) (T : Has P w K mg base 5 "_law_target" ["_law_feed"] spDrawn) (N : Has P w K mg base 1 "_law_names" [] spNms) (F : FnP K "_law_drawn" lDrawn f fd) : FnOk P w K mg base CX0 (k + 6) f fd ["_law_feed"] spTabN := by
  obtain ⟨fD, fdD, gD, kD, bD, GD⟩ := D.ex
  obtain ⟨fT, fdT, gT, kT, bT, GT⟩ := T.ex
  obtain ⟨fN, fdN, gN, kN, bN, GN⟩ := N.ex
  refine F.ok scDrawn (fun vs H Q E h => ?_) (fun cdv A outer s H vs Q E hr h => ?_)
  · obtain ⟨a, rfl, _⟩ := h
    rfl
  · obtain ⟨a, rfl, hF, q⟩ := h
    have hr1 : Room 1 _ := hr.mono (by omega)
    have hr5 : Room 5 _ := hr.mono (by omega)
    have hu1 : (A.deeper (envOfC "_law_drawn" (defScope lDrawn) s.heap.objs.size f cdv)).units + 1 < cLine := by
      have := hr.units
      omega
    refine ⟨_, PSs.nox (C8.pss_cut (ps_set (i := 1) scDrawn.nd rfl (.inl rfl) pe_dnewK) (C8.pss_cut (ps_for PassesOwn.never rfl (pi_list (pe_call0 GN hr1 (by rfl) gN kN bN .nil pass0)) (pg_name (i := 2) scDrawn.nd rfl (.inl rfl))
        (pss_one (ps_if (pt_cmpR op_gt (pe_call GD hr1 (by rfl) gD kD bD .nil pass0 (pa_cons (pv 0) (pa_cons (pe_int) pa_nil))) pe_int (nomark _)) (pss_one (ps_dput hu1 (pv 1) (pv 2) (pe_call GT hr5 (by rfl) gT kT bT .nil pass0 (pa_cons (pv 0) pa_nil)) rfl)) pss_nil))) (pss_one (ps_ret (pv 1))))), ?_⟩
    refine ⟨fun σ' H' => ∃ d, σ' = [some (.ref a), some (.ref d), none] ∧ H' d = some (.dK []) ∧ H d = none ∧ Same H H', ?_, ?_⟩
    · exact fun d hd => ⟨d, rfl, upd_same, hd, KS.sameUpd hd⟩
    rintro _ H1 ⟨d, rfl, ed, nd, s1⟩
    have F1 := hF.same s1
    have nda : d ≠ a := fun z => by obtain ⟨x, y, e, _⟩ := F1; rw [z, e] at ed; cases ed
    refine ⟨fun σ' H' => ∃ x2 kvs T, σ' = [some (.ref a), some (.ref d), x2] ∧ H' d = some (.dK kvs) ∧ Tab (ToD d H') kvs T ∧ TbK T ∧ Kp a H H' ∧ Fd H' a, ?_, ?_⟩
    · refine ⟨rfl, fun p hp => ⟨p, rfl, ⟨_, .inl (.inl upd_same)⟩, ?_⟩⟩
      have sp := KS.sameUpd (o := .lst (nmsL.map V.str)) hp
      have ep : upd H1 p (.lst (nmsL.map V.str)) p = some (.lst (nmsL.map V.str)) := upd_same
      have npa := fdNe F1 hp
      have npd : p ≠ d := fun z => by rw [z, ed] at hp; cases hp
      have F2 := F1.same sp
      have ed2 := sp _ _ ed
      have k2 : Kp a H (upd H1 p (.lst (nmsL.map V.str))) := Kp.same (s1.trans sp)
      generalize upd H1 p (.lst (nmsL.map V.str)) = H2 at *
      refine forJ (n := nmsL.length) (fun i σ' H' => ∃ x2 kvs T, σ' = [some (.ref a), some (.ref d), x2] ∧ H' d = some (.dK kvs) ∧ Tab (ToD d H') kvs T ∧ TbK T ∧ Kp a H H' ∧ Fd H' a ∧ H' p = some (.lst (nmsL.map V.str)))
        ⟨none, [], [], rfl, ed2, .nil, TbK.nil, k2, F2, ep⟩
        (fun i σ' H' lt h => by obtain ⟨_, _, _, _, _, _, _, _, _, e⟩ := h; exact ⟨_, V.str nmsL[i], .inl (.inl e), by rw [List.getElem?_map, List.getElem?_eq_getElem lt]; rfl⟩)
        (fun σ' H' h => by obtain ⟨_, _, _, _, _, _, _, _, _, e⟩ := h; exact ⟨_, .inl (.inl e), by rw [List.length_map]; exact Nat.le_refl _⟩) (fun i σ' H0 x H3 lt h y => ?_) (fun σ' H' h => ?_)
      · obtain ⟨rfl, y⟩ := y
        obtain ⟨x2, kvs, T, rfl, e3, tb, tk, k3, F3, ep3⟩ := h
        have ex := y _ (.inl (.inl ep3))
        rw [List.getElem?_map, List.getElem?_eq_getElem lt] at ex
        obtain rfl : V.str nmsL[i] = x := Option.some.inj ex
        have hnm : nmsL[i] ∈ nmsL := List.getElem_mem lt
        generalize nmsL[i] = nm at *
        refine ⟨.ref a, rfl, a, 3, rfl, F3, by decide, by decide, fun r H4 r0 r1 k4 F4 => ⟨_, _, rfl, rfl, _, rfl, ite2 (fun _ => ?_) (fun _ => ?_)⟩⟩
        · refine ⟨.ref a, rfl, a, rfl, F4, fun v t H5 tn tg k5 F5 => ?_⟩
          have k45 := k4.trans k5
          have st := Stl.fd F3 k45
          have e5 := k45 _ _ nda e3
          have nd4 : H4 d ≠ none := by rw [k4 _ _ nda e3]; exact fun z => nomatch z
          have td := tn.away nd4
          have lk : kvs.length < sizeLine := by rw [tb.len, sizeLine_eq]; have := tk.len; omega
          refine ⟨.ref d, rfl, .str nm, rfl, d, _, rfl, DPut.k (k := Sum.inr nm) e5 lk, ?_⟩
          have kp : Kp d H5 (upd H5 d (.dK (putK kvs (.inr nm) v))) := Kp.put
          refine ⟨some (.str nm), _, tPut T nm t, rfl, upd_same, Tab.put (tb.imp fun _ _ _ _ _ h => (h.stl st).kp e5 kp) (td.kp e5 kp), tk.put hnm tg, fun b o nb hb => ?_, fdOther F5 nda, ?_⟩
          · rw [upd_ne fun z => by rw [z, nd] at hb; cases hb]
            exact (k3.trans k45) _ _ nb hb
          · rw [upd_ne npd]
            exact k45 _ _ npa ep3
        · have st := Stl.fd F3 k4
          exact ⟨_, kvs, T, rfl, k4 _ _ nda e3, tb.imp fun _ _ _ _ _ h => h.stl st, tk, k3.trans k4, F4, k4 _ _ npa ep3⟩
      · obtain ⟨x2, kvs, T, rfl, e3, tb, tk, k3, F3, ep3⟩ := h
        exact ⟨x2, kvs, T, rfl, e3, tb, tk, k3, F3⟩
    rintro _ H2 ⟨x2, kvs, T, rfl, e2, tb, tk, k2, F2⟩
    exact ⟨.ref d, rfl, q d T H2 ⟨kvs, e2, tb.imp fun _ _ _ _ _ h => h.to⟩ tk nd k2 F2⟩
/-- a table changed a little, a new one -/
def spMoved : Sp := fun vs H Q _ => ∃ (f d : Addr) (n : Int) (T : Tb), vs = [.ref f, .ref d, .int n] ∧ Fd H f ∧ 0 < n ∧ n < 1000 ∧ KtAt H d T ∧ TbK T ∧ ∀ d' T' H', KtAt H' d' T' → TbK T' → H d' = none → Kp f H H' → Fd H' f → Q (.ref d') H'
abbrev nMoved : List Str := ["_law_feed", "_law_targets", "_law_many", "_law_found", "_law_turn", "_law_name", "_law_form", "_law_outputs"]
theorem scMoved : FnScope nMoved ["_law_feed", "_law_targets", "_law_many"] (defScope lMoved) := ⟨rfl, rfl, rfl, by decide +kernel, rfl, by decide +kernel, by decide +kernel⟩
theorem okMoved {k : Nat} (B : Bn mg) (md : mg "dict" = none) (D : Has P w K mg base 1 "_law_draw" ["_law_feed", "_law_many"] spDraw) (Pk : Has P w K mg base 2 "_law_pick" ["_law_feed", "_law_items"] (spPick K)) (X' : Has P w K mg base 3 "_law_text" ["_law_feed"] spText) (O : Has P w K mg base 1 "_law_outs" [] spOutsT)
    (T : Has P w K mg base 5 "_law_target" ["_law_feed"] spDrawn) (N : Has P w K mg base 1 "_law_names" [] spNms) (F : FnP K "_law_moved" lMoved f fd) : FnOk P w K mg base CX0 (k + 6) f fd ["_law_feed", "_law_targets", "_law_many"] spMoved := by
  obtain ⟨fD, fdD, gD, kD, bD, GD⟩ := D.ex
  obtain ⟨fP, fdP, gP, kP, bP, GP⟩ := Pk.ex
  obtain ⟨fX, fdX, gX, kX, bX, GX⟩ := X'.ex
  obtain ⟨fO, fdO, gO, kO, bO, GO⟩ := O.ex
  obtain ⟨fT, fdT, gT, kT, bT, GT⟩ := T.ex
  obtain ⟨fN, fdN, gN, kN, bN, GN⟩ := N.ex
  refine F.ok scMoved (fun vs H Q E h => ?_) (fun cdv A outer s H vs Q E hr h => ?_)
  · obtain ⟨a, d, n, T, rfl, _⟩ := h
    rfl
  · obtain ⟨a, d, n, T, rfl, hF, n0, n1, ⟨kvs, ed, tb⟩, tk, q⟩ := h
    have hr1 : Room 1 _ := hr.mono (by omega)
    have hr2 : Room 2 _ := hr.mono (by omega)
    have hr3 : Room 3 _ := hr.mono (by omega)
    have hr5 : Room 5 _ := hr.mono (by omega)
    have hu1 : (A.deeper (envOfC "_law_moved" (defScope lMoved) s.heap.objs.size f cdv)).units + 1 < cLine := by
      have := hr.units
      omega
    refine ⟨_, PSs.nox (C8.pss_cut (ps_set (i := 3) scMoved.nd rfl (.inl rfl) (pe_callTy call_dictD (by rfl) md (by decide +kernel) (pa_cons (pv 1) pa_nil))) (C8.pss_cut (ps_for PassesOwn.never rfl (pi_range1 (by rfl) B.range (pa_cons (pe_call GD hr1 (by rfl) gD kD bD .nil pass0 (pa_cons (pv 0) (pa_cons (pv 2) pa_nil))) pa_nil)) (pg_name (i := 4) scMoved.nd rfl (.inl rfl))
        (C8.pss_cut (ps_par (i := 5) (j := 6) (by rfl) scMoved.nd rfl rfl (by decide) rfl rfl (pa_cons (pe_call GP hr2 (by rfl) gP kP bP .nil pass0 (pa_cons (pv 0) (pa_cons (pe_call0 GN hr1 (by rfl) gN kN bN .nil pass0) pa_nil))) (pa_cons (pe_call GD hr1 (by rfl) gD kD bD .nil pass0 (pa_cons (pv 0) (pa_cons (pe_int) pa_nil))) pa_nil)) (by rfl)) (pss_one (ps_if (pt_cmpR op_eq (pv 6) pe_int (nomark _)) (pss_one (ps_expr (pe_dpop2 (pv 3) (pv 5) pe_non ⟨rfl, rfl, rfl, rfl⟩)))
            (pss_one (ps_if (PW.pt (pw_or (pt_cmpR op_eq (pv 6) pe_int (nomark _)) (pw_or (pt_cmp (pc_dnotin hu1 (pv 5) (pv 3))) (pw_or1 (pt_cmpR op_eq (pe_ix ix_tup (pe_dget hu1 (pv 3) (pv 5) (fun _ _ => rfl)) pe_int (fun _ _ => rfl)) pe_str (nomark _))))))
              (pss_one (ps_dput hu1 (pv 3) (pv 5) (pe_call GT hr5 (by rfl) gT kT bT .nil pass0 (pa_cons (pv 0) pa_nil)) rfl))
              (C8.pss_cut (ps_set (i := 7) scMoved.nd rfl (.inl rfl) (pe_callTy call_dictD (by rfl) md (by decide +kernel) (pa_cons (pe_ix ix_tup (pe_dget hu1 (pv 3) (pv 5) (fun _ _ => rfl)) pe_int (fun _ _ => rfl)) pa_nil))) (C8.pss_cut (ps_dput hu1 (pv 7) (pe_call GP hr2 (by rfl) gP kP bP .nil pass0 (pa_cons (pv 0) (pa_cons (pe_call0 GO hr1 (by rfl) gO kO bO .nil pass0) pa_nil))) (pe_call GX hr3 (by rfl) gX kX bX .nil pass0 (pa_cons (pv 0) pa_nil)) rfl) (C8.pss_cut (ps_if (pt_cmpR op_eq (pv 6) pe_int (nomark _)) (pss_one (ps_expr (pe_dpop2 (pv 7) (pe_call GP hr2 (by rfl) gP kP bP .nil pass0 (pa_cons (pv 0) (pa_cons (pe_call0 GO hr1 (by rfl) gO kO bO .nil pass0) pa_nil))) pe_non ⟨rfl, rfl, rfl, rfl⟩))) pss_nil) (pss_one (ps_dput hu1 (pv 3) (pv 5) (pe_tup (pa_cons (pe_str) (pa_cons (pv 7) pa_nil))) rfl))))))))))) (pss_one (ps_ret (pv 3))))), ?_⟩
    refine ⟨fun σ' H' => ∃ c, σ' = [some (.ref a), some (.ref d), some (.int n), some (.ref c), none, none, none, none] ∧ H' c = some (.dK kvs) ∧ H c = none ∧ Same H H', ?_, ?_⟩
    · exact ⟨.ref d, rfl, d, kvs, rfl, ed, fun c hc => ⟨c, rfl, upd_same, hc, KS.sameUpd hc⟩⟩
    rintro _ H1 ⟨c, rfl, ec, nc, s1⟩
    have F1 := hF.same s1
    have nca : c ≠ a := fun z => by obtain ⟨x, y, e, _⟩ := F1; rw [z, e] at ec; cases ec
    have tb1 : Tab (ToD c H1) kvs T := tb.imp fun _ _ _ _ _ h => h.away nc s1
    refine ⟨fun σ' H' => ∃ x4 x5 x6 x7 kvs T, σ' = [some (.ref a), some (.ref d), some (.int n), some (.ref c), x4, x5, x6, x7] ∧ H' c = some (.dK kvs) ∧ Tab (ToD c H') kvs T ∧ TbK T ∧ Kp a H H' ∧ Fd H' a, ?_, ?_⟩
    · refine ⟨.ref a, rfl, .int n, rfl, a, n, rfl, F1, n0, by omega, fun m H2 m0 m1 k2 F2 => ⟨m, rfl, by omega, by omega, ?_⟩⟩
      have st2 := Stl.fd F1 k2
      refine forJ (n := _) (fun i σ' H' => ∃ x4 x5 x6 x7 kvs T, σ' = [some (.ref a), some (.ref d), some (.int n), some (.ref c), x4, x5, x6, x7] ∧ H' c = some (.dK kvs) ∧ Tab (ToD c H') kvs T ∧ TbK T ∧ Kp a H H' ∧ Fd H' a)
        ⟨none, none, none, none, kvs, T, rfl, k2 _ _ nca ec, tb1.imp fun _ _ _ _ _ h => h.stl st2, tk, (Kp.same s1).trans k2, F2⟩ (fun i σ' H' lt _ => lt) (fun σ' H' _ => Nat.le_refl _) (fun i σ' H0 x H3 lt h y => ?_) (fun _ _ h => h)
      obtain ⟨rfl, rfl⟩ := y
      obtain ⟨x4, x5, x6, x7, kvs, T, rfl, e3, tb, tk, k3, F3⟩ := h
      -- a name, a form
      refine ⟨fun σ' H' => ∃ nm fm, σ' = [some (.ref a), some (.ref d), some (.int n), some (.ref c), some (.int (0 + i)), some (.str nm), some (.int fm), x7] ∧ nm ∈ nmsL ∧ Kp a H3 H' ∧ Fd H' a, ?_, ?_⟩
      · refine ⟨.ref a, rfl, rfl, fun p hp => ?_⟩
        have sp := KS.sameUpd (o := .lst (nmsL.map V.str)) hp
        refine ⟨a, p, _, rfl, F3.same sp, .inl (.inl upd_same), fdNe F3 hp, by decide, by decide, fun j v H4 ev k4 F4 => ?_⟩
        obtain ⟨nm, hnm, rfl⟩ := List.mem_map.mp (List.mem_of_getElem? ev)
        refine ⟨.ref a, rfl, a, 4, rfl, F4, by decide, by decide, fun fm H5 _ _ k5 F5 => ⟨.str nm, .int fm, rfl, nm, fm, rfl, hnm, ((Kp.same sp).trans k4).trans k5, F5⟩⟩
      rintro _ H4 ⟨nm, fm, rfl, hnm, k4, F4⟩
      have e4 := k4 _ _ nca e3
      have st4 := Stl.fd F3 k4
      have tb4 : Tab (ToD c H4) kvs T := tb.imp fun _ _ _ _ _ h => h.stl st4
      have k04 := k3.trans k4
      have lk : kvs.length < sizeLine := by rw [tb.len, sizeLine_eq]; have := tk.len; omega
      -- what is put in
      have put : ∀ {H5 : Hp} {v : V} {t : Tg} {x7 : Option V}, H5 c = some (.dK kvs) → Kp a H H5 → Fd H5 a → Tab (ToD c H5) kvs T → ToD c H5 v t → TgK t → ∃ y4 y5 y6 y7 kvs' T', [some (.ref a), some (.ref d), some (.int n), some (.ref c), some (.int (0 + i)), some (.str nm), some (.int fm), x7] = ([some (.ref a), some (.ref d), some (.int n), some (.ref c), y4, y5, y6, y7] : L2.St) ∧
          upd H5 c (.dK (putK kvs (.inr nm) v)) c = some (.dK kvs') ∧ Tab (ToD c (upd H5 c (.dK (putK kvs (.inr nm) v)))) kvs' T' ∧ TbK T' ∧ Kp a H (upd H5 c (.dK (putK kvs (.inr nm) v))) ∧ Fd (upd H5 c (.dK (putK kvs (.inr nm) v))) a := fun {H5 v t x7} e5 k5 F5 tb5 tv tg => by
        have kp : Kp c H5 (upd H5 c (.dK (putK kvs (.inr nm) v))) := Kp.put
        refine ⟨_, _, _, _, _, tPut T nm t, rfl, upd_same, Tab.put (tb5.imp fun _ _ _ _ _ h => h.kp e5 kp) (tv.kp e5 kp), tk.put hnm tg, fun b o nb hb => ?_, fdOther F5 nca⟩
        rw [upd_ne fun z => by rw [z, nc] at hb; cases hb]
        exact k5 _ _ nb hb
      refine ⟨.int fm, rfl, rfl, _, rfl, ite2 (fun _ => ?_) (fun _ => ?_)⟩
      · refine ⟨.ref c, rfl, c, rfl, .inl ⟨kvs, .inl e4⟩, .str nm, rfl, kvs, .inr nm, e4, rfl, fun v hv => ?_, fun hv => ?_⟩
        · have kp : Kp c H4 (upd H4 c (.dK (dropK kvs (.inr nm)))) := Kp.put
          refine ⟨_, _, _, _, _, tDrop T nm, rfl, upd_same, Tab.drop nm (tb4.imp fun _ _ _ _ _ h => h.kp e4 kp), tk.drop nm, fun b o nb hb => ?_, fdOther F4 nca⟩
          rw [upd_ne fun z => by rw [z, nc] at hb; cases hb]
          exact k04 _ _ nb hb
        · exact ⟨_, _, _, _, kvs, T, rfl, e4, tb4, tk, k04, F4⟩
      · have nc4 : H4 c ≠ none := by rw [e4]; exact fun z => nomatch z
        refine ⟨.int fm, rfl, rfl, _, rfl, ite2 (fun _ => ⟨.ref a, rfl, a, rfl, F4, fun v t H5 tn tg k5 F5 => ⟨.ref c, rfl, .str nm, rfl, c, _, rfl, DPut.k (k := Sum.inr nm) (k5 _ _ nca e4) lk, put (k5 _ _ nca e4) (k04.trans k5) F5 (tb4.imp fun _ _ _ _ _ h => h.stl (Stl.fd F4 k5)) (tn.away nc4) tg⟩⟩) (fun _ => ?_)⟩
        refine ⟨.str nm, rfl, .ref c, rfl, c, _, rfl, DGet.k (k := Sum.inr nm) e4, _, rfl, ?_⟩
        rcases tb4.look nm with ⟨hv, _⟩ | ⟨v, t, hv, hl, ht⟩
        · rw [hv]
          exact iteT ⟨.ref a, rfl, a, rfl, F4, fun v t H5 tn tg k5 F5 => ⟨.ref c, rfl, .str nm, rfl, c, _, rfl, DPut.k (k := Sum.inr nm) (k5 _ _ nca e4) lk, put (k5 _ _ nca e4) (k04.trans k5) F5 (tb4.imp fun _ _ _ _ _ h => h.stl (Stl.fd F4 k5)) (tn.away nc4) tg⟩⟩
        have dg : DGet H4 c (.str nm) (some v) := by have := DGet.k (k := Sum.inr nm) e4; rw [hv] at this; exact this
        rw [hv]
        refine iteF ?_
        cases t with
        | mad r as =>
          obtain ⟨t0, vr, va, rfl, ht0, _⟩ := ht
          refine ⟨.ref c, rfl, .str nm, rfl, c, .ref t0, rfl, dg, t0, _, 0, .str "made", rfl, rfl, .inl (.inl ht0), rfl, rfl, _, rfl, ?_⟩
          rw [wMM]
          exact iteT ⟨.ref a, rfl, a, rfl, F4, fun v t H5 tn tg k5 F5 => ⟨.ref c, rfl, .str nm, rfl, c, _, rfl, DPut.k (k := Sum.inr nm) (k5 _ _ nca e4) lk, put (k5 _ _ nca e4) (k04.trans k5) F5 (tb4.imp fun _ _ _ _ _ h => h.stl (Stl.fd F4 k5)) (tn.away nc4) tg⟩⟩
        | src os =>
          obtain ⟨t0, d', rfl, ht0, nd', ho⟩ := ht
          refine ⟨.ref c, rfl, .str nm, rfl, c, .ref t0, rfl, dg, t0, _, 0, .str "source", rfl, rfl, .inl (.inl ht0), rfl, rfl, _, rfl, ?_⟩
          rw [wSM]
          refine iteF ?_
          have osk : OsK os := tk.tk nm _ (tLook_mem hl)
          refine ⟨fun σ' H' => ∃ u os', σ' = [some (.ref a), some (.ref d), some (.int n), some (.ref c), some (.int (0 + i)), some (.str nm), some (.int fm), some (.ref u)] ∧ H' u = some (.dK (oK os')) ∧ H4 u = none ∧ OsK os' ∧ (os'.map (·.1)).Nodup ∧ Kp a H4 H' ∧ Fd H' a, ?_, ?_⟩
          · refine ⟨.ref c, rfl, .str nm, rfl, c, .ref t0, rfl, dg, t0, _, 1, .ref d', rfl, rfl, .inl (.inl ht0), rfl, d', oK os, rfl, ho.1, fun u hu => ?_⟩
            have su := KS.sameUpd (o := .dK (oK os)) hu
            exact ⟨u, os, rfl, upd_same, hu, osk, ho.2.1, Kp.same su, F4.same su⟩
          rintro _ H5 ⟨u, os1, rfl, eu, nu, ok1, nd1, k5, F5⟩
          have nua : u ≠ a := fdNe F4 nu
          refine ⟨fun σ' H' => ∃ os', σ' = [some (.ref a), some (.ref d), some (.int n), some (.ref c), some (.int (0 + i)), some (.str nm), some (.int fm), some (.ref u)] ∧ H' u = some (.dK (oK os')) ∧ OsK os' ∧ (os'.map (·.1)).Nodup ∧ Kp a H4 H' ∧ Fd H' a, ?_, ?_⟩
          · refine ⟨.ref a, rfl, a, rfl, F5, fun z H6 tz k6 F6 => ⟨.ref u, rfl, .ref a, rfl, rfl, fun p hp => ?_⟩⟩
            have sp := KS.sameUpd (o := .lst (outsL.map V.str)) hp
            refine ⟨a, p, _, rfl, F6.same sp, .inl (.inl upd_same), fdNe F6 hp, by decide, by decide, fun j v H7 ev k7 F7 => ?_⟩
            obtain ⟨o, ho', rfl⟩ := List.mem_map.mp (List.mem_of_getElem? ev)
            have kk := (k6.trans (Kp.same sp)).trans k7
            have eu7 := kk _ _ nua eu
            refine ⟨u, _, rfl, DPut.k (k := Sum.inr o) eu7 (by rw [oK_len, sizeLine_eq]; have := ok1.1; omega), ?_⟩
            rw [oK_put]
            refine ⟨oPut os1 o z, rfl, upd_same, ok1.put nd1 ho', ndO nd1, fun b x nb hb => ?_, fdOther F7 nua⟩
            rw [upd_ne (ne_of_none hb nu)]
            exact (k5.trans kk) _ _ nb hb
          rintro _ H6 ⟨os2, rfl, eu6, ok2, nd2, k6, F6⟩
          refine ⟨fun σ' H' => ∃ os', σ' = [some (.ref a), some (.ref d), some (.int n), some (.ref c), some (.int (0 + i)), some (.str nm), some (.int fm), some (.ref u)] ∧ H' u = some (.dK (oK os')) ∧ OsK os' ∧ (os'.map (·.1)).Nodup ∧ Kp a H4 H' ∧ Fd H' a, ?_, ?_⟩
          · refine ⟨.int fm, rfl, rfl, _, rfl, ite2 (fun _ => ?_) (fun _ => ⟨os2, rfl, eu6, ok2, nd2, k6, F6⟩)⟩
            refine ⟨.ref u, rfl, u, rfl, .inl ⟨oK os2, .inl eu6⟩, .ref a, rfl, rfl, fun p hp => ?_⟩
            have sp := KS.sameUpd (o := .lst (outsL.map V.str)) hp
            refine ⟨a, p, _, rfl, F6.same sp, .inl (.inl upd_same), fdNe F6 hp, by decide, by decide, fun j v H7 ev k7 F7 => ?_⟩
            obtain ⟨o, ho', rfl⟩ := List.mem_map.mp (List.mem_of_getElem? ev)
            have kk := (Kp.same (f := a) sp).trans k7
            have eu7 := kk _ _ nua eu6
            refine ⟨oK os2, .inr o, eu7, rfl, fun v hv => ?_, fun hv => ⟨os2, rfl, eu7, ok2, nd2, k6.trans kk, F7⟩⟩
            rw [oK_drop]
            refine ⟨oDrop os2 o, rfl, upd_same, ok2.drop o, ndOD nd2, fun b x nb hb => ?_, fdOther F7 nua⟩
            rw [upd_ne (ne_of_none hb nu)]
            exact (k6.trans kk) _ _ nb hb
          rintro _ H7 ⟨os3, rfl, eu7, ok3, nd3, k7, F7⟩
          refine ⟨.ref u, rfl, (by show 2 ≤ sizeLine; decide), fun U hU => ?_⟩
          have sU := KS.sameUpd (o := .tup [.str "source", .ref u]) hU
          have k8 := k7.trans (Kp.same sU)
          have e8 := k8 _ _ nca e4
          have nuc : u ≠ c := fun z => by rw [z, e4] at nu; cases nu
          refine ⟨.ref c, rfl, .str nm, rfl, c, _, rfl, DPut.k (k := Sum.inr nm) e8 lk, put (t := .src os3) e8 (k04.trans k8) (F7.same sU) (tb4.imp fun _ _ _ _ _ h => h.stl (Stl.fd F4 k8)) ⟨U, u, rfl, upd_same, nuc, sU _ _ eu7, nd3, by have := ok3.1; omega⟩ ok3⟩
    rintro _ H2 ⟨x4, x5, x6, x7, kvs2, T2, rfl, e2, tb2, tk2, k2, F2⟩
    exact ⟨.ref c, rfl, q c T2 H2 ⟨kvs2, e2, tb2.imp fun _ _ _ _ _ h => h.to⟩ tk2 nc k2 F2⟩
end
end PJ

set_option Elab.async false
set_option linter.all false
set_option maxRecDepth 100000
set_option maxHeartbeats 8000000
/-! == of tuples whose items have an own __eq__ that answers either way -/
namespace TQ
open PySem PySem.SeqAt
open AutoSeq1 (wpAny_loadPart')
open MeetsSeq MeetsSeq2 MeetsSeq3 SeqRoads2
section
variable {prog : Program} {w : World} {A : Around} {R : Result → Shared → Prop}
theorem tuple_eqB (l b : Addr) (items items2 : Array Value) (n n2 : Nat) (dd dd2 : Option Addr) (sl sl2 : Array (Option Value)) (I : List (Value × Value) → Shared → Prop)
    (turn : ∀ x y r s, I ((x, y) :: r) s → wpAny (model prog w) A.in1 (eqBool x y) (fun c s' => (c = false → R (.ok (.ret (.bool false))) s') ∧ (c = true → I r s')) (fun e s' => R (.error e) s') s)
    (fin : ∀ s, I [] s → R (.ok (.ret (.bool (items.size == items2.size)))) s) {s : Shared} (hl1 : s.heap.get? l = some { cls := .type "tuple", dict := dd, data := .seq items n, slots := sl }) (hb1 : s.heap.get? b = some { cls := .type "tuple", dict := dd2, data := .seq items2 n2, slots := sl2 }) (h : I (items.toList.zip items2.toList) s) :
    wpAny (model prog w) A.in1 (Builtin.«tuple.__eq__» ⟨[.ref l, .ref b], []⟩) (GQ.FinOf prog w A R) (fun e s' => R (.error e) s') s := by
  have f2 := AutoSeq1.sub_tuple_tuple
  have h0 := h
  obtain ⟨hp, g, d, tk, os⟩ := s
  wp_walk using wpAny_loadPart' hl1, wpAny_loadPart' hb1, wpAny_forIn_list _ (fun rest b s' => b.1 = none ∧ I rest s') _
  case turn =>
    rintro ⟨y, x⟩ rest b s' ⟨hb', hI⟩
    refine wpAny_bind (wpAny_mono (turn y x rest s' hI) (fun r s2 q2 => ?_) fun _ _ x => x)
    obtain ⟨q1, q2⟩ := q2
    cases r with
    | false =>
      have hR := q1 rfl
      wp_walk
      exact hR
    | true =>
      wp_walk
      exact ⟨rfl, q2 rfl⟩
  case fin =>
    rintro ⟨b1, b2⟩ s' ⟨hb', hI⟩
    simp only at hb'
    subst hb'
    have hR := fin s' hI
    wp_walk
    simpa [Builtin.Tuple.tupleCompareSizes] using hR
  case h =>
    exact ⟨rfl, h0⟩
end
section
variable {prog : Program} {w : World} {A : Around} {E : Value → Shared → Prop} {s : Shared}
theorem rc_tupB {l b : Addr} {items items2 : Array Value} {Q : Value → Shared → Prop} (hu : A.units < cLine) (I : List (Value × Value) → Shared → Prop)
    (hl : s.heap.IsTuple l items) (hb : s.heap.IsTuple b items2)
    (turn : ∀ x y r s, I ((x, y) :: r) s → wpAny (model prog w) A.in1 (eqBool x y) (fun c s' => (c = false → Q (.bool false) s') ∧ (c = true → I r s')) E s)
    (fin : ∀ s, I [] s → Q (.bool (items.size == items2.size)) s) (h : I (items.toList.zip items2.toList) s) : wpAny (model prog w) A (richCompare .Eq (.ref l) (.ref b)) Q E s := by
  obtain ⟨⟨cls, dd, data, sl⟩, ho, hc, n, hd⟩ := id hl
  obtain ⟨⟨cls2, dd2, data2, sl2⟩, ho2, hc2, n2, hd2⟩ := id hb
  simp only at hc hd hc2 hd2
  subst hc hd hc2 hd2
  refine wpAny_richCompare_same_room (op := .Eq) ⟨_, ho, rfl⟩ ⟨_, ho2, rfl⟩ F.slot_tuple_eq (GQ.call_here F.slot_tuple_eq ⟨_, ho, rfl⟩ F.entry_tuple_eq (F.args_tuple_eq_2 _ _) ?_) hu
  exact tuple_eqB (R := wants (fun v s' => v ≠ .notImplemented ∧ Q v s') E) l b items items2 n n2 dd dd2 sl sl2 I (fun x y r s' q => wpAny_mono (turn x y r s' q) (fun c s2 z => ⟨fun e => ⟨(fun x => nomatch x), z.1 e⟩, z.2⟩) fun _ _ x => x) (fun s' q => ⟨(fun x => nomatch x), fin s' q⟩) ho ho2 h
end
open PySem.Spec PyProof.Rows L2 EB
/-- two rows compared from the left, at any later heap -/
inductive Row (D : Eqb) (H : Hp) : List V → List V → Bool → Prop
  | nilL {ys : List V} : Row D H [] ys true
  | nilR {xs : List V} : Row D H xs [] true
  | cons {x y : V} {xs ys : List V} {a b : Bool} (h : D x y a H) (t : a = true → Row D H xs ys b) : Row D H (x :: xs) (y :: ys) (a && b)
theorem Row.mon {D : Eqb} (hD : Mon2 D) {H H' : Hp} (x : Ext H H') {xs ys : List V} {c : Bool} (h : Row D H xs ys c) : Row D H' xs ys c := by
  induction h with
  | nilL => exact .nilL
  | nilR => exact .nilR
  | cons h _ ih => exact .cons (hD _ _ _ _ _ x h) ih
/-- tuples of such -/
def ETup (K : PySem.W.Frag) (D : Eqb) : Eqb := fun x y c H => ∃ (a b : Addr) (xs ys : List V) (e : Bool), x = .ref a ∧ y = .ref b ∧ SqT K H a xs ∧ SqT K H b ys ∧ (a = b → c = true) ∧ Row D H xs ys e ∧ c = (e && xs.length == ys.length)
theorem mon_etup {K : PySem.W.Frag} {D : Eqb} (hD : Mon2 D) : Mon2 (ETup K D) := fun x y c H H' e d => by
  obtain ⟨a, b, xs, ys, e0, hx, hy, h1, h2, hs, p, hc⟩ := d
  exact ⟨a, b, xs, ys, e0, hx, hy, SqT.ext h1 e, SqT.ext h2 e, hs, p.mon hD e, hc⟩
section
variable {X : Cx} {n : Nat} {D : Eqb}
/-- what the rest of a walk comes to -/
def Rest (X : Cx) (D : Eqb) (pins : List (Addr × Obj)) (σ : L2.St) (H : Hp) (c : Bool) (l : List (Value × Value)) (s' : Shared) : Prop := ∃ H' xs ys us vs, l = us.zip vs ∧ Vals xs us ∧ Vals ys vs ∧ Inv X pins σ H' s' ∧ Ext H H' ∧ Row D H' xs ys c
theorem rcB_tup (hD : Mon2 D) (h : EqB X n D) : RcB X (n + 1) (ETup X.K D) := by
  intro A pins s σ H x y c u v sb I rx ry d
  obtain ⟨a, b, xs, ys, e, rfl, rfl, ha, hb, hs, p, hc⟩ := d
  cases rx
  cases ry
  obtain ⟨its, r, e1, z⟩ := I.tuple ha
  obtain ⟨its2, r2, e2, z2⟩ := I.tuple hb
  refine rc_tupB sb.room.units0 (fun l s' => ∃ e', Rest X D pins σ H e' l s' ∧ e = e') e1 e2 (fun x y l s' q => ?_) (fun s' q => ?_) ⟨e, ⟨H, xs, ys, its, its2, rfl, r, r2, I, Ext.rfl', p⟩, rfl⟩
  · obtain ⟨e', ⟨H1, xs1, ys1, us, vs, el, rx, ry, I1, x1, row⟩, ee⟩ := q
    cases rx with
    | nil => exact absurd el (by simp)
    | @cons x1' u1 xs2 us2 hx hxs =>
      cases ry with
      | nil => exact absurd el (by simp)
      | @cons y1' v1 ys2 vs2 hy hys =>
        rw [List.zip_cons_cons] at el
        injection el with el1 el2
        injection el1 with el3 el4
        subst el3 el4 el2
        cases row with
        | @cons _ _ _ _ a0 b0 hd t =>
          refine wpAny_mono (h A.in1 pins s' σ H1 _ _ a0 _ _ sb.in1 I1 hx hy hd) (fun c0 s2 z => ?_) fun _ _ z => z
          obtain ⟨rfl, H2, I2, x2⟩ := z
          refine ⟨fun ec => ?_, fun ec => ?_⟩
          · subst ec
            rw [Bool.false_and] at ee
            rw [hc, ee, Bool.false_and]
            exact ⟨rfl, H2, I2, x1.trans x2⟩
          · subst ec
            rw [Bool.true_and] at ee
            exact ⟨b0, ⟨H2, xs2, ys2, us2, vs2, rfl, hxs, hys, I2, x1.trans x2, (t rfl).mon hD x2⟩, ee⟩
  · obtain ⟨e', ⟨H1, xs1, ys1, us, vs, el, rx, ry, I1, x1, row⟩, ee⟩ := q
    have et : e' = true := by
      cases rx with
      | nil => cases row <;> rfl
      | cons hx hxs =>
        cases ry with
        | nil => cases row <;> rfl
        | cons hy hys => exact absurd el (by simp)
    refine ⟨?_, H1, I1, x1⟩
    rw [hc, ee, et, Bool.true_and, List.size_toArray, List.size_toArray, ← r.length, ← r2.length]
theorem RcB.eqB (h : RcB X n D) (hr : ∀ x y c H, D x y c H → ∃ a b, x = .ref a ∧ y = .ref b ∧ (a = b → c = true)) : EqB X n D := by
  intro A pins s σ H x y c u v sb I rx ry d
  obtain ⟨a, b, rfl, rfl, hs⟩ := hr _ _ _ _ d
  cases rx
  cases ry
  by_cases hab : a = b
  · subst hab
    rw [hs rfl]
    exact SeqAt.EqAt.same (A := A) (s := s) (.ref a) X.prog X.w X.xe _ ⟨rfl, H, I, Ext.rfl'⟩
  · refine GQ.eqBool_refG hab (wpAny_mono (h A pins s σ H (.ref a) (.ref b) c _ _ sb I rfl rfl d) (fun r s' q => ?_) fun _ _ x => x)
    obtain ⟨hr', q⟩ := q
    exact ⟨c, hr', rfl, q⟩
theorem eqB_tup (hD : Mon2 D) (h : EqB X n D) : EqB X (n + 1) (ETup X.K D) := RcB.eqB (rcB_tup hD h) fun _ _ _ _ d => let ⟨a, b, _, _, _, hx, hy, _, _, hs, _⟩ := d; ⟨a, b, hx, hy, hs⟩
/-- x == y of two such -/
def rEqT (D : Eqb) : R2 := fun x y H Q => ∃ c, D x y c H ∧ ∀ H', Ext H H' → Q (.bl c) H'
theorem op_eqT (h : RcB X n D) (hr : Room n X.A) : OpR X (compareOp .Eq) (rEqT D) := by
  intro pins s σ H x y v u Q I rx ry hq
  obtain ⟨c, d, q⟩ := hq
  show wpAny (model X.prog X.w) X.A (richCompare .Eq v u) (EP X pins σ Q) X.xe s
  refine wpAny_mono (h X.A pins s σ H x y c v u ⟨hr, rfl⟩ I rx ry d) (fun r s' z => ?_) fun _ _ x => x
  obtain ⟨hr', H', I', e⟩ := z
  subst hr'
  exact ⟨.bl c, H', I', rfl, q H' e⟩
end
end TQ

set_option Elab.async false
set_option linter.all false
set_option maxRecDepth 100000
set_option maxHeartbeats 4000000
/-! o(x), x + y, ~x by the methods of an own class, also where they may raise -/
namespace CW
open PySem PySem.Spec PyProof.Rows L2 StX
section
variable {X : Cx} {CX : CXT} {k : Nat} {C f : Addr} {fd : FuncData} {ps : List Str} {sp : Sp} {E : L2.St → XK} {o a b : Expr} {e : Expr} {es : List Expr} {ta tb : TE} {t : TA} {pos : Pos}
/-- o(e, ..), an instance of C -/
def tCallT (C : Addr) (sp : Sp) (E : L2.St → XK) (ta : TE) (t : TA) : TE := fun σ H Q => ta σ H fun y H1 => ∃ a, y = V.ref a ∧ t σ H1 fun vs H2 => (∃ dx fs, H2 a = some (.ins C dx fs)) ∧ sp (V.ref a :: vs) H2 Q (E σ)
theorem pe_callT (hf : PE X o ta) (c : CallO X.K C f) (F : FnOk X.prog X.w X.K X.mg X.base CX k f fd ps sp) (hr : Room k X.A) (hb : Binds X.K fd ps []) (hx : ∀ σ, PassesAt CX X σ (E σ)) (ha : PA X (e :: es) t)
    (ht : eval (.Call o (e :: es) [] pos) X.env = (do callWith pos (← eval o X.env) [] (backTo pos (starEach (e :: es) X.env)) (backToKw pos (keywordEach [] X.env))) := by rfl)
    (he : starEach (e :: es) X.env = (false, eval e X.env) :: starEach es X.env := by rfl) (hpl : (backTo pos (starEach es X.env)).any (·.1) = false := by rfl) : PE X (.Call o (e :: es) [] pos) (tCallT C sp E ta t) := by
  refine ⟨fun pins s σ H Q I h => ?_⟩
  refine Call_ (thn (hf.run pins s σ H _ I h) fun u s1 ⟨y, H1, I1, ry, a, ey, q⟩ => ?_) ht
  subst ey
  obtain rfl : u = Value.ref a := ry
  refine callO_with (thn (ha.run pos pins s1 σ H1 _ I1 q) fun us s2 ⟨vs, H2, I2, r, hi, q2⟩ => ?_) he hpl
  obtain ⟨ox, od, J, hd⟩ := insC_at I2 (.inr hi)
  refine ⟨⟨C, ox, od, J, hd⟩, wpAny_call (PySem.W.kco_code I2.kIn J hd c.at_ c.fn c.fi ?_)⟩
  have r' : Vals (V.ref a :: vs) (Value.ref a :: us) := .cons rfl r
  have hl : (Value.ref a :: us).length = ps.length := by rw [← r'.length]; exact F.len _ _ _ _ q2
  have b := hb s2 (Value.ref a :: us) I2.kIn (by rw [List.append_nil]; exact hl)
  rw [List.append_nil] at b
  refine codeAny_mono (F.run X.A X.stack s2 H2 ⟨Value.ref a :: us, []⟩ (Value.ref a :: us) (V.ref a :: vs) Q (E σ) hr I2.env0 b r' q2) fun r s' hq => ?_
  cases r with
  | error e => exact hx σ pins H2 s2 e s' I2 hq
  | ok fl =>
    cases fl with
    | ret u => exact I2.after hq
    | next => exact False.elim hq
    | brk => exact False.elim hq
    | cont => exact False.elim hq
/-- x op y, both of C -/
def tBinT (C : Addr) (sp : Sp) (E : L2.St → XK) (ta tb : TE) : TE := fun σ H Q => ta σ H fun x H1 => tb σ H1 fun y H2 => ∃ a b dx fs dy gs, x = .ref a ∧ y = .ref b ∧ H2 a = some (.ins C dx fs) ∧ H2 b = some (.ins C dy gs) ∧ sp [x, y] H2 (fun v H3 => ∃ r, v = .ref r ∧ Q v H3) (E σ)
theorem pe_binT {op : Operator} (ha : PE X a ta) (hb' : PE X b tb) (F : FnOk X.prog X.w X.K X.mg X.base CX k f fd ps sp) (hr : Room k X.A) (hb : Binds X.K fd ps []) (hs : PySem.W.findIn X.K (.ref C) (PySem.dunder op.info.2) = some (some (.ref f))) (hf : PySem.W.isFn X.K (.ref f) = true)
    (hc : PySem.W.selfFirst X.K C = true) (hx : ∀ σ, PassesAt CX X σ (E σ)) : PE X (.BinOp a op b pos) (tBinT C sp E ta tb) := by
  refine ⟨fun pins s σ H Q I h => ?_⟩
  refine wpAny_BinOp (binT ha hb' I h fun v u s2 x y H2 I2 rx ry q => ?_)
  obtain ⟨a, b, dx, fs, dy, gs, rfl, rfl, h1, h2, q⟩ := q
  cases rx
  cases ry
  obtain ⟨mA, J, _⟩ := ins_get I2.hok h1
  obtain ⟨od, J, _⟩ := J.look
  obtain ⟨mB, J', _⟩ := ins_get I2.hok h2
  obtain ⟨od', J', _⟩ := J'.look
  obtain ⟨m, hF⟩ := I2.fr
  refine PySem.W.binop_K hF I2.ok.mod.kin J J'.type hc hs hf (wpAny_mono (run_fnS (us := [Value.ref a, Value.ref b]) (vs := [V.ref a, V.ref b]) F hr hb (hx σ) I2 (.cons rfl (.cons rfl .nil)) q) (fun r s3 z => ?_) fun _ _ z => z)
  obtain ⟨v, H3, I3, rv, c, rfl, q3⟩ := z
  cases rv
  exact ⟨.ref c, H3, I3, rfl, q3⟩
/-- ~x -/
def tInvT (C : Addr) (sp : Sp) (E : L2.St → XK) (ta : TE) : TE := fun σ H Q => ta σ H fun x H1 => ∃ a dx fs, x = .ref a ∧ H1 a = some (.ins C dx fs) ∧ sp [x] H1 Q (E σ)
theorem pe_invT (ha : PE X a ta) (F : FnOk X.prog X.w X.K X.mg X.base CX k f fd ps sp) (hr : Room k X.A) (hb : Binds X.K fd ps []) (hs : PySem.W.findIn X.K (.ref C) "__invert__" = some (some (.ref f))) (hf : PySem.W.isFn X.K (.ref f) = true)
    (hx : ∀ σ, PassesAt CX X σ (E σ)) : PE X (.UnaryOp .Invert a pos) (tInvT C sp E ta) := by
  refine ⟨fun pins s σ H Q I h => ?_⟩
  refine UnaryOp_ (thn (ha.run pins s σ H _ I h) fun v s1 ⟨x, H1, I1, r1, a, dx, fs, ex, h1, q⟩ => ?_)
  subst ex
  cases r1
  obtain ⟨mA, J, _⟩ := ins_get I1.hok h1
  obtain ⟨od, J, _⟩ := J.look
  unfold unaryOp
  refine wpAny_holding ?_
  dsimp only
  rw [if_neg (by decide)]
  refine wpAny_bind (PySem.W.special_fn I1.kIn J hs (beq_iff_eq.mp hf) (wpAny_mono (run_fnS (us := [Value.ref a]) (vs := [V.ref a]) F hr hb (hx σ) I1 (.cons rfl .nil) q) (fun r s3 z => ?_) fun _ _ z => z))
  exact wpAny_pure z
end
end CW

set_option Elab.async false
set_option linter.all false
set_option maxRecDepth 100000
set_option maxHeartbeats 4000000
/-! None and an own object, compared within a tuple -/
namespace TQ
open PySem PySem.Spec PyProof.Rows L2 EB
section
variable {X : Cx} {C : Addr} {CX : CXT} {n : Nat} {f : Addr} {fd : FuncData} {ps : List Str} {sp : Sp} {E : XK}
def ENon (C : Addr) (sp : Sp) (E : XK) : Eqb := fun x y c H => ∃ b dy gs, ((x = .non ∧ y = .ref b) ∨ (x = .ref b ∧ y = .non)) ∧ H b = some (.ins C dy gs) ∧ ∀ H', Ext H H' → sp [.ref b, .non] H' (fun v H2 => v = .bl c ∧ Ext H' H2) E
theorem mon_enon : Mon2 (ENon C sp E) := fun x y c H H' e d => by
  obtain ⟨b, dy, gs, hxy, hb, r⟩ := d
  exact ⟨b, dy, gs, hxy, e _ _ hb, fun H2 e2 => r H2 (e.trans e2)⟩
theorem eqB_non (F : FnOk X.prog X.w X.K X.mg X.base CX n f fd ps sp)
    (hs : PySem.W.findIn X.K (.ref C) "__eq__" = some (some (.ref f))) (hf : PySem.W.isFn X.K (.ref f) = true) (hb : Binds X.K fd ps []) (hx : Passes CX X E)
    (hT : PySem.W.subIn X.K (.type "NoneType") (.ref C) = some false) (hT2 : PySem.W.subIn X.K (.ref C) (.type "NoneType") = some false) : EqB X n (ENon C sp E) := by
  intro A pins s σ H x y c u v sb I rx ry d
  obtain ⟨b, dy, gs, hxy, hbb, hr⟩ := d
  obtain ⟨mA, J, _⟩ := ins_get I.hok hbb
  obtain ⟨od, J, _⟩ := J.look
  obtain ⟨m, hF⟩ := I.fr
  have hsp := hr H Ext.rfl'
  have e0 : Env0 X.prog X.w X.K X.mg X.base A X.stack s H := by
    have e := I.env0
    exact ⟨by rw [sb.fr]; exact e.frames, e.mod, e.bs, e.bsz, e.funs, e.frf, e.hok, e.bare⟩
  have call : wpAny (model X.prog X.w) A (call (.ref f) [.ref b, .none]) (fun v s' => v = Value.bool c ∧ ∃ H', Inv X pins σ H' s' ∧ Ext H H') X.xe s := by
    have hl := F.len _ _ _ _ hsp
    have r2 : Vals [V.ref b, V.non] [Value.ref b, Value.none] := .cons rfl (.cons rfl .nil)
    refine wpAny_call (codeAny_mono (F.run A X.stack s H ⟨[.ref b, .none], []⟩ [.ref b, .none] [.ref b, .non] _ E sb.room e0 (by
      have := hb s [.ref b, .none] I.kIn (by simpa using hl)
      simpa using this) r2 hsp) fun r s' hq => ?_)
    cases r with
    | error e => exact hx pins σ H s e s' I hq
    | ok fl =>
      cases fl with
      | ret w =>
        obtain ⟨z, H', I', rz, ez, ex⟩ := I.after hq
        subst ez
        cases rz
        exact ⟨rfl, H', I', ex⟩
      | next => exact False.elim hq
      | brk => exact False.elim hq
      | cont => exact False.elim hq
  have wrap : ∀ {p q : Value}, (p == q) = false → (∀ a b, ¬ (∃ t t', p = .float a t ∧ q = .float b t')) → True := fun _ _ => True.intro
  rcases hxy with ⟨rfl, rfl⟩ | ⟨rfl, rfl⟩
  · cases rx
    cases ry
    have hN : s.TypeIs .none "NoneType" := rfl
    have Xk := I.ok.mod.kin.keeps hF.keep
    unfold eqBool
    refine wpAny_holding ?_
    refine wpAny_ite_split (fun hab => absurd (by have := eq_of_beq hab; exact (nomatch this : False)) (fun z => z)) (fun _ => ?_)
    refine wpAny_bind ?_
    unfold richCompare
    simp only [hN.oneThing_none]
    refine wpAny_holding (wpAny_bind (wpAny_cRoomFor sb.room.units0 ?_))
    refine wpAny_bind (wpAny_typeOf hN (wpAny_bind (J.type.here ?_)))
    rw [if_pos (by simp)]
    refine wpAny_bind ((PySem.W.looks_subIn Xk hT2).here ?_)
    simp only [Bool.false_eq_true, if_false]
    refine wpAny_bind (wpAny_tryCompare_declines hN PySem.F.slot_NoneType_eq (call_gives PySem.F.slot_NoneType_eq hN PySem.F.entry_NoneType_eq (PySem.F.args_NoneType_eq_2 _ _) (PySem.SeqAt.NoneType___eq___none_ref_0 b) ⟨rfl, ?_⟩))
    simp only [Bool.not_false, if_true]
    refine wpAny_bind ?_
    unfold tryCompare
    refine wpAny_bind (PySem.W.ifBound_K Xk J hs hf (wpAny_mono call (fun v s' hv => ?_) fun _ _ e => e))
    obtain ⟨rfl, q⟩ := hv
    exact wpAny_pure (wpAny_pure (wpAny_truthy_bool ⟨rfl, q⟩))
  · cases rx
    cases ry
    unfold eqBool
    refine wpAny_holding ?_
    refine wpAny_ite_split (fun hab => absurd (by have := eq_of_beq hab; exact (nomatch this : False)) (fun z => z)) (fun _ => ?_)
    refine wpAny_bind ?_
    refine PySem.W.cmp_K (op := .Eq) (tb := .type "NoneType") sb.room.units0 hF I.ok.mod.kin J .now (by simp [PySem.W.notFirst, hT]) hs hf (wpAny_mono call (fun v s' hv => ?_) fun _ _ e => e)
    obtain ⟨rfl, q⟩ := hv
    exact wpAny_truthy_bool ⟨rfl, q⟩
end
end TQ

set_option Elab.async false
set_option linter.all false
set_option maxRecDepth 100000
set_option maxHeartbeats 4000000
/-! x != y by an own __eq__, y an object of any class, or None on either side -/
namespace NQ
open PySem PySem.Spec PyProof.Rows L2 OD
section
variable {X : Cx} {C : Addr} {CX : CXT} {n : Nat} {f : Addr} {fd : FuncData} {ps : List Str} {sp : Sp} {E : XK} {pins : List (Addr × Obj)} {s : Shared} {σ : L2.St} {H : Hp} {a dx : Addr} {fs : List (Str × V)} {y : V} {u : Value} {Q : VK}
theorem one (F : FnOk X.prog X.w X.K X.mg X.base CX n f fd ps sp) (hr : Room (n + 1) X.A)
    (hs : PySem.W.findIn X.K (.ref C) "__eq__" = some (some (.ref f))) (hf : PySem.W.isFn X.K (.ref f) = true) (hb : Binds X.K fd ps []) (hx : Passes CX X E)
    (hn : PySem.W.findIn X.K (.ref C) "__ne__" = some (some (.builtin "object.__ne__"))) (ht : PySem.W.mroIn X.K C (.type "object") = some true)
    (I : Inv X pins σ H s) (ry : RelV y u) (ha : H a = some (.ins C dx fs)) (hsp : sp [.ref a, y] H (fun v H' => ∃ c, v = .bl c ∧ Q (.bl (!c)) H') E) :
    wpAny (model X.prog X.w) X.A (tryCompare (.ref a) "__ne__" u) (fun r s' => ∃ c, r = some (.bool c) ∧ EP X pins σ Q (.bool c) s') X.xe s := by
  obtain ⟨mA, J, _⟩ := ins_get I.hok ha
  obtain ⟨od, J, _⟩ := J.look
  obtain ⟨m, hF⟩ := I.fr
  have XK := I.kIn
  unfold tryCompare
  refine wpAny_bind ?_
  simp only [callSpecialIfBound?, bindSpecialIfBound?]
  refine wpAny_holding (wpAny_bind (wpAny_bind (wpAny_bind (J.type.here ((PySem.W.looks_findIn XK hn).here ?_)))))
  refine wpAny_bind (wpAny_askSetting (wpAny_ite ?_))
  have two : PySem.W.Looks (model X.prog X.w) s.heap (isInstance (.ref a) (.type "object")) true := J.type.andThen (PySem.W.looks_mroIn XK ht)
  have callE : wpAny (model X.prog X.w) X.A.in1 (call (.ref f) [.ref a, u]) (fun v s' => ∃ c, v = .bool c ∧ ∃ H', Inv X pins σ H' s' ∧ Q (.bl (!c)) H') X.xe s := by
    have hl := F.len _ _ _ _ hsp
    have r2 : Vals [V.ref a, y] [Value.ref a, u] := .cons rfl (.cons ry .nil)
    refine wpAny_call (codeAny_mono (F.run X.A.in1 X.stack s H ⟨[.ref a, u], []⟩ [.ref a, u] [.ref a, y] _ E hr.in1 I.env0.in1 (by
      have := hb s [.ref a, u] I.kIn (by simpa using hl)
      simpa using this) r2 hsp) fun r s' hq => ?_)
    cases r with
    | error e => exact hx pins σ H s e s' I hq
    | ok fl =>
      cases fl with
      | ret w =>
        obtain ⟨z, H', I', rz, c, ez, q⟩ := I.after hq
        subst ez
        cases rz
        exact ⟨c, rfl, H', I', q⟩
      | next => exact False.elim hq
      | brk => exact False.elim hq
      | cont => exact False.elim hq
  have callN : wpAny (model X.prog X.w) X.A (call (.builtin "object.__ne__") [.ref a, u]) (fun v s' => ∃ c, v = .bool c ∧ EP X pins σ Q (.bool c) s') X.xe s := by
    refine wpAny_call (codeAny_call_builtin slotNe.plain PySem.F.cmpEntry_ne (@PySem.W.check_slot (model X.prog X.w) _ _ _ "object.__ne__" "object" "__ne__" (.ref a) [u] [] _ PySem.F.cmpKind_ne PySem.F.cmpSplit_ne two (PySem.F.cmpArgs_ne _ _) ?_))
    have hu : X.A.in1.units < cLine := hr.in1.units0
    unfold Builtin.«object.__ne__»
    repeat (first
      | with_reducible refine wpAny_cRoomFor hu ?_
      | (refine wpAny_bind (m := callSpecialIfBound? (.ref a) (Str.ofString "__eq__") [u])
          (PySem.W.ifBound_K XK J hs hf (wpAny_mono callE (fun r s' hr => by
            obtain ⟨c, rfl, H', I', q⟩ := hr
            have fin : EP X pins σ Q (.bool (!c)) s' := ⟨.bl (!c), H', I', rfl, q⟩
            repeat (first | exact ⟨_, rfl, fin⟩ | (refine wpAny_bind (m := truthy (.bool _)) (wpAny_truthy_bool ?_)) | wp_step)) fun _ _ e => e)))
      | wp_step)
  have fin : wpAny (model X.prog X.w) X.A (call (.builtin "object.__ne__") ([.ref a] ++ [u]) >>= fun v => pure (some v)) (fun r s' => ∃ c, r = some (.bool c) ∧ EP X pins σ Q (.bool c) s') X.xe s := wpAny_bind (wpAny_mono callN (fun v s' z => by
    obtain ⟨c, rfl, q⟩ := z
    exact wpAny_pure ⟨c, rfl, q⟩) fun _ _ e => e)
  split
  · rw [slotNe.bind]
    refine wpAny_bind (wpAny_pure (wpAny_pure ?_))
    refine wpAny_mono fin (fun r s' z => ?_) fun _ _ e => e
    obtain ⟨c, rfl, q⟩ := z
    exact wpAny_pure ⟨c, rfl, q⟩
  · rw [slotNe.bind]
    refine wpAny_tryCatch (wpAny_bind (wpAny_pure (wpAny_pure ?_)))
    refine wpAny_mono fin (fun r s' z => ?_) fun _ _ e => e
    obtain ⟨c, rfl, q⟩ := z
    exact wpAny_pure ⟨c, rfl, q⟩
/-- the right side: another object, or None -/
def rNeG (K : PySem.W.Frag) (C : Addr) (sp : Sp) (E : XK) : R2 := fun x y H Q => ∃ a dx fs, x = .ref a ∧ H a = some (.ins C dx fs) ∧ ((∃ b C' dy gs, y = .ref b ∧ H b = some (.ins C' dy gs) ∧ PySem.W.notFirst K C (.ref C') = true) ∨ (y = .non ∧ PySem.W.subIn K (.type "NoneType") (.ref C) = some false)) ∧ sp [x, y] H (fun v H' => ∃ c, v = .bl c ∧ Q (.bl (!c)) H') E
theorem op_neG (F : FnOk X.prog X.w X.K X.mg X.base CX n f fd ps sp) (hr : Room (n + 1) X.A)
    (hs : PySem.W.findIn X.K (.ref C) "__eq__" = some (some (.ref f))) (hf : PySem.W.isFn X.K (.ref f) = true) (hb : Binds X.K fd ps []) (hx : Passes CX X E)
    (hn : PySem.W.findIn X.K (.ref C) "__ne__" = some (some (.builtin "object.__ne__"))) (ht : PySem.W.mroIn X.K C (.type "object") = some true) : OpR X (compareOp .NotEq) (rNeG X.K C sp E) := by
  intro pins s σ H x y v u Q I rx ry h
  obtain ⟨a, dx, fs, rfl, ha, hy, hsp⟩ := h
  cases rx
  obtain ⟨mA, J, _⟩ := ins_get I.hok ha
  obtain ⟨od, J, _⟩ := J.look
  obtain ⟨m, hF⟩ := I.fr
  have XK := I.kIn
  have Q1 := one F hr hs hf hb hx hn ht I ry ha hsp
  have go : ∀ {tb : Value}, PySem.W.Looks (model X.prog X.w) s.heap (typeOf u) tb → PySem.W.notFirst X.K C tb = true → wpAny (model X.prog X.w) X.A (richCompare .NotEq (.ref a) u) (EP X pins σ Q) X.xe s := fun {tb} lk nf => by
    unfold richCompare
    simp only [oneThing_ref]
    refine wpAny_holding (wpAny_bind (wpAny_cRoomFor hr.units0 ?_))
    rw [cmpInfo_NotEq]
    dsimp only
    refine wpAny_bind (J.type.here (wpAny_bind (lk.here ?_)))
    split
    · rename_i q
      have e : PySem.W.subIn X.K tb (.ref C) = some false := by
        rcases Bool.or_eq_true_iff.mp nf with e | e
        · rw [beq_iff_eq.mp e] at q; simp at q
        · exact beq_iff_eq.mp e
      refine wpAny_bind ((PySem.W.looks_subIn XK e).here ?_)
      simp only [Bool.false_eq_true, if_false]
      refine wpAny_bind (wpAny_mono Q1 (fun r s' z => ?_) fun _ _ e => e)
      obtain ⟨v, rfl, hq⟩ := z
      exact wpAny_pure hq
    · refine wpAny_bind (wpAny_pure ?_)
      simp only [Bool.false_eq_true, if_false]
      refine wpAny_bind (wpAny_mono Q1 (fun r s' z => ?_) fun _ _ e => e)
      obtain ⟨v, rfl, hq⟩ := z
      exact wpAny_pure hq
  show wpAny (model X.prog X.w) X.A (richCompare .NotEq (.ref a) u) (EP X pins σ Q) X.xe s
  rcases hy with ⟨b, C', dy, gs, rfl, hb', nf⟩ | ⟨rfl, hT⟩
  · obtain ⟨mB, J', _⟩ := ins_get I.hok hb'
    obtain ⟨od', J', _⟩ := J'.look
    cases ry
    exact go J'.type nf
  · cases ry
    exact go (tb := .type "NoneType") .now (by simp [PySem.W.notFirst, hT])
/-- the left side None -/
def rNonNe (C : Addr) (sp : Sp) (E : XK) : R2 := fun x y H Q => ∃ b dy gs, x = .non ∧ y = .ref b ∧ H b = some (.ins C dy gs) ∧ sp [.ref b, .non] H (fun v H' => ∃ c, v = .bl c ∧ Q (.bl (!c)) H') E
theorem op_nonNe (F : FnOk X.prog X.w X.K X.mg X.base CX n f fd ps sp) (hr : Room (n + 1) X.A)
    (hs : PySem.W.findIn X.K (.ref C) "__eq__" = some (some (.ref f))) (hf : PySem.W.isFn X.K (.ref f) = true) (hb : Binds X.K fd ps []) (hx : Passes CX X E)
    (hn : PySem.W.findIn X.K (.ref C) "__ne__" = some (some (.builtin "object.__ne__"))) (ht : PySem.W.mroIn X.K C (.type "object") = some true)
    (hT2 : PySem.W.subIn X.K (.ref C) (.type "NoneType") = some false) : OpR X (compareOp .NotEq) (rNonNe C sp E) := by
  intro pins s σ H x y v u Q I rx ry h
  obtain ⟨b, dy, gs, rfl, rfl, hbb, hsp⟩ := h
  obtain ⟨mA, J, _⟩ := ins_get I.hok hbb
  obtain ⟨od, J, _⟩ := J.look
  obtain ⟨m, hF⟩ := I.fr
  cases rx
  cases ry
  have hN : s.TypeIs .none "NoneType" := rfl
  have Xk := I.kIn
  have Q1 := one (y := .non) (u := .none) F hr hs hf hb hx hn ht I rfl hbb hsp
  show wpAny (model X.prog X.w) X.A (richCompare .NotEq .none (.ref b)) (EP X pins σ Q) X.xe s
  unfold richCompare
  simp only [hN.oneThing_none]
  refine wpAny_holding (wpAny_bind (wpAny_cRoomFor hr.units0 ?_))
  refine wpAny_bind (wpAny_typeOf hN (wpAny_bind (J.type.here ?_)))
  rw [if_pos (by simp)]
  refine wpAny_bind ((PySem.W.looks_subIn Xk hT2).here ?_)
  simp only [Bool.false_eq_true, if_false]
  refine wpAny_bind (wpAny_tryCompare_declines hN PySem.F.slot_NoneType_ne (call_gives PySem.F.slot_NoneType_ne hN PySem.F.entry_NoneType_ne (PySem.F.args_NoneType_ne_2 _ _) (PySem.SeqAt.NoneType___ne___none_ref_0 b) ⟨rfl, ?_⟩))
  simp only [Bool.not_false, if_true]
  refine wpAny_bind (wpAny_mono Q1 (fun r s' z => ?_) fun _ _ e => e)
  obtain ⟨c, rfl, q⟩ := z
  exact wpAny_pure q
end
end NQ

set_option Elab.async false
set_option linter.all false
set_option maxRecDepth 100000
set_option maxHeartbeats 8000000
/-! == of lists, either way -/
namespace TQ
open PySem PySem.SeqAt
open AutoSeq1 (wpAny_loadPart')
open MeetsSeq MeetsSeq2 MeetsSeq3 SeqRoads2
section
variable {prog : Program} {w : World} {A : Around} {R : Result → Shared → Prop}
def ListB (prog : Program) (w : World) (A : Around) (R : Result → Shared → Prop) (l b : Addr) (N : Nat) (I : Nat → Shared → Prop) : Prop :=
  ∀ i s, I i s → ∃ (items items2 : Array Value) (n n2 : Nat), s.heap.get? l = some { cls := .type "list", data := .seq items n } ∧ s.heap.get? b = some { cls := .type "list", data := .seq items2 n2 } ∧ items.size = N ∧ items2.size = N ∧
    ∀ (h1 : i < items.size) (h2 : i < items2.size), wpAny (model prog w) A.in1 (eqBool items[i] items2[i]) (fun r s' => (r = false → (∃ (its its2 : Array Value) (m m2 : Nat), s'.heap.get? l = some { cls := .type "list", data := .seq its m } ∧ s'.heap.get? b = some { cls := .type "list", data := .seq its2 m2 } ∧ i < its.size ∧ i < its2.size) ∧ R (.ok (.ret (.bool false))) s') ∧ (r = true → I (i + 1) s')) (fun e s' => R (.error e) s') s
theorem eq_loopB (l b : Addr) (N : Nat) (I : Nat → Shared → Prop) (hl : ListB prog w A R l b N I)
    (fin : ∀ s, I N s → R (.ok (.ret (.bool true))) s) (k : Nat) :
    ∀ i : Nat, N - i = k → i ≤ N → ∀ s, I i s →
      wpAny (model prog w) A.in1 (Builtin.«list.__eq__.loop» ⟨[.ref l, .ref b, rawInt i, rawInt 2], []⟩) (GQ.FinOf prog w A R) (fun e s' => R (.error e) s') s := by
  induction k with
  | zero =>
    intro i hk hi s h
    obtain ⟨items, items2, n, n2, hl1, hb1, hs1, hs2, _⟩ := hl _ _ h
    have hi' : i = N := by omega
    have hR : R (.ok (.ret (.bool true))) s := fin s (hi' ▸ h)
    obtain ⟨hp, g, d, tk, os⟩ := s
    wp_walk using wpAny_loadPart' hl1, wpAny_loadPart' hb1
    have hi1 : items[((i : Nat) : Int).toNat]? = none := by simp; omega
    have hi2 : items2[((i : Nat) : Int).toNat]? = none := by simp; omega
    rw [hi1, hi2]
    wp_walk using wpAny_loadPart' hl1, wpAny_loadPart' hb1
    show R (.ok (.ret (.bool (items.size == items2.size)))) _
    rw [hs1, hs2]
    simpa using hR
  | succ k ih =>
    intro i hk hi s h
    obtain ⟨items, items2, n, n2, hl1, hb1, hs1, hs2, turn⟩ := hl _ _ h
    have hlt : i < items.size := by omega
    have hlt2 : i < items2.size := by omega
    have ht := turn hlt hlt2
    obtain ⟨hp, g, d, tk, os⟩ := s
    wp_walk using wpAny_loadPart' hl1, wpAny_loadPart' hb1
    have hi1 : items[((i : Nat) : Int).toNat]? = some items[i] := by simp [hlt]
    have hi2 : items2[((i : Nat) : Int).toNat]? = some items2[i] := by simp [hlt2]
    have hc : ((i : Int) + 1) = ((i + 1 : Nat) : Int) := by omega
    rw [hi1, hi2]
    refine wpAny_bind (wpAny_mono ht (fun r s2 h2 => ?_) fun _ _ x => x)
    obtain ⟨q1, q2⟩ := h2
    cases r with
    | false =>
      obtain ⟨⟨its, its2, m, m2, gl, gb, lt1, lt2⟩, hR⟩ := q1 rfl
      obtain ⟨hp2, g2, d2, tk2, os2⟩ := s2
      wp_walk using wpAny_loadPart' gl, wpAny_loadPart' gb
      have hj1 : its[((i : Nat) : Int).toNat]? = some its[i] := by simp [lt1]
      have hj2 : its2[((i : Nat) : Int).toNat]? = some its2[i] := by simp [lt2]
      rw [hj1, hj2]
      wp_walk
      exact hR
    | true =>
      have hrec := ih (i + 1) (by omega) (by omega) s2 (q2 rfl)
      obtain ⟨hp2, g2, d2, tk2, os2⟩ := s2
      wp_walk
      rw [hc]
      exact ⟨plainId_quiet plain_eq_loop _, codeAny_builtin entry_eq_loop (by
        rw [Around.under_plainId plain_eq_loop _]
        exact hrec)⟩
theorem list_eqB (l b : Addr) (N : Nat) (I : Nat → Shared → Prop) (hl : ListB prog w A R l b N I)
    (fin : ∀ s, I N s → R (.ok (.ret (.bool true))) s) {s : Shared} (h : I 0 s) :
    wpAny (model prog w) A.in1 (Builtin.«list.__eq__» ⟨[.ref l, .ref b], []⟩) (GQ.FinOf prog w A R) (fun e s' => R (.error e) s') s := by
  obtain ⟨items, items2, n, n2, hl1, hb1, hs1, hs2, _⟩ := hl _ _ h
  have hrec := eq_loopB (A := A) (R := R) l b N I hl fin _ 0 rfl (Nat.zero_le _) s h
  obtain ⟨hp, g, d, tk, os⟩ := s
  have f3 := AutoSeq1.sub_list_list
  have hne : ¬ (items.size != items2.size) = true := by simp [hs1, hs2]
  wp_walk using wpAny_loadPart' hl1, wpAny_loadPart' hb1
  exact ⟨plainId_quiet plain_eq_loop _, codeAny_builtin entry_eq_loop (by
    rw [Around.under_plainId plain_eq_loop _]
    exact hrec)⟩
theorem list_neLen (l b : Addr) {items items2 : Array Value} {n n2 : Nat} (hne : items.size ≠ items2.size) {s : Shared} (hl1 : s.heap.get? l = some { cls := .type "list", data := .seq items n }) (hb1 : s.heap.get? b = some { cls := .type "list", data := .seq items2 n2 })
    (hR : R (.ok (.ret (.bool false))) s) : wpAny (model prog w) A.in1 (Builtin.«list.__eq__» ⟨[.ref l, .ref b], []⟩) (GQ.FinOf prog w A R) (fun e s' => R (.error e) s') s := by
  obtain ⟨hp, g, d, tk, os⟩ := s
  have f3 := AutoSeq1.sub_list_list
  have hne : (items.size != items2.size) = true := by simp [hne]
  wp_walk using wpAny_loadPart' hl1, wpAny_loadPart' hb1
  exact hR
end
open PySem.Spec PyProof.Rows L2 EB
def EList (D : Eqb) : Eqb := fun x y c H => ∃ (a b : Addr) (xs ys : List V), x = .ref a ∧ y = .ref b ∧ H a = some (.lst xs) ∧ H b = some (.lst ys) ∧ ((xs.length ≠ ys.length ∧ c = false) ∨ (xs.length = ys.length ∧ Row D H xs ys c))
section
variable {X : Cx} {n : Nat} {D : Eqb}
theorem rcB_list (hD : Mon2 D) (h : EqB X n D) : RcB X (n + 1) (EList D) := by
  intro A pins s σ H x y c u v sb I rx ry d
  obtain ⟨a, b, xs, ys, rfl, rfl, ha, hb, cs⟩ := d
  cases rx
  cases ry
  obtain ⟨z, its, k, r, e⟩ := I.hok a _ ha
  obtain ⟨z2, its2, k2, r2, e2⟩ := I.hok b _ hb
  have go : ∀ {Q : Value → Shared → Prop}, wpAny (model X.prog X.w) A.in1 (Builtin.«list.__eq__» ⟨[.ref a, .ref b], []⟩) (GQ.FinOf X.prog X.w A (wants (fun v s' => v ≠ .notImplemented ∧ Q v s') X.xe)) (fun e s' => wants (fun v s' => v ≠ .notImplemented ∧ Q v s') X.xe (.error e) s') s → wpAny (model X.prog X.w) A (richCompare .Eq (.ref a) (.ref b)) Q X.xe s := fun {Q} h =>
    wpAny_richCompare_same_room (op := .Eq) ⟨_, e, rfl⟩ ⟨_, e2, rfl⟩ F.slot_list_eq (GQ.call_here F.slot_list_eq ⟨_, e, rfl⟩ F.entry_list_eq (F.args_list_eq_2 _ _) h) sb.room.units0
  rcases cs with ⟨nl, rfl⟩ | ⟨el, row⟩
  · refine go (list_neLen a b ?_ e e2 ⟨(fun z => nomatch z), rfl, H, I, Ext.rfl'⟩)
    rw [List.size_toArray, List.size_toArray, ← r.length, ← r2.length]
    exact nl
  · refine go (list_eqB a b xs.length (fun i s' => ∃ e', (∃ H', Inv X pins σ H' s' ∧ Ext H H' ∧ Row D H' (xs.drop i) (ys.drop i) e') ∧ c = e') (fun i s' q => ?_) (fun s' q => ?_) ⟨c, ⟨H, I, Ext.rfl', row⟩, rfl⟩)
    · obtain ⟨e', ⟨H1, I1, x1, row1⟩, ee⟩ := q
      obtain ⟨_, its, k, r, e⟩ := I1.hok a _ (x1 _ _ ha)
      obtain ⟨_, its2, k2, r2, e2⟩ := I1.hok b _ (x1 _ _ hb)
      refine ⟨its.toArray, its2.toArray, k, k2, e, e2, by rw [List.size_toArray, ← r.length], by rw [List.size_toArray, ← r2.length, ← el], fun h1 h2 => ?_⟩
      have g1 : its[i]? = some its.toArray[i] := by
        have h1' : i < its.length := by simpa using h1
        rw [List.getElem?_eq_getElem h1'] <;> simp
      have g2 : its2[i]? = some its2.toArray[i] := by
        have h2' : i < its2.length := by simpa using h2
        rw [List.getElem?_eq_getElem h2'] <;> simp
      have k1 : i < xs.length := by rw [r.length]; simpa using h1
      have k2 : i < ys.length := by rw [r2.length]; simpa using h2
      obtain ⟨u, hu, ru⟩ := r.get (List.getElem?_eq_getElem k1)
      obtain ⟨v, hv, rv⟩ := r2.get (List.getElem?_eq_getElem k2)
      rw [g1] at hu
      rw [g2] at hv
      rw [Option.some.inj hu, Option.some.inj hv]
      rw [List.drop_eq_getElem_cons k1, List.drop_eq_getElem_cons k2] at row1
      cases row1 with
      | @cons _ _ _ _ a0 b0 hd t =>
        refine wpAny_mono (h A.in1 pins s' σ H1 _ _ a0 _ _ sb.in1 I1 ru rv hd) (fun c0 s2 z => ?_) fun _ _ z => z
        obtain ⟨rfl, H2, I2, x2⟩ := z
        refine ⟨fun ec => ?_, fun ec => ?_⟩
        · subst ec
          rw [Bool.false_and] at ee
          obtain ⟨_, js, m1, w1, j1⟩ := I2.hok a _ ((x1.trans x2) _ _ ha)
          obtain ⟨_, js2, m2, w2, j2⟩ := I2.hok b _ ((x1.trans x2) _ _ hb)
          exact ⟨⟨js.toArray, js2.toArray, m1, m2, j1, j2, by rw [List.size_toArray, ← w1.length]; exact k1, by rw [List.size_toArray, ← w2.length]; exact k2⟩, (fun z => nomatch z), by rw [ee], H2, I2, x1.trans x2⟩
        · subst ec
          rw [Bool.true_and] at ee
          exact ⟨b0, ⟨H2, I2, x1.trans x2, (t rfl).mon hD x2⟩, ee⟩
    · obtain ⟨e', ⟨H1, I1, x1, row1⟩, ee⟩ := q
      rw [List.drop_length, el, List.drop_length] at row1
      have et : e' = true := by cases row1 <;> rfl
      exact ⟨(fun z => nomatch z), by rw [ee, et], H1, I1, x1⟩
/-- told values as such -/
def EE (K : PySem.W.Frag) : Eqb := fun x y c H => ∀ H', Ext H H' → ET.Et K H' x y c
theorem mon_ee {K : PySem.W.Frag} : Mon2 (EE K) := fun x y c H H' e d H2 e2 => d H2 (e.trans e2)
theorem eqB_ee (hu : ∀ A, Sub X 1 A → A.units + 80 < cLine) : EqB X 1 (EE X.K) := fun A pins s σ H x y c u v sb I rx ry d =>
  ET.run I (hu A sb) (d H Ext.rfl') rx ry X.xe _ ⟨rfl, H, I, Ext.rfl'⟩
theorem un80 {A : Around} (s : Sub X 1 A) : A.units + 80 < cLine := by
  have := s.room.un
  omega
theorem rcB_mono {m : Nat} (h : RcB X n D) (hn : n ≤ m) : RcB X m D := fun A pins s σ H x y c u v sb => h A pins s σ H x y c u v (sb.mono hn)
end
end TQ

set_option Elab.async false
set_option linter.all false
set_option maxRecDepth 100000
set_option maxHeartbeats 8000000
/-! changes: the class -/
namespace PJ
open PySem PySem.Spec PyProof.Rows L2 KS KS.La
open KX hiding sameUpd
abbrev sCInit : Stmt := inClass (top 7) 0
abbrev sCCall : Stmt := inClass (top 7) 1
abbrev sCInv : Stmt := inClass (top 7) 2
abbrev sCAdd : Stmt := inClass (top 7) 3
abbrev sCLen : Stmt := inClass (top 7) 4
abbrev sCHas : Stmt := inClass (top 7) 5
abbrev sCEq : Stmt := inClass (top 7) 6
abbrev sCNames : Stmt := inClass (top 7) 7
abbrev sBtw : Stmt := top 8
abbrev sByN : Stmt := top 9
abbrev sTOf : Stmt := top 10
/-- a part: a name, what is there before and after -/
abbrev Prt := Str × Option Tg × Option Tg
def flp (q : Prt) : Prt := (q.1, q.2.2, q.2.1)
theorem pairSnoc {α β : Type} {R : α → β → Prop} {xs : List α} {ps : List β} {v : α} {p : β} (h : Paired R xs ps) (hx : R v p) : Paired R (xs ++ [v]) (ps ++ [p]) := by
  induction h with
  | nil => exact .cons hx .nil
  | cons a _ ih => exact .cons a ih
theorem pairAt {α β : Type} {R : α → β → Prop} {xs : List α} {ps : List β} (h : Paired R xs ps) : ∀ {i : Nat} {p : β}, ps[i]? = some p → ∃ v, xs[i]? = some v ∧ R v p := by
  induction h with
  | nil => intro i p e; simp at e
  | cons a _ ih =>
    intro i p e
    cases i with
    | zero => cases e; exact ⟨_, rfl, a⟩
    | succ i => obtain ⟨v, e1, e2⟩ := ih (i := i) (by simpa using e); exact ⟨v, by simpa using e1, e2⟩
section
variable {P : Program} {w : World} {K : PySem.W.Frag} {mg : Str → Option Value} {base : Heap} {f : Addr} {fd : FuncData} {CS CM CP CC NT NS MM : Addr}
def PtAt (CS CM : Addr) (H : Hp) (v : V) (q : Prt) : Prop := ∃ t vb va, v = .ref t ∧ H t = some (.tup [.str q.1, vb, va]) ∧ OAt CS CM H vb q.2.1 ∧ OAt CS CM H va q.2.2
theorem PtAt.stl {H H' : Hp} {v : V} {q : Prt} (h : PtAt CS CM H v q) (s : Stl H H') : PtAt CS CM H' v q := let ⟨t, vb, va, e, h, b, a⟩ := h; ⟨t, vb, va, e, s _ _ h (fun _ z => nomatch z), b.stl s, a.stl s⟩
theorem sqtStl {H H' : Hp} {a : Addr} {xs : List V} (h : SqT K H a xs) (s : Stl H H') : SqT K H' a xs :=
  h.elim (fun h => .inl (h.elim (fun h => .inl (s _ _ h fun _ z => nomatch z)) fun ⟨o, h⟩ => .inr ⟨o, s _ _ h fun _ z => nomatch z⟩)) fun h => .inr h
/-- made without parts -/
def ChE (K : PySem.W.Frag) (CC : Addr) (H : Hp) (c : Addr) : Prop := ∃ dc t, H c = some (.ins CC dc [("_parts", .ref t)]) ∧ SqT K H t []
def ChAt (K : PySem.W.Frag) (CS CM CC : Addr) (H : Hp) (c : Addr) (ps : List Prt) : Prop := ∃ dc t vs, H c = some (.ins CC dc [("_parts", .ref t)]) ∧ H t = some (.tup vs) ∧ Paired (PtAt CS CM H) vs ps
theorem ChAt.stl {H H' : Hp} {c : Addr} {ps : List Prt} (h : ChAt K CS CM CC H c ps) (s : Stl H H') : ChAt K CS CM CC H' c ps :=
  let ⟨dc, t, vs, a, b, p⟩ := h; ⟨dc, t, vs, s _ _ a (fun _ z => nomatch z), s _ _ b (fun _ z => nomatch z), L2.Paired.mapP p fun _ _ h => h.stl s⟩
/-! ### made -/
def spCInit (K : PySem.W.Frag) (CC : Addr) : Sp := fun vs H Q _ => ∃ s ds t xs, vs = [.ref s, .ref t] ∧ H s = some (.ins CC ds []) ∧
  ((SqT K H t xs ∧ ∀ H', Kp s H H' → H' s = some (.ins CC ds [("_parts", .ref t)]) → Q .non H') ∨ (H t = some (.lst xs) ∧ ∀ H' u, Kp s H H' → H' u = some (.tup xs) → H' s = some (.ins CC ds [("_parts", .ref u)]) → Q .non H'))
theorem scCInit : FnScope ["self", "parts"] ["self", "parts"] (defScope sCInit) := ⟨rfl, rfl, rfl, by decide +kernel, rfl, by decide +kernel, by decide +kernel⟩
theorem okCInit {k : Nat} {dvs : List V} (cW : Cls K CC) (n1 : NoAttr K CC "_parts") (mt : mg "tuple" = none) (F : FunD K "__init__" "Change.__init__" (defArgs sCInit) (defBody sCInit) (defScope sCInit) dvs [] f fd) : FnOk P w K mg base CX0 (k + 1) f fd ["self", "parts"] (spCInit K CC) := by
  refine F.ok scCInit (fun vs H Q E h => ?_) (fun cdv A outer s H vs Q E hr h => ?_)
  · obtain ⟨a, ds, t, xs, rfl, _⟩ := h
    rfl
  · obtain ⟨a, ds, t, xs, rfl, ha, h⟩ := h
    refine ⟨_, PSs.nox (pss_one (ps_fld (pv 0) (pe_callTy (T := "tuple") call_tuple_of (by rfl) mt (by decide +kernel) (pa_cons (pv 1) pa_nil)) rfl)), ?_⟩
    rcases h with ⟨ht, q⟩ | ⟨ht, q⟩
    · exact ⟨.ref t, rfl, t, xs, rfl, .inr ⟨ht, .ref a, rfl, a, CC, ds, _, rfl, ha, cW, n1, by decide, q _ Kp.put upd_same⟩⟩
    · refine ⟨.ref t, rfl, t, xs, rfl, .inl ⟨.inl (.inl ht), fun u hu => ⟨.ref a, rfl, a, CC, ds, _, rfl, KS.sameUpd hu _ _ ha, cW, n1, by decide, ?_⟩⟩⟩
      have nua : u ≠ a := fun z => by rw [z, ha] at hu; cases hu
      exact q _ u ((Kp.same (KS.sameUpd hu)).trans Kp.put) (by rw [upd_ne nua]; exact upd_same) upd_same
theorem chMade {H : Hp} {x dx t : Addr} {xs : List V} {ps : List Prt} {R : Hp → Prop} {E : XK} (hx : H x = none) (hdx : H dx = none) (ne : dx ≠ x) (ht : H t = some (.tup xs) ∨ H t = some (.lst xs)) (hp : Paired (PtAt CS CM H) xs ps) (q : ∀ H', Same H H' → ChAt K CS CM CC H' x ps → R H') :
    spCInit K CC [.ref x, .ref t] (upd (upd H dx (.own x)) x (.ins CC dx [])) (fun v H2 => v = .non ∧ R H2) E := by
  have s1 : Same H (upd (upd H dx (.own x)) x (.ins CC dx [])) := fun b o hb => by
    rw [upd_ne (ne_of_none hb hx), upd_ne (ne_of_none hb hdx)]
    exact hb
  have s2 : ∀ {H'}, Kp x (upd (upd H dx (.own x)) x (.ins CC dx [])) H' → Same H H' := fun {H'} k b o hb => k _ _ (ne_of_none hb hx) (s1 _ _ hb)
  refine ⟨x, dx, t, xs, rfl, upd_same, ?_⟩
  rcases ht with ht | ht
  · exact .inl ⟨.inl (.inl (s1 _ _ ht)), fun H' k hs => ⟨rfl, q H' (s2 k) ⟨dx, t, xs, hs, s2 k _ _ ht, L2.Paired.mapP hp fun _ _ h => h.stl (Stl.same (s2 k))⟩⟩⟩
  · exact .inr ⟨s1 _ _ ht, fun H' u k hu hs => ⟨rfl, q H' (s2 k) ⟨dx, u, xs, hs, hu, L2.Paired.mapP hp fun _ _ h => h.stl (Stl.same (s2 k))⟩⟩⟩
theorem chEmpty {H : Hp} {x dx t : Addr} {R : Hp → Prop} {E : XK} (hx : H x = none) (hdx : H dx = none) (ht : ∀ H, SqT K H t []) (q : ∀ H', Same H H' → ChE K CC H' x → R H') :
    spCInit K CC [.ref x, .ref t] (upd (upd H dx (.own x)) x (.ins CC dx [])) (fun v H2 => v = .non ∧ R H2) E :=
  ⟨x, dx, t, [], rfl, upd_same, .inl ⟨ht _, fun H' k hs => ⟨rfl, q H' (fun b o hb => k _ _ (ne_of_none hb hx) (by rw [upd_ne (ne_of_none hb hx), upd_ne (ne_of_none hb hdx)]; exact hb)) ⟨dx, t, hs, ht _⟩⟩⟩⟩
/-- what changes rest on -/
structure Chc (P : Program) (w : World) (K : PySem.W.Frag) (mg : Str → Option Value) (base : Heap) (CC MM : Addr) : Prop where
  iC : IsC K CC
  nP : NoAttr K CC "_parts"
  gC : mg "Change" = some (.ref CC)
  mkC : ∃ (f : Addr) (fd : FuncData), Mk K CC f ∧ Binds K fd ["self", "parts"] [] ∧ FnOk P w K mg base CX0 1 f fd ["self", "parts"] (spCInit K CC)
  mset : mg "set" = none
  xM : Cl1 P w K mg base "Mismatch" MM "name"
  kCC : PySem.W.kitOne K (.ref CC) (.ref CC) = some true
/-! ### how many, the names -/
def spCLen (K : PySem.W.Frag) (CS CM CC : Addr) : Sp := fun vs H Q _ => ∃ c ps, vs = [.ref c] ∧ ChAt K CS CM CC H c ps ∧ Q (.int ps.length) H
theorem scCLen : FnScope ["self"] ["self"] (defScope sCLen) := ⟨rfl, rfl, rfl, by decide +kernel, rfl, by decide +kernel, by decide +kernel⟩
theorem okCLen {k : Nat} (G : Chc P w K mg base CC MM) (ml : mg "len" = none) (F : FnM K "__len__" "Change.__len__" sCLen f fd) : FnOk P w K mg base CX0 (k + 1) f fd ["self"] (spCLen K CS CM CC) := by
  refine F.ok scCLen (fun vs H Q E h => ?_) (fun cdv A outer s H vs Q E hr h => ?_)
  · obtain ⟨c, ps, rfl, _⟩ := h
    rfl
  · obtain ⟨c, ps, rfl, ⟨dc, t, vs, hc, ht, hp⟩, q⟩ := h
    refine ⟨_, PSs.nox (pss_one (ps_ret (pe_callB call_len_seq (by rfl) ml PySem.boot_len (pa_cons (pe_fld (pv 0) rfl) pa_nil)))), ?_⟩
    refine ⟨.ref c, rfl, c, CC, dc, _, .ref t, rfl, hc, G.iC.cl, G.nP, rfl, t, _, rfl, .inr (.inl (.inl ht)), ?_⟩
    rw [hp.length]
    exact q
def namesOf (ps : List Prt) : List Str := ps.map (·.1)
def spCNames (K : PySem.W.Frag) (CS CM CC : Addr) : Sp := fun vs H Q _ => ∃ c ps, vs = [.ref c] ∧ ChAt K CS CM CC H c ps ∧ ps.length ≤ 60 ∧ ∀ u H', Same H H' → H' u = some (.tup ((namesOf ps).map V.str)) → Q (.ref u) H'
abbrev nCNames : List Str := ["self", "name", "_"]
theorem scCNames : FnScope nCNames ["self"] (defScope sCNames) := ⟨rfl, rfl, rfl, by decide +kernel, rfl, by decide +kernel, by decide +kernel⟩
theorem okCNames {k : Nat} (G : Chc P w K mg base CC MM) (mt : mg "tuple" = none) (F : FnM K "names" "Change.names" sCNames f fd) : FnOk P w K mg base CX0 (k + 1) f fd ["self"] (spCNames K CS CM CC) := by
  refine F.ok scCNames (fun vs H Q E h => ?_) (fun cdv A outer s H vs Q E hr h => ?_)
  · obtain ⟨c, ps, rfl, _⟩ := h
    rfl
  · obtain ⟨c, ps, rfl, ⟨dc, t, vs, hc, ht, hp⟩, l60, q⟩ := h
    have lv := hp.length
    have ht : SqT K H t vs := .inl (.inl ht)
    refine ⟨_, PSs.nox (pss_one (ps_ret (pe_callTy (T := "tuple") call_tuple_of (by rfl) mt (by decide +kernel) (pa_cons (pe_lc (own := [("name", 1), ("_", 2)]) (g := gTup K 3 (gCons (gName 1) (gCons (gName 2) (gCons (gName 2) gNil)))) rfl scCNames.nd (pi_tup (pe_fld (pv 0) rfl)) (blkOk_by (N := nCNames) (sc := defScope sCNames) (by decide +kernel))
      (fun _ _ _ _ _ => pg_tup rfl (pgs_cons (pg_name (i := 1) scCNames.nd rfl (.inl rfl) (hf := .inr rfl)) (pgs_cons (pg_name (i := 2) scCNames.nd rfl (.inl rfl) (hf := .inr rfl)) (pgs_cons (pg_name (i := 2) scCNames.nd rfl (.inl rfl) (hf := .inr rfl)) pgs_nil)))) (fun _ _ _ _ _ => pts_nil) (fun _ _ _ _ _ => pv 1)) pa_nil)))), ?_⟩
    refine ⟨.ref c, rfl, c, CC, dc, _, .ref t, rfl, hc, G.iC.cl, G.nP, rfl, t, rfl, ⟨_, ht⟩, fun D hD => ?_⟩
    refine lcJ (n := ps.length) (vs := [1, 2]) (fun i H' => Same H H' ∧ H' D = some (.lst ((namesOf (ps.take i)).map V.str))) ⟨KS.sameUpd hD, upd_same⟩
      (fun i H' lt h => ⟨_, vs[i], SqT.ext ht h.1, List.getElem?_eq_getElem (by omega)⟩) (fun H' h => ⟨_, SqT.ext ht h.1, by omega⟩) (fun i H' x H1 lt h y => ?_) (fun H1 h => ?_)
    · obtain ⟨rfl, y⟩ := y
      obtain ⟨s1, eD⟩ := h
      have ex := y _ (SqT.ext ht s1)
      obtain ⟨v, e1, u, vb, va, rfl, hu, _, _⟩ := pairAt hp (List.getElem?_eq_getElem lt)
      obtain rfl : V.ref u = x := Option.some.inj (e1.symm.trans ex)
      refine ⟨u, _, rfl, .inl (.inl (s1 _ _ hu)), rfl, .str ps[i].1, _, rfl, vb, _, rfl, va, _, rfl, rfl, rfl, ?_⟩
      unfold tYes
      dsimp only
      rw [if_pos rfl]
      refine ⟨.str ps[i].1, rfl, _, eD, ?_, fun b o hb => ?_, ?_⟩
      · unfold namesOf
        rw [List.length_map, List.length_map, List.length_take, sizeLine_eq]
        omega
      · rw [upd_ne (ne_of_none hb hD)]
        exact s1 _ _ hb
      · rw [upd_same]
        unfold namesOf
        rw [List.take_succ_eq_append_getElem lt, List.map_append, List.map_append]
        rfl
    · obtain ⟨s1, eD⟩ := h
      rw [List.take_length] at eD
      refine ⟨D, _, rfl, .inl ⟨.inl (.inl eD), fun u hu => ?_⟩⟩
      exact q u _ (s1.trans (KS.sameUpd hu)) upd_same
/-! ### ~ -/
def spCInv (K : PySem.W.Frag) (CS CM CC : Addr) : Sp := fun vs H Q _ => ∃ c ps, vs = [.ref c] ∧ ChAt K CS CM CC H c ps ∧ ps.length ≤ 60 ∧ ∀ c' H', Same H H' → ChAt K CS CM CC H' c' (ps.map flp) → Q (.ref c') H'
abbrev nCInv : List Str := ["self", "name", "before", "after"]
theorem scCInv : FnScope nCInv ["self"] (defScope sCInv) := ⟨rfl, rfl, rfl, by decide +kernel, rfl, by decide +kernel, by decide +kernel⟩
theorem okCInv {k : Nat} (G : Chc P w K mg base CC MM) (F : FnM K "__invert__" "Change.__invert__" sCInv f fd) : FnOk P w K mg base CX0 (k + 3) f fd ["self"] (spCInv K CS CM CC) := by
  obtain ⟨fI, dI, MI, bI, GI⟩ := G.mkC
  refine F.ok scCInv (fun vs H Q E h => ?_) (fun cdv A outer s H vs Q E hr h => ?_)
  · obtain ⟨c, ps, rfl, _⟩ := h
    rfl
  · obtain ⟨c, ps, rfl, ⟨dc, t, vs, hc, ht, hp⟩, l60, q⟩ := h
    have lv := hp.length
    have ht : SqT K H t vs := .inl (.inl ht)
    have hr2 : Room (1 + 1) _ := hr.mono (by omega)
    refine ⟨_, PSs.nox (pss_one (ps_ret (pe_make MI GI hr2 (by rfl) G.gC bI .nil pass0 (pa_cons (pe_lc (own := [("name", 1), ("before", 2), ("after", 3)]) (g := gTup K 3 (gCons (gName 1) (gCons (gName 2) (gCons (gName 3) gNil)))) rfl scCInv.nd (pi_tup (pe_fld (pv 0) rfl)) (blkOk_by (N := nCInv) (sc := defScope sCInv) (by decide +kernel))
      (fun _ _ _ _ _ => pg_tup rfl (pgs_cons (pg_name (i := 1) scCInv.nd rfl (.inl rfl) (hf := .inr rfl)) (pgs_cons (pg_name (i := 2) scCInv.nd rfl (.inl rfl) (hf := .inr rfl)) (pgs_cons (pg_name (i := 3) scCInv.nd rfl (.inl rfl) (hf := .inr rfl)) pgs_nil)))) (fun _ _ _ _ _ => pts_nil) (fun _ _ _ _ _ => pe_tup (pa_cons (pv 1) (pa_cons (pv 3) (pa_cons (pv 2) pa_nil))))) pa_nil)))), ?_⟩
    refine ⟨.ref c, rfl, c, CC, dc, _, .ref t, rfl, hc, G.iC.cl, G.nP, rfl, t, rfl, ⟨_, ht⟩, fun D hD => ?_⟩
    refine lcJ (n := ps.length) (vs := [1, 2, 3]) (fun i H' => Same H H' ∧ ∃ ys, H' D = some (.lst ys) ∧ Paired (PtAt CS CM H') ys ((ps.take i).map flp)) ⟨KS.sameUpd hD, [], upd_same, .nil⟩
      (fun i H' lt h => ⟨_, vs[i], SqT.ext ht h.1, List.getElem?_eq_getElem (by omega)⟩) (fun H' h => ⟨_, SqT.ext ht h.1, by omega⟩) (fun i H' x H1 lt h y => ?_) (fun H1 h => ?_)
    · obtain ⟨rfl, y⟩ := y
      obtain ⟨s1, ys, eD, pys⟩ := h
      have ex := y _ (SqT.ext ht s1)
      obtain ⟨v, e1, u, vb, va, rfl, hu, hb, ha⟩ := pairAt hp (List.getElem?_eq_getElem lt)
      obtain rfl : V.ref u = x := Option.some.inj (e1.symm.trans ex)
      refine ⟨u, _, rfl, .inl (.inl (s1 _ _ hu)), rfl, .str ps[i].1, _, rfl, vb, _, rfl, va, _, rfl, rfl, rfl, ?_⟩
      unfold tYes
      dsimp only
      rw [if_pos rfl]
      refine ⟨.str ps[i].1, rfl, va, rfl, vb, rfl, (by show 3 ≤ sizeLine; decide), fun z hz => ?_⟩
      have sz := KS.sameUpd (o := .tup [.str ps[i].1, va, vb]) hz
      have eD2 := sz _ _ eD
      have kD : Kp D (upd H1 z (.tup [.str ps[i].1, va, vb])) (upd (upd H1 z (.tup [.str ps[i].1, va, vb])) D (.lst (ys ++ [.ref z]))) := Kp.put
      have st := Stl.lst eD2 kD
      have nzD : z ≠ D := fun e => by rw [e, eD] at hz; cases hz
      have ly := pys.length
      refine ⟨ys, eD2, ?_, fun b o hb => ?_, ys ++ [.ref z], upd_same, ?_⟩
      · rw [ly, List.length_map, List.length_take, sizeLine_eq]
        omega
      · rw [upd_ne (ne_of_none hb hD)]
        exact sz _ _ (s1 _ _ hb)
      · rw [List.take_succ_eq_append_getElem lt, List.map_append]
        refine pairSnoc (L2.Paired.mapP pys fun _ _ h => (h.stl (Stl.same sz)).stl st) ⟨z, va, vb, rfl, by rw [upd_ne nzD]; exact upd_same, ?_, ?_⟩
        · exact ((ha.stl (Stl.same s1)).stl (Stl.same sz)).stl st
        · exact ((hb.stl (Stl.same s1)).stl (Stl.same sz)).stl st
    · obtain ⟨s1, ys, eD, pys⟩ := h
      rw [List.take_length] at pys
      refine fun x dx hx hdx ne => ?_
      exact chMade hx hdx ne (.inr eD) pys fun H' s2 h => q x H' (s1.trans s2) h
end
end PJ

set_option Elab.async false
set_option linter.all false
set_option maxRecDepth 100000
set_option maxHeartbeats 8000000
/-! changes: ==, what they do -/
namespace PJ
open PySem PySem.Spec PyProof.Rows L2 KS KS.La
open KX hiding sameUpd
section
variable {P : Program} {w : World} {K : PySem.W.Frag} {mg : Str → Option Value} {base : Heap} {f : Addr} {fd : FuncData} {CS CM CP CC NT NS MM : Addr}
/-! ### == -/
def DO (K : PySem.W.Frag) (CS CM : Addr) : EB.Eqb := fun x y c H => EB.EFlat x y c H ∨ (DT K CS CM x y c H ∨ (TQ.ENon CS (spEqN CS) E0 x y c H ∨ TQ.ENon CM (spEqN CM) E0 x y c H))
theorem mon_do : EB.Mon2 (DO K CS CM) := EB.Mon2.or EB.mon_eflat (EB.Mon2.or (EB.Mon2.or EB.mon_eown EB.mon_eown) (EB.Mon2.or TQ.mon_enon TQ.mon_enon))
theorem eqB_do {X : Cx} (W : Pjc X.prog X.w X.K X.mg X.base CS CM CP NT NS) (N : Pjn X.prog X.w X.K X.mg X.base CS CM) : EB.EqB X 1 (DO X.K CS CM) := by
  obtain ⟨fS, dS, hS, iS, bS, GS⟩ := W.eqS
  obtain ⟨fM, dM, hM, iM, bM, GM⟩ := W.eqM
  obtain ⟨fSn, dSn, hSn, iSn, bSn, GSn⟩ := N.eqS
  obtain ⟨fMn, dMn, hMn, iMn, bMn, GMn⟩ := N.eqM
  exact EB.EqB.or (EB.EqB.mono EB.eqB_flat (by decide)) (EB.EqB.or (EB.EqB.or (EB.eqB_own GS hS iS bS pass0) (EB.eqB_own GM hM iM bM pass0)) (EB.EqB.or (TQ.eqB_non GSn hSn iSn bSn pass0 N.nS N.sN) (TQ.eqB_non GMn hMn iMn bMn pass0 N.nM N.mN)))
theorem otD (W : Pjc P w K mg base CS CM CP NT NS) {H : Hp} {v u : V} {o o' : Option Tg} (h : OAt CS CM H v o) (h' : OAt CS CM H u o') : DO K CS CM v u (oE o o') H := by
  cases o with
  | none =>
    obtain rfl : v = .non := h
    cases o' with
    | none =>
      obtain rfl : u = .non := h'
      exact .inl ⟨rfl, rfl, rfl⟩
    | some t' =>
      cases t' with
      | src os => obtain ⟨y, dy, d, rfl, hy, _⟩ := h'; exact .inr (.inr (.inl ⟨y, dy, _, .inl ⟨rfl, rfl⟩, hy, fun H' e => ⟨y, dy, _, rfl, e _ _ hy, rfl, fun _ _ z => z⟩⟩))
      | mad r as => obtain ⟨y, dy, vr, va, rfl, hy, _⟩ := h'; exact .inr (.inr (.inr ⟨y, dy, _, .inl ⟨rfl, rfl⟩, hy, fun H' e => ⟨y, dy, _, rfl, e _ _ hy, rfl, fun _ _ z => z⟩⟩))
  | some t =>
    cases o' with
    | none =>
      obtain rfl : u = .non := h'
      cases t with
      | src os => obtain ⟨y, dy, d, rfl, hy, _⟩ := h; exact .inr (.inr (.inl ⟨y, dy, _, .inr ⟨rfl, rfl⟩, hy, fun H' e => ⟨y, dy, _, rfl, e _ _ hy, rfl, fun _ _ z => z⟩⟩))
      | mad r as => obtain ⟨y, dy, vr, va, rfl, hy, _⟩ := h; exact .inr (.inr (.inr ⟨y, dy, _, .inr ⟨rfl, rfl⟩, hy, fun H' e => ⟨y, dy, _, rfl, e _ _ hy, rfl, fun _ _ z => z⟩⟩))
    | some t' => exact .inr (.inl (tgD W h h'))
theorem otSame (W : Pjc P w K mg base CS CM CP NT NS) {H : Hp} {v : V} {o o' : Option Tg} (h : OAt CS CM H v o) (h' : OAt CS CM H v o') : oE o o' = true := by
  have tr : ∀ {t}, TgAt CS CM H v t → ∃ x, v = .ref x := fun {t} h => by
    cases t with
    | src os => obtain ⟨x, _, _, e, _⟩ := h; exact ⟨x, e⟩
    | mad r as => obtain ⟨x, _, _, _, e, _⟩ := h; exact ⟨x, e⟩
  cases o with
  | none =>
    obtain rfl : v = .non := h
    cases o' with
    | none => rfl
    | some t' => obtain ⟨x, e⟩ := tr h'; cases e
  | some t =>
    cases o' with
    | none =>
      obtain rfl : v = .non := h'
      obtain ⟨x, e⟩ := tr h
      cases e
    | some t' =>
      obtain ⟨x, e⟩ := tr h
      rcases tgD W h h' with ⟨a, b, _, _, _, _, _, e1, e2, _, _, _, hc, _⟩ | ⟨a, b, _, _, _, _, _, e1, e2, _, _, _, hc, _⟩
      · exact hc (V.ref.inj (e1.symm.trans e2))
      · exact hc (V.ref.inj (e1.symm.trans e2))
def pE (q q' : Prt) : Bool := q.1 == q'.1 && (oE q.2.1 q'.2.1 && oE q.2.2 q'.2.2)
def zE : List Prt → List Prt → Bool
  | q :: ps, q' :: ps' => pE q q' && zE ps ps'
  | _, _ => true
def psE (ps ps' : List Prt) : Bool := zE ps ps' && ps.length == ps'.length
theorem ptSame (W : Pjc P w K mg base CS CM CP NT NS) {H : Hp} {v : V} {q q' : Prt} (h : PtAt CS CM H v q) (h' : PtAt CS CM H v q') : pE q q' = true := by
  obtain ⟨t, vb, va, rfl, ht, hb, ha⟩ := h
  obtain ⟨t', vb', va', e, ht', hb', ha'⟩ := h'
  cases e
  rw [ht] at ht'
  have := Option.some.inj ht'
  injection this with this
  injection this with e1 e2
  injection e2 with e2 e3
  injection e3 with e3 _
  subst e2 e3
  unfold pE
  rw [V.str.inj e1, otSame W hb hb', otSame W ha ha']
  simp
theorem psSame (W : Pjc P w K mg base CS CM CP NT NS) {H : Hp} : ∀ {vs : List V} {ps ps' : List Prt}, Paired (PtAt CS CM H) vs ps → Paired (PtAt CS CM H) vs ps' → psE ps ps' = true
  | _, _, _, .nil, .nil => rfl
  | _, _, _, .cons a r, .cons b s => by
    have ih := psSame W r s
    unfold psE at ih ⊢
    rw [Bool.and_eq_true] at ih
    unfold zE
    rw [ptSame W a b, ih.1, List.length_cons, List.length_cons, Bool.true_and]
    simpa using ih.2
theorem ptD (W : Pjc P w K mg base CS CM CP NT NS) {H : Hp} {v u : V} {q q' : Prt} (h : PtAt CS CM H v q) (h' : PtAt CS CM H u q') : TQ.ETup K (DO K CS CM) v u (pE q q') H := by
  have same := fun (e : v = u) => ptSame W h (e ▸ h')
  obtain ⟨t, vb, va, rfl, ht, hb, ha⟩ := h
  obtain ⟨t', vb', va', rfl, ht', hb', ha'⟩ := h'
  refine ⟨t, t', _, _, _, rfl, rfl, .inl (.inl ht), .inl (.inl ht'), fun e => same (by rw [e]), .cons (.inl ⟨rfl, rfl, rfl⟩) fun _ => .cons (otD W hb hb') fun _ => .cons (otD W ha ha') fun _ => .nilL, ?_⟩
  show pE q q' = ((q.1 == q'.1 && (oE q.2.1 q'.2.1 && (oE q.2.2 q'.2.2 && true))) && true)
  unfold pE
  simp
theorem psRow (W : Pjc P w K mg base CS CM CP NT NS) {H : Hp} : ∀ {xs ys : List V} {ps ps' : List Prt}, Paired (PtAt CS CM H) xs ps → Paired (PtAt CS CM H) ys ps' → TQ.Row (TQ.ETup K (DO K CS CM)) H xs ys (zE ps ps')
  | _, _, _, _, .nil, _ => by unfold zE; exact .nilL
  | _, _, _, _, .cons _ _, .nil => by unfold zE; exact .nilR
  | _, _, _, _, .cons a r, .cons b s => .cons (ptD W a b) fun _ => psRow W r s
def spCEq (K : PySem.W.Frag) (CS CM CC : Addr) : Sp := fun vs H Q _ => ∃ c d ps ps', vs = [.ref c, .ref d] ∧ ChAt K CS CM CC H c ps ∧ (ChAt K CS CM CC H d ps' ∨ (ps = [] ∧ ps' = [] ∧ ChE K CC H d)) ∧ ∀ H', Same H H' → Q (.bl (psE ps ps')) H'
theorem scCEq : FnScope ["self", "other"] ["self", "other"] (defScope sCEq) := ⟨rfl, rfl, rfl, by decide +kernel, rfl, by decide +kernel, by decide +kernel⟩
theorem okCEq {k : Nat} (W : Pjc P w K mg base CS CM CP NT NS) (N : Pjn P w K mg base CS CM) (G : Chc P w K mg base CC MM) (F : FnM K "__eq__" "Change.__eq__" sCEq f fd) : FnOk P w K mg base CX0 (k + 4) f fd ["self", "other"] (spCEq K CS CM CC) := by
  refine F.ok scCEq (fun vs H Q E h => ?_) (fun cdv A outer s H vs Q E hr h => ?_)
  · obtain ⟨c, d, ps, ps', rfl, _⟩ := h
    rfl
  · obtain ⟨c, d, ps, ps', rfl, ⟨dc, t, xs, hc, ht, hp⟩, hd, q⟩ := h
    have hr3 : Room 3 _ := hr.mono (by omega)
    refine ⟨_, PSs.nox (pss_one (ps_ret (pe_and (pe_callB call_isi (by rfl) W.mi (by decide +kernel) (pa_cons (pv 1) (pa_cons (pe_glob (v := .ref CC) (by rfl) G.gC rfl) pa_nil))) (pe_one (pe_cmpR (r := TQ.rEqT (TQ.ETup K (TQ.ETup K (DO K CS CM)))) (TQ.op_eqT (n := 3) (TQ.rcB_tup (TQ.mon_etup mon_do) (TQ.eqB_tup mon_do (eqB_do W N))) hr3) (pe_fld (pv 0) rfl) (pe_fld (pv 1) rfl) (nomark _)))))), ?_⟩
    rcases hd with ⟨dd, t', ys, hd, ht', hp'⟩ | ⟨rfl, rfl, dd, t', hd, ht'⟩
    · refine ⟨.ref d, rfl, .ref d, .ref CC, .ref CC, .ref CC, true, rfl, .own CC, G.iC.ty hd, G.kCC, true, rfl, iteT ?_⟩
      refine ⟨.ref c, rfl, c, CC, dc, _, .ref t, rfl, hc, G.iC.cl, G.nP, rfl, .ref d, rfl, d, CC, dd, _, .ref t', rfl, hd, G.iC.cl, G.nP, rfl, psE ps ps', ⟨t, t', xs, ys, zE ps ps', rfl, rfl, .inl (.inl ht), .inl (.inl ht'), fun e => ?_, psRow W hp hp', ?_⟩, fun H' e => q H' e⟩
      · subst e
        rw [ht] at ht'
        have := Option.some.inj ht'
        injection this with e1
        subst e1
        exact psSame W hp hp'
      · unfold psE
        rw [hp.length, hp'.length]
    · cases hp
      refine ⟨.ref d, rfl, .ref d, .ref CC, .ref CC, .ref CC, true, rfl, .own CC, G.iC.ty hd, G.kCC, true, rfl, iteT ?_⟩
      exact ⟨.ref c, rfl, c, CC, dc, _, .ref t, rfl, hc, G.iC.cl, G.nP, rfl, .ref d, rfl, d, CC, dd, _, .ref t', rfl, hd, G.iC.cl, G.nP, rfl, true, ⟨t, t', [], [], true, rfl, rfl, .inl (.inl ht), ht', fun _ => rfl, .nilL, rfl⟩, fun H' e => q H' e⟩
end
end PJ

set_option Elab.async false
set_option linter.all false
set_option maxRecDepth 100000
set_option maxHeartbeats 8000000
/-! changes: what they do -/
namespace PJ
open PySem PySem.Spec PyProof.Rows L2 KS KS.La
open KX hiding sameUpd
section
variable {P : Program} {w : World} {K : PySem.W.Frag} {mg : Str → Option Value} {base : Heap} {f : Addr} {fd : FuncData} {CS CM CP CC NT NS MM : Addr}
/-! ### != of targets or none -/
structure Pne (K : PySem.W.Frag) (CS CM : Addr) : Prop where
  neS : PySem.W.findIn K (.ref CS) "__ne__" = some (some (.builtin "object.__ne__"))
  neM : PySem.W.findIn K (.ref CM) "__ne__" = some (some (.builtin "object.__ne__"))
def rNeOT (CS CM : Addr) : R2 := fun x y H Q => ∃ o o', OAt CS CM H x o ∧ OAt CS CM H y o' ∧ Q (.bl (!oE o o')) H
theorem op_neOT {X : Cx} (W : Pjc X.prog X.w X.K X.mg X.base CS CM CP NT NS) (N : Pjn X.prog X.w X.K X.mg X.base CS CM) (M : Pne X.K CS CM) (hr : Room (1 + 1) X.A) : OpR X (compareOp .NotEq) (rNeOT CS CM) := by
  intro pins s σ H x y v u Q I rx ry h
  obtain ⟨o, o', ho, ho', q⟩ := h
  obtain ⟨fS, dS, hS, iS, bS, GS⟩ := W.eqS
  obtain ⟨fM, dM, hM, iM, bM, GM⟩ := W.eqM
  obtain ⟨fSn, dSn, hSn, iSn, bSn, GSn⟩ := N.eqS
  obtain ⟨fMn, dMn, hMn, iMn, bMn, GMn⟩ := N.eqM
  cases o with
  | none =>
    obtain rfl : x = .non := ho
    cases o' with
    | none =>
      obtain rfl : y = .non := ho'
      exact op_ne pins s σ H .non .non v u Q I rx ry ⟨rfl, q⟩
    | some t =>
      cases t with
      | src os =>
        obtain ⟨x, dx, d, rfl, hx, _⟩ := ho'
        exact NQ.op_nonNe (E := E0) GSn hr hSn iSn bSn pass0 M.neS W.iS.hm N.sN pins s σ H .non (.ref x) v u Q I rx ry ⟨x, dx, _, rfl, rfl, hx, x, dx, _, rfl, hx, false, rfl, q⟩
      | mad r as =>
        obtain ⟨x, dx, vr, va, rfl, hx, _⟩ := ho'
        exact NQ.op_nonNe (E := E0) GMn hr hMn iMn bMn pass0 M.neM W.iM.hm N.mN pins s σ H .non (.ref x) v u Q I rx ry ⟨x, dx, _, rfl, rfl, hx, x, dx, _, rfl, hx, false, rfl, q⟩
  | some t =>
    cases o' with
    | none =>
      obtain rfl : y = .non := ho'
      cases t with
      | src os =>
        obtain ⟨x, dx, d, rfl, hx, _⟩ := ho
        exact NQ.op_neG (E := E0) GSn hr hSn iSn bSn pass0 M.neS W.iS.hm pins s σ H (.ref x) .non v u Q I rx ry ⟨x, dx, _, rfl, hx, .inr ⟨rfl, N.nS⟩, x, dx, _, rfl, hx, false, rfl, q⟩
      | mad r as =>
        obtain ⟨x, dx, vr, va, rfl, hx, _⟩ := ho
        exact NQ.op_neG (E := E0) GMn hr hMn iMn bMn pass0 M.neM W.iM.hm pins s σ H (.ref x) .non v u Q I rx ry ⟨x, dx, _, rfl, hx, .inr ⟨rfl, N.nM⟩, x, dx, _, rfl, hx, false, rfl, q⟩
    | some t' =>
      cases t with
      | src os =>
        obtain ⟨x, dx, d, rfl, hx, hos⟩ := ho
        refine NQ.op_neG (E := E0) GS hr hS iS bS pass0 M.neS W.iS.hm pins s σ H _ y v u Q I rx ry ?_
        cases t' with
        | src os' =>
          obtain ⟨y, dy, d', rfl, hy, hos'⟩ := ho'
          exact ⟨x, dx, _, rfl, hx, .inl ⟨y, CS, dy, _, rfl, hy, by simp [PySem.W.notFirst]⟩, x, dx, d, os, y, rfl, hx, hos, .inl ⟨dy, d', os', hy, hos', _, rfl, q⟩⟩
        | mad r as =>
          obtain ⟨y, dy, vr, va, rfl, hy, _⟩ := ho'
          exact ⟨x, dx, _, rfl, hx, .inl ⟨y, CM, dy, _, rfl, hy, by simp [PySem.W.notFirst, W.sMS]⟩, x, dx, d, os, y, rfl, hx, hos, .inr ⟨dy, _, hy, _, rfl, q⟩⟩
      | mad r as =>
        obtain ⟨x, dx, vr, va, rfl, hx, hr', ha⟩ := ho
        refine NQ.op_neG (E := E0) GM hr hM iM bM pass0 M.neM W.iM.hm pins s σ H _ y v u Q I rx ry ?_
        cases t' with
        | src os' =>
          obtain ⟨y, dy, d', rfl, hy, hos'⟩ := ho'
          exact ⟨x, dx, _, rfl, hx, .inl ⟨y, CS, dy, _, rfl, hy, by simp [PySem.W.notFirst, W.sSM]⟩, x, dx, vr, va, rcD r, argsD as, y, rfl, hx, hr'.dp.1, ha.dp.1, (hr'.dp (K := X.K)).2, (ha.dp (K := X.K)).2, .inr ⟨dy, _, hy, _, rfl, q⟩⟩
        | mad r2 as2 =>
          obtain ⟨y, dy, vr2, va2, rfl, hy, hr2, ha2⟩ := ho'
          exact ⟨x, dx, _, rfl, hx, .inl ⟨y, CM, dy, _, rfl, hy, by simp [PySem.W.notFirst]⟩, x, dx, vr, va, rcD r, argsD as, y, rfl, hx, hr'.dp.1, ha.dp.1, (hr'.dp (K := X.K)).2, (ha.dp (K := X.K)).2, .inl ⟨dy, vr2, va2, rcD r2, argsD as2, hy, hr2.dp.1, ha2.dp.1, (hr2.dp (K := X.K)).2, (ha2.dp (K := X.K)).2, _, rfl, q⟩⟩
/-! ### the target of a name -/
/-- found at the heap H0 already -/
def spTOf (CS CM CP : Addr) : Sp := fun vs H Q _ => ∃ p z T H0, vs = [.ref p, .str z] ∧ PjAt CS CM CP H0 p T ∧ Same H0 H ∧ ∀ v, OAt CS CM H0 v (tLook T z) → Q v H
theorem scTOf : FnScope ["project", "name"] ["project", "name"] (defScope sTOf) := ⟨rfl, rfl, rfl, by decide +kernel, rfl, by decide +kernel, by decide +kernel⟩
theorem okTOf {k : Nat} (W : Pjc P w K mg base CS CM CP NT NS) (A' : Pas P w K mg base CP NT) (F : FnP K "_target_of" sTOf f fd) : FnOk P w K mg base CX0 (k + 5) f fd ["project", "name"] (spTOf CS CM CP) := by
  obtain ⟨fG, dG, hG1, hG2, hG3, bG, GG⟩ := A'.get
  obtain ⟨fH, dH, hH1, hH2, bH, GH⟩ := A'.has
  refine F.ok scTOf (fun vs H Q E h => ?_) (fun cdv A outer s H vs Q E hr h => ?_)
  · obtain ⟨p, z, T, H0, rfl, _⟩ := h
    rfl
  · obtain ⟨p, z, T, H0, rfl, ⟨kvs, pr, tb⟩, s0, q⟩ := h
    have pr := pr.stl (Stl.same s0)
    have hr1 : Room 1 _ := hr.mono (by omega)
    have hr4 : Room (3 + 1) _ := hr.mono (by omega)
    refine ⟨_, PSs.nox (pss_one (ps_ret (pe_ifExp (pt_cmpR (OC.op_inOwn (E := E0) (FnOk.raw GH bH .nil) hr1 hH1 hH2 pass0) (pv 1) (pv 0) (by rfl)) (OD.pe_ixO (E := fun _ => E0) (pv 0) (pv 1) GG hr4 hG1 hG2 hG3 bG (fun _ => OD.passAt0)) pe_non))), ?_⟩
    obtain ⟨dp, D, hp, hD⟩ := id pr
    refine ⟨.str z, rfl, .ref p, rfl, p, dp, _, rfl, hp, p, kvs, z, rfl, pr, (valV kvs (.inr z)).isSome, rfl, (valV kvs (.inr z)).isSome, rfl, ?_⟩
    rcases tb.look z with ⟨e, e2⟩ | ⟨v, t, e, e2, hv⟩
    · rw [e]
      exact iteF (q .non (by rw [e2]; rfl))
    · rw [e]
      exact iteT ⟨.ref p, rfl, .str z, rfl, p, dp, _, rfl, hp, p, kvs, z, rfl, pr, fun u hu => by
        rw [e] at hu
        cases hu
        exact q v (by rw [e2]; exact hv), fun hn => by rw [e] at hn; cases hn⟩
/-! ### what a change does -/
def badP (ps : List Prt) (T : Tb) : Option Str := (ps.find? fun q => !oE (tLook T q.1) q.2.1).map (·.1)
def chS (T : Tb) (q : Prt) : Tb := match q.2.2 with
  | none => tDrop T q.1
  | some t => tPut T q.1 t
def chT (T : Tb) (ps : List Prt) : Tb := ps.foldl chS T
theorem tLook_put (T : Tb) (k : Str) (t : Tg) (k' : Str) : tLook (tPut T k t) k' = if k = k' then some t else tLook T k' := by
  unfold tPut
  by_cases h : (T.any fun p => decide (p.1 = k)) = true
  · rw [if_pos h]
    unfold tLook
    induction T with
    | nil => simp at h
    | cons p T ih =>
      rw [List.map_cons, List.find?_cons, List.find?_cons]
      by_cases c : p.1 = k
      · rw [if_pos c]
        by_cases d : k = k'
        · have : decide ((p.1, t).1 = k') = true := decide_eq_true (c.trans d)
          rw [this, if_pos d]
          rfl
        · have e1 : decide ((p.1, t).1 = k') = false := decide_eq_false fun z => d (c.symm.trans z)
          rw [e1, if_neg d]
          dsimp only
          by_cases h2 : (T.any fun p => decide (p.1 = k)) = true
          · have := ih h2
            rw [if_neg d] at this
            exact this
          · congr 1
            have : T.map (fun p => if p.1 = k then (p.1, t) else p) = T := by
              conv => rhs; rw [← List.map_id T]
              refine List.map_congr_left fun q hq => ?_
              rw [if_neg fun z => h2 (List.any_eq_true.mpr ⟨q, hq, decide_eq_true z⟩)]
              rfl
            rw [this]
      · rw [if_neg c]
        have h2 : (T.any fun p => decide (p.1 = k)) = true := by
          rw [List.any_cons, decide_eq_false c, Bool.false_or] at h
          exact h
        by_cases d : p.1 = k'
        · rw [decide_eq_true d, if_neg fun z => c (d.trans z.symm)]
        · rw [decide_eq_false d]
          exact ih h2
  · rw [if_neg h]
    refine tLook_app (fun hm => h ?_) k'
    obtain ⟨p, hp, e⟩ := List.mem_map.mp hm
    exact List.any_eq_true.mpr ⟨p, hp, decide_eq_true e⟩
theorem tLook_drop (T : Tb) (k k' : Str) : tLook (tDrop T k) k' = if k = k' then none else tLook T k' := by
  unfold tDrop tLook
  induction T with
  | nil => split <;> rfl
  | cons p T ih =>
    by_cases c : p.1 = k
    · rw [List.filter_cons_of_neg (by simpa using c), ih]
      by_cases d : k = k'
      · rw [if_pos d, if_pos d]
      · rw [if_neg d, if_neg d, List.find?_cons, decide_eq_false fun z => d (c.symm.trans z)]
    · rw [List.filter_cons_of_pos (by simpa using c), List.find?_cons, List.find?_cons]
      by_cases d : p.1 = k'
      · rw [decide_eq_true d, if_neg fun z => c (d.trans z.symm)]
      · rw [decide_eq_false d]
        exact ih
theorem tLook_chS (T : Tb) (q : Prt) (k : Str) : tLook (chS T q) k = if q.1 = k then q.2.2 else tLook T k := by
  unfold chS
  cases e : q.2.2 with
  | none => exact tLook_drop _ _ _
  | some t => exact tLook_put _ _ _ _
theorem tDrop_len (T : Tb) (k : Str) : (tDrop T k).length ≤ T.length := List.length_filter_le _ _
theorem tPut_len (T : Tb) (k : Str) (t : Tg) : (tPut T k t).length ≤ T.length + 1 := by
  unfold tPut
  split
  · rw [List.length_map]; omega
  · rw [List.length_append]; exact Nat.le_refl _
theorem chS_len (T : Tb) (q : Prt) : (chS T q).length ≤ T.length + 1 := by
  unfold chS
  cases q.2.2 with
  | none => exact Nat.le_trans (tDrop_len _ _) (Nat.le_succ _)
  | some t => exact tPut_len _ _ _
theorem chT_snoc (T : Tb) (ps : List Prt) {i : Nat} (lt : i < ps.length) : chT T (ps.take (i + 1)) = chS (chT T (ps.take i)) ps[i] := by
  unfold chT
  rw [List.take_succ_eq_append_getElem lt, List.foldl_append]
  rfl
theorem chT_out (T : Tb) (ps : List Prt) (k : Str) (h : ∀ q ∈ ps, q.1 ≠ k) : tLook (chT T ps) k = tLook T k := by
  unfold chT
  induction ps generalizing T with
  | nil => rfl
  | cons q ps ih =>
    rw [List.foldl_cons, ih _ fun q hq => h q (List.mem_cons_of_mem _ hq), tLook_chS, if_neg (h q List.mem_cons_self)]
theorem chT_len (T : Tb) (ps : List Prt) : (chT T ps).length ≤ T.length + ps.length := by
  unfold chT
  induction ps generalizing T with
  | nil => exact Nat.le_refl _
  | cons q ps ih =>
    have h1 := ih (chS T q)
    have h2 := chS_len T q
    rw [List.foldl_cons, List.length_cons]
    omega
theorem badNone {ps : List Prt} {T : Tb} (h : ∀ q ∈ ps, oE (tLook T q.1) q.2.1 = true) : badP ps T = none := by
  unfold badP
  rw [Option.map_eq_none_iff, List.find?_eq_none]
  intro q hq
  rw [h q hq]
  simp
theorem badAtI {ps : List Prt} {T : Tb} {i : Nat} (lt : i < ps.length) (h : ∀ q ∈ ps.take i, oE (tLook T q.1) q.2.1 = true) (e : oE (tLook T ps[i].1) ps[i].2.1 = false) : badP ps T = some ps[i].1 := by
  unfold badP
  have sp : ps = ps.take i ++ ps[i] :: ps.drop (i + 1) := by rw [← List.drop_eq_getElem_cons lt, List.take_append_drop]
  have h1 : (ps.take i).find? (fun q => !oE (tLook T q.1) q.2.1) = none := List.find?_eq_none.mpr fun q hq => by rw [h q hq]; simp
  conv => lhs; rw [sp]
  rw [List.find?_append, h1, Option.none_or, List.find?_cons, e]
  rfl
/-- parts that can be done -/
structure PsOk (ps : List Prt) : Prop where
  nd : (namesOf ps).Nodup
  go : ∀ q ∈ ps, q.2.2 = none → q.2.1 ≠ none
  few : ps.length ≤ 40
structure Cpj (P : Program) (w : World) (K : PySem.W.Frag) (mg : Str → Option Value) (base : Heap) (CS CM CP NT : Addr) : Prop where
  put : ∃ (f : Addr) (fd : FuncData), Meth K CP "put" f ∧ Binds K fd ["self", "name", "target"] [] ∧ FnOk P w K mg base CX0 3 f fd ["self", "name", "target"] (spPPut CS CM CP)
  wit : ∃ (f : Addr) (fd : FuncData), Meth K CP "without" f ∧ Binds K fd ["self", "name"] [] ∧ FnOk P w K mg base (L2.CX P w) 3 f fd ["self", "name"] (spPWithout CS CM CP NT)
def spCCall (K : PySem.W.Frag) (CS CM CP CC MM : Addr) : Sp := fun vs H Q E => ∃ c p ps T, vs = [.ref c, .ref p] ∧ ChAt K CS CM CC H c ps ∧ PjAt CS CM CP H p T ∧ PsOk ps ∧ T.length ≤ 40 ∧
  (badP ps T = none → ∀ p' H', Same H H' → PjAt CS CM CP H' p' (chT T ps) → Q (.ref p') H') ∧ ∀ n, badP ps T = some n → Nm MM n H E
abbrev nCCall : List Str := ["self", "project", "name", "before", "_", "after"]
theorem scCCall : FnScope nCCall ["self", "project"] (defScope sCCall) := ⟨rfl, rfl, rfl, by decide +kernel, rfl, by decide +kernel, by decide +kernel⟩
theorem okCCall {k : Nat} (W : Pjc P w K mg base CS CM CP NT NS) (N : Pjn P w K mg base CS CM) (M : Pne K CS CM) (G : Chc P w K mg base CC MM) (J : Cpj P w K mg base CS CM CP NT)
    (aT : Has P w K mg base 5 "_target_of" ["project", "name"] (spTOf CS CM CP)) (F : FnM K "__call__" "Change.__call__" sCCall f fd) : FnOk P w K mg base (L2.CX P w) (k + 6) f fd ["self", "project"] (spCCall K CS CM CP CC MM) := by
  obtain ⟨fT, dT, gT, kT, bT, GT⟩ := aT.ex
  obtain ⟨fU, dU, hU, bU, GU⟩ := J.put
  obtain ⟨fD, dD, hD, bD, GD⟩ := J.wit
  refine F.ok scCCall (fun vs H Q E h => ?_) (fun cdv A outer s H vs Q E hr h => ?_)
  · obtain ⟨c, p, ps, T, rfl, _⟩ := h
    rfl
  · obtain ⟨c, p, ps, T, rfl, ⟨dc, t, xs, hc, ht, hp⟩, hP, ok, lT, q1, q2⟩ := h
    have r5 : Room 5 _ := hr.mono (by omega)
    have r2 : Room (1 + 1) _ := hr.mono (by omega)
    have r3 : Room 3 _ := hr.mono (by omega)
    have lx := hp.length
    have tk := fun σ => passAt (takes_of (X := (cxOf (L2.CX P w) P w K mg base nCCall "Change.__call__" (defScope sCCall) f cdv A outer s H E)) rfl rfl rfl rfl) σ
    refine ⟨_, (C8.pss_cut (ps_for (passes_of rfl) rfl (pi_tup (pe_fld (pv 0) rfl)) (pg_tup rfl (pgs_cons ((pg_name (i := 2) scCCall.nd rfl (.inl rfl))) (pgs_cons ((pg_name (i := 3) scCCall.nd rfl (.inl rfl))) (pgs_cons ((pg_name (i := 4) scCCall.nd rfl (.inl rfl))) pgs_nil))))
        (pss_one (ps_if (pt_cmpR (r := rNeOT CS CM) (op_neOT W N M r2) (pe_call GT r5 (by rfl) gT kT bT .nil pass0 (pa_cons (pv 1) (pa_cons (pv 2) pa_nil))) (pv 3) (nomark _)) (pss_one (ps_raise rfl (takes_of rfl rfl rfl rfl) (pmkX G.xM (hr.mono (by omega)) (by rfl) (pa_cons (pv 2) pa_nil)))) pss_nil))) (C8.pss_cut (ps_for (passes_of rfl) rfl (pi_tup (pe_fld (pv 0) rfl)) (pg_tup rfl (pgs_cons ((pg_name (i := 2) scCCall.nd rfl (.inl rfl))) (pgs_cons ((pg_name (i := 4) scCCall.nd rfl (.inl rfl))) (pgs_cons ((pg_name (i := 5) scCCall.nd rfl (.inl rfl))) pgs_nil))))
        (pss_one (ps_set (i := 1) scCCall.nd rfl (.inl rfl) (pe_ifExp (pt_cmp (pc_isN (pv 5))) (OD.pe_methT (pv 1) W.iP.cl hD GD r3 bD tk (pa_cons (pv 2) pa_nil)) (pe_meth (pv 1) W.iP.cl hU GU r3 bU .nil pass0 (pa_cons (pv 2) (pa_cons (pv 5) pa_nil))))))) (pss_one (ps_ret (pv 1))))), ?_⟩
    refine ⟨fun σ' H' => ∃ x2 x3 x4, σ' = [some (.ref c), some (.ref p), x2, x3, x4, none] ∧ Same H H' ∧ ∀ q ∈ ps, oE (tLook T q.1) q.2.1 = true, ?_, ?_⟩
    · refine ⟨.ref c, rfl, c, CC, dc, _, .ref t, rfl, hc, G.iC.cl, G.nP, rfl, t, rfl, ⟨_, .inl (.inl ht)⟩, ?_⟩
      refine forJ (n := ps.length) (fun i σ' H' => ∃ x2 x3 x4, σ' = [some (.ref c), some (.ref p), x2, x3, x4, none] ∧ Same H H' ∧ ∀ q ∈ ps.take i, oE (tLook T q.1) q.2.1 = true) ⟨none, none, none, rfl, Same.refl _, fun q hq => absurd hq (by simp)⟩
        (fun i σ' H' lt h => by obtain ⟨_, _, _, _, s, _⟩ := h; exact ⟨_, xs[i], .inl (.inl (s _ _ ht)), List.getElem?_eq_getElem (by omega)⟩) (fun σ' H' h => by obtain ⟨_, _, _, _, s, _⟩ := h; exact ⟨_, .inl (.inl (s _ _ ht)), by omega⟩) (fun i σ' H0 x H1 lt h y => ?_) (fun σ' H' h => ?_)
      · obtain ⟨rfl, y⟩ := y
        obtain ⟨x2, x3, x4, rfl, s1, al⟩ := h
        have ex := y _ (.inl (.inl (s1 _ _ ht)))
        obtain ⟨v, e1, u, vb, va, rfl, hu, hb, ha⟩ := pairAt hp (List.getElem?_eq_getElem lt)
        obtain rfl : V.ref u = x := Option.some.inj (e1.symm.trans ex)
        refine ⟨u, _, rfl, .inl (.inl (s1 _ _ hu)), rfl, .str ps[i].1, _, rfl, vb, _, rfl, va, _, rfl, rfl, ?_⟩
        refine ⟨.ref p, rfl, .str ps[i].1, rfl, p, ps[i].1, T, H1, rfl, hP.stl (Stl.same s1), Same.refl _, fun v hv => ⟨vb, rfl, _, _, hv, hb.stl (Stl.same s1), _, rfl, ?_⟩⟩
        cases eo : oE (tLook T ps[i].1) ps[i].2.1 with
        | true =>
          refine iteF ⟨_, _, _, rfl, s1, fun q hq => ?_⟩
          rw [List.take_succ_eq_append_getElem lt] at hq
          rcases List.mem_append.mp hq with hq | hq
          · exact al q hq
          · rw [List.mem_singleton.mp hq]
            exact eo
        | false => exact iteT ⟨.str ps[i].1, rfl, .str ps[i].1, rfl, fun d H2 s2 hd => q2 _ (badAtI lt al eo) d H2 (s1.trans s2) hd⟩
      · obtain ⟨x2, x3, x4, rfl, s1, al⟩ := h
        rw [List.take_length] at al
        exact ⟨x2, x3, x4, rfl, s1, al⟩
    rintro _ H1 ⟨x2, x3, x4, rfl, s1, al⟩
    have q1' := q1 (badNone al)
    refine ⟨fun σ' H' => ∃ p' x2 x4 x5, σ' = [some (.ref c), some (.ref p'), x2, x3, x4, x5] ∧ Same H H' ∧ PjAt CS CM CP H' p' (chT T ps), ?_, ?_⟩
    · refine ⟨.ref c, rfl, c, CC, dc, _, .ref t, rfl, s1 _ _ hc, G.iC.cl, G.nP, rfl, t, rfl, ⟨_, .inl (.inl (s1 _ _ ht))⟩, ?_⟩
      refine forJ (n := ps.length) (fun i σ' H' => ∃ p' x2 x4 x5, σ' = [some (.ref c), some (.ref p'), x2, x3, x4, x5] ∧ Same H H' ∧ PjAt CS CM CP H' p' (chT T (ps.take i))) ⟨p, x2, x4, none, rfl, s1, hP.stl (Stl.same s1)⟩
        (fun i σ' H' lt h => by obtain ⟨_, _, _, _, _, s, _⟩ := h; exact ⟨_, xs[i], .inl (.inl (s _ _ ht)), List.getElem?_eq_getElem (by omega)⟩) (fun σ' H' h => by obtain ⟨_, _, _, _, _, s, _⟩ := h; exact ⟨_, .inl (.inl (s _ _ ht)), by omega⟩) (fun i σ' H0 x H2 lt h y => ?_) (fun σ' H' h => ?_)
      · obtain ⟨rfl, y⟩ := y
        obtain ⟨p', x2, x4, x5, rfl, s2, pj⟩ := h
        have ex := y _ (.inl (.inl (s2 _ _ ht)))
        obtain ⟨v, e1, u, vb, va, rfl, hu, hb, ha⟩ := pairAt hp (List.getElem?_eq_getElem lt)
        obtain rfl : V.ref u = x := Option.some.inj (e1.symm.trans ex)
        refine ⟨u, _, rfl, .inl (.inl (s2 _ _ hu)), rfl, .str ps[i].1, _, rfl, vb, _, rfl, va, _, rfl, rfl, ?_⟩
        have mi : ps[i] ∈ ps := List.getElem_mem lt
        have nm : ∀ q ∈ ps.take i, q.1 ≠ ps[i].1 := fun q hq e => by
          have lt' : i < (ps.map (·.1)).length := by rw [List.length_map]; exact lt
          refine notTake (show (ps.map (·.1)).Nodup from ok.nd) lt' ?_
          rw [List.getElem_map, ← e, ← List.map_take]
          exact List.mem_map.mpr ⟨q, hq, rfl⟩
        have lk := chT_out T (ps.take i) ps[i].1 nm
        have ln := chT_len T (ps.take i)
        rw [List.length_take] at ln
        have few := ok.few
        obtain ⟨kvs, ⟨dp, D, hp', hD'⟩, _⟩ := id pj
        have go : ∀ p2 H3, Same H2 H3 → PjAt CS CM CP H3 p2 (chS (chT T (ps.take i)) ps[i]) → (∃ p' x2 x4 x5, [some (V.ref c), some (.ref p2), some (.str ps[i].1), x3, some vb, some va] = [some (.ref c), some (.ref p'), x2, x3, x4, x5] ∧ Same H H3 ∧ PjAt CS CM CP H3 p' (chT T (ps.take (i + 1)))) := fun p2 H3 s3 pj3 =>
          ⟨p2, _, _, _, rfl, s2.trans s3, by rw [chT_snoc T ps lt]; exact pj3⟩
        have ha2 := ha.stl (Stl.same s2)
        have g1 := ok.go _ mi
        have a1 := al _ mi
        clear ha hu ex y hb
        cases ea : ps[i].2.2 with
        | none =>
          rw [ea] at ha2
          obtain rfl : va = .non := ha2
          refine ⟨.non, rfl, true, rfl, iteT ⟨.ref p', rfl, p', dp, _, rfl, hp', rfl, .str ps[i].1, rfl, p', ps[i].1, _, rfl, pj, fun _ p2 H3 np s3 pj3 => go p2 H3 s3 ?_, fun e => ?_⟩⟩
          · unfold chS
            rw [ea]
            exact pj3
          · rw [lk] at e
            rw [e] at a1
            have := g1 ea
            cases eb : ps[i].2.1 with
            | none => exact absurd eb this
            | some t' => rw [eb] at a1; cases a1
        | some tg =>
          rw [ea] at ha2
          have fin : ∀ x, va = .ref x → _ := fun x e => e
          obtain ⟨x, rfl⟩ : ∃ x, va = .ref x := by
            cases tg with
            | src os => obtain ⟨x, _, _, e, _⟩ := ha2; exact ⟨x, e⟩
            | mad r as => obtain ⟨x, _, _, _, e, _⟩ := ha2; exact ⟨x, e⟩
          refine ⟨.ref x, rfl, false, rfl, iteF ⟨.ref p', rfl, p', dp, _, rfl, hp', rfl, .str ps[i].1, rfl, .ref x, rfl, p', ps[i].1, .ref x, _, tg, rfl, pj, ha2, by omega, fun p2 H3 np s3 pj3 => go p2 H3 s3 ?_⟩⟩
          unfold chS
          rw [ea]
          exact pj3
      · obtain ⟨p', x2, x4, x5, rfl, s2, pj⟩ := h
        rw [List.take_length] at pj
        exact ⟨p', x2, x4, x5, rfl, s2, pj⟩
    rintro _ H2 ⟨p', x2, x4, x5, rfl, s2, pj⟩
    exact ⟨.ref p', rfl, q1' p' H2 s2 pj⟩
end
end PJ

set_option Elab.async false
set_option linter.all false
set_option maxRecDepth 100000
set_option maxHeartbeats 8000000
/-! changes: joined, between projects -/
namespace PJ
open PySem PySem.Spec PyProof.Rows L2 KS KS.La
open KX hiding sameUpd
/-- turns of a comprehension, as a dict is built -/
theorem dcJ {J : It} {n : Nat} {g : TG} {tt : TT} {tk tv : TE} {vs : List Nat} {σ : L2.St} {H1 : Hp} {D : Addr} {Qd : Hp → Prop} (Pv : Nat → Hp → Prop) (h0 : Pv 0 (upd H1 D (.dK [])))
    (hgo : ∀ i H, i < n → Pv i H → J.go i H) (hst : ∀ H, Pv n H → J.stop n H)
    (hs : ∀ i H x H', i < n → Pv i H → J.yld i H x H' → g x (wipe σ vs) H' fun σ2 H2 => wipe σ2 vs = wipe σ vs ∧ tt σ2 H2 fun b H3 =>
      if b = true then tk σ2 H3 fun y H4 => tv σ2 H4 fun z H5 => ∃ kvs k, y = kV k ∧ H5 D = some (.dK kvs) ∧ kvs.length < sizeLine ∧ Pv (i + 1) (upd H5 D (.dK (putK kvs k z))) else Pv (i + 1) H3)
    (hd : ∀ H, Pv n H → Qd H) :
    ∃ W : Nat → Nat → Hp → Prop, (∃ m, W 0 m (upd H1 D (.dK []))) ∧ ∀ i m H, W i m H →
      (J.stop i H ∧ Qd H) ∨ (J.go i H ∧ ∃ Nx : Hp → Prop, (∀ H', Nx H' → ∃ m', m' < m ∧ W (i + 1) m' H') ∧ ∀ x H', J.yld i H x H' → g x (wipe σ vs) H' fun σ2 H2 => wipe σ2 vs = wipe σ vs ∧ tt σ2 H2 fun b H3 =>
        if b = true then tk σ2 H3 fun y H4 => tv σ2 H4 fun z H5 => ∃ kvs k, y = kV k ∧ H5 D = some (.dK kvs) ∧ kvs.length < sizeLine ∧ Nx (upd H5 D (.dK (putK kvs k z))) else Nx H3) := by
  refine ⟨fun i m H => m = n - i ∧ i ≤ n ∧ Pv i H, ⟨n, by simp, Nat.zero_le _, h0⟩, fun i m H hW => ?_⟩
  obtain ⟨rfl, hi, p⟩ := hW
  by_cases lt : i < n
  · exact .inr ⟨hgo i H lt p, Pv (i + 1), fun H' p' => ⟨n - (i + 1), by omega, rfl, lt, p'⟩, fun x H' y => hs i H x H' lt p y⟩
  · have e : i = n := by omega
    subst e
    exact .inl ⟨hst H p, hd H p⟩
def pLook (ps : List Prt) (n : Str) : Option (Option Tg × Option Tg) := (ps.find? fun q => decide (q.1 = n)).map (·.2)
section
variable {P : Program} {w : World} {K : PySem.W.Frag} {mg : Str → Option Value} {base : Heap} {f : Addr} {fd : FuncData} {CS CM CP CC NT NS MM : Addr}
/-! ### parts by their names -/
def BnE (CS CM : Addr) (H0 H : Hp) (kv : Key × V) (q : Prt) : Prop := kv.1 = .inr q.1 ∧ ∃ u vb va, kv.2 = .ref u ∧ H u = some (.tup [vb, va]) ∧ OAt CS CM H0 vb q.2.1 ∧ OAt CS CM H0 va q.2.2
theorem BnE.mono {H0 H1 H H' : Hp} {kv : Key × V} {q : Prt} (h : BnE CS CM H0 H kv q) (s0 : Stl H0 H1) (s : Stl H H') : BnE CS CM H1 H' kv q := let ⟨e, u, vb, va, e2, h, b, a⟩ := h; ⟨e, u, vb, va, e2, s _ _ h (fun _ z => nomatch z), b.stl s0, a.stl s0⟩
def BnAt (CS CM : Addr) (H : Hp) (D : Addr) (ps : List Prt) : Prop := ∃ kvs, H D = some (.dK kvs) ∧ Paired (BnE CS CM H H) kvs ps
theorem BnAt.stl {H H' : Hp} {D : Addr} {ps : List Prt} (h : BnAt CS CM H D ps) (s : Stl H H') : BnAt CS CM H' D ps := let ⟨kvs, e, p⟩ := h; ⟨kvs, s _ _ e (fun _ z => nomatch z), L2.Paired.mapP p fun _ _ h => h.mono s s⟩
theorem bnKeys {H0 H : Hp} : ∀ {kvs : List (Key × V)} {ps : List Prt}, Paired (BnE CS CM H0 H) kvs ps → kvs.map (·.1) = (namesOf ps).map Sum.inr
  | _, _, .nil => rfl
  | _, _, .cons a r => by
    unfold namesOf at *
    rw [List.map_cons, List.map_cons, List.map_cons, a.1]
    have := bnKeys r
    unfold namesOf at this
    rw [this]
theorem bnLook {H0 H : Hp} (n : Str) : ∀ {kvs : List (Key × V)} {ps : List Prt}, Paired (BnE CS CM H0 H) kvs ps → (valV kvs (.inr n) = none ∧ pLook ps n = none) ∨ ∃ u vb va b a, valV kvs (.inr n) = some (.ref u) ∧ pLook ps n = some (b, a) ∧ H u = some (.tup [vb, va]) ∧ OAt CS CM H0 vb b ∧ OAt CS CM H0 va a
  | _, _, .nil => .inl ⟨rfl, rfl⟩
  | kv :: kvs, q :: ps, .cons h r => by
    obtain ⟨e1, u, vb, va, e2, hu, hb, ha⟩ := h
    obtain ⟨k, v⟩ := kv
    simp only at e1 e2
    subst e1 e2
    by_cases c : q.1 = n
    · refine .inr ⟨u, vb, va, q.2.1, q.2.2, valV_pos (p := ((Sum.inr q.1 : Key), V.ref u)) (by rw [c]), ?_, hu, hb, ha⟩
      unfold pLook
      rw [List.find?_cons, decide_eq_true c]
      rfl
    · have e3 : valV (((Sum.inr q.1 : Key), V.ref u) :: kvs) (.inr n) = valV kvs (.inr n) := valV_neg (p := ((Sum.inr q.1 : Key), V.ref u)) fun z => c (Sum.inr.inj z)
      have e4 : pLook (q :: ps) n = pLook ps n := by
        unfold pLook
        rw [List.find?_cons, decide_eq_false c]
      rw [e3, e4]
      exact bnLook n r
theorem bnNew {H0 H : Hp} {n : Str} {kvs : List (Key × V)} {ps : List Prt} (h : Paired (BnE CS CM H0 H) kvs ps) (hn : n ∉ namesOf ps) (v : V) : putK kvs (.inr n) v = kvs ++ [(.inr n, v)] := by
  unfold putK
  rw [if_neg]
  intro e
  obtain ⟨kv, hm, e2⟩ := List.any_eq_true.mp e
  have e3 : kv.1 ∈ kvs.map (·.1) := List.mem_map_of_mem hm
  rw [bnKeys h] at e3
  obtain ⟨z, hz, ez⟩ := List.mem_map.mp e3
  have : z = n := Sum.inr.inj (ez.trans (of_decide_eq_true e2))
  exact hn (this ▸ hz)
def spByN (CS CM : Addr) : Sp := fun vs H Q _ => ∃ t xs ps, vs = [.ref t] ∧ H t = some (.tup xs) ∧ Paired (PtAt CS CM H) xs ps ∧ (namesOf ps).Nodup ∧ ps.length ≤ 40 ∧ ∀ D H', Same H H' → BnAt CS CM H' D ps → Q (.ref D) H'
abbrev nByN : List Str := ["parts", "name", "before", "after"]
theorem scByN : FnScope nByN ["parts"] (defScope sByN) := ⟨rfl, rfl, rfl, by decide +kernel, rfl, by decide +kernel, by decide +kernel⟩
theorem okByN {k : Nat} (F : FnP K "_by_name" sByN f fd) : FnOk P w K mg base CX0 (k + 1) f fd ["parts"] (spByN CS CM) := by
  refine F.ok scByN (fun vs H Q E h => ?_) (fun cdv A outer s H vs Q E hr h => ?_)
  · obtain ⟨t, xs, ps, rfl, _⟩ := h
    rfl
  · obtain ⟨t, xs, ps, rfl, ht, hp, nd, l40, q⟩ := h
    have lx := hp.length
    refine ⟨_, PSs.nox (pss_one (ps_ret (pe_dc (own := [("name", 1), ("before", 2), ("after", 3)]) (g := gTup K 3 (gCons (gName 1) (gCons (gName 2) (gCons (gName 3) gNil)))) rfl scByN.nd (pi_tup (pv 0)) (blkOk_by (N := nByN) (sc := defScope sByN) (by decide +kernel))
      (fun _ _ _ _ _ => pg_tup rfl (pgs_cons (pg_name (i := 1) scByN.nd rfl (.inl rfl) (hf := .inr rfl)) (pgs_cons (pg_name (i := 2) scByN.nd rfl (.inl rfl) (hf := .inr rfl)) (pgs_cons (pg_name (i := 3) scByN.nd rfl (.inl rfl) (hf := .inr rfl)) pgs_nil)))) (fun _ _ _ _ _ => pts_nil) (fun _ _ _ _ _ => pv 1) (fun _ _ _ _ _ => pe_tup (pa_cons (pv 2) (pa_cons (pv 3) pa_nil)))))), ?_⟩
    refine ⟨.ref t, rfl, t, rfl, ⟨_, .inl (.inl ht)⟩, fun D hD => ?_⟩
    refine dcJ (n := ps.length) (vs := [1, 2, 3]) (fun i H' => Same H H' ∧ ∃ kvs, H' D = some (.dK kvs) ∧ Paired (BnE CS CM H H') kvs (ps.take i)) ⟨KS.sameUpd hD, [], upd_same, .nil⟩
      (fun i H' lt h => ⟨_, xs[i], .inl (.inl (h.1 _ _ ht)), List.getElem?_eq_getElem (by omega)⟩) (fun H' h => ⟨_, .inl (.inl (h.1 _ _ ht)), by omega⟩) (fun i H' x H1 lt h y => ?_) (fun H1 h => ?_)
    · obtain ⟨rfl, y⟩ := y
      obtain ⟨s1, kvs, eD, pk⟩ := h
      have ex := y _ (.inl (.inl (s1 _ _ ht)))
      obtain ⟨v, e1, u, vb, va, rfl, hu, hb, ha⟩ := pairAt hp (List.getElem?_eq_getElem lt)
      obtain rfl : V.ref u = x := Option.some.inj (e1.symm.trans ex)
      refine ⟨u, _, rfl, .inl (.inl (s1 _ _ hu)), rfl, .str ps[i].1, _, rfl, vb, _, rfl, va, _, rfl, rfl, rfl, ?_⟩
      unfold tYes
      dsimp only
      rw [if_pos rfl]
      refine ⟨.str ps[i].1, rfl, vb, rfl, va, rfl, (by show 2 ≤ sizeLine; decide), fun z hz => ?_⟩
      have sz := KS.sameUpd (o := .tup [vb, va]) hz
      have nzD : z ≠ D := fun e => by rw [e, eD] at hz; cases hz
      have lk := pk.length
      rw [List.length_take] at lk
      have nn : ps[i].1 ∉ namesOf (ps.take i) := by
        unfold namesOf
        rw [List.map_take]
        have lt' : i < (ps.map (·.1)).length := by rw [List.length_map]; exact lt
        have := notTake (show (ps.map (·.1)).Nodup from nd) lt'
        rw [List.getElem_map] at this
        exact this
      refine ⟨kvs, .inr ps[i].1, rfl, sz _ _ eD, by rw [sizeLine_eq]; omega, fun b o hb => ?_, kvs ++ [(.inr ps[i].1, .ref z)], by rw [upd_same, bnNew pk nn], ?_⟩
      · rw [upd_ne (ne_of_none hb hD)]
        exact sz _ _ (s1 _ _ hb)
      · rw [List.take_succ_eq_append_getElem lt]
        have tp : ∀ {c : Addr} {l : List V}, H1 c = some (.tup l) → (upd (upd H1 z (.tup [vb, va])) D (.dK (putK kvs (.inr ps[i].1) (.ref z)))) c = some (.tup l) := fun {c l} hc => by
          rw [upd_ne fun e => by rw [e, eD] at hc; cases hc]
          exact sz _ _ hc
        refine pairSnoc (L2.Paired.mapP pk fun kv q h => ?_) ⟨rfl, z, vb, va, rfl, by rw [upd_ne nzD]; exact upd_same, hb, ha⟩
        obtain ⟨e1, u2, vb2, va2, e2, hu2, hb2, ha2⟩ := h
        exact ⟨e1, u2, vb2, va2, e2, tp hu2, hb2, ha2⟩
    · obtain ⟨s1, kvs, eD, pk⟩ := h
      rw [List.take_length] at pk
      exact q D H1 s1 ⟨kvs, eD, L2.Paired.mapP pk fun _ _ h => h.mono (Stl.same s1) fun _ _ h _ => h⟩
end
end PJ

set_option Elab.async false
set_option linter.all false
set_option maxRecDepth 100000
set_option maxHeartbeats 8000000
/-! changes: + -/
namespace PJ
open PySem PySem.Spec PyProof.Rows L2 KS KS.La
open KX hiding sameUpd
def jnP : Option (Option Tg × Option Tg) → Option (Option Tg × Option Tg) → Option Tg × Option Tg
  | some p, some q => (p.1, q.2)
  | some p, none => p
  | none, some q => q
  | none, none => (none, none)
def clB : Option (Option Tg × Option Tg) → Option (Option Tg × Option Tg) → Bool
  | some p, some q => !oE q.1 p.2
  | _, _ => false
def keepP (n : Str) (p : Option Tg × Option Tg) : Option Prt := if oE p.1 p.2 = true then none else some (n, p.1, p.2)
def joinP (ps ps' : List Prt) (ys : List Str) : List Prt := ys.filterMap fun n => keepP n (jnP (pLook ps n) (pLook ps' n))
def clashP (ps ps' : List Prt) (ys : List Str) : Option Str := ys.find? fun n => clB (pLook ps n) (pLook ps' n)
theorem findAt {α : Type} {l : List α} {p : α → Bool} {i : Nat} (lt : i < l.length) (h : ∀ x ∈ l.take i, p x = false) (e : p l[i] = true) : l.find? p = some l[i] := by
  have sp : l = l.take i ++ l[i] :: l.drop (i + 1) := by rw [← List.drop_eq_getElem_cons lt, List.take_append_drop]
  have h1 : (l.take i).find? p = none := List.find?_eq_none.mpr fun x hx => by rw [h x hx]; exact Bool.false_ne_true
  conv => lhs; rw [sp]
  rw [List.find?_append, h1, Option.none_or, List.find?_cons, e]
theorem takeAll {α : Type} {l : List α} {p : α → Prop} {i : Nat} (lt : i < l.length) (h : ∀ x ∈ l.take i, p x) (e : p l[i]) : ∀ x ∈ l.take (i + 1), p x := fun x hx => by
  rw [List.take_succ_eq_append_getElem lt] at hx
  rcases List.mem_append.mp hx with hx | hx
  · exact h x hx
  · rw [List.mem_singleton.mp hx]
    exact e
theorem pLook_mem {ps : List Prt} {n : Str} (h : n ∈ namesOf ps) : pLook ps n ≠ none := by
  unfold pLook
  intro e
  rw [Option.map_eq_none_iff, List.find?_eq_none] at e
  obtain ⟨q, hq, rfl⟩ := List.mem_map.mp h
  exact e q hq (decide_eq_true rfl)
section
variable {P : Program} {w : World} {K : PySem.W.Frag} {mg : Str → Option Value} {base : Heap} {f : Addr} {fd : FuncData} {CS CM CP CC NT NS MM : Addr}
def spCAdd (K : PySem.W.Frag) (CS CM CC MM : Addr) : Sp := fun vs H Q E => ∃ c d ps ps', vs = [.ref c, .ref d] ∧ ChAt K CS CM CC H c ps ∧ ChAt K CS CM CC H d ps' ∧ (namesOf ps).Nodup ∧ (namesOf ps').Nodup ∧ ps.length ≤ 7 ∧ ps'.length ≤ 7 ∧
  ∀ ys, ys.Nodup → sortedS ys = true → (∀ z, z ∈ ys ↔ z ∈ namesOf ps ∨ z ∈ namesOf ps') →
    (clashP ps ps' ys = none → ∀ c' H', Same H H' → ChAt K CS CM CC H' c' (joinP ps ps' ys) → Q (.ref c') H') ∧ ∀ n, clashP ps ps' ys = some n → Nm MM n H E
abbrev nCAdd : List Str := ["self", "other", "firsts", "seconds", "parts", "name", "before", "after", "going_on"]
theorem scCAdd : FnScope nCAdd ["self", "other"] (defScope sCAdd) := ⟨rfl, rfl, rfl, by decide +kernel, rfl, by decide +kernel, by decide +kernel⟩
theorem okCAdd {k : Nat} (W : Pjc P w K mg base CS CM CP NT NS) (N : Pjn P w K mg base CS CM) (M : Pne K CS CM) (G : Chc P w K mg base CC MM)
    (aN : Has P w K mg base 1 "_by_name" ["parts"] (spByN CS CM)) (F : FnM K "__add__" "Change.__add__" sCAdd f fd) : FnOk P w K mg base (L2.CX P w) (k + 3) f fd ["self", "other"] (spCAdd K CS CM CC MM) := by
  obtain ⟨fN, dN, gN, kN, bN, GN⟩ := aN.ex
  obtain ⟨fI, dI, MI, bI, GI⟩ := G.mkC
  refine F.ok scCAdd (fun vs H Q E h => ?_) (fun cdv A outer s H vs Q E hr h => ?_)
  · obtain ⟨c, d, ps, ps', rfl, _⟩ := h
    rfl
  · obtain ⟨c, d, ps, ps', rfl, ⟨dc, t, xs, hc, ht, hp⟩, ⟨dd, t', xs', hd, ht', hp'⟩, nd, nd', l7, l7', q⟩ := h
    have r1 : Room 1 _ := hr.mono (by omega)
    have r2 : Room (1 + 1) _ := hr.mono (by omega)
    have hu1 : (A.deeper (envOfC "Change.__add__" (defScope sCAdd) s.heap.objs.size f cdv)).units + 1 < cLine := by
      have := hr.units
      omega
    refine ⟨_, (C8.pss_cut (ps_set (i := 2) scCAdd.nd rfl (.inl rfl) (pe_call GN r1 (by rfl) gN kN bN .nil pass0 (pa_cons (pe_fld (pv 0) rfl) pa_nil))) (C8.pss_cut (ps_set (i := 3) scCAdd.nd rfl (.inl rfl) (pe_call GN r1 (by rfl) gN kN bN .nil pass0 (pa_cons (pe_fld (pv 1) rfl) pa_nil))) (C8.pss_cut (ps_set (i := 4) scCAdd.nd rfl (.inl rfl) (pe_lst pa_nil)) (C8.pss_cut (ps_for (passes_of rfl) rfl (pi_list (pe_callB (r := SX.rSortX P w) (SX.cr_sortX rfl) (by rfl) W.ms (by decide +kernel) (pa_cons (pe_op (r := SX.rOr P w) SX.op_orX (pe_callTy (r := SX.rSetD P w) (T := "set") SX.cr_setD (by rfl) G.mset (by decide +kernel) (pa_cons (pv 2) pa_nil)) (pe_callTy (r := SX.rSetD P w) (T := "set") SX.cr_setD (by rfl) G.mset (by decide +kernel) (pa_cons (pv 3) pa_nil))) pa_nil))) (pg_name (i := 5) scCAdd.nd rfl (.inl rfl))
        (C8.pss_cut (ps_asg (pe_orT (pe_dget1 hu1 (pv 2) (pv 5) ⟨rfl, rfl, rfl, rfl⟩) (pe_one (pe_dget hu1 (pv 3) (pv 5) (fun _ _ => rfl)))) (pg_tup rfl (pgs_cons ((pg_name (i := 6) scCAdd.nd rfl (.inl rfl))) (pgs_cons ((pg_name (i := 7) scCAdd.nd rfl (.inl rfl))) pgs_nil)))) (C8.pss_cut (ps_if (PW.pt (pw_and (pt_cmp (pc_din hu1 (pv 5) (pv 2))) (pw_and1 (pt_cmp (pc_din hu1 (pv 5) (pv 3))))))
            (C8.pss_cut (ps_asg (pe_dget hu1 (pv 3) (pv 5) (fun _ _ => rfl)) (pg_tup rfl (pgs_cons ((pg_name (i := 8) scCAdd.nd rfl (.inl rfl))) (pgs_cons ((pg_name (i := 7) scCAdd.nd rfl (.inl rfl))) pgs_nil)))) (pss_one (ps_if (pt_cmpR (r := rNeOT CS CM) (op_neOT W N M r2) (pv 8) (pe_ix ix_tup (pe_dget hu1 (pv 2) (pv 5) (fun _ _ => rfl)) pe_int (fun _ _ => rfl)) (nomark _)) (pss_one (ps_raise rfl (takes_of rfl rfl rfl rfl) (pmkX G.xM (hr.mono (by omega)) (by rfl) (pa_cons (pv 5) pa_nil)))) pss_nil))) pss_nil) (pss_one (ps_if (pt_cmpR (r := rNeOT CS CM) (op_neOT W N M r2) (pv 6) (pv 7) (nomark _)) (pss_one (ps_expr (pe_bm PySem.F.plainAttrs_list PySem.F.slot_list_append PySem.F.type_list_append mt_append (pv 4) (pa_cons (pe_tup (pa_cons (pv 5) (pa_cons (pv 6) (pa_cons (pv 7) pa_nil)))) pa_nil)))) pss_nil))))) (pss_one (ps_ret (pe_make MI GI r2 (by rfl) G.gC bI .nil pass0 (pa_cons (pv 4) pa_nil)))))))), ?_⟩
    refine ⟨fun σ' H' => ∃ Fd, σ' = [some (.ref c), some (.ref d), some (.ref Fd), none, none, none, none, none, none] ∧ Same H H' ∧ BnAt CS CM H' Fd ps, ?_, ?_⟩
    · refine ⟨.ref c, rfl, c, CC, dc, _, .ref t, rfl, hc, G.iC.cl, G.nP, rfl, t, xs, ps, rfl, ht, hp, nd, by omega, fun D H' s1 h => ⟨D, rfl, s1, h⟩⟩
    rintro _ H1 ⟨Fs, rfl, s1, bF⟩
    refine ⟨fun σ' H' => ∃ Sd, σ' = [some (.ref c), some (.ref d), some (.ref Fs), some (.ref Sd), none, none, none, none, none] ∧ Same H H' ∧ BnAt CS CM H' Fs ps ∧ BnAt CS CM H' Sd ps', ?_, ?_⟩
    · refine ⟨.ref d, rfl, d, CC, dd, _, .ref t', rfl, s1 _ _ hd, G.iC.cl, G.nP, rfl, t', xs', ps', rfl, s1 _ _ ht', L2.Paired.mapP hp' fun _ _ h => h.stl (Stl.same s1), nd', by omega, fun D H' s2 h => ⟨D, rfl, s1.trans s2, bF.stl (Stl.same s2), h⟩⟩
    rintro _ H2 ⟨Sd, rfl, s2, bF, bS⟩
    refine ⟨fun σ' H' => ∃ L, σ' = [some (.ref c), some (.ref d), some (.ref Fs), some (.ref Sd), some (.ref L), none, none, none, none] ∧ Same H H' ∧ BnAt CS CM H' Fs ps ∧ BnAt CS CM H' Sd ps' ∧ H' L = some (.lst []) ∧ H L = none, ?_, ?_⟩
    · refine ⟨Nat.zero_le _, fun L hL => ⟨L, rfl, s2.trans (KS.sameUpd hL), bF.stl (Stl.same (KS.sameUpd hL)), bS.stl (Stl.same (KS.sameUpd hL)), upd_same, noneSame s2 hL⟩⟩
    rintro _ H3 ⟨L, rfl, s3, bF, bS, eL, nL⟩
    obtain ⟨kF, eF, pF⟩ := id bF
    obtain ⟨kS, eS, pS⟩ := id bS
    have lF : (namesOf ps).length ≤ 7 := by unfold namesOf; rw [List.length_map]; exact l7
    have lS : (namesOf ps').length ≤ 7 := by unfold namesOf; rw [List.length_map]; exact l7'
    refine ⟨fun σ' H' => ∃ x5 x6 x7 x8 ys ws, σ' = [some (.ref c), some (.ref d), some (.ref Fs), some (.ref Sd), some (.ref L), x5, x6, x7, x8] ∧ Same H H' ∧ H' L = some (.lst ws) ∧ ys.Nodup ∧ sortedS ys = true ∧ (∀ z, z ∈ ys ↔ z ∈ namesOf ps ∨ z ∈ namesOf ps') ∧ Paired (PtAt CS CM H') ws (joinP ps ps' ys) ∧ clashP ps ps' ys = none, ?_, ?_⟩
    · refine ⟨.ref Fs, rfl, Fs, kF, _, rfl, eF, bnKeys pF, by omega, fun a0 q0 nda0 ma0 la0 hq0 => ?_⟩
      have z0 := KS.sameUpd (o := SX.SetX P w q0 a0) hq0
      have e0 : upd H3 q0 (SX.SetX P w q0 a0) q0 = some (SX.SetX P w q0 a0) := upd_same
      generalize upd H3 q0 (SX.SetX P w q0 a0) = H4 at *
      refine ⟨.ref Sd, rfl, Sd, kS, _, rfl, z0 _ _ eS, bnKeys pS, by omega, fun a1 q1 nda1 ma1 la1 hq1 => ?_⟩
      have z1 := KS.sameUpd (o := SX.SetX P w q1 a1) hq1
      have e1 : upd H4 q1 (SX.SetX P w q1 a1) q1 = some (SX.SetX P w q1 a1) := upd_same
      generalize upd H4 q1 (SX.SetX P w q1 a1) = H5 at *
      refine ⟨q0, q1, a0, a1, rfl, rfl, z1 _ _ e0, e1, by omega, fun a2 q2 nda2 ma2 la2 hq2 => ?_⟩
      have z2 := KS.sameUpd (o := SX.SetX P w q2 a2) hq2
      have e2 : upd H5 q2 (SX.SetX P w q2 a2) q2 = some (SX.SetX P w q2 a2) := upd_same
      generalize upd H5 q2 (SX.SetX P w q2 a2) = H6 at *
      refine ⟨q2, a2, rfl, e2, by omega, fun ys pl pm srt hpl => ?_⟩
      have z3 := KS.sameUpd (o := .lst (ys.map V.str)) hpl
      have epl : upd H6 pl (.lst (ys.map V.str)) pl = some (.lst (ys.map V.str)) := upd_same
      have s36 := z0.trans (z1.trans z2)
      have nplL : pl ≠ L := fun z => by rw [z, s36 _ _ eL] at hpl; cases hpl
      generalize upd H6 pl (.lst (ys.map V.str)) = H7 at *
      have s37 := s36.trans z3
      have mem : ∀ z, z ∈ ys ↔ z ∈ namesOf ps ∨ z ∈ namesOf ps' := fun z => by rw [pm.mem_iff, ma2 z, ma0 z, ma1 z]
      have ndy : ys.Nodup := pm.nodup_iff.mpr nda2
      have ly : ys.length ≤ 14 := by rw [pm.length_eq]; omega
      refine ⟨pl, rfl, ⟨_, .inl (.inl epl)⟩, ?_⟩
      refine forJ (n := ys.length) (fun i σ' H' => ∃ x5 x6 x7 x8 ws, σ' = [some (.ref c), some (.ref d), some (.ref Fs), some (.ref Sd), some (.ref L), x5, x6, x7, x8] ∧ Same H H' ∧ BnAt CS CM H' Fs ps ∧ BnAt CS CM H' Sd ps' ∧ H' L = some (.lst ws) ∧ H' pl = some (.lst (ys.map V.str)) ∧ Paired (PtAt CS CM H') ws (joinP ps ps' (ys.take i)) ∧ ws.length ≤ i ∧ ∀ n ∈ ys.take i, clB (pLook ps n) (pLook ps' n) = false)
        ⟨none, none, none, none, [], rfl, s3.trans s37, bF.stl (Stl.same s37), bS.stl (Stl.same s37), s37 _ _ eL, epl, .nil, Nat.le_refl _, fun n hn => absurd hn (by simp)⟩
        (fun i σ' H' lt h => by obtain ⟨_, _, _, _, _, _, _, _, _, _, e, _⟩ := h; exact ⟨_, V.str ys[i], .inl (.inl e), by rw [List.getElem?_map, List.getElem?_eq_getElem lt]; rfl⟩)
        (fun σ' H' h => by obtain ⟨_, _, _, _, _, _, _, _, _, _, e, _⟩ := h; exact ⟨_, .inl (.inl e), by rw [List.length_map]; exact Nat.le_refl _⟩) (fun i σ' H0 x H8 lt h y => ?_) (fun σ' H' h => ?_)
      · obtain ⟨rfl, y⟩ := y
        obtain ⟨x5, x6, x7, x8, ws, rfl, s8, bF8, bS8, eL8, ep8, pw8, lw, al⟩ := h
        have ex := y _ (.inl (.inl ep8))
        rw [List.getElem?_map, List.getElem?_eq_getElem lt] at ex
        obtain rfl : V.str ys[i] = x := Option.some.inj ex
        have et : ys.take (i + 1) = ys.take i ++ [ys[i]] := List.take_succ_eq_append_getElem lt
        have hmem := (mem ys[i]).mp (List.getElem_mem lt)
        have qE := fun (e : clB (pLook ps ys[i]) (pLook ps' ys[i]) = true) => (q ys ndy srt mem).2 ys[i] (findAt lt al e)
        have alN := fun (e : clB (pLook ps ys[i]) (pLook ps' ys[i]) = false) => takeAll lt al e
        have jn : joinP ps ps' (ys.take (i + 1)) = joinP ps ps' (ys.take i) ++ (keepP ys[i] (jnP (pLook ps ys[i]) (pLook ps' ys[i]))).toList := by
          rw [et]
          unfold joinP
          rw [List.filterMap_append]
          refine congrArg _ ?_
          rw [List.filterMap_cons, List.filterMap_nil]
          cases keepP ys[i] (jnP (pLook ps ys[i]) (pLook ps' ys[i])) <;> rfl
        rw [jn]
        clear jn et
        generalize hn : ys[i] = n at *
        obtain ⟨kF, eF, pF⟩ := id bF8
        obtain ⟨kS, eS, pS⟩ := id bS8
        have lkF := bnLook n pF
        have lkS := bnLook n pS
        have mF := fun (h : n ∈ namesOf ps) => pLook_mem h
        have mS := fun (h : n ∈ namesOf ps') => pLook_mem h
        generalize pLook ps n = oF at *
        generalize pLook ps' n = oS at *
        have dF : ∀ {v}, valV kF (.inr n) = some v → DGet H8 Fs (.str n) (some v) := fun {v} e => by rw [← e]; exact DGet.k (k := Sum.inr n) eF
        have dS : ∀ {v}, valV kS (.inr n) = some v → DGet H8 Sd (.str n) (some v) := fun {v} e => by rw [← e]; exact DGet.k (k := Sum.inr n) eS
        -- what stands at the name
        refine ⟨fun σ' H' => ∃ vb va, σ' = [some (.ref c), some (.ref d), some (.ref Fs), some (.ref Sd), some (.ref L), some (.str n), some vb, some va, x8] ∧ H' = H8 ∧ (∀ p, oF = some p → OAt CS CM H8 vb p.1 ∧ OAt CS CM H8 va p.2) ∧ (oF = none → ∀ p, oS = some p → OAt CS CM H8 vb p.1 ∧ OAt CS CM H8 va p.2), ?_, ?_⟩
        · refine ⟨.ref Fs, rfl, Fs, rfl, .inl ⟨_, .inl eF⟩, .str n, rfl, _, DGet.k (k := Sum.inr n) eF, ?_⟩
          rcases lkF with ⟨e, e2⟩ | ⟨u, vb, va, b, a, e, e2, hu, hb, ha⟩
          · rw [e]
            rcases lkS with ⟨e3, e4⟩ | ⟨u, vb, va, b, a, e3, e4, hu, hb, ha⟩
            · rcases hmem with h | h
              · exact absurd e2 (mF h)
              · exact absurd e4 (mS h)
            · refine ⟨false, rfl, iteF ⟨.ref Sd, rfl, .str n, rfl, Sd, .ref u, rfl, dS e3, u, _, rfl, .inl (.inl hu), rfl, vb, _, rfl, va, _, rfl, rfl, vb, va, rfl, rfl, fun p hp => ?_, fun _ p hp => ?_⟩⟩
              · rw [e2] at hp; cases hp
              · rw [e4] at hp; cases hp
                exact ⟨hb, ha⟩
          · rw [e]
            refine ⟨true, .inr (.inl ⟨_, .inl (.inl hu), rfl⟩), iteT ⟨u, _, rfl, .inl (.inl hu), rfl, vb, _, rfl, va, _, rfl, rfl, vb, va, rfl, rfl, fun p hp => ?_, fun en => ?_⟩⟩
            · rw [e2] at hp; cases hp
              exact ⟨hb, ha⟩
            · rw [e2] at en; cases en
        rintro _ H8 ⟨vb, va, rfl, rfl, h1, h2⟩
        -- both ways
        refine ⟨fun σ' H' => ∃ va x8, σ' = [some (.ref c), some (.ref d), some (.ref Fs), some (.ref Sd), some (.ref L), some (.str n), some vb, some va, x8] ∧ H' = H8 ∧ OAt CS CM H8 vb (jnP oF oS).1 ∧ OAt CS CM H8 va (jnP oF oS).2 ∧ clB oF oS = false, ?_, ?_⟩
        · refine ⟨.str n, rfl, .ref Fs, rfl, Fs, _, rfl, DGet.k (k := Sum.inr n) eF, _, rfl, ?_⟩
          rcases lkF with ⟨e, e2⟩ | ⟨u, vb1, va1, b, a, e, e2, hu, hb, ha⟩
          · rw [e]
            rcases lkS with ⟨e3, e4⟩ | ⟨u, vb2, va2, b2, a2, e3, e4, hu, hb2, ha2⟩
            · rcases hmem with h | h
              · exact absurd e2 (mF h)
              · exact absurd e4 (mS h)
            · obtain ⟨g1, g2⟩ := h2 e2 _ e4
              refine iteF ⟨va, x8, rfl, rfl, ?_⟩
              rw [e2, e4]
              exact ⟨g1, g2, rfl⟩
          · obtain ⟨g1, g2⟩ := h1 _ e2
            rw [e]
            refine iteT ⟨.str n, rfl, .ref Sd, rfl, Sd, _, rfl, DGet.k (k := Sum.inr n) eS, _, rfl, ?_⟩
            rcases lkS with ⟨e3, e4⟩ | ⟨u2, vb2, va2, b2, a2, e3, e4, hu2, hb2, ha2⟩
            · rw [e3]
              refine iteF ⟨va, x8, rfl, rfl, ?_⟩
              rw [e2, e4]
              exact ⟨g1, g2, rfl⟩
            · rw [e3]
              refine iteT ⟨fun σ' H' => σ' = [some (.ref c), some (.ref d), some (.ref Fs), some (.ref Sd), some (.ref L), some (.str n), some vb, some va2, some vb2] ∧ H' = H8, ?_, ?_⟩
              · exact ⟨.ref Sd, rfl, .str n, rfl, Sd, .ref u2, rfl, dS e3, u2, _, rfl, .inl (.inl hu2), rfl, vb2, _, rfl, va2, _, rfl, rfl, rfl, rfl⟩
              rintro _ H8 ⟨rfl, rfl⟩
              refine ⟨vb2, rfl, .ref Fs, rfl, .str n, rfl, Fs, .ref u, rfl, dF e, u, _, 1, va1, rfl, rfl, .inl (.inl hu), atI_nat (j := 1) rfl, b2, a, hb2, ha, _, rfl, ?_⟩
              rw [e2, e4] at qE ⊢
              cases eo : oE b2 a with
              | false => exact iteT ⟨.str n, rfl, .str n, rfl, fun dz Hz sz hz => qE (by show (!oE b2 a) = true; rw [eo]; rfl) dz Hz (s8.trans sz) hz⟩
              | true => exact iteF ⟨va2, some vb2, rfl, rfl, g1, ha2, by show (!oE b2 a) = false; rw [eo]; rfl⟩
        rintro _ H8 ⟨va, x8, rfl, rfl, g1, g2, gc⟩
        have al' := alN gc
        generalize jnP oF oS = jp at *
        refine ⟨vb, rfl, va, rfl, _, _, g1, g2, _, rfl, ?_⟩
        cases eo : oE jp.1 jp.2 with
        | true =>
          refine iteF ⟨_, _, _, _, ws, rfl, s8, bF8, bS8, eL8, ep8, ?_, by omega, al'⟩
          unfold keepP
          rw [if_pos eo]
          rw [show (none : Option Prt).toList = [] from rfl, List.append_nil]
          exact pw8
        | false =>
          refine iteT ⟨.ref L, rfl, .inl ⟨rfl, _, .inl (.inl eL8)⟩, .str n, rfl, vb, rfl, va, rfl, (by show 3 ≤ sizeLine; decide), fun z hz => ?_⟩
          have sz := KS.sameUpd (o := .tup [.str n, vb, va]) hz
          have eL9 := sz _ _ eL8
          have kD : Kp L (upd H8 z (.tup [.str n, vb, va])) (upd (upd H8 z (.tup [.str n, vb, va])) L (.lst (ws ++ [.ref z]))) := Kp.put
          have st := (Stl.same sz).trans (Stl.lst eL9 kD)
          have nzL : z ≠ L := fun e => by rw [e, eL8] at hz; cases hz
          refine ⟨L, _, _, rfl, rfl, eL9, by rw [sizeLine_eq]; omega, ?_⟩
          refine ⟨_, _, _, _, ws ++ [.ref z], rfl, fun b o hb => ?_, bF8.stl st, bS8.stl st, upd_same, ?_, ?_, ?_, al'⟩
          · rw [upd_ne (ne_of_none hb nL)]
            exact sz _ _ (s8 _ _ hb)
          · rw [upd_ne nplL]
            exact sz _ _ ep8
          · unfold keepP
            rw [if_neg (by rw [eo]; exact Bool.false_ne_true)]
            exact pairSnoc (L2.Paired.mapP pw8 fun _ _ h => h.stl st) ⟨z, vb, va, rfl, by rw [upd_ne nzL]; exact upd_same, g1.stl st, g2.stl st⟩
          · rw [List.length_append]
            show ws.length + 1 ≤ i + 1
            omega
      · obtain ⟨x5, x6, x7, x8, ws, rfl, s8, bF8, bS8, eL8, ep8, pw8, lw, al⟩ := h
        rw [List.take_length] at pw8 al
        refine ⟨x5, x6, x7, x8, ys, ws, rfl, s8, eL8, ndy, srt, mem, pw8, ?_⟩
        unfold clashP
        rw [List.find?_eq_none]
        intro n hn
        rw [al n hn]
        exact Bool.false_ne_true
    rintro _ H4 ⟨x5, x6, x7, x8, ys, ws, rfl, s4, eL4, ndy, srt, mem, pw, cl⟩
    have q1 := (q ys ndy srt mem).1 cl
    refine ⟨.ref L, rfl, fun x dx hx hdx ne => ?_⟩
    exact chMade hx hdx ne (.inr eL4) pw fun H' s5 h => q1 x H' (s4.trans s5) h
end
end PJ

set_option Elab.async false
set_option linter.all false
set_option maxRecDepth 100000
set_option maxHeartbeats 8000000
/-! changes: between projects; a name of a change -/
namespace PJ
open PySem PySem.Spec PyProof.Rows L2 KS KS.La
open KX hiding sameUpd
theorem strIn (l : List Str) (k : Str) : inV (.str k) (l.map V.str) = decide (k ∈ l) := by
  unfold inV
  induction l with
  | nil => rfl
  | cons a l ih =>
    rw [List.map_cons, List.any_cons, ih]
    by_cases c : k = a
    · subst c
      have : eqV (.str k) (.str k) = true := by show (k == k) = true; simp
      rw [this]
      simp
    · have : eqV (.str a) (.str k) = false := by show (a == k) = false; rw [beq_eq_false_iff_ne]; exact fun z => c z.symm
      rw [this]
      simp [c]
theorem strFl (l : List Str) : (l.map V.str).all flatV = true := by
  rw [List.all_eq_true]
  intro v hv
  obtain ⟨k, _, rfl⟩ := List.mem_map.mp hv
  rfl
def dueP (T T' : Tb) (ys : List Str) : List Prt := ys.filterMap fun n => keepP n (tLook T n, tLook T' n)
theorem dueSnoc (T T' : Tb) {ys : List Str} {i : Nat} (lt : i < ys.length) : dueP T T' (ys.take (i + 1)) = dueP T T' (ys.take i) ++ (keepP ys[i] (tLook T ys[i], tLook T' ys[i])).toList := by
  rw [List.take_succ_eq_append_getElem lt]
  unfold dueP
  rw [List.filterMap_append]
  refine congrArg _ ?_
  rw [List.filterMap_cons, List.filterMap_nil]
  cases keepP ys[i] (tLook T ys[i], tLook T' ys[i]) <;> rfl
section
variable {P : Program} {w : World} {K : PySem.W.Frag} {mg : Str → Option Value} {base : Heap} {f : Addr} {fd : FuncData} {CS CM CP CC NT NS MM : Addr}
structure Cnm (P : Program) (w : World) (K : PySem.W.Frag) (mg : Str → Option Value) (base : Heap) (CS CM CC : Addr) : Prop where
  nam : ∃ (p g : Addr) (fd : FuncData), PropOf K CC "names" p g ∧ Binds K fd ["self"] [] ∧ FnOk P w K mg base CX0 1 g fd ["self"] (spCNames K CS CM CC)
def spCHas (K : PySem.W.Frag) (CS CM CC : Addr) : Sp := fun vs H Q _ => ∃ c ps z, vs = [.ref c, .str z] ∧ ChAt K CS CM CC H c ps ∧ ps.length ≤ 60 ∧ ∀ H', Same H H' → Q (.bl (decide (z ∈ namesOf ps))) H'
theorem scCHas : FnScope ["self", "x"] ["self", "x"] (defScope sCHas) := ⟨rfl, rfl, rfl, by decide +kernel, rfl, by decide +kernel, by decide +kernel⟩
theorem okCHas {k : Nat} (G : Chc P w K mg base CC MM) (J : Cnm P w K mg base CS CM CC) (F : FnM K "__contains__" "Change.__contains__" sCHas f fd) : FnOk P w K mg base CX0 (k + 3) f fd ["self", "x"] (spCHas K CS CM CC) := by
  obtain ⟨pN, gN, dN, hN, bN, GN⟩ := J.nam
  refine F.ok scCHas (fun vs H Q E h => ?_) (fun cdv A outer s H vs Q E hr h => ?_)
  · obtain ⟨c, ps, z, rfl, _⟩ := h
    rfl
  · obtain ⟨c, ps, z, rfl, ch, l60, q⟩ := h
    have r2 : Room (1 + 1) _ := hr.mono (by omega)
    refine ⟨_, PSs.nox (pss_one (ps_ret (pe_cmpR op_in_seq (pv 1) (pe_prop (pv 0) G.iC.cl hN GN r2 bN .nil pass0 rfl) (by rfl)))), ?_⟩
    obtain ⟨dc, t, vs, hc, ht, hp⟩ := id ch
    refine ⟨.str z, rfl, .ref c, rfl, c, dc, _, rfl, hc, c, ps, rfl, ch, l60, fun u H' s1 hu => ⟨u, _, rfl, .inr (.inl (.inl hu)), rfl, strFl _, ?_⟩⟩
    show Q (.bl (inV (.str z) ((namesOf ps).map V.str))) H'
    rw [strIn]
    exact q H' s1
/-- parts whose targets stood at H0 already -/
def PtAt2 (CS CM : Addr) (H0 H : Hp) (v : V) (q : Prt) : Prop := ∃ t vb va, v = .ref t ∧ H t = some (.tup [.str q.1, vb, va]) ∧ OAt CS CM H0 vb q.2.1 ∧ OAt CS CM H0 va q.2.2
theorem PtAt2.tp {H0 H H' : Hp} {v : V} {q : Prt} (h : PtAt2 CS CM H0 H v q) (s : ∀ u l, H u = some (.tup l) → H' u = some (.tup l)) : PtAt2 CS CM H0 H' v q := let ⟨t, vb, va, e, h, b, a⟩ := h; ⟨t, vb, va, e, s _ _ h, b, a⟩
def ChAt2 (CS CM CC : Addr) (H0 H : Hp) (c : Addr) (ps : List Prt) : Prop := ∃ dc t vs, H c = some (.ins CC dc [("_parts", .ref t)]) ∧ H t = some (.tup vs) ∧ Paired (PtAt2 CS CM H0 H) vs ps
theorem ChAt2.to {H0 H : Hp} {c : Addr} {ps : List Prt} (h : ChAt2 CS CM CC H0 H c ps) (s : Same H0 H) : ChAt K CS CM CC H c ps :=
  let ⟨dc, t, vs, a, b, p⟩ := h; ⟨dc, t, vs, a, b, L2.Paired.mapP p fun _ _ ⟨t, vb, va, e, h, b, a⟩ => ⟨t, vb, va, e, h, b.stl (Stl.same s), a.stl (Stl.same s)⟩⟩
theorem ChAt2.up {H0 H H' : Hp} {c : Addr} {ps : List Prt} (h : ChAt2 CS CM CC H0 H c ps) (s : ∀ b o, H b = some o → (∀ ks, o ≠ .dK ks) → (∀ xs, o ≠ .lst xs) → H' b = some o) : ChAt2 CS CM CC H0 H' c ps :=
  let ⟨dc, t, vs, a, b, p⟩ := h; ⟨dc, t, vs, s _ _ a (fun _ z => nomatch z) (fun _ z => nomatch z), s _ _ b (fun _ z => nomatch z) (fun _ z => nomatch z), L2.Paired.mapP p fun _ _ h => h.tp fun u l hu => s _ _ hu (fun _ z => nomatch z) fun _ z => nomatch z⟩
theorem chMade2 {H0 H : Hp} {x dx t : Addr} {xs : List V} {ps : List Prt} {R : Hp → Prop} {E : XK} (hx : H x = none) (hdx : H dx = none) (ne : dx ≠ x) (ht : H t = some (.lst xs)) (hp : Paired (PtAt2 CS CM H0 H) xs ps) (q : ∀ H', Same H H' → ChAt2 CS CM CC H0 H' x ps → R H') :
    spCInit K CC [.ref x, .ref t] (upd (upd H dx (.own x)) x (.ins CC dx [])) (fun v H2 => v = .non ∧ R H2) E := by
  have s1 : Same H (upd (upd H dx (.own x)) x (.ins CC dx [])) := fun b o hb => by
    rw [upd_ne (ne_of_none hb hx), upd_ne (ne_of_none hb hdx)]
    exact hb
  have s2 : ∀ {H'}, Kp x (upd (upd H dx (.own x)) x (.ins CC dx [])) H' → Same H H' := fun {H'} k b o hb => k _ _ (ne_of_none hb hx) (s1 _ _ hb)
  exact ⟨x, dx, t, xs, rfl, upd_same, .inr ⟨s1 _ _ ht, fun H' u k hu hs => ⟨rfl, q H' (s2 k) ⟨dx, u, xs, hs, hu, L2.Paired.mapP hp fun _ _ h => h.tp fun u l hu => s2 k _ _ hu⟩⟩⟩⟩
def spBtw (K : PySem.W.Frag) (CS CM CP CC : Addr) : Sp := fun vs H Q _ => ∃ p p2 T T' H0, vs = [.ref p, .ref p2] ∧ PjAt CS CM CP H0 p T ∧ PjAt CS CM CP H0 p2 T' ∧ Same H0 H ∧ T.length ≤ 7 ∧ T'.length ≤ 7 ∧
  ∀ ys, ys.Nodup → sortedS ys = true → (∀ z, z ∈ ys ↔ z ∈ T.map (·.1) ∨ z ∈ T'.map (·.1)) → ∀ c H', Same H H' → ChAt2 CS CM CC H0 H' c (dueP T T' ys) → Q (.ref c) H'
abbrev nBtw : List Str := ["project", "other", "names", "pairs", "name", "before", "after"]
theorem scBtw : FnScope nBtw ["project", "other"] (defScope sBtw) := ⟨rfl, rfl, rfl, by decide +kernel, rfl, by decide +kernel, by decide +kernel⟩
theorem okBtw {k : Nat} (W : Pjc P w K mg base CS CM CP NT NS) (N : Pjn P w K mg base CS CM) (M : Pne K CS CM) (A' : Pas P w K mg base CP NT) (G : Chc P w K mg base CC MM)
    (aT : Has P w K mg base 5 "_target_of" ["project", "name"] (spTOf CS CM CP)) (F : FnP K "change_between" sBtw f fd) : FnOk P w K mg base CX0 (k + 6) f fd ["project", "other"] (spBtw K CS CM CP CC) := by
  obtain ⟨fT, dT, gT, kT, bT, GT⟩ := aT.ex
  obtain ⟨fI, dI, MI, bI, GI⟩ := G.mkC
  obtain ⟨pN, gN, dN, hN, bN, GN⟩ := A'.nam
  refine F.ok scBtw (fun vs H Q E h => ?_) (fun cdv A outer s H vs Q E hr h => ?_)
  · obtain ⟨p, p2, T, T', H0, rfl, _⟩ := h
    rfl
  · obtain ⟨p, p2, T, T', H0, rfl, hP0, hP20, s00, l7, l7', q⟩ := h
    have hP := hP0.stl (Stl.same s00)
    have hP2 := hP20.stl (Stl.same s00)
    have r5 : Room 5 _ := hr.mono (by omega)
    have r2 : Room (1 + 1) _ := hr.mono (by omega)
    refine ⟨_, PSs.nox (C8.pss_cut (ps_set (i := 2) scBtw.nd rfl (.inl rfl) (pe_callB (r := SX.rSortX P w) (SX.cr_sortX rfl) (by rfl) W.ms (by decide +kernel) (pa_cons (pe_op (r := SX.rOr P w) SX.op_orX (pe_callTy (r := SX.rSetT P w K) (T := "set") (SX.cr_setT rfl) (by rfl) G.mset (by decide +kernel) (pa_cons (pe_prop (pv 0) W.iP.cl hN GN r2 bN .nil pass0 rfl) pa_nil)) (pe_callTy (r := SX.rSetT P w K) (T := "set") (SX.cr_setT rfl) (by rfl) G.mset (by decide +kernel) (pa_cons (pe_prop (pv 1) W.iP.cl hN GN r2 bN .nil pass0 rfl) pa_nil))) pa_nil))) (C8.pss_cut (ps_setLc (i := 3) (own := [("name", 4)]) (g := gName 4) (by rfl) scBtw.nd rfl rfl (sw_true rfl rfl (by decide +kernel) (by decide +kernel)) (pi_list (pv 2)) (blkOk_by (N := nBtw) (sc := defScope sBtw) (by decide +kernel))
        (fun _ _ _ _ _ => pg_name (i := 4) scBtw.nd rfl (.inl rfl) (hf := .inr rfl)) (fun _ _ _ _ _ => pts_nil) (fun _ _ _ _ _ => pe_tup (pa_cons (pv 4) (pa_cons (pe_call GT r5 (by rfl) gT kT bT .nil pass0 (pa_cons (pv 0) (pa_cons (pv 4) pa_nil))) (pa_cons (pe_call GT r5 (by rfl) gT kT bT .nil pass0 (pa_cons (pv 1) (pa_cons (pv 4) pa_nil))) pa_nil))))) (pss_one (ps_ret (pe_make MI GI r2 (by rfl) G.gC bI .nil pass0 (pa_cons (pe_lc (own := [("name", 4), ("before", 5), ("after", 6)]) (g := gTup K 3 (gCons (gName 4) (gCons (gName 5) (gCons (gName 6) gNil)))) rfl scBtw.nd (pi_list (pv 3)) (blkOk_by (N := nBtw) (sc := defScope sBtw) (by decide +kernel))
        (fun _ _ _ _ _ => pg_tup rfl (pgs_cons (pg_name (i := 4) scBtw.nd rfl (.inl rfl) (hf := .inr rfl)) (pgs_cons (pg_name (i := 5) scBtw.nd rfl (.inl rfl) (hf := .inr rfl)) (pgs_cons (pg_name (i := 6) scBtw.nd rfl (.inl rfl) (hf := .inr rfl)) pgs_nil)))) (fun _ _ _ _ _ => pts_one (pt_cmpR (r := rNeOT CS CM) (op_neOT W N M r2) (pv 5) (pv 6) (nomark _))) (fun _ _ _ _ _ => pe_tup (pa_cons (pv 4) (pa_cons (pv 5) (pa_cons (pv 6) pa_nil))))) pa_nil)))))), ?_⟩
    have nam : ∀ {p : Addr} {T : Tb} {H' : Hp}, PjAt CS CM CP H p T → Same H H' → T.length ≤ 7 → ∃ dp fs kvs, H' p = some (.ins CP dp fs) ∧ PrAt CP H' p kvs ∧ kvs.map (·.1) = ((T.map (·.1)).map Sum.inr : List Key) ∧ (T.map (·.1)).length < 64 := fun {p T H'} h s l => by
      obtain ⟨kvs, ⟨dp, Dp, a, b⟩, tb⟩ := h.stl (Stl.same s)
      exact ⟨dp, _, kvs, a, ⟨dp, Dp, a, b⟩, tb.keys, by rw [List.length_map]; omega⟩
    refine ⟨fun σ' H' => ∃ pl ys, σ' = [some (.ref p), some (.ref p2), some (.ref pl), none, none, none, none] ∧ Same H H' ∧ H' pl = some (.lst (ys.map V.str)) ∧ ys.Nodup ∧ sortedS ys = true ∧ (∀ z, z ∈ ys ↔ z ∈ T.map (·.1) ∨ z ∈ T'.map (·.1)) ∧ ys.length ≤ 14, ?_, ?_⟩
    · obtain ⟨dp, fs, kv0, i0, pr0, ke0, le0⟩ := nam hP (Same.refl _) l7
      refine ⟨.ref p, rfl, p, dp, fs, rfl, i0, p, kv0, _, rfl, pr0, ke0, le0, fun n0 t0 H4 pm0 so0 s4 et0 => ?_⟩
      have ln0 := pm0.length_eq
      rw [List.length_map] at ln0
      refine ⟨t0, n0, rfl, .inl (.inl et0), by omega, fun a0 q0 nda0 ma0 la0 hq0 => ?_⟩
      have s5 := s4.trans (KS.sameUpd (o := SX.SetX P w q0 a0) hq0)
      have e5 : upd H4 q0 (SX.SetX P w q0 a0) q0 = some (SX.SetX P w q0 a0) := upd_same
      generalize upd H4 q0 (SX.SetX P w q0 a0) = H5 at *
      obtain ⟨dp1, fs1, kv1, i1, pr1, ke1, le1⟩ := nam hP2 s5 l7'
      refine ⟨.ref p2, rfl, p2, dp1, fs1, rfl, i1, p2, kv1, _, rfl, pr1, ke1, le1, fun n1 t1 H6 pm1 so1 s6 et1 => ?_⟩
      have ln1 := pm1.length_eq
      rw [List.length_map] at ln1
      refine ⟨t1, n1, rfl, .inl (.inl et1), by omega, fun a1 q1 nda1 ma1 la1 hq1 => ?_⟩
      have s7 := s6.trans (KS.sameUpd (o := SX.SetX P w q1 a1) hq1)
      have e7 : upd H6 q1 (SX.SetX P w q1 a1) q1 = some (SX.SetX P w q1 a1) := upd_same
      generalize upd H6 q1 (SX.SetX P w q1 a1) = H7 at *
      refine ⟨q0, q1, a0, a1, rfl, rfl, s7 _ _ e5, e7, by omega, fun a2 q2 nda2 ma2 la2 hq2 => ?_⟩
      have s8 := s7.trans (KS.sameUpd (o := SX.SetX P w q2 a2) hq2)
      have e8 : upd H7 q2 (SX.SetX P w q2 a2) q2 = some (SX.SetX P w q2 a2) := upd_same
      generalize upd H7 q2 (SX.SetX P w q2 a2) = H8 at *
      refine ⟨q2, a2, rfl, e8, by omega, fun ys pl pm srt hpl => ?_⟩
      refine ⟨pl, ys, rfl, s5.trans (s8.trans (KS.sameUpd hpl)), upd_same, pm.nodup_iff.mpr nda2, srt, fun z => ?_, by rw [pm.length_eq]; omega⟩
      rw [pm.mem_iff, ma2 z, ma0 z, ma1 z, pm0.mem_iff, pm1.mem_iff]
    rintro _ H1 ⟨pl, ys, rfl, s1, epl, ndy, srt, mem, ly⟩
    refine ⟨fun σ' H' => ∃ W2 ws, σ' = [some (.ref p), some (.ref p2), some (.ref pl), some (.ref W2), none, none, none] ∧ Same H1 H' ∧ H' W2 = some (.lst ws) ∧ Paired (PtAt2 CS CM H0 H') ws (ys.map fun n => (n, tLook T n, tLook T' n)), ?_, ?_⟩
    · refine ⟨.ref pl, rfl, pl, rfl, ⟨_, .inl (.inl epl)⟩, fun D hD => ?_⟩
      refine lcJ (n := ys.length) (vs := [4]) (fun i H' => Same H1 H' ∧ ∃ ws, H' D = some (.lst ws) ∧ Paired (PtAt2 CS CM H0 H') ws ((ys.take i).map fun n => (n, tLook T n, tLook T' n))) ⟨KS.sameUpd hD, [], upd_same, .nil⟩
        (fun i H' lt h => ⟨_, V.str ys[i], .inl (.inl (h.1 _ _ epl)), by rw [List.getElem?_map, List.getElem?_eq_getElem lt]; rfl⟩) (fun H' h => ⟨_, .inl (.inl (h.1 _ _ epl)), by rw [List.length_map]; exact Nat.le_refl _⟩) (fun i H' x H2 lt h y => ?_) (fun H2 h => ?_)
      · obtain ⟨rfl, y⟩ := y
        obtain ⟨s2, ws, eD, pw⟩ := h
        have ex := y _ (.inl (.inl (s2 _ _ epl)))
        rw [List.getElem?_map, List.getElem?_eq_getElem lt] at ex
        obtain rfl : V.str ys[i] = x := Option.some.inj ex
        have sAB := s00.trans (s1.trans s2)
        refine ⟨rfl, ?_⟩
        unfold tYes
        dsimp only
        rw [if_pos rfl]
        refine ⟨.str ys[i], rfl, .ref p, rfl, .str ys[i], rfl, p, ys[i], T, H0, rfl, hP0, sAB, fun v hv => ⟨.ref p2, rfl, .str ys[i], rfl, p2, ys[i], T', H0, rfl, hP20, sAB, fun v2 hv2 => ⟨(by show 3 ≤ sizeLine; decide), fun z hz => ?_⟩⟩⟩
        have sz := KS.sameUpd (o := .tup [.str ys[i], v, v2]) hz
        have eD2 := sz _ _ eD
        have kD : Kp D (upd H2 z (.tup [.str ys[i], v, v2])) (upd (upd H2 z (.tup [.str ys[i], v, v2])) D (.lst (ws ++ [.ref z]))) := Kp.put
        have st := (Stl.same sz).trans (Stl.lst eD2 kD)
        have nzD : z ≠ D := fun e => by rw [e, eD] at hz; cases hz
        have lw := pw.length
        rw [List.length_map, List.length_take] at lw
        refine ⟨ws, eD2, by rw [sizeLine_eq]; omega, fun b o hb => ?_, ws ++ [.ref z], upd_same, ?_⟩
        · rw [upd_ne (ne_of_none hb hD)]
          exact sz _ _ (s2 _ _ hb)
        · rw [List.take_succ_eq_append_getElem lt, List.map_append]
          exact pairSnoc (L2.Paired.mapP pw fun _ _ h => h.tp fun u l hu => st _ _ hu fun _ z => nomatch z) ⟨z, v, v2, rfl, by rw [upd_ne nzD]; exact upd_same, hv, hv2⟩
      · obtain ⟨s2, ws, eD, pw⟩ := h
        rw [List.take_length] at pw
        exact ⟨D, ws, rfl, s2, eD, pw⟩
    rintro _ H2 ⟨W2, ws, rfl, s2, eW, pw⟩
    have lw := pw.length
    rw [List.length_map] at lw
    refine ⟨.ref W2, rfl, W2, rfl, ⟨_, .inl (.inl eW)⟩, fun D hD => ?_⟩
    refine lcJ (n := ys.length) (vs := [4, 5, 6]) (fun i H' => Same H2 H' ∧ ∃ zs, H' D = some (.lst zs) ∧ zs.length ≤ i ∧ Paired (PtAt2 CS CM H0 H') zs (dueP T T' (ys.take i))) ⟨KS.sameUpd hD, [], upd_same, Nat.le_refl _, .nil⟩
      (fun i H' lt h => ⟨_, ws[i], .inl (.inl (h.1 _ _ eW)), List.getElem?_eq_getElem (by omega)⟩) (fun H' h => ⟨_, .inl (.inl (h.1 _ _ eW)), by omega⟩) (fun i H' x H3 lt h y => ?_) (fun H3 h => ?_)
    · obtain ⟨rfl, y⟩ := y
      obtain ⟨s3, zs, eD, lz, pz⟩ := h
      have ex := y _ (.inl (.inl (s3 _ _ eW)))
      obtain ⟨v, e1, u, vb, va, rfl, hu, hb, ha⟩ := pairAt pw (show (ys.map fun n => (n, tLook T n, tLook T' n))[i]? = some (ys[i], tLook T ys[i], tLook T' ys[i]) by rw [List.getElem?_map, List.getElem?_eq_getElem lt]; rfl)
      obtain rfl : V.ref u = x := Option.some.inj (e1.symm.trans ex)
      have s03 := s00.trans (s1.trans (s2.trans s3))
      have hb3 := hb.stl (Stl.same s03)
      have ha3 := ha.stl (Stl.same s03)
      refine ⟨u, _, rfl, .inl (.inl (s3 _ _ hu)), rfl, .str ys[i], _, rfl, vb, _, rfl, va, _, rfl, rfl, rfl, ?_⟩
      rw [dueSnoc T T' lt]
      refine ⟨vb, rfl, va, rfl, _, _, hb3, ha3, _, rfl, ?_⟩
      unfold keepP
      simp only
      cases eo : oE (tLook T ys[i]) (tLook T' ys[i]) with
      | true =>
        rw [if_neg (by simp), if_pos rfl]
        rw [show (none : Option Prt).toList = [] from rfl, List.append_nil]
        exact ⟨s3, zs, eD, by omega, pz⟩
      | false =>
        rw [if_pos (by simp), if_neg (by simp)]
        refine ⟨.str ys[i], rfl, vb, rfl, va, rfl, (by show 3 ≤ sizeLine; decide), fun z hz => ?_⟩
        have sz := KS.sameUpd (o := .tup [.str ys[i], vb, va]) hz
        have eD2 := sz _ _ eD
        have kD : Kp D (upd H3 z (.tup [.str ys[i], vb, va])) (upd (upd H3 z (.tup [.str ys[i], vb, va])) D (.lst (zs ++ [.ref z]))) := Kp.put
        have st := (Stl.same sz).trans (Stl.lst eD2 kD)
        have nzD : z ≠ D := fun e => by rw [e, eD] at hz; cases hz
        refine ⟨zs, eD2, by rw [sizeLine_eq]; omega, fun b o hb => ?_, zs ++ [.ref z], upd_same, ?_, ?_⟩
        · rw [upd_ne (ne_of_none hb hD)]
          exact sz _ _ (s3 _ _ hb)
        · rw [List.length_append]
          show zs.length + 1 ≤ i + 1
          omega
        · exact pairSnoc (L2.Paired.mapP pz fun _ _ h => h.tp fun u l hu => st _ _ hu fun _ z => nomatch z) ⟨z, vb, va, rfl, by rw [upd_ne nzD]; exact upd_same, hb, ha⟩
    · obtain ⟨s3, zs, eD, lz, pz⟩ := h
      rw [List.take_length] at pz
      refine fun x dx hx hdx ne => ?_
      exact chMade2 hx hdx ne eD pz fun H' s4 h => q ys ndy srt mem x H' (s1.trans (s2.trans (s3.trans s4))) h
end
end PJ

set_option Elab.async false
set_option linter.all false
set_option maxRecDepth 100000
set_option maxHeartbeats 4000000
/-! != of told values -/
namespace PySem.SeqAt
open AutoSeq1 (wpAny_loadPart')
open MeetsSeq MeetsSeq2 MeetsSeq3 SeqRoads2
section
variable {prog : Program} {w : World}
theorem tupNeCmp (l b : Addr) (p q : Array Value) (n m : Nat) (d1 d2 : Option Addr) (sl1 sl2 : Array (Option Value)) :
    MeetsIn prog w (Builtin.«tuple.__ne__» ⟨[.ref l, .ref b], []⟩)
      (fun A R s => s.heap.get? l = some { cls := .type "tuple", dict := d1, data := .seq p n, slots := sl1 } ∧ s.heap.get? b = some { cls := .type "tuple", dict := d2, data := .seq q m, slots := sl2 } ∧
        ∃ c, Cmp prog w A.in1 s (p.toList.zip q.toList) c ∧ R (.ok (.ret (.bool (!(c && p.size == q.size))))) s) :=
  .of_wp fun A R s0 h => by
    obtain ⟨g1, g2, c0, hc, hR⟩ := h
    obtain ⟨hp, g, d, tk, os⟩ := s0
    have sub := AutoSeq1.sub_tuple_tuple
    wp_walk using wpAny_loadPart' g1, wpAny_loadPart' g2, wpAny_forIn_list _ (fun rest z s' => z.1 = none ∧ s' = ⟨hp, g, d, tk, os⟩ ∧ ∃ c, Cmp prog w A.in1 ⟨hp, g, d, tk, os⟩ rest c ∧ R (.ok (.ret (.bool (!(c && p.size == q.size))))) ⟨hp, g, d, tk, os⟩) _
    case turn =>
      rintro ⟨x, y⟩ rest z s' ⟨_, rfl, c, hc, hR⟩
      obtain ⟨a, b, rfl, hxy, hr⟩ := hc.inv
      refine wpAny_bind (hxy _ _ ?_)
      cases a with
      | false =>
        wp_walk
        exact ⟨_, rfl, hR⟩
      | true =>
        wp_walk
        exact ⟨rfl, rfl, b, hr rfl, hR⟩
    case fin =>
      rintro ⟨z1, z2⟩ s' ⟨hz, rfl, c, hc, hR⟩
      cases hc
      have e : z1 = none := hz
      subst e
      wp_walk
      have hR2 : R (.ok (.ret (.bool (!(p.size == q.size))))) ⟨hp, g, d, tk, os⟩ := by simpa using hR
      exact ⟨_, rfl, hR2⟩
    case h =>
      exact ⟨rfl, rfl, c0, hc, hR⟩
theorem rcNeCmp {A : Around} {s : Shared} {l b : Addr} {p q : Array Value} {c : Bool} (h1 : s.heap.IsTuple l p) (h2 : s.heap.IsTuple b q) (hu : A.units < cLine) (hc : Cmp prog w A.in1 s (p.toList.zip q.toList) c)
    (E Q : Value → Shared → Prop) (k : Q (.bool (!(c && p.size == q.size))) s) : wpAny (model prog w) A (richCompare .NotEq (.ref l) (.ref b)) Q E s := by
  obtain ⟨⟨_, d1, _, sl1⟩, o1, e1, n, e2⟩ := h1
  obtain ⟨⟨_, d2, _, sl2⟩, o2, e3, m, e4⟩ := h2
  simp only at e1 e2 e3 e4
  subst e1 e2 e3 e4
  have t1 : s.TypeIs (.ref l) "tuple" := ⟨_, o1, rfl⟩
  have t2 : s.TypeIs (.ref b) "tuple" := ⟨_, o2, rfl⟩
  refine wpAny_richCompare_same_room (op := .NotEq) t1 t2 F.slot_tuple_ne (call_meetsIn F.slot_tuple_ne t1 F.entry_tuple_ne (F.args_tuple_ne_2 _ _) (tupNeCmp l b p q n m d1 d2 sl1 sl2) ⟨o1, o2, c, hc, ?_⟩) hu
  exact ⟨(fun z => nomatch z), k⟩
end
end PySem.SeqAt
namespace ET
open PySem PySem.Spec PyProof.Rows L2
section
variable {X : Cx}
def rNeE (K : PySem.W.Frag) : R2 := fun x y H Q => ∃ c, Et K H x y c ∧ Q (.bl (!c)) H
theorem op_neE (hu : X.A.units + 100 < cLine) : OpR X (compareOp .NotEq) (rNeE X.K) := by
  intro pins s σ H x y v u Q I rx ry h
  obtain ⟨c, h, q⟩ := h
  have fin : EP X pins σ Q (.bool (!c)) s := ⟨.bl (!c), H, I, rfl, q⟩
  show wpAny (model X.prog X.w) X.A (richCompare .NotEq v u) (EP X pins σ Q) X.xe s
  rcases h with ⟨rfl, rfl, rfl⟩ | ⟨rfl, ⟨b, ys, rfl, hb⟩, rfl⟩ | ⟨⟨a, xs, rfl, ha⟩, rfl, rfl⟩ | ⟨a, b, xs, ys, e, rfl, rfl, ha, hb, hs, hp, hc⟩
  · exact op_ne pins s σ H .non .non v u Q I rx ry ⟨rfl, q⟩
  · cases rx; cases ry
    obtain ⟨us, _, p, _⟩ := I.tuple hb
    exact SeqAt.RcNeAt.none_tuple p (by omega) _ _ _ _ fin
  · cases rx; cases ry
    obtain ⟨us, _, p, _⟩ := I.tuple ha
    exact SeqAt.RcNeAt.tuple_none p (by omega) _ _ _ _ fin
  · cases (show v = Value.ref a from rx)
    cases (show u = Value.ref b from ry)
    obtain ⟨us, r1, p1, -⟩ := I.tuple ha
    obtain ⟨ws, r2, p2, -⟩ := I.tuple hb
    have ih := DB.eb_run I 1 X.A.in1 (by show X.A.units + 1 + 1 + 70 < cLine; omega)
    subst hc
    refine SeqAt.rcNeCmp (c := e) p1 p2 (by omega) ?_ _ _ ?_
    · show SeqAt.Cmp X.prog X.w X.A.in1 s (us.zip ws) e
      clear p1 p2 ha hb q hs fin
      induction hp generalizing us ws with
      | nilL => cases r1; exact .nil
      | nilR => cases r2; rw [List.zip_nil_right]; exact .nil
      | cons h _ k =>
        cases r1 with
        | cons a1 b1 =>
          cases r2 with
          | cons a2 b2 => exact .cons (ih _ _ _ _ _ h a1 a2) fun z => k z _ b1 _ b2
    · rw [List.size_toArray, List.size_toArray, ← r1.length, ← r2.length]
      exact fin
end
end ET

set_option Elab.async false
set_option linter.all false
set_option maxRecDepth 100000
set_option maxHeartbeats 8000000
/-! the law's parts -/
namespace PJ
open PySem PySem.Spec PyProof.Rows L2 KS KS.La
open KX hiding sameUpd
abbrev lDue : Stmt := top 31
abbrev lHand : Stmt := top 32
theorem Tab.get {H : Hp} {kvs : List (Key × V)} {T : Tb} (h : Tab (ToAt H) kvs T) (nm : Str) : ToO H ((valV kvs (.inr nm)).getD .non) (tLook T nm) := by
  rcases h.look nm with ⟨e, e2⟩ | ⟨v, t, e, e2, ht⟩
  · rw [e, e2]; rfl
  · rw [e, e2]; exact ht
theorem tabV {R : V → Tg → Prop} {kvs : List (Key × V)} {T : Tb} (h : Tab R kvs T) : (kvs.map fun kv => kV kv.1) = (T.map (·.1)).map V.str := by
  induction h with
  | nil => rfl
  | cons _ _ ih => rw [List.map_cons, List.map_cons, List.map_cons, ih]; rfl
def TpAt (H : Hp) (v : V) (q : Prt) : Prop := ∃ t vb va, v = .ref t ∧ H t = some (.tup [.str q.1, vb, va]) ∧ ToO H vb q.2.1 ∧ ToO H va q.2.2
theorem TpAt.stl {H H' : Hp} {v : V} {q : Prt} (h : TpAt H v q) (s : Stl H H') : TpAt H' v q := let ⟨t, vb, va, e, h, b, a⟩ := h; ⟨t, vb, va, e, s _ _ h (fun _ z => nomatch z), b.stl s, a.stl s⟩
def LpAt (H : Hp) (L : Addr) (ps : List Prt) : Prop := ∃ xs, H L = some (.lst xs) ∧ Paired (TpAt H) xs ps
theorem LpAt.same {H H' : Hp} {L : Addr} {ps : List Prt} (h : LpAt H L ps) (s : Same H H') : LpAt H' L ps := let ⟨xs, e, p⟩ := h; ⟨xs, s _ _ e, L2.Paired.mapP p fun _ _ h => h.stl (Stl.same s)⟩
section
variable {P : Program} {w : World} {K : PySem.W.Frag} {mg : Str → Option Value} {base : Heap} {f : Addr} {fd : FuncData} {CS CM CP CC NT NS MM : Addr}
def spDue : Sp := fun vs H Q _ => ∃ d d' T T', vs = [.ref d, .ref d'] ∧ KtAt H d T ∧ KtAt H d' T' ∧ T.length ≤ 7 ∧ T'.length ≤ 7 ∧
  ∀ ys, ys.Nodup → sortedS ys = true → (∀ z, z ∈ ys ↔ z ∈ T.map (·.1) ∨ z ∈ T'.map (·.1)) → ∀ L H', Same H H' → H L = none → LpAt H' L (dueP T T' ys) → Q (.ref L) H'
abbrev nDue : List Str := ["_law_before", "_law_after", "_law_found", "_law_name"]
theorem scDue : FnScope nDue ["_law_before", "_law_after"] (defScope lDue) := ⟨rfl, rfl, rfl, by decide +kernel, rfl, by decide +kernel, by decide +kernel⟩
theorem okDue {k : Nat} (B : Bn mg) (ms : mg "sorted" = none) (F : FnP K "_law_parts_due" lDue f fd) : FnOk P w K mg base CX0 (k + 1) f fd ["_law_before", "_law_after"] spDue := by
  refine F.ok scDue (fun vs H Q E h => ?_) (fun cdv A outer s H vs Q E hr h => ?_)
  · obtain ⟨d, d', T, T', rfl, _⟩ := h
    rfl
  · obtain ⟨d, d', T, T', rfl, ⟨kv0, e0, t0⟩, ⟨kv1, e1, t1⟩, l7, l7', q⟩ := h
    have hu1 : (A.deeper (envOfC "_law_parts_due" (defScope lDue) s.heap.objs.size f cdv)).units + 1 < cLine := by
      have := hr.units
      omega
    have hu2 := DB.un100 hr
    refine ⟨_, PSs.nox (C8.pss_cut (ps_set (i := 2) scDue.nd rfl (.inl rfl) (pe_lst pa_nil)) (C8.pss_cut (ps_for PassesOwn.never rfl (pi_list (pe_callB (r := SX.rSortX P w) (SX.cr_sortX rfl) (by rfl) ms (by decide +kernel) (pa_cons (pe_callTy (r := SX.rSetL P w K) (T := "set") (SX.cr_setL rfl) (by rfl) B.set (by decide +kernel)
            (pa_cons (pe_op op_cat (pe_callTy (T := "list") (call_listD rfl) (by rfl) B.list (by decide +kernel) (pa_cons (pv 0) pa_nil)) (pe_callTy (T := "list") (call_listD rfl) (by rfl) B.list (by decide +kernel) (pa_cons (pv 1) pa_nil))) pa_nil)) pa_nil))) (pg_name (i := 3) scDue.nd rfl (.inl rfl))
        (pss_one (ps_if (pt_cmpR (r := ET.rNeE K) (ET.op_neE hu2) (pe_dget1 hu1 (pv 0) (pv 3) ⟨rfl, rfl, rfl, rfl⟩) (pe_dget1 hu1 (pv 1) (pv 3) ⟨rfl, rfl, rfl, rfl⟩) (nomark _))
            (pss_one (ps_expr (pe_bm PySem.F.plainAttrs_list PySem.F.slot_list_append PySem.F.type_list_append mt_append (pv 2) (pa_cons (pe_tup (pa_cons (pv 3) (pa_cons (pe_dget1 hu1 (pv 0) (pv 3) ⟨rfl, rfl, rfl, rfl⟩) (pa_cons (pe_dget1 hu1 (pv 1) (pv 3) ⟨rfl, rfl, rfl, rfl⟩) pa_nil)))) pa_nil)))) pss_nil))) (pss_one (ps_ret (pv 2))))), ?_⟩
    refine ⟨fun σ' H' => ∃ L, σ' = [some (.ref d), some (.ref d'), some (.ref L), none] ∧ Same H H' ∧ H' L = some (.lst []) ∧ H L = none, ?_, ?_⟩
    · exact ⟨Nat.zero_le _, fun L hL => ⟨L, rfl, KS.sameUpd hL, upd_same, hL⟩⟩
    rintro _ H1 ⟨L, rfl, s1, eL, nL⟩
    refine ⟨fun σ' H' => ∃ x3 ys, σ' = [some (.ref d), some (.ref d'), some (.ref L), x3] ∧ Same H H' ∧ LpAt H' L (dueP T T' ys) ∧ ys.Nodup ∧ sortedS ys = true ∧ (∀ z, z ∈ ys ↔ z ∈ T.map (·.1) ∨ z ∈ T'.map (·.1)), ?_, ?_⟩
    · have g0 := t0.len
      have g1 := t1.len
      refine ⟨.ref d, rfl, d, kv0, rfl, .inl (s1 _ _ e0), fun p1 n1 => ?_⟩
      have z1 := KS.sameUpd (o := .lst (kv0.map fun kv => kV kv.1)) n1
      refine ⟨.ref d', rfl, d', kv1, rfl, .inl (z1 _ _ (s1 _ _ e1)), fun p2 n2 => ?_⟩
      have z2 := KS.sameUpd (o := .lst (kv1.map fun kv => kV kv.1)) n2
      refine ⟨p1, p2, _, _, rfl, rfl, z2 _ _ upd_same, upd_same, by simp only [List.length_map]; rw [sizeLine_eq]; omega, fun p3 n3 => ?_⟩
      have z3 := KS.sameUpd (o := .lst ((kv0.map fun kv => kV kv.1) ++ (kv1.map fun kv => kV kv.1))) n3
      have zz := z1.trans (z2.trans z3)
      have ks : ((kv0.map fun kv => kV kv.1) ++ (kv1.map fun kv => kV kv.1)) = (T.map (·.1) ++ T'.map (·.1)).map V.str := by
        rw [tabV t0, tabV t1, List.map_append]
      rw [ks] at zz ⊢
      refine ⟨p3, T.map (·.1) ++ T'.map (·.1), rfl, .inl (.inl upd_same), by simp only [List.length_map, List.length_append]; omega, fun l6 q6 nd6 m6 le6 hq6 => ?_⟩
      have z6 := zz.trans (KS.sameUpd (o := SX.SetX P w q6 l6) hq6)
      have l14 : l6.length ≤ 14 := by
        rw [List.length_append, List.length_map, List.length_map] at le6
        omega
      refine ⟨q6, l6, rfl, upd_same, by omega, fun ys pl pm srt hpl => ?_⟩
      have z7 := z6.trans (KS.sameUpd (o := .lst (ys.map V.str)) hpl)
      have npL : pl ≠ L := fun z => by rw [z, z6 _ _ eL] at hpl; cases hpl
      have ndy : ys.Nodup := pm.nodup_iff.mpr nd6
      have mem : ∀ z, z ∈ ys ↔ z ∈ T.map (·.1) ∨ z ∈ T'.map (·.1) := fun z => by rw [pm.mem_iff, m6 z, List.mem_append]
      have ly : ys.length ≤ 14 := by rw [pm.length_eq]; exact l14
      generalize hH2 : upd _ pl (.lst (ys.map V.str)) = H2 at *
      have epl : H2 pl = some (.lst (ys.map V.str)) := by rw [← hH2]; exact upd_same
      clear hH2
      have s2 := s1.trans z7
      refine ⟨pl, rfl, ⟨_, .inl (.inl epl)⟩, ?_⟩
      refine forJ (n := ys.length) (fun i σ' H' => ∃ x3 ws, σ' = [some (.ref d), some (.ref d'), some (.ref L), x3] ∧ Same H H' ∧ H' pl = some (.lst (ys.map V.str)) ∧ H' L = some (.lst ws) ∧ ws.length ≤ i ∧ Paired (TpAt H') ws (dueP T T' (ys.take i)))
        ⟨none, [], rfl, s2, epl, z7 _ _ eL, Nat.le_refl _, .nil⟩
        (fun i σ' H' lt h => by obtain ⟨_, _, _, _, e, _⟩ := h; exact ⟨_, V.str ys[i], .inl (.inl e), by rw [List.getElem?_map, List.getElem?_eq_getElem lt]; rfl⟩)
        (fun σ' H' h => by obtain ⟨_, _, _, _, e, _⟩ := h; exact ⟨_, .inl (.inl e), by rw [List.length_map]; exact Nat.le_refl _⟩) (fun i σ' H0 x H3 lt h y => ?_) (fun σ' H' h => ?_)
      · obtain ⟨rfl, y⟩ := y
        obtain ⟨x3, ws, rfl, s3, ep3, eL3, lw, pw⟩ := h
        have ex := y _ (.inl (.inl ep3))
        rw [List.getElem?_map, List.getElem?_eq_getElem lt] at ex
        obtain rfl : V.str ys[i] = x := Option.some.inj ex
        rw [dueSnoc T T' lt]
        generalize ys[i] = n at *
        have hb := (t0.get n).stl (Stl.same s3)
        have ha := (t1.get n).stl (Stl.same s3)
        refine ⟨.ref d, rfl, d, rfl, .inl ⟨_, .inl (s3 _ _ e0)⟩, .str n, rfl, _, DGet.k (k := Sum.inr n) (s3 _ _ e0), .ref d', rfl, d', rfl, .inl ⟨_, .inl (s3 _ _ e1)⟩, .str n, rfl, _, DGet.k (k := Sum.inr n) (s3 _ _ e1), _, toO_et hb ha, _, rfl, ?_⟩
        unfold keepP
        simp only
        cases eo : oE (tLook T n) (tLook T' n) with
        | true =>
          rw [if_pos rfl]
          rw [show (none : Option Prt).toList = [] from rfl, List.append_nil]
          exact iteF ⟨_, ws, rfl, s3, ep3, eL3, by omega, pw⟩
        | false =>
          rw [if_neg (show ¬ (false = true) from Bool.false_ne_true)]
          refine iteT ⟨.ref L, rfl, .inl ⟨rfl, _, .inl (.inl eL3)⟩, .str n, rfl, .ref d, rfl, d, rfl, .inl ⟨_, .inl (s3 _ _ e0)⟩, .str n, rfl, _, DGet.k (k := Sum.inr n) (s3 _ _ e0), .ref d', rfl, d', rfl, .inl ⟨_, .inl (s3 _ _ e1)⟩, .str n, rfl, _, DGet.k (k := Sum.inr n) (s3 _ _ e1), (by show 3 ≤ sizeLine; decide), fun z hz => ?_⟩
          generalize (valV kv0 (.inr n)).getD .non = vb at *
          generalize (valV kv1 (.inr n)).getD .non = va at *
          have sz := KS.sameUpd (o := .tup [.str n, vb, va]) hz
          have eL4 := sz _ _ eL3
          have kD : Kp L (upd H3 z (.tup [.str n, vb, va])) (upd (upd H3 z (.tup [.str n, vb, va])) L (.lst (ws ++ [.ref z]))) := Kp.put
          have st := (Stl.same sz).trans (Stl.lst eL4 kD)
          have nzL : z ≠ L := fun e => by rw [e, eL3] at hz; cases hz
          refine ⟨L, _, _, rfl, rfl, eL4, by rw [sizeLine_eq]; omega, ?_⟩
          refine ⟨_, ws ++ [.ref z], rfl, fun b o hb => ?_, ?_, upd_same, ?_, ?_⟩
          · rw [upd_ne (ne_of_none hb nL)]
            exact sz _ _ (s3 _ _ hb)
          · rw [upd_ne npL]
            exact sz _ _ ep3
          · rw [List.length_append]
            show ws.length + 1 ≤ i + 1
            omega
          · exact pairSnoc (L2.Paired.mapP pw fun _ _ h => h.stl st) ⟨z, vb, va, rfl, by rw [upd_ne nzL]; exact upd_same, hb.stl st, ha.stl st⟩
      · obtain ⟨x3, ws, rfl, s3, ep3, eL3, lw, pw⟩ := h
        rw [List.take_length] at pw
        exact ⟨x3, ys, rfl, s3, ⟨ws, eL3, pw⟩, ndy, srt, mem⟩
    rintro _ H2 ⟨x3, ys, rfl, s2, lp, ndy, srt, mem⟩
    exact ⟨.ref L, rfl, q ys ndy srt mem L H2 s2 nL lp⟩
end
end PJ

set_option Elab.async false
set_option linter.all false
set_option maxRecDepth 100000
set_option maxHeartbeats 8000000
/-! parts as they are handed over -/
namespace PJ
open PySem PySem.Spec PyProof.Rows L2 KS KS.La
open KX hiding sameUpd
section
variable {P : Program} {w : World} {K : PySem.W.Frag} {mg : Str → Option Value} {base : Heap} {f : Addr} {fd : FuncData} {CS CM CP CC NT NS MM : Addr}
def spOneO (CS CM : Addr) : Sp := fun vs H Q _ => ∃ v o, vs = [v] ∧ ToO H v o ∧ ∀ r H', Same H H' → OAt CS CM H' r o → Q r H'
theorem okOneO {k : Nat} {e : Addr} (W : Pjc P w K mg base CS CM CP NT NS) (M : Mdc P w K mg base CM e) (F : FnP K "_law_one" lOne f fd) : FnOk P w K mg base CX0 (k + 3) f fd ["_law_told"] (spOneO CS CM) := by
  obtain ⟨fI, dI, MI, bI, GI⟩ := W.mkS
  obtain ⟨fJ, dJ, MJ, _, bJ, GJ⟩ := M.mak
  refine F.ok scOne (fun vs H Q E h => ?_) (fun cdv A outer s H vs Q E hr h => ?_)
  · obtain ⟨v, t, rfl, _⟩ := h
    rfl
  · obtain ⟨v, o, rfl, hv, q⟩ := h
    have hr2 : Room (1 + 1) _ := hr.mono (by omega)
    refine ⟨_, PSs.nox (pss_cons (ps_if (pt_cmp (pc_isN (pv 0))) (pss_one (ps_ret pe_non)) pss_nil) (pss_one (ps_ret (pe_ifExp (pt_cmpR op_eq (pe_ix ix_tup (pv 0) pe_int (fun _ _ => rfl)) pe_str (nomark _)) (pe_make MI GI hr2 (by rfl) W.gS bI .nil pass0 (pa_cons (pe_ix ix_tup (pv 0) pe_int (fun _ _ => rfl)) pa_nil))
      (pe_make MJ GJ hr2 (by rfl) W.gM bJ .nil pass0 (pa_cons (pe_ix ix_tup (pv 0) pe_int (fun _ _ => rfl)) (pa_cons (pe_ix ix_tup (pv 0) pe_int (fun _ _ => rfl)) pa_nil))))))), ?_⟩
    cases o with
    | none =>
      obtain rfl : v = .non := hv
      exact ⟨.non, rfl, true, rfl, iteT (q .non H (Same.refl _) rfl)⟩
    | some t =>
      cases t with
      | src os =>
        obtain ⟨t, d, rfl, ht, ho⟩ := hv
        refine ⟨.ref t, rfl, false, rfl, iteF ⟨.ref t, rfl, t, _, 0, .str "source", rfl, rfl, .inl (.inl ht), rfl, rfl, _, rfl, ?_⟩⟩
        rw [wSS]
        refine iteT ⟨.ref t, rfl, t, _, 1, .ref d, rfl, rfl, .inl (.inl ht), rfl, fun x dx hx hdx nex => ?_⟩
        exact srcMade (CM := CM) hx hdx nex ho fun H' s2 h => q _ H' s2 h
      | mad r as =>
        obtain ⟨t, vr, va, rfl, ht, hr', ha⟩ := hv
        obtain ⟨u, rfl, _⟩ := id ha
        refine ⟨.ref t, rfl, false, rfl, iteF ⟨.ref t, rfl, t, _, 0, .str "made", rfl, rfl, .inl (.inl ht), rfl, rfl, _, rfl, ?_⟩⟩
        rw [wMS]
        refine iteF ⟨.ref t, rfl, t, _, 1, vr, rfl, rfl, .inl (.inl ht), rfl, .ref t, rfl, t, _, 2, .ref u, rfl, rfl, .inl (.inl ht), rfl, fun x dx hx hdx nex => ?_⟩
        exact madMade (CS := CS) hx hdx nex hr' ha fun H' s2 h => q _ H' s2 h
def spHand (CS CM : Addr) : Sp := fun vs H Q _ => ∃ a L ps, vs = [.ref a, .ref L] ∧ Fd H a ∧ LpAt H L ps ∧ ps.length ≤ 40 ∧ ∀ t xs H', Kp a H H' → Fd H' a → H t = none → (H' t = some (.tup xs) ∨ H' t = some (.lst xs)) → Paired (PtAt CS CM H') xs ps → Q (.ref t) H'
abbrev nHand : List Str := ["_law_feed", "_law_parts", "_law_found", "_law_name", "_law_before", "_law_after"]
theorem scHand : FnScope nHand ["_law_feed", "_law_parts"] (defScope lHand) := ⟨rfl, rfl, rfl, by decide +kernel, rfl, by decide +kernel, by decide +kernel⟩
theorem okHand {k : Nat} (B : Bn mg) (aO : Has P w K mg base 3 "_law_one" ["_law_told"] (spOneO CS CM)) (aD : Has P w K mg base 1 "_law_draw" ["_law_feed", "_law_many"] spDraw) (F : FnP K "_law_handed" lHand f fd) : FnOk P w K mg base CX0 (k + 4) f fd ["_law_feed", "_law_parts"] (spHand CS CM) := by
  obtain ⟨fO, dO, gO, kO, bO, GO⟩ := aO.ex
  obtain ⟨fD, dD, gD, kD, bD, GD⟩ := aD.ex
  refine F.ok scHand (fun vs H Q E h => ?_) (fun cdv A outer s H vs Q E hr h => ?_)
  · obtain ⟨a, L, ps, rfl, _⟩ := h
    rfl
  · obtain ⟨a, L, ps, rfl, hF, ⟨xs, eL, hp⟩, l40, q⟩ := h
    have r3 : Room 3 _ := hr.mono (by omega)
    have r1 : Room 1 _ := hr.mono (by omega)
    have lx := hp.length
    refine ⟨_, PSs.nox (C8.pss_cut (ps_setLc (i := 2) (own := [("_law_name", 3), ("_law_before", 4), ("_law_after", 5)]) (g := gTup K 3 (gCons (gName 3) (gCons (gName 4) (gCons (gName 5) gNil)))) (by rfl) scHand.nd rfl rfl (sw_true rfl rfl (by decide +kernel) (by decide +kernel)) (pi_list (pv 1)) (blkOk_by (N := nHand) (sc := defScope lHand) (by decide +kernel))
        (fun _ _ _ _ _ => pg_tup rfl (pgs_cons (pg_name (i := 3) scHand.nd rfl (.inl rfl) (hf := .inr rfl)) (pgs_cons (pg_name (i := 4) scHand.nd rfl (.inl rfl) (hf := .inr rfl)) (pgs_cons (pg_name (i := 5) scHand.nd rfl (.inl rfl) (hf := .inr rfl)) pgs_nil)))) (fun _ _ _ _ _ => pts_nil) (fun _ _ _ _ _ => pe_tup (pa_cons (pv 3) (pa_cons (pe_call GO r3 (by rfl) gO kO bO .nil pass0 (pa_cons (pv 4) pa_nil)) (pa_cons (pe_call GO r3 (by rfl) gO kO bO .nil pass0 (pa_cons (pv 5) pa_nil)) pa_nil))))) (pss_one (ps_ret (pe_ifExp (pt_cmpR op_eq (pe_call GD r1 (by rfl) gD kD bD .nil pass0 (pa_cons (pv 0) (pa_cons (pe_int) pa_nil))) pe_int (nomark _)) (pv 2) (pe_callTy (T := "tuple") call_tuple_of (by rfl) B.tuple (by decide +kernel) (pa_cons (pv 2) pa_nil)))))), ?_⟩
    refine ⟨fun σ' H' => ∃ W2 ws, σ' = [some (.ref a), some (.ref L), some (.ref W2), none, none, none] ∧ Same H H' ∧ H' W2 = some (.lst ws) ∧ H W2 = none ∧ Paired (PtAt CS CM H') ws ps, ?_, ?_⟩
    · refine ⟨.ref L, rfl, L, rfl, ⟨_, .inl (.inl eL)⟩, fun D hD => ?_⟩
      refine lcJ (n := ps.length) (vs := [3, 4, 5]) (fun i H' => Same H H' ∧ ∃ ws, H' D = some (.lst ws) ∧ Paired (PtAt CS CM H') ws (ps.take i)) ⟨KS.sameUpd hD, [], upd_same, .nil⟩
        (fun i H' lt h => ⟨_, xs[i], .inl (.inl (h.1 _ _ eL)), List.getElem?_eq_getElem (by omega)⟩) (fun H' h => ⟨_, .inl (.inl (h.1 _ _ eL)), by omega⟩) (fun i H' x H2 lt h y => ?_) (fun H2 h => ?_)
      · obtain ⟨rfl, y⟩ := y
        obtain ⟨s2, ws, eD, pw⟩ := h
        have ex := y _ (.inl (.inl (s2 _ _ eL)))
        obtain ⟨v, e1, u, vb, va, rfl, hu, hb, ha⟩ := pairAt hp (List.getElem?_eq_getElem lt)
        obtain rfl : V.ref u = x := Option.some.inj (e1.symm.trans ex)
        refine ⟨u, _, rfl, .inl (.inl (s2 _ _ hu)), rfl, .str ps[i].1, _, rfl, vb, _, rfl, va, _, rfl, rfl, rfl, ?_⟩
        unfold tYes
        dsimp only
        rw [if_pos rfl]
        have hb2 := hb.stl (Stl.same s2)
        have ha2 := ha.stl (Stl.same s2)
        refine ⟨.str ps[i].1, rfl, vb, rfl, vb, _, rfl, hb2, fun rb H3 s3 ob => ⟨va, rfl, va, _, rfl, ha2.stl (Stl.same s3), fun ra H4 s4 oa => ⟨(by show 3 ≤ sizeLine; decide), fun z hz => ?_⟩⟩⟩
        have sz := KS.sameUpd (o := .tup [.str ps[i].1, rb, ra]) hz
        have s24 := s3.trans (s4.trans sz)
        have eD2 := s24 _ _ eD
        have kD' : Kp D (upd H4 z (.tup [.str ps[i].1, rb, ra])) (upd (upd H4 z (.tup [.str ps[i].1, rb, ra])) D (.lst (ws ++ [.ref z]))) := Kp.put
        have st := Stl.lst eD2 kD'
        have nzD : z ≠ D := fun e => by rw [e, s4 _ _ (s3 _ _ eD)] at hz; cases hz
        have lw := pw.length
        rw [List.length_take] at lw
        refine ⟨ws, eD2, by rw [sizeLine_eq]; omega, fun b o hb => ?_, ws ++ [.ref z], upd_same, ?_⟩
        · rw [upd_ne (ne_of_none hb hD)]
          exact s24 _ _ (s2 _ _ hb)
        · rw [List.take_succ_eq_append_getElem lt]
          exact pairSnoc (L2.Paired.mapP pw fun _ _ h => (h.stl (Stl.same s24)).stl st) ⟨z, rb, ra, rfl, by rw [upd_ne nzD]; exact upd_same, ((ob.stl (Stl.same s4)).stl (Stl.same sz)).stl st, (oa.stl (Stl.same sz)).stl st⟩
      · obtain ⟨s2, ws, eD, pw⟩ := h
        rw [List.take_length] at pw
        exact ⟨D, ws, rfl, s2, eD, hD, pw⟩
    rintro _ H1 ⟨W2, ws, rfl, s1, eW, nW, pw⟩
    have F1 := hF.same s1
    have nWa : W2 ≠ a := fdNe hF nW
    refine ⟨.ref a, rfl, a, 2, rfl, F1, by decide, by decide, fun r H2 r0 r1' k2 F2 => ⟨rfl, _, rfl, ite2 (fun e => ?_) (fun e => ?_)⟩⟩
    · exact ⟨.ref W2, rfl, q W2 ws H2 ((Kp.same s1).trans k2) F2 nW (.inr (k2 _ _ nWa eW)) (L2.Paired.mapP pw fun _ _ h => h.stl (Stl.fd F1 k2))⟩
    · refine ⟨.ref W2, rfl, W2, ws, rfl, .inl ⟨.inl (.inl (k2 _ _ nWa eW)), fun u hu => ?_⟩⟩
      have su := KS.sameUpd (o := .tup ws) hu
      have nu : H u = none := kpNone hF ((Kp.same s1).trans k2) F2 hu
      exact q u ws _ (((Kp.same s1).trans k2).trans (Kp.same su)) (F2.same su) nu (.inl upd_same) (L2.Paired.mapP pw fun _ _ h => (h.stl (Stl.fd F1 k2)).stl (Stl.same su))
end
end PJ

set_option Elab.async false
set_option linter.all false
set_option maxRecDepth 100000
set_option maxHeartbeats 8000000
/-! isinstance of the caught error -/
namespace PJ
open PySem PySem.Spec PyProof.Rows L2 KX
/-- isinstance(e, c), e the error that the suite holds, with its dict -/
def rIsD (K : PySem.W.Frag) (a : Addr) (cls : Value) (d : Option Addr) : List V → Hp → VK → Prop := fun xs H Q => ∃ (D : Addr) (c : V) (cv : Value) (b : Bool) (dd : Addr) (fs : List (Str × V)), xs = [.ref a, c] ∧ cls = .ref D ∧ d = some dd ∧ H dd = some (.xd fs) ∧ XC K D ∧ ClsV c cv ∧ PySem.W.kitOne K (.ref D) cv = some b ∧ Q (.bl b) H
theorem callIsD {X : Cx} {a : Addr} {oe : Obj} {pn : List (Addr × Obj)} {cls : Value} {d : Option Addr} (hz : Zc cls d oe) (hf : ∃ vs, oe.data = .fields vs) : CallR (X.suite a ((a, oe) :: pn)) (.builtin "isinstance") (rIsD X.K a cls d) := by
  intro pins s σ H xs us Q I r h
  obtain ⟨D, c, cv, b, dd, fs, rfl, rfl, rfl, hdd, T, hc, ans, q⟩ := h
  obtain ⟨u1, u2, rfl, r1, r2⟩ := vals2 r
  have e2 := hc.eq r2
  subst e2
  cases (show u1 = Value.ref a from r1)
  obtain ⟨hget, _⟩ := I.pin (a, oe) (List.mem_append.mpr (.inl List.mem_cons_self))
  obtain ⟨vs, hv⟩ := hf
  have hx : ObjOk X.prog X.w H s.heap dd (.xd fs) := I.hok dd _ hdd
  obtain ⟨mA, hns, hr⟩ := hx
  obtain ⟨od, ho, hl⟩ := lookIn_ns hns
  have J : PySem.W.InstAt s.heap a oe D (some od) := ⟨hget, hz.1, by unfold PySem.W.notCls; rw [hv] <;> rfl, by rw [hz.2]; exact ho⟩
  have hcl : (PySem.W.clsIn X.K D).isSome = true := by
    obtain ⟨cd, hcd, _⟩ := PySem.W.any_some T.hd
    rw [hcd]
    rfl
  exact PySem.W.kia_one (PySem.W.kitx_exc hcl T.ga T.gg T.ex T.cl T.gt T.st T.ob) I.kIn J ans (fun z => nomatch z) fun tk => ⟨.bl b, H, I.tok tk, rfl, q⟩
end PJ

set_option Elab.async false
set_option linter.all false
set_option maxRecDepth 100000
set_option maxHeartbeats 8000000
/-! the law's try of a change; of a sum -/
namespace PJ
open PySem PySem.Spec PyProof.Rows L2 KS KS.La
open KX hiding sameUpd
abbrev lDone : Stmt := top 33
abbrev lSum : Stmt := top 36
section
variable {P : Program} {w : World} {K : PySem.W.Frag} {mg : Str → Option Value} {base : Heap} {f : Addr} {fd : FuncData} {CS CM CP CC NT NS MM BE : Addr}
/-- what the law asks of changes -/
structure Chl (P : Program) (w : World) (K : PySem.W.Frag) (mg : Str → Option Value) (base : Heap) (CS CM CP CC MM BE : Addr) : Prop where
  eMM : PySem.W.exmOne K (.ref MM) (.ref MM) = some true
  gBE : mg "BuildError" = some (.ref BE)
  kBE : PySem.W.kitOne K (.ref MM) (.ref BE) = some true
  call : ∃ (f : Addr) (fd : FuncData), StX.CallO K CC f ∧ Binds K fd ["self", "project"] [] ∧ FnOk P w K mg base (L2.CX P w) 6 f fd ["self", "project"] (spCCall K CS CM CP CC MM)
  add : ∃ (f : Addr) (fd : FuncData), PySem.W.findIn K (.ref CC) (PySem.dunder Operator.Add.info.2) = some (some (.ref f)) ∧ PySem.W.isFn K (.ref f) = true ∧ Binds K fd ["self", "other"] [] ∧ FnOk P w K mg base (L2.CX P w) 3 f fd ["self", "other"] (spCAdd K CS CM CC MM)
  sf : PySem.W.selfFirst K CC = true
def spDone (K : PySem.W.Frag) (CS CM CP CC : Addr) : Sp := fun vs H Q _ => ∃ c p ps T, vs = [.ref c, .ref p] ∧ ChAt K CS CM CC H c ps ∧ PjAt CS CM CP H p T ∧ PsOk ps ∧ T.length ≤ 40 ∧
  (badP ps T = none → ∀ u p' H', Same H H' → H' u = some (.tup [.str "done", .ref p']) → PjAt CS CM CP H' p' (chT T ps) → Q (.ref u) H') ∧ ∀ n, badP ps T = some n → ∀ u H', Same H H' → H' u = some (.tup [.str "mismatch", .str n, .bl true]) → Q (.ref u) H'
abbrev nDone : List Str := ["_law_change", "_law_project", "_law_found", "e"]
theorem scDone : FnScope nDone ["_law_change", "_law_project"] (defScope lDone) := ⟨rfl, rfl, rfl, by decide +kernel, rfl, by decide +kernel, by decide +kernel⟩
theorem okDone {k : Nat} (B : Bn mg) (G : Chc P w K mg base CC MM) (L : Chl P w K mg base CS CM CP CC MM BE) (F : FnP K "_law_done" lDone f fd) : FnOk P w K mg base CX0 (k + 7) f fd ["_law_change", "_law_project"] (spDone K CS CM CP CC) := by
  obtain ⟨fC, dC, cC, bC, GC⟩ := L.call
  have xf : XfC K MM := ⟨G.xM.xc.ga, G.xM.xc.gg, G.xM.xc.ex, G.xM.xc.hd⟩
  refine F.ok scDone (fun vs H Q E h => ?_) (fun cdv A outer s H vs Q E hr h => ?_)
  · obtain ⟨c, p, ps, T, rfl, _⟩ := h
    rfl
  · obtain ⟨c, p, ps, T, rfl, ch, pj, ok, lT, q1, q2⟩ := h
    have r6 : Room 6 _ := hr.mono (by omega)
    refine ⟨_, PSs.nox (C8.pss_cut (ps_set (i := 2) scDone.nd rfl (.inl rfl) (pe_tup (pa_cons (pe_str) pa_nil))) (C8.pss_cut (psTryMix rfl rfl takes0
        (fun W' pn xe tk _ => (pss_one (ps_set (i := 2) scDone.nd rfl (.inl rfl) (pe_tup (pa_cons (pe_str) (pa_cons (CW.pe_callT (pv 0) cC GC r6 bC (fun σ => passAt tk σ) (pa_cons (pv 1) pa_nil)) pa_nil))))))
        (.named (i := 3) ⟨rfl, by decide, .inl G.xM.gm⟩ scDone.nd rfl rfl (fun a oe cls d pn hz hf => (pss_one (ps_set (i := 2) scDone.nd rfl (.inl rfl) (pe_tup (pa_cons (pe_str) (pa_cons (pe_xf xf G.xM.no hz hf (pv 3)) (pa_cons (pe_callB (callIsD hz hf) (by rfl) B.isi (by decide +kernel) (pa_cons (pv 3) (pa_cons (pe_glob (v := .ref BE) (by rfl) L.gBE rfl) pa_nil))) pa_nil))))))) .nil)) (pss_one (ps_ret (pv 2))))), ?_⟩
    refine ⟨fun σ' H' => ∃ u, σ' = [some (.ref c), some (.ref p), some (.ref u), none] ∧ Same H H', ?_, ?_⟩
    · exact ⟨(by show 1 ≤ sizeLine; decide), fun u hu => ⟨u, rfl, KS.sameUpd hu⟩⟩
    rintro _ H1 ⟨u0, rfl, s1⟩
    have ch1 := ch.stl (Stl.same s1)
    obtain ⟨dc, t, vs, hc, _⟩ := id ch1
    refine ⟨fun σ' H' => ∃ u x3, σ' = [some (.ref c), some (.ref p), some (.ref u), x3] ∧ Q (.ref u) H', ?_, ?_⟩
    · refine ⟨.ref c, rfl, c, rfl, .ref p, rfl, ⟨dc, _, hc⟩, c, p, ps, T, rfl, ch1, pj.stl (Stl.same s1), ok, lT, fun e p' H2 s2 pj2 => ⟨(by show 2 ≤ sizeLine; decide), fun u hu => ?_⟩, fun n e dd H2 s2 hd => ⟨true, L.eMM, fun _ a0 na => ?_, fun z => Bool.noConfusion z⟩⟩
      · have su := KS.sameUpd (o := .tup [.str "done", .ref p']) hu
        exact ⟨u, _, rfl, q1 e u p' _ (s1.trans (s2.trans su)) upd_same (pj2.stl (Stl.same su))⟩
      · refine ⟨.ref a0, rfl, rfl, rfl, dd, _, .str n, rfl, hd, rfl, .ref a0, rfl, MM, .ref BE, .ref BE, true, dd, _, rfl, rfl, rfl, hd, G.xM.xc, .own BE, L.kBE, (by show 3 ≤ sizeLine; decide), fun u hu => ?_⟩
        exact ⟨u, _, rfl, q2 n e u _ (s1.trans (s2.trans (KS.sameUpd hu))) upd_same⟩
    rintro _ H2 ⟨u, x3, rfl, q⟩
    exact ⟨.ref u, rfl, q⟩
def spSum (K : PySem.W.Frag) (CS CM CC : Addr) : Sp := fun vs H Q _ => ∃ c d ps ps', vs = [.ref c, .ref d] ∧ ChAt K CS CM CC H c ps ∧ ChAt K CS CM CC H d ps' ∧ (namesOf ps).Nodup ∧ (namesOf ps').Nodup ∧ ps.length ≤ 7 ∧ ps'.length ≤ 7 ∧
  ∀ ys, ys.Nodup → sortedS ys = true → (∀ z, z ∈ ys ↔ z ∈ namesOf ps ∨ z ∈ namesOf ps') →
    (clashP ps ps' ys = none → ∀ c' H', Same H H' → ChAt K CS CM CC H' c' (joinP ps ps' ys) → Q (.ref c') H') ∧ ∀ n, clashP ps ps' ys = some n → ∀ H', Same H H' → Q (.str n) H'
abbrev nSum : List Str := ["_law_one_here", "_law_other", "_law_found", "e"]
theorem scSum : FnScope nSum ["_law_one_here", "_law_other"] (defScope lSum) := ⟨rfl, rfl, rfl, by decide +kernel, rfl, by decide +kernel, by decide +kernel⟩
theorem okSum {k : Nat} (G : Chc P w K mg base CC MM) (L : Chl P w K mg base CS CM CP CC MM BE) (F : FnP K "_law_summed" lSum f fd) : FnOk P w K mg base CX0 (k + 4) f fd ["_law_one_here", "_law_other"] (spSum K CS CM CC) := by
  obtain ⟨fA, dA, hA1, hA2, bA, GA⟩ := L.add
  have xf : XfC K MM := ⟨G.xM.xc.ga, G.xM.xc.gg, G.xM.xc.ex, G.xM.xc.hd⟩
  refine F.ok scSum (fun vs H Q E h => ?_) (fun cdv A outer s H vs Q E hr h => ?_)
  · obtain ⟨c, d, ps, ps', rfl, _⟩ := h
    rfl
  · obtain ⟨c, d, ps, ps', rfl, ch, ch', nd, nd', l7, l7', q⟩ := h
    have r3 : Room 3 _ := hr.mono (by omega)
    obtain ⟨dc, t, vs, hc, _⟩ := id ch
    obtain ⟨dd, t', vs', hd', _⟩ := id ch'
    refine ⟨_, PSs.nox (pss_cons (ps_set (i := 2) scSum.nd rfl (.inl rfl) pe_non) (C8.pss_cut (psTryMix rfl rfl takes0
        (fun W' pn xe tk _ => (pss_one (ps_set (i := 2) scSum.nd rfl (.inl rfl) (CW.pe_binT (pv 0) (pv 1) GA r3 bA hA1 hA2 L.sf (fun σ => passAt tk σ)))))
        (.named (i := 3) ⟨rfl, by decide, .inl G.xM.gm⟩ scSum.nd rfl rfl (fun a oe cls d pn hz hf => (pss_one (ps_set (i := 2) scSum.nd rfl (.inl rfl) (pe_xf xf G.xM.no hz hf (pv 3))))) .nil)) (pss_one (ps_ret (pv 2))))), ?_⟩
    refine ⟨fun σ' H' => ∃ v x3, σ' = [some (.ref c), some (.ref d), some v, x3] ∧ Q v H', ?_, ?_⟩
    · refine ⟨.ref c, rfl, .ref d, rfl, c, d, dc, _, dd, _, rfl, rfl, hc, hd', c, d, ps, ps', rfl, ch, ch', nd, nd', l7, l7', fun ys ndy srt mem => ?_⟩
      obtain ⟨q1, q2⟩ := q ys ndy srt mem
      refine ⟨fun e c' H' s1 h => ⟨c', rfl, .ref c', none, rfl, q1 e c' H' s1 h⟩, fun n e dz Hz sz hz => ⟨true, L.eMM, fun _ a0 na => ?_, fun z => Bool.noConfusion z⟩⟩
      exact ⟨.ref a0, rfl, rfl, rfl, dz, _, .str n, rfl, hz, rfl, .str n, _, rfl, q2 n e _ sz⟩
    rintro _ H2 ⟨v, x3, rfl, q⟩
    exact ⟨v, rfl, q⟩
end
end PJ

set_option Elab.async false
set_option linter.all false
set_option maxRecDepth 100000
set_option maxHeartbeats 16000000
/-! does a change what its parts say? -/
namespace PJ
open PySem PySem.Spec PyProof.Rows L2 KS KS.La
open KX hiding sameUpd
abbrev lIsD : Stmt := top 34
theorem TgAt.tgv {K : PySem.W.Frag} {CS CM : Addr} {H : Hp} {v : V} {t : Tg} (h : TgAt CS CM H v t) : TgV t := by
  cases t with
  | src os => obtain ⟨_, _, _, _, _, ho⟩ := h; exact ho.2.1
  | mad r as => obtain ⟨_, _, _, _, _, _, hr, ha⟩ := h; exact ⟨(hr.dp (K := K)).2, (ha.dp (K := K)).2⟩
theorem ToAt.tgv {K : PySem.W.Frag} {H : Hp} {v : V} {t : Tg} (h : ToAt H v t) : TgV t := by
  cases t with
  | src os => obtain ⟨_, _, _, _, ho⟩ := h; exact ho.2.1
  | mad r as => obtain ⟨_, _, _, _, _, hr, ha⟩ := h; exact ⟨(hr.dp (K := K)).2, (ha.dp (K := K)).2⟩
theorem Tab.each {R : V → Tg → Prop} {kvs : List (Key × V)} {T : Tb} (h : Tab R kvs T) : ∀ k t, (k, t) ∈ T → ∃ v, R v t := by
  induction h with
  | nil => intro k t h; exact absurd h (by simp)
  | cons a _ ih =>
    intro k t h
    rcases List.mem_cons.mp h with e | h
    · cases e; exact ⟨_, a⟩
    · exact ih k t h
theorem Paired.snoc' {α β : Type} {R : α → β → Prop} {xs : List α} {ps : List β} {v : α} {p : β} (h : Paired R xs ps) (hx : R v p) : Paired R (xs ++ [v]) (ps ++ [p]) := pairSnoc h hx
/-! ### tables of targets or none -/
abbrev OTb := List (Str × Option Tg)
def dLook (D : OTb) (k : Str) : Option (Option Tg) := (D.find? fun p => decide (p.1 = k)).map (·.2)
def dPut (D : OTb) (k : Str) (o : Option Tg) : OTb := if (D.any fun p => decide (p.1 = k)) = true then D.map (fun p => if p.1 = k then (p.1, o) else p) else D ++ [(k, o)]
def dLeft (D : OTb) : Tb := D.filterMap fun p => p.2.map fun t => (p.1, t)
def dueD (T : Tb) (ps : List Prt) : OTb := ps.foldl (fun D q => dPut D q.1 q.2.2) (T.map fun p => (p.1, some p.2))
theorem dLook_put (D : OTb) (k : Str) (t : Option Tg) (k' : Str) : dLook (dPut D k t) k' = if k = k' then some t else dLook D k' := by
  unfold dPut
  by_cases h : (D.any fun p => decide (p.1 = k)) = true
  · rw [if_pos h]
    unfold dLook
    induction D with
    | nil => simp at h
    | cons p D ih =>
      rw [List.map_cons, List.find?_cons, List.find?_cons]
      by_cases c : p.1 = k
      · rw [if_pos c]
        by_cases d : k = k'
        · have : decide ((p.1, t).1 = k') = true := decide_eq_true (c.trans d)
          rw [this, if_pos d]
          rfl
        · have e1 : decide ((p.1, t).1 = k') = false := decide_eq_false fun z => d (c.symm.trans z)
          rw [e1, if_neg d]
          dsimp only
          by_cases h2 : (D.any fun p => decide (p.1 = k)) = true
          · have := ih h2
            rw [if_neg d] at this
            exact this
          · congr 1
            have : D.map (fun p => if p.1 = k then (p.1, t) else p) = D := by
              conv => rhs; rw [← List.map_id D]
              refine List.map_congr_left fun q hq => ?_
              rw [if_neg fun z => h2 (List.any_eq_true.mpr ⟨q, hq, decide_eq_true z⟩)]
              rfl
            rw [this]
      · rw [if_neg c]
        have h2 : (D.any fun p => decide (p.1 = k)) = true := by
          rw [List.any_cons, decide_eq_false c, Bool.false_or] at h
          exact h
        by_cases d : p.1 = k'
        · rw [decide_eq_true d, if_neg fun z => c (d.trans z.symm)]
        · rw [decide_eq_false d]
          exact ih h2
  · rw [if_neg h]
    unfold dLook
    rw [List.find?_append]
    have hk : ∀ p ∈ D, p.1 ≠ k := fun p hp e => h (List.any_eq_true.mpr ⟨p, hp, decide_eq_true e⟩)
    by_cases c : k = k'
    · subst c
      have : D.find? (fun p => decide (p.1 = k)) = none := List.find?_eq_none.mpr fun p hp => by simpa using hk p hp
      rw [this, if_pos rfl]
      simp
    · rw [if_neg c]
      simp [c]
theorem dPut_keys (D : OTb) (k : Str) (o : Option Tg) : (dPut D k o).map (·.1) = if k ∈ D.map (·.1) then D.map (·.1) else D.map (·.1) ++ [k] := putKeys D k o
theorem dPut_nd {D : OTb} {k : Str} {o : Option Tg} (h : (D.map (·.1)).Nodup) : ((dPut D k o).map (·.1)).Nodup := by rw [dPut_keys]; exact putNd h
theorem dLeft_look {D : OTb} (nd : (D.map (·.1)).Nodup) (k : Str) : tLook (dLeft D) k = (dLook D k).getD none := by
  unfold tLook dLook
  induction D with
  | nil => rfl
  | cons p D ih =>
    rw [List.map_cons, List.nodup_cons] at nd
    obtain ⟨n, o⟩ := p
    have ih := ih nd.2
    have e0 : dLeft ((n, none) :: D) = dLeft D := rfl
    have e1 : ∀ t, dLeft ((n, some t) :: D) = (n, t) :: dLeft D := fun _ => rfl
    rw [List.find?_cons]
    by_cases c : n = k
    · subst c
      rw [decide_eq_true (rfl : n = n)]
      have none' : (dLeft D).find? (fun p => decide (p.1 = n)) = none := by
        rw [List.find?_eq_none]
        intro q hq e
        obtain ⟨p, hp, e2⟩ := List.mem_filterMap.mp hq
        obtain ⟨t, _, rfl⟩ := Option.map_eq_some_iff.mp e2
        exact nd.1 (List.mem_map.mpr ⟨p, hp, of_decide_eq_true e⟩)
      cases o with
      | none =>
        rw [e0, none']
        rfl
      | some t =>
        rw [e1, List.find?_cons, decide_eq_true (rfl : n = n)]
        rfl
    · rw [decide_eq_false c]
      cases o with
      | none =>
        rw [e0]
        exact ih
      | some t =>
        rw [e1, List.find?_cons, decide_eq_false c]
        exact ih
theorem due_look (T : Tb) (ps : List Prt) (k : Str) : (dLook (dueD T ps) k).getD none = tLook (chT T ps) k := by
  have gen : ∀ (ps : List Prt) (D : OTb) (T : Tb), (∀ k, (dLook D k).getD none = tLook T k) → ∀ k, (dLook (ps.foldl (fun D q => dPut D q.1 q.2.2) D) k).getD none = tLook (ps.foldl chS T) k := fun ps => by
    induction ps with
    | nil => exact fun D T h => h
    | cons q ps ih =>
      intro D T h
      rw [List.foldl_cons, List.foldl_cons]
      refine ih _ _ fun k => ?_
      rw [dLook_put, tLook_chS]
      by_cases c : q.1 = k
      · rw [if_pos c, if_pos c]; rfl
      · rw [if_neg c, if_neg c]; exact h k
  refine gen ps _ _ (fun k => ?_) k
  unfold dLook tLook
  induction T with
  | nil => rfl
  | cons p T ih =>
    rw [List.map_cons, List.find?_cons, List.find?_cons]
    by_cases c : p.1 = k
    · rw [decide_eq_true c]; rfl
    · rw [decide_eq_false c]; exact ih
theorem dueD_keys {T : Tb} (ht : (T.map (·.1)).Nodup) (hs : ∀ k ∈ T.map (·.1), k ∈ nmsL) {ps : List Prt} (hp : ∀ q ∈ ps, q.1 ∈ nmsL) : ((dueD T ps).map (·.1)).Nodup ∧ ∀ k ∈ (dueD T ps).map (·.1), k ∈ nmsL := by
  have gen : ∀ (ps : List Prt) (D : OTb), (∀ q ∈ ps, q.1 ∈ nmsL) → ((D.map (·.1)).Nodup ∧ ∀ k ∈ D.map (·.1), k ∈ nmsL) → (((ps.foldl (fun D q => dPut D q.1 q.2.2) D).map (·.1)).Nodup ∧ ∀ k ∈ (ps.foldl (fun D q => dPut D q.1 q.2.2) D).map (·.1), k ∈ nmsL) := fun ps => by
    induction ps with
    | nil => exact fun D _ h => h
    | cons q ps ih =>
      intro D hp h
      rw [List.foldl_cons]
      refine ih _ (fun x hx => hp x (List.mem_cons_of_mem _ hx)) ⟨dPut_nd h.1, ?_⟩
      rw [dPut_keys]
      exact putSub h.2 (hp q List.mem_cons_self)
  refine gen ps _ hp ?_
  rw [List.map_map]
  exact ⟨ht, hs⟩
theorem dLeft_keys (D : OTb) : ((dLeft D).map (·.1)).Sublist (D.map (·.1)) := by
  unfold dLeft
  induction D with
  | nil => exact .slnil
  | cons p D ih =>
    obtain ⟨n, o⟩ := p
    rw [List.filterMap_cons]
    cases o with
    | none => exact ih.cons _
    | some t => exact ih.cons_cons _
/-- parts of few names, with right targets -/
structure PsK (ps : List Prt) : Prop where
  nm : ∀ q ∈ ps, q.1 ∈ nmsL
  kb : ∀ q ∈ ps, ∀ t, q.2.1 = some t → TgK t
  ka : ∀ q ∈ ps, ∀ t, q.2.2 = some t → TgK t
theorem chT_k {ps : List Prt} (h : PsK ps) : ∀ {T : Tb}, TbK T → TbK (chT T ps) := by
  unfold chT
  induction ps with
  | nil => exact fun h => h
  | cons q ps ih =>
    intro T ht
    rw [List.foldl_cons]
    refine ih ⟨fun x hx => h.nm x (List.mem_cons_of_mem _ hx), fun x hx => h.kb x (List.mem_cons_of_mem _ hx), fun x hx => h.ka x (List.mem_cons_of_mem _ hx)⟩ ?_
    unfold chS
    cases e : q.2.2 with
    | none => exact ht.drop _
    | some t => exact ht.put (h.nm q List.mem_cons_self) (h.ka q List.mem_cons_self t e)
/-! ### names at which something else stands -/
def wrongP (ps : List Prt) (T : Tb) : List Str := (ps.filter fun q => !oE (tLook T q.1) q.2.1).map (·.1)
theorem wrong_bad (ps : List Prt) (T : Tb) : badP ps T = (wrongP ps T).head? := by
  unfold badP wrongP
  induction ps with
  | nil => rfl
  | cons q ps ih =>
    rw [List.find?_cons]
    cases e : !oE (tLook T q.1) q.2.1 with
    | true => rw [List.filter_cons_of_pos (by exact e)]; rfl
    | false => rw [List.filter_cons_of_neg (by rw [e]; exact Bool.false_ne_true)]; exact ih
theorem strsOd {K : PySem.W.Frag} {ws : List Str} (h : ∀ z ∈ ws, TOk z) : ∃ es, (∀ H, DpAll K H (ws.map V.str) es) ∧ (∀ d ∈ es, Od 0 d) ∧ es.length ≤ ws.length := ⟨ws.map .str, fun _ => dpStrs ws, fun d hd => by
  obtain ⟨z, hz, rfl⟩ := List.mem_map.mp hd
  exact rOd z (h z hz), by rw [List.length_map]; exact Nat.le_refl _⟩
theorem decNil (ws : List Str) : decide (ws.map V.str = []) = decide (ws = []) := by
  cases ws <;> rfl
theorem misSh {n : Str} (h : TOk n) : SeqAt.shaped (.tuple [.str "mismatch", .str n, .bool true]) = true := by
  refine (Od.tup (n := 0) (by show 3 ≤ 100; decide) fun d hd => ?_).shaped (by decide)
  have : d = .str "mismatch" ∨ d = .str n ∨ d = .bool true := by simpa using hd
  rcases this with rfl | rfl | rfl
  · exact rOd "mismatch" (by decide +kernel)
  · exact rOd n h
  · exact .bl _ _
/-! ### as dicts -/
def OtE (H0 : Hp) (kv : Key × V) (p : Str × Option Tg) : Prop := kv.1 = .inr p.1 ∧ ToO H0 kv.2 p.2
theorem otAny {H0 : Hp} (k : Str) : ∀ {kvs : List (Key × V)} {D : OTb}, Paired (OtE H0) kvs D → (kvs.any fun kv => decide (kv.1 = (.inr k : Key))) = D.any fun p => decide (p.1 = k)
  | _, _, .nil => rfl
  | _, _, .cons a r => by
    rw [List.any_cons, List.any_cons, otAny k r, a.1]
    congr 1
    exact decide_eq_decide.mpr ⟨fun h => Sum.inr.inj h, fun h => congrArg Sum.inr h⟩
theorem otPut {H0 : Hp} {kvs : List (Key × V)} {D : OTb} {k : Str} {v : V} {o : Option Tg} (h : Paired (OtE H0) kvs D) (hv : ToO H0 v o) : Paired (OtE H0) (putK kvs (.inr k) v) (dPut D k o) := by
  unfold putK dPut
  rw [otAny k h]
  split
  · induction h with
    | nil => exact .nil
    | @cons kv p kvs D a r ih =>
      rw [List.map_cons, List.map_cons]
      refine .cons ?_ ?_
      · by_cases c : p.1 = k
        · rw [if_pos (by rw [a.1, c]), if_pos c]
          exact ⟨a.1, hv⟩
        · rw [if_neg (by rw [a.1]; exact fun z => c (Sum.inr.inj z)), if_neg c]
          exact a
      · have gen : ∀ {kvs : List (Key × V)} {D : OTb}, Paired (OtE H0) kvs D → Paired (OtE H0) (kvs.map fun kv => if kv.1 = (.inr k : Key) then (kv.1, v) else kv) (D.map fun p => if p.1 = k then (p.1, o) else p) := fun h => by
          induction h with
          | nil => exact .nil
          | @cons kv p kvs D a r ih =>
            rw [List.map_cons, List.map_cons]
            refine .cons ?_ ih
            by_cases c : p.1 = k
            · rw [if_pos (by rw [a.1, c]), if_pos c]
              exact ⟨a.1, hv⟩
            · rw [if_neg (by rw [a.1]; exact fun z => c (Sum.inr.inj z)), if_neg c]
              exact a
        exact gen r
  · exact pairSnoc h ⟨rfl, hv⟩
theorem otKeys {H0 : Hp} : ∀ {kvs : List (Key × V)} {D : OTb}, Paired (OtE H0) kvs D → kvs.map (·.1) = (D.map (·.1)).map Sum.inr
  | _, _, .nil => rfl
  | _, _, .cons a r => by rw [List.map_cons, List.map_cons, List.map_cons, a.1, otKeys r]
theorem otTab {H0 : Hp} : ∀ {kvs : List (Key × V)} {D : OTb}, Paired (OtE H0) kvs D → Tab (ToAt H0) (kvs.filter fun kv => !decide (kv.2 = .non)) (dLeft D)
  | _, _, .nil => .nil
  | (k, v) :: kvs, (n, o) :: D, .cons a r => by
    obtain ⟨e, h⟩ := a
    simp only at e h
    subst e
    unfold dLeft
    rw [List.filterMap_cons]
    cases o with
    | none =>
      obtain rfl : v = .non := h
      rw [List.filter_cons_of_neg (by simp)]
      exact otTab r
    | some t =>
      obtain ⟨x, rfl⟩ := ToAt.rf h
      rw [List.filter_cons_of_pos (by simp)]
      exact .cons h (otTab r)
theorem tabOt {H0 : Hp} {kvs : List (Key × V)} {T : Tb} (h : Tab (ToAt H0) kvs T) : Paired (OtE H0) kvs (T.map fun p => (p.1, some p.2)) := by
  induction h with
  | nil => exact .nil
  | cons a _ ih => exact .cons ⟨rfl, a⟩ ih
end PJ

set_option Elab.async false
set_option linter.all false
set_option maxRecDepth 100000
set_option maxHeartbeats 16000000
/-! does a change what its parts say? the law's def -/
namespace PJ
open PySem PySem.Spec PyProof.Rows L2 KS KS.La
open KX hiding sameUpd
theorem dueD_len (T : Tb) (ps : List Prt) : (dueD T ps).length ≤ T.length + ps.length := by
  have gen : ∀ (ps : List Prt) (D : OTb), (ps.foldl (fun D q => dPut D q.1 q.2.2) D).length ≤ D.length + ps.length := fun ps => by
    induction ps with
    | nil => exact fun D => Nat.le_refl _
    | cons q ps ih =>
      intro D
      have h1 := ih (dPut D q.1 q.2.2)
      have h2 : (dPut D q.1 q.2.2).length ≤ D.length + 1 := by
        unfold dPut
        split
        · rw [List.length_map]; omega
        · rw [List.length_append]; exact Nat.le_refl _
      rw [List.foldl_cons, List.length_cons]
      omega
  have := gen ps (T.map fun p => (p.1, some p.2))
  rw [List.length_map] at this
  exact this
section
variable {P : Program} {w : World} {K : PySem.W.Frag} {mg : Str → Option Value} {base : Heap} {f : Addr} {fd : FuncData} {CS CM CP CC NT NS MM BE : Addr}
def spIsDn (K : PySem.W.Frag) (CS CM CC : Addr) : Sp := fun vs H Q _ => ∃ c L d ps T, vs = [.ref c, .ref L, .ref d] ∧ ChAt K CS CM CC H c ps ∧ LpAt H L ps ∧ KtAt H d T ∧ PsOk ps ∧ PsK ps ∧ TbK T ∧ ∀ H', Same H H' → Q (.bl true) H'
abbrev nIsDn : List Str := ["_law_change", "_law_parts", "_law_targets", "_law_due", "_law_wrong", "_law_part", "_law_name", "_law_before", "_law_after", "_law_found", "_law_left", "_law_one_here"]
theorem scIsDn : FnScope nIsDn ["_law_change", "_law_parts", "_law_targets"] (defScope lIsD) := ⟨rfl, rfl, rfl, by decide +kernel, rfl, by decide +kernel, by decide +kernel⟩
abbrev slI (c L d : Addr) (x3 x4 x6 x7 x8 x9 x10 : Option V) : L2.St := [some (.ref c), some (.ref L), some (.ref d), x3, x4, none, x6, x7, x8, x9, x10, none]
theorem okIsDn {k : Nat} (B : Bn mg) (md : mg "dict" = none) (aD : Has P w K mg base 7 "_law_done" ["_law_change", "_law_project"] (spDone K CS CM CP CC)) (aW : Has P w K mg base 4 "_law_package" ["_law_targets"] (spWhole CS CM CP))
    (aI : Has P w K mg base 6 "_law_is_project" ["_law_project", "_law_targets"] (spIsP CS CM CP)) (F : FnP K "_law_is_done" lIsD f fd) : FnOk P w K mg base CX0 (k + 8) f fd ["_law_change", "_law_parts", "_law_targets"] (spIsDn K CS CM CC) := by
  obtain ⟨fD, dD, gD, kD, bD, GD⟩ := aD.ex
  obtain ⟨fW, dW, gW, kW, bW, GW⟩ := aW.ex
  obtain ⟨fI, dI, gI, kI, bI, GI⟩ := aI.ex
  refine F.ok scIsDn (fun vs H Q E h => ?_) (fun cdv A outer s H vs Q E hr h => ?_)
  · obtain ⟨c, L, d, ps, T, rfl, _⟩ := h
    rfl
  · obtain ⟨c, L, d, ps, T, rfl, ch, ⟨xs, eL, hp⟩, ⟨kvs, ed, tb⟩, ok, pk, tk, q⟩ := h
    have r7 : Room 7 _ := hr.mono (by omega)
    have r4 : Room 4 _ := hr.mono (by omega)
    have r6 : Room 6 _ := hr.mono (by omega)
    have hu1 : (A.deeper (envOfC "_law_is_done" (defScope lIsD) s.heap.objs.size f cdv)).units + 1 < cLine := by
      have := hr.units
      omega
    have hu2 := DB.un100 hr
    have lx := hp.length
    have l40 := ok.few
    have lT : T.length ≤ 6 := tk.len
    refine ⟨_, PSs.nox (C8.pss_cut (ps_asg (pe_tup (pa_cons (pe_callTy call_dictD (by rfl) md (by decide +kernel) (pa_cons (pv 2) pa_nil)) (pa_cons (pe_lc (own := [("_law_part", 5)]) (g := gName 5) rfl scIsDn.nd (pi_list (pv 1)) (blkOk_by (N := nIsDn) (sc := defScope lIsD) (by decide +kernel))
            (fun _ _ _ _ _ => pg_name (i := 5) scIsDn.nd rfl (.inl rfl) (hf := .inr rfl)) (fun _ _ _ _ _ => pts_one (pt_cmpR (r := ET.rNeE K) (ET.op_neE hu2) (pe_dget1 hu1 (pv 2) (pe_ix (r := rIxT K) ix_tup (pv 5) pe_int (fun _ _ => rfl)) ⟨rfl, rfl, rfl, rfl⟩) (pe_ix (r := rIxT K) ix_tup (pv 5) pe_int (fun _ _ => rfl)) (nomark _))) (fun _ _ _ _ _ => pe_ix (r := rIxT K) ix_tup (pv 5) pe_int (fun _ _ => rfl))) pa_nil))) (pg_tup rfl (pgs_cons ((pg_name (i := 3) scIsDn.nd rfl (.inr rfl))) (pgs_cons ((pg_name (i := 4) scIsDn.nd rfl (.inl rfl))) pgs_nil)))) (C8.pss_cut (ps_for PassesOwn.never rfl (pi_list (pv 1)) (pg_tup rfl (pgs_cons ((pg_name (i := 6) scIsDn.nd rfl (.inl rfl))) (pgs_cons ((pg_name (i := 7) scIsDn.nd rfl (.inl rfl))) (pgs_cons ((pg_name (i := 8) scIsDn.nd rfl (.inl rfl))) pgs_nil)))) (pss_one (ps_dput hu1 (pv 3) (pv 6) (pv 8) rfl))) (C8.pss_cut (ps_set (i := 9) scIsDn.nd rfl (.inl rfl) (pe_call GD r7 (by rfl) gD kD bD .nil pass0 (pa_cons (pv 0) (pa_cons (pe_call GW r4 (by rfl) gW kW bW .nil pass0 (pa_cons (pv 2) pa_nil)) pa_nil)))) (pss_cons (ps_if (pt_cmpR (r := rNeD K) (op_neD hr.units) (pv 4) (pe_lst pa_nil) (nomark _)) (pss_one (ps_ret (pe_cmpR (op_eqD hr.units) (pv 9) (pe_tup (pa_cons (pe_str) (pa_cons (pe_ix ix_list (pv 4) pe_int (fun _ _ => rfl)) (pa_cons (pe_bl) pa_nil)))) rfl))) pss_nil) (C8.pss_cut (ps_set (i := 10) scIsDn.nd rfl (.inl rfl) (pe_callTy (T := "dict") (call_dictP rfl) (by rfl) md (by decide +kernel) (pa_cons (pe_lock (pe_lc (own := [("_law_one_here", 11)]) (g := gName 11) rfl scIsDn.nd (pi_keys (pv 3)) (blkOk_by (N := nIsDn) (sc := defScope lIsD) (by decide +kernel))
        (fun _ _ _ _ _ => pg_name (i := 11) scIsDn.nd rfl (.inl rfl) (hf := .inr rfl)) (fun _ _ _ _ _ => pts_one (pt_cmp (pc_notN (pe_dget hu1 (pv 3) (pv 11) (fun _ _ => rfl))))) (fun _ _ _ _ _ => pe_tup (pa_cons (pv 11) (pa_cons (pe_dget hu1 (pv 3) (pv 11) (fun _ _ => rfl)) pa_nil))))) pa_nil))) (pss_one (ps_ret (pe_and (pe_cmpR op_eq (pe_ix ix_tup (pv 9) pe_int (fun _ _ => rfl)) pe_str rfl) (pe_one (pe_call GI r6 (by rfl) gI kI bI .nil pass0 (pa_cons (pe_ix ix_tup (pv 9) pe_int (fun _ _ => rfl)) (pa_cons (pv 10) pa_nil)))))))))))), ?_⟩
    -- the dict, and what stands otherwise
    refine ⟨fun σ' H' => ∃ D W, σ' = (slI c L d (some (.ref D)) (some (.ref W)) none none none none none) ∧ Same H H' ∧ H D = none ∧ H' D = some (.dK kvs) ∧ H' W = some (.lst ((wrongP ps T).map V.str)) ∧ W ≠ D, ?_, ?_⟩
    · refine ⟨.ref d, rfl, d, kvs, rfl, ed, fun D nD => ?_⟩
      have z1 := KS.sameUpd (o := .dK kvs) nD
      have eD := upd_same (H := H) (a := D) (o := .dK kvs)
      generalize upd H D (.dK kvs) = H1 at *
      refine ⟨.ref L, rfl, L, rfl, ⟨_, .inl (.inl (z1 _ _ eL))⟩, fun W hW => ?_⟩
      have nWD : W ≠ D := fun e => by rw [e, eD] at hW; cases hW
      refine lcJ (n := ps.length) (vs := [5]) (fun i H' => Same H1 H' ∧ H' W = some (.lst ((wrongP (ps.take i) T).map V.str))) ⟨KS.sameUpd hW, upd_same⟩
        (fun i H' lt h => ⟨_, xs[i], .inl (.inl (h.1 _ _ (z1 _ _ eL))), List.getElem?_eq_getElem (by omega)⟩) (fun H' h => ⟨_, .inl (.inl (h.1 _ _ (z1 _ _ eL))), by omega⟩) (fun i H' x H2 lt h y => ?_) (fun H2 h => ?_)
      · obtain ⟨rfl, y⟩ := y
        obtain ⟨s2, eW⟩ := h
        have s02 := z1.trans s2
        have ex := y _ (.inl (.inl (s02 _ _ eL)))
        obtain ⟨v, e1, u, vb, va, rfl, hu, hb, ha⟩ := pairAt hp (List.getElem?_eq_getElem lt)
        obtain rfl : V.ref u = x := Option.some.inj (e1.symm.trans ex)
        have hu2' := s02 _ _ hu
        have lw : (wrongP (ps.take i) T).length ≤ i := by
          unfold wrongP
          rw [List.length_map]
          exact Nat.le_trans (List.length_filter_le _ _) (by rw [List.length_take]; omega)
        have ws : wrongP (ps.take (i + 1)) T = wrongP (ps.take i) T ++ (if oE (tLook T ps[i].1) ps[i].2.1 = true then [] else [ps[i].1]) := by
          rw [List.take_succ_eq_append_getElem lt]
          unfold wrongP
          rw [List.filter_append, List.map_append]
          congr 1
          cases eo : oE (tLook T ps[i].1) ps[i].2.1 with
          | true => rw [List.filter_cons_of_neg (by rw [eo]; exact Bool.false_ne_true), if_pos rfl]; rfl
          | false => rw [List.filter_cons_of_pos (by rw [eo]; rfl), if_neg Bool.false_ne_true]; rfl
        refine ⟨rfl, .ref d, rfl, d, rfl, .inl ⟨_, .inl (s02 _ _ ed)⟩, .ref u, rfl, u, _, 0, .str ps[i].1, rfl, rfl, .inl (.inl hu2'), atI_nat (j := 0) rfl, _, DGet.k (k := Sum.inr ps[i].1) (s02 _ _ ed), .ref u, rfl, u, _, 1, vb, rfl, rfl, .inl (.inl hu2'), atI_nat (j := 1) rfl, _, toO_et ((tb.get ps[i].1).stl (Stl.same s02)) (hb.stl (Stl.same s02)), _, rfl, ?_⟩
        rw [ws]
        cases eo : oE (tLook T ps[i].1) ps[i].2.1 with
        | true =>
          rw [if_neg (by simp), if_pos rfl, List.append_nil]
          exact ⟨s2, eW⟩
        | false =>
          rw [if_pos (by simp), if_neg Bool.false_ne_true]
          refine ⟨.ref u, rfl, u, _, 0, .str ps[i].1, rfl, rfl, .inl (.inl hu2'), atI_nat (j := 0) rfl, _, eW, ?_, fun b o hb => ?_, ?_⟩
          · rw [List.length_map, sizeLine_eq]
            omega
          · rw [upd_ne (ne_of_none hb hW)]
            exact s2 _ _ hb
          · rw [upd_same, List.map_append]
            rfl
      · obtain ⟨s2, eW⟩ := h
        rw [List.take_length] at eW
        refine ⟨(by show 2 ≤ sizeLine; decide), fun U hU => ?_⟩
        have zU := KS.sameUpd (o := .tup [.ref D, .ref W]) hU
        exact ⟨U, _, rfl, .inl (.inl upd_same), rfl, .ref D, _, rfl, .ref W, _, rfl, rfl, D, W, rfl, z1.trans (s2.trans zU), nD, zU _ _ (s2 _ _ eD), zU _ _ eW, nWD⟩
    rintro _ H1 ⟨D, W, rfl, s1, nD, eD1, eW1, nWD⟩
    -- the afters
    refine ⟨fun σ' H' => ∃ x6 x7 x8 kv2, σ' = (slI c L d (some (.ref D)) (some (.ref W)) x6 x7 x8 none none) ∧ Same H H' ∧ H' D = some (.dK kv2) ∧ H' W = some (.lst ((wrongP ps T).map V.str)) ∧ Paired (OtE H) kv2 (dueD T ps), ?_, ?_⟩
    · refine ⟨.ref L, rfl, L, rfl, ⟨_, .inl (.inl (s1 _ _ eL))⟩, ?_⟩
      refine forJ (n := ps.length) (fun i σ' H' => ∃ x6 x7 x8 kv2, σ' = (slI c L d (some (.ref D)) (some (.ref W)) x6 x7 x8 none none) ∧ Same H H' ∧ H' D = some (.dK kv2) ∧ H' W = some (.lst ((wrongP ps T).map V.str)) ∧ Paired (OtE H) kv2 (dueD T (ps.take i)) ∧ kv2.length ≤ 6 + i)
        ⟨none, none, none, kvs, rfl, s1, eD1, eW1, tabOt tb, by rw [tb.len]; omega⟩
        (fun i σ' H' lt h => by obtain ⟨_, _, _, _, _, s, _⟩ := h; exact ⟨_, xs[i], .inl (.inl (s _ _ eL)), List.getElem?_eq_getElem (by omega)⟩)
        (fun σ' H' h => by obtain ⟨_, _, _, _, _, s, _⟩ := h; exact ⟨_, .inl (.inl (s _ _ eL)), by omega⟩) (fun i σ' H0 x H2 lt h y => ?_) (fun σ' H' h => ?_)
      · obtain ⟨rfl, y⟩ := y
        obtain ⟨x6, x7, x8, kv2, rfl, s2, eD2, eW2, pr, lk⟩ := h
        have ex := y _ (.inl (.inl (s2 _ _ eL)))
        obtain ⟨v, e1, u, vb, va, rfl, hu, hb, ha⟩ := pairAt hp (List.getElem?_eq_getElem lt)
        obtain rfl : V.ref u = x := Option.some.inj (e1.symm.trans ex)
        have ds : dueD T (ps.take (i + 1)) = dPut (dueD T (ps.take i)) ps[i].1 ps[i].2.2 := by
          unfold dueD
          rw [List.take_succ_eq_append_getElem lt, List.foldl_append]
          rfl
        refine ⟨u, _, rfl, .inl (.inl (s2 _ _ hu)), rfl, .str ps[i].1, _, rfl, vb, _, rfl, va, _, rfl, rfl, ?_⟩
        refine ⟨va, rfl, .ref D, rfl, .str ps[i].1, rfl, D, _, rfl, DPut.k (k := Sum.inr ps[i].1) eD2 (by rw [sizeLine_eq]; omega), ?_⟩
        refine ⟨_, _, _, _, rfl, fun b o hb => ?_, upd_same, ?_, ?_, ?_⟩
        · rw [upd_ne (ne_of_none hb nD)]
          exact s2 _ _ hb
        · rw [upd_ne nWD]
          exact eW2
        · rw [ds]
          exact otPut pr ha
        · unfold putK
          split
          · rw [List.length_map]; omega
          · rw [List.length_append]; show kv2.length + 1 ≤ _; omega
      · obtain ⟨x6, x7, x8, kv2, rfl, s2, eD2, eW2, pr, lk⟩ := h
        rw [List.take_length] at pr
        exact ⟨x6, x7, x8, kv2, rfl, s2, eD2, eW2, pr⟩
    rintro _ H2 ⟨x6, x7, x8, kv2, rfl, s2, eD2, eW2, pr⟩
    -- the try
    obtain ⟨dnd, dsub⟩ := dueD_keys tk.nd (fun k h => tk.sub k h) pk.nm
    have wb := wrong_bad ps T
    have wtok : ∀ z ∈ wrongP ps T, TOk z := fun z hz => by
      obtain ⟨q0, hq, rfl⟩ := List.mem_map.mp hz
      exact nmsTok _ (pk.nm _ (List.mem_filter.mp hq).1)
    refine ⟨fun σ' H' => ∃ u, σ' = (slI c L d (some (.ref D)) (some (.ref W)) x6 x7 x8 (some (.ref u)) none) ∧ Same H2 H' ∧ ((wrongP ps T = [] ∧ ∃ p', H' u = some (.tup [.str "done", .ref p']) ∧ PjAt CS CM CP H' p' (chT T ps)) ∨ ∃ n r, wrongP ps T = n :: r ∧ H' u = some (.tup [.str "mismatch", .str n, .bl true])), ?_, ?_⟩
    · refine ⟨.ref c, rfl, .ref d, rfl, d, T, rfl, ⟨kvs, s2 _ _ ed, tb.to (Stl.same s2)⟩, tk.nd, by omega, fun p H3 s3 pj => ?_⟩
      refine ⟨c, p, ps, T, rfl, ch.stl (Stl.same (s2.trans s3)), pj, ok, by omega, fun e u p' H4 s4 eu pj4 => ⟨u, rfl, s3.trans s4, .inl ⟨?_, p', eu, pj4⟩⟩, fun n e u H4 s4 eu => ⟨u, rfl, s3.trans s4, .inr ?_⟩⟩
      · rw [wb] at e
        cases ew : wrongP ps T with
        | nil => rfl
        | cons a r => rw [ew] at e; cases e
      · rw [wb] at e
        cases ew : wrongP ps T with
        | nil => rw [ew] at e; cases e
        | cons a r =>
          rw [ew] at e
          obtain rfl : a = n := Option.some.inj e
          exact ⟨a, r, rfl, eu⟩
    rintro _ H3 ⟨u, rfl, s3, found⟩
    have eW3 := s3 _ _ eW2
    have eD3 := s3 _ _ eD2
    refine ⟨.ref W, rfl, Nat.zero_le _, fun Ln hLn => ?_⟩
    have sL := KS.sameUpd (o := .lst []) hLn
    refine neNil (n := (wrongP ps T).length) (sL _ _ eW3) upd_same (strsOd wtok) ?_
    rw [decNil]
    generalize upd H3 Ln (.lst []) = H4 at *
    rcases found with ⟨ew, p', eu, pj⟩ | ⟨n, r, ew, eu⟩
    case inr =>
      rw [decide_eq_false (show ¬ wrongP ps T = [] by rw [ew]; exact List.cons_ne_nil _ _)]
      have eW4 : H4 W = some (.lst (V.str n :: r.map V.str)) := by rw [sL _ _ eW3, ew]; rfl
      refine ⟨_, rfl, iteT ⟨.ref u, rfl, .ref W, rfl, W, _, 0, .str n, rfl, rfl, .inl (.inl eW4), atI_nat (j := 0) rfl, (by show 3 ≤ sizeLine; decide), fun z hz => ?_⟩⟩
      have sz := KS.sameUpd (o := .tup [.str "mismatch", .str n, .bl true]) hz
      have sh := misSh (wtok n (by rw [ew]; exact List.mem_cons_self))
      refine ⟨.tuple [.str "mismatch", .str n, .bool true], .tuple [.str "mismatch", .str n, .bool true], .tup (.inl (.inl (sz _ _ (sL _ _ eu)))) (.cons (.str _) (.cons (.str _) (.cons (.bl _) .nil))), .tup (.inl (.inl upd_same)) (.cons (.str _) (.cons (.str _) (.cons (.bl _) .nil))), sh, sh, ?_⟩
      rw [SeqAt.eqv_refl _ (SeqAt.canLay_of_shaped sh)]
      exact q _ (s2.trans (s3.trans (sL.trans sz)))
    case inl =>
      rw [decide_eq_true ew]
      refine ⟨_, rfl, iteF ?_⟩
      have s04 := s2.trans (s3.trans sL)
      have eD4 := sL _ _ eD3
      have ndK : (kv2.map (·.1)).Nodup := by
        rw [otKeys pr, List.nodup_iff_pairwise_ne, List.pairwise_map]
        rw [List.nodup_iff_pairwise_ne] at dnd
        exact dnd.imp fun n e => n (Sum.inr.inj e)
      -- what is left
      refine ⟨fun σ' H' => ∃ D2, σ' = (slI c L d (some (.ref D)) (some (.ref W)) x6 x7 x8 (some (.ref u)) (some (.ref D2))) ∧ Same H4 H' ∧ KtAt H' D2 (dLeft (dueD T ps)), ?_, ?_⟩
      · refine ⟨D, .dK kv2, eD4, True.intro, fun od => ?_⟩
        have ed' : upd H4 D (.frz od (.dK kv2)) D = some (.frz od (.dK kv2)) := upd_same
        have eo : ∀ c o, c ≠ D → H4 c = some o → upd H4 D (.frz od (.dK kv2)) c = some o := fun c o n h => by rw [upd_ne n]; exact h
        generalize upd H4 D (.frz od (.dK kv2)) = H5 at *
        refine ⟨.ref D, rfl, D, od, rfl, .inl ⟨kv2, ed', fun N hN => ?_⟩⟩
        have nND : N ≠ D := fun z => by rw [z, ed'] at hN; cases hN
        refine lcJ (n := kv2.length) (vs := [11]) (fun i H' => ∃ (qs : List Addr), H' N = some (.lst (qs.map V.ref)) ∧ Paired (fun p (kv : Key × V) => H' p = some (.tup [kV kv.1, kv.2])) qs ((kv2.take i).filter fun kv => !decide (kv.2 = .non)) ∧ qs.length ≤ i ∧ ∀ b o, H5 b = some o → H' b = some o)
          ⟨[], upd_same, .nil, Nat.le_refl _, KS.sameUpd hN⟩ (fun i H' lt h => by obtain ⟨_, _, _, _, s⟩ := h; exact ⟨s _ _ ed', lt⟩) (fun H' h => by obtain ⟨_, _, _, _, s⟩ := h; exact ⟨s _ _ ed', Nat.le_refl _⟩) (fun i H' x H6 lt h y => ?_) (fun H' h => ?_)
        · obtain ⟨rfl, k, v, ek, rfl⟩ := y
          obtain ⟨qs, eN, pq, l2, s6⟩ := h
          have eki : kv2[i] = (k, v) := by
            rw [List.getElem?_eq_getElem lt] at ek
            exact Option.some.inj ek
          have hm : (k, v) ∈ kv2 := by rw [← eki]; exact List.getElem_mem lt
          obtain ⟨p0, ep, ot⟩ := paired_get pr ek
          obtain ⟨z, o⟩ := p0
          obtain ⟨e1, e2⟩ := ot
          simp only at e1 e2
          subst e1
          have hv : valV kv2 (.inr z) = some v := valMem ndK hm
          have dg : DGet H6 D (.str z) (some v) := .inl ⟨kv2, .inr z, .inr ⟨od, s6 _ _ ed'⟩, rfl, hv.symm⟩
          have et : (kv2.take (i + 1)).filter (fun kv => !decide (kv.2 = .non)) = (kv2.take i).filter (fun kv => !decide (kv.2 = .non)) ++ (if v = .non then [] else [((Sum.inr z : Key), v)]) := by
            rw [List.take_succ_eq_append_getElem lt, eki, List.filter_append]
            congr 1
            by_cases c : v = .non
            · rw [if_pos c, List.filter_cons_of_neg (by simp [c])]; rfl
            · rw [if_neg c, List.filter_cons_of_pos (by simp [c])]; rfl
          rw [et]
          refine ⟨rfl, .ref D, rfl, .str z, rfl, D, v, rfl, dg, ?_⟩
          cases o with
          | none =>
            obtain rfl : v = .non := e2
            refine ⟨_, rfl, iteF ⟨qs, eN, ?_, by omega, s6⟩⟩
            rw [if_pos rfl, List.append_nil]
            exact pq
          | some t =>
            obtain ⟨x0, rfl⟩ := ToAt.rf e2
            refine ⟨_, rfl, iteT ⟨.str z, rfl, .ref D, rfl, .str z, rfl, D, .ref x0, rfl, dg, (by show 2 ≤ sizeLine; decide), fun U hU => ?_⟩⟩
            have sU := KS.sameUpd (o := .tup [.str z, .ref x0]) hU
            have eU : upd H6 U (.tup [.str z, .ref x0]) U = some (.tup [.str z, .ref x0]) := upd_same
            have eN7 := sU _ _ eN
            show ∃ acc, upd H6 U (.tup [.str z, .ref x0]) N = some (.lst acc) ∧ _
            generalize upd H6 U (.tup [.str z, .ref x0]) = H7 at *
            have t8 : Stl H7 (upd H7 N (.lst (qs.map V.ref ++ [.ref U]))) := Stl.lst eN7 Kp.put
            have lkv : kv2.length ≤ 46 := by
              have := dueD_len T ps
              rw [pr.length]
              omega
            refine ⟨qs.map V.ref, eN7, by rw [sizeLine_eq, List.length_map]; omega, qs ++ [U], by rw [List.map_append]; exact upd_same, ?_, by rw [List.length_append]; show qs.length + 1 ≤ _; omega, fun b o hb => ?_⟩
            · rw [if_neg (fun e => nomatch e)]
              exact pairSnoc (L2.Paired.mapP pq fun p kv h => t8 _ _ (sU _ _ h) fun _ z => nomatch z) (t8 _ _ eU fun _ z => nomatch z)
            · rw [upd_ne (ne_of_none hb hN)]
              exact sU _ _ (s6 _ _ hb)
        · obtain ⟨qs, eN, pq, l2, s6⟩ := h
          rw [List.take_length] at pq
          refine ⟨s6 _ _ ed', ?_⟩
          have eo2 : ∀ c o, c ≠ D → H' c = some o → upd H' D (.dK kv2) c = some o := fun c o n h => by rw [upd_ne n]; exact h
          have pq2 : Paired (fun p (kv : Key × V) => SqT K (upd H' D (.dK kv2)) p [kV kv.1, kv.2]) qs (kv2.filter fun kv => !decide (kv.2 = .non)) := L2.Paired.mapP pq fun p kv h => .inl (.inl (eo2 _ _ (fun z => by rw [z, s6 _ _ ed'] at h; cases h) h))
          have sA : Same H4 (upd H' D (.dK kv2)) := fun b x hb => by
            by_cases c : b = D
            · rw [c, upd_same, ← hb, c, eD4]
            · exact eo2 _ _ c (s6 _ _ (eo _ _ c hb))
          have eN2 := eo2 _ _ nND eN
          generalize upd H' D (.dK kv2) = H6 at *
          refine ⟨N, qs, _, rfl, .inl (.inl eN2), pq2, fun u2 hu2 => ?_⟩
          have ndF : ((kv2.filter fun kv => !decide (kv.2 = .non)).map (·.1)).Nodup := ndK.sublist (List.Sublist.map _ List.filter_sublist)
          have em : mergeK [] (kv2.filter fun kv => !decide (kv.2 = .non)) = kv2.filter fun kv => !decide (kv.2 = .non) := by
            have := mergeApp (kv2.filter fun kv => !decide (kv.2 = .non)) [] (by rw [List.nil_append]; exact ndF)
            rw [List.nil_append] at this
            exact this
          rw [em]
          have su := KS.sameUpd (o := .dK (kv2.filter fun kv => !decide (kv.2 = .non))) hu2
          exact ⟨u2, rfl, sA.trans su, _, upd_same, (otTab pr).to (Stl.same (s04.trans (sA.trans su)))⟩
      rintro _ H5 ⟨D2, rfl, s5, kt⟩
      have eu5 := s5 _ _ (sL _ _ eu)
      have pj5 := pj.stl (Stl.same (sL.trans s5))
      have s05 := s04.trans s5
      refine ⟨.ref u, rfl, u, _, 0, .str "done", rfl, rfl, .inl (.inl eu5), atI_nat (j := 0) rfl, rfl, true, by rfl, iteT ?_⟩
      refine ⟨.ref u, rfl, u, _, 1, .ref p', rfl, rfl, .inl (.inl eu5), atI_nat (j := 1) rfl, .ref D2, rfl, p', D2, chT T ps, dLeft (dueD T ps), rfl, pj5, kt, ?_⟩
      have k1 := chT_k pk tk
      have lnd : ((dLeft (dueD T ps)).map (·.1)).Nodup := dnd.sublist (dLeft_keys _)
      have lsub : ∀ z ∈ (dLeft (dueD T ps)).map (·.1), z ∈ nmsL := fun z hz => dsub z ((dLeft_keys _).subset hz)
      have lk : ∀ z, tLook (dLeft (dueD T ps)) z = tLook (chT T ps) z := fun z => by rw [dLeft_look dnd, due_look]
      obtain ⟨kp, _, tb5⟩ := id pj5
      have like := likeWhole (T := chT T ps) (T' := dLeft (dueD T ps)) (D := fun z => tLook (chT T ps) z) (ys := nmsL) k1.nd lnd (fun z hz => k1.sub z hz) lsub (fun z _ => by
        cases e : tLook (chT T ps) z with
        | none => exact True.intro
        | some t =>
          obtain ⟨v, hv⟩ := tb5.each z t (tLook_mem e)
          have tv := TgAt.tgv (K := K) hv
          exact ⟨tgE_refl tv, tv⟩) (fun z _ => lk z)
      have ll : (dLeft (dueD T ps)).length ≤ 60 := by
        have h1 := ndLen _ nmsL lnd lsub
        rw [List.length_map] at h1
        exact Nat.le_trans h1 (by decide)
      exact ⟨k1.nd, lnd, like.1, ll, fun z hz => nmsTok z (lsub z hz), like.2, fun H' s' => q H' (s05.trans s')⟩
end
end PJ

set_option Elab.async false
set_option linter.all false
set_option maxRecDepth 100000
set_option maxHeartbeats 16000000
/-! the law's joined parts: what they are -/
namespace PJ
open PySem PySem.Spec PyProof.Rows L2 KS KS.La
open KX hiding sameUpd
def gPut {α : Type} (D : List (Str × α)) (k : Str) (o : α) : List (Str × α) := if (D.any fun p => decide (p.1 = k)) = true then D.map (fun p => if p.1 = k then (p.1, o) else p) else D ++ [(k, o)]
def gLook {α : Type} (D : List (Str × α)) (k : Str) : Option α := (D.find? fun p => decide (p.1 = k)).map (·.2)
theorem gLook_put {α : Type} (D : List (Str × α)) (k : Str) (t : α) (k' : Str) : gLook (gPut D k t) k' = if k = k' then some t else gLook D k' := by
  unfold gPut
  by_cases h : (D.any fun p => decide (p.1 = k)) = true
  · rw [if_pos h]
    unfold gLook
    induction D with
    | nil => simp at h
    | cons p D ih =>
      rw [List.map_cons, List.find?_cons, List.find?_cons]
      by_cases c : p.1 = k
      · rw [if_pos c]
        by_cases d : k = k'
        · have : decide ((p.1, t).1 = k') = true := decide_eq_true (c.trans d)
          rw [this, if_pos d]
          rfl
        · have e1 : decide ((p.1, t).1 = k') = false := decide_eq_false fun z => d (c.symm.trans z)
          rw [e1, if_neg d]
          dsimp only
          by_cases h2 : (D.any fun p => decide (p.1 = k)) = true
          · have := ih h2
            rw [if_neg d] at this
            exact this
          · congr 1
            have : D.map (fun p => if p.1 = k then (p.1, t) else p) = D := by
              conv => rhs; rw [← List.map_id D]
              refine List.map_congr_left fun q hq => ?_
              rw [if_neg fun z => h2 (List.any_eq_true.mpr ⟨q, hq, decide_eq_true z⟩)]
              rfl
            rw [this]
      · rw [if_neg c]
        have h2 : (D.any fun p => decide (p.1 = k)) = true := by
          rw [List.any_cons, decide_eq_false c, Bool.false_or] at h
          exact h
        by_cases d : p.1 = k'
        · rw [decide_eq_true d, if_neg fun z => c (d.trans z.symm)]
        · rw [decide_eq_false d]
          exact ih h2
  · rw [if_neg h]
    unfold gLook
    rw [List.find?_append]
    have hk : ∀ p ∈ D, p.1 ≠ k := fun p hp e => h (List.any_eq_true.mpr ⟨p, hp, decide_eq_true e⟩)
    by_cases c : k = k'
    · subst c
      have : D.find? (fun p => decide (p.1 = k)) = none := List.find?_eq_none.mpr fun p hp => by simpa using hk p hp
      rw [this, if_pos rfl]
      simp
    · rw [if_neg c]
      simp [c]
theorem gPut_keys {α : Type} (D : List (Str × α)) (k : Str) (o : α) : (gPut D k o).map (·.1) = if k ∈ D.map (·.1) then D.map (·.1) else D.map (·.1) ++ [k] := putKeys D k o
theorem gPut_nd {α : Type} {D : List (Str × α)} {k : Str} {o : α} (h : (D.map (·.1)).Nodup) : ((gPut D k o).map (·.1)).Nodup := by rw [gPut_keys]; exact putNd h
theorem gPut_len {α : Type} (D : List (Str × α)) (k : Str) (o : α) : (gPut D k o).length ≤ D.length + 1 := by
  unfold gPut
  split
  · rw [List.length_map]; omega
  · rw [List.length_append]; exact Nat.le_refl _
theorem gLook_none {α : Type} {D : List (Str × α)} {k : Str} : gLook D k = none ↔ k ∉ D.map (·.1) := by
  unfold gLook
  rw [Option.map_eq_none_iff, List.find?_eq_none]
  constructor
  · intro h hm
    obtain ⟨p, hp, e⟩ := List.mem_map.mp hm
    exact h p hp (decide_eq_true e)
  · intro h p hp e
    exact h (List.mem_map.mpr ⟨p, hp, of_decide_eq_true e⟩)
theorem gLook_at {α : Type} {D : List (Str × α)} (nd : (D.map (·.1)).Nodup) {p : Str × α} (h : p ∈ D) : gLook D p.1 = some p.2 := by
  unfold gLook
  induction D with
  | nil => exact absurd h (by simp)
  | cons q D ih =>
    rw [List.map_cons, List.nodup_cons] at nd
    rcases List.mem_cons.mp h with e | h
    · subst e
      rw [List.find?_cons, decide_eq_true rfl]
      rfl
    · rw [List.find?_cons, decide_eq_false fun e : q.1 = p.1 => nd.1 (e ▸ List.mem_map_of_mem h)]
      exact ih nd.2 h
/-- what is held -/
def hS (ms : List Prt) (q : Prt) : List Prt := gPut ms q.1 (((gLook ms q.1).map (·.1)).getD q.2.1, q.2.2)
def heldOf (ps ps' : List Prt) : List Prt := ps'.foldl hS ps
def jO (f s : Option (Option Tg × Option Tg)) : Option (Option Tg × Option Tg) := match f, s with
  | none, none => none
  | f, s => some (jnP f s)
theorem jO_none (f : Option (Option Tg × Option Tg)) : jO f none = f := by cases f <;> rfl
theorem held_look : ∀ (ps' ms : List Prt), (namesOf ps').Nodup → ∀ n, gLook (heldOf ms ps') n = jO (gLook ms n) (gLook ps' n)
  | [], ms, _, n => (jO_none _).symm
  | q :: ps', ms, nd, n => by
    unfold namesOf at nd
    rw [List.map_cons, List.nodup_cons] at nd
    have ih := held_look ps' (hS ms q) nd.2 n
    show gLook (heldOf (hS ms q) ps') n = _
    rw [ih]
    unfold hS
    rw [gLook_put]
    by_cases c : q.1 = n
    · subst c
      have h1 : gLook ps' q.1 = none := gLook_none.mpr nd.1
      have h2 : gLook (q :: ps') q.1 = some q.2 := by
        unfold gLook
        rw [List.find?_cons, decide_eq_true rfl]
        rfl
      rw [if_pos rfl, h1, h2, jO_none]
      cases gLook ms q.1 with
      | none => rfl
      | some p => rfl
    · rw [if_neg c]
      have h2 : gLook (q :: ps') n = gLook ps' n := by
        unfold gLook
        rw [List.find?_cons, decide_eq_false c]
      rw [h2]
theorem held_nd : ∀ (ps' ms : List Prt), (namesOf ms).Nodup → (namesOf (heldOf ms ps')).Nodup
  | [], _, h => h
  | q :: ps', ms, h => held_nd ps' (hS ms q) (gPut_nd h)
theorem held_len : ∀ (ps' ms : List Prt), (heldOf ms ps').length ≤ ms.length + ps'.length
  | [], _ => Nat.le_refl _
  | q :: ps', ms => by
    have h1 := held_len ps' (hS ms q)
    have h2 : (hS ms q).length ≤ ms.length + 1 := gPut_len _ _ _
    show (heldOf (hS ms q) ps').length ≤ _
    rw [List.length_cons]
    omega
theorem held_mem {ps ps' : List Prt} (nd' : (namesOf ps').Nodup) (n : Str) : n ∈ namesOf (heldOf ps ps') ↔ n ∈ namesOf ps ∨ n ∈ namesOf ps' := by
  have h := held_look ps' ps nd' n
  have e : ∀ {l : List Prt}, n ∈ namesOf l ↔ gLook l n ≠ none := fun {l} => by
    constructor
    · intro hm e; exact gLook_none.mp e hm
    · intro hn
      by_cases hm : n ∈ namesOf l
      · exact hm
      · exact absurd (gLook_none.mpr hm) hn
  rw [e, e, e, h]
  cases gLook ps n <;> cases gLook ps' n <;> simp [jO]
/-- the first clash -/
def oV2 (o : Option Tg) : Prop := ∀ t, o = some t → TgV t
theorem oE_comm2 {o o' : Option Tg} (h : oV2 o) (h' : oV2 o') : oE o o' = oE o' o := by
  cases o with
  | none => cases o' <;> rfl
  | some t => cases o' with
    | none => rfl
    | some t' =>
      show tgE t t' = tgE t' t
      rw [Bool.eq_iff_iff]
      exact ⟨tgE_symm (h t rfl) (h' t' rfl), tgE_symm (h' t' rfl) (h t rfl)⟩
def clN (ps : List Prt) (q : Prt) : Bool := match gLook ps q.1 with
  | some p => !oE p.2 q.2.1
  | none => false
def wrJ (ps ps' : List Prt) : List Str := (ps'.filter (clN ps)).map (·.1)
structure PsV (ps : List Prt) : Prop where
  b : ∀ q ∈ ps, oV2 q.2.1
  a : ∀ q ∈ ps, oV2 q.2.2
theorem pLook_g (ps : List Prt) (n : Str) : pLook ps n = gLook ps n := rfl
theorem gLook_in {α : Type} {D : List (Str × α)} {k : Str} {a : α} (h : gLook D k = some a) : (k, a) ∈ D := by
  unfold gLook at h
  obtain ⟨p, hp, rfl⟩ := Option.map_eq_some_iff.mp h
  have e := List.find?_some hp
  have : p.1 = k := of_decide_eq_true e
  rw [← this]
  exact List.mem_of_find?_eq_some hp
theorem wrJ_eq {ps ps' : List Prt} (v : PsV ps) (v' : PsV ps') (nd' : (namesOf ps').Nodup) : wrJ ps ps' = (namesOf ps').filter fun n => clB (pLook ps n) (pLook ps' n) := by
  unfold wrJ namesOf
  rw [List.filter_map]
  congr 1
  refine List.filter_congr fun q hq => ?_
  show clN ps q = clB (pLook ps q.1) (pLook ps' q.1)
  rw [pLook_g, pLook_g, gLook_at nd' hq]
  unfold clN
  cases e : gLook ps q.1 with
  | none => rfl
  | some p =>
    show (!oE p.2 q.2.1) = !oE q.2.1 p.2
    rw [oE_comm2 (v.a _ (gLook_in e)) (v'.b q hq)]
theorem wrJ_first {ps ps' : List Prt} (v : PsV ps) (v' : PsV ps') (nd' : (namesOf ps').Nodup) (st : (namesOf ps').Pairwise (fun a b => a.cps.toList ≤ b.cps.toList)) {ys : List Str} (ndy : ys.Nodup) (srt : sortedS ys = true) (mem : ∀ z, z ∈ ys ↔ z ∈ namesOf ps ∨ z ∈ namesOf ps') : (wrJ ps ps').head? = clashP ps ps' ys := by
  rw [wrJ_eq v v' nd']
  unfold clashP
  generalize hcl : (fun n => clB (pLook ps n) (pLook ps' n)) = cl
  have inn : ∀ n, cl n = true → n ∈ namesOf ps' := fun n h => by
    rw [← hcl] at h
    by_cases hm : n ∈ namesOf ps'
    · exact hm
    · have := gLook_none.mpr hm
      simp only [pLook_g] at h
      have c0 : ∀ o, clB o none = false := fun o => by cases o <;> rfl
      rw [this, c0] at h
      exact Bool.noConfusion h
  have pm : ((namesOf ps').filter cl).Perm (ys.filter cl) := permOfMem (nd'.filter _) (ndy.filter _) fun z => by
    rw [List.mem_filter, List.mem_filter, mem]
    constructor
    · exact fun h => ⟨.inr h.1, h.2⟩
    · exact fun h => ⟨inn z h.2, h.2⟩
  have e : (namesOf ps').filter cl = ys.filter cl := by
    refine List.Perm.eq_of_pairwise (le := fun a b : Str => a.cps.toList ≤ b.cps.toList) (fun x y _ _ h1 h2 => ?_) (st.sublist List.filter_sublist) ((SU.pwSorted _ srt).sublist List.filter_sublist) pm
    have e := List.le_antisymm h1 h2
    cases x; cases y
    simpa using e
  rw [e]
  clear pm e inn hcl mem srt ndy
  induction ys with
  | nil => rfl
  | cons y ys ih =>
    rw [List.find?_cons]
    cases h : cl y with
    | true => rw [List.filter_cons_of_pos h]; rfl
    | false => rw [List.filter_cons_of_neg (by rw [h]; exact Bool.false_ne_true)]; exact ih
theorem joinHeld {ps ps' : List Prt} (nd' : (namesOf ps').Nodup) (ys : List Str) : joinP ps ps' ys = ys.filterMap fun n => keepP n (((gLook (heldOf ps ps') n)).getD (none, none)) := by
  unfold joinP
  congr 1
  funext n
  rw [held_look ps' ps nd' n, pLook_g, pLook_g]
  cases gLook ps n <;> cases gLook ps' n <;> rfl
end PJ

set_option Elab.async false
set_option linter.all false
set_option maxRecDepth 100000
set_option maxHeartbeats 16000000
/-! the law's joined parts -/
namespace PJ
open PySem PySem.Spec PyProof.Rows L2 KS KS.La
open KX hiding sameUpd
abbrev lJn : Stmt := top 35
section
variable {P : Program} {w : World} {K : PySem.W.Frag} {mg : Str → Option Value} {base : Heap} {f : Addr} {fd : FuncData} {CS CM CP CC NT NS MM BE : Addr}
def HeE (H0 H : Hp) (kv : Key × V) (q : Prt) : Prop := kv.1 = .inr q.1 ∧ ∃ u vb va, kv.2 = .ref u ∧ H u = some (.tup [vb, va]) ∧ ToO H0 vb q.2.1 ∧ ToO H0 va q.2.2
theorem HeE.tp {H0 H H' : Hp} {kv : Key × V} {q : Prt} (h : HeE H0 H kv q) (s : ∀ u l, H u = some (.tup l) → H' u = some (.tup l)) : HeE H0 H' kv q := let ⟨e, u, vb, va, e2, hu, b, a⟩ := h; ⟨e, u, vb, va, e2, s _ _ hu, b, a⟩
theorem heKeys {H0 H : Hp} : ∀ {kvs : List (Key × V)} {ms : List Prt}, Paired (HeE H0 H) kvs ms → kvs.map (·.1) = ((namesOf ms).map Sum.inr : List Key)
  | _, _, .nil => rfl
  | _, _, .cons a r => by
    have ih := heKeys r
    unfold namesOf at *
    rw [List.map_cons, List.map_cons, List.map_cons, a.1, ih]
theorem heLook {H0 H : Hp} (n : Str) : ∀ {kvs : List (Key × V)} {ms : List Prt}, Paired (HeE H0 H) kvs ms → (valV kvs (.inr n) = none ∧ gLook ms n = none) ∨ ∃ u vb va b a, valV kvs (.inr n) = some (.ref u) ∧ gLook ms n = some (b, a) ∧ H u = some (.tup [vb, va]) ∧ ToO H0 vb b ∧ ToO H0 va a
  | _, _, .nil => .inl ⟨rfl, rfl⟩
  | kv :: kvs, q :: ms, .cons h r => by
    obtain ⟨e1, u, vb, va, e2, hu, hb, ha⟩ := h
    obtain ⟨k, v⟩ := kv
    simp only at e1 e2
    subst e1 e2
    by_cases c : q.1 = n
    · refine .inr ⟨u, vb, va, q.2.1, q.2.2, valV_pos (p := ((Sum.inr q.1 : Key), V.ref u)) (by rw [c]), ?_, hu, hb, ha⟩
      unfold gLook
      rw [List.find?_cons, decide_eq_true c]
      rfl
    · have e3 : valV (((Sum.inr q.1 : Key), V.ref u) :: kvs) (.inr n) = valV kvs (.inr n) := valV_neg (p := ((Sum.inr q.1 : Key), V.ref u)) fun z => c (Sum.inr.inj z)
      have e4 : gLook (q :: ms) n = gLook ms n := by
        unfold gLook
        rw [List.find?_cons, decide_eq_false c]
      rw [e3, e4]
      exact heLook n r
theorem hePut {H0 H : Hp} {kvs : List (Key × V)} {ms : List Prt} {n : Str} {v : V} {o : Option Tg × Option Tg} (h : Paired (HeE H0 H) kvs ms) (hv : HeE H0 H (.inr n, v) (n, o)) : Paired (HeE H0 H) (putK kvs (.inr n) v) (gPut ms n o) := by
  have any : ∀ {kvs : List (Key × V)} {ms : List Prt}, Paired (HeE H0 H) kvs ms → (kvs.any fun kv => decide (kv.1 = (.inr n : Key))) = ms.any fun p => decide (p.1 = n) := fun h => by
    induction h with
    | nil => rfl
    | cons a _ ih =>
      rw [List.any_cons, List.any_cons, ih, a.1]
      congr 1
      exact decide_eq_decide.mpr ⟨fun h => Sum.inr.inj h, fun h => congrArg Sum.inr h⟩
  unfold putK gPut
  rw [any h]
  split
  · induction h with
    | nil => exact .nil
    | @cons kv p kvs D a r ih =>
      have gen : ∀ {kvs : List (Key × V)} {D : List Prt}, Paired (HeE H0 H) kvs D → Paired (HeE H0 H) (kvs.map fun kv => if kv.1 = (.inr n : Key) then (kv.1, v) else kv) (D.map fun p => if p.1 = n then (p.1, o) else p) := fun h => by
        induction h with
        | nil => exact .nil
        | @cons kv p kvs D a r ih =>
          rw [List.map_cons, List.map_cons]
          refine .cons ?_ ih
          by_cases c : p.1 = n
          · rw [if_pos (by rw [a.1, c]), if_pos c]
            exact ⟨a.1, hv.2⟩
          · rw [if_neg (by rw [a.1]; exact fun z => c (Sum.inr.inj z)), if_neg c]
            exact a
      exact gen (.cons a r)
  · exact pairSnoc h hv
def spJn : Sp := fun vs H Q _ => ∃ L L' ps ps', vs = [.ref L, .ref L'] ∧ LpAt H L ps ∧ LpAt H L' ps' ∧ (namesOf ps).Nodup ∧ (namesOf ps').Nodup ∧ ps.length ≤ 7 ∧ ps'.length ≤ 7 ∧ (∀ q ∈ ps', TOk q.1) ∧
  (∀ ys, ys.Nodup → sortedS ys = true → (∀ z, z ∈ ys ↔ z ∈ namesOf ps ∨ z ∈ namesOf ps') →
    wrJ ps ps' = [] → ∀ N H', Same H H' → H N = none → LpAt H' N (joinP ps ps' ys) → Q (.ref N) H') ∧ ∀ n r, wrJ ps ps' = n :: r → ∀ H', Same H H' → Q (.str n) H'
abbrev nJn : List Str := ["_law_one_here", "_law_other", "_law_held", "_law_wrong", "_law_part", "_law_name", "_law_before", "_law_after"]
theorem scJn : FnScope nJn ["_law_one_here", "_law_other"] (defScope lJn) := ⟨rfl, rfl, rfl, by decide +kernel, rfl, by decide +kernel, by decide +kernel⟩
abbrev slJ (L L' : Addr) (x2 x3 x5 x6 x7 : Option V) : L2.St := [some (.ref L), some (.ref L'), x2, x3, none, x5, x6, x7]
theorem okJn {k : Nat} (B : Bn mg) (md : mg "dict" = none) (ms : mg "sorted" = none) (F : FnP K "_law_joined" lJn f fd) : FnOk P w K mg base CX0 (k + 1) f fd ["_law_one_here", "_law_other"] spJn := by
  refine F.ok scJn (fun vs H Q E h => ?_) (fun cdv A outer s H vs Q E hr h => ?_)
  · obtain ⟨L, L', ps, ps', rfl, _⟩ := h
    rfl
  · obtain ⟨L, L', ps, ps', rfl, ⟨xs, eL, hp⟩, ⟨xs', eL', hp'⟩, nd, nd', l7, l7', tok, q⟩ := h
    have hu1 : (A.deeper (envOfC "_law_joined" (defScope lJn) s.heap.objs.size f cdv)).units + 1 < cLine := by
      have := hr.units
      omega
    have hu2 := DB.un100 hr
    have lx := hp.length
    have lx' := hp'.length
    refine ⟨_, PSs.nox (C8.pss_cut (ps_asg (pe_tup (pa_cons (pe_callTy (T := "dict") (call_dictP rfl) (by rfl) md (by decide +kernel) (pa_cons (pe_lc (own := [("_law_part", 4)]) (g := gName 4) rfl scJn.nd (pi_list (pv 0)) (blkOk_by (N := nJn) (sc := defScope lJn) (by decide +kernel))
            (fun _ _ _ _ _ => pg_name (i := 4) scJn.nd rfl (.inl rfl) (hf := .inr rfl)) (fun _ _ _ _ _ => pts_nil) (fun _ _ _ _ _ => pe_tup (pa_cons (pe_ix (r := rIxT K) ix_tup (pv 4) pe_int (fun _ _ => rfl)) (pa_cons (pe_slice (r := rSlT K) sl_tup (pv 4) (po_some pe_int) po_none) pa_nil)))) pa_nil)) (pa_cons (pe_lst pa_nil) pa_nil))) (pg_tup rfl (pgs_cons ((pg_name (i := 2) scJn.nd rfl (.inr rfl))) (pgs_cons ((pg_name (i := 3) scJn.nd rfl (.inl rfl))) pgs_nil)))) (C8.pss_cut (ps_for PassesOwn.never rfl (pi_list (pv 1)) (pg_tup rfl (pgs_cons ((pg_name (i := 5) scJn.nd rfl (.inl rfl))) (pgs_cons ((pg_name (i := 6) scJn.nd rfl (.inl rfl))) (pgs_cons ((pg_name (i := 7) scJn.nd rfl (.inl rfl))) pgs_nil))))
        (C8.pss_cut (ps_if (PW.pt (pw_and (pt_cmp (pc_din hu1 (pv 5) (pv 2))) (pw_and1 (pt_cmpR (r := ET.rNeE K) (ET.op_neE hu2) (pe_ix ix_tup (pe_dget hu1 (pv 2) (pv 5) (fun _ _ => rfl)) pe_int (fun _ _ => rfl)) (pv 6) (nomark _))))) (pss_one (ps_expr (pe_bm PySem.F.plainAttrs_list PySem.F.slot_list_append PySem.F.type_list_append mt_append (pv 3) (pa_cons (pv 5) pa_nil)))) pss_nil) (pss_one (ps_dput hu1 (pv 2) (pv 5) (pe_tup (pa_cons (pe_ix ix_tup (pe_dget2 hu1 (pv 2) (pv 5) (pe_tup (pa_cons (pv 6) (pa_cons (pv 6) pa_nil))) ⟨rfl, rfl, rfl, rfl⟩) pe_int (fun _ _ => rfl)) (pa_cons (pv 7) pa_nil))) rfl)))) (pss_cons (ps_if (pt_cmpR (r := rNeD K) (op_neD hr.units) (pv 3) (pe_lst pa_nil) (nomark _)) (pss_one (ps_ret (pe_ix ix_list (pv 3) pe_int (fun _ _ => rfl)))) pss_nil) (pss_one (ps_ret (pe_lc (own := [("_law_name", 5)]) (g := gName 5) rfl scJn.nd (pi_list (pe_callB (call_sortedD rfl) (by rfl) ms (by decide +kernel) (pa_cons (pv 2) pa_nil))) (blkOk_by (N := nJn) (sc := defScope lJn) (by decide +kernel))
          (fun _ _ _ _ _ => pg_name (i := 5) scJn.nd rfl (.inl rfl) (hf := .inr rfl)) (fun _ _ _ _ _ => pts_one (pt_cmpR (r := ET.rNeE K) (ET.op_neE hu2) (pe_ix (r := rIxT K) ix_tup (pe_dget hu1 (pv 2) (pv 5) (fun _ _ => rfl)) pe_int (fun _ _ => rfl)) (pe_ix (r := rIxT K) ix_tup (pe_dget hu1 (pv 2) (pv 5) (fun _ _ => rfl)) pe_int (fun _ _ => rfl)) (nomark _)))
          (fun _ _ _ _ _ => pe_op (r := rCatA K) op_catA (pe_tup (pa_cons (pv 5) pa_nil)) (pe_dget hu1 (pv 2) (pv 5) (fun _ _ => rfl))))))))), ?_⟩
    refine ⟨fun σ' H' => ∃ D W kv2, σ' = slJ L L' (some (.ref D)) (some (.ref W)) none none none ∧ Same H H' ∧ H D = none ∧ H W = none ∧ W ≠ D ∧ H' D = some (.dK kv2) ∧ Paired (HeE H H') kv2 ps ∧ H' W = some (.lst []), ?_, ?_⟩
    · refine ⟨.ref L, rfl, L, rfl, ⟨_, .inl (.inl eL)⟩, fun N hN => ?_⟩
      refine lcJ (n := ps.length) (vs := [4]) (fun i H' => ∃ (qs : List Addr) (kvs : List (Key × V)), H' N = some (.lst (qs.map V.ref)) ∧ Paired (fun p (kv : Key × V) => H' p = some (.tup [kV kv.1, kv.2])) qs kvs ∧ Paired (HeE H H') kvs (ps.take i) ∧ qs.length ≤ i ∧ Same H H') ⟨[], [], upd_same, .nil, .nil, Nat.le_refl _, KS.sameUpd hN⟩
        (fun i H' lt h => by obtain ⟨_, _, _, _, _, _, s⟩ := h; exact ⟨_, xs[i], .inl (.inl (s _ _ eL)), List.getElem?_eq_getElem (by omega)⟩) (fun H' h => by obtain ⟨_, _, _, _, _, _, s⟩ := h; exact ⟨_, .inl (.inl (s _ _ eL)), by omega⟩) (fun i H' x H2 lt h y => ?_) (fun H2 h => ?_)
      · obtain ⟨rfl, y⟩ := y
        obtain ⟨qs, kvs, eN, pq, pm, lq, s2⟩ := h
        have ex := y _ (.inl (.inl (s2 _ _ eL)))
        obtain ⟨v, e1, u, vb, va, rfl, hu, hb, ha⟩ := pairAt hp (List.getElem?_eq_getElem lt)
        obtain rfl : V.ref u = x := Option.some.inj (e1.symm.trans ex)
        have hu2' := s2 _ _ hu
        refine ⟨rfl, ?_⟩
        unfold tYes
        dsimp only
        rw [if_pos rfl]
        refine ⟨.ref u, rfl, u, _, 0, .str ps[i].1, rfl, rfl, .inl (.inl hu2'), atI_nat (j := 0) rfl, .ref u, rfl, 1, rfl, u, _, rfl, .inl (.inl hu2'), (by rintro ⟨h, _⟩; exact absurd (show (1 : Nat) = 0 from h) (by decide)), fun p hp0 => ⟨(by show 2 ≤ sizeLine; decide), fun z hz => ?_⟩⟩
        have e2 : upd H2 p (.tup (cutV [.str ps[i].1, vb, va] (some 1) none)) p = some (.tup [vb, va]) := upd_same
        have s3 := KS.sameUpd (o := .tup (cutV [.str ps[i].1, vb, va] (some 1) none)) hp0
        have s4 := KS.sameUpd (o := .tup [.str ps[i].1, .ref p]) hz
        have e3 : upd (upd H2 p (.tup (cutV [.str ps[i].1, vb, va] (some 1) none))) z (.tup [.str ps[i].1, .ref p]) z = some (.tup [.str ps[i].1, .ref p]) := upd_same
        have e2' := s4 _ _ e2
        have s24 := s3.trans s4
        generalize upd (upd H2 p (.tup (cutV [.str ps[i].1, vb, va] (some 1) none))) z (.tup [.str ps[i].1, .ref p]) = H4 at *
        have eN4 := s24 _ _ eN
        have t6 : Stl H4 (upd H4 N (.lst (qs.map V.ref ++ [.ref z]))) := Stl.lst eN4 Kp.put
        refine ⟨qs.map V.ref, eN4, by rw [sizeLine_eq, List.length_map]; omega, qs ++ [z], kvs ++ [(.inr ps[i].1, .ref p)], by rw [List.map_append]; exact upd_same, ?_, ?_, by rw [List.length_append]; show qs.length + 1 ≤ _; omega, fun b o hb => ?_⟩
        · exact pairSnoc (L2.Paired.mapP pq fun p kv h => t6 _ _ (s24 _ _ h) fun _ z => nomatch z) (t6 _ _ e3 fun _ z => nomatch z)
        · rw [List.take_succ_eq_append_getElem lt]
          exact pairSnoc (L2.Paired.mapP pm fun kv q h => h.tp fun u l hu => t6 _ _ (s24 _ _ hu) fun _ z => nomatch z) ⟨rfl, p, vb, va, rfl, t6 _ _ e2' (fun _ z => nomatch z), hb, ha⟩
        · rw [upd_ne (ne_of_none hb hN)]
          exact s24 _ _ (s2 _ _ hb)
      · obtain ⟨qs, kvs, eN, pq, pm, lq, s2⟩ := h
        rw [List.take_length] at pm
        have ndF : (kvs.map (·.1)).Nodup := by
          rw [heKeys pm, List.nodup_iff_pairwise_ne, List.pairwise_map]
          rw [List.nodup_iff_pairwise_ne] at nd
          exact nd.imp fun n e => n (Sum.inr.inj e)
        refine ⟨N, qs, kvs, rfl, .inl (.inl eN), L2.Paired.mapP pq fun _ _ h => .inl (.inl h), fun D hD => ?_⟩
        have em : mergeK [] kvs = kvs := by
          have := mergeApp kvs [] (by rw [List.nil_append]; exact ndF)
          rw [List.nil_append] at this
          exact this
        rw [em]
        have z1 := KS.sameUpd (o := .dK kvs) hD
        have eD : upd H2 D (.dK kvs) D = some (.dK kvs) := upd_same
        generalize upd H2 D (.dK kvs) = H3 at *
        refine ⟨Nat.zero_le _, fun W hW => ⟨(by show 2 ≤ sizeLine; decide), fun U hU => ?_⟩⟩
        have z2 := KS.sameUpd (o := .lst []) hW
        have z3 := KS.sameUpd (o := .tup [.ref D, .ref W]) hU
        have zz := z1.trans (z2.trans z3)
        have eU : upd (upd H3 W (.lst [])) U (.tup [.ref D, .ref W]) U = some (.tup [.ref D, .ref W]) := upd_same
        refine ⟨U, _, rfl, .inl (.inl eU), rfl, .ref D, _, rfl, .ref W, _, rfl, rfl, D, W, kvs, rfl, s2.trans zz, noneSame s2 hD, noneSame s2 (noneSame z1 hW), fun e => (by rw [e, eD] at hW; cases hW), z3 _ _ (z2 _ _ eD), ?_, z3 _ _ upd_same⟩
        exact L2.Paired.mapP pm fun kv q h => h.tp fun u l hu => zz _ _ hu
    rintro _ H1 ⟨D, W, kv1, rfl, s1, nD, nW, nWD, eD1, pm1, eW1⟩
    -- the others
    refine ⟨fun σ' H' => ∃ x5 x6 x7 kv2, σ' = slJ L L' (some (.ref D)) (some (.ref W)) x5 x6 x7 ∧ Same H H' ∧ H' D = some (.dK kv2) ∧ Paired (HeE H H') kv2 (heldOf ps ps') ∧ H' W = some (.lst ((wrJ ps ps').map V.str)), ?_, ?_⟩
    · refine ⟨.ref L', rfl, L', rfl, ⟨_, .inl (.inl (s1 _ _ eL'))⟩, ?_⟩
      refine forJ (n := ps'.length) (fun i σ' H' => ∃ x5 x6 x7 kv2, σ' = slJ L L' (some (.ref D)) (some (.ref W)) x5 x6 x7 ∧ Same H H' ∧ H' D = some (.dK kv2) ∧ Paired (HeE H H') kv2 (heldOf ps (ps'.take i)) ∧ H' W = some (.lst ((wrJ ps (ps'.take i)).map V.str)))
        ⟨none, none, none, kv1, rfl, s1, eD1, pm1, eW1⟩
        (fun i σ' H' lt h => by obtain ⟨_, _, _, _, _, s, _⟩ := h; exact ⟨_, xs'[i], .inl (.inl (s _ _ eL')), List.getElem?_eq_getElem (by omega)⟩)
        (fun σ' H' h => by obtain ⟨_, _, _, _, _, s, _⟩ := h; exact ⟨_, .inl (.inl (s _ _ eL')), by omega⟩) (fun i σ' H0 x H2 lt h y => ?_) (fun σ' H' h => ?_)
      · obtain ⟨rfl, y⟩ := y
        obtain ⟨x5, x6, x7, kv2, rfl, s2, eD2, pm2, eW2⟩ := h
        have ex := y _ (.inl (.inl (s2 _ _ eL')))
        obtain ⟨v, e1, u, vb, va, rfl, hu, hb, ha⟩ := pairAt hp' (List.getElem?_eq_getElem lt)
        obtain rfl : V.ref u = x := Option.some.inj (e1.symm.trans ex)
        have lh := held_len (ps'.take i) ps
        rw [List.length_take] at lh
        have lk2 : kv2.length ≤ 14 := by rw [pm2.length]; omega
        have ndi : (namesOf (ps'.take i)).Nodup := by unfold namesOf at *; rw [List.map_take]; exact nd'.sublist (List.take_sublist _ _)
        have nn : gLook (ps'.take i) ps'[i].1 = none := gLook_none.mpr (by
          rw [List.map_take]
          have lt' : i < (ps'.map (·.1)).length := by rw [List.length_map]; exact lt
          have := notTake (show (ps'.map (·.1)).Nodup from nd') lt'
          rw [List.getElem_map] at this
          exact this)
        have hl := held_look (ps'.take i) ps ndi ps'[i].1
        rw [nn, jO_none] at hl
        have hsn : heldOf ps (ps'.take (i + 1)) = gPut (heldOf ps (ps'.take i)) ps'[i].1 (((gLook ps ps'[i].1).map (·.1)).getD ps'[i].2.1, ps'[i].2.2) := by
          have : heldOf ps (ps'.take (i + 1)) = hS (heldOf ps (ps'.take i)) ps'[i] := by
            unfold heldOf
            rw [List.take_succ_eq_append_getElem lt, List.foldl_append]
            rfl
          rw [this]
          unfold hS
          rw [hl]
        have wsn : wrJ ps (ps'.take (i + 1)) = wrJ ps (ps'.take i) ++ (if clN ps ps'[i] = true then [ps'[i].1] else []) := by
          rw [List.take_succ_eq_append_getElem lt]
          unfold wrJ
          rw [List.filter_append, List.map_append]
          congr 1
          cases e : clN ps ps'[i] with
          | true => rw [List.filter_cons_of_pos e, if_pos rfl]; rfl
          | false => rw [List.filter_cons_of_neg (by rw [e]; exact Bool.false_ne_true), if_neg Bool.false_ne_true]; rfl
        have lwr : (wrJ ps (ps'.take i)).length ≤ 7 := by
          unfold wrJ
          rw [List.length_map]
          have := List.length_filter_le (clN ps) (ps'.take i)
          rw [List.length_take] at this
          omega
        rw [hsn]
        refine ⟨u, _, rfl, .inl (.inl (s2 _ _ hu)), rfl, .str ps'[i].1, _, rfl, vb, _, rfl, va, _, rfl, rfl, ?_⟩
        have hlk := heLook ps'[i].1 pm2
        rw [hl] at hlk
        -- does it clash?
        refine ⟨fun σ' H' => σ' = slJ L L' (some (.ref D)) (some (.ref W)) (some (.str ps'[i].1)) (some vb) (some va) ∧ Kp W H2 H' ∧ H' W = some (.lst ((wrJ ps (ps'.take (i + 1))).map V.str)), ?_, ?_⟩
        · rw [wsn]
          refine ⟨.str ps'[i].1, rfl, .ref D, rfl, D, _, rfl, DGet.k (k := Sum.inr ps'[i].1) eD2, _, rfl, ?_⟩
          rcases hlk with ⟨e, e2⟩ | ⟨u2, vb2, va2, b2, a2, e, e2, hu2, hb2, ha2⟩
          · rw [e]
            refine iteF ⟨rfl, Kp.refl _ _, ?_⟩
            have : clN ps ps'[i] = false := by unfold clN; rw [e2]
            rw [if_neg (by rw [this]; exact Bool.false_ne_true), List.append_nil]
            exact eW2
          · rw [e]
            have dg : DGet H2 D (.str ps'[i].1) (some (.ref u2)) := by rw [← e]; exact DGet.k (k := Sum.inr ps'[i].1) eD2
            refine iteT ⟨.ref D, rfl, .str ps'[i].1, rfl, D, .ref u2, rfl, dg, u2, _, 1, va2, rfl, rfl, .inl (.inl hu2), atI_nat (j := 1) rfl, vb, rfl, _, toO_et (ha2.stl (Stl.same s2)) (hb.stl (Stl.same s2)), _, rfl, ?_⟩
            have ec : clN ps ps'[i] = !oE a2 ps'[i].2.1 := by unfold clN; rw [e2]
            rw [ec]
            cases eo : oE a2 ps'[i].2.1 with
            | true =>
              refine iteF ⟨rfl, Kp.refl _ _, ?_⟩
              rw [if_neg (by simp), List.append_nil]
              exact eW2
            | false =>
              refine iteT ⟨.ref W, rfl, .inl ⟨rfl, _, .inl (.inl eW2)⟩, .str ps'[i].1, rfl, W, _, _, rfl, rfl, eW2, by rw [List.length_map, sizeLine_eq]; omega, rfl, Kp.put, ?_⟩
              rw [if_pos (by simp), upd_same, List.map_append]
              rfl
        rintro _ H3 ⟨rfl, k3, eW3⟩
        have eD3 := k3 _ _ (Ne.symm nWD) eD2
        have s3 : Same H H3 := fun b o hb => k3 _ _ (ne_of_none hb nW) (s2 _ _ hb)
        have tp3 : ∀ {u : Addr} {l : List V}, H2 u = some (.tup l) → H3 u = some (.tup l) := fun {u l} hu => k3 _ _ (fun e => by rw [e, eW2] at hu; cases hu) hu
        have pm3 : Paired (HeE H H3) kv2 (heldOf ps (ps'.take i)) := L2.Paired.mapP pm2 fun kv q h => h.tp fun u l hu => tp3 hu
        -- what is held behind it
        refine ⟨.ref D, rfl, D, rfl, .inl ⟨_, .inl eD3⟩, .str ps'[i].1, rfl, vb, rfl, vb, rfl, (by show 2 ≤ sizeLine; decide), fun z hz => ?_⟩
        have sz := KS.sameUpd (o := .tup [vb, vb]) hz
        have ez : upd H3 z (.tup [vb, vb]) z = some (.tup [vb, vb]) := upd_same
        generalize upd H3 z (.tup [vb, vb]) = H4 at *
        have eD4 := sz _ _ eD3
        have eW4 := sz _ _ eW3
        have s4 := s3.trans sz
        have tp4 : ∀ {u : Addr} {l : List V}, H2 u = some (.tup l) → H4 u = some (.tup l) := fun hu => sz _ _ (tp3 hu)
        obtain ⟨v0, w0, iv, go⟩ : ∃ (v0 : V) (w0 : Addr), ((valV kv2 (.inr ps'[i].1)).getD (.ref z) = .ref w0 ∧ ∃ l, H4 w0 = some (.tup (v0 :: l))) ∧ ToO H v0 (((gLook ps ps'[i].1).map (·.1)).getD ps'[i].2.1) := by
          rcases hlk with ⟨e, e2⟩ | ⟨u2, vb2, va2, b2, a2, e, e2, hu2, hb2, ha2⟩
          · exact ⟨vb, z, ⟨by rw [e]; rfl, _, ez⟩, by rw [e2]; exact hb⟩
          · exact ⟨vb2, u2, ⟨by rw [e]; rfl, _, tp4 hu2⟩, by rw [e2]; exact hb2⟩
        obtain ⟨iv1, l0, iv2⟩ := iv
        refine ⟨_, DGet.k (k := Sum.inr ps'[i].1) eD4, ?_⟩
        rw [iv1]
        refine ⟨w0, _, 0, v0, rfl, rfl, .inl (.inl iv2), atI_nat (j := 0) rfl, va, rfl, (by show 2 ≤ sizeLine; decide), fun z2 hz2 => ?_⟩
        have sz2 := KS.sameUpd (o := .tup [v0, va]) hz2
        have ez2 : upd H4 z2 (.tup [v0, va]) z2 = some (.tup [v0, va]) := upd_same
        generalize upd H4 z2 (.tup [v0, va]) = H5 at *
        have eD5 := sz2 _ _ eD4
        have eW5 := sz2 _ _ eW4
        refine ⟨.ref D, rfl, .str ps'[i].1, rfl, D, _, rfl, DPut.k (k := Sum.inr ps'[i].1) eD5 (by rw [sizeLine_eq]; omega), ?_⟩
        have tp6 : ∀ {u : Addr} {l : List V}, H5 u = some (.tup l) → upd H5 D (.dK (putK kv2 (.inr ps'[i].1) (.ref z2))) u = some (.tup l) := fun {u l} hu => by rw [upd_ne fun e => by rw [e, eD5] at hu; cases hu]; exact hu
        refine ⟨_, _, _, _, rfl, fun b o hb => ?_, upd_same, hePut (L2.Paired.mapP pm2 fun kv q h => h.tp fun u l hu => tp6 (sz2 _ _ (tp4 hu))) ⟨rfl, z2, v0, va, rfl, tp6 ez2, go, ha⟩, by rw [upd_ne nWD]; exact eW5⟩
        rw [upd_ne (ne_of_none hb nD)]
        exact sz2 _ _ (s4 _ _ hb)
      · obtain ⟨x5, x6, x7, kv2, rfl, s2, eD2, pm2, eW2⟩ := h
        rw [List.take_length] at pm2 eW2
        exact ⟨x5, x6, x7, kv2, rfl, s2, eD2, pm2, eW2⟩
    rintro _ H2 ⟨x5, x6, x7, kv2, rfl, s2, eD2, pm2, eW2⟩
    have wtok : ∀ z ∈ wrJ ps ps', TOk z := fun z hz => by
      obtain ⟨q0, hq, rfl⟩ := List.mem_map.mp hz
      exact tok _ (List.mem_filter.mp hq).1
    refine ⟨.ref W, rfl, Nat.zero_le _, fun Ln hLn => ?_⟩
    have sL := KS.sameUpd (o := .lst []) hLn
    refine neNil (n := (wrJ ps ps').length) (sL _ _ eW2) upd_same (strsOd wtok) ?_
    rw [decNil]
    have s3 := s2.trans sL
    have eD3 := sL _ _ eD2
    have eW3 := sL _ _ eW2
    have pm3 : Paired (HeE H (upd H2 Ln (.lst []))) kv2 (heldOf ps ps') := L2.Paired.mapP pm2 fun kv q h => h.tp fun u l hu => sL _ _ hu
    generalize upd H2 Ln (.lst []) = H3 at *
    have hnd := held_nd ps' ps nd
    have hln := held_len ps' ps
    have lnm : (namesOf (heldOf ps ps')).length ≤ 14 := by unfold namesOf; rw [List.length_map]; omega
    cases ew : wrJ ps ps' with
    | cons n r =>
      rw [ew] at eW3
      rw [decide_eq_false (List.cons_ne_nil _ _)]
      exact ⟨_, rfl, iteT ⟨.ref W, rfl, W, _, 0, .str n, rfl, rfl, .inl (.inl eW3), atI_nat (j := 0) rfl, q.2 n r ew H3 s3⟩⟩
    | nil =>
      rw [decide_eq_true rfl]
      refine ⟨_, rfl, iteF ⟨.ref D, rfl, D, kv2, _, rfl, .inl eD3, heKeys pm3, by omega, fun ys pl pys srt hpl => ?_⟩⟩
      have mem : ∀ z, z ∈ ys ↔ z ∈ namesOf ps ∨ z ∈ namesOf ps' := fun z => by rw [pys.mem_iff]; exact held_mem nd' z
      have ndy : ys.Nodup := pys.nodup_iff.mpr hnd
      have q1 := q.1 ys ndy srt mem ew
      rw [joinHeld nd'] at q1
      have sp := KS.sameUpd (o := .lst (ys.map V.str)) hpl
      have epl : upd H3 pl (.lst (ys.map V.str)) pl = some (.lst (ys.map V.str)) := upd_same
      have eD4 := sp _ _ eD3
      have s4 := s3.trans sp
      have pm4 : Paired (HeE H (upd H3 pl (.lst (ys.map V.str)))) kv2 (heldOf ps ps') := L2.Paired.mapP pm3 fun kv q h => h.tp fun u l hu => sp _ _ hu
      generalize upd H3 pl (.lst (ys.map V.str)) = H4 at *
      have ly : ys.length ≤ 14 := by rw [pys.length_eq]; exact lnm
      refine ⟨pl, rfl, ⟨_, .inl (.inl epl)⟩, fun N hN => ?_⟩
      refine lcJ (n := ys.length) (vs := [5]) (fun j H' => Same H4 H' ∧ ∃ zs, H' N = some (.lst zs) ∧ zs.length ≤ j ∧ Paired (TpAt H') zs ((ys.take j).filterMap fun n => keepP n ((gLook (heldOf ps ps') n).getD (none, none)))) ⟨KS.sameUpd hN, [], upd_same, Nat.le_refl _, .nil⟩
        (fun j H' lt h => ⟨_, V.str ys[j], .inl (.inl (h.1 _ _ epl)), by rw [List.getElem?_map, List.getElem?_eq_getElem lt]; rfl⟩) (fun H' h => ⟨_, .inl (.inl (h.1 _ _ epl)), by rw [List.length_map]; exact Nat.le_refl _⟩) (fun j H' x H5 lt h y => ?_) (fun H5 h => ?_)
      · obtain ⟨rfl, y⟩ := y
        obtain ⟨s5, zs, eN, lz, pz⟩ := h
        have ex := y _ (.inl (.inl (s5 _ _ epl)))
        rw [List.getElem?_map, List.getElem?_eq_getElem lt] at ex
        obtain rfl : V.str ys[j] = x := Option.some.inj ex
        have hm : ys[j] ∈ namesOf (heldOf ps ps') := pys.mem_iff.mp (List.getElem_mem lt)
        have eD5 := s5 _ _ eD4
        rcases heLook ys[j] pm4 with ⟨e, e2⟩ | ⟨u2, vb2, va2, b2, a2, e, e2, hu2, hb2, ha2⟩
        · exact absurd hm (gLook_none.mp e2)
        have hu5 := s5 _ _ hu2
        have s05 := s4.trans s5
        have dg : ∀ {H'}, Same H5 H' → DGet H' D (.str ys[j]) (some (.ref u2)) := fun {H'} s => by rw [← e]; exact DGet.k (k := Sum.inr ys[j]) (s _ _ eD5)
        have fs : (ys.take (j + 1)).filterMap (fun n => keepP n ((gLook (heldOf ps ps') n).getD (none, none))) = (ys.take j).filterMap (fun n => keepP n ((gLook (heldOf ps ps') n).getD (none, none))) ++ (keepP ys[j] (b2, a2)).toList := by
          rw [List.take_succ_eq_append_getElem lt, List.filterMap_append]
          refine congrArg _ ?_
          rw [List.filterMap_cons, List.filterMap_nil, e2, Option.getD_some]
          cases keepP ys[j] (b2, a2) <;> rfl
        rw [fs]
        refine ⟨rfl, .ref D, rfl, .str ys[j], rfl, D, .ref u2, rfl, dg (Same.refl _), u2, _, 0, vb2, rfl, rfl, .inl (.inl hu5), atI_nat (j := 0) rfl, .ref D, rfl, .str ys[j], rfl, D, .ref u2, rfl, dg (Same.refl _), u2, _, 1, va2, rfl, rfl, .inl (.inl hu5), atI_nat (j := 1) rfl, _, toO_et (hb2.stl (Stl.same s05)) (ha2.stl (Stl.same s05)), _, rfl, ?_⟩
        unfold keepP
        simp only
        cases eo : oE b2 a2 with
        | true =>
          rw [if_neg (by simp), if_pos rfl]
          rw [show (none : Option Prt).toList = [] from rfl, List.append_nil]
          exact ⟨s5, zs, eN, by omega, pz⟩
        | false =>
          rw [if_pos (by simp), if_neg (by simp)]
          refine ⟨.str ys[j], rfl, (by show 1 ≤ sizeLine; decide), fun z hz => ?_⟩
          have sz := KS.sameUpd (o := .tup [.str ys[j]]) hz
          refine ⟨.ref D, rfl, .str ys[j], rfl, D, .ref u2, rfl, dg sz, z, u2, [.str ys[j]], [vb2, va2], rfl, rfl, .inl (.inl upd_same), .inl (.inl (sz _ _ hu5)), (by show 3 ≤ sizeLine; decide), (fun e => nomatch e), (fun _ e => nomatch e), fun _ _ p hp0 => ?_⟩
          have s6 := sz.trans (KS.sameUpd (o := .tup ([V.str ys[j]] ++ [vb2, va2])) hp0)
          have ep : upd (upd H5 z (.tup [.str ys[j]])) p (.tup ([V.str ys[j]] ++ [vb2, va2])) p = some (.tup [.str ys[j], vb2, va2]) := upd_same
          show ∃ acc, upd (upd H5 z (.tup [.str ys[j]])) p (.tup ([V.str ys[j]] ++ [vb2, va2])) N = some (.lst acc) ∧ _
          have npN : p ≠ N := fun e => by rw [e, sz _ _ eN] at hp0; cases hp0
          generalize upd (upd H5 z (.tup [.str ys[j]])) p (.tup ([V.str ys[j]] ++ [vb2, va2])) = H6 at *
          have eN6 := s6 _ _ eN
          have st : Stl H6 (upd H6 N (.lst (zs ++ [.ref p]))) := Stl.lst eN6 Kp.put
          refine ⟨zs, eN6, by rw [sizeLine_eq]; omega, fun b o hb => ?_, zs ++ [.ref p], upd_same, ?_, ?_⟩
          · rw [upd_ne (ne_of_none hb hN)]
            exact s6 _ _ (s5 _ _ hb)
          · rw [List.length_append]
            show zs.length + 1 ≤ j + 1
            omega
          · exact pairSnoc (L2.Paired.mapP pz fun _ _ h => (h.stl (Stl.same s6)).stl st) ⟨p, vb2, va2, rfl, by rw [upd_ne npN]; exact ep, ((hb2.stl (Stl.same s05)).stl (Stl.same s6)).stl st, ((ha2.stl (Stl.same s05)).stl (Stl.same s6)).stl st⟩
      · obtain ⟨s5, zs, eN, lz, pz⟩ := h
        rw [List.take_length] at pz
        exact q1 N H5 (s4.trans s5) (noneSame s4 hN) ⟨zs, eN, pz⟩
end
end PJ

set_option Elab.async false
set_option linter.all false
set_option maxRecDepth 100000
set_option maxHeartbeats 16000000
/-! is a change as its parts, in all that it tells? -/
namespace PJ
open PySem PySem.Spec PyProof.Rows L2 KS KS.La
open KX hiding sameUpd
abbrev lLike : Stmt := top 37
theorem namesSh {l : List Str} (hl : l.length ≤ 100) (h : ∀ z ∈ l, TOk z) : SeqAt.shaped (argsD l) = true := by
  refine (Od.tup (n := 0) (by rw [List.length_map]; exact hl) fun d hd => ?_).shaped (by decide)
  obtain ⟨z, hz, rfl⟩ := List.mem_map.mp hd
  exact rOd z (h z hz)
theorem oE_refl2 {o : Option Tg} (h : oV2 o) : oE o o = true := by
  cases o with
  | none => rfl
  | some t => exact tgE_refl (h t rfl)
theorem psE_refl {ps : List Prt} (v : PsV ps) : psE ps ps = true := by
  unfold psE
  rw [beq_self_eq_true, Bool.and_true]
  have gen : ∀ l : List Prt, (∀ q ∈ l, q ∈ ps) → zE l l = true := fun l => by
    induction l with
    | nil => intro _; rfl
    | cons q l ih =>
      intro h
      have hq := h q List.mem_cons_self
      show (pE q q && zE l l) = true
      rw [ih fun x hx => h x (List.mem_cons_of_mem _ hx), Bool.and_true]
      unfold pE
      rw [oE_refl2 (v.b q hq), oE_refl2 (v.a q hq)]
      simp
  exact gen ps fun _ h => h
theorem ToO.v2 {K : PySem.W.Frag} {H : Hp} {v : V} {o : Option Tg} (h : ToO H v o) : oV2 o := fun t e => by
  subst e
  exact ToAt.tgv (K := K) h
theorem lpV {K : PySem.W.Frag} {H : Hp} {L : Addr} {ps : List Prt} (h : LpAt H L ps) : PsV ps := by
  obtain ⟨xs, _, p⟩ := h
  refine ⟨fun q hq => ?_, fun q hq => ?_⟩
  · obtain ⟨i, lt, rfl⟩ := List.mem_iff_getElem.mp hq
    obtain ⟨v, _, t, vb, va, _, _, hb, ha⟩ := pairAt p (List.getElem?_eq_getElem lt)
    exact hb.v2 (K := K)
  · obtain ⟨i, lt, rfl⟩ := List.mem_iff_getElem.mp hq
    obtain ⟨v, _, t, vb, va, _, _, hb, ha⟩ := pairAt p (List.getElem?_eq_getElem lt)
    exact ha.v2 (K := K)
section
variable {P : Program} {w : World} {K : PySem.W.Frag} {mg : Str → Option Value} {base : Heap} {f : Addr} {fd : FuncData} {CS CM CP CC NT NS MM BE : Addr}
structure Chm (P : Program) (w : World) (K : PySem.W.Frag) (mg : Str → Option Value) (base : Heap) (CS CM CC : Addr) : Prop where
  len : ∃ (f : Addr) (fd : FuncData), PySem.W.findIn K (.ref CC) "__len__" = some (some (.ref f)) ∧ PySem.W.isFn K (.ref f) = true ∧ Binds K fd ["self"] [] ∧ FnOk P w K mg base CX0 1 f fd ["self"] (spCLen K CS CM CC)
  has : ∃ (f : Addr) (fd : FuncData), PySem.W.findIn K (.ref CC) "__contains__" = some (some (.ref f)) ∧ PySem.W.isFn K (.ref f) = true ∧ Binds K fd ["self", "x"] [] ∧ FnOk P w K mg base CX0 3 f fd ["self", "x"] (spCHas K CS CM CC)
  eq : ∃ (f : Addr) (fd : FuncData), PySem.W.findIn K (.ref CC) "__eq__" = some (some (.ref f)) ∧ PySem.W.isFn K (.ref f) = true ∧ Binds K fd ["self", "other"] [] ∧ FnOk P w K mg base CX0 4 f fd ["self", "other"] (spCEq K CS CM CC)
  ne : PySem.W.findIn K (.ref CC) "__ne__" = some (some (.builtin "object.__ne__"))
abbrev nLike : List Str := ["_law_change", "_law_parts", "_law_targets", "_law_names_here", "_law_part", "_law_name"]
theorem scLike : FnScope nLike ["_law_change", "_law_parts", "_law_targets"] (defScope lLike) := ⟨rfl, rfl, rfl, by decide +kernel, rfl, by decide +kernel, by decide +kernel⟩
theorem okLike {k : Nat} (B : Bn mg) (G : Chc P w K mg base CC MM) (J : Cnm P w K mg base CS CM CC) (J' : Chm P w K mg base CS CM CC)
    (aH : Has P w K mg base 4 "_law_handed" ["_law_feed", "_law_parts"] (spHand CS CM)) (aN : Has P w K mg base 1 "_law_names" [] spNms) (aD : Has P w K mg base 8 "_law_is_done" ["_law_change", "_law_parts", "_law_targets"] (spIsDn K CS CM CC))
    (F : FnP K "_law_is_like" lLike f fd) : FnOk P w K mg base CX0 (k + 9) f fd ["_law_change", "_law_parts", "_law_targets"] (spIsDn K CS CM CC) := by
  obtain ⟨fH, dH, gH, kH, bH, GH⟩ := aH.ex
  obtain ⟨fM, dM, gM, kM, bM, GM⟩ := aN.ex
  obtain ⟨fD, dD, gD, kD, bD, GD⟩ := aD.ex
  obtain ⟨pN, gN, dN, hN, bN, GN⟩ := J.nam
  obtain ⟨fL, dL, hL1, hL2, bL, GL⟩ := J'.len
  obtain ⟨fC, dC, hC1, hC2, bC, GC⟩ := J'.has
  obtain ⟨fE, dE, hE1, hE2, bE, GE⟩ := J'.eq
  obtain ⟨fI, dI, MI, bI, GI⟩ := G.mkC
  refine F.ok scLike (fun vs H Q E h => ?_) (fun cdv A outer s H vs Q E hr h => ?_)
  · obtain ⟨c, L, d, ps, T, rfl, _⟩ := h
    rfl
  · obtain ⟨c, L, d, ps, T, rfl, ch, lp, kt, ok, pk, tk, q⟩ := h
    have r1 : Room 1 _ := hr.mono (by omega)
    have r11 : Room (1 + 1) _ := hr.mono (by omega)
    have r3 : Room 3 _ := hr.mono (by omega)
    have r4 : Room 4 _ := hr.mono (by omega)
    have r41 : Room (4 + 1) _ := hr.mono (by omega)
    have r8 : Room 8 _ := hr.mono (by omega)
    have l40 := ok.few
    have pv0 := lpV (K := K) lp
    refine ⟨_, PSs.nox (C8.pss_cut (ps_set (i := 3) scLike.nd rfl (.inr rfl) (pe_callTy (T := "tuple") call_tuple_of (by rfl) B.tuple (by decide +kernel) (pa_cons (pe_lc (own := [("_law_part", 4)]) (g := gName 4) rfl scLike.nd (pi_list (pv 1)) (blkOk_by (N := nLike) (sc := defScope lLike) (by decide +kernel))
          (fun _ _ _ _ _ => pg_name (i := 4) scLike.nd rfl (.inl rfl) (hf := .inr rfl)) (fun _ _ _ _ _ => pts_nil) (fun _ _ _ _ _ => pe_ix (r := rIxT K) ix_tup (pv 4) pe_int (fun _ _ => rfl))) pa_nil))) (C8.pss_cut (ps_if (PW.pt (pw_or (pt_cmpR (r := rNeD K) (op_neD hr.units) (pe_prop (pv 0) G.iC.cl hN GN r11 bN .nil pass0 rfl) (pv 3) (nomark _)) (pw_or (pt_cmpR op_ne (pe_callB (OC.call_lenOwn (E := E0) (FnOk.raw GL bL .nil) r11 hL1 hL2 pass0) (by rfl) B.len PySem.boot_len (pa_cons (pv 0) pa_nil)) (pe_callB call_len_seq (by rfl) B.len PySem.boot_len (pa_cons (pv 1) pa_nil)) (nomark _))
          (pw_or1 (pt_cmpR (r := OD.rNeOwn CC (spCEq K CS CM CC) E0) (OD.op_neOwn GE r41 hE1 hE2 bE pass0 J'.ne G.iC.hm) (pv 0) (pe_make MI GI r11 (by rfl) G.gC bI .nil pass0 (pa_cons (pe_call GH r4 (by rfl) gH kH bH .nil pass0 (pa_cons (pe_lst (pa_cons (pe_int) (pa_cons (pe_int) pa_nil))) (pa_cons (pv 1) pa_nil))) pa_nil)) (nomark _)))))) (pss_one (ps_ret pe_bl)) pss_nil) (C8.pss_cut (ps_if (pt_cmpR (r := rNeD K) (op_neD hr.units) (pe_lc (own := [("_law_name", 5)]) (g := gName 5) rfl scLike.nd (pi_list (pe_call0 GM r1 (by rfl) gM kM bM .nil pass0)) (blkOk_by (N := nLike) (sc := defScope lLike) (by decide +kernel))
          (fun _ _ _ _ _ => pg_name (i := 5) scLike.nd rfl (.inl rfl) (hf := .inr rfl)) (fun _ _ _ _ _ => pts_one (pt_cmpR op_ne (pe_cmpR (OC.op_inOwn (E := E0) (FnOk.raw GC bC .nil) r3 hC1 hC2 pass0) (pv 5) (pv 0) (by rfl)) (pe_cmpR (r := rIn K false) op_in_seq (pv 5) (pv 3) (by rfl)) (nomark _))) (fun _ _ _ _ _ => pv 5)) (pe_lst pa_nil) (nomark _)) (pss_one (ps_ret pe_bl)) pss_nil) (pss_one (ps_ret (pe_call GD r8 (by rfl) gD kD bD .nil pass0 (pa_cons (pv 0) (pa_cons (pv 1) (pa_cons (pv 2) pa_nil))))))))), ?_⟩
    obtain ⟨xs, eL, hp⟩ := id lp
    have lx := hp.length
    have tok : ∀ z ∈ namesOf ps, TOk z := fun z hz => by
      obtain ⟨q0, hq, rfl⟩ := List.mem_map.mp hz
      exact nmsTok _ (pk.nm q0 hq)
    have lnm : (namesOf ps).length ≤ 40 := by unfold namesOf; rw [List.length_map]; exact l40
    refine ⟨fun σ' H' => ∃ u, σ' = [some (.ref c), some (.ref L), some (.ref d), some (.ref u), none, none] ∧ Same H H' ∧ H' u = some (.tup ((namesOf ps).map V.str)), ?_, ?_⟩
    · refine ⟨.ref L, rfl, L, rfl, ⟨_, .inl (.inl eL)⟩, fun D hD => ?_⟩
      refine lcJ (n := ps.length) (vs := [4]) (fun i H' => Same H H' ∧ H' D = some (.lst ((namesOf (ps.take i)).map V.str))) ⟨KS.sameUpd hD, upd_same⟩
        (fun i H' lt h => ⟨_, xs[i], .inl (.inl (h.1 _ _ eL)), List.getElem?_eq_getElem (by omega)⟩) (fun H' h => ⟨_, .inl (.inl (h.1 _ _ eL)), by omega⟩) (fun i H' x H1 lt h y => ?_) (fun H1 h => ?_)
      · obtain ⟨rfl, y⟩ := y
        obtain ⟨s1, eD⟩ := h
        have ex := y _ (.inl (.inl (s1 _ _ eL)))
        obtain ⟨v, e1, u, vb, va, rfl, hu, _, _⟩ := pairAt hp (List.getElem?_eq_getElem lt)
        obtain rfl : V.ref u = x := Option.some.inj (e1.symm.trans ex)
        refine ⟨rfl, ?_⟩
        unfold tYes
        dsimp only
        rw [if_pos rfl]
        refine ⟨.ref u, rfl, u, _, 0, .str ps[i].1, rfl, rfl, .inl (.inl (s1 _ _ hu)), atI_nat (j := 0) rfl, _, eD, ?_, fun b o hb => ?_, ?_⟩
        · unfold namesOf
          rw [List.length_map, List.length_map, List.length_take, sizeLine_eq]
          omega
        · rw [upd_ne (ne_of_none hb hD)]
          exact s1 _ _ hb
        · rw [upd_same]
          unfold namesOf
          rw [List.take_succ_eq_append_getElem lt, List.map_append, List.map_append]
          rfl
      · obtain ⟨s1, eD⟩ := h
        rw [List.take_length] at eD
        exact ⟨D, _, rfl, .inl ⟨.inl (.inl eD), fun u hu => ⟨u, rfl, s1.trans (KS.sameUpd hu), upd_same⟩⟩⟩
    rintro _ H1 ⟨u, rfl, s1, eu⟩
    -- names, how many, the same
    refine ⟨fun σ' H' => σ' = [some (.ref c), some (.ref L), some (.ref d), some (.ref u), none, none] ∧ Same H H' ∧ H' u = some (.tup ((namesOf ps).map V.str)), ?_, ?_⟩
    · have ch1 := ch.stl (Stl.same s1)
      obtain ⟨dc, t, vs, hc, _⟩ := id ch1
      have sh := namesSh (l := namesOf ps) (by omega) tok
      refine ⟨.ref c, rfl, c, dc, _, rfl, hc, c, ps, rfl, ch1, by omega, fun u2 H2 s2 eu2 => ⟨.ref u, rfl, argsD (namesOf ps), argsD (namesOf ps), .tup (.inl (.inl eu2)) (dpStrs _), .tup (.inl (.inl (s2 _ _ eu))) (dpStrs _), sh, sh, false, by rw [SeqAt.eqv_refl _ (SeqAt.canLay_of_shaped sh)]; rfl, iteF ?_⟩⟩
      have ch2 := ch1.stl (Stl.same s2)
      have s02 := s1.trans s2
      refine ⟨.ref c, rfl, c, dc, _, rfl, s2 _ _ hc, c, ps, rfl, ch2, _, rfl, by omega, by omega, .ref L, rfl, L, _, rfl, .inl (.inl (.inl (s02 _ _ eL))), rfl, false, by rw [lx]; simp, iteF ?_⟩
      refine ⟨.ref c, rfl, (by show 2 ≤ sizeLine; decide), fun a ha => ?_⟩
      have sa := KS.sameUpd (o := .lst [.int 0, .int 5]) ha
      have fa : Fd (upd H2 a (.lst [.int 0, .int 5])) a := ⟨0, 5, upd_same, by decide, by decide⟩
      generalize upd H2 a (.lst [.int 0, .int 5]) = H3 at *
      have lp3 := lp.same (s02.trans sa)
      refine ⟨.ref L, rfl, a, L, ps, rfl, fa, lp3, l40, fun t3 ws H4 k4 F4 nt ht pw => fun x dx hx hdx ne => ?_⟩
      have st4 := Stl.fd fa k4
      have na : ∀ {b o}, H2 b = some o → b ≠ a := fun hb => ne_of_none hb ha
      have s24 : Same H2 H4 := fun b o hb => k4 _ _ (na hb) (sa _ _ hb)
      refine chMade hx hdx ne ht pw fun H5 s5 ch5 => ?_
      have s25 := s24.trans s5
      have ch5' := ch2.stl (Stl.same s25)
      obtain ⟨dc5, t5, vs5, hc5, _⟩ := id ch5'
      obtain ⟨dx5, tx5, vx5, hx5, _⟩ := id ch5
      refine ⟨c, x, dc5, _, dx5, _, rfl, rfl, hc5, hx5, c, x, ps, ps, rfl, ch5', .inl ch5, fun H6 s6 => ⟨_, rfl, ?_⟩⟩
      rw [psE_refl pv0]
      exact ⟨false, rfl, iteF ⟨rfl, s02.trans (s25.trans s6), s6 _ _ (s25 _ _ (s2 _ _ eu))⟩⟩
    rintro _ H2 ⟨rfl, s2, eu2⟩
    -- names that are there
    refine ⟨fun σ' H' => σ' = [some (.ref c), some (.ref L), some (.ref d), some (.ref u), none, none] ∧ Same H H', ?_, ?_⟩
    · refine ⟨rfl, fun pl hpl => ⟨pl, rfl, ⟨_, .inl (.inl upd_same)⟩, fun N hN => ?_⟩⟩
      have sp := KS.sameUpd (o := .lst (nmsL.map V.str)) hpl
      have epl := upd_same (H := H2) (a := pl) (o := .lst (nmsL.map V.str))
      generalize upd H2 pl (.lst (nmsL.map V.str)) = H3 at *
      refine lcJ (n := nmsL.length) (vs := [5]) (fun i H' => Same H3 H' ∧ H' N = some (.lst [])) ⟨KS.sameUpd hN, upd_same⟩
        (fun i H' lt h => ⟨_, V.str nmsL[i], .inl (.inl (h.1 _ _ epl)), by rw [List.getElem?_map, List.getElem?_eq_getElem lt]; rfl⟩) (fun H' h => ⟨_, .inl (.inl (h.1 _ _ epl)), by rw [List.length_map]; exact Nat.le_refl _⟩) (fun i H' x H4 lt h y => ?_) (fun H4 h => ?_)
      · obtain ⟨rfl, y⟩ := y
        obtain ⟨s4, eN⟩ := h
        have ex := y _ (.inl (.inl (s4 _ _ epl)))
        rw [List.getElem?_map, List.getElem?_eq_getElem lt] at ex
        obtain rfl : V.str nmsL[i] = x := Option.some.inj ex
        generalize nmsL[i] = z at *
        have s14 := s2.trans (sp.trans s4)
        have ch4 := ch.stl (Stl.same s14)
        obtain ⟨dc, t, vs, hc, _⟩ := id ch4
        refine ⟨rfl, .str z, rfl, .ref c, rfl, c, dc, _, rfl, hc, c, ps, z, rfl, ch4, by omega, fun H5 s5 => ⟨_, rfl, .str z, rfl, .ref u, rfl, u, _, rfl, .inr (.inl (.inl (s5 _ _ (s4 _ _ (sp _ _ eu2))))), rfl, strFl _, rfl, false, ?_, ?_⟩⟩
        · show V.bl (!decide (V.bl (decide (z ∈ namesOf ps)) = V.bl (inV (.str z) ((namesOf ps).map V.str)))) = _
          rw [strIn]
          simp
        · exact iteF ⟨s4.trans s5, s5 _ _ eN⟩
      · obtain ⟨s4, eN⟩ := h
        refine ⟨Nat.zero_le _, fun Ln hLn => ?_⟩
        have sL := KS.sameUpd (o := .lst []) hLn
        refine neNil (n := 0) (zs := []) (sL _ _ eN) upd_same ⟨[], fun _ => .nil, fun d hd => absurd hd (by simp), Nat.le_refl _⟩ ?_
        exact ⟨false, rfl, iteF ⟨rfl, s2.trans (sp.trans (s4.trans sL))⟩⟩
    rintro _ H3 ⟨rfl, s3⟩
    exact ⟨.ref c, rfl, .ref L, rfl, .ref d, rfl, c, L, d, ps, T, rfl, ch.stl (Stl.same s3), lp.same s3, kt.stl (Stl.same s3), ok, pk, tk, fun H' s4 => q H' (s3.trans s4)⟩
end
end PJ

set_option Elab.async false
set_option linter.all false
set_option maxRecDepth 100000
set_option maxHeartbeats 4000000
/-! merges of like tables are alike -/
namespace PJ
open PySem PySem.Spec PyProof.Rows L2 KS KS.La
open KX hiding sameUpd
/-- the same up to the order of outputs -/
def TgP : Tg → Tg → Prop
  | .src os, .src os' => os.Perm os'
  | .mad r as, .mad r' as' => rcD r = rcD r' ∧ as = as'
  | _, _ => False
def oP : Option Tg → Option Tg → Prop
  | none, none => True
  | some t, some t' => TgP t t'
  | _, _ => False
theorem TgP.refl (t : Tg) : TgP t t := by
  cases t with
  | src os => exact List.Perm.refl os
  | mad r as => exact ⟨rfl, rfl⟩
theorem TgP.symm {t t' : Tg} (h : TgP t t') : TgP t' t := by
  cases t with
  | src os => cases t' with
    | src os' => exact List.Perm.symm h
    | mad r as => exact h.elim
  | mad r as => cases t' with
    | src os' => exact h.elim
    | mad r' as' => exact ⟨h.1.symm, h.2.symm⟩
theorem TgP.trans {t t' t2 : Tg} (h : TgP t t') (g : TgP t' t2) : TgP t t2 := by
  cases t with
  | src os => cases t' with
    | src os' => cases t2 with
      | src os2 => exact List.Perm.trans h g
      | mad r as => exact g.elim
    | mad r as => exact h.elim
  | mad r as => cases t' with
    | src os' => exact h.elim
    | mad r' as' => cases t2 with
      | src os2 => exact g.elim
      | mad r2 as2 => exact ⟨h.1.trans g.1, h.2.trans g.2⟩
theorem oP.refl (o : Option Tg) : oP o o := by
  cases o with
  | none => exact True.intro
  | some t => exact TgP.refl t
theorem oP.symm {o o' : Option Tg} (h : oP o o') : oP o' o := by
  cases o with
  | none => cases o' with
    | none => exact True.intro
    | some t => exact h.elim
  | some t => cases o' with
    | none => exact h.elim
    | some t' => exact TgP.symm h
theorem oP.trans {o o' o2 : Option Tg} (h : oP o o') (g : oP o' o2) : oP o o2 := by
  cases o with
  | none => cases o' with
    | none => exact g
    | some t => exact h.elim
  | some t => cases o' with
    | none => exact h.elim
    | some t' => cases o2 with
      | none => exact g.elim
      | some t2 => exact TgP.trans h g
theorem oK_mem {os : Outs} {p : Str × Str} : kvO p ∈ oK os ↔ p ∈ os := by
  constructor
  · intro h
    obtain ⟨q, hq, e⟩ := List.mem_map.mp h
    have e1 : q.1 = p.1 := Sum.inr.inj (congrArg Prod.fst e)
    have e2 : q.2 = p.2 := V.str.inj (congrArg Prod.snd e)
    have : q = p := Prod.ext e1 e2
    rw [← this]
    exact hq
  · exact fun h => List.mem_map.mpr ⟨p, h, rfl⟩
theorem nodupOf {os : Outs} (nd : (os.map (·.1)).Nodup) : os.Nodup := by
  rw [List.nodup_iff_pairwise_ne] at nd ⊢
  rw [List.pairwise_map] at nd
  exact nd.imp fun h e => h (by rw [e])
theorem osE_iff {os os' : Outs} (nd : (os.map (·.1)).Nodup) (nd' : (os'.map (·.1)).Nodup) : osE os os' = true ↔ os.Perm os' := by
  constructor
  · intro h
    have one : ∀ {a b : Outs}, (a.map (·.1)).Nodup → osE a b = true → ∀ p ∈ a, p ∈ b := fun {a b} na e p hp => by
      have h1 := ((osE_da na e).2 (kvO p) (oK_mem.mpr hp)).1
      exact oK_mem.mp (valMem2 h1)
    exact (List.perm_ext_iff_of_nodup (nodupOf nd) (nodupOf nd')).mpr fun p => ⟨one nd h p, one nd' (osE_symm nd nd' h) p⟩
  · intro h
    refine osE_of nd h.length_eq fun p hp => ?_
    have hp2 : p ∈ oK os' := (h.map kvO).mem_iff.mp hp
    exact valMem (oK_nd nd') hp2
theorem eqvStr2 (d : PyData) (z : Str) : PyData.eqv d (.str z) = true ↔ d = .str z := by
  cases d <;> simp [PyData.eqv]
theorem rcEqv (r r' : Rc) : PyData.eqv (rcD r) (rcD r') = true ↔ rcD r = rcD r' := by
  cases r <;> cases r' <;> simp [rcD, PyData.eqv, PyData.eqvAll]
theorem asEqvL : ∀ (as as' : List Str), PyData.eqvAll (as.map .str) (as'.map .str) = true ↔ as = as'
  | [], [] => by simp [PyData.eqvAll]
  | [], a :: as => by simp [PyData.eqvAll]
  | a :: as, [] => by simp [PyData.eqvAll]
  | a :: as, b :: bs => by
    have ih := asEqvL as bs
    simp only [List.map_cons, PyData.eqvAll, PyData.eqv, Bool.and_eq_true, ih, List.cons.injEq]
    constructor
    · rintro ⟨h, e⟩; exact ⟨by simpa using h, e⟩
    · rintro ⟨h, e⟩; exact ⟨by simpa using h, e⟩
theorem asEqv (as as' : List Str) : PyData.eqv (argsD as) (argsD as') = true ↔ as = as' := by
  unfold argsD
  rw [← asEqvL as as']
  simp [PyData.eqv]
theorem tgE_iff {t t' : Tg} (h : TgV t) (h' : TgV t') : tgE t t' = true ↔ TgP t t' := by
  cases t with
  | src os => cases t' with
    | src os' => exact osE_iff h h'
    | mad r as => exact ⟨(fun e => nomatch e), fun e => False.elim e⟩
  | mad r as => cases t' with
    | src os' => exact ⟨(fun e => nomatch e), fun e => False.elim e⟩
    | mad r' as' =>
      show (PyData.eqv (rcD r) (rcD r') && PyData.eqv (argsD as) (argsD as')) = true ↔ _
      rw [Bool.and_eq_true, rcEqv, asEqv]
      exact Iff.rfl
def oV (o : Option Tg) : Prop := ∀ t, o = some t → TgV t
theorem oE_iff {o o' : Option Tg} (h : oV o) (h' : oV o') : oE o o' = true ↔ oP o o' := by
  cases o with
  | none => cases o' with
    | none => exact ⟨fun _ => True.intro, fun _ => rfl⟩
    | some t => exact ⟨(fun e => nomatch e), fun e => False.elim e⟩
  | some t => cases o' with
    | none => exact ⟨(fun e => nomatch e), fun e => False.elim e⟩
    | some t' => exact tgE_iff (h t rfl) (h' t' rfl)
end PJ

set_option Elab.async false
set_option linter.all false
set_option maxRecDepth 100000
set_option maxHeartbeats 8000000
/-! parts between tables, joined and turned round -/
namespace PJ
open PySem PySem.Spec PyProof.Rows L2 KS KS.La
open KX hiding sameUpd
theorem oE_trans {o o' o2 : Option Tg} (h : oV2 o) (h' : oV2 o') (h2 : oV2 o2) (e : oE o o' = true) (e' : oE o' o2 = true) : oE o o2 = true :=
  (oE_iff h h2).mpr (oP.trans ((oE_iff h h').mp e) ((oE_iff h' h2).mp e'))
/-- all the values of a table are right -/
def TV (T : Tb) : Prop := ∀ k t, (k, t) ∈ T → TgV t
theorem TV.look {T : Tb} (h : TV T) (n : Str) : oV2 (tLook T n) := fun t e => h n t (tLook_mem e)
theorem keepP_some {n : Str} {p : Option Tg × Option Tg} {q : Prt} (h : keepP n p = some q) : q = (n, p.1, p.2) ∧ oE p.1 p.2 = false := by
  unfold keepP at h
  cases e : oE p.1 p.2 with
  | true => rw [if_pos e] at h; cases h
  | false =>
    rw [if_neg (by rw [e]; exact Bool.false_ne_true)] at h
    exact ⟨(Option.some.inj h).symm, rfl⟩
/-- rows of parts by names -/
def fmP (g : Str → Option Tg × Option Tg) (ys : List Str) : List Prt := ys.filterMap fun n => keepP n (g n)
theorem fmP_mem {g : Str → Option Tg × Option Tg} {ys : List Str} {q : Prt} : q ∈ fmP g ys ↔ q.1 ∈ ys ∧ q.2 = g q.1 ∧ oE (g q.1).1 (g q.1).2 = false := by
  unfold fmP
  rw [List.mem_filterMap]
  constructor
  · rintro ⟨n, hn, e⟩
    obtain ⟨rfl, e2⟩ := keepP_some e
    exact ⟨hn, rfl, e2⟩
  · rintro ⟨h1, h2, h3⟩
    refine ⟨q.1, h1, ?_⟩
    unfold keepP
    rw [if_neg (by rw [h3]; exact Bool.false_ne_true), ← h2]
theorem fmP_names (g : Str → Option Tg × Option Tg) (ys : List Str) : (namesOf (fmP g ys)).Sublist ys := by
  unfold fmP namesOf
  induction ys with
  | nil => exact .slnil
  | cons y ys ih =>
    rw [List.filterMap_cons]
    cases e : keepP y (g y) with
    | none => exact ih.cons _
    | some q =>
      obtain ⟨rfl, _⟩ := keepP_some e
      exact ih.cons_cons _
theorem fmP_look {g : Str → Option Tg × Option Tg} {ys : List Str} (nd : ys.Nodup) (n : Str) : gLook (fmP g ys) n = if n ∈ ys ∧ oE (g n).1 (g n).2 = false then some (g n) else none := by
  have nd' : ((fmP g ys).map (·.1)).Nodup := nd.sublist (fmP_names g ys)
  by_cases c : n ∈ ys ∧ oE (g n).1 (g n).2 = false
  · rw [if_pos c]
    exact gLook_at nd' (p := (n, g n)) (fmP_mem.mpr ⟨c.1, rfl, c.2⟩)
  · rw [if_neg c]
    refine gLook_none.mpr fun hm => ?_
    obtain ⟨q, hq, rfl⟩ := List.mem_map.mp hm
    obtain ⟨h1, h2, h3⟩ := fmP_mem.mp hq
    exact c ⟨h1, h3⟩
theorem due_fm (T T' : Tb) (ys : List Str) : dueP T T' ys = fmP (fun n => (tLook T n, tLook T' n)) ys := rfl
theorem sortSub {l m : List Str} (h : l.Sublist m) (s : sortedS m = true) : l.Pairwise (fun a b => a.cps.toList ≤ b.cps.toList) := (SU.pwSorted m s).sublist h
theorem sortUniq {a b : List Str} (h : a.Perm b) (s1 : a.Pairwise (fun a b => a.cps.toList ≤ b.cps.toList)) (s2 : b.Pairwise (fun a b => a.cps.toList ≤ b.cps.toList)) : a = b := by
  refine List.Perm.eq_of_pairwise (le := fun a b : Str => a.cps.toList ≤ b.cps.toList) (fun x y _ _ h1 h2 => ?_) s1 s2 h
  have e := List.le_antisymm h1 h2
  cases x; cases y
  simpa using e
/-- parts of one row of names are right ones -/
theorem fmP_ok {g : Str → Option Tg × Option Tg} {ys : List Str} (nd : ys.Nodup) (ly : ys.length ≤ 14) : PsOk (fmP g ys) := by
  refine ⟨nd.sublist (fmP_names g ys), fun q hq ea eb => ?_, ?_⟩
  · obtain ⟨_, h2, h3⟩ := fmP_mem.mp hq
    rw [← h2, ea, eb] at h3
    cases h3
  · have := (fmP_names g ys).length_le
    unfold namesOf at this
    rw [List.length_map] at this
    omega
theorem fmP_k {g : Str → Option Tg × Option Tg} {ys : List Str} (hs : ∀ z ∈ ys, z ∈ nmsL) (h1 : ∀ n t, (g n).1 = some t → TgK t) (h2 : ∀ n t, (g n).2 = some t → TgK t) : PsK (fmP g ys) := by
  refine ⟨fun q hq => hs _ (fmP_mem.mp hq).1, fun q hq t e => ?_, fun q hq t e => ?_⟩
  · obtain ⟨_, e2, _⟩ := fmP_mem.mp hq
    rw [e2] at e
    exact h1 _ t e
  · obtain ⟨_, e2, _⟩ := fmP_mem.mp hq
    rw [e2] at e
    exact h2 _ t e
/-- a row of names that holds all keys of two tables -/
def Cov (T T' : Tb) (ys : List Str) : Prop := ∀ z, z ∈ ys ↔ z ∈ T.map (·.1) ∨ z ∈ T'.map (·.1)
theorem Cov.out {T T' : Tb} {ys : List Str} (h : Cov T T' ys) {n : Str} (hn : n ∉ ys) : tLook T n = none ∧ tLook T' n = none := by
  rw [h n] at hn
  exact ⟨tLook_none fun z => hn (.inl z), tLook_none fun z => hn (.inr z)⟩
/-- what a change tells nothing of is alike -/
theorem due_not {T T' : Tb} {ys : List Str} (c : Cov T T' ys) (nd : ys.Nodup) {n : Str} (h : gLook (dueP T T' ys) n = none) : oE (tLook T n) (tLook T' n) = true := by
  rw [due_fm, fmP_look nd] at h
  by_cases hn : n ∈ ys
  · cases e : oE (tLook T n) (tLook T' n) with
    | true => rfl
    | false =>
      rw [if_pos ⟨hn, e⟩] at h
      cases h
  · obtain ⟨e1, e2⟩ := c.out hn
    rw [e1, e2]
    rfl
theorem due_is {T T' : Tb} {ys : List Str} (nd : ys.Nodup) {n : Str} {p : Option Tg × Option Tg} (h : gLook (dueP T T' ys) n = some p) : p = (tLook T n, tLook T' n) := by
  rw [due_fm, fmP_look nd] at h
  by_cases c : n ∈ ys ∧ oE (tLook T n) (tLook T' n) = false
  · rw [if_pos c] at h
    exact (Option.some.inj h).symm
  · rw [if_neg c] at h
    cases h
theorem due_v {T T' : Tb} (v : TV T) (v' : TV T') (ys : List Str) : PsV (dueP T T' ys) := by
  refine ⟨fun q hq => ?_, fun q hq => ?_⟩
  · obtain ⟨_, e, _⟩ := fmP_mem.mp (due_fm T T' ys ▸ hq)
    rw [e]
    exact v.look _
  · obtain ⟨_, e, _⟩ := fmP_mem.mp (due_fm T T' ys ▸ hq)
    rw [e]
    exact v'.look _
/-- behind one another: no clash -/
theorem due_calm {T T' T2 : Tb} {y1 y2 : List Str} (n1 : y1.Nodup) (n2 : y2.Nodup) (v' : TV T') (n : Str) : clB (pLook (dueP T T' y1) n) (pLook (dueP T' T2 y2) n) = false := by
  rw [pLook_g, pLook_g]
  cases e : gLook (dueP T T' y1) n with
  | none => rfl
  | some p =>
    cases e2 : gLook (dueP T' T2 y2) n with
    | none => rfl
    | some p2 =>
      rw [due_is n1 e, due_is n2 e2]
      show (!oE (tLook T' n) (tLook T' n)) = false
      rw [oE_refl2 (v'.look n)]
      rfl
/-- joined: what stands ahead and behind is as in the first and the last table -/
theorem join_ends {T T' T2 : Tb} {y1 y2 : List Str} (c1 : Cov T T' y1) (c2 : Cov T' T2 y2) (n1 : y1.Nodup) (n2 : y2.Nodup) (v : TV T) (v' : TV T') (v2 : TV T2) (n : Str) (some_ : gLook (dueP T T' y1) n ≠ none ∨ gLook (dueP T' T2 y2) n ≠ none) :
    oE (tLook T n) (jnP (pLook (dueP T T' y1) n) (pLook (dueP T' T2 y2) n)).1 = true ∧ oE (jnP (pLook (dueP T T' y1) n) (pLook (dueP T' T2 y2) n)).2 (tLook T2 n) = true ∧ oV2 (jnP (pLook (dueP T T' y1) n) (pLook (dueP T' T2 y2) n)).1 ∧ oV2 (jnP (pLook (dueP T T' y1) n) (pLook (dueP T' T2 y2) n)).2 := by
  rw [pLook_g, pLook_g]
  cases e : gLook (dueP T T' y1) n with
  | none =>
    have d1 := due_not c1 n1 e
    cases e2 : gLook (dueP T' T2 y2) n with
    | none => rw [e, e2] at some_; rcases some_ with h | h <;> exact absurd rfl h
    | some p2 =>
      rw [due_is n2 e2]
      exact ⟨d1, oE_refl2 (v2.look n), v'.look n, v2.look n⟩
  | some p =>
    rw [due_is n1 e]
    cases e2 : gLook (dueP T' T2 y2) n with
    | none => exact ⟨oE_refl2 (v.look n), due_not c2 n2 e2, v.look n, v'.look n⟩
    | some p2 =>
      rw [due_is n2 e2]
      exact ⟨oE_refl2 (v.look n), oE_refl2 (v2.look n), v.look n, v2.look n⟩
theorem join_fm (ps ps' : List Prt) (ys : List Str) : joinP ps ps' ys = fmP (fun n => jnP (pLook ps n) (pLook ps' n)) ys := rfl
/-- parts with distinct names lead to their afters -/
theorem chT_look {T : Tb} {ps : List Prt} (nd : (namesOf ps).Nodup) (n : Str) : tLook (chT T ps) n = match gLook ps n with | some p => p.2 | none => tLook T n := by
  unfold chT
  induction ps generalizing T with
  | nil => rfl
  | cons q ps ih =>
    unfold namesOf at nd ih
    rw [List.map_cons, List.nodup_cons] at nd
    rw [List.foldl_cons, ih nd.2]
    by_cases c : q.1 = n
    · subst c
      have h1 : gLook ps q.1 = none := gLook_none.mpr nd.1
      have h2 : gLook (q :: ps) q.1 = some q.2 := by
        unfold gLook
        rw [List.find?_cons, decide_eq_true rfl]
        rfl
      rw [h1, h2]
      show tLook (chS T q) q.1 = q.2.2
      rw [tLook_chS, if_pos rfl]
    · have h2 : gLook (q :: ps) n = gLook ps n := by
        unfold gLook
        rw [List.find?_cons, decide_eq_false c]
      rw [h2]
      cases gLook ps n with
      | some p => rfl
      | none =>
        show tLook (chS T q) n = tLook T n
        rw [tLook_chS, if_neg c]
/-- the joined parts fit the first table -/
theorem join_fits {T T' T2 : Tb} {y1 y2 ys : List Str} (c1 : Cov T T' y1) (c2 : Cov T' T2 y2) (n1 : y1.Nodup) (n2 : y2.Nodup) (v : TV T) (v' : TV T') (v2 : TV T2)
    (mem : ∀ z, z ∈ ys ↔ z ∈ namesOf (dueP T T' y1) ∨ z ∈ namesOf (dueP T' T2 y2)) : badP (joinP (dueP T T' y1) (dueP T' T2 y2) ys) T = none := by
  refine badNone fun q hq => ?_
  obtain ⟨h1, h2, h3⟩ := fmP_mem.mp (join_fm _ _ ys ▸ hq)
  rw [h2]
  refine (join_ends c1 c2 n1 n2 v v' v2 q.1 ?_).1
  rcases (mem q.1).mp h1 with h | h
  · exact .inl fun e => gLook_none.mp e h
  · exact .inr fun e => gLook_none.mp e h
/-- and lead to the last one -/
theorem join_leads {T T' T2 : Tb} {y1 y2 ys : List Str} (c1 : Cov T T' y1) (c2 : Cov T' T2 y2) (n1 : y1.Nodup) (n2 : y2.Nodup) (ndy : ys.Nodup) (v : TV T) (v' : TV T') (v2 : TV T2)
    (mem : ∀ z, z ∈ ys ↔ z ∈ namesOf (dueP T T' y1) ∨ z ∈ namesOf (dueP T' T2 y2)) (n : Str) : oE (tLook (chT T (joinP (dueP T T' y1) (dueP T' T2 y2) ys)) n) (tLook T2 n) = true := by
  rw [join_fm, chT_look (ndy.sublist (fmP_names _ ys)), fmP_look ndy]
  have so : n ∈ ys → gLook (dueP T T' y1) n ≠ none ∨ gLook (dueP T' T2 y2) n ≠ none := fun h => by
    rcases (mem n).mp h with h | h
    · exact .inl fun e => gLook_none.mp e h
    · exact .inr fun e => gLook_none.mp e h
  by_cases hn : n ∈ ys
  · obtain ⟨a1, a2, a3, a4⟩ := join_ends c1 c2 n1 n2 v v' v2 n (so hn)
    cases eo : oE (jnP (pLook (dueP T T' y1) n) (pLook (dueP T' T2 y2) n)).1 (jnP (pLook (dueP T T' y1) n) (pLook (dueP T' T2 y2) n)).2 with
    | false =>
      rw [if_pos ⟨hn, rfl⟩]
      exact a2
    | true =>
      rw [if_neg fun h => Bool.noConfusion h.2]
      exact oE_trans (v.look n) a3 (v2.look n) a1 (oE_trans a3 a4 (v2.look n) eo a2)
  · rw [if_neg fun h => hn h.1]
    have e1 : gLook (dueP T T' y1) n = none := gLook_none.mpr fun h => hn ((mem n).mpr (.inl h))
    have e2 : gLook (dueP T' T2 y2) n = none := gLook_none.mpr fun h => hn ((mem n).mpr (.inr h))
    exact oE_trans (v.look n) (v'.look n) (v2.look n) (due_not c1 n1 e1) (due_not c2 n2 e2)
/-- turned round -/
theorem due_flip {T T' : Tb} (v : TV T) (v' : TV T') (ys : List Str) : (dueP T T' ys).map flp = dueP T' T ys := by
  unfold dueP
  rw [List.map_filterMap]
  refine congrArg (fun g => List.filterMap g ys) (funext fun n => ?_)
  unfold keepP
  simp only
  rw [oE_comm2 (v'.look n) (v.look n)]
  cases oE (tLook T n) (tLook T' n) <;> rfl
end PJ

set_option Elab.async false
set_option linter.all false
set_option maxRecDepth 100000
set_option maxHeartbeats 8000000
/-! four projects and their sixteen changes -/
namespace PJ
open PySem PySem.Spec PyProof.Rows L2 KS KS.La
open KX hiding sameUpd
def tN {α : Type} (d : Fin 4 → α) (i : Nat) : α := d ⟨i % 4, Nat.mod_lt _ (by decide)⟩
def four (d : Fin 4 → Addr) : List V := [.ref (d 0), .ref (d 1), .ref (d 2), .ref (d 3)]
theorem fourAt (d : Fin 4 → Addr) {i : Nat} (h : i < 4) : atI (four d) ((i : Nat) : Int) = some (.ref (tN d i)) := by
  match i, h with
  | 0, _ => exact atI_nat rfl
  | 1, _ => exact atI_nat rfl
  | 2, _ => exact atI_nat rfl
  | 3, _ => exact atI_nat rfl
theorem fourIx (d : Fin 4 → Addr) {i : Nat} (h : i < 4) : (four d)[i]? = some (.ref (tN d i)) := by
  match i, h with
  | 0, _ => rfl
  | 1, _ => rfl
  | 2, _ => rfl
  | 3, _ => rfl
def f4 {α : Type} (a b c d : α) : Fin 4 → α
  | 0 => a
  | 1 => b
  | 2 => c
  | 3 => d
structure DueR (T T' : Tb) (ys : List Str) : Prop where
  nd : ys.Nodup
  st : sortedS ys = true
  cov : Cov T T' ys
theorem DueR.uniq {T T' : Tb} {y y' : List Str} (h : DueR T T' y) (h' : DueR T T' y') : y = y' :=
  SU.uniq (permOfMem h.nd h'.nd fun z => by rw [h.cov z, h'.cov z]) h.st h'.st
theorem DueR.flip {T T' : Tb} {y y' : List Str} (h : DueR T T' y) (h' : DueR T' T y') : y = y' :=
  SU.uniq (permOfMem h.nd h'.nd fun z => by rw [h.cov z, h'.cov z, or_comm]) h.st h'.st
theorem DueR.len {T T' : Tb} {y : List Str} (h : DueR T T' y) (k : TbK T) (k' : TbK T') : y.length ≤ 6 := ndLen y nmsL h.nd fun z hz => by
  rcases (h.cov z).mp hz with e | e
  · exact k.sub z e
  · exact k'.sub z e
theorem DueR.sub {T T' : Tb} {y : List Str} (h : DueR T T' y) (k : TbK T) (k' : TbK T') : ∀ z ∈ y, z ∈ nmsL := fun z hz => by
  rcases (h.cov z).mp hz with e | e
  · exact k.sub z e
  · exact k'.sub z e
theorem lookK {T : Tb} (k : TbK T) (n : Str) : ∀ t, tLook T n = some t → TgK t := fun t e => k.tk n t (tLook_mem e)
theorem DueR.ok {T T' : Tb} {y : List Str} (h : DueR T T' y) (k : TbK T) (k' : TbK T') : PsOk (dueP T T' y) := fmP_ok h.nd (by have := h.len k k'; omega)
theorem DueR.pk {T T' : Tb} {y : List Str} (h : DueR T T' y) (k : TbK T) (k' : TbK T') : PsK (dueP T T' y) := fmP_k (h.sub k k') (fun n t e => lookK k n t e) (fun n t e => lookK k' n t e)
theorem DueR.l6 {T T' : Tb} {y : List Str} (h : DueR T T' y) (k : TbK T) (k' : TbK T') : (dueP T T' y).length ≤ 6 := by
  have h1 := (fmP_names (fun n => (tLook T n, tLook T' n)) y).length_le
  have h2 := h.len k k'
  unfold namesOf at h1
  rw [List.length_map] at h1
  exact Nat.le_trans h1 h2
theorem DueR.sorted {T T' : Tb} {y : List Str} (h : DueR T T' y) : (namesOf (dueP T T' y)).Pairwise (fun a b => a.cps.toList ≤ b.cps.toList) := sortSub (fmP_names _ y) h.st
theorem jn_k {ps ps' : List Prt} (k : PsK ps) (k' : PsK ps') (n : Str) : (∀ t, (jnP (pLook ps n) (pLook ps' n)).1 = some t → TgK t) ∧ ∀ t, (jnP (pLook ps n) (pLook ps' n)).2 = some t → TgK t := by
  rw [pLook_g, pLook_g]
  cases e : gLook ps n with
  | none => cases e2 : gLook ps' n with
    | none => exact ⟨(fun t h => nomatch h), (fun t h => nomatch h)⟩
    | some p2 => exact ⟨k'.kb _ (gLook_in e2), k'.ka _ (gLook_in e2)⟩
  | some p => cases e2 : gLook ps' n with
    | none => exact ⟨k.kb _ (gLook_in e), k.ka _ (gLook_in e)⟩
    | some p2 => exact ⟨k.kb _ (gLook_in e), k'.ka _ (gLook_in e2)⟩
theorem oQof {o o' : Option Tg} (v : oV2 o) (e : oE o o' = true) : oQ o o' := by
  cases o with
  | none => cases o' with
    | none => exact True.intro
    | some t => cases e
  | some t => cases o' with
    | none => cases e
    | some t' => exact ⟨e, v t rfl⟩
theorem tvOf {K : PySem.W.Frag} {H : Hp} {d : Addr} {T : Tb} (h : KtAt H d T) : TV T := fun k t hm => by
  obtain ⟨kvs, _, tb⟩ := h
  obtain ⟨x, hx⟩ := tb.each k t hm
  exact ToAt.tgv (K := K) hx
section
variable {K : PySem.W.Frag} {CS CM CP CC : Addr}
/-- sixteen changes in a dict -/
def CgE (K : PySem.W.Frag) (CS CM CC : Addr) (H : Hp) (D : Addr) (T : Fin 4 → Tb) (n : Nat) : Prop := ∃ kvs, H D = some (.dK kvs) ∧ kvs.length ≤ n ∧ ∀ m, m < n → ∃ (c : Addr) (ys : List Str), valV kvs (.inl ((m : Nat) : Int)) = some (.ref c) ∧ ChAt K CS CM CC H c (dueP (tN T (m / 4)) (tN T (m % 4)) ys) ∧ DueR (tN T (m / 4)) (tN T (m % 4)) ys
theorem CgE.stl {H H' : Hp} {D : Addr} {T : Fin 4 → Tb} {n : Nat} (h : CgE K CS CM CC H D T n) (s : Stl H H') : CgE K CS CM CC H' D T n :=
  let ⟨kvs, e, l, f⟩ := h; ⟨kvs, s _ _ e (fun _ z => nomatch z), l, fun m hm => let ⟨c, ys, a, b, r⟩ := f m hm; ⟨c, ys, a, b.stl s, r⟩⟩
structure KrI (K : PySem.W.Frag) (CS CM CP CC : Addr) (H : Hp) (Pl N D : Addr) (d p : Fin 4 → Addr) (T : Fin 4 → Tb) (n : Nat) : Prop where
  pl : H Pl = some (.lst (four d))
  pr : H N = some (.lst (four p))
  kt : ∀ i, KtAt H (tN d i) (tN T i)
  pj : ∀ i, PjAt CS CM CP H (tN p i) (tN T i)
  cg : CgE K CS CM CC H D T n
variable {H H' : Hp} {Pl N D a : Addr} {d p : Fin 4 → Addr} {T : Fin 4 → Tb} {n : Nat}
theorem KrI.same (h : KrI K CS CM CP CC H Pl N D d p T n) (s : Same H H') : KrI K CS CM CP CC H' Pl N D d p T n :=
  ⟨s _ _ h.pl, s _ _ h.pr, fun i => (h.kt i).stl (Stl.same s), fun i => (h.pj i).stl (Stl.same s), h.cg.stl (Stl.same s)⟩
theorem KrI.feed (h : KrI K CS CM CP CC H Pl N D d p T n) (F : Fd H a) (k : Kp a H H') (n1 : Pl ≠ a) (n2 : N ≠ a) : KrI K CS CM CP CC H' Pl N D d p T n :=
  ⟨k _ _ n1 h.pl, k _ _ n2 h.pr, fun i => (h.kt i).stl (Stl.fd F k), fun i => (h.pj i).stl (Stl.fd F k), h.cg.stl (Stl.fd F k)⟩
/-- the change between two of them -/
theorem KrI.at_ (h : KrI K CS CM CP CC H Pl N D d p T 16) {i j : Nat} (hi : i < 4) (hj : j < 4) : ∃ (c : Addr) (ys : List Str), DGet H D (.int (4 * (i : Int) + (j : Int))) (some (.ref c)) ∧ ChAt K CS CM CC H c (dueP (tN T i) (tN T j) ys) ∧ DueR (tN T i) (tN T j) ys := by
  obtain ⟨kvs, e, _, f⟩ := h.cg
  obtain ⟨c, ys, a, b, r⟩ := f (4 * i + j) (by omega)
  rw [show (4 * i + j) / 4 = i by omega, show (4 * i + j) % 4 = j by omega] at b r
  refine ⟨c, ys, ?_, b, r⟩
  rw [← a, show (4 * (i : Int) + (j : Int)) = ((4 * i + j : Nat) : Int) by omega]
  exact DGet.k (k := Sum.inl ((4 * i + j : Nat) : Int)) e
end
end PJ

set_option Elab.async false
set_option linter.all false
set_option maxRecDepth 100000
set_option maxHeartbeats 16000000
/-! projects and changes that are used again and again -/
namespace PJ
open PySem PySem.Spec PyProof.Rows L2 KS KS.La
open KX hiding sameUpd
abbrev lKr : Stmt := top 38
section
variable {P : Program} {w : World} {K : PySem.W.Frag} {mg : Str → Option Value} {base : Heap} {f : Addr} {fd : FuncData} {CS CM CP CC NT NS MM BE : Addr}
/-- ~ -/
structure Chi (P : Program) (w : World) (K : PySem.W.Frag) (mg : Str → Option Value) (base : Heap) (CS CM CC : Addr) : Prop where
  inv : ∃ (f : Addr) (fd : FuncData), PySem.W.findIn K (.ref CC) "__invert__" = some (some (.ref f)) ∧ PySem.W.isFn K (.ref f) = true ∧ Binds K fd ["self"] [] ∧ FnOk P w K mg base CX0 3 f fd ["self"] (spCInv K CS CM CC)
theorem passAt00 {X : Cx} {σ : L2.St} : PassesAt CX0 X σ E0 := fun pins H s e s' I c => pass0 pins σ H s e s' I c
def spKr : Sp := fun vs H Q _ => ∃ (a Pl : Addr) (d : Fin 4 → Addr) (T : Fin 4 → Tb), vs = [.ref a, .ref Pl] ∧ Fd H a ∧ H Pl = some (.lst [.ref (d 0), .ref (d 1), .ref (d 2), .ref (d 3)]) ∧ Pl ≠ a ∧ (∀ i, KtAt H (d i) (T i)) ∧ (∀ i, TbK (T i)) ∧ ∀ H', Kp a H H' → Fd H' a → Q (.bl true) H'
abbrev nKr : List Str := ["_law_feed", "_law_plans", "_law_projects", "_law_changes", "_law_at", "_law_one_here", "_law_other", "_law_turn", "_law_more", "_law_again", "_law_due", "_law_told", "_law_plan", "_law_project"]
theorem scKr : FnScope nKr ["_law_feed", "_law_plans"] (defScope lKr) := ⟨rfl, rfl, rfl, by decide +kernel, rfl, by decide +kernel, by decide +kernel⟩
abbrev slK (a Pl : Addr) (x2 x3 x4 x5 x6 x7 x8 x10 x11 : Option V) : L2.St := [some (.ref a), some (.ref Pl), x2, x3, x4, x5, x6, x7, x8, none, x10, x11, none, none]
theorem okKr {k : Nat} (B : Bn mg) (G : Chc P w K mg base CC MM) (L : Chl P w K mg base CS CM CP CC MM BE) (I : Chi P w K mg base CS CM CC) (J' : Chm P w K mg base CS CM CC)
    (aW : Has P w K mg base 4 "_law_package" ["_law_targets"] (spWhole CS CM CP)) (aB : Has P w K mg base 6 "change_between" ["project", "other"] (spBtw K CS CM CP CC)) (aD : Has P w K mg base 1 "_law_draw" ["_law_feed", "_law_many"] spDraw)
    (aP : Has P w K mg base 1 "_law_parts_due" ["_law_before", "_law_after"] spDue) (aJ : Has P w K mg base 1 "_law_joined" ["_law_one_here", "_law_other"] spJn) (aS : Has P w K mg base 4 "_law_summed" ["_law_one_here", "_law_other"] (spSum K CS CM CC))
    (aL : Has P w K mg base 9 "_law_is_like" ["_law_change", "_law_parts", "_law_targets"] (spIsDn K CS CM CC)) (aI : Has P w K mg base 6 "_law_is_project" ["_law_project", "_law_targets"] (spIsP CS CM CP)) (F : FnP K "_law_kept_right" lKr f fd) :
    FnOk P w K mg base CX0 (k + 10) f fd ["_law_feed", "_law_plans"] spKr := by
  obtain ⟨fW, dW, gW, kW, bW, GW⟩ := aW.ex
  obtain ⟨fB, dB, gB, kB, bB, GB⟩ := aB.ex
  obtain ⟨fD, dD, gD, kD, bD, GD⟩ := aD.ex
  obtain ⟨fP, dP, gP, kP, bP, GP⟩ := aP.ex
  obtain ⟨fJ, dJ, gJ, kJ, bJ, GJ⟩ := aJ.ex
  obtain ⟨fS, dS, gS, kS, bS, GS⟩ := aS.ex
  obtain ⟨fL, dL, gL, kL, bL, GL⟩ := aL.ex
  obtain ⟨fI, dI, gI, kI, bI, GI⟩ := aI.ex
  obtain ⟨fC, dC, cC, bC, GC⟩ := L.call
  obtain ⟨fV, dV, hV1, hV2, bV, GV⟩ := I.inv
  obtain ⟨fE, dE, hE1, hE2, bE, GE⟩ := J'.eq
  refine F.ok scKr (fun vs H Q E h => ?_) (fun cdv A outer s H vs Q E hr h => ?_)
  · obtain ⟨a, Pl, d, T, rfl, _⟩ := h
    rfl
  · obtain ⟨a, Pl, d, T, rfl, fa, ePl, nPa, kt, tk, q⟩ := h
    have r1 : Room 1 _ := hr.mono (by omega)
    have r4 : Room 4 _ := hr.mono (by omega)
    have r6 : Room 6 _ := hr.mono (by omega)
    have r9 : Room 9 _ := hr.mono (by omega)
    have r3 : Room 3 _ := hr.mono (by omega)
    have r41 : Room (4 + 1) _ := hr.mono (by omega)
    have hu1 : (A.deeper (envOfC "_law_kept_right" (defScope lKr) s.heap.objs.size f cdv)).units + 1 < cLine := by
      have := hr.units
      omega
    refine ⟨_, PSs.nox (C8.pss_cut (ps_par (i := 2) (j := 3) (by rfl) scKr.nd rfl rfl (by decide) rfl rfl (pa_cons (pe_lc (own := [("_law_plan", 12)]) (g := gName 12) rfl scKr.nd (pi_list (pv 1)) (blkOk_by (N := nKr) (sc := defScope lKr) (by decide +kernel))
            (fun _ _ _ _ _ => pg_name (i := 12) scKr.nd rfl (.inl rfl) (hf := .inr rfl)) (fun _ _ _ _ _ => pts_nil) (fun _ _ _ _ _ => pe_call GW r4 (by rfl) gW kW bW .nil pass0 (pa_cons (pv 12) pa_nil))) (pa_cons (pe_dnewK) pa_nil)) (by rfl)) (C8.pss_cut (ps_for PassesOwn.never rfl (pi_range1 (by rfl) B.range (pa_cons (pe_int) pa_nil)) (pg_name (i := 4) scKr.nd rfl (.inl rfl))
        (C8.pss_cut (ps_par (i := 5) (j := 6) (by rfl) scKr.nd rfl rfl (by decide) rfl rfl (pa_cons (pe_op op_fdivNN (pv 4) pe_int) (pa_cons (pe_op op_mod (pv 4) pe_int) pa_nil)) (by rfl)) (pss_one (ps_dput hu1 (pv 3) (pv 4) (pe_call GB r6 (by rfl) gB kB bB .nil pass0 (pa_cons (pe_ix ix_list (pv 2) (pv 5) (fun _ _ => rfl)) (pa_cons (pe_ix ix_list (pv 2) (pv 6) (fun _ _ => rfl)) pa_nil))) rfl)))) (C8.pss_cut (ps_for PassesOwn.never rfl (pi_range1 (by rfl) B.range (pa_cons (pe_int) pa_nil)) (pg_name (i := 7) scKr.nd rfl (.inl rfl))
        (C8.pss_cut (ps_asg (pe_lc (own := [("_law_again", 9)]) (g := gName 9) rfl scKr.nd (pi_range1 (by rfl) B.range (pa_cons (pe_int) pa_nil)) (blkOk_by (N := nKr) (sc := defScope lKr) (by decide +kernel))
              (fun _ _ _ _ _ => pg_name (i := 9) scKr.nd rfl (.inl rfl) (hf := .inr rfl)) (fun _ _ _ _ _ => pts_nil) (fun _ _ _ _ _ => pe_call GD r1 (by rfl) gD kD bD .nil pass0 (pa_cons (pv 0) (pa_cons (pe_int) pa_nil)))) (pg_unl rfl (pgs_cons ((pg_name (i := 5) scKr.nd rfl (.inl rfl))) (pgs_cons ((pg_name (i := 6) scKr.nd rfl (.inl rfl))) (pgs_cons ((pg_name (i := 8) scKr.nd rfl (.inl rfl))) pgs_nil))))) (C8.pss_cut (ps_set (i := 10) scKr.nd rfl (.inl rfl) (pe_call GJ r1 (by rfl) gJ kJ bJ .nil pass0 (pa_cons (pe_call GP r1 (by rfl) gP kP bP .nil pass0 (pa_cons (pe_ix ix_list (pv 1) (pv 5) (fun _ _ => rfl)) (pa_cons (pe_ix ix_list (pv 1) (pv 6) (fun _ _ => rfl)) pa_nil))) (pa_cons (pe_call GP r1 (by rfl) gP kP bP .nil pass0 (pa_cons (pe_ix ix_list (pv 1) (pv 6) (fun _ _ => rfl)) (pa_cons (pe_ix ix_list (pv 1) (pv 8) (fun _ _ => rfl)) pa_nil))) pa_nil)))) (C8.pss_cut (ps_set (i := 11) scKr.nd rfl (.inl rfl) (pe_call GS r4 (by rfl) gS kS bS .nil pass0 (pa_cons (pe_dget hu1 (pv 3) (pe_op op_add (pe_op op_mul pe_int (pv 5)) (pv 6)) (fun _ _ => rfl)) (pa_cons (pe_dget hu1 (pv 3) (pe_op op_add (pe_op op_mul pe_int (pv 6)) (pv 8)) (fun _ _ => rfl)) pa_nil)))) (C8.pss_cut (ps_if (PW.pt (pw_or (pt_not (pt_val (pe_call GL r9 (by rfl) gL kL bL .nil pass0 (pa_cons (pv 11) (pa_cons (pv 10) (pa_cons (pe_ix ix_list (pv 1) (pv 5) (fun _ _ => rfl)) pa_nil)))))) (pw_or1 (pt_not (pt_val (pe_call GI r6 (by rfl) gI kI bI .nil pass0 (pa_cons (CW.pe_callT (E := fun _ => E0) (pv 11) cC GC r6 bC (fun _ => OD.passAt0) (pa_cons (pe_ix ix_list (pv 2) (pv 5) (fun _ _ => rfl)) pa_nil)) (pa_cons (pe_ix ix_list (pv 1) (pv 8) (fun _ _ => rfl)) pa_nil)))))))) (pss_one (ps_ret pe_bl)) pss_nil) (pss_one (ps_if (pt_cmpR (r := OD.rNeOwn CC (spCEq K CS CM CC) E0) (OD.op_neOwn GE r41 hE1 hE2 bE pass0 J'.ne G.iC.hm) (CW.pe_invT (E := fun _ => E0) (pe_dget hu1 (pv 3) (pe_op op_add (pe_op op_mul pe_int (pv 5)) (pv 6)) (fun _ _ => rfl)) GV r3 bV hV1 hV2 (fun _ => passAt00)) (pe_dget hu1 (pv 3) (pe_op op_add (pe_op op_mul pe_int (pv 6)) (pv 5)) (fun _ _ => rfl)) (nomark _)) (pss_one (ps_ret pe_bl)) pss_nil))))))) (C8.pss_cut (ps_for PassesOwn.never rfl (pi_range1 (by rfl) B.range (pa_cons (pe_int) pa_nil)) (pg_name (i := 4) scKr.nd rfl (.inl rfl))
        (pss_one (ps_if (pt_not (pt_val (pe_call GL r9 (by rfl) gL kL bL .nil pass0 (pa_cons (pe_dget hu1 (pv 3) (pv 4) (fun _ _ => rfl)) (pa_cons (pe_call GP r1 (by rfl) gP kP bP .nil pass0 (pa_cons (pe_ix ix_list (pv 1) (pe_op op_fdivNN (pv 4) pe_int) (fun _ _ => rfl)) (pa_cons (pe_ix ix_list (pv 1) (pe_op op_mod (pv 4) pe_int) (fun _ _ => rfl)) pa_nil))) (pa_cons (pe_ix ix_list (pv 1) (pe_op op_fdivNN (pv 4) pe_int) (fun _ _ => rfl)) pa_nil)))))) (pss_one (ps_ret pe_bl)) pss_nil))) (pss_one (ps_ret (pe_cmpR (op_eqD hr.units) (pe_lc (own := [("_law_project", 13), ("_law_plan", 12)]) (g := gTup K 2 (gCons (gName 13) (gCons (gName 12) gNil))) rfl scKr.nd (RZ.pi_zipA (by rfl) B.zip (pa_cons (pv 2) (pa_cons (pv 1) pa_nil))) (blkOk_by (N := nKr) (sc := defScope lKr) (by decide +kernel))
          (fun _ _ _ _ _ => pg_tup rfl (pgs_cons (pg_name (i := 13) scKr.nd rfl (.inl rfl) (hf := .inr rfl)) (pgs_cons (pg_name (i := 12) scKr.nd rfl (.inl rfl) (hf := .inr rfl)) pgs_nil))) (fun _ _ _ _ _ => pts_one (pt_not (pt_val (pe_call GI r6 (by rfl) gI kI bI .nil pass0 (pa_cons (pv 13) (pa_cons (pv 12) pa_nil)))))) (fun _ _ _ _ _ => pv 12)) (pe_lst pa_nil) rfl))))))), ?_⟩
    have ePl : H Pl = some (.lst (four d)) := ePl
    have kt' : ∀ i, KtAt H (tN d i) (tN T i) := fun i => kt _
    have tk' : ∀ i, TbK (tN T i) := fun i => tk _
    have tv' : ∀ i, TV (tN T i) := fun i => tvOf (K := K) (kt' i)
    have l6 : ∀ i, (tN T i).length ≤ 6 := fun i => (tk' i).len
    -- the projects
    refine ⟨fun σ' H' => ∃ (N D : Addr) (p : Fin 4 → Addr), σ' = slK a Pl (some (.ref N)) (some (.ref D)) none none none none none none none ∧ H N = none ∧ ∃ Hb, Same H Hb ∧ Hb D = none ∧ Hb N = some (.lst (four p)) ∧ (∀ i, PjAt CS CM CP Hb (tN p i) (tN T i)) ∧ Same Hb H' ∧ H' D = some (.dK []), ?_, ?_⟩
    · refine ⟨.ref Pl, rfl, Pl, rfl, ⟨_, .inl (.inl ePl)⟩, fun N hN => ?_⟩
      refine lcJ (n := 4) (vs := [12]) (fun i H' => Same H H' ∧ ∃ qs : List Addr, qs.length = i ∧ H' N = some (.lst (qs.map V.ref)) ∧ ∀ j, j < i → ∃ p, qs[j]? = some p ∧ PjAt CS CM CP H' p (tN T j)) ⟨KS.sameUpd hN, [], rfl, upd_same, fun j hj => absurd hj (Nat.not_lt_zero _)⟩
        (fun i H' lt h => ⟨_, _, .inl (.inl (h.1 _ _ ePl)), fourIx d lt⟩) (fun H' h => ⟨_, .inl (.inl (h.1 _ _ ePl)), Nat.le_refl _⟩) (fun i H' x H2 lt h y => ?_) (fun H2 h => ?_)
      · obtain ⟨rfl, y⟩ := y
        obtain ⟨s2, qs, lq, eN, fq⟩ := h
        have ex := y _ (.inl (.inl (s2 _ _ ePl)))
        rw [fourIx d lt] at ex
        obtain rfl : V.ref (tN d i) = x := Option.some.inj ex
        refine ⟨rfl, ?_⟩
        unfold tYes
        dsimp only
        rw [if_pos rfl]
        refine ⟨.ref (tN d i), rfl, tN d i, tN T i, rfl, (kt' i).stl (Stl.same s2), (tk' i).nd, by have := l6 i; omega, fun p0 H3 s3 pj => ?_⟩
        have eN3 := s3 _ _ eN
        have st := Stl.lst (H' := upd H3 N (.lst (qs.map V.ref ++ [.ref p0]))) eN3 Kp.put
        refine ⟨_, eN3, by rw [List.length_map, sizeLine_eq]; omega, fun b o hb => ?_, qs ++ [p0], by rw [List.length_append, lq]; rfl, by rw [upd_same, List.map_append]; rfl, fun j hj => ?_⟩
        · rw [upd_ne (ne_of_none hb hN)]
          exact s3 _ _ (s2 _ _ hb)
        · by_cases c : j < i
          · obtain ⟨p1, e1, h1⟩ := fq j c
            exact ⟨p1, by rw [List.getElem?_append_left (by omega)]; exact e1, (h1.stl (Stl.same s3)).stl st⟩
          · obtain rfl : j = i := by omega
            exact ⟨p0, by rw [List.getElem?_append_right (by omega), lq, Nat.sub_self]; rfl, pj.stl st⟩
      · obtain ⟨s2, qs, lq, eN, fq⟩ := h
        refine fun D hD => ?_
        have sD := KS.sameUpd (o := .dK []) hD
        obtain ⟨p0, p1, p2, p3, rfl⟩ : ∃ p0 p1 p2 p3, qs = [p0, p1, p2, p3] := by
          match qs, lq with
          | [p0, p1, p2, p3], _ => exact ⟨p0, p1, p2, p3, rfl⟩
        refine ⟨.ref N, .ref D, rfl, N, D, f4 p0 p1 p2 p3, rfl, hN, H2, s2, hD, eN, fun i => ?_, sD, upd_same⟩
        obtain ⟨pp, e1, h1⟩ := fq (i % 4) (Nat.mod_lt _ (by decide))
        have h2 : PjAt CS CM CP H2 (tN (f4 p0 p1 p2 p3) i) (tN T i) := by
          have e3 : tN T (i % 4) = tN T i := by unfold tN; congr 1; exact Fin.ext (Nat.mod_mod _ _)
          rw [e3] at h1
          have e4 := fourIx (f4 p0 p1 p2 p3) (i := i % 4) (Nat.mod_lt _ (by decide))
          have e5 : tN (f4 p0 p1 p2 p3) (i % 4) = tN (f4 p0 p1 p2 p3) i := by unfold tN; congr 1; exact Fin.ext (Nat.mod_mod _ _)
          have e6 : (([p0, p1, p2, p3] : List Addr).map V.ref)[i % 4]? = some (.ref pp) := by rw [List.getElem?_map, e1]; rfl
          have e7 : (four (f4 p0 p1 p2 p3))[i % 4]? = some (.ref pp) := e6
          rw [e4, e5] at e7
          have e8 := V.ref.inj (Option.some.inj e7)
          rw [e8]
          exact h1
        exact h2
    rintro _ H1 ⟨N, D, p, rfl, nN, Hb, sHb, nDb, eNb, pjb, s1, eD1⟩
    have nNa : N ≠ a := fdNe fa nN
    -- the changes
    refine ⟨fun σ' H' => ∃ x4 x5 x6, σ' = slK a Pl (some (.ref N)) (some (.ref D)) x4 x5 x6 none none none none ∧ Same Hb H' ∧ KrI K CS CM CP CC H' Pl N D d p T 16, ?_, ?_⟩
    · refine ⟨16, rfl, by decide, by decide, ?_⟩
      refine forJ (n := 16) (fun i σ' H' => ∃ x4 x5 x6 kvs, σ' = slK a Pl (some (.ref N)) (some (.ref D)) x4 x5 x6 none none none none ∧ Same Hb H' ∧ H' D = some (.dK kvs) ∧ kvs.length ≤ i ∧ ∀ m, m < i → ∃ (c : Addr) (ys : List Str), valV kvs (.inl ((m : Nat) : Int)) = some (.ref c) ∧ ChAt2 CS CM CC Hb H' c (dueP (tN T (m / 4)) (tN T (m % 4)) ys) ∧ DueR (tN T (m / 4)) (tN T (m % 4)) ys)
        ⟨none, none, none, [], rfl, s1, eD1, Nat.le_refl _, fun m hm => absurd hm (Nat.not_lt_zero _)⟩ (fun i σ' H' lt _ => lt) (fun σ' H' _ => Nat.le_refl _) (fun i σ' H0 x H2 lt h y => ?_) (fun σ' H' h => ?_)
      · obtain ⟨rfl, rfl⟩ := y
        obtain ⟨x4, x5, x6, kvs, rfl, s2, eD, lk, cf⟩ := h
        have en : ((0 : Int) + (i : Int)) = ((i : Nat) : Int) := by omega
        rw [en]
        refine ⟨fun σ' H' => σ' = slK a Pl (some (.ref N)) (some (.ref D)) (some (.int i)) (some (.int (i / 4 : Nat))) (some (.int (i % 4 : Nat))) none none none none ∧ H' = H2, ?_, ?_⟩
        · refine ⟨.int i, rfl, i, 4, rfl, rfl, ⟨by decide, by decide⟩, .int i, rfl, _, 4, rfl, rfl, (by show (0 : Int) < 4; decide), .int (i / 4 : Nat), .int ((i : Int) % 4), rfl, ?_, rfl⟩
          rw [show ((i : Int) % 4) = ((i % 4 : Nat) : Int) by omega]
          rfl
        rintro _ H2 ⟨rfl, rfl⟩
        have hi : i / 4 < 4 := by omega
        have hj : i % 4 < 4 := by omega
        have eN2 := s2 _ _ eNb
        refine ⟨.ref N, rfl, .int (i / 4 : Nat), rfl, N, _, _, _, rfl, rfl, .inl (.inl eN2), fourAt p hi, .ref N, rfl, .int (i % 4 : Nat), rfl, N, _, _, _, rfl, rfl, .inl (.inl eN2), fourAt p hj, ?_⟩
        refine ⟨_, _, tN T (i / 4), tN T (i % 4), Hb, rfl, pjb _, pjb _, s2, by have := l6 (i / 4); omega, by have := l6 (i % 4); omega, fun ys nd srt mem c H3 s3 ch => ?_⟩
        have eD3 := s3 _ _ eD
        refine ⟨.ref D, rfl, .int i, rfl, D, _, rfl, DPut.k (k := Sum.inl (i : Int)) eD3 (by rw [sizeLine_eq]; omega), ?_⟩
        have oth : ∀ b o, H3 b = some o → (∀ ks, o ≠ .dK ks) → (∀ xs, o ≠ .lst xs) → upd H3 D (.dK (putK kvs (.inl (i : Int)) (.ref c))) b = some o := fun b o hb nk _ => by
          rw [upd_ne fun e => by rw [e, eD3] at hb; exact nk _ (Option.some.inj hb).symm]
          exact hb
        refine ⟨_, _, _, _, rfl, fun b o hb => ?_, upd_same, ?_, fun m hm => ?_⟩
        · rw [upd_ne (ne_of_none hb nDb)]
          exact s3 _ _ (s2 _ _ hb)
        · unfold putK
          split
          · rw [List.length_map]; omega
          · rw [List.length_append]; show kvs.length + 1 ≤ _; omega
        · rw [valV_put]
          by_cases c2 : m = i
          · subst c2
            exact ⟨c, ys, if_pos rfl, ch.up oth, nd, srt, mem⟩
          · obtain ⟨c', ys', e1, h1, r1⟩ := cf m (by omega)
            exact ⟨c', ys', by rw [if_neg fun z => c2 (by have := Sum.inl.inj z; omega)]; exact e1, (h1.up fun b o hb _ _ => s3 _ _ hb).up oth, r1⟩
      · obtain ⟨x4, x5, x6, kvs, rfl, s2, eD, lk, cf⟩ := h
        refine ⟨x4, x5, x6, rfl, s2, s2 _ _ (sHb _ _ ePl), s2 _ _ eNb, fun i => (kt' i).stl (Stl.same (sHb.trans s2)), fun i => (pjb i).stl (Stl.same s2), kvs, eD, lk, fun m hm => ?_⟩
        obtain ⟨c', ys', e1, h1, r1⟩ := cf m hm
        exact ⟨c', ys', e1, h1.to s2, r1⟩
    rintro _ H2 ⟨x4, x5, x6, rfl, s2, K2⟩
    have F2 : Fd H2 a := (fa.same sHb).same s2
    have k02 : Kp a H H2 := Kp.same (sHb.trans s2)
    -- twelve turns
    refine ⟨fun σ' H' => ∃ x5 x6 x7 x8 x10 x11, σ' = slK a Pl (some (.ref N)) (some (.ref D)) x4 x5 x6 x7 x8 x10 x11 ∧ Kp a H H' ∧ Fd H' a ∧ KrI K CS CM CP CC H' Pl N D d p T 16, ?_, ?_⟩
    · refine ⟨12, rfl, by decide, by decide, ?_⟩
      refine forJ (n := 12) (fun i σ' H' => ∃ x5 x6 x7 x8 x10 x11, σ' = slK a Pl (some (.ref N)) (some (.ref D)) x4 x5 x6 x7 x8 x10 x11 ∧ Kp a H H' ∧ Fd H' a ∧ KrI K CS CM CP CC H' Pl N D d p T 16) ⟨x5, x6, none, none, none, none, rfl, k02, F2, K2⟩ (fun i σ' H' lt _ => lt) (fun σ' H' _ => Nat.le_refl _) (fun i σ' H0 x H3 lt h y => ?_) (fun _ _ h => h)
      obtain ⟨rfl, rfl⟩ := y
      obtain ⟨x5, x6, x7, x8, x10, x11, rfl, k3, F3, K3⟩ := h
      -- three of them
      refine ⟨fun σ' H' => ∃ i1 j1 k1 : Nat, σ' = slK a Pl (some (.ref N)) (some (.ref D)) x4 (some (.int i1)) (some (.int j1)) (some (.int (0 + i))) (some (.int k1)) x10 x11 ∧ i1 < 4 ∧ j1 < 4 ∧ k1 < 4 ∧ Kp a H H' ∧ Fd H' a ∧ KrI K CS CM CP CC H' Pl N D d p T 16, ?_, ?_⟩
      · refine ⟨3, rfl, by decide, by decide, fun W hW => ?_⟩
        have nWa : W ≠ a := fdNe F3 hW
        refine lcJ (n := 3) (vs := [9]) (fun j H' => Kp a H3 H' ∧ Fd H' a ∧ ∃ rs : List Nat, rs.length = j ∧ (∀ r ∈ rs, r < 4) ∧ H' W = some (.lst (rs.map fun r : Nat => V.int r))) ⟨Kp.same (KS.sameUpd hW), F3.same (KS.sameUpd hW), [], rfl, fun r hr => absurd hr (by simp), upd_same⟩
          (fun j H' lt _ => lt) (fun H' _ => Nat.le_refl _) (fun j H' x H4 ltj h y => ?_) (fun H4 h => ?_)
        · obtain ⟨rfl, rfl⟩ := y
          obtain ⟨k4, F4, rs, lr, r4, eW⟩ := h
          refine ⟨rfl, ?_⟩
          unfold tYes
          dsimp only
          rw [if_pos rfl]
          refine ⟨.ref a, rfl, a, 4, rfl, F4, by decide, by decide, fun r H5 r0 r1' k5 F5 => ?_⟩
          have eW5 := k5 _ _ nWa eW
          refine ⟨_, eW5, by rw [List.length_map, sizeLine_eq]; omega, fun b o nb hb => ?_, fdOther F5 nWa, rs ++ [r.toNat], by rw [List.length_append, lr]; rfl, fun z hz => ?_, ?_⟩
          · rw [upd_ne (ne_of_none hb hW)]
            exact k5 _ _ nb (k4 _ _ nb hb)
          · rcases List.mem_append.mp hz with hz | hz
            · exact r4 z hz
            · rw [List.mem_singleton.mp hz]
              omega
          · rw [upd_same, List.map_append]
            show some (HO.lst (_ ++ [V.int r])) = some (HO.lst (_ ++ [V.int (r.toNat : Nat)]))
            rw [show ((r.toNat : Nat) : Int) = r by omega]
        · obtain ⟨k4, F4, rs, lr, r4, eW⟩ := h
          obtain ⟨i1, j1, k1, rfl⟩ : ∃ i1 j1 k1, rs = [i1, j1, k1] := by
            match rs, lr with
            | [i1, j1, k1], _ => exact ⟨i1, j1, k1, rfl⟩
          exact ⟨W, _, rfl, .inl (.inl eW), rfl, .int i1, _, rfl, .int j1, _, rfl, .int k1, _, rfl, rfl, i1, j1, k1, rfl, r4 _ (by simp), r4 _ (by simp), r4 _ (by simp), k3.trans k4, F4, K3.feed F3 k4 nPa nNa⟩
      rintro _ H4 ⟨i1, j1, k1, rfl, hi, hj, hk, k4, F4, K4⟩
      have v1 := tv' i1
      have v2 := tv' j1
      have v3 := tv' k1
      have b1 := tk' i1
      have b2 := tk' j1
      have b3 := tk' k1
      -- what is due
      refine ⟨fun σ' H' => ∃ (Lj : Addr) (y1 y2 ys : List Str), σ' = slK a Pl (some (.ref N)) (some (.ref D)) x4 (some (.int i1)) (some (.int j1)) (some (.int (0 + i))) (some (.int k1)) (some (.ref Lj)) x11 ∧ Same H4 H' ∧ DueR (tN T i1) (tN T j1) y1 ∧ DueR (tN T j1) (tN T k1) y2 ∧ ys.Nodup ∧ sortedS ys = true ∧
        (∀ z, z ∈ ys ↔ z ∈ namesOf (dueP (tN T i1) (tN T j1) y1) ∨ z ∈ namesOf (dueP (tN T j1) (tN T k1) y2)) ∧ LpAt H' Lj (joinP (dueP (tN T i1) (tN T j1) y1) (dueP (tN T j1) (tN T k1) y2) ys), ?_, ?_⟩
      · refine ⟨.ref Pl, rfl, .int i1, rfl, Pl, _, _, _, rfl, rfl, .inl (.inl K4.pl), fourAt d hi, .ref Pl, rfl, .int j1, rfl, Pl, _, _, _, rfl, rfl, .inl (.inl K4.pl), fourAt d hj, ?_⟩
        refine ⟨_, _, tN T i1, tN T j1, rfl, K4.kt _, K4.kt _, by have := l6 i1; omega, by have := l6 j1; omega, fun y1 nd1 st1 c1 L1 H5 s5 nL1 lp1 => ?_⟩
        have K5 := K4.same s5
        refine ⟨.ref Pl, rfl, .int j1, rfl, Pl, _, _, _, rfl, rfl, .inl (.inl K5.pl), fourAt d hj, .ref Pl, rfl, .int k1, rfl, Pl, _, _, _, rfl, rfl, .inl (.inl K5.pl), fourAt d hk, ?_⟩
        refine ⟨_, _, tN T j1, tN T k1, rfl, K5.kt _, K5.kt _, by have := l6 j1; omega, by have := l6 k1; omega, fun y2 nd2 st2 c2 L2 H6 s6 nL2 lp2 => ?_⟩
        have d1 : DueR (tN T i1) (tN T j1) y1 := ⟨nd1, st1, c1⟩
        have d2 : DueR (tN T j1) (tN T k1) y2 := ⟨nd2, st2, c2⟩
        have calm : wrJ (dueP (tN T i1) (tN T j1) y1) (dueP (tN T j1) (tN T k1) y2) = [] := by
          rw [wrJ_eq (due_v v1 v2 y1) (due_v v2 v3 y2) (d2.ok b2 b3).nd, List.filter_eq_nil_iff]
          intro n _
          rw [due_calm nd1 nd2 v2 n]
          exact Bool.false_ne_true
        refine ⟨L1, L2, _, _, rfl, lp1.same s6, lp2, (d1.ok b1 b2).nd, (d2.ok b2 b3).nd, by have := d1.l6 b1 b2; omega, by have := d2.l6 b2 b3; omega, fun q0 hq => nmsTok _ ((d2.pk b2 b3).nm q0 hq), fun ys ndy srt mem _ Nj H7 s7 nN lpj => ?_, fun n r ew => ?_⟩
        · exact ⟨Nj, y1, y2, ys, rfl, s5.trans (s6.trans s7), d1, d2, ndy, srt, mem, lpj⟩
        · rw [calm] at ew
          cases ew
      rintro _ H5 ⟨Lj, y1, y2, ys, rfl, s5, d1, d2, ndy, srt, mem, lpj⟩
      have K5 := K4.same s5
      have ly : ys.length ≤ 14 := by
        have h1 := d1.l6 b1 b2
        have h2 := d2.l6 b2 b3
        have h3 := ndLen ys (namesOf (dueP (tN T i1) (tN T j1) y1) ++ namesOf (dueP (tN T j1) (tN T k1) y2)) ndy fun z hz => List.mem_append.mpr ((mem z).mp hz)
        unfold namesOf at h3
        rw [List.length_append, List.length_map, List.length_map] at h3
        omega
      have ysN : ∀ z ∈ ys, z ∈ nmsL := fun z hz => by
        rcases (mem z).mp hz with h | h
        · obtain ⟨q0, hq, rfl⟩ := List.mem_map.mp h
          exact (d1.pk b1 b2).nm q0 hq
        · obtain ⟨q0, hq, rfl⟩ := List.mem_map.mp h
          exact (d2.pk b2 b3).nm q0 hq
      have jok : PsOk (joinP (dueP (tN T i1) (tN T j1) y1) (dueP (tN T j1) (tN T k1) y2) ys) := fmP_ok ndy ly
      have jpk : PsK (joinP (dueP (tN T i1) (tN T j1) y1) (dueP (tN T j1) (tN T k1) y2) ys) := fmP_k ysN (fun n t e => (jn_k (d1.pk b1 b2) (d2.pk b2 b3) n).1 t e) (fun n t e => (jn_k (d1.pk b1 b2) (d2.pk b2 b3) n).2 t e)
      -- what is told
      refine ⟨fun σ' H' => ∃ c' : Addr, σ' = slK a Pl (some (.ref N)) (some (.ref D)) x4 (some (.int i1)) (some (.int j1)) (some (.int (0 + i))) (some (.int k1)) (some (.ref Lj)) (some (.ref c')) ∧ Same H5 H' ∧ ChAt K CS CM CC H' c' (joinP (dueP (tN T i1) (tN T j1) y1) (dueP (tN T j1) (tN T k1) y2) ys), ?_, ?_⟩
      · obtain ⟨c1, z1, g1, ch1, r1'⟩ := K5.at_ hi hj
        obtain ⟨c2, z2, g2, ch2, r2'⟩ := K5.at_ hj hk
        obtain rfl := r1'.uniq d1
        obtain rfl := r2'.uniq d2
        refine ⟨.ref D, rfl, .int i1, rfl, 4, _, rfl, rfl, .inl ⟨by decide, by decide⟩, .int j1, rfl, _, _, rfl, rfl, D, .ref c1, rfl, g1, .ref D, rfl, .int j1, rfl, 4, _, rfl, rfl, .inl ⟨by decide, by decide⟩, .int k1, rfl, _, _, rfl, rfl, D, .ref c2, rfl, g2, ?_⟩
        refine ⟨c1, c2, _, _, rfl, ch1, ch2, (d1.ok b1 b2).nd, (d2.ok b2 b3).nd, by have := d1.l6 b1 b2; omega, by have := d2.l6 b2 b3; omega, fun ys2 ndy2 srt2 mem2 => ?_⟩
        obtain rfl : ys2 = ys := SU.uniq (permOfMem ndy2 ndy fun z => by rw [mem2 z, mem z]) srt2 srt
        refine ⟨fun _ c' H' s6 ch' => ⟨c', rfl, s6, ch'⟩, fun n e => ?_⟩
        unfold clashP at e
        have := List.find?_some e
        rw [due_calm d1.nd d2.nd v2 n] at this
        cases this
      rintro _ H6 ⟨c', rfl, s6, ch6⟩
      have K6 := K5.same s6
      have lp6 := lpj.same s6
      refine ⟨fun σ' H' => σ' = slK a Pl (some (.ref N)) (some (.ref D)) x4 (some (.int i1)) (some (.int j1)) (some (.int (0 + i))) (some (.int k1)) (some (.ref Lj)) (some (.ref c')) ∧ Same H6 H', ?_, ?_⟩
      · refine ⟨.ref c', rfl, .ref Lj, rfl, .ref Pl, rfl, .int i1, rfl, Pl, _, _, _, rfl, rfl, .inl (.inl K6.pl), fourAt d hi, ?_⟩
        refine ⟨c', Lj, _, _, tN T i1, rfl, ch6, lp6, K6.kt _, jok, jpk, b1, fun H7 s7 => ⟨true, rfl, iteF ?_⟩⟩
        have K7 := K6.same s7
        have ch7 := ch6.stl (Stl.same s7)
        obtain ⟨dc, t, vs, hc, _⟩ := id ch7
        refine ⟨.ref c', rfl, c', rfl, .ref N, rfl, .int i1, rfl, N, _, _, _, rfl, rfl, .inl (.inl K7.pr), fourAt p hi, ⟨dc, _, hc⟩, c', _, _, tN T i1, rfl, ch7, K7.pj _, jok, by have := l6 i1; omega, fun _ p' H8 s8 pj8 => ?_, fun n e => ?_⟩
        · have K8 := K7.same s8
          refine ⟨.ref Pl, rfl, .int k1, rfl, Pl, _, _, _, rfl, rfl, .inl (.inl K8.pl), fourAt d hk, ?_⟩
          have kc := chT_k jpk b1
          obtain ⟨kp, _, tb8⟩ := id pj8
          have cv : TV (chT (tN T i1) (joinP (dueP (tN T i1) (tN T j1) y1) (dueP (tN T j1) (tN T k1) y2) ys)) := fun k t hm => by
            obtain ⟨x, hx⟩ := tb8.each k t hm
            exact TgAt.tgv (K := K) hx
          have like := likeWhole (T := chT (tN T i1) (joinP (dueP (tN T i1) (tN T j1) y1) (dueP (tN T j1) (tN T k1) y2) ys)) (T' := tN T k1) (D := fun n => tLook (tN T k1) n) (ys := nmsL) kc.nd b3.nd (fun z hz => kc.sub z hz) (fun z hz => b3.sub z hz)
            (fun n _ => oQof (cv.look n) (join_leads d1.cov d2.cov d1.nd d2.nd ndy v1 v2 v3 mem n)) (fun n _ => rfl)
          exact ⟨p', _, _, tN T k1, rfl, pj8, K8.kt _, kc.nd, b3.nd, like.1, by have := l6 k1; omega, fun k hk => nmsTok k (b3.sub k hk), like.2, fun H9 s9 => ⟨true, rfl, iteF ⟨rfl, s7.trans (s8.trans s9)⟩⟩⟩
        · rw [join_fits d1.cov d2.cov d1.nd d2.nd v1 v2 v3 mem] at e
          cases e
      rintro _ H7 ⟨rfl, s7⟩
      have K7 := K6.same s7
      obtain ⟨c1, z1, g1, ch1, r1'⟩ := K7.at_ hi hj
      obtain ⟨dc1, t1, vs1, hc1, _⟩ := id ch1
      refine ⟨.ref D, rfl, .int i1, rfl, 4, _, rfl, rfl, .inl ⟨by decide, by decide⟩, .int j1, rfl, _, _, rfl, rfl, D, .ref c1, rfl, g1, c1, dc1, _, rfl, hc1, c1, _, rfl, ch1, by have := r1'.l6 b1 b2; omega, fun c9 H8 s8 ch9 => ?_⟩
      have K8 := K7.same s8
      obtain ⟨c2, z2, g2, ch2, r2'⟩ := K8.at_ hj hi
      obtain ⟨dc9, t9, vs9, hc9, _⟩ := id ch9
      obtain ⟨dc2, t2, vs2, hc2, _⟩ := id ch2
      rw [due_flip v1 v2] at ch9
      obtain rfl := r1'.flip r2'
      refine ⟨.ref D, rfl, .int j1, rfl, 4, _, rfl, rfl, .inl ⟨by decide, by decide⟩, .int i1, rfl, _, _, rfl, rfl, D, .ref c2, rfl, g2, c9, c2, dc9, _, dc2, _, rfl, rfl, hc9, hc2, c9, c2, _, _, rfl, ch9, .inl ch2, fun H9 s9 => ⟨_, rfl, ?_⟩⟩
      rw [psE_refl (due_v v2 v1 z1)]
      have sA := s5.trans (s6.trans (s7.trans (s8.trans s9)))
      exact ⟨false, rfl, iteF ⟨_, _, _, _, _, _, rfl, k4.trans (Kp.same sA), F4.same sA, K4.same sA⟩⟩
    rintro _ H3 ⟨x5, x6, x7, x8, x10, x11, rfl, k3, F3, K3⟩
    -- sixteen looks
    refine ⟨fun σ' H' => ∃ x4, σ' = slK a Pl (some (.ref N)) (some (.ref D)) x4 x5 x6 x7 x8 x10 x11 ∧ Same H3 H', ?_, ?_⟩
    · refine ⟨16, rfl, by decide, by decide, ?_⟩
      refine forJ (n := 16) (fun i σ' H' => ∃ x4, σ' = slK a Pl (some (.ref N)) (some (.ref D)) x4 x5 x6 x7 x8 x10 x11 ∧ Same H3 H') ⟨x4, rfl, Same.refl _⟩ (fun i σ' H' lt _ => lt) (fun σ' H' _ => Nat.le_refl _) (fun i σ' H0 x H4 lt h y => ?_) (fun _ _ h => h)
      obtain ⟨rfl, rfl⟩ := y
      obtain ⟨x4, rfl, s4⟩ := h
      have K4 := K3.same s4
      have en : ((0 : Int) + (i : Int)) = ((i : Nat) : Int) := by omega
      rw [en]
      have hi : i / 4 < 4 := by omega
      have hj : i % 4 < 4 := by omega
      obtain ⟨kvs, eD, _, cf⟩ := id K4.cg
      obtain ⟨c, ys, e1, ch, dr⟩ := cf i lt
      have dg : DGet H4 D (.int i) (some (.ref c)) := by rw [← e1]; exact DGet.k (k := Sum.inl (i : Int)) eD
      have em : ((i : Int) % 4) = ((i % 4 : Nat) : Int) := by omega
      refine ⟨.ref D, rfl, .int i, rfl, D, .ref c, rfl, dg, .ref Pl, rfl, .int i, rfl, i, 4, rfl, rfl, ⟨by decide, by decide⟩, Pl, _, _, _, rfl, rfl, .inl (.inl K4.pl), fourAt d hi, .ref Pl, rfl, .int i, rfl, _, 4, rfl, rfl, (by show (0 : Int) < 4; decide), ?_⟩
      refine ⟨Pl, _, ((i % 4 : Nat) : Int), _, rfl, congrArg V.int em, .inl (.inl K4.pl), fourAt d hj, ?_⟩
      refine ⟨_, _, tN T (i / 4), tN T (i % 4), rfl, K4.kt _, K4.kt _, by have := l6 (i / 4); omega, by have := l6 (i % 4); omega, fun y2 nd srt mem L2 H5 s5 nL lp => ?_⟩
      obtain rfl : ys = y2 := dr.uniq ⟨nd, srt, mem⟩
      have K5 := K4.same s5
      refine ⟨.ref Pl, rfl, .int i, rfl, i, 4, rfl, rfl, ⟨by decide, by decide⟩, Pl, _, _, _, rfl, rfl, .inl (.inl K5.pl), fourAt d hi, ?_⟩
      exact ⟨c, L2, _, _, tN T (i / 4), rfl, ch.stl (Stl.same s5), lp, K5.kt _, dr.ok (tk' _) (tk' _), dr.pk (tk' _) (tk' _), tk' _, fun H6 s6 => ⟨true, rfl, iteF ⟨_, rfl, s4.trans (s5.trans s6)⟩⟩⟩
    rintro _ H4 ⟨x4, rfl, s4⟩
    have K4 := K3.same s4
    -- the projects once more
    refine ⟨.ref N, rfl, .ref Pl, rfl, N, Pl, _, _, rfl, .inl ⟨.inl (.inl K4.pr), .inl (.inl K4.pl), fun W hW => ?_⟩⟩
    refine lcJ (n := 4) (vs := [13, 12]) (fun i H' => Same H4 H' ∧ H' W = some (.lst [])) ⟨KS.sameUpd hW, upd_same⟩
      (fun i H' lt h => ⟨_, _, _, _, .inl (.inl (h.1 _ _ K4.pr)), .inl (.inl (h.1 _ _ K4.pl)), fourIx p lt, fourIx d lt⟩) (fun H' h => ⟨_, _, .inl (.inl (h.1 _ _ K4.pr)), .inl (.inl (h.1 _ _ K4.pl)), .inl (Nat.le_refl _)⟩) (fun i H' x H5 lt h y => ?_) (fun H5 h => ?_)
    · obtain ⟨s5, eW⟩ := h
      obtain ⟨z, v1, v2, rfl, nz, rfl, y1, y2⟩ := y
      have e1 := y1 _ (.inl (.inl (s5 _ _ K4.pr)))
      have e2 := y2 _ (.inl (.inl (s5 _ _ K4.pl)))
      rw [fourIx p lt] at e1
      rw [fourIx d lt] at e2
      obtain rfl : V.ref (tN p i) = v1 := Option.some.inj e1
      obtain rfl : V.ref (tN d i) = v2 := Option.some.inj e2
      have sz := KS.sameUpd (o := .tup [.ref (tN p i), .ref (tN d i)]) nz
      have ez : upd H' z (.tup [.ref (tN p i), .ref (tN d i)]) z = some (.tup [.ref (tN p i), .ref (tN d i)]) := upd_same
      generalize upd H' z (.tup [.ref (tN p i), .ref (tN d i)]) = H6 at *
      have K6 := K4.same (s5.trans sz)
      have tvi := tv' i
      refine ⟨z, _, rfl, .inl (.inl ez), rfl, .ref (tN p i), _, rfl, .ref (tN d i), _, rfl, rfl, rfl, .ref (tN p i), rfl, .ref (tN d i), rfl, tN p i, tN d i, tN T i, tN T i, rfl, K6.pj i, K6.kt i, (tk' i).nd, (tk' i).nd, List.Perm.refl _, by have := l6 i; omega, fun k hk => nmsTok k ((tk' i).sub k hk), ?_, fun H7 s7 => ⟨true, rfl, iteF ⟨s5.trans (sz.trans s7), s7 _ _ (sz _ _ eW)⟩⟩⟩
      exact (likeWhole (T := tN T i) (T' := tN T i) (D := fun n => tLook (tN T i) n) (ys := nmsL) (tk' i).nd (tk' i).nd (fun z hz => (tk' i).sub z hz) (fun z hz => (tk' i).sub z hz) (fun n _ => oQof (tvi.look n) (oE_refl2 (tvi.look n))) (fun n _ => rfl)).2
    · obtain ⟨s5, eW⟩ := h
      refine ⟨Nat.zero_le _, fun Ln hLn => ?_⟩
      have sL := KS.sameUpd (o := .lst []) hLn
      refine eqNil (n := 0) (zs := []) (sL _ _ eW) upd_same ⟨[], fun _ => .nil, fun d hd => absurd hd (by simp), Nat.le_refl _⟩ ?_
      exact q _ (k3.trans (Kp.same (s4.trans (s5.trans sL)))) (F3.same (s4.trans (s5.trans sL)))
end
end PJ

set_option Elab.async false
set_option linter.all false
set_option maxRecDepth 100000
set_option maxHeartbeats 16000000
/-! the law -/
namespace PJ
open PySem PySem.Spec PyProof.Rows L2 KS KS.La
open KX hiding sameUpd
abbrev lLaw : Stmt := top 39
def spLaw (K : PySem.W.Frag) : Sp := fun vs H Q _ => ∃ (a : Addr) (ns : List Int), vs = [.ref a] ∧ SqL K H a (ns.map V.int) ∧ ns.length ≤ 63 ∧ ∀ H', Q (.bl true) H'
abbrev nLaw : List Str := ["_law_script", "_law_k", "_law_feed", "_law_a", "_law_b", "_law_c", "_law_d", "_law_one_here", "_law_other", "_law_first", "_law_then", "_law_back", "_law_targets", "_law_mine", "_law_its", "_law_due", "_law_told", "_law_name", "_law_before", "_law_after"]
theorem scLaw : FnScope nLaw ["_law_script"] (defScope lLaw) := ⟨rfl, rfl, rfl, by decide +kernel, rfl, by decide +kernel, by decide +kernel⟩
/-! two rows of told parts compare as they are told -/
def TE9' (K : PySem.W.Frag) : EB.Eqb := fun x y c H => EB.EFlat x y c H ∨ TQ.EE K x y c H
theorem mon_te {K : PySem.W.Frag} : EB.Mon2 (TE9' K) := EB.Mon2.or EB.mon_eflat TQ.mon_ee
theorem eqB_te {X : Cx} : EB.EqB X 1 (TE9' X.K) := EB.EqB.or (EB.EqB.mono EB.eqB_flat (by decide)) (TQ.eqB_ee fun A s => TQ.un80 s)
theorem tpD {K : PySem.W.Frag} {H : Hp} {v u : V} {q q' : Prt} (h : TpAt H v q) (h' : TpAt H u q') : TQ.ETup K (TE9' K) v u (pE q q') H := by
  have same : v = u → pE q q' = true := fun e => by
    subst e
    obtain ⟨t, vb, va, rfl, ht, hb, ha⟩ := h
    obtain ⟨t', vb', va', e, ht', hb', ha'⟩ := h'
    cases e
    rw [ht] at ht'
    have := Option.some.inj ht'
    injection this with this
    injection this with e1 e2
    injection e2 with e2 e3
    injection e3 with e3 _
    subst e2 e3
    have one : ∀ {v : V} {o o' : Option Tg}, ToO H v o → ToO H v o' → oE o o' = true := fun {v o o'} h h' => by
      rcases toO_et (K := K) h h' with ⟨_, _, e⟩ | ⟨e, ⟨b, ys, e2, _⟩, _⟩ | ⟨⟨a, xs, e2, _⟩, e, _⟩ | ⟨a, b, _, _, _, e1, e2, _, _, hs, _⟩
      · exact e
      · rw [e] at e2; cases e2
      · rw [e] at e2; cases e2
      · exact hs (V.ref.inj (e1.symm.trans e2))
    unfold pE
    rw [V.str.inj e1, one hb hb', one ha ha']
    simp
  have same' := fun (e : v = u) => same e
  obtain ⟨t, vb, va, rfl, ht, hb, ha⟩ := id h
  obtain ⟨t', vb', va', rfl, ht', hb', ha'⟩ := id h'
  refine ⟨t, t', _, _, _, rfl, rfl, .inl (.inl ht), .inl (.inl ht'), fun e => same' (by rw [e]), .cons (.inl ⟨rfl, rfl, rfl⟩) fun _ => .cons (.inr fun H2 e => toO_et (hb.stl fun b o x _ => e _ _ x) (hb'.stl fun b o x _ => e _ _ x)) fun _ => .cons (.inr fun H2 e => toO_et (ha.stl fun b o x _ => e _ _ x) (ha'.stl fun b o x _ => e _ _ x)) fun _ => .nilL, ?_⟩
  show pE q q' = ((q.1 == q'.1 && (oE q.2.1 q'.2.1 && (oE q.2.2 q'.2.2 && true))) && true)
  unfold pE
  simp
theorem lpRow {K : PySem.W.Frag} {H : Hp} : ∀ {xs ys : List V} {ps ps' : List Prt}, Paired (TpAt H) xs ps → Paired (TpAt H) ys ps' → TQ.Row (TQ.ETup K (TE9' K)) H xs ys (zE ps ps')
  | _, _, _, _, .nil, _ => by unfold zE; exact .nilL
  | _, _, _, _, .cons _ _, .nil => by unfold zE; exact .nilR
  | _, _, _, _, .cons a r, .cons b s => .cons (tpD a b) fun _ => lpRow r s
/-- mine == its -/
theorem lpEq {K : PySem.W.Frag} {H : Hp} {L L' : Addr} {ps ps' : List Prt} (h : LpAt H L ps) (h' : LpAt H L' ps') : TQ.EList (TQ.ETup K (TE9' K)) (.ref L) (.ref L') (psE ps ps') H := by
  obtain ⟨xs, e, p⟩ := h
  obtain ⟨ys, e', p'⟩ := h'
  refine ⟨L, L', xs, ys, rfl, rfl, e, e', ?_⟩
  have l := p.length
  have l' := p'.length
  by_cases c : xs.length = ys.length
  · refine .inr ⟨c, ?_⟩
    have : psE ps ps' = zE ps ps' := by
      unfold psE
      rw [show (ps.length == ps'.length) = true by rw [beq_iff_eq]; omega, Bool.and_true]
    rw [this]
    exact lpRow p p'
  · refine .inl ⟨c, ?_⟩
    unfold psE
    rw [show (ps.length == ps'.length) = false by rw [beq_eq_false_iff_ne]; omega, Bool.and_false]
end PJ

set_option Elab.async false
set_option linter.all false
set_option maxRecDepth 100000
set_option maxHeartbeats 8000000
/-! what is due, done one behind another -/
namespace PJ
open PySem PySem.Spec PyProof.Rows L2 KS KS.La
open KX hiding sameUpd
theorem due_fits {T T' S : Tb} {y : List Str} (vS : TV S) (v : TV T) (like : ∀ n, oE (tLook S n) (tLook T n) = true) : badP (dueP T T' y) S = none := by
  refine badNone fun q hq => ?_
  obtain ⟨h1, h2, h3⟩ := fmP_mem.mp (due_fm T T' y ▸ hq)
  rw [h2]
  exact like q.1
theorem due_leads {T T' S : Tb} {y : List Str} (c : Cov T T' y) (nd : y.Nodup) (vS : TV S) (v : TV T) (v' : TV T') (like : ∀ n, oE (tLook S n) (tLook T n) = true) (n : Str) : oE (tLook (chT S (dueP T T' y)) n) (tLook T' n) = true := by
  have nd' : (namesOf (dueP T T' y)).Nodup := nd.sublist (fmP_names _ y)
  rw [chT_look nd']
  cases e : gLook (dueP T T' y) n with
  | none => exact oE_trans (vS.look n) (v.look n) (v'.look n) (like n) (due_not c nd e)
  | some p =>
    rw [due_is nd e]
    exact oE_refl2 (v'.look n)
/-- what the law's parts are good for -/
structure Du (ps : List Prt) : Prop where
  ok : PsOk ps
  pk : PsK ps
  v : PsV ps
  st : (namesOf ps).Pairwise (fun a b => a.cps.toList ≤ b.cps.toList)
  l6 : ps.length ≤ 6
theorem DueR.du {T T' : Tb} {y : List Str} (h : DueR T T' y) (k : TbK T) (k' : TbK T') (v : TV T) (v' : TV T') : Du (dueP T T' y) :=
  ⟨h.ok k k', h.pk k k', due_v v v' y, h.sorted, h.l6 k k'⟩
theorem Du.join {ps ps' : List Prt} {ys : List Str} (h : Du ps) (h' : Du ps') (nd : ys.Nodup) (mem : ∀ z, z ∈ ys ↔ z ∈ namesOf ps ∨ z ∈ namesOf ps') : PsOk (joinP ps ps' ys) ∧ PsK (joinP ps ps' ys) := by
  have ly : ys.length ≤ 14 := by
    have h1 := h.l6
    have h2 := h'.l6
    have h3 := ndLen ys (namesOf ps ++ namesOf ps') nd fun z hz => List.mem_append.mpr ((mem z).mp hz)
    unfold namesOf at h3
    rw [List.length_append, List.length_map, List.length_map] at h3
    omega
  have ysN : ∀ z ∈ ys, z ∈ nmsL := fun z hz => by
    rcases (mem z).mp hz with h0 | h0
    · obtain ⟨q0, hq, rfl⟩ := List.mem_map.mp h0
      exact h.pk.nm q0 hq
    · obtain ⟨q0, hq, rfl⟩ := List.mem_map.mp h0
      exact h'.pk.nm q0 hq
  exact ⟨fmP_ok nd ly, fmP_k ysN (fun n t e => (jn_k h.pk h'.pk n).1 t e) (fun n t e => (jn_k h.pk h'.pk n).2 t e)⟩
theorem LpAt.feed {H H' : Hp} {a L : Addr} {ps : List Prt} (h : LpAt H L ps) (F : Fd H a) (k : Kp a H H') (n : L ≠ a) : LpAt H' L ps :=
  let ⟨xs, e, p⟩ := h; ⟨xs, k _ _ n e, L2.Paired.mapP p fun _ _ h => h.stl (Stl.fd F k)⟩
theorem LpAt.ne {H : Hp} {a L : Addr} {ps : List Prt} (h : LpAt H L ps) (F : Fd H a) : L ≠ a := fun z => by
  obtain ⟨xs, e, p⟩ := h
  obtain ⟨x, y, e2, _⟩ := F
  rw [z, e2] at e
  have := HO.lst.inj (Option.some.inj e)
  subst this
  cases p with
  | cons h _ => obtain ⟨t, vb, va, e3, _⟩ := h; cases e3
/-- turned round, made by the law -/
theorem lpFlip {H : Hp} {z : Addr} {n : Str} {vb va : V} {q : Prt} (e : n = q.1) (hb : ToO H vb q.2.1) (ha : ToO H va q.2.2) (hz : H z = none) : TpAt (upd H z (.tup [.str n, va, vb])) (.ref z) (flp q) :=
  have s := KS.sameUpd (o := .tup [.str n, va, vb]) hz
  ⟨z, va, vb, rfl, by rw [upd_same, e]; rfl, ha.stl fun b o x _ => s _ _ x, hb.stl fun b o x _ => s _ _ x⟩
theorem f4all {α β : Type} {R : α → β → Prop} {a b c d : α} {a' b' c' d' : β} (ha : R a a') (hb : R b b') (hc : R c c') (hd : R d d') (i : Nat) : R (tN (f4 a b c d) i) (tN (f4 a' b' c' d') i) := by
  unfold tN
  generalize (⟨i % 4, Nat.mod_lt _ (by decide)⟩ : Fin 4) = j
  match j with
  | 0 => exact ha
  | 1 => exact hb
  | 2 => exact hc
  | 3 => exact hd
theorem f4fin {α β : Type} {R : α → β → Prop} {a b c d : α} {a' b' c' d' : β} (ha : R a a') (hb : R b b') (hc : R c c') (hd : R d d') (j : Fin 4) : R (f4 a b c d j) (f4 a' b' c' d' j) := by
  match j with
  | 0 => exact ha
  | 1 => exact hb
  | 2 => exact hc
  | 3 => exact hd
theorem kitLS {K : PySem.W.Frag} : PySem.W.kitOne K (.type "list") (.type "str") = some false :=
  dpKit (K := K) (H := fun _ => some (.lst [])) (v := .ref 0) (d := .list []) (.lst (.inl (.inl rfl)) .nil) (c := "str") (.inr (.inl rfl))
theorem kitSS {K : PySem.W.Frag} : PySem.W.kitOne K (.type "str") (.type "str") = some true :=
  dpKit (K := K) (H := fun _ => none) (v := .str "") (d := .str "") (.str "") (c := "str") (.inr (.inl rfl))
theorem join_back {T T' : Tb} {y1 y2 ys : List Str} (c1 : Cov T T' y1) (c2 : Cov T' T y2) (n1 : y1.Nodup) (n2 : y2.Nodup) (v : TV T) (v' : TV T')
    (mem : ∀ z, z ∈ ys ↔ z ∈ namesOf (dueP T T' y1) ∨ z ∈ namesOf (dueP T' T y2)) : joinP (dueP T T' y1) (dueP T' T y2) ys = [] := by
  unfold joinP
  refine List.filterMap_eq_nil_iff.mpr fun n hn => ?_
  have so : gLook (dueP T T' y1) n ≠ none ∨ gLook (dueP T' T y2) n ≠ none := by
    rcases (mem n).mp hn with h | h
    · exact .inl fun e => gLook_none.mp e h
    · exact .inr fun e => gLook_none.mp e h
  obtain ⟨a1, a2, a3, a4⟩ := join_ends c1 c2 n1 n2 v v' v n so
  unfold keepP
  rw [oE_comm2 (v.look n) a3] at a1
  rw [oE_comm2 a4 (v.look n)] at a2
  rw [if_pos (oE_trans a3 (v.look n) a4 a1 a2)]
theorem due_self {T : Tb} (v : TV T) (ys : List Str) : dueP T T ys = [] := by
  unfold dueP
  refine List.filterMap_eq_nil_iff.mpr fun n hn => ?_
  unfold keepP
  rw [if_pos (oE_refl2 (v.look n))]
theorem no_clash {T T' T2 : Tb} {y1 y2 ys : List Str} (n1 : y1.Nodup) (n2 : y2.Nodup) (v' : TV T') : clashP (dueP T T' y1) (dueP T' T2 y2) ys = none := by
  unfold clashP
  rw [List.find?_eq_none]
  intro n _
  rw [due_calm n1 n2 v' n]
  exact Bool.false_ne_true
/-- a change leads from what is like the one table to what is like the other -/
theorem due_whole {K : PySem.W.Frag} {T T' S : Tb} {y : List Str} (d : DueR T T' y) (k : TbK T) (k' : TbK T') (v : TV T) (v' : TV T') (kS : TbK S) (vS : TV S) (like : ∀ n, oE (tLook S n) (tLook T n) = true) (vC : TV (chT S (dueP T T' y))) :
    ((chT S (dueP T T' y)).map (·.1)).Perm (T'.map (·.1)) ∧ tbE (chT S (dueP T T' y)) T' = true :=
  likeWhole (T := chT S (dueP T T' y)) (T' := T') (D := fun n => tLook T' n) (ys := nmsL) (chT_k (d.pk k k') kS).nd k'.nd (fun z hz => (chT_k (d.pk k k') kS).sub z hz) (fun z hz => k'.sub z hz)
    (fun n _ => oQof (vC.look n) (due_leads d.cov d.nd vS v v' like n)) (fun n _ => rfl)
theorem pjV {K : PySem.W.Frag} {H : Hp} {CS CM CP p : Addr} {T : Tb} (h : PjAt CS CM CP H p T) : TV T := fun k t hm => by
  obtain ⟨_, _, tb⟩ := h
  obtain ⟨x, hx⟩ := tb.each k t hm
  exact TgAt.tgv (K := K) hx
end PJ

set_option Elab.async false
set_option linter.all false
set_option maxRecDepth 100000
set_option maxHeartbeats 16000000
/-! the law's def -/
namespace PJ
open PySem PySem.Spec PyProof.Rows L2 KS KS.La
open KX hiding sameUpd
section
variable {P : Program} {w : World} {K : PySem.W.Frag} {mg : Str → Option Value} {base : Heap} {f : Addr} {fd : FuncData} {CS CM CP CC NT NS MM BE : Addr}
/-- Change() -/
structure Chd (P : Program) (w : World) (K : PySem.W.Frag) (mg : Str → Option Value) (base : Heap) (CC e : Addr) : Prop where
  mak : ∃ (f : Addr) (fd : FuncData), Mk K CC f ∧ Binds K fd ["self", "parts"] [.ref e] ∧ FnOk P w K mg base CX0 1 f fd ["self", "parts"] (spCInit K CC)
  em : ∀ H, SqT K H e []
abbrev slL (sc : Addr) (x1 x2 x3 x4 x5 x6 x7 x8 x9 x10 x11 x12 x13 x14 x15 x16 : Option V) : L2.St := [some (.ref sc), x1, x2, x3, x4, x5, x6, x7, x8, x9, x10, x11, x12, x13, x14, x15, x16, none, none, none]
theorem okLaw {k : Nat} {e : Addr} (B : Bn mg) (G : Chc P w K mg base CC MM) (G0 : Chd P w K mg base CC e) (L : Chl P w K mg base CS CM CP CC MM BE) (I : Chi P w K mg base CS CM CC) (J' : Chm P w K mg base CS CM CC)
    (aF : Has P w K mg base 1 "_law_feed_of" ["_law_script", "_law_k"] (spFeed K)) (aR : Has P w K mg base 6 "_law_drawn" ["_law_feed"] spTabN) (aM : Has P w K mg base 6 "_law_moved" ["_law_feed", "_law_targets", "_law_many"] spMoved)
    (aW : Has P w K mg base 4 "_law_package" ["_law_targets"] (spWhole CS CM CP)) (aB : Has P w K mg base 6 "change_between" ["project", "other"] (spBtw K CS CM CP CC)) (aD : Has P w K mg base 1 "_law_draw" ["_law_feed", "_law_many"] spDraw)
    (aP : Has P w K mg base 1 "_law_parts_due" ["_law_before", "_law_after"] spDue) (aJ : Has P w K mg base 1 "_law_joined" ["_law_one_here", "_law_other"] spJn) (aS : Has P w K mg base 4 "_law_summed" ["_law_one_here", "_law_other"] (spSum K CS CM CC))
    (aL : Has P w K mg base 9 "_law_is_like" ["_law_change", "_law_parts", "_law_targets"] (spIsDn K CS CM CC)) (aI : Has P w K mg base 6 "_law_is_project" ["_law_project", "_law_targets"] (spIsP CS CM CP)) (aH : Has P w K mg base 4 "_law_handed" ["_law_feed", "_law_parts"] (spHand CS CM))
    (aK : Has P w K mg base 10 "_law_kept_right" ["_law_feed", "_law_plans"] spKr) (F : FnP K "law" lLaw f fd) (hD : PySem.W.subIn K (.type "dict") (.ref CC) = some false) : FnOk P w K mg base CX0 (k + 11) f fd ["_law_script"] (spLaw K) := by
  obtain ⟨fF, dF, gF, kF, bF, GF⟩ := aF.ex
  obtain ⟨fR, dR, gR, kR, bR, GR⟩ := aR.ex
  obtain ⟨fM, dM, gM, kM, bM, GM⟩ := aM.ex
  obtain ⟨fW, dW, gW, kW, bW, GW⟩ := aW.ex
  obtain ⟨fB, dB, gB, kB, bB, GB⟩ := aB.ex
  obtain ⟨fD, dD, gD, kD, bD, GD⟩ := aD.ex
  obtain ⟨fP, dP, gP, kP, bP, GP⟩ := aP.ex
  obtain ⟨fJ, dJ, gJ, kJ, bJ, GJ⟩ := aJ.ex
  obtain ⟨fS, dS, gS, kS, bS, GS⟩ := aS.ex
  obtain ⟨fL, dL, gL, kL, bL, GL⟩ := aL.ex
  obtain ⟨fI, dI, gI, kI, bI, GI⟩ := aI.ex
  obtain ⟨fH, dH, gH, kH, bH, GH⟩ := aH.ex
  obtain ⟨fK, dK, gK, kK, bK, GK⟩ := aK.ex
  obtain ⟨fC, dC, cC, bC, GC⟩ := L.call
  obtain ⟨fA, dA, hA1, hA2, bA, GA⟩ := L.add
  obtain ⟨fV, dV, hV1, hV2, bV, GV⟩ := I.inv
  obtain ⟨fE, dE, hE1, hE2, bE, GE⟩ := J'.eq
  obtain ⟨fN, dN, hN1, hN2, bN, GN⟩ := J'.len
  obtain ⟨fX, dX, MX, bX, GX⟩ := G.mkC
  obtain ⟨fY, dY, MY, bY, GY⟩ := G0.mak
  refine F.ok scLaw (fun vs H Q E h => ?_) (fun cdv A outer s H vs Q E hr h => ?_)
  · obtain ⟨a, ns, rfl, _⟩ := h
    rfl
  · obtain ⟨sc, ns, rfl, hSc, hlen, q⟩ := h
    have r1 : Room 1 _ := hr.mono (by omega)
    have r2 : Room 2 _ := hr.mono (by omega)
    have r3 : Room 3 _ := hr.mono (by omega)
    have r4 : Room 4 _ := hr.mono (by omega)
    have r41 : Room (4 + 1) _ := hr.mono (by omega)
    have r6 : Room 6 _ := hr.mono (by omega)
    have r9 : Room 9 _ := hr.mono (by omega)
    have r10 : Room 10 _ := hr.mono (by omega)
    have r11 : Room (1 + 1) _ := hr.mono (by omega)
    refine ⟨_, PSs.nox (C8.pss_cut (ps_for PassesOwn.never rfl (pi_range1 (by rfl) B.range (pa_cons (pe_callB (call_max2 rfl) (by rfl) B.max (by decide +kernel) (pa_cons (pe_int) (pa_cons (pe_callB (call_min2 rfl) (by rfl) B.min (by decide +kernel) (pa_cons (pe_int) (pa_cons (pe_callB call_len_seq (by rfl) B.len PySem.boot_len (pa_cons (pv 0) pa_nil)) pa_nil))) pa_nil))) pa_nil)) (pg_name (i := 1) scLaw.nd rfl (.inl rfl))
      (C8.pss_cut (ps_set (i := 2) scLaw.nd rfl (.inl rfl) (pe_call GF r1 (by rfl) gF kF bF .nil pass0 (pa_cons (pv 0) (pa_cons (pv 1) pa_nil)))) (C8.pss_cut (ps_set (i := 3) scLaw.nd rfl (.inl rfl) (pe_call GR r6 (by rfl) gR kR bR .nil pass0 (pa_cons (pv 2) pa_nil))) (C8.pss_cut (ps_set (i := 4) scLaw.nd rfl (.inl rfl) (pe_call GM r6 (by rfl) gM kM bM .nil pass0 (pa_cons (pv 2) (pa_cons (pv 3) (pa_cons (pe_int) pa_nil))))) (C8.pss_cut (ps_set (i := 5) scLaw.nd rfl (.inl rfl) (pe_ix ix_list (pe_lst (pa_cons (pe_call GM r6 (by rfl) gM kM bM .nil pass0 (pa_cons (pv 2) (pa_cons (pv 4) (pa_cons (pe_int) pa_nil)))) (pa_cons (pe_call GM r6 (by rfl) gM kM bM .nil pass0 (pa_cons (pv 2) (pa_cons (pv 3) (pa_cons (pe_int) pa_nil)))) (pa_cons (pv 3) pa_nil)))) (pe_call GD r1 (by rfl) gD kD bD .nil pass0 (pa_cons (pv 2) (pa_cons (pe_int) pa_nil))) (fun _ _ => rfl))) (C8.pss_cut (ps_set (i := 6) scLaw.nd rfl (.inl rfl) (pe_call GM r6 (by rfl) gM kM bM .nil pass0 (pa_cons (pv 2) (pa_cons (pv 3) (pa_cons (pe_int) pa_nil))))) (C8.pss_cut (ps_par (i := 7) (j := 8) (by rfl) scLaw.nd rfl rfl (by decide) rfl rfl (pa_cons (pe_call GP r1 (by rfl) gP kP bP .nil pass0 (pa_cons (pv 3) (pa_cons (pv 4) pa_nil))) (pa_cons (pe_call GP r1 (by rfl) gP kP bP .nil pass0 (pa_cons (pv 4) (pa_cons (pv 5) pa_nil))) pa_nil)) (by rfl)) (C8.pss_cut (ps_par (i := 9) (j := 10) (by rfl) scLaw.nd rfl rfl (by decide) rfl rfl (pa_cons (pe_call GB r6 (by rfl) gB kB bB .nil pass0 (pa_cons (pe_call GW r4 (by rfl) gW kW bW .nil pass0 (pa_cons (pv 3) pa_nil)) (pa_cons (pe_call GW r4 (by rfl) gW kW bW .nil pass0 (pa_cons (pv 4) pa_nil)) pa_nil))) (pa_cons (pe_make MX GX r11 (by rfl) G.gC bX .nil pass0 (pa_cons (pe_call GH r4 (by rfl) gH kH bH .nil pass0 (pa_cons (pv 2) (pa_cons (pv 8) pa_nil))) pa_nil)) pa_nil)) (by rfl)) (C8.pss_cut (ps_setLc (i := 11) (own := [("_law_name", 17), ("_law_before", 18), ("_law_after", 19)]) (g := gTup K 3 (gCons (gName 17) (gCons (gName 18) (gCons (gName 19) gNil)))) (by rfl) scLaw.nd rfl rfl (sw_true rfl rfl (by decide +kernel) (by decide +kernel)) (pi_list (pv 7)) (blkOk_by (N := nLaw) (sc := defScope lLaw) (by decide +kernel))
          (fun _ _ _ _ _ => pg_tup rfl (pgs_cons (pg_name (i := 17) scLaw.nd rfl (.inl rfl) (hf := .inr rfl)) (pgs_cons (pg_name (i := 18) scLaw.nd rfl (.inl rfl) (hf := .inr rfl)) (pgs_cons (pg_name (i := 19) scLaw.nd rfl (.inl rfl) (hf := .inr rfl)) pgs_nil)))) (fun _ _ _ _ _ => pts_nil) (fun _ _ _ _ _ => pe_tup (pa_cons (pv 17) (pa_cons (pv 19) (pa_cons (pv 18) pa_nil))))) (C8.pss_cut (ps_for PassesOwn.never rfl (pi_tup (pe_tup (pa_cons (pv 3) (pa_cons (pv 4) (pa_cons (pv 5) (pa_cons (pv 6) pa_nil)))))) (pg_name (i := 12) scLaw.nd rfl (.inl rfl))
          (pss_one (ps_if (PW.pt (pw_or (pt_not (pt_val (pe_call GL r9 (by rfl) gL kL bL .nil pass0 (pa_cons (pv 9) (pa_cons (pv 7) (pa_cons (pv 12) pa_nil)))))) (pw_or1 (pt_not (pt_val (pe_call GL r9 (by rfl) gL kL bL .nil pass0 (pa_cons (CW.pe_invT (E := fun _ => E0) (pv 9) GV r3 bV hV1 hV2 (fun _ => passAt00)) (pa_cons (pv 11) (pa_cons (pv 12) pa_nil))))))))) (pss_one (ps_ret pe_bl)) pss_nil))) (C8.pss_cut (ps_for PassesOwn.never rfl (pi_tup (pe_tup (pa_cons (pe_tup (pa_cons (pv 7) (pa_cons (pv 8) pa_nil))) (pa_cons (pe_tup (pa_cons (pv 8) (pa_cons (pv 7) pa_nil))) (pa_cons (pe_tup (pa_cons (pv 7) (pa_cons (pv 11) pa_nil))) (pa_cons (pe_tup (pa_cons (pv 7) (pa_cons (pe_call GP r1 (by rfl) gP kP bP .nil pass0 (pa_cons (pv 6) (pa_cons (pv 5) pa_nil))) pa_nil))) pa_nil)))))) (pg_tup rfl (pgs_cons ((pg_name (i := 13) scLaw.nd rfl (.inl rfl))) (pgs_cons ((pg_name (i := 14) scLaw.nd rfl (.inl rfl))) pgs_nil)))
          (C8.pss_cut (ps_set (i := 15) scLaw.nd rfl (.inl rfl) (pe_call GJ r1 (by rfl) gJ kJ bJ .nil pass0 (pa_cons (pv 13) (pa_cons (pv 14) pa_nil)))) (C8.pss_cut (ps_if (pt_cmpR op_ne (pe_cmpR (r := rEqO K CC (spCEq K CS CM CC)) (op_eqO GE r4 hE1 hE2 bE hD) (pe_make MX GX r11 (by rfl) G.gC bX .nil pass0 (pa_cons (pe_call GH r4 (by rfl) gH kH bH .nil pass0 (pa_cons (pv 2) (pa_cons (pv 13) pa_nil))) pa_nil)) (pe_make MX GX r11 (by rfl) G.gC bX .nil pass0 (pa_cons (pe_call GH r4 (by rfl) gH kH bH .nil pass0 (pa_cons (pv 2) (pa_cons (pv 14) pa_nil))) pa_nil)) rfl) (pe_cmpR (r := TQ.rEqT (TQ.EList (TQ.ETup K (TE9' K)))) (TQ.op_eqT (n := 3) (TQ.rcB_list (TQ.mon_etup mon_te) (TQ.eqB_tup mon_te eqB_te)) r3) (pv 13) (pv 14) rfl) (nomark _)) (pss_one (ps_ret pe_bl)) pss_nil) (C8.pss_cut (ps_set (i := 16) scLaw.nd rfl (.inl rfl) (pe_call GS r4 (by rfl) gS kS bS .nil pass0 (pa_cons (pe_make MX GX r11 (by rfl) G.gC bX .nil pass0 (pa_cons (pe_call GH r4 (by rfl) gH kH bH .nil pass0 (pa_cons (pv 2) (pa_cons (pv 13) pa_nil))) pa_nil)) (pa_cons (pe_make MX GX r11 (by rfl) G.gC bX .nil pass0 (pa_cons (pe_call GH r4 (by rfl) gH kH bH .nil pass0 (pa_cons (pv 2) (pa_cons (pv 14) pa_nil))) pa_nil)) pa_nil)))) (C8.pss_cut (ps_if (PW.pt (pw_and (pt_val (pe_callB call_isi (by rfl) B.isi (by decide +kernel) (pa_cons (pv 15) (pa_cons (pe_bltn (v := .ty "str") (by rfl) B.str (by decide +kernel) rfl) pa_nil)))) (pw_and1 (pt_cmpR op_ne (pv 16) (pv 15) (nomark _))))) (pss_one (ps_ret pe_bl)) pss_nil) (pss_one (ps_if (PW.pt (pw_and (pt_not (pt_val (pe_callB call_isi (by rfl) B.isi (by decide +kernel) (pa_cons (pv 15) (pa_cons (pe_bltn (v := .ty "str") (by rfl) B.str (by decide +kernel) rfl) pa_nil))))) (pw_and1 (pt_not (pt_val (pe_call GL r9 (by rfl) gL kL bL .nil pass0 (pa_cons (pv 16) (pa_cons (pv 15) (pa_cons (pe_ix ix_list (pe_lst (pa_cons (pv 3) (pa_cons (pv 4) pa_nil))) (pe_callTy (T := "int") call_int1 (by rfl) B.int (by decide +kernel) (pa_cons (pe_cmpR (r := TQ.rEqT (TQ.EList (TQ.ETup K (TE9' K)))) (TQ.op_eqT (n := 3) (TQ.rcB_list (TQ.mon_etup mon_te) (TQ.eqB_tup mon_te eqB_te)) r3) (pv 13) (pv 8) rfl) pa_nil)) (fun _ _ => rfl)) pa_nil))))))))) (pss_one (ps_ret pe_bl)) pss_nil))))))) (C8.pss_cut (ps_if (PW.pt (pw_or (pt_not (pt_val (pe_call GI r6 (by rfl) gI kI bI .nil pass0 (pa_cons (CW.pe_callT (E := fun _ => E0) (pv 10) cC GC r6 bC (fun _ => OD.passAt0) (pa_cons (CW.pe_callT (E := fun _ => E0) (pv 9) cC GC r6 bC (fun _ => OD.passAt0) (pa_cons (pe_call GW r4 (by rfl) gW kW bW .nil pass0 (pa_cons (pv 3) pa_nil)) pa_nil)) pa_nil)) (pa_cons (pv 5) pa_nil)))))
            (pw_or (pt_cmpR (r := OD.rNeOwn CC (spCEq K CS CM CC) E0) (OD.op_neOwn GE r41 hE1 hE2 bE pass0 J'.ne G.iC.hm) (CW.pe_invT (E := fun _ => E0) (CW.pe_invT (E := fun _ => E0) (pv 9) GV r3 bV hV1 hV2 (fun _ => passAt00)) GV r3 bV hV1 hV2 (fun _ => passAt00)) (pv 9) (nomark _))
              (pw_or1 (pt_cmpR op_ne (pe_callB (OC.call_lenOwn (E := E0) (FnOk.raw GN bN .nil) r11 hN1 hN2 pass0) (by rfl) B.len PySem.boot_len (pa_cons (CW.pe_binT (E := fun _ => E0) (pv 9) (CW.pe_invT (E := fun _ => E0) (pv 9) GV r3 bV hV1 hV2 (fun _ => passAt00)) GA r3 bA hA1 hA2 L.sf (fun _ => OD.passAt0)) pa_nil)) pe_int (nomark _)))))) (pss_one (ps_ret pe_bl)) pss_nil) (pss_one (ps_if (PW.pt (pw_or (pt_cmpR (r := OD.rNeOwn CC (spCEq K CS CM CC) E0) (OD.op_neOwn GE r41 hE1 hE2 bE pass0 J'.ne G.iC.hm) (pe_call GB r6 (by rfl) gB kB bB .nil pass0 (pa_cons (pe_call GW r4 (by rfl) gW kW bW .nil pass0 (pa_cons (pv 5) pa_nil)) (pa_cons (pe_call GW r4 (by rfl) gW kW bW .nil pass0 (pa_cons (pv 5) pa_nil)) pa_nil))) (pe_make0 MY GY r11 (by rfl) G.gC bY (.cons rfl .nil) pass0 (dvs := [.ref e])) (nomark _))
            (pw_or1 (pt_not (pt_val (pe_call GK r10 (by rfl) gK kK bK .nil pass0 (pa_cons (pv 2) (pa_cons (pe_lst (pa_cons (pv 3) (pa_cons (pv 4) (pa_cons (pv 5) (pa_cons (pv 6) pa_nil))))) pa_nil)))))))) (pss_one (ps_ret pe_bl)) pss_nil)))))))))))))) (pss_one (ps_ret pe_bl))), ?_⟩
    refine ⟨fun _ _ => True, ?_, fun σ' H' _ => q H'⟩
    refine ⟨.ref sc, rfl, sc, _, rfl, .inl hSc, 4, _, rfl, 2, _, rfl, _, rfl, ?b1, ?b2, ?main⟩
    case b1 => split <;> (try split) <;> omega
    case b2 => split <;> (try split) <;> omega
    case main =>
    have hN : ∀ L : Int, 0 ≤ L → (if (if L < 4 then L else 4) > 2 then (if L < 4 then L else 4) else 2).toNat ≤ 4 := fun L hL => by split <;> (try split) <;> omega
    refine forJ (n := _) (fun i σ' H' => (∃ x1 x2 x3 x4 x5 x6 x7 x8 x9 x10 x11 x12 x13 x14 x15 x16, σ' = slL sc x1 x2 x3 x4 x5 x6 x7 x8 x9 x10 x11 x12 x13 x14 x15 x16) ∧ SqL K H' sc (ns.map V.int)) ⟨⟨none, none, none, none, none, none, none, none, none, none, none, none, none, none, none, none, rfl⟩, hSc⟩ (fun i σ' H' lt _ => lt) (fun σ' H' _ => Nat.le_refl _) (fun i σ' H0 x H1 lt h y => ?_) (fun _ _ _ => True.intro)
    obtain ⟨rfl, rfl⟩ := y
    obtain ⟨⟨x1, x2, x3, x4, x5, x6, x7, x8, x9, x10, x11, x12, x13, x14, x15, x16, rfl⟩, hS1⟩ := h
    have li : i < 4 := Nat.lt_of_lt_of_le lt (hN _ (Int.natCast_nonneg _))
    refine ⟨fun σ' H2 => ∃ a, σ' = (slL sc (some (.int (0 + i))) (some (.ref a)) x3 x4 x5 x6 x7 x8 x9 x10 x11 x12 x13 x14 x15 x16) ∧ Same H1 H2 ∧ Fd H2 a ∧ H1 a = none, ?_, ?_⟩
    · exact ⟨.ref sc, rfl, .int (0 + i), rfl, sc, ns, 0 + i, rfl, hS1, hlen, by omega, by omega, fun p Hp sm np fd => ⟨p, rfl, sm, fd, np⟩⟩
    rintro _ H2 ⟨a, rfl, s2, F2, na⟩
    have k2 : Kp a H1 H2 := Kp.same s2
    -- the first table
    refine ⟨fun σ' H' => ∃ d T, σ' = (slL sc (some (.int (0 + i))) (some (.ref a)) (some (.ref d)) x4 x5 x6 x7 x8 x9 x10 x11 x12 x13 x14 x15 x16) ∧ Kp a H1 H' ∧ Fd H' a ∧ KtAt H' d T ∧ TbK T, ?_, ?_⟩
    · exact ⟨.ref a, rfl, a, rfl, F2, fun d T H3 kt tk _ k3 F3 => ⟨d, T, rfl, k2.trans k3, F3, kt, tk⟩⟩
    rintro _ H3 ⟨da, Ta, rfl, k3, F3, ktA, tkA⟩
    -- the second
    refine ⟨fun σ' H' => ∃ d T, σ' = (slL sc (some (.int (0 + i))) (some (.ref a)) (some (.ref da)) (some (.ref d)) x5 x6 x7 x8 x9 x10 x11 x12 x13 x14 x15 x16) ∧ Kp a H1 H' ∧ Fd H' a ∧ KtAt H' da Ta ∧ KtAt H' d T ∧ TbK T, ?_, ?_⟩
    · exact ⟨.ref a, rfl, .ref da, rfl, a, da, 6, Ta, rfl, F3, by decide, by decide, ktA, tkA, fun d T H4 kt tk _ k4 F4 => ⟨d, T, rfl, k3.trans k4, F4, ktA.stl (Stl.fd F3 k4), kt, tk⟩⟩
    clear ktA F3 k3
    rintro _ H4 ⟨db, Tb, rfl, k4, F4, ktA, ktB, tkB⟩
    -- the third
    refine ⟨fun σ' H' => ∃ d T, σ' = (slL sc (some (.int (0 + i))) (some (.ref a)) (some (.ref da)) (some (.ref db)) (some (.ref d)) x6 x7 x8 x9 x10 x11 x12 x13 x14 x15 x16) ∧ Kp a H1 H' ∧ Fd H' a ∧ KtAt H' da Ta ∧ KtAt H' db Tb ∧ KtAt H' d T ∧ TbK T, ?_, ?_⟩
    · refine ⟨.ref a, rfl, .ref db, rfl, a, db, 6, Tb, rfl, F4, by decide, by decide, ktB, tkB, fun d1 T1 H5 kt1 tk1 _ k5 F5 => ?_⟩
      have S5 := Stl.fd F4 k5
      refine ⟨.ref a, rfl, .ref da, rfl, a, da, 4, Ta, rfl, F5, by decide, by decide, ktA.stl S5, tkA, fun d2 T2 H6 kt2 tk2 _ k6 F6 => ?_⟩
      have S6 := Stl.fd F5 k6
      refine ⟨.ref da, rfl, (by show 3 ≤ sizeLine; decide), fun L hL => ?_⟩
      have sL := KS.sameUpd (o := .lst [.ref d1, .ref d2, .ref da]) hL
      have nL : L ≠ a := fdNe F6 hL
      refine ⟨.ref a, rfl, a, 3, rfl, F6.same sL, by decide, by decide, fun r H7 r0 r1' k7 F7 => ?_⟩
      have S7 := (Stl.same sL).trans (Stl.fd (F6.same sL) k7)
      have eL := k7 _ _ nL upd_same
      have kk := k4.trans (k5.trans (k6.trans ((Kp.same sL).trans k7)))
      have A7 := ((ktA.stl S5).stl S6).stl S7
      have B7 := ((ktB.stl S5).stl S6).stl S7
      have hr3 : r = 0 ∨ r = 1 ∨ r = 2 := by omega
      rcases hr3 with rfl | rfl | rfl
      · exact ⟨L, _, 0, .ref d1, rfl, rfl, .inl (.inl eL), rfl, d1, T1, rfl, kk, F7, A7, B7, (kt1.stl S6).stl S7, tk1⟩
      · exact ⟨L, _, 1, .ref d2, rfl, rfl, .inl (.inl eL), rfl, d2, T2, rfl, kk, F7, A7, B7, kt2.stl S7, tk2⟩
      · exact ⟨L, _, 2, .ref da, rfl, rfl, .inl (.inl eL), rfl, da, Ta, rfl, kk, F7, A7, B7, A7, tkA⟩
    clear ktA ktB F4 k4
    rintro _ H5 ⟨dc, Tc, rfl, k5, F5, ktA, ktB, ktC, tkC⟩
    -- the fourth
    refine ⟨fun σ' H' => ∃ d T, σ' = (slL sc (some (.int (0 + i))) (some (.ref a)) (some (.ref da)) (some (.ref db)) (some (.ref dc)) (some (.ref d)) x7 x8 x9 x10 x11 x12 x13 x14 x15 x16) ∧ Kp a H1 H' ∧ Fd H' a ∧ KtAt H' da Ta ∧ KtAt H' db Tb ∧ KtAt H' dc Tc ∧ KtAt H' d T ∧ TbK T, ?_, ?_⟩
    · refine ⟨.ref a, rfl, .ref da, rfl, a, da, 3, Ta, rfl, F5, by decide, by decide, ktA, tkA, fun d T H6 kt tk _ k6 F6 => ?_⟩
      have S6 := Stl.fd F5 k6
      exact ⟨d, T, rfl, k5.trans k6, F6, ktA.stl S6, ktB.stl S6, ktC.stl S6, kt, tk⟩
    clear ktA ktB ktC F5 k5
    rintro _ H6 ⟨dd, Td, rfl, k6, F6, ktA, ktB, ktC, ktD, tkD⟩
    have lA := tkA.len
    have lB := tkB.len
    have lC := tkC.len
    have lD := tkD.len
    have vA : TV Ta := tvOf (K := K) ktA
    have vB : TV Tb := tvOf (K := K) ktB
    have vC : TV Tc := tvOf (K := K) ktC
    have vD : TV Td := tvOf (K := K) ktD
    -- what is due
    refine ⟨fun σ' H' => ∃ (LO LR : Addr) (y1 y2 : List Str), σ' = (slL sc (some (.int (0 + i))) (some (.ref a)) (some (.ref da)) (some (.ref db)) (some (.ref dc)) (some (.ref dd)) (some (.ref LO)) (some (.ref LR)) x9 x10 x11 x12 x13 x14 x15 x16) ∧ Same H6 H' ∧ DueR Ta Tb y1 ∧ DueR Tb Tc y2 ∧ LpAt H' LO (dueP Ta Tb y1) ∧ LpAt H' LR (dueP Tb Tc y2), ?_, ?_⟩
    · refine ⟨.ref da, rfl, .ref db, rfl, da, db, Ta, Tb, rfl, ktA, ktB, by omega, by omega, fun y1 nd1 st1 c1 LO H7 s7 nO lpO => ?_⟩
      refine ⟨.ref db, rfl, .ref dc, rfl, db, dc, Tb, Tc, rfl, ktB.stl (Stl.same s7), ktC.stl (Stl.same s7), by omega, by omega, fun y2 nd2 st2 c2 LR H8 s8 nR lpR => ?_⟩
      exact ⟨.ref LO, .ref LR, rfl, LO, LR, y1, y2, rfl, s7.trans s8, ⟨nd1, st1, c1⟩, ⟨nd2, st2, c2⟩, lpO.same s8, lpR⟩
    rintro _ H7 ⟨LO, LR, y1, y2, rfl, s7, dr1, dr2, lpO, lpR⟩
    have du1 := dr1.du tkA tkB vA vB
    have du2 := dr2.du tkB tkC vB vC
    have F7 := F6.same s7
    have k7 := k6.trans (Kp.same s7)
    have nOa := lpO.ne F7
    have nRa := lpR.ne F7
    -- the two changes
    refine ⟨fun σ' H' => ∃ (cF cT : Addr), σ' = (slL sc (some (.int (0 + i))) (some (.ref a)) (some (.ref da)) (some (.ref db)) (some (.ref dc)) (some (.ref dd)) (some (.ref LO)) (some (.ref LR)) (some (.ref cF)) (some (.ref cT)) x11 x12 x13 x14 x15 x16) ∧ Kp a H7 H' ∧ Fd H' a ∧ ChAt K CS CM CC H' cF (dueP Ta Tb y1) ∧ ChAt K CS CM CC H' cT (dueP Tb Tc y2), ?_, ?_⟩
    · refine ⟨.ref da, rfl, da, Ta, rfl, ktA.stl (Stl.same s7), tkA.nd, by omega, fun p1 H8 s8 pj1 => ?_⟩
      refine ⟨.ref db, rfl, db, Tb, rfl, ktB.stl (Stl.same (s7.trans s8)), tkB.nd, by omega, fun p2 H9 s9 pj2 => ?_⟩
      refine ⟨p1, p2, Ta, Tb, H9, rfl, pj1.stl (Stl.same s9), pj2, Same.refl _, by omega, by omega, fun ys nd st cv c HA sA ch => ?_⟩
      obtain rfl : ys = y1 := DueR.uniq ⟨nd, st, cv⟩ dr1
      have s7A := s8.trans (s9.trans sA)
      refine ⟨.ref a, rfl, .ref LR, rfl, a, LR, _, rfl, F7.same s7A, lpR.same s7A, by have := du2.l6; omega, fun t xs HB kB FB nt ht hp => fun x dx hx hdx ne => ?_⟩
      refine chMade hx hdx ne ht hp fun HC sC chT => ?_
      have chF : ChAt K CS CM CC HC c _ := ((ch.to sA).stl (Stl.fd (F7.same s7A) kB)).stl (Stl.same sC)
      exact ⟨.ref c, .ref x, rfl, c, x, rfl, (Kp.same s7A).trans (kB.trans (Kp.same sC)), FB.same sC, chF, chT⟩
    rintro _ H8 ⟨cF, cT, rfl, k8, F8, chF, chT8⟩
    have S8 := (Stl.same s7).trans (Stl.fd F7 k8)
    -- turned round
    refine ⟨fun σ' H' => ∃ LB, σ' = (slL sc (some (.int (0 + i))) (some (.ref a)) (some (.ref da)) (some (.ref db)) (some (.ref dc)) (some (.ref dd)) (some (.ref LO)) (some (.ref LR)) (some (.ref cF)) (some (.ref cT)) (some (.ref LB)) x12 x13 x14 x15 x16) ∧ Same H8 H' ∧ LpAt H' LB ((dueP Ta Tb y1).map flp), ?_, ?_⟩
    · have lp8 := lpO.feed F7 k8 nOa
      obtain ⟨xs, eL, hp⟩ := id lp8
      have lx := hp.length
      refine ⟨.ref LO, rfl, LO, rfl, ⟨_, .inl (.inl eL)⟩, fun D hD => ?_⟩
      generalize dueP Ta Tb y1 = ps at *
      refine lcJ (n := ps.length) (vs := [17, 18, 19]) (fun i H' => Same H8 H' ∧ ∃ ws, H' D = some (.lst ws) ∧ Paired (TpAt H') ws ((ps.take i).map flp)) ⟨KS.sameUpd hD, [], upd_same, .nil⟩
        (fun i H' lt h => ⟨_, xs[i], .inl (.inl (h.1 _ _ eL)), List.getElem?_eq_getElem (by omega)⟩) (fun H' h => ⟨_, .inl (.inl (h.1 _ _ eL)), by omega⟩) (fun i H' x H2 lt h y => ?_) (fun H2 h => ?_)
      · obtain ⟨rfl, y⟩ := y
        obtain ⟨s2, ws, eD, pw⟩ := h
        have ex := y _ (.inl (.inl (s2 _ _ eL)))
        obtain ⟨v, e1, u, vb, va, rfl, hu, hb, ha⟩ := pairAt hp (List.getElem?_eq_getElem lt)
        obtain rfl : V.ref u = x := Option.some.inj (e1.symm.trans ex)
        refine ⟨u, _, rfl, .inl (.inl (s2 _ _ hu)), rfl, .str ps[i].1, _, rfl, vb, _, rfl, va, _, rfl, rfl, rfl, ?_⟩
        unfold tYes
        dsimp only
        rw [if_pos rfl]
        have hb2 := hb.stl (Stl.same s2)
        have ha2 := ha.stl (Stl.same s2)
        refine ⟨.str ps[i].1, rfl, va, rfl, vb, rfl, (by show 3 ≤ sizeLine; decide), fun z hz => ?_⟩
        have sz := KS.sameUpd (o := .tup [.str ps[i].1, va, vb]) hz
        have eD2 := sz _ _ eD
        have kD' : Kp D (upd H2 z (.tup [.str ps[i].1, va, vb])) (upd (upd H2 z (.tup [.str ps[i].1, va, vb])) D (.lst (ws ++ [.ref z]))) := Kp.put
        have st := Stl.lst eD2 kD'
        have lw := pw.length
        rw [List.length_map, List.length_take] at lw
        have l6 := du1.l6
        refine ⟨ws, eD2, by rw [sizeLine_eq]; omega, fun b o hb => ?_, ws ++ [.ref z], upd_same, ?_⟩
        · rw [upd_ne (ne_of_none hb hD)]
          exact sz _ _ (s2 _ _ hb)
        · rw [List.take_succ_eq_append_getElem lt, List.map_append]
          exact pairSnoc (L2.Paired.mapP pw fun _ _ h => (h.stl (Stl.same sz)).stl st) ((lpFlip rfl hb2 ha2 hz).stl st)
      · obtain ⟨s2, ws, eD, pw⟩ := h
        rw [List.take_length] at pw
        exact ⟨D, rfl, s2, ws, eD, pw⟩
    rintro _ H9 ⟨LB, rfl, s9, lpB⟩
    have F9 := F8.same s9
    have k9 : Kp a H1 H9 := k7.trans (k8.trans (Kp.same s9))
    have S9 := S8.trans (Stl.same s9)
    have chF9 := chF.stl (Stl.same s9)
    have chT9 := chT8.stl (Stl.same s9)
    have lpO9 := (lpO.feed F7 k8 nOa).same s9
    have lpR9 := (lpR.feed F7 k8 nRa).same s9
    have ktA9 := ktA.stl S9
    have ktB9 := ktB.stl S9
    have ktC9 := ktC.stl S9
    have ktD9 := ktD.stl S9
    have drB : DueR Tb Ta y1 := ⟨dr1.nd, dr1.st, fun z => by rw [dr1.cov z, or_comm]⟩
    have duB := drB.du tkB tkA vB vA
    rw [due_flip vA vB] at lpB
    have nBa := lpB.ne F9
    clear S9 s9 chF chT8 k8 F8 S8 lpO lpR F7 k7 s7 ktA ktB ktC ktD F6 k6 F2 k2 s2
    have kt9 : ∀ j, KtAt H9 (tN (f4 da db dc dd) j) (tN (f4 Ta Tb Tc Td) j) := f4all (R := KtAt H9) ktA9 ktB9 ktC9 ktD9
    have tk9 : ∀ j, TbK (tN (f4 Ta Tb Tc Td) j) := fun j => f4all (R := fun (_ : Addr) T => TbK T) (a := da) (b := db) (c := dc) (d := dd) tkA tkB tkC tkD j
    -- as told, at each table
    refine ⟨fun σ' H' => ∃ x12, σ' = (slL sc (some (.int (0 + i))) (some (.ref a)) (some (.ref da)) (some (.ref db)) (some (.ref dc)) (some (.ref dd)) (some (.ref LO)) (some (.ref LR)) (some (.ref cF)) (some (.ref cT)) (some (.ref LB)) x12 x13 x14 x15 x16) ∧ Same H9 H', ?_, ?_⟩
    · refine ⟨.ref da, rfl, .ref db, rfl, .ref dc, rfl, .ref dd, rfl, (by show 4 ≤ sizeLine; decide), fun u hu => ?_⟩
      have su := KS.sameUpd (o := .tup [.ref da, .ref db, .ref dc, .ref dd]) hu
      have eu : (upd H9 u (.tup [.ref da, .ref db, .ref dc, .ref dd])) u = some (.tup (four (f4 da db dc dd))) := upd_same
      generalize upd H9 u (.tup [.ref da, .ref db, .ref dc, .ref dd]) = HU at *
      refine ⟨u, rfl, ⟨_, .inl (.inl eu)⟩, ?_⟩
      refine forJ (n := 4) (fun j σ' H' => ∃ x12, σ' = (slL sc (some (.int (0 + i))) (some (.ref a)) (some (.ref da)) (some (.ref db)) (some (.ref dc)) (some (.ref dd)) (some (.ref LO)) (some (.ref LR)) (some (.ref cF)) (some (.ref cT)) (some (.ref LB)) x12 x13 x14 x15 x16) ∧ Same HU H') ⟨x12, rfl, Same.refl _⟩
        (fun j σ' H' lt h => by obtain ⟨_, _, s⟩ := h; exact ⟨_, _, .inl (.inl (s _ _ eu)), fourIx (f4 da db dc dd) lt⟩) (fun σ' H' h => by obtain ⟨_, _, s⟩ := h; exact ⟨_, .inl (.inl (s _ _ eu)), Nat.le_refl _⟩) (fun j σ' H0 x HA ltj h y => ?_) (fun σ' H' h => ?_)
      · obtain ⟨rfl, y⟩ := y
        obtain ⟨x12, rfl, sA⟩ := h
        have ex := y _ (.inl (.inl (sA _ _ eu)))
        rw [fourIx (f4 da db dc dd) ltj] at ex
        obtain rfl := Option.some.inj ex
        have sU := su.trans sA
        have ch1 := chF9.stl (Stl.same sU)
        have kt1 := (kt9 j).stl (Stl.same sU)
        have lpB1 := lpB.same sU
        have tkj := tk9 j
        generalize tN (f4 da db dc dd) j = dj at *
        generalize tN (f4 Ta Tb Tc Td) j = Tj at *
        refine ⟨.ref cF, rfl, .ref LO, rfl, .ref dj, rfl, cF, LO, dj, _, Tj, rfl, ch1, lpO9.same sU, kt1, du1.ok, du1.pk, tkj, fun HB sB => ⟨true, rfl, iteF ?_⟩⟩
        have ch2 := ch1.stl (Stl.same sB)
        obtain ⟨dc2, t2, vs2, hc2, _⟩ := id ch2
        refine ⟨.ref cF, rfl, cF, dc2, _, rfl, hc2, cF, _, rfl, ch2, by have := du1.l6; omega, fun c' HC sC ch' => ?_⟩
        rw [due_flip vA vB] at ch'
        exact ⟨.ref LB, rfl, .ref dj, rfl, c', LB, dj, _, Tj, rfl, ch', lpB1.same (sB.trans sC), kt1.stl (Stl.same (sB.trans sC)), duB.ok, duB.pk, tkj, fun HD sD => ⟨true, rfl, iteF ⟨_, rfl, sA.trans (sB.trans (sC.trans sD))⟩⟩⟩
      · obtain ⟨x12, rfl, sA⟩ := h
        exact ⟨x12, rfl, su.trans sA⟩
    clear x12
    rintro _ HA ⟨x12, rfl, sA⟩
    have FA := F9.same sA
    -- pairs of parts
    refine ⟨fun σ' H' => ∃ x13 x14 x15 x16, σ' = (slL sc (some (.int (0 + i))) (some (.ref a)) (some (.ref da)) (some (.ref db)) (some (.ref dc)) (some (.ref dd)) (some (.ref LO)) (some (.ref LR)) (some (.ref cF)) (some (.ref cT)) (some (.ref LB)) x12 x13 x14 x15 x16) ∧ Kp a H9 H' ∧ Fd H' a, ?_, ?_⟩
    · refine ⟨.ref LO, rfl, .ref LR, rfl, (by show 2 ≤ sizeLine; decide), fun u0 h0 => ?_⟩
      refine ⟨.ref LR, rfl, .ref LO, rfl, (by show 2 ≤ sizeLine; decide), fun u1 h1 => ?_⟩
      refine ⟨.ref LO, rfl, .ref LB, rfl, (by show 2 ≤ sizeLine; decide), fun u2 h2 => ?_⟩
      have q0 := KS.sameUpd (o := .tup [.ref LO, .ref LR]) h0
      have q1 := KS.sameUpd (o := .tup [.ref LR, .ref LO]) h1
      have q2 := KS.sameUpd (o := .tup [.ref LO, .ref LB]) h2
      have e0 := q2 _ _ (q1 _ _ (upd_same (H := HA) (a := u0) (o := .tup [.ref LO, .ref LR])))
      have e1 := q2 _ _ (upd_same (H := upd HA u0 (.tup [.ref LO, .ref LR])) (a := u1) (o := .tup [.ref LR, .ref LO]))
      have e2 := upd_same (H := upd (upd HA u0 (.tup [.ref LO, .ref LR])) u1 (.tup [.ref LR, .ref LO])) (a := u2) (o := .tup [.ref LO, .ref LB])
      have qA := q0.trans (q1.trans q2)
      generalize upd (upd (upd HA u0 (.tup [.ref LO, .ref LR])) u1 (.tup [.ref LR, .ref LO])) u2 (.tup [.ref LO, .ref LB]) = HW at *
      have s9W := sA.trans qA
      refine ⟨.ref LO, rfl, .ref dd, rfl, .ref dc, rfl, dd, dc, Td, Tc, rfl, ktD9.stl (Stl.same s9W), ktC9.stl (Stl.same s9W), by omega, by omega, fun y3 nd3 st3 c3 LX HX sX nX lpX => ?_⟩
      have duX := DueR.du ⟨nd3, st3, c3⟩ tkD tkC vD vC
      refine ⟨(by show 2 ≤ sizeLine; decide), fun u3 h3 => ⟨(by show 4 ≤ sizeLine; decide), fun uu huu => ?_⟩⟩
      have q3 := KS.sameUpd (o := .tup [.ref LO, .ref LX]) h3
      have q4 := KS.sameUpd (o := .tup [.ref u0, .ref u1, .ref u2, .ref u3]) huu
      have e3 := q4 _ _ (upd_same (H := HX) (a := u3) (o := .tup [.ref LO, .ref LX]))
      have e4 : (upd (upd HX u3 (.tup [.ref LO, .ref LX])) uu (.tup [.ref u0, .ref u1, .ref u2, .ref u3])) uu = some (.tup (four (f4 u0 u1 u2 u3))) := upd_same
      have sXY := q3.trans q4
      generalize upd (upd HX u3 (.tup [.ref LO, .ref LX])) uu (.tup [.ref u0, .ref u1, .ref u2, .ref u3]) = HY at *
      have sWY := sX.trans sXY
      have s9Y := s9W.trans sWY
      have FY := F9.same s9Y
      have lpXY := lpX.same sXY
      have lpOY := lpO9.same s9Y
      have lpRY := lpR9.same s9Y
      have lpBY := lpB.same s9Y
      have nXa := lpXY.ne FY
      have nua : uu ≠ a := fun z => by
        obtain ⟨x, y, e, _⟩ := FY
        rw [z, e] at e4
        cases e4
      have rows : ∀ j, j < 4 → ∃ (u m s : Addr) (P Q : List Prt), (four (f4 u0 u1 u2 u3))[j]? = some (.ref u) ∧ HY u = some (.tup [.ref m, .ref s]) ∧ LpAt HY m P ∧ LpAt HY s Q ∧ m ≠ a ∧ s ≠ a ∧ Du P ∧ Du Q := fun j hj => by
        match j, hj with
        | 0, _ => exact ⟨u0, LO, LR, _, _, rfl, sWY _ _ e0, lpOY, lpRY, nOa, nRa, du1, du2⟩
        | 1, _ => exact ⟨u1, LR, LO, _, _, rfl, sWY _ _ e1, lpRY, lpOY, nRa, nOa, du2, du1⟩
        | 2, _ => exact ⟨u2, LO, LB, _, _, rfl, sWY _ _ e2, lpOY, lpBY, nOa, nBa, du1, duB⟩
        | 3, _ => exact ⟨u3, LO, LX, _, _, rfl, e3, lpOY, lpXY, nOa, nXa, du1, duX⟩
      clear e0 e1 e2 e3 q0 q1 q2 qA q3 sXY sWY sX lpX h0 h1 h2 h3 huu q4
      refine ⟨uu, rfl, ⟨_, .inl (.inl e4)⟩, ?_⟩
      refine forJ (n := 4) (fun j σ' H' => ∃ x13 x14 x15 x16, σ' = (slL sc (some (.int (0 + i))) (some (.ref a)) (some (.ref da)) (some (.ref db)) (some (.ref dc)) (some (.ref dd)) (some (.ref LO)) (some (.ref LR)) (some (.ref cF)) (some (.ref cT)) (some (.ref LB)) x12 x13 x14 x15 x16) ∧ Kp a HY H' ∧ Fd H' a) ⟨x13, x14, x15, x16, rfl, Kp.refl _ _, FY⟩
        (fun j σ' H' lt h => by obtain ⟨_, _, _, _, _, k, _⟩ := h; exact ⟨_, _, .inl (.inl (k _ _ nua e4)), fourIx (f4 u0 u1 u2 u3) lt⟩) (fun σ' H' h => by obtain ⟨_, _, _, _, _, k, _⟩ := h; exact ⟨_, .inl (.inl (k _ _ nua e4)), Nat.le_refl _⟩) (fun j σ' H0 x HB ltj h y => ?_) (fun σ' H' h => ?_)
      · obtain ⟨rfl, y⟩ := y
        obtain ⟨x13, x14, x15, x16, rfl, kB, FB⟩ := h
        have ex := y _ (.inl (.inl (kB _ _ nua e4)))
        obtain ⟨u, m, s', P', Q', er, eu, lm, ls, nm, ns', dm, ds⟩ := rows j ltj
        rw [er] at ex
        obtain rfl := Option.some.inj ex
        have nu : u ≠ a := fun z => by
          obtain ⟨x, y, e, _⟩ := FY
          rw [z, e] at eu
          cases eu
        refine ⟨u, _, rfl, .inl (.inl (kB _ _ nu eu)), rfl, .ref m, _, rfl, .ref s', _, rfl, rfl, ?_⟩
        have lmB := lm.feed FY kB nm
        have lsB := ls.feed FY kB ns'
        have l7 : P'.length ≤ 7 := by have := dm.l6; omega
        have l7' : Q'.length ≤ 7 := by have := ds.l6; omega
        have l40 : P'.length ≤ 40 := by omega
        have l40' : Q'.length ≤ 40 := by omega
        -- joined
        refine ⟨fun σ' H' => ∃ due, σ' = (slL sc (some (.int (0 + i))) (some (.ref a)) (some (.ref da)) (some (.ref db)) (some (.ref dc)) (some (.ref dd)) (some (.ref LO)) (some (.ref LR)) (some (.ref cF)) (some (.ref cT)) (some (.ref LB)) x12 (some (.ref m)) (some (.ref s')) (some due) x16) ∧ Same HB H' ∧ ((∃ N ys, due = .ref N ∧ HB N = none ∧ ys.Nodup ∧ sortedS ys = true ∧ (∀ z, z ∈ ys ↔ z ∈ namesOf P' ∨ z ∈ namesOf Q') ∧ wrJ P' Q' = [] ∧ LpAt H' N (joinP P' Q' ys)) ∨ ∃ n r, due = .str n ∧ wrJ P' Q' = n :: r), ?_, ?_⟩
        · exact ⟨.ref m, rfl, .ref s', rfl, m, s', P', Q', rfl, lmB, lsB, dm.ok.nd, ds.ok.nd, l7, l7', fun q0 hq => nmsTok _ (ds.pk.nm q0 hq), fun ys nd srt mem ew N H' s1 nN lpj => ⟨.ref N, rfl, s1, .inl ⟨N, ys, rfl, nN, nd, srt, mem, ew, lpj⟩⟩, fun n r ew H' s1 => ⟨.str n, rfl, s1, .inr ⟨n, r, rfl, ew⟩⟩⟩
        rintro _ HC ⟨due, rfl, sC, found⟩
        have FC := FB.same sC
        have lmC := lmB.same sC
        have lsC := lsB.same sC
        -- two changes, as alike as their parts
        refine ⟨fun σ' H' => σ' = (slL sc (some (.int (0 + i))) (some (.ref a)) (some (.ref da)) (some (.ref db)) (some (.ref dc)) (some (.ref dd)) (some (.ref LO)) (some (.ref LR)) (some (.ref cF)) (some (.ref cT)) (some (.ref LB)) x12 (some (.ref m)) (some (.ref s')) (some due) x16) ∧ Kp a HC H' ∧ Fd H' a, ?_, ?_⟩
        · refine ⟨.ref a, rfl, .ref m, rfl, a, m, P', rfl, FC, lmC, l40, fun t1 xs1 HD kD FD _ ht1 hp1 => fun x1 dx1 hx1 hdx1 ne1 => ?_⟩
          refine chMade hx1 hdx1 ne1 ht1 hp1 fun HE sE chX => ?_
          have FE := FD.same sE
          have kE := kD.trans (Kp.same sE)
          refine ⟨.ref a, rfl, .ref s', rfl, a, s', Q', rfl, FE, lsC.feed FC kE ns', l40', fun t2 xs2 HF kF FF _ ht2 hp2 => fun x2 dx2 hx2 hdx2 ne2 => ?_⟩
          refine chMade hx2 hdx2 ne2 ht2 hp2 fun HG sG chY => ?_
          have chX' := (chX.stl (Stl.fd FE kF)).stl (Stl.same sG)
          have kG := kE.trans (kF.trans (Kp.same sG))
          have FG := FF.same sG
          obtain ⟨dx, t, vs, hX, _⟩ := id chX'
          obtain ⟨dy, t', vs', hY, _⟩ := id chY
          refine ⟨x1, x2, dx, _, rfl, rfl, hX, .inl ⟨CC, dy, _, hY, by simp [PySem.W.notFirst]⟩, x1, x2, P', Q', rfl, chX', .inl chY, fun HI sI => ⟨_, rfl, ?_⟩⟩
          have kI := kG.trans (Kp.same sI)
          refine ⟨.ref m, rfl, .ref s', rfl, psE P' Q', lpEq (lmC.feed FC kI nm) (lsC.feed FC kI ns'), fun HJ sJ => ⟨rfl, ?_⟩⟩
          rw [decide_eq_true rfl]
          exact ⟨_, rfl, iteF ⟨rfl, kI.trans (Kp.same sJ), (FG.same sI).same sJ⟩⟩
        rintro _ HD ⟨rfl, kD, FD⟩
        have lmD := lmC.feed FC kD nm
        have lsD := lsC.feed FC kD ns'
        -- joined by the program
        refine ⟨fun σ' H' => ∃ told, σ' = (slL sc (some (.int (0 + i))) (some (.ref a)) (some (.ref da)) (some (.ref db)) (some (.ref dc)) (some (.ref dd)) (some (.ref LO)) (some (.ref LR)) (some (.ref cF)) (some (.ref cT)) (some (.ref LB)) x12 (some (.ref m)) (some (.ref s')) (some due) (some told)) ∧ Kp a HD H' ∧ Fd H' a ∧ ((∃ N ys c', due = .ref N ∧ told = .ref c' ∧ ys.Nodup ∧ (∀ z, z ∈ ys ↔ z ∈ namesOf P' ∨ z ∈ namesOf Q') ∧ LpAt H' N (joinP P' Q' ys) ∧ ChAt K CS CM CC H' c' (joinP P' Q' ys)) ∨ ∃ n, due = .str n ∧ told = .str n), ?_, ?_⟩
        · refine ⟨.ref a, rfl, .ref m, rfl, a, m, P', rfl, FD, lmD, l40, fun t1 xs1 HE kE FE _ ht1 hp1 => fun x1 dx1 hx1 hdx1 ne1 => ?_⟩
          refine chMade hx1 hdx1 ne1 ht1 hp1 fun HE' sE chX => ?_
          have FE' := FE.same sE
          have kE' := kE.trans (Kp.same sE)
          refine ⟨.ref a, rfl, .ref s', rfl, a, s', Q', rfl, FE', lsD.feed FD kE' ns', l40', fun t2 xs2 HF kF FF _ ht2 hp2 => fun x2 dx2 hx2 hdx2 ne2 => ?_⟩
          refine chMade hx2 hdx2 ne2 ht2 hp2 fun HG sG chY => ?_
          have chX' := (chX.stl (Stl.fd FE' kF)).stl (Stl.same sG)
          have kG := kE'.trans (kF.trans (Kp.same sG))
          have FG := FF.same sG
          refine ⟨x1, x2, P', Q', rfl, chX', chY, dm.ok.nd, ds.ok.nd, l7, l7', fun ys2 nd2 srt2 mem2 => ?_⟩
          have wj := wrJ_first dm.v ds.v ds.ok.nd ds.st nd2 srt2 mem2
          refine ⟨fun ec c' H' s1 ch' => ⟨.ref c', rfl, kG.trans (Kp.same s1), FG.same s1, .inl ?_⟩, fun n e H' s1 => ⟨.str n, rfl, kG.trans (Kp.same s1), FG.same s1, .inr ?_⟩⟩
          · rcases found with ⟨N, ys, rfl, nN, nd, srt, mem, ew, lpj⟩ | ⟨n, r, rfl, ew⟩
            · obtain rfl : ys2 = ys := SU.uniq (permOfMem nd2 nd fun z => by rw [mem2 z, mem z]) srt2 srt
              exact ⟨N, ys2, c', rfl, rfl, nd, mem, lpj.feed FC (kD.trans (kG.trans (Kp.same s1))) (fdNe FB nN), ch'⟩
            · rw [ew, ec] at wj
              cases wj
          · rcases found with ⟨N, ys, rfl, nN, nd, srt, mem, ew, lpj⟩ | ⟨n', r, rfl, ew⟩
            · rw [ew, e] at wj
              cases wj
            · rw [ew, e] at wj
              exact ⟨n, by rw [Option.some.inj wj], rfl⟩
        clear found
        rintro _ HE ⟨told, rfl, kE, FE, what⟩
        have kBE : Kp a HC HE := kD.trans kE
        refine ⟨fun σ' H' => σ' = (slL sc (some (.int (0 + i))) (some (.ref a)) (some (.ref da)) (some (.ref db)) (some (.ref dc)) (some (.ref dd)) (some (.ref LO)) (some (.ref LR)) (some (.ref cF)) (some (.ref cT)) (some (.ref LB)) x12 (some (.ref m)) (some (.ref s')) (some due) (some told)) ∧ H' = HE, ?_, ?_⟩
        · rcases what with ⟨N, ys, c', rfl, rfl, nd, mem, lpj, ch'⟩ | ⟨n, rfl, rfl⟩
          · obtain ⟨xs, eN, _⟩ := id lpj
            exact ⟨.ref N, rfl, _, _, _, _, false, rfl, .ty "str", .base (.lst eN), kitLS, false, rfl, iteF ⟨rfl, rfl⟩⟩
          · refine ⟨.str n, rfl, _, _, _, _, true, rfl, .ty "str", .base (.str n), kitSS, true, rfl, iteT ⟨.str n, rfl, .str n, rfl, rfl, ?_⟩⟩
            rw [decide_eq_true rfl]
            exact ⟨_, rfl, iteF ⟨rfl, rfl⟩⟩
        rintro _ HE ⟨rfl, rfl⟩
        have lmE := lmD.feed FD kE nm
        have lRE := ((lpRY.feed FY kB nRa).same sC).feed FC kBE nRa
        have S9E : Stl H9 HE := ((Stl.same s9Y).trans (Stl.fd FY kB)).trans ((Stl.same sC).trans (Stl.fd FC kBE))
        have kYE : Kp a HY HE := kB.trans ((Kp.same sC).trans kBE)
        rcases what with ⟨N, ys, c', rfl, rfl, nd, mem, lpj, ch'⟩ | ⟨n, rfl, rfl⟩
        · obtain ⟨xs, eN, _⟩ := id lpj
          refine ⟨.ref N, rfl, _, _, _, _, false, rfl, .ty "str", .base (.lst eN), kitLS, false, rfl, iteT ⟨.ref c', rfl, .ref N, rfl, .ref da, rfl, .ref db, rfl, (by show 2 ≤ sizeLine; decide), fun W hW => ?_⟩⟩
          have sW := KS.sameUpd (o := .lst [.ref da, .ref db]) hW
          have eW := upd_same (H := HE) (a := W) (o := .lst [.ref da, .ref db])
          generalize upd HE W (.lst [.ref da, .ref db]) = HW at *
          refine ⟨.ref m, rfl, .ref LR, rfl, psE P' _, lpEq (lmE.same sW) (lRE.same sW), fun HX sX => ?_⟩
          obtain ⟨jok, jpk⟩ := dm.join ds nd mem
          have sEX := sW.trans sX
          have eX := sX _ _ eW
          refine .inr ⟨_, rfl, ?_⟩
          cases psE P' (dueP Tb Tc y2) with
          | true => exact ⟨W, _, 1, .ref db, rfl, rfl, .inl (.inl eX), rfl, c', N, db, _, Tb, rfl, ch'.stl (Stl.same sEX), lpj.same sEX, (ktB9.stl S9E).stl (Stl.same sEX), jok, jpk, tkB, fun HZ sZ => ⟨true, rfl, iteF ⟨_, _, _, _, rfl, kYE.trans (Kp.same (sEX.trans sZ)), FE.same (sEX.trans sZ)⟩⟩⟩
          | false => exact ⟨W, _, 0, .ref da, rfl, rfl, .inl (.inl eX), rfl, c', N, da, _, Ta, rfl, ch'.stl (Stl.same sEX), lpj.same sEX, (ktA9.stl S9E).stl (Stl.same sEX), jok, jpk, tkA, fun HZ sZ => ⟨true, rfl, iteF ⟨_, _, _, _, rfl, kYE.trans (Kp.same (sEX.trans sZ)), FE.same (sEX.trans sZ)⟩⟩⟩
        · refine ⟨.str n, rfl, _, _, _, _, true, rfl, .ty "str", .base (.str n), kitSS, true, rfl, iteF ⟨_, _, _, _, rfl, kYE, FE⟩⟩
      · obtain ⟨x13, x14, x15, x16, rfl, kB, FB⟩ := h
        exact ⟨x13, x14, x15, x16, rfl, (Kp.same s9Y).trans kB, FB⟩
    clear x13 x14 x15 x16
    rintro _ HB ⟨x13, x14, x15, x16, rfl, kB, FB⟩
    have SB := Stl.fd F9 kB
    have chFB := chF9.stl SB
    have chTB := chT9.stl SB
    have ktAB := ktA9.stl SB
    have ktBB := ktB9.stl SB
    have ktCB := ktC9.stl SB
    have ktDB := ktD9.stl SB
    have l16 := du1.l6
    -- done one behind another; turned round twice; and back
    refine ⟨fun σ' H' => σ' = (slL sc (some (.int (0 + i))) (some (.ref a)) (some (.ref da)) (some (.ref db)) (some (.ref dc)) (some (.ref dd)) (some (.ref LO)) (some (.ref LR)) (some (.ref cF)) (some (.ref cT)) (some (.ref LB)) x12 x13 x14 x15 x16) ∧ Same HB H', ?_, ?_⟩
    · obtain ⟨dF', tF, vF, hcF, _⟩ := id chFB
      obtain ⟨dT, tT, vT, hcT, _⟩ := id chTB
      refine ⟨.ref cT, rfl, cT, rfl, .ref cF, rfl, cF, rfl, .ref da, rfl, da, Ta, rfl, ktAB, tkA.nd, by omega, fun p1 HC sC pj1 => ?_⟩
      refine ⟨⟨dF', _, sC _ _ hcF⟩, cF, p1, _, Ta, rfl, chFB.stl (Stl.same sC), pj1, du1.ok, by omega, fun _ p2 HD sD pj2 => ?_, fun n e => ?_⟩
      · have kc1 := chT_k du1.pk tkA
        have v1 := pjV (K := K) pj2
        have sD' := sC.trans sD
        have like1 : ∀ n, oE (tLook (chT Ta (dueP Ta Tb y1)) n) (tLook Tb n) = true := fun n => due_leads dr1.cov dr1.nd vA vA vB (fun n => oE_refl2 (vA.look n)) n
        refine ⟨⟨dT, _, sD' _ _ hcT⟩, cT, p2, _, _, rfl, chTB.stl (Stl.same sD'), pj2, du2.ok, by have := kc1.len; omega, fun _ p3 HE sE pj3 => ?_, fun n e => ?_⟩
        · have kc2 := chT_k du2.pk kc1
          have w := due_whole (K := K) dr2 tkB tkC vB vC kc1 v1 like1 (pjV (K := K) pj3)
          have sE' := sD'.trans sE
          refine ⟨.ref dc, rfl, p3, dc, _, Tc, rfl, pj3, ktCB.stl (Stl.same sE'), kc2.nd, tkC.nd, w.1, by omega, fun k hk => nmsTok k (tkC.sub k hk), w.2, fun HF sF => ⟨true, rfl, iteF ?_⟩⟩
          have sF' := sE'.trans sF
          refine ⟨.ref cF, rfl, cF, dF', _, rfl, sF' _ _ hcF, cF, _, rfl, chFB.stl (Stl.same sF'), by omega, fun c1 HG sG ch1 => ?_⟩
          rw [due_flip vA vB] at ch1
          obtain ⟨d1, t1, v1', hc1, _⟩ := id ch1
          refine ⟨c1, d1, _, rfl, hc1, c1, _, rfl, ch1, by have := duB.l6; omega, fun c2 HI sI ch2 => ?_⟩
          rw [due_flip vB vA] at ch2
          have sI' := sF'.trans (sG.trans sI)
          obtain ⟨d2, t2, v2, hc2, _⟩ := id ch2
          refine ⟨.ref cF, rfl, c2, cF, d2, _, dF', _, rfl, rfl, hc2, sI' _ _ hcF, c2, cF, _, _, rfl, ch2, .inl (chFB.stl (Stl.same sI')), fun HJ sJ => ⟨_, rfl, ?_⟩⟩
          rw [psE_refl du1.v]
          refine ⟨false, rfl, iteF ?_⟩
          have sJ' := sI'.trans sJ
          refine ⟨.ref cF, rfl, .ref cF, rfl, cF, dF', _, rfl, sJ' _ _ hcF, cF, _, rfl, chFB.stl (Stl.same sJ'), by omega, fun c3 HL sL ch3 => ?_⟩
          rw [due_flip vA vB] at ch3
          obtain ⟨d3, t3, v3, hc3, _⟩ := id ch3
          have sL' := sJ'.trans sL
          refine ⟨cF, c3, dF', _, d3, _, rfl, rfl, sL' _ _ hcF, hc3, cF, c3, _, _, rfl, chFB.stl (Stl.same sL'), ch3, du1.ok.nd, duB.ok.nd, by omega, by have := duB.l6; omega, fun ys nd srt mem => ⟨fun _ c4 HM sM ch4 => ?_, fun n e => ?_⟩⟩
          · rw [join_back dr1.cov drB.cov dr1.nd drB.nd vA vB mem] at ch4
            obtain ⟨d4, t4, v4, hc4, _⟩ := id ch4
            refine ⟨c4, rfl, c4, d4, _, rfl, hc4, c4, _, rfl, ch4, ?_⟩
            refine ⟨0, rfl, by decide, by decide, rfl, ?_⟩
            rw [decide_eq_true rfl]
            exact ⟨false, rfl, iteF ⟨rfl, sL'.trans sM⟩⟩
          · rw [no_clash dr1.nd drB.nd vB] at e
            cases e
        · rw [due_fits v1 vB like1] at e
          cases e
      · rw [due_fits vA vA (fun n => oE_refl2 (vA.look n))] at e
        cases e
    rintro _ HC ⟨rfl, sC⟩
    -- no change; and all kept right
    refine ⟨.ref dc, rfl, dc, Tc, rfl, ktCB.stl (Stl.same sC), tkC.nd, by omega, fun p1 HD sD pj1 => ?_⟩
    refine ⟨.ref dc, rfl, dc, Tc, rfl, (ktCB.stl (Stl.same sC)).stl (Stl.same sD), tkC.nd, by omega, fun p2 HE sE pj2 => ?_⟩
    refine ⟨p1, p2, Tc, Tc, HE, rfl, pj1.stl (Stl.same sE), pj2, Same.refl _, by omega, by omega, fun ys nd st cv c1 HF sF ch1 => ?_⟩
    have ch1' : ChAt K CS CM CC HF c1 _ := ch1.to sF
    rw [due_self vC] at ch1'
    refine fun x dx hx hdx ne => ?_
    refine chEmpty hx hdx G0.em fun HG sG ch2 => ?_
    have chG := ch1'.stl (Stl.same sG)
    obtain ⟨d1, t1, v1, hc1, _⟩ := id chG
    obtain ⟨d2, t2, hc2, _⟩ := id ch2
    refine ⟨c1, x, d1, _, d2, _, rfl, rfl, hc1, hc2, c1, x, [], [], rfl, chG, .inr ⟨rfl, rfl, ch2⟩, fun HI sI => ⟨_, rfl, ?_⟩⟩
    refine ⟨false, rfl, iteF ?_⟩
    have sI' := sC.trans (sD.trans (sE.trans (sF.trans (sG.trans sI))))
    have FI := FB.same sI'
    refine ⟨.ref a, rfl, .ref da, rfl, .ref db, rfl, .ref dc, rfl, .ref dd, rfl, (by show 4 ≤ sizeLine; decide), fun Pl hPl => ?_⟩
    have sP := KS.sameUpd (o := .lst [.ref da, .ref db, .ref dc, .ref dd]) hPl
    have SP := (Stl.same sI').trans (Stl.same sP)
    refine ⟨a, Pl, f4 da db dc dd, f4 Ta Tb Tc Td, rfl, FI.same sP, upd_same, fdNe FI hPl, f4fin (R := KtAt _) (ktAB.stl SP) (ktBB.stl SP) (ktCB.stl SP) (ktDB.stl SP), f4fin (R := fun (_ : Addr) T => TbK T) (a := da) (b := db) (c := dc) (d := dd) tkA tkB tkC tkD, fun HJ kJ FJ => ⟨true, rfl, iteF ⟨⟨_, _, _, _, _, _, _, _, _, _, _, _, _, _, _, _, rfl⟩, ?_⟩⟩⟩
    have kA := k9.trans (kB.trans ((Kp.same (sI'.trans sP)).trans kJ))
    exact Same.seq (fun b o hb => kA _ _ (ne_of_none hb na) hb) hS1
end
end PJ

set_option Elab.async false
set_option linter.all false
set_option maxRecDepth 100000
set_option maxHeartbeats 0
namespace PJ.HD
open PySem PySem.Spec PyProof.Rows L2 KS KS.La
open KX hiding sameUpd
open He (ga ma)
section
variable {P : Program} {w : World} {K : PySem.W.Frag} {mg : Str → Option Value} {base h : Heap}
theorem hasMono {j k : Nat} {x : Str} {ps : List Str} {sp : Sp} (A : Has P w K mg base j x ps sp) (h : j ≤ k) : Has P w K mg base k x ps sp := by
  obtain ⟨f, fd, a, b, c, F⟩ := A.ex
  exact ⟨f, fd, a, b, c, F.mono h⟩
theorem factM (c : He.SaysD fa fn K) {f : He.Fa} (hm : f ∈ fa) : f.ok K = true := by
  obtain ⟨i, hi, e⟩ := List.mem_iff_getElem.mp hm
  exact c.fact i (f := f) (by rw [List.getElem?_eq_getElem hi, e])
theorem factX (c : He.SaysD fa fn K) {f : He.Fa} (hm : f ∈ faC ++ (faN ++ faM)) : f.ok K = true := factM c (List.mem_append_right _ (List.mem_append_right _ hm))
theorem factC (c : He.SaysD fa fn K) {f : He.Fa} (hm : f ∈ faC) : f.ok K = true := factX c (List.mem_append_left _ hm)
theorem factN (c : He.SaysD fa fn K) {f : He.Fa} (hm : f ∈ faN) : f.ok K = true := factX c (List.mem_append_right _ (List.mem_append_left _ hm))
theorem factT (c : He.SaysD fa fn K) {f : He.Fa} (hm : f ∈ faM) : f.ok K = true := factX c (List.mem_append_right _ (List.mem_append_right _ hm))
theorem propOf {C p g : Addr} {m : Str} (h1 : PySem.W.findIn K (.ref C) m = some (some (.ref p))) (h2 : PySem.W.specialIn K (.ref p) "__get__" = some (some (.builtin "property.__get__"))) (h3 : PySem.W.takesIn K (.ref p) = some true)
    (h4 : (PySem.W.recIn K p "property").map (fun l => l.head?) = some (some (.ref g))) : PropOf K C m p g := by
  refine ⟨h1, h2, h3, ?_⟩
  cases hr : PySem.W.recIn K p "property" with
  | none =>
    rw [hr] at h4
    cases h4
  | some l =>
    rw [hr] at h4
    cases l with
    | nil => cases h4
    | cons v l =>
      have ev : some (some v) = some (some (Value.ref g)) := h4
      injection ev with ev
      injection ev with ev
      exact ⟨l, by rw [ev]⟩
theorem kbnOf {x q : Str} {params : Arguments} {body : List Stmt} {scope : Scope} {f : Addr} {fd : FuncData} {ps ks : List Str} {n : Nat} {g : List Value → List Value → List Value} {gV : List V → List V → List V} (F : FunD K x q params body scope [] [] f fd)
    (hto : ∀ (kV doc pm : Value) (an : Option Addr) (cdv ct : Value) (us ws : List Value), us.length = n → ws.length = ks.length → bindArgs (PySem.W.fnOf x q params body scope .none kV doc pm an cdv ct) ⟨us, ks.zip ws⟩ = pure (ps.zip (g us ws)))
    (hrel : ∀ {vs : List V} {us : List Value} {zs : List V} {ws : List Value}, Vals vs us → Vals zs ws → Vals (gV vs zs) (g us ws)) : KBn K fd ps n ks g gV := by
  obtain ⟨oc, od, dV, kV, doc, pm, an, cdv, ct, osl, rfl, lk, hcd, hD, _⟩ := F.ex
  rcases hD with ⟨_, rfl⟩ | ⟨e, _⟩
  · exact ⟨fun s us ws _ h1 h2 => .of_eq (hto kV doc pm an cdv ct us ws h1 h2), hrel⟩
  · exact absurd rfl e
theorem exB_parts (e : exB K = true) : xcB K (ga K "NoTarget") veB "ValueError.__new__" = true ∧
    PySem.W.findIn K (.ref (ga K "NoTarget")) "name" = some none ∧
    PySem.W.findIn K (.ref (ga K "NoTarget")) "__init__" = some (some (.ref (ma K (ga K "NoTarget") "__init__"))) ∧
    PySem.W.typeIn K (.ref (ma K (ga K "NoTarget") "__init__")) = some (.type "function") ∧
    xcB K (ga K "NotSource") veB "ValueError.__new__" = true ∧
    PySem.W.findIn K (.ref (ga K "NotSource")) "name" = some none ∧
    PySem.W.findIn K (.ref (ga K "NotSource")) "__init__" = some (some (.ref (ma K (ga K "NotSource") "__init__"))) ∧
    PySem.W.typeIn K (.ref (ma K (ga K "NotSource") "__init__")) = some (.type "function") ∧
    xcB K (ga K "Mismatch") veB "ValueError.__new__" = true ∧
    PySem.W.findIn K (.ref (ga K "Mismatch")) "name" = some none ∧
    PySem.W.findIn K (.ref (ga K "Mismatch")) "__init__" = some (some (.ref (ma K (ga K "Mismatch") "__init__"))) ∧
    PySem.W.typeIn K (.ref (ma K (ga K "Mismatch") "__init__")) = some (.type "function") ∧
    PySem.W.findIn K (.ref (ga K "Source")) "__class__" = some (some (.builtin "object.__class__")) ∧
    PySem.W.mroIn K (ga K "Source") (.type "object") = some true ∧
    PySem.W.findIn K (.ref (ga K "Made")) "__class__" = some (some (.builtin "object.__class__")) ∧
    PySem.W.mroIn K (ga K "Made") (.type "object") = some true ∧
    PySem.W.findIn K (.ref (ga K "Project")) "__class__" = some (some (.builtin "object.__class__")) ∧
    PySem.W.mroIn K (ga K "Project") (.type "object") = some true ∧
    PySem.W.findIn K (.ref (ga K "Change")) "__class__" = some (some (.builtin "object.__class__")) ∧
    PySem.W.mroIn K (ga K "Change") (.type "object") = some true ∧
    PySem.W.subIn K (.type "dict") (.ref (ga K "Source")) = some false ∧
    PySem.W.subIn K (.type "dict") (.ref (ga K "Made")) = some false ∧
    PySem.W.subIn K (.type "dict") (.ref (ga K "Project")) = some false ∧
    PySem.W.subIn K (.type "dict") (.ref (ga K "Change")) = some false ∧
    PySem.W.subIn K (.type "NoneType") (.ref (ga K "Source")) = some false ∧
    PySem.W.subIn K (.ref (ga K "Source")) (.type "NoneType") = some false ∧
    PySem.W.kitOne K (.type "NoneType") (.ref (ga K "Source")) = some false ∧
    PySem.W.subIn K (.type "NoneType") (.ref (ga K "Made")) = some false ∧
    PySem.W.subIn K (.ref (ga K "Made")) (.type "NoneType") = some false ∧
    PySem.W.kitOne K (.type "NoneType") (.ref (ga K "Made")) = some false ∧
    PySem.W.specialIn K (.builtin "object.__class__") "__get__" = some (some (.builtin "getset_descriptor.__get__")) ∧
    PySem.W.takesIn K (.builtin "object.__class__") = some true ∧
    PySem.W.kitOne K (.ref (ga K "Source")) (.ref (ga K "Source")) = some true ∧
    PySem.W.kitOne K (.ref (ga K "Made")) (.ref (ga K "Source")) = some false ∧
    PySem.W.kitOne K (.ref (ga K "Source")) (.ref (ga K "Made")) = some false ∧
    PySem.W.kitOne K (.ref (ga K "Made")) (.ref (ga K "Made")) = some true ∧
    PySem.W.kitOne K (.ref (ga K "Project")) (.ref (ga K "Project")) = some true ∧
    PySem.W.kitOne K (.ref (ga K "Source")) (.ref (ga K "Target")) = some true ∧
    PySem.W.kitOne K (.ref (ga K "Made")) (.ref (ga K "Target")) = some true ∧
    PySem.W.kitOne K (.ref (ga K "Mismatch")) (.ref (ga K "BuildError")) = some true ∧
    PySem.W.kitOne K (.ref (ga K "Change")) (.ref (ga K "Change")) = some true ∧
    PySem.W.kitOne K (.type "dict") (.ref (ga K "Project")) = some false ∧
    PySem.W.kitOne K (.ref (ga K "Project")) (.type "str") = some false ∧
    PySem.W.subIn K (.ref (ga K "Made")) (.ref (ga K "Source")) = some false ∧
    PySem.W.subIn K (.ref (ga K "Source")) (.ref (ga K "Made")) = some false ∧
    PySem.W.findIn K (.ref (ga K "Project")) "__ne__" = some (some (.builtin "object.__ne__")) ∧
    PySem.W.findIn K (.ref (ga K "Made")) "__ne__" = some (some (.builtin "object.__ne__")) ∧
    PySem.W.findIn K (.ref (ga K "Source")) "__ne__" = some (some (.builtin "object.__ne__")) ∧
    PySem.W.findIn K (.ref (ga K "Change")) "__ne__" = some (some (.builtin "object.__ne__")) ∧
    PySem.W.exmOne K (.ref (ga K "Mismatch")) (.ref (ga K "Mismatch")) = some true ∧
    PySem.W.fnIn K (ma K (ga K "Project") "__getitem__") = true ∧
    PySem.W.fnIn K (ma K (ga K "Change") "__call__") = true ∧
    emB K (He.dflAt ("Made", some "__init__") 0 K) = true ∧
    emB K (He.dflAt ("Change", some "__init__") 0 K) = true ∧
    PySem.W.selfFirst K (ga K "Change") = true ∧
    PySem.W.findIn K (.ref (ga K "Source")) "outputs" = some (some (.ref (pAd K "Source" "outputs"))) ∧
    PySem.W.specialIn K (.ref (pAd K "Source" "outputs")) "__get__" = some (some (.builtin "property.__get__")) ∧
    PySem.W.takesIn K (.ref (pAd K "Source" "outputs")) = some true ∧
    (PySem.W.recIn K (pAd K "Source" "outputs") "property").map (fun l => l.head?) = some (some (.ref (gAd K "Source" "outputs"))) ∧
    okAt K (gAd K "Source" "outputs") "Source.outputs" = true ∧
    PySem.W.findIn K (.ref (ga K "Made")) "recipe" = some (some (.ref (pAd K "Made" "recipe"))) ∧
    PySem.W.specialIn K (.ref (pAd K "Made" "recipe")) "__get__" = some (some (.builtin "property.__get__")) ∧
    PySem.W.takesIn K (.ref (pAd K "Made" "recipe")) = some true ∧
    (PySem.W.recIn K (pAd K "Made" "recipe") "property").map (fun l => l.head?) = some (some (.ref (gAd K "Made" "recipe"))) ∧
    okAt K (gAd K "Made" "recipe") "Made.recipe" = true ∧
    PySem.W.findIn K (.ref (ga K "Made")) "arguments" = some (some (.ref (pAd K "Made" "arguments"))) ∧
    PySem.W.specialIn K (.ref (pAd K "Made" "arguments")) "__get__" = some (some (.builtin "property.__get__")) ∧
    PySem.W.takesIn K (.ref (pAd K "Made" "arguments")) = some true ∧
    (PySem.W.recIn K (pAd K "Made" "arguments") "property").map (fun l => l.head?) = some (some (.ref (gAd K "Made" "arguments"))) ∧
    okAt K (gAd K "Made" "arguments") "Made.arguments" = true ∧
    PySem.W.findIn K (.ref (ga K "Project")) "names" = some (some (.ref (pAd K "Project" "names"))) ∧
    PySem.W.specialIn K (.ref (pAd K "Project" "names")) "__get__" = some (some (.builtin "property.__get__")) ∧
    PySem.W.takesIn K (.ref (pAd K "Project" "names")) = some true ∧
    (PySem.W.recIn K (pAd K "Project" "names") "property").map (fun l => l.head?) = some (some (.ref (gAd K "Project" "names"))) ∧
    okAt K (gAd K "Project" "names") "Project.names" = true ∧
    PySem.W.findIn K (.ref (ga K "Change")) "names" = some (some (.ref (pAd K "Change" "names"))) ∧
    PySem.W.specialIn K (.ref (pAd K "Change" "names")) "__get__" = some (some (.builtin "property.__get__")) ∧
    PySem.W.takesIn K (.ref (pAd K "Change" "names")) = some true ∧
    (PySem.W.recIn K (pAd K "Change" "names") "property").map (fun l => l.head?) = some (some (.ref (gAd K "Change" "names"))) ∧
    okAt K (gAd K "Change" "names") "Change.names" = true := by
  unfold exB at e
  simp only [Bool.and_eq_true, decide_eq_true_eq] at e
  exact e
theorem facts {f : Addr} (X : K.In h) (G : h.Ns mainGlobals mg) (hfa : mg ("law" : Str) = some (.ref f)) (y : Says K) :
    ∃ fd : FuncData, (∀ (s : Shared) (v : Value), BindsTo s fd ⟨[v], []⟩ [("_law_script", v)]) ∧ ∀ base : Heap, K.In base → base.Ns mainGlobals mg → FnOk P w K mg base CX0 66 f fd ["_law_script"] (spLaw K) := by
  obtain ⟨c, e, eg⟩ := y
  obtain ⟨p1, p2, p3, p4, p5, p6, p7, p8, p9, p10, p11, p12, p13, p14, p15, p16, p17, p18, p19, p20, p21, p22, p23, p24, p25, p26, p27, p28, p29, p30, p31, p32, p33, p34, p35, p36, p37, p38, p39, p40, p41, p42, p43, p44, p45, p46, p47, p48, p49, p50, p51, p52, p53, p54, p55, p56, p57, p58, p59, p60, p61, p62, p63, p64, p65, p66, p67, p68, p69, p70, p71, p72, p73, p74, p75, p76, p77, p78, p79, p80⟩ := exB_parts e
  have glo : ∀ x ∈ glos ++ ([("law" : Str)] : List Str), mg x = some (.ref (ga K x)) := fun x hx => He.glo_ok X G (factM c (f := .glo x) (List.mem_append_left _ (List.mem_map_of_mem hx)))
  have fre : ∀ x ∈ frees, mg x = none := fun x hx => He.free_ok X G (factM c (f := .free x) (List.mem_append_right _ (List.mem_append_left _ (List.mem_map_of_mem hx))))
  have clSource : Cls K (ga K "Source") := He.cls_ok (factC c (f := .cls "Source") (by simp [faC]))
  have clMade : Cls K (ga K "Made") := He.cls_ok (factC c (f := .cls "Made") (by simp [faC]))
  have clProject : Cls K (ga K "Project") := He.cls_ok (factC c (f := .cls "Project") (by simp [faC]))
  have clChange : Cls K (ga K "Change") := He.cls_ok (factC c (f := .cls "Change") (by simp [faC]))
  have mkSource : Mk K (ga K "Source") (ma K (ga K "Source") "__init__") := He.mkr_ok (factC c (f := .mkr "Source") (by simp [faC]))
  have mkMade : Mk K (ga K "Made") (ma K (ga K "Made") "__init__") := He.mkr_ok (factC c (f := .mkr "Made") (by simp [faC]))
  have mkProject : Mk K (ga K "Project") (ma K (ga K "Project") "__init__") := He.mkr_ok (factC c (f := .mkr "Project") (by simp [faC]))
  have mkChange : Mk K (ga K "Change") (ma K (ga K "Change") "__init__") := He.mkr_ok (factC c (f := .mkr "Change") (by simp [faC]))
  have naSource_outputs : NoAttr K (ga K "Source") "_outputs" := He.noat_ok (factN c (f := .noat "Source" "_outputs") (by simp [faN]))
  have naMade_recipe : NoAttr K (ga K "Made") "_recipe" := He.noat_ok (factN c (f := .noat "Made" "_recipe") (by simp [faN]))
  have naMade_arguments : NoAttr K (ga K "Made") "_arguments" := He.noat_ok (factN c (f := .noat "Made" "_arguments") (by simp [faN]))
  have naProject_targets : NoAttr K (ga K "Project") "_targets" := He.noat_ok (factN c (f := .noat "Project" "_targets") (by simp [faN]))
  have naChange_parts : NoAttr K (ga K "Change") "_parts" := He.noat_ok (factN c (f := .noat "Change" "_parts") (by simp [faN]))
  have meSource__eq__ : Meth K (ga K "Source") "__eq__" (ma K (ga K "Source") "__eq__") := He.meth_ok (factT c (f := .meth "Source" "__eq__") (by simp [faM]))
  have meMade__eq__ : Meth K (ga K "Made") "__eq__" (ma K (ga K "Made") "__eq__") := He.meth_ok (factT c (f := .meth "Made" "__eq__") (by simp [faM]))
  have meProject__getitem__ : Meth K (ga K "Project") "__getitem__" (ma K (ga K "Project") "__getitem__") := He.meth_ok (factT c (f := .meth "Project" "__getitem__") (by simp [faM]))
  have meProject__contains__ : Meth K (ga K "Project") "__contains__" (ma K (ga K "Project") "__contains__") := He.meth_ok (factT c (f := .meth "Project" "__contains__") (by simp [faM]))
  have meProject__eq__ : Meth K (ga K "Project") "__eq__" (ma K (ga K "Project") "__eq__") := He.meth_ok (factT c (f := .meth "Project" "__eq__") (by simp [faM]))
  have meProjectput : Meth K (ga K "Project") "put" (ma K (ga K "Project") "put") := He.meth_ok (factT c (f := .meth "Project" "put") (by simp [faM]))
  have meProjectwithout : Meth K (ga K "Project") "without" (ma K (ga K "Project") "without") := He.meth_ok (factT c (f := .meth "Project" "without") (by simp [faM]))
  have meChange__call__ : Meth K (ga K "Change") "__call__" (ma K (ga K "Change") "__call__") := He.meth_ok (factT c (f := .meth "Change" "__call__") (by simp [faM]))
  have meChange__invert__ : Meth K (ga K "Change") "__invert__" (ma K (ga K "Change") "__invert__") := He.meth_ok (factT c (f := .meth "Change" "__invert__") (by simp [faM]))
  have meChange__add__ : Meth K (ga K "Change") "__add__" (ma K (ga K "Change") "__add__") := He.meth_ok (factT c (f := .meth "Change" "__add__") (by simp [faM]))
  have meChange__len__ : Meth K (ga K "Change") "__len__" (ma K (ga K "Change") "__len__") := He.meth_ok (factT c (f := .meth "Change" "__len__") (by simp [faM]))
  have meChange__contains__ : Meth K (ga K "Change") "__contains__" (ma K (ga K "Change") "__contains__") := He.meth_ok (factT c (f := .meth "Change" "__contains__") (by simp [faM]))
  have meChange__eq__ : Meth K (ga K "Change") "__eq__" (ma K (ga K "Change") "__eq__") := He.meth_ok (factT c (f := .meth "Change" "__eq__") (by simp [faM]))
  have prSourceoutputs := propOf p56 p57 p58 p59
  obtain ⟨fdP0, FP0⟩ := funAt (congrArg (fun z : He.FnW × He.FnW × He.FnW × He.FnW × He.FnW => z.1) eg) p60
  have bP0 := FunD.bindsN (ps := ["self"]) FP0 (fun _ _ _ _ _ _ us hl => match us, hl with | [_], _ => rfl)
  have prMaderecipe := propOf p61 p62 p63 p64
  obtain ⟨fdP1, FP1⟩ := funAt (congrArg (fun z : He.FnW × He.FnW × He.FnW × He.FnW × He.FnW => z.2.1) eg) p65
  have bP1 := FunD.bindsN (ps := ["self"]) FP1 (fun _ _ _ _ _ _ us hl => match us, hl with | [_], _ => rfl)
  have prMadearguments := propOf p66 p67 p68 p69
  obtain ⟨fdP2, FP2⟩ := funAt (congrArg (fun z : He.FnW × He.FnW × He.FnW × He.FnW × He.FnW => z.2.2.1) eg) p70
  have bP2 := FunD.bindsN (ps := ["self"]) FP2 (fun _ _ _ _ _ _ us hl => match us, hl with | [_], _ => rfl)
  have prProjectnames := propOf p71 p72 p73 p74
  obtain ⟨fdP3, FP3⟩ := funAt (congrArg (fun z : He.FnW × He.FnW × He.FnW × He.FnW × He.FnW => z.2.2.2.1) eg) p75
  have bP3 := FunD.bindsN (ps := ["self"]) FP3 (fun _ _ _ _ _ _ us hl => match us, hl with | [_], _ => rfl)
  have prChangenames := propOf p76 p77 p78 p79
  obtain ⟨fdP4, FP4⟩ := funAt (congrArg (fun z : He.FnW × He.FnW × He.FnW × He.FnW × He.FnW => z.2.2.2.2) eg) p80
  have bP4 := FunD.bindsN (ps := ["self"]) FP4 (fun _ _ _ _ _ _ us hl => match us, hl with | [_], _ => rfl)
  have B : Bn mg := ⟨fre _ (by decide +kernel), fre _ (by decide +kernel), fre _ (by decide +kernel), fre _ (by decide +kernel), fre _ (by decide +kernel), fre _ (by decide +kernel), fre _ (by decide +kernel), fre _ (by decide +kernel), fre _ (by decide +kernel), fre _ (by decide +kernel), fre _ (by decide +kernel), fre _ (by decide +kernel), fre _ (by decide +kernel), fre _ (by decide +kernel)⟩
  obtain ⟨fd, F⟩ := c.def_ 26 (d := dOf "law" 39) rfl
  have ef := hfa.symm.trans (glo "law" (by decide +kernel))
  cases ef
  have b := FunD.bindsA (ps := ["_law_script"]) F fun _ _ _ _ _ _ us hl => match us, hl with | [_], _ => rfl
  refine ⟨fd, fun s v => b s [v] rfl, fun base hb hg => ?_⟩
  obtain ⟨d0, F0⟩ := c.def_ 0 (d := dOf "_wall" 0) rfl
  have g0 : mg "_wall" = some (.ref (ga K "_wall")) := glo _ (by decide +kernel)
  have b0 : Binds K d0 ["k"] [] := F0.bindsN (fun _ _ _ _ _ _ us hl => match us, hl with | [_], _ => rfl)
  obtain ⟨d1, F1⟩ := c.def_ 1 (d := dOf "change_between" 8) rfl
  have g1 : mg "change_between" = some (.ref (ga K "change_between")) := glo _ (by decide +kernel)
  have b1 : Binds K d1 ["project", "other"] [] := F1.bindsN (fun _ _ _ _ _ _ us hl => match us, hl with | [_, _], _ => rfl)
  obtain ⟨d2, F2⟩ := c.def_ 2 (d := dOf "_by_name" 9) rfl
  have g2 : mg "_by_name" = some (.ref (ga K "_by_name")) := glo _ (by decide +kernel)
  have b2 : Binds K d2 ["parts"] [] := F2.bindsN (fun _ _ _ _ _ _ us hl => match us, hl with | [_], _ => rfl)
  obtain ⟨d3, F3⟩ := c.def_ 3 (d := dOf "_target_of" 10) rfl
  have g3 : mg "_target_of" = some (.ref (ga K "_target_of")) := glo _ (by decide +kernel)
  have b3 : Binds K d3 ["project", "name"] [] := F3.bindsN (fun _ _ _ _ _ _ us hl => match us, hl with | [_, _], _ => rfl)
  obtain ⟨d4, F4⟩ := c.def_ 4 (d := dOf "_law_feed_of" 17) rfl
  have g4 : mg "_law_feed_of" = some (.ref (ga K "_law_feed_of")) := glo _ (by decide +kernel)
  have b4 : Binds K d4 ["_law_script", "_law_k"] [] := F4.bindsN (fun _ _ _ _ _ _ us hl => match us, hl with | [_, _], _ => rfl)
  obtain ⟨d5, F5⟩ := c.def_ 5 (d := dOf "_law_draw" 18) rfl
  have g5 : mg "_law_draw" = some (.ref (ga K "_law_draw")) := glo _ (by decide +kernel)
  have b5 : Binds K d5 ["_law_feed", "_law_many"] [] := F5.bindsN (fun _ _ _ _ _ _ us hl => match us, hl with | [_, _], _ => rfl)
  obtain ⟨d6, F6⟩ := c.def_ 6 (d := dOf "_law_pick" 19) rfl
  have g6 : mg "_law_pick" = some (.ref (ga K "_law_pick")) := glo _ (by decide +kernel)
  have b6 : Binds K d6 ["_law_feed", "_law_items"] [] := F6.bindsN (fun _ _ _ _ _ _ us hl => match us, hl with | [_, _], _ => rfl)
  obtain ⟨d7, F7⟩ := c.def_ 7 (d := dOf "_law_outs" 20) rfl
  have g7 : mg "_law_outs" = some (.ref (ga K "_law_outs")) := glo _ (by decide +kernel)
  have b7 : Binds K d7 [] [] := F7.bindsN (fun _ _ _ _ _ _ us hl => match us, hl with | [], _ => rfl)
  obtain ⟨d8, F8⟩ := c.def_ 8 (d := dOf "_law_calls" 21) rfl
  have g8 : mg "_law_calls" = some (.ref (ga K "_law_calls")) := glo _ (by decide +kernel)
  have b8 : Binds K d8 [] [] := F8.bindsN (fun _ _ _ _ _ _ us hl => match us, hl with | [], _ => rfl)
  obtain ⟨d9, F9⟩ := c.def_ 9 (d := dOf "_law_text" 22) rfl
  have g9 : mg "_law_text" = some (.ref (ga K "_law_text")) := glo _ (by decide +kernel)
  have b9 : Binds K d9 ["_law_feed"] [] := F9.bindsN (fun _ _ _ _ _ _ us hl => match us, hl with | [_], _ => rfl)
  obtain ⟨d10, F10⟩ := c.def_ 10 (d := dOf "_law_source" 23) rfl
  have g10 : mg "_law_source" = some (.ref (ga K "_law_source")) := glo _ (by decide +kernel)
  have b10 : Binds K d10 ["_law_feed"] [] := F10.bindsN (fun _ _ _ _ _ _ us hl => match us, hl with | [_], _ => rfl)
  obtain ⟨d11, F11⟩ := c.def_ 11 (d := dOf "_law_target" 24) rfl
  have g11 : mg "_law_target" = some (.ref (ga K "_law_target")) := glo _ (by decide +kernel)
  have b11 : Binds K d11 ["_law_feed"] [] := F11.bindsN (fun _ _ _ _ _ _ us hl => match us, hl with | [_], _ => rfl)
  obtain ⟨d12, F12⟩ := c.def_ 12 (d := dOf "_law_one" 25) rfl
  have g12 : mg "_law_one" = some (.ref (ga K "_law_one")) := glo _ (by decide +kernel)
  have b12 : Binds K d12 ["_law_told"] [] := F12.bindsN (fun _ _ _ _ _ _ us hl => match us, hl with | [_], _ => rfl)
  obtain ⟨d13, F13⟩ := c.def_ 13 (d := dOf "_law_names" 26) rfl
  have g13 : mg "_law_names" = some (.ref (ga K "_law_names")) := glo _ (by decide +kernel)
  have b13 : Binds K d13 [] [] := F13.bindsN (fun _ _ _ _ _ _ us hl => match us, hl with | [], _ => rfl)
  obtain ⟨d14, F14⟩ := c.def_ 14 (d := dOf "_law_drawn" 27) rfl
  have g14 : mg "_law_drawn" = some (.ref (ga K "_law_drawn")) := glo _ (by decide +kernel)
  have b14 : Binds K d14 ["_law_feed"] [] := F14.bindsN (fun _ _ _ _ _ _ us hl => match us, hl with | [_], _ => rfl)
  obtain ⟨d15, F15⟩ := c.def_ 15 (d := dOf "_law_moved" 28) rfl
  have g15 : mg "_law_moved" = some (.ref (ga K "_law_moved")) := glo _ (by decide +kernel)
  have b15 : Binds K d15 ["_law_feed", "_law_targets", "_law_many"] [] := F15.bindsN (fun _ _ _ _ _ _ us hl => match us, hl with | [_, _, _], _ => rfl)
  obtain ⟨d16, F16⟩ := c.def_ 16 (d := dOf "_law_package" 29) rfl
  have g16 : mg "_law_package" = some (.ref (ga K "_law_package")) := glo _ (by decide +kernel)
  have b16 : Binds K d16 ["_law_targets"] [] := F16.bindsN (fun _ _ _ _ _ _ us hl => match us, hl with | [_], _ => rfl)
  obtain ⟨d17, F17⟩ := c.def_ 17 (d := dOf "_law_is_project" 30) rfl
  have g17 : mg "_law_is_project" = some (.ref (ga K "_law_is_project")) := glo _ (by decide +kernel)
  have b17 : Binds K d17 ["_law_project", "_law_targets"] [] := F17.bindsN (fun _ _ _ _ _ _ us hl => match us, hl with | [_, _], _ => rfl)
  obtain ⟨d18, F18⟩ := c.def_ 18 (d := dOf "_law_parts_due" 31) rfl
  have g18 : mg "_law_parts_due" = some (.ref (ga K "_law_parts_due")) := glo _ (by decide +kernel)
  have b18 : Binds K d18 ["_law_before", "_law_after"] [] := F18.bindsN (fun _ _ _ _ _ _ us hl => match us, hl with | [_, _], _ => rfl)
  obtain ⟨d19, F19⟩ := c.def_ 19 (d := dOf "_law_handed" 32) rfl
  have g19 : mg "_law_handed" = some (.ref (ga K "_law_handed")) := glo _ (by decide +kernel)
  have b19 : Binds K d19 ["_law_feed", "_law_parts"] [] := F19.bindsN (fun _ _ _ _ _ _ us hl => match us, hl with | [_, _], _ => rfl)
  obtain ⟨d20, F20⟩ := c.def_ 20 (d := dOf "_law_done" 33) rfl
  have g20 : mg "_law_done" = some (.ref (ga K "_law_done")) := glo _ (by decide +kernel)
  have b20 : Binds K d20 ["_law_change", "_law_project"] [] := F20.bindsN (fun _ _ _ _ _ _ us hl => match us, hl with | [_, _], _ => rfl)
  obtain ⟨d21, F21⟩ := c.def_ 21 (d := dOf "_law_is_done" 34) rfl
  have g21 : mg "_law_is_done" = some (.ref (ga K "_law_is_done")) := glo _ (by decide +kernel)
  have b21 : Binds K d21 ["_law_change", "_law_parts", "_law_targets"] [] := F21.bindsN (fun _ _ _ _ _ _ us hl => match us, hl with | [_, _, _], _ => rfl)
  obtain ⟨d22, F22⟩ := c.def_ 22 (d := dOf "_law_joined" 35) rfl
  have g22 : mg "_law_joined" = some (.ref (ga K "_law_joined")) := glo _ (by decide +kernel)
  have b22 : Binds K d22 ["_law_one_here", "_law_other"] [] := F22.bindsN (fun _ _ _ _ _ _ us hl => match us, hl with | [_, _], _ => rfl)
  obtain ⟨d23, F23⟩ := c.def_ 23 (d := dOf "_law_summed" 36) rfl
  have g23 : mg "_law_summed" = some (.ref (ga K "_law_summed")) := glo _ (by decide +kernel)
  have b23 : Binds K d23 ["_law_one_here", "_law_other"] [] := F23.bindsN (fun _ _ _ _ _ _ us hl => match us, hl with | [_, _], _ => rfl)
  obtain ⟨d24, F24⟩ := c.def_ 24 (d := dOf "_law_is_like" 37) rfl
  have g24 : mg "_law_is_like" = some (.ref (ga K "_law_is_like")) := glo _ (by decide +kernel)
  have b24 : Binds K d24 ["_law_change", "_law_parts", "_law_targets"] [] := F24.bindsN (fun _ _ _ _ _ _ us hl => match us, hl with | [_, _, _], _ => rfl)
  obtain ⟨d25, F25⟩ := c.def_ 25 (d := dOf "_law_kept_right" 38) rfl
  have g25 : mg "_law_kept_right" = some (.ref (ga K "_law_kept_right")) := glo _ (by decide +kernel)
  have b25 : Binds K d25 ["_law_feed", "_law_plans"] [] := F25.bindsN (fun _ _ _ _ _ _ us hl => match us, hl with | [_, _], _ => rfl)
  obtain ⟨eNoTarget__init__, FNoTarget__init__⟩ := c.def_ 27 (d := dIn "NoTarget" "__init__" "NoTarget.__init__" 3 0) rfl
  have bNoTarget__init__ : Binds K eNoTarget__init__ ["self", "name"] [] := FunD.bindsN FNoTarget__init__ (fun _ _ _ _ _ _ us hl => match us, hl with | [_, _], _ => rfl)
  obtain ⟨eNotSource__init__, FNotSource__init__⟩ := c.def_ 28 (d := dIn "NotSource" "__init__" "NotSource.__init__" 4 0) rfl
  have bNotSource__init__ : Binds K eNotSource__init__ ["self", "name"] [] := FunD.bindsN FNotSource__init__ (fun _ _ _ _ _ _ us hl => match us, hl with | [_, _], _ => rfl)
  obtain ⟨eMismatch__init__, FMismatch__init__⟩ := c.def_ 29 (d := dIn "Mismatch" "__init__" "Mismatch.__init__" 5 0) rfl
  have bMismatch__init__ : Binds K eMismatch__init__ ["self", "name"] [] := FunD.bindsN FMismatch__init__ (fun _ _ _ _ _ _ us hl => match us, hl with | [_, _], _ => rfl)
  obtain ⟨eSource__init__, FSource__init__⟩ := c.def_ 30 (d := dIn "Source" "__init__" "Source.__init__" 13 0) rfl
  have bSource__init__ : Binds K eSource__init__ ["self", "outputs"] [] := FunD.bindsN FSource__init__ (fun _ _ _ _ _ _ us hl => match us, hl with | [_, _], _ => rfl)
  obtain ⟨eSource__eq__, FSource__eq__⟩ := c.def_ 31 (d := dIn "Source" "__eq__" "Source.__eq__" 13 1) rfl
  have bSource__eq__ : Binds K eSource__eq__ ["self", "other"] [] := FunD.bindsN FSource__eq__ (fun _ _ _ _ _ _ us hl => match us, hl with | [_, _], _ => rfl)
  obtain ⟨eMade__init__, FMade__init__⟩ := c.def_ 32 (d := dInD "Made" "__init__" "Made.__init__" 14 0) rfl
  obtain ⟨dsDMade__init__, vDMade__init__, bDMade__init__⟩ := FMade__init__.binds1 (ps := ["self", "recipe", "arguments"]) 2 0 (by simp [dInD, He.DefD.dvs]) rfl (fun _ _ _ _ _ _ _ us its hl hi => by
    rcases us with _ | ⟨u0, _ | ⟨u1, _ | ⟨u2, us⟩⟩⟩ <;> first | (cases hl; done) | skip
    rcases its with _ | ⟨i0, _ | ⟨i1, its⟩⟩ <;> first | (cases hi; done) | skip
    exact ⟨_, rfl, rfl⟩)
  obtain ⟨dsAMade__init__, vAMade__init__, bAMade__init__⟩ := FMade__init__.binds1 (ps := ["self", "recipe", "arguments"]) 3 1 (by simp [dInD, He.DefD.dvs]) rfl (fun _ _ _ _ _ _ _ us its hl hi => by
    rcases us with _ | ⟨u0, _ | ⟨u1, _ | ⟨u2, _ | ⟨u3, us⟩⟩⟩⟩ <;> first | (cases hl; done) | skip
    rcases its with _ | ⟨i0, _ | ⟨i1, its⟩⟩ <;> first | (cases hi; done) | skip
    exact ⟨_, rfl, rfl⟩)
  cases vAMade__init__
  rcases vDMade__init__ with _ | ⟨hE, _ | _⟩
  cases hE
  obtain ⟨eMade__eq__, FMade__eq__⟩ := c.def_ 33 (d := dIn "Made" "__eq__" "Made.__eq__" 14 1) rfl
  have bMade__eq__ : Binds K eMade__eq__ ["self", "other"] [] := FunD.bindsN FMade__eq__ (fun _ _ _ _ _ _ us hl => match us, hl with | [_, _], _ => rfl)
  obtain ⟨eProject__init__, FProject__init__⟩ := c.def_ 34 (d := dIn "Project" "__init__" "Project.__init__" 15 0) rfl
  have bProject__init__ : Binds K eProject__init__ ["self", "targets"] [] := FunD.bindsN FProject__init__ (fun _ _ _ _ _ _ us hl => match us, hl with | [_, _], _ => rfl)
  obtain ⟨eProject__getitem__, FProject__getitem__⟩ := c.def_ 35 (d := dIn "Project" "__getitem__" "Project.__getitem__" 15 1) rfl
  have bProject__getitem__ : Binds K eProject__getitem__ ["self", "at"] [] := FunD.bindsN FProject__getitem__ (fun _ _ _ _ _ _ us hl => match us, hl with | [_, _], _ => rfl)
  obtain ⟨eProject__contains__, FProject__contains__⟩ := c.def_ 36 (d := dIn "Project" "__contains__" "Project.__contains__" 15 3) rfl
  have bProject__contains__ : Binds K eProject__contains__ ["self", "x"] [] := FunD.bindsN FProject__contains__ (fun _ _ _ _ _ _ us hl => match us, hl with | [_, _], _ => rfl)
  obtain ⟨eProject__eq__, FProject__eq__⟩ := c.def_ 37 (d := dIn "Project" "__eq__" "Project.__eq__" 15 5) rfl
  have bProject__eq__ : Binds K eProject__eq__ ["self", "other"] [] := FunD.bindsN FProject__eq__ (fun _ _ _ _ _ _ us hl => match us, hl with | [_, _], _ => rfl)
  obtain ⟨eProjectput, FProjectput⟩ := c.def_ 38 (d := dIn "Project" "put" "Project.put" 15 7) rfl
  have bProjectput : Binds K eProjectput ["self", "name", "target"] [] := FunD.bindsN FProjectput (fun _ _ _ _ _ _ us hl => match us, hl with | [_, _, _], _ => rfl)
  obtain ⟨eProjectwithout, FProjectwithout⟩ := c.def_ 39 (d := dIn "Project" "without" "Project.without" 15 8) rfl
  have bProjectwithout : Binds K eProjectwithout ["self", "name"] [] := FunD.bindsN FProjectwithout (fun _ _ _ _ _ _ us hl => match us, hl with | [_, _], _ => rfl)
  obtain ⟨eChange__init__, FChange__init__⟩ := c.def_ 40 (d := dInD "Change" "__init__" "Change.__init__" 7 0) rfl
  obtain ⟨dsDChange__init__, vDChange__init__, bDChange__init__⟩ := FChange__init__.binds1 (ps := ["self", "parts"]) 1 0 (by simp [dInD, He.DefD.dvs]) rfl (fun _ _ _ _ _ _ _ us its hl hi => by
    rcases us with _ | ⟨u0, _ | ⟨u1, us⟩⟩ <;> first | (cases hl; done) | skip
    rcases its with _ | ⟨i0, _ | ⟨i1, its⟩⟩ <;> first | (cases hi; done) | skip
    exact ⟨_, rfl, rfl⟩)
  obtain ⟨dsAChange__init__, vAChange__init__, bAChange__init__⟩ := FChange__init__.binds1 (ps := ["self", "parts"]) 2 1 (by simp [dInD, He.DefD.dvs]) rfl (fun _ _ _ _ _ _ _ us its hl hi => by
    rcases us with _ | ⟨u0, _ | ⟨u1, _ | ⟨u2, us⟩⟩⟩ <;> first | (cases hl; done) | skip
    rcases its with _ | ⟨i0, _ | ⟨i1, its⟩⟩ <;> first | (cases hi; done) | skip
    exact ⟨_, rfl, rfl⟩)
  cases vAChange__init__
  rcases vDChange__init__ with _ | ⟨hE, _ | _⟩
  cases hE
  obtain ⟨eChange__call__, FChange__call__⟩ := c.def_ 41 (d := dIn "Change" "__call__" "Change.__call__" 7 1) rfl
  have bChange__call__ : Binds K eChange__call__ ["self", "project"] [] := FunD.bindsN FChange__call__ (fun _ _ _ _ _ _ us hl => match us, hl with | [_, _], _ => rfl)
  obtain ⟨eChange__invert__, FChange__invert__⟩ := c.def_ 42 (d := dIn "Change" "__invert__" "Change.__invert__" 7 2) rfl
  have bChange__invert__ : Binds K eChange__invert__ ["self"] [] := FunD.bindsN FChange__invert__ (fun _ _ _ _ _ _ us hl => match us, hl with | [_], _ => rfl)
  obtain ⟨eChange__add__, FChange__add__⟩ := c.def_ 43 (d := dIn "Change" "__add__" "Change.__add__" 7 3) rfl
  have bChange__add__ : Binds K eChange__add__ ["self", "other"] [] := FunD.bindsN FChange__add__ (fun _ _ _ _ _ _ us hl => match us, hl with | [_, _], _ => rfl)
  obtain ⟨eChange__len__, FChange__len__⟩ := c.def_ 44 (d := dIn "Change" "__len__" "Change.__len__" 7 4) rfl
  have bChange__len__ : Binds K eChange__len__ ["self"] [] := FunD.bindsN FChange__len__ (fun _ _ _ _ _ _ us hl => match us, hl with | [_], _ => rfl)
  obtain ⟨eChange__contains__, FChange__contains__⟩ := c.def_ 45 (d := dIn "Change" "__contains__" "Change.__contains__" 7 5) rfl
  have bChange__contains__ : Binds K eChange__contains__ ["self", "x"] [] := FunD.bindsN FChange__contains__ (fun _ _ _ _ _ _ us hl => match us, hl with | [_, _], _ => rfl)
  obtain ⟨eChange__eq__, FChange__eq__⟩ := c.def_ 46 (d := dIn "Change" "__eq__" "Change.__eq__" 7 6) rfl
  have bChange__eq__ : Binds K eChange__eq__ ["self", "other"] [] := FunD.bindsN FChange__eq__ (fun _ _ _ _ _ _ us hl => match us, hl with | [_, _], _ => rfl)
  have xT : Cl1 P w K mg base "NoTarget" (ga K "NoTarget") "name" := ⟨xcB_ok kdVe p1, glo _ (by decide +kernel), p2, _, _, p3, p4, okIni FNoTarget__init__ ⟨rfl, rfl, rfl, by decide +kernel, rfl, by decide +kernel, by decide +kernel⟩ rfl rfl (by decide) (by decide),
    kbnOf FNoTarget__init__ (fun _ _ _ _ _ _ us ws h1 h2 => match us, h1, ws, h2 with | [_, _], _, [], _ => rfl) (fun r _ => r), kbnOf FNoTarget__init__ (fun _ _ _ _ _ _ us ws h1 h2 => match us, h1, ws, h2 with | [_], _, [_], _ => rfl) (fun r t => r.append t)⟩
  have xN : Cl1 P w K mg base "NotSource" (ga K "NotSource") "name" := ⟨xcB_ok kdVe p5, glo _ (by decide +kernel), p6, _, _, p7, p8, okIni FNotSource__init__ ⟨rfl, rfl, rfl, by decide +kernel, rfl, by decide +kernel, by decide +kernel⟩ rfl rfl (by decide) (by decide),
    kbnOf FNotSource__init__ (fun _ _ _ _ _ _ us ws h1 h2 => match us, h1, ws, h2 with | [_, _], _, [], _ => rfl) (fun r _ => r), kbnOf FNotSource__init__ (fun _ _ _ _ _ _ us ws h1 h2 => match us, h1, ws, h2 with | [_], _, [_], _ => rfl) (fun r t => r.append t)⟩
  have xM : Cl1 P w K mg base "Mismatch" (ga K "Mismatch") "name" := ⟨xcB_ok kdVe p9, glo _ (by decide +kernel), p10, _, _, p11, p12, okIni FMismatch__init__ ⟨rfl, rfl, rfl, by decide +kernel, rfl, by decide +kernel, by decide +kernel⟩ rfl rfl (by decide) (by decide),
    kbnOf FMismatch__init__ (fun _ _ _ _ _ _ us ws h1 h2 => match us, h1, ws, h2 with | [_, _], _, [], _ => rfl) (fun r _ => r), kbnOf FMismatch__init__ (fun _ _ _ _ _ _ us ws h1 h2 => match us, h1, ws, h2 with | [_], _, [_], _ => rfl) (fun r t => r.append t)⟩
  have iS : IsC K (ga K "Source") := ⟨clSource, p13, p31, p32, p14⟩
  have iM : IsC K (ga K "Made") := ⟨clMade, p15, p31, p32, p16⟩
  have iP : IsC K (ga K "Project") := ⟨clProject, p17, p31, p32, p18⟩
  have iC : IsC K (ga K "Change") := ⟨clChange, p19, p31, p32, p20⟩
  have mi : mg "isinstance" = none := fre _ (by decide +kernel)
  have md : mg "dict" = none := fre _ (by decide +kernel)
  have oSI := okSInit (P := P) (w := w) (mg := mg) (base := base) (k := 0) clSource naSource_outputs md FSource__init__
  have oPI := okPInit (P := P) (w := w) (mg := mg) (base := base) (k := 0) clProject naProject_targets md FProject__init__
  have oMI := okMInit (P := P) (w := w) (mg := mg) (base := base) (k := 0) clMade naMade_recipe naMade_arguments (fre _ (by decide +kernel)) FMade__init__
  have gS : mg "Source" = some (.ref (ga K "Source")) := glo _ (by decide +kernel)
  have gM : mg "Made" = some (.ref (ga K "Made")) := glo _ (by decide +kernel)
  have oSE := okSEq (P := P) (w := w) (base := base) (k := 0) mi gS iS iM naSource_outputs p33 p34 FSource__eq__
  have oME := okMEq (P := P) (w := w) (base := base) (k := 0) mi gM iS iM naMade_recipe naMade_arguments p36 p35 FMade__eq__
  have oSN := okSEqN (P := P) (w := w) (base := base) (k := 0) mi gS p27 FSource__eq__
  have oMN := okMEqN (P := P) (w := w) (base := base) (k := 0) mi gM p30 FMade__eq__
  have oSO := okSOut (P := P) (w := w) (mg := mg) (base := base) (k := 0) clSource naSource_outputs md FP0
  have oMR := okMRec (P := P) (w := w) (mg := mg) (base := base) (k := 0) clMade naMade_recipe FP1
  have oMA := okMArg (P := P) (w := w) (mg := mg) (base := base) (k := 0) clMade naMade_arguments FP2
  have W : Pjc P w K mg base (ga K "Source") (ga K "Made") (ga K "Project") (ga K "NoTarget") (ga K "NotSource") := ⟨iS, iM, iP, naSource_outputs, naProject_targets, gS, gM, glo _ (by decide +kernel), mi, md, fre _ (by decide +kernel), fre _ (by decide +kernel), fre _ (by decide +kernel), p33, p34, p37, p42, p44, p45,
    ⟨_, _, mkSource, bSource__init__, oSI⟩, ⟨_, _, mkProject, bProject__init__, oPI⟩, ⟨_, _, meSource__eq__.at_, meSource__eq__.fn, bSource__eq__, oSE⟩, ⟨_, _, meMade__eq__.at_, meMade__eq__.fn, bMade__eq__, oME⟩, ⟨_, _, _, prSourceoutputs, bP0, oSO⟩, xT, xN⟩
  have N : Pjn P w K mg base (ga K "Source") (ga K "Made") := ⟨⟨_, _, meSource__eq__.at_, meSource__eq__.fn, bSource__eq__, oSN⟩, ⟨_, _, meMade__eq__.at_, meMade__eq__.fn, bMade__eq__, oMN⟩, p25, p26, p28, p29, p21, p22, p27⟩
  have oPG := okPGet (k := 0) W FProject__getitem__
  have Pa : Pas P w K mg base (ga K "Project") (ga K "NoTarget") := ⟨⟨_, _, meProject__getitem__.at_, p51, meProject__getitem__.fn, bProject__getitem__, oPG⟩, ⟨_, _, meProject__contains__.at_, meProject__contains__.fn, bProject__contains__, okPHas (k := 0) W FProject__contains__⟩, ⟨_, _, _, prProjectnames, bP3, okPNames (k := 0) W FP3⟩⟩
  have Mm : Mdc P w K mg base (ga K "Made") (He.dflAt ("Made", some "__init__") 0 K) := ⟨⟨_, _, mkMade, bDMade__init__, bAMade__init__, oMI⟩, emB_ok p53⟩
  have Li : Lip P w K mg base (ga K "Source") (ga K "Made") (ga K "Project") := ⟨⟨_, _, meProject__eq__.at_, meProject__eq__.fn, bProject__eq__, okPEq (k := 0) W FProject__eq__⟩, p46, p18, ⟨_, _, _, prMaderecipe, bP1, oMR⟩, ⟨_, _, _, prMadearguments, bP2, oMA⟩, p36⟩
  have oCI := okCInit (P := P) (w := w) (mg := mg) (base := base) (k := 0) clChange naChange_parts (fre _ (by decide +kernel)) FChange__init__
  have Pn : Pne K (ga K "Source") (ga K "Made") := ⟨p48, p47⟩
  have Ch : Chc P w K mg base (ga K "Change") (ga K "Mismatch") := ⟨iC, naChange_parts, glo _ (by decide +kernel), ⟨_, _, mkChange, bAChange__init__, oCI⟩, fre _ (by decide +kernel), xM, p41⟩
  have Cd : Chd P w K mg base (ga K "Change") (He.dflAt ("Change", some "__init__") 0 K) := ⟨⟨_, _, mkChange, bDChange__init__, oCI⟩, emB_ok p54⟩
  have aTOf : Has P w K mg base 5 "_target_of" ["project", "name"] (spTOf (ga K "Source") (ga K "Made") (ga K "Project")) := ⟨_, d3, g3, F3.kp, b3, okTOf (k := 0) W Pa F3⟩
  have aByN : Has P w K mg base 1 "_by_name" ["parts"] (spByN (ga K "Source") (ga K "Made")) := ⟨_, d2, g2, F2.kp, b2, okByN (k := 0) F2⟩
  have aBtw : Has P w K mg base 6 "change_between" ["project", "other"] (spBtw K (ga K "Source") (ga K "Made") (ga K "Project") (ga K "Change")) := ⟨_, d1, g1, F1.kp, b1, okBtw (k := 0) W N Pn Pa Ch aTOf F1⟩
  have Cn : Cnm P w K mg base (ga K "Source") (ga K "Made") (ga K "Change") := ⟨⟨_, _, _, prChangenames, bP4, okCNames (k := 0) Ch (fre _ (by decide +kernel)) FP4⟩⟩
  have Cm : Chm P w K mg base (ga K "Source") (ga K "Made") (ga K "Change") := ⟨⟨_, _, meChange__len__.at_, meChange__len__.fn, bChange__len__, okCLen (k := 0) Ch (fre _ (by decide +kernel)) FChange__len__⟩, ⟨_, _, meChange__contains__.at_, meChange__contains__.fn, bChange__contains__, okCHas (k := 0) Ch Cn FChange__contains__⟩, ⟨_, _, meChange__eq__.at_, meChange__eq__.fn, bChange__eq__, okCEq (k := 0) W N Ch FChange__eq__⟩, p49⟩
  have Ci : Chi P w K mg base (ga K "Source") (ga K "Made") (ga K "Change") := ⟨⟨_, _, meChange__invert__.at_, meChange__invert__.fn, bChange__invert__, okCInv (k := 0) Ch FChange__invert__⟩⟩
  have Cp : Cpj P w K mg base (ga K "Source") (ga K "Made") (ga K "Project") (ga K "NoTarget") := ⟨⟨_, _, meProjectput, bProjectput, okPPut (k := 0) W FProjectput⟩, ⟨_, _, meProjectwithout, bProjectwithout, okPWithout (k := 0) W FProjectwithout⟩⟩
  have eAdd : PySem.W.findIn K (.ref (ga K "Change")) (PySem.dunder Operator.Add.info.2) = some (some (.ref (ma K (ga K "Change") "__add__"))) := meChange__add__.at_
  have Cl : Chl P w K mg base (ga K "Source") (ga K "Made") (ga K "Project") (ga K "Change") (ga K "Mismatch") (ga K "BuildError") := ⟨p50, glo _ (by decide +kernel), p40, ⟨_, _, ⟨meChange__call__.at_, meChange__call__.fn, p52⟩, bChange__call__, okCCall (k := 0) W N Pn Ch Cp aTOf FChange__call__⟩, ⟨_, _, eAdd, meChange__add__.fn, bChange__add__, okCAdd (k := 0) W N Pn Ch aByN FChange__add__⟩, p55⟩
  have aFeed : Has P w K mg base 1 "_law_feed_of" ["_law_script", "_law_k"] (spFeed K) := ⟨_, d4, g4, F4.kp, b4, okFeed (k := 0) F4 B.len⟩
  have aDraw : Has P w K mg base 1 "_law_draw" ["_law_feed", "_law_many"] (spDraw) := ⟨_, d5, g5, F5.kp, b5, okDraw (k := 0) F5⟩
  have aPick : Has P w K mg base 2 "_law_pick" ["_law_feed", "_law_items"] (spPick K) := ⟨_, d6, g6, F6.kp, b6, KS.La.okPick (k := 0) F6 B.len aDraw⟩
  have aOuts : Has P w K mg base 1 "_law_outs" [] (spOutsT) := ⟨_, d7, g7, F7.kp, b7, okOutsT (k := 0) F7⟩
  have aCalls : Has P w K mg base 1 "_law_calls" [] (spCalls) := ⟨_, d8, g8, F8.kp, b8, okCalls (k := 0) F8⟩
  have aText : Has P w K mg base 3 "_law_text" ["_law_feed"] (spText) := ⟨_, d9, g9, F9.kp, b9, okTxt (k := 0) F9 aDraw aPick aCalls⟩
  have aSrc : Has P w K mg base 4 "_law_source" ["_law_feed"] (spDrawn) := ⟨_, d10, g10, F10.kp, b10, okSource (k := 0) aDraw aText aOuts F10⟩
  have aTgt : Has P w K mg base 5 "_law_target" ["_law_feed"] (spDrawn) := ⟨_, d11, g11, F11.kp, b11, okTarget (k := 0) F11 B aDraw aPick aCalls aText aSrc⟩
  have aOne : Has P w K mg base 3 "_law_one" ["_law_told"] (spOne (ga K "Source") (ga K "Made")) := ⟨_, d12, g12, F12.kp, b12, okOne (k := 0) W Mm F12⟩
  have aOnO : Has P w K mg base 3 "_law_one" ["_law_told"] (spOneO (ga K "Source") (ga K "Made")) := ⟨_, d12, g12, F12.kp, b12, okOneO (k := 0) W Mm F12⟩
  have aNms : Has P w K mg base 1 "_law_names" [] (spNms) := ⟨_, d13, g13, F13.kp, b13, okNms (k := 0) F13⟩
  have aPkg : Has P w K mg base 4 "_law_package" ["_law_targets"] (spWhole (ga K "Source") (ga K "Made") (ga K "Project")) := ⟨_, d16, g16, F16.kp, b16, okWhole (k := 0) W aOne F16⟩
  have aIsP : Has P w K mg base 6 "_law_is_project" ["_law_project", "_law_targets"] (spIsP (ga K "Source") (ga K "Made") (ga K "Project")) := ⟨_, d17, g17, F17.kp, b17, okIsP (k := 0) W Pa Li aPkg F17⟩
  have aDrn : Has P w K mg base 6 "_law_drawn" ["_law_feed"] (spTabN) := ⟨_, d14, g14, F14.kp, b14, okDrawn (k := 0) aDraw aTgt aNms F14⟩
  have aMov : Has P w K mg base 6 "_law_moved" ["_law_feed", "_law_targets", "_law_many"] (spMoved) := ⟨_, d15, g15, F15.kp, b15, okMoved (k := 0) B md aDraw aPick aText aOuts aTgt aNms F15⟩
  have aDue : Has P w K mg base 1 "_law_parts_due" ["_law_before", "_law_after"] (spDue) := ⟨_, d18, g18, F18.kp, b18, okDue (k := 0) B (fre _ (by decide +kernel)) F18⟩
  have aHnd : Has P w K mg base 4 "_law_handed" ["_law_feed", "_law_parts"] (spHand (ga K "Source") (ga K "Made")) := ⟨_, d19, g19, F19.kp, b19, okHand (k := 0) B aOnO aDraw F19⟩
  have aDon : Has P w K mg base 7 "_law_done" ["_law_change", "_law_project"] (spDone K (ga K "Source") (ga K "Made") (ga K "Project") (ga K "Change")) := ⟨_, d20, g20, F20.kp, b20, okDone (k := 0) B Ch Cl F20⟩
  have aIsD : Has P w K mg base 8 "_law_is_done" ["_law_change", "_law_parts", "_law_targets"] (spIsDn K (ga K "Source") (ga K "Made") (ga K "Change")) := ⟨_, d21, g21, F21.kp, b21, okIsDn (k := 0) B md aDon aPkg aIsP F21⟩
  have aJnd : Has P w K mg base 1 "_law_joined" ["_law_one_here", "_law_other"] (spJn) := ⟨_, d22, g22, F22.kp, b22, okJn (k := 0) B md (fre _ (by decide +kernel)) F22⟩
  have aSum : Has P w K mg base 4 "_law_summed" ["_law_one_here", "_law_other"] (spSum K (ga K "Source") (ga K "Made") (ga K "Change")) := ⟨_, d23, g23, F23.kp, b23, okSum (k := 0) Ch Cl F23⟩
  have aLik : Has P w K mg base 9 "_law_is_like" ["_law_change", "_law_parts", "_law_targets"] (spIsDn K (ga K "Source") (ga K "Made") (ga K "Change")) := ⟨_, d24, g24, F24.kp, b24, okLike (k := 0) B Ch Cn Cm aHnd aNms aIsD F24⟩
  have aKrt : Has P w K mg base 10 "_law_kept_right" ["_law_feed", "_law_plans"] (spKr) := ⟨_, d25, g25, F25.kp, b25, okKr (k := 0) B Ch Cl Ci Cm aPkg aBtw aDraw aDue aJnd aSum aLik aIsP F25⟩
  exact (okLaw (k := 0) B Ch Cd Cl Ci Cm aFeed aDrn aMov aPkg aBtw aDraw aDue aJnd aSum aLik aIsP aHnd aKrt F p24).mono (by decide)
end
end PJ.HD

set_option Elab.async false
set_option linter.all false
set_option maxRecDepth 100000
set_option maxHeartbeats 0
open PySem PySem.W PySem.Calls PyProof.Rows
theorem PySem.Challenge.cw_farenough_k48_changes_of_projects_holds : PySem.Challenge.rw_farenough_k48_changes_of_projects.Holds := by
  w_on; o_law
  refine HandSHeadRun.head_any (r := OpenLaw.row PySem.Challenge.rw_farenough_k48_changes_of_projects) (q := view (OpenLaw.row PySem.Challenge.rw_farenough_k48_changes_of_projects).prog [39]) (H := PJ.HD.hk) (ob := PJ.HD.ob) (M := 20000) (loose := PJ.HD.loose)
    (d := HandSHeadRun.topDef (OpenLaw.row PySem.Challenge.rw_farenough_k48_changes_of_projects).prog 39) (kwd := []) PJ.HD.ob_eq
    (by kernel_rfl) (fun s => by kernel_rfl) PJ.HD.run (by kernel_rfl) (by kernel_rfl) (by kernel_rfl) (by rfl) (by first | assumption | decide +kernel) (by decide +kernel) ⟨rfl, rfl, rfl, rfl, rfl, by decide +kernel⟩ ?hw ?hc
  case hw => w_witness2
  case hc =>
    refine L2.walk_ofE (l := PySem.Challenge.rw_farenough_k48_changes_of_projects) (n := 63) (k := 66) (x := "_law_script") (CX := L2.CX0) rfl (by decide) (by kernel_rfl) ⟨rfl, by decide, by decide⟩ ?F (fun _ _ _ _ z => z)
    intro w mg fa h Y G hmg0
    obtain ⟨K, KX, y⟩ := Y
    have hmg : mg ("law" : PySem.Str) = some (.ref fa) := by
      have e : (HandSHeadRun.topDef (OpenLaw.row PySem.Challenge.rw_farenough_k48_changes_of_projects).prog 39).name = ("law" : PySem.Str) := by kernel_rfl
      rw [← e]
      exact hmg0
    obtain ⟨fd, hb, hF⟩ := PJ.HD.facts (P := (PySem.Challenge.rw_farenough_k48_changes_of_projects).prog) (w := w) KX G hmg y
    exact ⟨K, fd, PJ.spLaw K, KX, hb, fun H a ns hl _ hS => ⟨a, ns, rfl, hS, hl, fun _ => rfl⟩, hF⟩


import PyProof.Rows.All
import HandS.ForMost
import HandS.Style
import HandS.IsInst
import HandS.Zip
import HandS.TupAny
import HandS.Codes
import HandS.Words
import HandS.Defaults
import PySem.Challenge.RW_farenough_k07_projects_changed
import Wide.All
import OpenK.AllK
import Wide.FinOn
import HandS.ForExc
import HandS.ExcInit
import HandS.ExcField
import HandS.ExcIs
import HandS.ExcValue
import PyProof.ExcBaseAll.IndexError
import PyProof.ExcBaseAll.LookupError
import KE.KExcInit
import KE.KExcIs
import HandS.MakeKw
import KE.KStateDown
import HandS.More
import HandS.Head0
import HandS.Head1
import HandS.Head2
import HandS.HeadEnd
import HandS.HeadHook2
import HandS.DictEq
import HandS.DictComp
import PyProof.Rows.StrJoinRep
import HandS.WordsDict
import HandS.OwnEq
import OpenK.KMeth
import PyProof.InstEq
import HandS.New
import HandS.Iter
import HandS.Dict
import HandS.Star
import OpenK.KOps
import HandS.TryMany
import HandS.Property
import PyProof.Rows.SortStr
import PyProof.Rows.StrMeet
import PyProof.Rows.TmSorted
import HandS.Finally
set_option Elab.async false
set_option linter.all false
set_option maxRecDepth 100000
set_option maxHeartbeats 4000000
namespace KS
open PySem PySem.Spec PyProof.Rows L2
def top (i : Nat) : Stmt := PySem.Challenge.pw_farenough_k07_projects_changed.main.body.getD i (.Pass ⟨0, 0, 0, 0⟩)
abbrev FnP (K : PySem.W.Frag) (x : Str) (st : Stmt) (f : Addr) (fd : FuncData) : Prop := FunD K x x (defArgs st) (defBody st) (defScope st) [] [] f fd
abbrev lFeed : Stmt := top 10
abbrev lDraw : Stmt := top 11
abbrev lPick : Stmt := top 12
abbrev lCalls : Stmt := top 14
abbrev lText : Stmt := top 15
abbrev lSame : Stmt := top 19
end KS

set_option Elab.async false
set_option linter.all false
set_option maxRecDepth 100000
set_option maxHeartbeats 4000000
namespace KX
open PySem PySem.Spec PyProof.Rows
abbrev veB : List Value := [.type "ValueError", .type "Exception", .type "BaseException", .type "object"]
abbrev keB : List Value := [.type "KeyError", .type "LookupError", .type "Exception", .type "BaseException", .type "object"]
abbrev ieB : List Value := [.type "IndexError", .type "LookupError", .type "Exception", .type "BaseException", .type "object"]
theorem storeKey : StoreFacts "KeyError" keB "object.__setattr__" "object" where
  mro := by kernel_rfl
  slot := .of (owner := "object") (n := "__setattr__")
    (by rw [typeLookup_type, builtinLookup_eq_fast]; kernel_rfl)
    (by decide +kernel)
    (by decide +kernel) (by decide +kernel)
    (by first
      | exact .inl (by decide +kernel)
      | exact .inr (by decide +kernel))
    (by rw [isSubtype_type]; kernel_rfl)
  entry := F.entry_object_sa
  kind := by decide +kernel
  split := by decide +kernel
  hasOwner := by decide +kernel
  args := fun a b c => by unfold argsOk; kernel_rfl
  passes := fun self => by kernel_rfl
/-- a chain of classes over a built-in error, made by newId -/
structure Kd (bmB : List Value) (newId : String) : Prop where
  made : ∃ B initId bmF, ExcBaseFacts B newId initId bmF ∧ bmB.contains (.type B) = true ∧ bmB.contains (.type "AttributeError") = false ∧ bmB.contains (.type "NameError") = false
  st : ∃ S, StoreFacts S bmB "object.__setattr__" "object"
theorem kdVe : Kd veB "ValueError.__new__" := ⟨⟨_, _, _, F.excBase_ValueError, by decide +kernel, by decide +kernel, by decide +kernel⟩, ⟨_, F.store_ValueError⟩⟩
theorem kdKe : Kd keB "LookupError.__new__" := ⟨⟨_, _, _, F.excBase_LookupError, by decide +kernel, by decide +kernel, by decide +kernel⟩, ⟨_, storeKey⟩⟩
theorem kdIe : Kd ieB "IndexError.__new__" := ⟨⟨_, _, _, F.excBase_IndexError, by decide +kernel, by decide +kernel, by decide +kernel⟩, ⟨_, F.store_IndexError⟩⟩
section
variable {prog : Program} {w : World} {A : Around} {E : Value → Shared → Prop} {R : Result → Shared → Prop} {h : Heap} {g : Array GenState} {d : Drawn} {t : Nat} {os : OsState}
variable {nm q : Str} {C N : Addr} {bs bm bmF : List Value} {hdct : Bool} {sn : List Str} {sub : List Value} {ab : Bool} {col : Option Bool} {dd : Option Addr} {k0 k1 k2 k3 k5 : Option Value} {B newId initId : String}
abbrev Stands (h : Heap) (nm q : Str) (C N : Addr) (bs bm : List Value) (hdct : Bool) (sn : List Str) (sub : List Value) (ab : Bool) (col : Option Bool) (dd : Option Addr) (k0 k1 k2 k3 k5 : Option Value) (newId : String) : Prop :=
  h.get? C = some (excClassObj nm q C N bs bm hdct sn sub ab col dd k0 k1 k2 k3 k5 newId)
theorem chkNew {M : Model} (F : ExcBaseFacts B newId initId bmF) (hB : bm.contains (.type B) = true) {rest : List Value} {kw : List (Str × Value)} {Q : Unit → Shared → Prop}
    (hC : Stands h nm q C N bs bm hdct sn sub ab col dd k0 k1 k2 k3 k5 newId) (hq : Q () ⟨h, g, d, t, os⟩) :
    wpAny M A (checkBuiltinCall newId ⟨.ref C :: rest, kw⟩) Q E ⟨h, g, d, t, os⟩ := by
  have hin : (Value.ref C :: bm).contains (.type B) = true := by
    rw [List.contains_cons, hB, Bool.or_true]
  have star := F.noStar
  simp only [checkBuiltinCall, F.newKind, F.newSplit, F.newRow]
  repeat (first
    | refine wpAny_loadPart_at hC ?_
    | (refine wpAny_isSubtype_exc hC ?_; rw [hin])
    | refine wpAny_staticBase_exc hC ?_
    | refine wpAny_madeBy_exc hC ?_
    | simp only [bne_self_eq_false, Bool.false_eq_true, if_false]
    | wp_step)
  exact hq
theorem newG (F : ExcBaseFacts B newId initId bmF) (hB : bm.contains (.type B) = true) (hA : bm.contains (.type "AttributeError") = false) (hN : bm.contains (.type "NameError") = false)
    {rest : List Value} {kw : List (Str × Value)} (hC : Stands h nm q C N bs bm hdct sn sub ab col dd k0 k1 k2 k3 k5 newId)
    (hq : R (.ok (.ret (.ref (h.objs.size + 1)))) ⟨(h.push (W.kdv_tup rest)).push (HandSPX.excO C h.objs.size), g, d, t, os⟩) (hrest : rest.length ≤ sizeLine) :
    codeAny (model prog w) A (.builtin newId ⟨.ref C :: rest, kw⟩) R ⟨h, g, d, t, os⟩ := by
  have ends := F.ends
  have i1 : (Value.ref C :: bm).contains (.type B) = true := by
    rw [List.contains_cons, hB, Bool.or_true]
  have i2 : (Value.ref C :: bm).contains (.type "AttributeError") = false := by
    rw [List.contains_cons, hA]; rfl
  have i3 : (Value.ref C :: bm).contains (.type "NameError") = false := by
    rw [List.contains_cons, hN]; rfl
  refine codeAny_builtinAt F.entry ?_
  unfold Builtin.«BaseException.__new__»
  refine PySem.wpAt_bind ?_
  show PySem.wpAt _ _ _ (PySem.stack >>= _) _ _ _
  refine PySem.wpAt_bind (PySem.wpAt_stack fun p below => PySem.wpAt_of_wpAny ?_)
  wp_walk
  refine PySem.wpAt_of_wpAny ?_
  rw [F.owner]
  repeat (first
    | with_reducible refine wpAny_madeHere_exc F.canon hC ?_
    | with_reducible refine wpAny_loadPart_at hC ?_
    | (with_reducible refine wpAny_isSubtype_exc hC ?_
       first | rw [i1] | rw [i2] | rw [i3])
    | wp_step)
  show R _ _
  rw [Heap.size_push]
  exact hq
theorem tcallG (F : ExcBaseFacts B newId initId bmF) (hB : bm.contains (.type B) = true) (hA : bm.contains (.type "AttributeError") = false) (hN : bm.contains (.type "NameError") = false)
    {rest : List Value} {kw : List (Str × Value)} {fI : Addr} {Q : Fin → Shared → Prop} (hC : Stands h nm q C N bs bm hdct sn sub ab col dd k0 k1 k2 k3 k5 newId)
    (hi : W.Looks (model prog w) h (typeLookup (.ref C) "__init__") (some (.ref fI))) (hb : ∀ self, W.Looks (model prog w) h (bindSpecial (.ref fI) self) (.ref fI, [self])) (hrest : rest.length ≤ sizeLine)
    (hq : codeAny (model prog w) A (.call (.ref fI) ⟨.ref (h.objs.size + 1) :: rest, kw⟩)
      (fun r s' => match r with
        | .ok (.ret v) => v = .none ∧ Q (.done (.ret (.ref (h.objs.size + 1)))) s'
        | .ok _ => False
        | .error e => E e s')
      ⟨(h.push (W.kdv_tup rest)).push (HandSPX.excO C h.objs.size), g, d, t, os⟩) :
    wpAny (model prog w) A (Builtin.«type.__call__» ⟨.ref C :: rest, kw⟩) Q E ⟨h, g, d, t, os⟩ := by
  repeat (first
    | with_reducible refine wpAny_loadPart_at hC ?_
    | with_reducible refine wpAny_madeBy_exc hC ?_
    | wp_step)
  refine codeAny_call_builtin_code (Code.quiet_builtin _ F.quiet) (chkNew F hB hC ?_)
  refine newG F hB hA hN hC ?_ hrest
  show wpAny _ _ _ _ _ _
  have k : ∀ b o, h.get? b = some o → ((h.push (W.kdv_tup rest)).push (HandSPX.excO C h.objs.size)).get? b = some o := fun b o e =>
    Heap.get?_push_of_some _ (Heap.get?_push_of_some _ e)
  have hC1 := k _ _ hC
  have there : ((h.push (W.kdv_tup rest)).push (HandSPX.excO C h.objs.size)).get? (h.objs.size + 1) = some (HandSPX.excO C h.objs.size) := by
    heap_get
  have self : (Value.ref C :: bm).contains (.ref C) = true := by simp
  have j1 := hi.keeps k
  have j2 := (hb (.ref (h.objs.size + 1))).keeps k
  unfold isInstance
  repeat (first
    | with_reducible refine wpAny_loadPart_at there ?_
    | (with_reducible refine wpAny_isSubtype_exc hC1 ?_
       rw [self])
    | wp_step)
  show wpAny _ _ (typeLookup (.ref C) _) _ _ _
  refine j1.at ?_
  refine wpAny_holding (wpAny_bind (j2.at ?_))
  refine wpAny_bind (wpAny_call (codeAny_mono hq fun r s' z => ?_))
  rcases r with e | (v | _ | _ | _) <;> first | exact z | exact z.elim | skip
  obtain ⟨rfl, z⟩ := z
  first
    | exact wpAny_pure (wpAny_pure z)
    | (wp_walk; exact z)
theorem callG (F : ExcBaseFacts B newId initId bmF) (hB : bm.contains (.type B) = true) (hA : bm.contains (.type "AttributeError") = false) (hN : bm.contains (.type "NameError") = false)
    {rest : List Value} {kw : List (Str × Value)} {fI : Addr} (hC : Stands h nm q C N bs bm hdct sn sub ab col dd k0 k1 k2 k3 k5 newId)
    (hi : W.Looks (model prog w) h (typeLookup (.ref C) "__init__") (some (.ref fI))) (hb : ∀ self, W.Looks (model prog w) h (bindSpecial (.ref fI) self) (.ref fI, [self])) (hrest : rest.length ≤ sizeLine)
    (hq : codeAny (model prog w) (A.under (.builtin "type.__call__" ⟨.ref C :: rest, kw⟩)) (.call (.ref fI) ⟨.ref (h.objs.size + 1) :: rest, kw⟩) (W.InitBack (h.objs.size + 1) R)
      ⟨(h.push (W.kdv_tup rest)).push (HandSPX.excO C h.objs.size), g, d, t, os⟩) :
    codeAny (model prog w) A (.call (.ref C) ⟨rest, kw⟩) R ⟨h, g, d, t, os⟩ := by
  have f1 := tc_lookup
  have f2 := tc_bind (.ref C)
  have isT : (⟨h, g, d, t, os⟩ : Shared).TypeIs (.ref C) "type" := ⟨_, hC, rfl⟩
  refine codeAny_of_tree ?_
  show wpAny _ _ (callAny (.ref C) _) _ _ _
  repeat (any_goals (first
    | assumption
    | with_reducible refine wpAny_loadPart_at hC ?_
    | wp_step))
  refine ⟨rfl, ?_⟩
  refine codeAny_call_builtin_at (Code.quiet_builtin _ (by decide +kernel)) entry_typeCall (wpAny_check_type_call_sub hC (tcallG F hB hA hN hC hi hb hrest ?_))
  refine codeAny_mono hq fun r s' z => ?_
  rcases r with e | (v | _ | _ | _) <;> exact z
end
end KX

set_option Elab.async false
set_option linter.all false
set_option maxRecDepth 100000
set_option maxHeartbeats 4000000
namespace KX
open PySem PySem.Spec PyProof.Rows L2
open Builtin.ObjectAttr (storeInOwnDict ownDictForStores)
open PySem.W (Frag findIn subIn typeIn keepIn hasDictIn mroIn specialIn takesIn excInitIn excOver clsIn takerIn)
/-! ### a class of errors, as the written part has it -/
structure XC (K : Frag) (C : Addr) : Prop where
  kd : ∃ bmB newId, Kd bmB newId ∧ excInitIn K C bmB newId = true ∧ excOver K C bmB = true
  sa : findIn K (.ref C) "__setattr__" = some (some (.builtin "object.__setattr__"))
  ga : findIn K (.ref C) "__getattribute__" = some (some (.builtin "BaseException.__getattribute__"))
  gg : findIn K (.ref C) "__getattr__" = some none
  ex : subIn K (.ref C) (.type "BaseException") = some true
  ty : typeIn K (.ref C) = some (.type "type")
  kp : keepIn K (.ref C) = true
  hd : hasDictIn K C = true
  cl : findIn K (.ref C) "__class__" = some (some (.builtin "object.__class__"))
  gt : specialIn K (.builtin "object.__class__") "__get__" = some (some (.builtin "getset_descriptor.__get__"))
  st : takesIn K (.builtin "object.__class__") = some true
  ob : mroIn K C (.type "object") = some true
def xcB (K : Frag) (C : Addr) (bmB : List Value) (newId : String) : Bool :=
  excInitIn K C bmB newId && (excOver K C bmB && (decide (findIn K (.ref C) "__setattr__" = some (some (.builtin "object.__setattr__")))
    && (decide (findIn K (.ref C) "__getattribute__" = some (some (.builtin "BaseException.__getattribute__"))) && (decide (findIn K (.ref C) "__getattr__" = some none)
    && (decide (subIn K (.ref C) (.type "BaseException") = some true) && (decide (typeIn K (.ref C) = some (.type "type")) && (keepIn K (.ref C) && (hasDictIn K C
    && (decide (findIn K (.ref C) "__class__" = some (some (.builtin "object.__class__"))) && (decide (specialIn K (.builtin "object.__class__") "__get__" = some (some (.builtin "getset_descriptor.__get__")))
    && (decide (takesIn K (.builtin "object.__class__") = some true) && decide (mroIn K C (.type "object") = some true))))))))))))
theorem xcB_ok {K : Frag} {C : Addr} {bmB : List Value} {newId : String} (k : Kd bmB newId) (h : xcB K C bmB newId = true) : XC K C := by
  unfold xcB at h
  simp only [Bool.and_eq_true, decide_eq_true_eq] at h
  obtain ⟨h1, h2, h3, h4, h5, h6, h7, h8, h9, h10, h11, h12, h13⟩ := h
  exact ⟨⟨_, _, k, h1, h2⟩, h3, h4, h5, h6, h7, h8, h9, h10, h11, h12, h13⟩
/-! ### self.name = v -/
section
variable {prog : Program} {w : World} {A : Around} {R : Result → Shared → Prop} {hp : Heap} {g : Array GenState} {d : Drawn} {t : Nat} {os : OsState}
theorem osaNew {K : Frag} {name : Str} {tk : Tok} {v : Value} {x C : Addr} {fv : Array Value} {S : String} {bmB : List Value} (SF : StoreFacts S bmB "object.__setattr__" "object")
    (X : K.In hp) (hx : hp.get? x = some { cls := .ref C, data := .fields fv }) (ov : excOver K C bmB = true) (hh : hasDictIn K C = true) (ha : findIn K (.ref C) name = some none)
    (hq : ∀ h' tk' dx, (∀ b o, b ≠ x → hp.get? b = some o → h'.get? b = some o) → hp.objs.size ≤ dx → dx ≠ x →
      h'.get? x = some { cls := .ref C, dict := some dx, data := .fields fv } → h'.Ns1 dx (fun y => if y = name then some v else none) → R (.ok (.ret .none)) ⟨h', g, d, tk', os⟩) :
    codeAny (model prog w) A (.call (.builtin "object.__setattr__") ⟨[.ref x, .str name tk, v], []⟩) R ⟨hp, g, d, t, os⟩ := by
  have hxs : x ≠ hp.objs.size := Nat.ne_of_lt (Heap.lt_size hx)
  have tkr : takerIn K C name = some none := by
    unfold PySem.W.takerIn
    rw [ha]
    rfl
  refine PySem.W.osa_openX (s := ⟨hp, g, d, t, os⟩) (od := none) SF X ⟨hx, rfl, rfl, trivial⟩ ov tkr fun b => ?_
  obtain ⟨cd, hcd, hdd⟩ := PySem.W.any_some hh
  have hcls : PySem.W.Looks (model prog w) hp (classData C) cd := PySem.W.looks_clsIn X hcd
  show wpAny _ _ (storeInOwnDict (.ref x) (.ref C) (.str name tk) name v b) _ _ _
  obtain ⟨nm, bs, mro, ns, qn, hd, sn, sb, ab, col, del⟩ := cd
  dsimp only at hdd
  subst hdd
  unfold storeInOwnDict ownDictForStores
  repeat (first
    | with_reducible refine HandSPX.store_in_new ?_ ?_
    | with_reducible refine wpAny_loadPart_at hx ?_
    | with_reducible refine hcls.at ?_
    | wp_step)
  · exact ⟨_, #[], _, (Heap.get?_update_ne _ _ _ _ hxs.symm).trans (Heap.get?_push_at rfl rfl), rfl, fun e he => absurd he (by simp), fun _ => rfl⟩
  · intro h' tk' hn' hs
    have hx1 : (hp.push { cls := .type "dict", data := .dict #[] }).get? x = some { cls := .ref C, data := .fields fv } := Heap.get?_push_of_some _ hx
    refine hq h' tk' hp.objs.size (fun b o hb ho => ?_) (Nat.le_refl _) hxs.symm ?_ hn'
    · refine (hs.2 b (Nat.ne_of_lt (Heap.lt_size ho))).trans ?_
      exact (Heap.get?_update_ne _ _ _ _ hb).trans (Heap.get?_push_of_some _ ho)
    · exact (hs.2 x hxs).trans (Heap.get?_update_self _ hx1 rfl)
theorem osaOld {K : Frag} {name : Str} {tk : Tok} {v : Value} {x C dx : Addr} {fv : Array Value} {m0 : Str → Option Value} {nl : List Str} {S : String} {bmB : List Value} (SF : StoreFacts S bmB "object.__setattr__" "object")
    (X : K.In hp) (hx : hp.get? x = some { cls := .ref C, dict := some dx, data := .fields fv }) (hns : hp.Ns1 dx m0) (hw : Within m0 nl) (hz : nl.length ≤ 1000)
    (ov : excOver K C bmB = true) (hh : hasDictIn K C = true) (ha : findIn K (.ref C) name = some none)
    (hq : ∀ h' tk', (∀ b o, b ≠ dx → hp.get? b = some o → h'.get? b = some o) → h'.Ns1 dx (fun y => if y = name then some v else m0 y) → R (.ok (.ret .none)) ⟨h', g, d, tk', os⟩) :
    codeAny (model prog w) A (.call (.builtin "object.__setattr__") ⟨[.ref x, .str name tk, v], []⟩) R ⟨hp, g, d, t, os⟩ := by
  obtain ⟨oD, esD, epD, hoD, hdD, _⟩ := hns.count hw
  have tkr : takerIn K C name = some none := by
    unfold PySem.W.takerIn
    rw [ha]
    rfl
  refine PySem.W.osa_openX (s := ⟨hp, g, d, t, os⟩) (od := some oD) SF X ⟨hx, rfl, rfl, hoD⟩ ov tkr fun b => ?_
  obtain ⟨cd, hcd, hdd⟩ := PySem.W.any_some hh
  have hcls : PySem.W.Looks (model prog w) hp (classData C) cd := PySem.W.looks_clsIn X hcd
  show wpAny _ _ (storeInOwnDict (.ref x) (.ref C) (.str name tk) name v b) _ _ _
  obtain ⟨nm, bs, mro, ns, qn, hd, sn, sb, ab, col, del⟩ := cd
  dsimp only at hdd
  subst hdd
  unfold storeInOwnDict ownDictForStores
  repeat (first
    | with_reducible refine OEX.store_in_old hns hw hz ?_
    | with_reducible refine wpAny_loadPart_at hx ?_
    | with_reducible refine hcls.at ?_
    | wp_step)
  intro h' tk' hn' hs
  exact hq h' tk' (fun b o hb ho => (hs.2 b hb).trans ho) hn'
end
end KX

set_option Elab.async false
set_option linter.all false
set_option maxRecDepth 100000
set_option maxHeartbeats 4000000
namespace KX
open PySem PySem.Spec PyProof.Rows L2
open PySem.W (Frag findIn subIn typeIn keepIn hasDictIn mroIn specialIn takesIn excInitIn excOver clsIn takerIn)
/-! ### stores, reads, isinstance, over the abstract heap -/
section
variable {X : Cx} {pins : List (Addr × Obj)} {σ : L2.St} {H : Hp} {s : Shared} {a C dx : Addr} {f : Str} {y : V} {u : Value} {fs : List (Str × V)} {E : Value → Shared → Prop} {A : Around}
theorem unTwo {hp h' : Heap} {dx : Addr} (e : H a = some (exo a C none)) (hnd : H dx = none) (dn : hp.objs.size ≤ dx) (k : ∀ b o, b ≠ a → hp.get? b = some o → h'.get? b = some o)
    (hx : ∃ o, h'.get? a = some o) : Un X.fs [] H (upd (upd H dx (exd dx fs)) a (exo a C (some dx))) hp h' := by
  have fresh : ∀ {b : Addr} {o : Obj}, hp.get? b = some o → b ≠ dx := fun q => Nat.ne_of_lt (Nat.lt_of_lt_of_le (Heap.lt_size q) dn)
  have off : ∀ {b : Addr}, H b = none → b ≠ a := fun n z => by
    rw [z, e] at n
    cases n
  constructor
  · exact fun b o q n _ _ => k b o (off n) q
  · exact fun b o q n _ _ => ⟨o.slots, k b o (off n) q⟩
  · intro b o q n _
    rw [upd_ne (off n), upd_ne (fresh q)]
    exact n
  · intro b o q _
    by_cases hb : b = a
    · rw [hb]
      exact hx
    · exact ⟨o, k b o hb q⟩
  · intro b xs q
    rw [upd_ne (at_ne e q exo_tup), upd_ne (ne_of_none q hnd)]
    exact q
  · intro b o v q
    rw [upd_ne (at_ne e q exo_frz), upd_ne (ne_of_none q hnd)]
    exact q
  · intro b ps q
    refine ⟨#[], ?_⟩
    rw [upd_ne (at_ne e q exo_tbl), upd_ne (ne_of_none q hnd), q]
    simp
theorem ostNew {Q : Unit → Shared → Prop} (T : XC X.K C) (I : Inv X pins σ H s) (e : H a = some (exo a C none)) (hno : findIn X.K (.ref C) f = some none) (ry : RelV y u)
    (h : ∀ dx s', H dx = none → dx ≠ a → Inv X pins σ (upd (upd H dx (exd dx [(f, y)])) a (exo a C (some dx))) s' → Q () s') :
    wpAny (model X.prog X.w) A (setAttr (.ref a) f u) Q E s := by
  obtain ⟨bmB, newId, ⟨_, S, SF⟩, _, ov⟩ := T.kd
  obtain ⟨t1, ho⟩ := exo_at I.hok e
  obtain ⟨hp, gs, dr, tk, os⟩ := s
  refine PySem.W.set_plain I.kIn (ox := HandSPX.excO C t1) (od := none) ⟨ho, rfl, rfl, trivial⟩ T.sa ?_
  refine osaNew SF I.kIn ho ov T.hd hno (fun h' tk' dx k dn dne hx hn => ?_)
  have hnd : H dx = none := I.hok.fresh dn
  refine h dx _ hnd dne (I.un (t' := tk') (unTwo e hnd dn k ⟨_, hx⟩) fun b o q => ?_)
  by_cases hb : b = a
  · subst hb
    rw [upd_same] at q
    cases q
    exact exo_ok hx
  · rw [upd_ne hb] at q
    by_cases hd : b = dx
    · subst hd
      rw [upd_same] at q
      cases q
      exact exd_ok hn (relO_put (fs := []) ry fun _ => True.intro)
    · rw [upd_ne hd] at q
      refine (I.hok b o q).stay (fun c v hc z => k c v ?_ z) (fun c hc => ?_) fun c xs hc => ?_
      · rcases hc with hc | hc
        · rw [hc]
          exact hb
        · exact at_ne e hc exo_own
      · rw [upd_ne (at_ne e hc exo_own), upd_ne (ne_of_none hc hnd)]
        exact hc
      · rw [upd_ne (at_ne e hc exo_tup), upd_ne (ne_of_none hc hnd)]
        exact hc
theorem ostOld {Q : Unit → Shared → Prop} (T : XC X.K C) (I : Inv X pins σ H s) (e : H a = some (exo a C (some dx))) (ed : H dx = some (exd dx fs)) (hl : fs.length ≤ 900) (hno : findIn X.K (.ref C) f = some none) (ry : RelV y u)
    (h : ∀ s', Inv X pins σ (upd H dx (exd dx ((f, y) :: fs))) s' → Q () s') :
    wpAny (model X.prog X.w) A (setAttr (.ref a) f u) Q E s := by
  obtain ⟨bmB, newId, ⟨_, S, SF⟩, _, ov⟩ := T.kd
  obtain ⟨t1, ho⟩ := exo_at I.hok e
  obtain ⟨mA, hns, rel⟩ := exd_at I.hok ed
  have hw := within_of rel
  obtain ⟨hp, gs, dr, tk, os⟩ := s
  obtain ⟨oD, _, _, hoD, _, _⟩ := hns.count hw
  refine PySem.W.set_plain I.kIn (ox := { HandSPX.excO C t1 with dict := some dx }) (od := some oD) ⟨ho, rfl, rfl, hoD⟩ T.sa ?_
  refine osaOld SF I.kIn ho hns hw (by rw [List.length_map]; omega) ov T.hd hno (fun h' tk' k hn => ?_)
  have there : ∃ o, h'.get? dx = some o := by
    obtain ⟨o, _, _, e', _⟩ := hn
    exact ⟨o, e'⟩
  refine h _ (I.write (t' := tk') (x := dx) (e := dx) (o := exd dx ((f, y) :: fs)) ?_ (.inl rfl) k there (exd_ok hn (relO_put ry rel)))
  rw [ed]
  exact True.intro
/-- at e: an error of the class at C whose dict holds fs | that has no dict -/
def ErD (H : Hp) (e C : Addr) (fs : List (Str × V)) : Prop := ∃ d, H e = some (exo e C (some d)) ∧ H d = some (exd d fs)
def Er0 (H : Hp) (e C : Addr) : Prop := H e = some (exo e C none)
def Er (H : Hp) (e C : Addr) : Prop := Er0 H e C ∨ ∃ fs, ErD H e C fs
theorem ErD.same {H H' : Hp} {e C : Addr} {fs : List (Str × V)} (k : Same H H') : ErD H e C fs → ErD H' e C fs := fun ⟨d, h1, h2⟩ => ⟨d, k _ _ h1, k _ _ h2⟩
theorem Er0.same {H H' : Hp} {e C : Addr} (k : Same H H') : Er0 H e C → Er0 H' e C := fun h => k _ _ h
theorem Er.same {H H' : Hp} {e C : Addr} (k : Same H H') : Er H e C → Er H' e C
  | .inl h => .inl (h.same k)
  | .inr ⟨fs, h⟩ => .inr ⟨fs, h.same k⟩
/-- an error as an instance -/
theorem Er.inst (I : Inv X pins σ H s) {e C : Addr} (h : Er H e C) : ∃ ox od, PySem.W.InstAt s.heap e ox C od := by
  rcases h with h | ⟨fs, d, h1, h2⟩
  · obtain ⟨t1, ho⟩ := exo_at I.hok h
    exact ⟨_, none, ho, rfl, rfl, trivial⟩
  · obtain ⟨t1, ho⟩ := exo_at I.hok h1
    obtain ⟨mA, hns, rel⟩ := exd_at I.hok h2
    obtain ⟨oD, _, _, hoD, _, _⟩ := hns.count (within_of rel)
    exact ⟨_, some oD, ho, rfl, rfl, hoD⟩
/-- isinstance(e, c), c one class -/
def rIsX (K : Frag) : List V → Hp → VK → Prop := fun xs H Q => ∃ (e C : Addr) (c : V) (cv : Value) (b : Bool), xs = [.ref e, c] ∧ Er H e C ∧ XC K C ∧ ClsV c cv ∧ PySem.W.kitOne K (.ref C) cv = some b ∧ Q (.bl b) H
theorem callIsX : CallR X (.builtin "isinstance") (rIsX X.K) := by
  intro pins s σ H xs us Q I r h
  obtain ⟨e, C, c, cv, b, rfl, he, T, hc, ans, q⟩ := h
  obtain ⟨u1, u2, rfl, r1, r2⟩ := vals2 r
  have e2 := hc.eq r2
  subst e2
  cases (show u1 = Value.ref e from r1)
  obtain ⟨ox, od, J⟩ := he.inst I
  have hcl : (clsIn X.K C).isSome = true := by
    obtain ⟨cd, hcd, _⟩ := PySem.W.any_some T.hd
    rw [hcd]
    rfl
  exact PySem.W.kia_one (PySem.W.kitx_exc hcl T.ga T.gg T.ex T.cl T.gt T.st T.ob) I.kIn J ans (fun z => nomatch z) fun tk => ⟨.bl b, H, I.tok tk, rfl, q⟩
/-- e.f, e an error that is held -/
def tXfld (K : Frag) (f : Str) (te : TE) : TE := fun σ H Q => te σ H fun x H1 => ∃ (e C : Addr) (fs : List (Str × V)) (v : V), x = .ref e ∧ ErD H1 e C fs ∧ XC K C ∧ findIn K (.ref C) f = some none ∧ fs.lookup f = some v ∧ Q v H1
theorem peXfld {o : Expr} {te : TE} {pos : Pos} (ho : PE X o te) (hb : attributeBase o f X.env (eval o X.env) = eval o X.env := by rfl) : PE X (.Attribute o f pos) (tXfld X.K f te) := by
  refine ⟨fun pins s σ H Q I h => ?_⟩
  refine attr_of hb (thn (ho.run pins s σ H _ I h) fun w s1 hh => ?_)
  obtain ⟨x, H1, I1, rx, e, C, fs, v, ex, ⟨d, h1, h2⟩, T, hno, l, q⟩ := hh
  subst ex
  cases (show w = Value.ref e from rx)
  obtain ⟨t1, he⟩ := exo_at I1.hok h1
  obtain ⟨mA, hns, rel⟩ := exd_at I1.hok h2
  obtain ⟨od, hod, hl⟩ := lookIn_ns hns
  obtain ⟨u, hu, ru⟩ := RelO.some_of (v := v) (o := mA f) (by rw [← l]; exact rel f)
  have J : PySem.W.InstAt s1.heap e { HandSPX.excO C t1 with dict := some d } C (some od) := ⟨he, rfl, rfl, hod⟩
  exact HandSPX.exc_get I1.kIn J T.ga T.gg T.ex (PySem.W.findObj_own T.hd hno rfl (by rw [hl, hu])) (handed_of ru) ⟨v, H1, I1.tok _, ru, q⟩
/-- self.f = e -/
def tOstX (K : Frag) (f : Str) (to te : TE) : TS := fun D σ H => te σ H fun y H1 => to σ H1 fun x H2 => ∃ a C : Addr, x = .ref a ∧ XC K C ∧ findIn K (.ref C) f = some none ∧
  ((H2 a = some (exo a C none) ∧ ∀ dx, H2 dx = none → dx ≠ a → D.nx σ (upd (upd H2 dx (exd dx [(f, y)])) a (exo a C (some dx)))) ∨
    ∃ (dx : Addr) (fs : List (Str × V)), H2 a = some (exo a C (some dx)) ∧ H2 dx = some (exd dx fs) ∧ fs.length ≤ 900 ∧ D.nx σ (upd H2 dx (exd dx ((f, y) :: fs))))
theorem psOstX {o e : Expr} {to te : TE} {p' pos : Pos} (ho : PE X o to) (he : PE X e te) (hs : swapsWith e (some (.Attribute o f p')) pos.line X.env = pure false := by rfl) : PS X (.Assign [.Attribute o f p'] e pos) (tOstX X.K f to te) := by
  refine ⟨fun pins s σ H D I h => ?_⟩
  refine plainObj_wpAny_Assign_Attribute (thn (he.run pins s σ H _ I h) fun v s1 ⟨y, H1, I1, r1, q1⟩ => ?_) hs
  refine thn (ho.run pins s1 σ H1 _ I1 q1) fun u s2 ⟨x, H2, I2, r2, a, C, ex, T, hno, q⟩ => ?_
  subst ex
  cases (show u = Value.ref a from r2)
  rcases q with ⟨ea, q⟩ | ⟨dx, fs, ea, ed, hl, q⟩
  · exact ostNew T I2 ea hno r1 fun dx s' n ne J => ⟨σ, _, J, q dx n ne⟩
  · exact ostOld T I2 ea ed hl hno r1 fun s' J => ⟨σ, _, J, q⟩
end
end KX

set_option Elab.async false
set_option linter.all false
set_option maxRecDepth 100000
set_option maxHeartbeats 4000000
namespace KX
open PySem PySem.Spec PyProof.Rows L2
open PySem.W (Frag findIn subIn typeIn keepIn hasDictIn mroIn specialIn takesIn excInitIn excOver clsIn takerIn)
/-! ### C(e, ..), an error with an __init__ of its own -/
section
variable {X : Cx} {CX : CXT} {k n : Nat} {fI C : Addr} {fd : FuncData} {ps ks : List Str} {sp : Sp} {g : List Value → List Value → List Value} {gV : List V → List V → List V}
variable {pins : List (Addr × Obj)} {σ : L2.St} {H : Hp} {s : Shared} {us ws : List Value} {vs zs : List V}
/-- the making, down to the __init__: R what is wanted of its end -/
theorem mkRun {R : Value → Shared → Prop} {Er' : Value → Shared → Prop} {E : XK} {Qi : Addr → VK} (T : XC X.K C) (iC : findIn X.K (.ref C) "__init__" = some (some (.ref fI))) (tI : typeIn X.K (.ref fI) = some (.type "function"))
    (F : FnOk X.prog X.w X.K X.mg X.base CX k fI fd ps sp) (hr : Room (k + 1) X.A) (hb : KBn X.K fd ps (n + 1) ks g gV) (I : Inv X pins σ H s) (r : Vals vs us) (rz : Vals zs ws)
    (l1 : vs.length = n) (l2 : zs.length = ks.length) (small : n ≤ 1000)
    (h : ∀ a, H a = none → s.heap.objs.size ≤ a → sp (gV (.ref a :: vs) zs) (upd H a (exo a C none)) (Qi a) E)
    (q : ∀ a t' h0 r' s', H a = none → s.heap.objs.size ≤ a → (∀ b o, s.heap.get? b = some o → h0.get? b = some o) → Inv X pins σ (upd H a (exo a C none)) { s with heap := h0, toks := t' } →
      CR CX X.stack X.prog X.w (upd H a (exo a C none)) { s with heap := h0, toks := t' } (Qi a) E r' s' →
      W.InitBack a (fun r s' => match r with | .ok (.ret v) => R v s' | .ok _ => False | .error e => Er' e s') r' s') :
    wpAny (model X.prog X.w) X.A (call (.ref C) us (ks.zip ws)) R Er' s := by
  obtain ⟨bmB, newId, ⟨⟨B, initId, bmF, F0, hB, hA, hN⟩, _⟩, qI, _⟩ := T.kd
  obtain ⟨nm, N, qn, bs, bm, hdct, sn, sub, ab, col, dd, k0, k1, k2, k3, k5, hC, hT⟩ := PySem.W.excInit_of I.kIn qI
  obtain ⟨hp, gs, dr, tk, os⟩ := s
  have hsz : hp.objs.size ≤ hp.objs.size + 1 := Nat.le_succ _
  have free : H (hp.objs.size + 1) = none := I.hok.fresh hsz
  have hq := h (hp.objs.size + 1) free hsz
  have kk : ∀ b o, hp.get? b = some o → ((hp.push (PySem.W.kdv_tup us)).push (HandSPX.excO C hp.objs.size)).get? b = some o := fun b o e =>
    Heap.get?_push_of_some _ (Heap.get?_push_of_some _ e)
  have there : ((hp.push (PySem.W.kdv_tup us)).push (HandSPX.excO C hp.objs.size)).get? (hp.objs.size + 1) = some (HandSPX.excO C hp.objs.size) := by
    heap_get
  have I2 : Inv X pins σ (upd H (hp.objs.size + 1) (exo (hp.objs.size + 1) C none)) ⟨(hp.push (PySem.W.kdv_tup us)).push (HandSPX.excO C hp.objs.size), gs, dr, tk, os⟩ :=
    I.laid (t' := tk) (a := hp.objs.size + 1) (o := exo (hp.objs.size + 1) C none) kk hsz (exo_ok there)
  have r1 : Vals (V.ref (hp.objs.size + 1) :: vs) (Value.ref (hp.objs.size + 1) :: us) := .cons rfl r
  have r2 := hb.rel r1 rz
  have e1 : (Value.ref (hp.objs.size + 1) :: us).length = n + 1 := r1.length.symm.trans (congrArg Nat.succ l1)
  have e2 : ws.length = ks.length := rz.length.symm.trans l2
  have lus : us.length ≤ sizeLine := by
    rw [← Paired.length r, sizeLine_eq]
    omega
  refine wpAny_call (callG F0 (by rw [hT]; exact hB) (by rw [hT]; exact hA) (by rw [hT]; exact hN) hC (PySem.W.looks_findIn I.kIn iC) (fun self => PySem.W.bind_fn I.kIn self tI) lus ?_)
  refine codeAny_mono (F.run _ X.stack _ _ ⟨Value.ref (hp.objs.size + 1) :: us, ks.zip ws⟩ (g (Value.ref (hp.objs.size + 1) :: us) ws) _ _ E (hr.make C us (ks.zip ws)) (I2.env0.make C us (ks.zip ws)) (hb.to _ _ ws I2.kIn e1 e2) r2 hq) fun r' s' z => ?_
  exact q _ tk _ r' s' free hsz kk I2 z
theorem runMkX {Q : VK} {E : XK} (T : XC X.K C) (iC : findIn X.K (.ref C) "__init__" = some (some (.ref fI))) (tI : typeIn X.K (.ref fI) = some (.type "function"))
    (F : FnOk X.prog X.w X.K X.mg X.base CX k fI fd ps sp) (hr : Room (k + 1) X.A) (hb : KBn X.K fd ps (n + 1) ks g gV) (hx : Passes CX X E) (I : Inv X pins σ H s) (r : Vals vs us) (rz : Vals zs ws)
    (l1 : vs.length = n) (l2 : zs.length = ks.length) (small : n ≤ 1000)
    (h : ∀ a, H a = none → sp (gV (.ref a :: vs) zs) (upd H a (exo a C none)) (fun v H2 => v = .non ∧ Q (.ref a) H2) E) :
    wpAny (model X.prog X.w) X.A (call (.ref C) us (ks.zip ws)) (EP X pins σ Q) X.xe s := by
  refine mkRun (Qi := fun a v H2 => v = .non ∧ Q (.ref a) H2) T iC tI F hr hb I r rz l1 l2 small (E := E) (fun a ha _ => h a ha) ?_
  intro a t' h0 r' s' _ _ _ I2 z
  cases r' with
  | error e => exact hx pins σ _ _ e s' I2 z
  | ok fl =>
    cases fl with
    | ret u =>
      obtain ⟨v, H', I3, rv, ev, q3⟩ := I2.after z
      subst ev
      exact ⟨rv, ⟨V.ref a, H', I3, rfl, q3⟩⟩
    | next => exact False.elim z
    | brk => exact False.elim z
    | cont => exact False.elim z
theorem runMkE {Q : XK} (T : XC X.K C) (iC : findIn X.K (.ref C) "__init__" = some (some (.ref fI))) (tI : typeIn X.K (.ref fI) = some (.type "function"))
    (F : FnOk X.prog X.w X.K X.mg X.base CX k fI fd ps sp) (hr : Room (k + 1) X.A) (hb : KBn X.K fd ps (n + 1) ks g gV) (hx : Passes CX X (fun _ _ _ => False)) (I : Inv X pins σ H s) (r : Vals vs us) (rz : Vals zs ws)
    (l1 : vs.length = n) (l2 : zs.length = ks.length) (small : n ≤ 1000)
    (h : ∀ a, H a = none → sp (gV (.ref a :: vs) zs) (upd H a (exo a C none)) (fun v H2 => v = .non ∧ ∃ (d : Addr) (fs : List (Str × V)), H2 a = some (exo a C (some d)) ∧ H2 d = some (exd d fs) ∧ H d = none ∧ Q (.ref C) (some d) (upd (del H2 a) d (.xd fs))) (fun _ _ _ => False)) :
    wpAny (model X.prog X.w) X.A (call (.ref C) us (ks.zip ws)) (MkP X pins σ Q) X.xe s := by
  refine mkRun (Qi := fun a v H2 => v = .non ∧ ∃ (d : Addr) (fs : List (Str × V)), H2 a = some (exo a C (some d)) ∧ H2 d = some (exd d fs) ∧ H d = none ∧ Q (.ref C) (some d) (upd (del H2 a) d (.xd fs)))
    T iC tI F hr hb I r rz l1 l2 small (fun a ha _ => h a ha) ?_
  intro a t' h0 r' s' _ ge kk I2 z
  cases r' with
  | error e => exact hx pins σ _ _ e s' I2 z
  | ok fl =>
    cases fl with
    | ret u =>
      obtain ⟨v, H2, os2, bare2, un2, hok2, rv, ev, d, fs, ea, ed, hd1, q2⟩ := z
      subst ev
      obtain ⟨hp, g1, d1, t1, o1⟩ := s
      obtain ⟨h2, g2, d2, t2, os'⟩ := s'
      exact ⟨rv, mk_end (raises_own T.ex T.ty) I ge kk un2 hok2 os2 bare2 ea ed hd1 q2⟩
    | next => exact False.elim z
    | brk => exact False.elim z
    | cont => exact False.elim z
end
end KX

set_option Elab.async false
set_option linter.all false
set_option maxRecDepth 100000
set_option maxHeartbeats 4000000
namespace KX
open PySem PySem.Spec PyProof.Rows L2
open PySem.W (Frag findIn subIn typeIn keepIn hasDictIn mroIn specialIn takesIn excInitIn excOver clsIn takerIn)
theorem sameUpd {H : Hp} {p : Addr} {o : HO} (h : H p = none) : Same H (upd H p o) := fun b x e => by
  rw [upd_ne (ne_of_none e h)]
  exact e
/-- __init__(self, f): self.f = f -/
def spIni (K : Frag) (f : Str) : Sp := fun vs H Q _ => ∃ (a C : Addr) (v : V), vs = [.ref a, v] ∧ XC K C ∧ findIn K (.ref C) f = some none ∧ H a = some (exo a C none) ∧
  ∀ dx, H dx = none → dx ≠ a → Q .non (upd (upd H dx (exd dx [(f, v)])) a (exo a C (some dx)))
def spIni2 (K : Frag) (f f2 : Str) : Sp := fun vs H Q _ => ∃ (a C : Addr) (v v2 : V), vs = [.ref a, v, v2] ∧ XC K C ∧ findIn K (.ref C) f = some none ∧ findIn K (.ref C) f2 = some none ∧ H a = some (exo a C none) ∧
  ∀ dx H', Same H (upd H' a (exo a C none)) → H' a = some (exo a C (some dx)) → H' dx = some (exd dx [(f2, v2), (f, v)]) → H dx = none → Q .non H'
section
variable {P : Program} {w : World} {K : Frag} {mg : Str → Option Value} {base : Heap} {fI : Addr} {fd : FuncData} {q f f2 : Str} {params : Arguments} {scope : Scope}
theorem okIni {p1 p2 p3 p4 : Pos} (Fd : FunD K "__init__" q params [.Assign [.Attribute (.Name "self" p1) f p2] (.Name f p3) p4] scope [] [] fI fd) (S : FnScope ["self", f] ["self", f] scope)
    (v0 : scope.names.lookup ("self" : Str) = some .local) (v1 : scope.names.lookup f = some .local) (d1 : (f == ("__debug__" : Str)) = false) (d2 : (f == ("__classdict__" : Str)) = false) :
    FnOk P w K mg base CX0 1 fI fd ["self", f] (spIni K f) := by
  refine Fd.ok S (fun vs H Q E h => ?_) (fun cdv A outer s H vs Q E hr h => ?_)
  · obtain ⟨a, C, v, rfl, _⟩ := h
    rfl
  · refine ⟨_, PSs.nox (pss_one (psOstX (pe_var (i := 0) rfl (.inl v0)) (pe_var (i := 1) rfl (.inl v1) d1 d2))), ?_⟩
    obtain ⟨a, C, v, rfl, T, hno, ha, k⟩ := h
    exact ⟨v, rfl, .ref a, rfl, a, C, rfl, T, hno, .inl ⟨ha, fun dx n ne => k dx n ne⟩⟩
theorem okIni2 {p1 p2 p3 p4 q1 q2 q3 q4 : Pos} (Fd : FunD K "__init__" q params [.Assign [.Attribute (.Name "self" p1) f p2] (.Name f p3) p4, .Assign [.Attribute (.Name "self" q1) f2 q2] (.Name f2 q3) q4] scope [] [] fI fd)
    (S : FnScope ["self", f, f2] ["self", f, f2] scope)
    (v0 : scope.names.lookup ("self" : Str) = some .local) (v1 : scope.names.lookup f = some .local) (v2 : scope.names.lookup f2 = some .local) (d1 : (f == ("__debug__" : Str)) = false) (d2 : (f == ("__classdict__" : Str)) = false)
    (d3 : (f2 == ("__debug__" : Str)) = false) (d4 : (f2 == ("__classdict__" : Str)) = false) : FnOk P w K mg base CX0 1 fI fd ["self", f, f2] (spIni2 K f f2) := by
  refine Fd.ok S (fun vs H Q E h => ?_) (fun cdv A outer s H vs Q E hr h => ?_)
  · obtain ⟨a, C, v, w, rfl, _⟩ := h
    rfl
  · refine ⟨_, PSs.nox (pss_cons (psOstX (pe_var (i := 0) rfl (.inl v0)) (pe_var (i := 1) rfl (.inl v1) d1 d2)) (pss_one (psOstX (pe_var (i := 0) rfl (.inl v0)) (pe_var (i := 2) rfl (.inl v2) d3 d4)))), ?_⟩
    obtain ⟨a, C, v, w, rfl, T, hno, hno2, ha, k⟩ := h
    refine ⟨v, rfl, .ref a, rfl, a, C, rfl, T, hno, .inl ⟨ha, fun dx n ne => ?_⟩⟩
    refine ⟨w, rfl, .ref a, rfl, a, C, rfl, T, hno2, .inr ⟨dx, [(f, v)], upd_same, ?_, (by show 1 ≤ 900; decide), ?_⟩⟩
    · rw [upd_ne ne, upd_same]
    · refine k dx _ (fun b o e => ?_) ?_ upd_same n
      · by_cases hb : b = a
        · rw [hb, upd_same, ← ha, ← hb, e]
        · have hd : b ≠ dx := ne_of_none e n
          rw [upd_ne hb, upd_ne hd, upd_ne hb, upd_ne hd]
          exact e
      · rw [upd_ne (Ne.symm ne), upd_same]
end
/-- the class x of errors with one field f; with two | with none of its own -/
structure Cl1 (P : Program) (w : World) (K : Frag) (mg : Str → Option Value) (base : Heap) (x : Str) (C : Addr) (f : Str) : Prop where
  xc : XC K C
  gm : mg x = some (.ref C)
  no : findIn K (.ref C) f = some none
  ini : ∃ fI fd, findIn K (.ref C) "__init__" = some (some (.ref fI)) ∧ typeIn K (.ref fI) = some (.type "function") ∧ FnOk P w K mg base CX0 1 fI fd ["self", f] (spIni K f) ∧
    KBn K fd ["self", f] 2 [] (fun us _ => us) (fun vs _ => vs) ∧ KBn K fd ["self", f] 1 [f] (fun us ws => us ++ ws) (fun vs zs => vs ++ zs)
structure Cl2 (P : Program) (w : World) (K : Frag) (mg : Str → Option Value) (base : Heap) (x : Str) (C : Addr) (f f2 : Str) : Prop where
  xc : XC K C
  gm : mg x = some (.ref C)
  no : findIn K (.ref C) f = some none
  no2 : findIn K (.ref C) f2 = some none
  ini : ∃ fI fd, findIn K (.ref C) "__init__" = some (some (.ref fI)) ∧ typeIn K (.ref fI) = some (.type "function") ∧ FnOk P w K mg base CX0 1 fI fd ["self", f, f2] (spIni2 K f f2) ∧
    KBn K fd ["self", f, f2] 3 [] (fun us _ => us) (fun vs _ => vs) ∧ KBn K fd ["self", f, f2] 1 [f2, f] (fun us ws => us ++ ws.reverse) (fun vs zs => vs ++ zs.reverse)
structure Cl0 (K : Frag) (mg : Str → Option Value) (x : Str) (C : Addr) : Prop where
  xc : XC K C
  gm : mg x = some (.ref C)
  own : PySem.W.excIn K C veB "ValueError.__new__" = true
section
variable {X : Cx} {C : Addr} {x f f2 : Str} {p pos : Pos} {e e2 : Expr} {te : TE} {ta : TA} {k1 k2 : Pos}
/-- C(e) -/
def tMk1 (C : Addr) (f : Str) (ta : TA) : TE := fun σ H Q => ta σ H fun vs H1 => ∃ v, vs = [v] ∧ ∀ a H2, H1 a = none → Same H1 H2 → ErD H2 a C [(f, v)] → Q (.ref a) H2
theorem mk1_end {H1 : Hp} {Q : VK} {v : V} (T : XC X.K C) (no : findIn X.K (.ref C) f = some none) (q : ∀ a H2, H1 a = none → Same H1 H2 → ErD H2 a C [(f, v)] → Q (.ref a) H2) (a : Addr) (ha : H1 a = none) :
    spIni X.K f [.ref a, v] (upd H1 a (exo a C none)) (fun v H2 => v = .non ∧ Q (.ref a) H2) E0 := by
  refine ⟨a, C, v, rfl, T, no, upd_same, fun dx hdx hne => ⟨rfl, ?_⟩⟩
  have n1 : H1 dx = none := by
    rw [upd_ne hne] at hdx
    exact hdx
  refine q a _ ha (fun b o hb => ?_) ⟨dx, upd_same, ?_⟩
  · have b1 := ne_of_none hb ha
    have b2 := ne_of_none hb n1
    rw [upd_ne b1, upd_ne b2, upd_ne b1]
    exact hb
  · rw [upd_ne hne, upd_same]
theorem peMk1 (T : Cl1 X.prog X.w X.K X.mg X.base x C f) (hr : Room 2 X.A) (hg : Gl X x) (ha : PA X [e] ta) (hdb : (x == ("__debug__" : Str)) = false := by decide)
    (he : starEach [e] X.env = (false, eval e X.env) :: starEach [] X.env := by rfl) (hpl : (backTo pos (starEach [] X.env)).any (·.1) = false := by rfl) :
    PE X (.Call (.Name x p) [e] [] pos) (tMk1 C f ta) := by
  refine ⟨fun pins s σ H Q I h => ?_⟩
  obtain ⟨fI, fd, iC, tI, F, hb, _⟩ := T.ini
  refine wpAny_Call_Name_kw (ld_glob I hg T.gm ?_ hdb)
  refine PySem.W.callWith_K (h₀ := X.base) I.ok.mod.kin T.xc.kp (thn (ha.run pos pins s σ H _ I h) fun us s1 ⟨vs, H1, I1, r, v, ev, q⟩ => ⟨I1.kIn, ?_⟩) he hpl
  subst ev
  exact runMkX (n := 1) (ks := []) (ws := []) (zs := []) T.xc iC tI F hr hb pass0 I1 r .nil rfl rfl (by decide) (fun a ha => mk1_end T.xc T.no q a ha)
/-- C(f = e) -/
theorem peMk1K (T : Cl1 X.prog X.w X.K X.mg X.base x C f) (hr : Room 2 X.A) (hg : Gl X x) (ha : PK X [⟨some f, e, k1⟩] ta) (hdb : (x == ("__debug__" : Str)) = false := by decide)
    (hall : (backToKw pos (keywordEach [⟨some f, e, k1⟩] X.env)).all (·.1.isSome) = true := by rfl) (hks : (backToKw pos (keywordEach [⟨some f, e, k1⟩] X.env)).filterMap (·.1) = [f] := by rfl)
    (hpl : ((backTo pos (starEach [] X.env)).any (·.1) || (backToKw pos (keywordEach [⟨some f, e, k1⟩] X.env)).any (·.1.isNone)) = false := by rfl) :
    PE X (.Call (.Name x p) [] [⟨some f, e, k1⟩] pos) (tMk1 C f ta) := by
  refine ⟨fun pins s σ H Q I h => ?_⟩
  obtain ⟨fI, fd, iC, tI, F, _, hb⟩ := T.ini
  refine wpAny_Call_Name_kw (ld_glob I hg T.gm ?_ hdb)
  refine PySem.W.callWith_KW0 (h₀ := X.base) I.ok.mod.kin T.xc.kp hall (thn (ha.run pos pins s σ H _ I h) fun ws s1 ⟨zs, H1, I1, rz, v, ev, q⟩ => ⟨I1.kIn, ?_⟩) hpl
  subst ev
  rw [hks]
  exact runMkX (n := 0) (ks := [f]) (us := []) (vs := []) T.xc iC tI F hr hb pass0 I1 .nil rz rfl rfl (by decide) (fun a ha => mk1_end T.xc T.no q a ha)
/-- C(e, e2) -/
def tMk2 (C : Addr) (f f2 : Str) (ta : TA) : TE := fun σ H Q => ta σ H fun vs H1 => ∃ v v2, vs = [v, v2] ∧ ∀ a H2, H1 a = none → Same H1 H2 → ErD H2 a C [(f2, v2), (f, v)] → Q (.ref a) H2
theorem mk2_end {H1 : Hp} {Q : VK} {v v2 : V} (T : XC X.K C) (no : findIn X.K (.ref C) f = some none) (no2 : findIn X.K (.ref C) f2 = some none) (q : ∀ a H2, H1 a = none → Same H1 H2 → ErD H2 a C [(f2, v2), (f, v)] → Q (.ref a) H2) (a : Addr) (ha : H1 a = none) :
    spIni2 X.K f f2 [.ref a, v, v2] (upd H1 a (exo a C none)) (fun v H2 => v = .non ∧ Q (.ref a) H2) E0 := by
  refine ⟨a, C, v, v2, rfl, T, no, no2, upd_same, fun dx H' sm h1 h2 hdx => ⟨rfl, ?_⟩⟩
  refine q a _ ha (fun b o hb => ?_) ⟨dx, h1, h2⟩
  have b1 := ne_of_none hb ha
  have z := sm b o (by rw [upd_ne b1]; exact hb)
  rw [upd_ne b1] at z
  exact z
theorem peMk2 (T : Cl2 X.prog X.w X.K X.mg X.base x C f f2) (hr : Room 2 X.A) (hg : Gl X x) (ha : PA X [e, e2] ta) (hdb : (x == ("__debug__" : Str)) = false := by decide)
    (he : starEach [e, e2] X.env = (false, eval e X.env) :: starEach [e2] X.env := by rfl) (hpl : (backTo pos (starEach [e2] X.env)).any (·.1) = false := by rfl) :
    PE X (.Call (.Name x p) [e, e2] [] pos) (tMk2 C f f2 ta) := by
  refine ⟨fun pins s σ H Q I h => ?_⟩
  obtain ⟨fI, fd, iC, tI, F, hb, _⟩ := T.ini
  refine wpAny_Call_Name_kw (ld_glob I hg T.gm ?_ hdb)
  refine PySem.W.callWith_K (h₀ := X.base) I.ok.mod.kin T.xc.kp (thn (ha.run pos pins s σ H _ I h) fun us s1 ⟨vs, H1, I1, r, v, v2, ev, q⟩ => ⟨I1.kIn, ?_⟩) he hpl
  subst ev
  exact runMkX (n := 2) (ks := []) (ws := []) (zs := []) T.xc iC tI F hr hb pass0 I1 r .nil rfl rfl (by decide) (fun a ha => mk2_end T.xc T.no T.no2 q a ha)
/-- C(f2 = e, f = e2) -/
def tMk2K (C : Addr) (f f2 : Str) (ta : TA) : TE := fun σ H Q => ta σ H fun vs H1 => ∃ v v2, vs = [v2, v] ∧ ∀ a H2, H1 a = none → Same H1 H2 → ErD H2 a C [(f2, v2), (f, v)] → Q (.ref a) H2
theorem peMk2K (T : Cl2 X.prog X.w X.K X.mg X.base x C f f2) (hr : Room 2 X.A) (hg : Gl X x) (ha : PK X [⟨some f2, e, k1⟩, ⟨some f, e2, k2⟩] ta) (hdb : (x == ("__debug__" : Str)) = false := by decide)
    (hall : (backToKw pos (keywordEach [⟨some f2, e, k1⟩, ⟨some f, e2, k2⟩] X.env)).all (·.1.isSome) = true := by rfl) (hks : (backToKw pos (keywordEach [⟨some f2, e, k1⟩, ⟨some f, e2, k2⟩] X.env)).filterMap (·.1) = [f2, f] := by rfl)
    (hpl : ((backTo pos (starEach [] X.env)).any (·.1) || (backToKw pos (keywordEach [⟨some f2, e, k1⟩, ⟨some f, e2, k2⟩] X.env)).any (·.1.isNone)) = false := by rfl) :
    PE X (.Call (.Name x p) [] [⟨some f2, e, k1⟩, ⟨some f, e2, k2⟩] pos) (tMk2K C f f2 ta) := by
  refine ⟨fun pins s σ H Q I h => ?_⟩
  obtain ⟨fI, fd, iC, tI, F, _, hb⟩ := T.ini
  refine wpAny_Call_Name_kw (ld_glob I hg T.gm ?_ hdb)
  refine PySem.W.callWith_KW0 (h₀ := X.base) I.ok.mod.kin T.xc.kp hall (thn (ha.run pos pins s σ H _ I h) fun ws s1 ⟨zs, H1, I1, rz, v, v2, ev, q⟩ => ⟨I1.kIn, ?_⟩) hpl
  subst ev
  rw [hks]
  exact runMkX (n := 0) (ks := [f2, f]) (us := []) (vs := []) T.xc iC tI F hr hb pass0 I1 .nil rz rfl rfl (by decide) (fun a ha => mk2_end T.xc T.no T.no2 q a ha)
/-- C(), no __init__ of its own -/
def tMk0 (C : Addr) : TE := fun _ H Q => ∀ a, H a = none → Q (.ref a) (upd H a (exo a C none))
theorem peMk0 (T : Cl0 X.K X.mg x C) (hg : Gl X x) (hdb : (x == ("__debug__" : Str)) = false := by decide) : PE X (.Call (.Name x p) [] [] pos) (tMk0 C) := by
  refine ⟨fun pins s σ H Q I h => ?_⟩
  refine wpAny_Call_Name_kw (ld_glob I hg T.gm ?_ hdb)
  refine PySem.W.callWith_K0 I.kIn T.xc.kp ?_
  show wpAny _ _ (call (.ref C) []) _ _ _
  obtain ⟨bm, N, nm, qn, bs, hdct, sn, sub, ab, col, dd, k0, k1, k2, k3, k5, mN, hC, hN, hni, O⟩ := exc_obj I.kIn T.own
  refine wpAny_call_exc_subT F.excBase_ValueError O hC hN hni (fun h' a hm => ?_) (Nat.zero_le _)
  have hn : H a = none := I.hok.gone hm.new
  obtain ⟨t, ht, _, _⟩ := hm.there
  exact ⟨.ref a, upd H a (exo a C none), I.laidN hm.keeps hm.new hn (exo_ok ht), rfl, h a hn⟩
/-- raise C(e) | raise C() -/
def tMkE (C : Addr) (f : Str) (ta : TA) : L2.St → Hp → XK → Prop := fun σ H Q => ta σ H fun vs H1 => ∃ v, vs = [v] ∧ ∀ d H2, Same H1 H2 → H2 d = some (.xd [(f, v)]) → Q (.ref C) (some d) H2
theorem pmkX (T : Cl1 X.prog X.w X.K X.mg X.base x C f) (hr : Room 2 X.A) (hg : Gl X x) (ha : PA X [e] ta) (hdb : (x == ("__debug__" : Str)) = false := by decide)
    (he : starEach [e] X.env = (false, eval e X.env) :: starEach [] X.env := by rfl) (hpl : (backTo pos (starEach [] X.env)).any (·.1) = false := by rfl) :
    PMk X (.Call (.Name x p) [e] [] pos) (tMkE C f ta) := by
  intro pins s σ H Q I h
  obtain ⟨fI, fd, iC, tI, F, hb, _⟩ := T.ini
  refine wpAny_Call_Name_kw (ld_glob I hg T.gm ?_ hdb)
  refine PySem.W.callWith_K (h₀ := X.base) I.ok.mod.kin T.xc.kp (thn (ha.run pos pins s σ H _ I h) fun us s1 ⟨vs, H1, I1, r, v, ev, q⟩ => ⟨I1.kIn, ?_⟩) he hpl
  subst ev
  refine runMkE (n := 1) (ks := []) (ws := []) (zs := []) T.xc iC tI F hr hb pass0 I1 r .nil rfl rfl (by decide) (fun a ha => ?_)
  refine ⟨a, C, v, rfl, T.xc, T.no, upd_same, fun dx hdx hne => ⟨rfl, dx, [(f, v)], upd_same, ?_, ?_, ?_⟩⟩
  · rw [upd_ne hne, upd_same]
  · rw [upd_ne hne] at hdx
    exact hdx
  · have n1 : H1 dx = none := by
      rw [upd_ne hne] at hdx
      exact hdx
    refine q dx _ (fun b o hb => ?_) upd_same
    have b1 := ne_of_none hb ha
    have b2 := ne_of_none hb n1
    rw [upd_ne b2, del_ne b1, upd_ne b1, upd_ne b2, upd_ne b1]
    exact hb
theorem pmk0 (T : Cl0 X.K X.mg x C) (hg : Gl X x) (hdb : (x == ("__debug__" : Str)) = false := by decide) : PMk X (.Call (.Name x p) [] [] pos) (fun _ H Q => Q (.ref C) none H) := by
  intro pins s σ H Q I h
  refine wpAny_Call_Name_kw (ld_glob I hg T.gm ?_ hdb)
  refine PySem.W.callWith_K0 I.kIn T.xc.kp ?_
  show wpAny _ _ (call (.ref C) []) _ _ _
  obtain ⟨bm, N, nm, qn, bs, hdct, sn, sub, ab, col, dd, k0, k1, k2, k3, k5, mN, hC, hN, hni, O⟩ := exc_obj I.kIn T.own
  refine wpAny_call_exc_subT F.excBase_ValueError O hC hN hni (fun h' e hm => ?_) (Nat.zero_le _)
  exact mk_of I hm (raises_own T.xc.ex T.xc.ty) h (I.hok.gone hm.new)
end
end KX

set_option Elab.async false
set_option linter.all false
set_option maxRecDepth 100000
set_option maxHeartbeats 0
namespace PJ.HD
open PySem PySem.Spec PyProof.Rows L2 KS
open KX hiding sameUpd
open He (ga ma)
abbrev R : PySem.W.OpenRow := PySem.W.OpenLaw.row PySem.Challenge.rw_farenough_k07_projects_changed
def dOf (x : Str) (i : Nat) : He.DefD := ⟨(x, none), x, x, defArgs (top i), defBody (top i), defScope (top i), [], []⟩
def dIn (x m q : Str) (i j : Nat) : He.DefD := ⟨(x, some m), m, q, defArgs (inClass (top i) j), defBody (inClass (top i) j), defScope (inClass (top i) j), [], []⟩
def dInD (x m q : Str) (i j : Nat) : He.DefD := ⟨(x, some m), m, q, defArgs (inClass (top i) j), defBody (inClass (top i) j), defScope (inClass (top i) j), [.adr (He.dflAt (x, some m) 0)], []⟩
def fn1 : List He.DefD := [
  dOf "_law_feed_of" 10,
  dOf "_law_draw" 11,
  dOf "_law_pick" 12,
  dOf "_law_outs" 13,
  dOf "_law_calls" 14,
  dOf "_law_some_text" 15,
  dOf "_law_some_outputs" 16,
  dOf "_law_one_target" 17,
  dOf "_law_whole_project" 18,
  dOf "_law_same" 19,
  dOf "_law_drawn" 20,
  dOf "_law_changed" 21,
  dOf "_law_does" 22,
  dOf "_law_is_told" 23,
  dOf "_law_refuses" 24,
  dOf "_law_stands" 25,
  dOf "law" 26]
def fn2 : List He.DefD := [
  dIn "NoTarget" "__init__" "NoTarget.__init__" 2 0,
  dIn "NotSource" "__init__" "NotSource.__init__" 3 0,
  dIn "Source" "__init__" "Source.__init__" 6 0,
  dIn "Source" "__eq__" "Source.__eq__" 6 1,
  dInD "Made" "__init__" "Made.__init__" 7 0,
  dIn "Made" "__eq__" "Made.__eq__" 7 1,
  dIn "Project" "__init__" "Project.__init__" 8 0,
  dIn "Project" "__getitem__" "Project.__getitem__" 8 1,
  dIn "Project" "__contains__" "Project.__contains__" 8 3,
  dIn "Project" "__len__" "Project.__len__" 8 4,
  dIn "Project" "__eq__" "Project.__eq__" 8 5,
  dIn "Project" "put" "Project.put" 8 7,
  dIn "Project" "without" "Project.without" 8 8,
  dIn "Project" "write" "Project.write" 8 9,
  dIn "Project" "erase" "Project.erase" 8 10,
  dIn "Project" "_outputs_of" "Project._outputs_of" 8 11]
def fn : List He.DefD := fn1 ++ fn2
def frees : List Str := ["isinstance", "len", "zip", "all", "list", "tuple", "bool", "int", "str", "range", "ord", "set", "max", "min", "dict", "sorted", "ValueError"]
def glos0 : List Str := ["BuildError", "NoTarget", "NotSource", "Target", "Source", "Made", "Project", "_law_feed_of", "_law_draw", "_law_pick", "_law_outs", "_law_calls", "_law_some_text", "_law_some_outputs", "_law_one_target", "_law_whole_project", "_law_same", "_law_drawn"]
def glos1 : List Str := ["_law_changed", "_law_does", "_law_is_told", "_law_refuses", "_law_stands"]
def glos : List Str := glos0 ++ glos1
def loose : List Str := glos
def faC : List He.Fa := [He.Fa.cls "Source", He.Fa.cls "Made", He.Fa.cls "Project", He.Fa.mkr "Source", He.Fa.mkr "Made", He.Fa.mkr "Project"]
def faN : List He.Fa := [He.Fa.noat "Source" "_outputs", He.Fa.noat "Made" "_recipe", He.Fa.noat "Made" "_arguments", He.Fa.noat "Project" "_targets"]
def faM : List He.Fa := [He.Fa.meth "Source" "__eq__", He.Fa.meth "Made" "__eq__", He.Fa.meth "Project" "__getitem__", He.Fa.meth "Project" "__contains__", He.Fa.meth "Project" "__len__", He.Fa.meth "Project" "__eq__", He.Fa.meth "Project" "put", He.Fa.meth "Project" "without", He.Fa.meth "Project" "write", He.Fa.meth "Project" "erase", He.Fa.meth "Project" "_outputs_of"]
def fa : List He.Fa := (glos ++ ([("law" : Str)] : List Str)).map He.Fa.glo ++ (frees.map He.Fa.free ++ (faC ++ (faN ++ faM)))
/-- a property of a class, its getter -/
def pAd (K : PySem.W.Frag) (c m : Str) : Addr := ma K (ga K c) m
def gAd (K : PySem.W.Frag) (c m : Str) : Addr := match PySem.W.recIn K (pAd K c m) "property" with
  | some (.ref g :: _) => g
  | _ => 0
/-- an empty tuple -/
def emB (K : PySem.W.Frag) (a : Addr) : Bool := match K.lookup a with
  | some ⟨.type c, _, .seq its _, _⟩ => decide (c = "tuple") && its.isEmpty
  | _ => false
theorem emB_ok {K : PySem.W.Frag} {a : Addr} (h : emB K a = true) (H : Hp) : SqT K H a [] := by
  unfold emB at h
  cases q : K.lookup a with
  | none =>
    rw [q] at h
    cases h
  | some o =>
    obtain ⟨oc, od, dt, osl⟩ := o
    rw [q] at h
    cases oc with
    | type c =>
      cases dt with
      | seq its n =>
        obtain ⟨h1, h2⟩ := He.ba (show (decide (c = "tuple") && its.isEmpty) = true from h)
        have e : its = #[] := Array.isEmpty_iff.mp h2
        subst e
        exact .inr ⟨_, #[], n, q, congrArg Value.type (of_decide_eq_true h1), rfl, Nat.zero_le _, .nil⟩
      | _ => cases h
    | _ => cases dt <;> cases h
def fnAt (K : PySem.W.Frag) (a : Addr) : He.FnW := match K.lookup a with
  | some o => (match o.data with
    | .func u => some (u.name, u.qualname, u.params, u.body, u.scope, u.globals, u.closure, u.builtins)
    | _ => none)
  | none => none
def okAt (K : PySem.W.Frag) (a : Addr) (q : Str) : Bool := PySem.W.keepIn K (.ref a) && (match K.lookup a with
  | some o => (match o.data with
    | .func u => PySem.W.codeIn K u.code q && (He.dflB K u.defaults [] && He.kwdB K u.kwdefaults [])
    | _ => false)
  | none => false)
theorem funAt {K : PySem.W.Frag} {a : Addr} {x q : Str} {ps : Arguments} {b : List Stmt} {sc : Scope} (e : fnAt K a = some (x, q, ps, .stmts b, sc, mainGlobals, [], builtinsNs)) (c : okAt K a q = true) : ∃ fd, FunD K x q ps b sc [] [] a fd := by
  unfold okAt at c
  unfold fnAt at e
  rw [Bool.and_eq_true] at c
  obtain ⟨kp, c⟩ := c
  generalize hl : K.lookup a = o at c e
  rcases o with _ | ⟨oc, od, dt, sl⟩
  · cases c
  · dsimp only at c e
    cases dt with
    | func u =>
      dsimp only at c e
      rw [Bool.and_eq_true, Bool.and_eq_true] at c
      obtain ⟨c1, c2, c3⟩ := c
      obtain ⟨m1, m2, m3, m4, m5, m6, m7, m8, m9, m10, m11, m12, m13, m14, m15⟩ := u
      dsimp only at c1 c2 c3 e
      injection e with e
      simp only [Prod.mk.injEq] at e
      obtain ⟨rfl, rfl, rfl, rfl, rfl, rfl, rfl, rfl⟩ := e
      refine ⟨_, ⟨oc, od, m8, m9, m10, m11, m12, m13, m14, sl, rfl, hl, c1, ?_, ?_⟩, kp⟩
      · exact He.dflB_ok c2
      · exact He.kwdB_ok c3
    | _ => cases c
/-- the other facts, as one Bool -/
def exB (K : PySem.W.Frag) : Bool :=
  xcB K (ga K "NoTarget") veB "ValueError.__new__"
  && (decide (PySem.W.findIn K (.ref (ga K "NoTarget")) "name" = some none)
  && (decide (PySem.W.findIn K (.ref (ga K "NoTarget")) "__init__" = some (some (.ref (ma K (ga K "NoTarget") "__init__"))))
  && (decide (PySem.W.typeIn K (.ref (ma K (ga K "NoTarget") "__init__")) = some (.type "function"))
  && (xcB K (ga K "NotSource") veB "ValueError.__new__"
  && (decide (PySem.W.findIn K (.ref (ga K "NotSource")) "name" = some none)
  && (decide (PySem.W.findIn K (.ref (ga K "NotSource")) "__init__" = some (some (.ref (ma K (ga K "NotSource") "__init__"))))
  && (decide (PySem.W.typeIn K (.ref (ma K (ga K "NotSource") "__init__")) = some (.type "function"))
  && (decide (PySem.W.findIn K (.ref (ga K "Source")) "__class__" = some (some (.builtin "object.__class__")))
  && (decide (PySem.W.mroIn K (ga K "Source") (.type "object") = some true)
  && (decide (PySem.W.subIn K (.type "dict") (.ref (ga K "Source")) = some false)
  && (decide (PySem.W.findIn K (.ref (ga K "Made")) "__class__" = some (some (.builtin "object.__class__")))
  && (decide (PySem.W.mroIn K (ga K "Made") (.type "object") = some true)
  && (decide (PySem.W.subIn K (.type "dict") (.ref (ga K "Made")) = some false)
  && (decide (PySem.W.findIn K (.ref (ga K "Project")) "__class__" = some (some (.builtin "object.__class__")))
  && (decide (PySem.W.mroIn K (ga K "Project") (.type "object") = some true)
  && (decide (PySem.W.subIn K (.type "dict") (.ref (ga K "Project")) = some false)
  && (decide (PySem.W.specialIn K (.builtin "object.__class__") "__get__" = some (some (.builtin "getset_descriptor.__get__")))
  && (decide (PySem.W.takesIn K (.builtin "object.__class__") = some true)
  && (decide (PySem.W.kitOne K (.ref (ga K "Source")) (.ref (ga K "Source")) = some true)
  && (decide (PySem.W.kitOne K (.ref (ga K "Made")) (.ref (ga K "Source")) = some false)
  && (decide (PySem.W.kitOne K (.ref (ga K "Source")) (.ref (ga K "Made")) = some false)
  && (decide (PySem.W.kitOne K (.ref (ga K "Made")) (.ref (ga K "Made")) = some true)
  && (decide (PySem.W.kitOne K (.ref (ga K "Project")) (.ref (ga K "Project")) = some true)
  && (decide (PySem.W.kitOne K (.ref (ga K "Source")) (.ref (ga K "Target")) = some true)
  && (decide (PySem.W.kitOne K (.ref (ga K "Made")) (.ref (ga K "Target")) = some true)
  && (decide (PySem.W.kitOne K (.ref (ga K "NoTarget")) (.ref (ga K "NoTarget")) = some true)
  && (decide (PySem.W.kitOne K (.ref (ga K "NoTarget")) (.ref (ga K "NotSource")) = some false)
  && (decide (PySem.W.kitOne K (.ref (ga K "NotSource")) (.ref (ga K "NoTarget")) = some false)
  && (decide (PySem.W.kitOne K (.ref (ga K "NotSource")) (.ref (ga K "NotSource")) = some true)
  && (decide (PySem.W.kitOne K (.type "dict") (.ref (ga K "Project")) = some false)
  && (decide (PySem.W.kitOne K (.ref (ga K "Project")) (.type "str") = some false)
  && (decide (PySem.W.subIn K (.ref (ga K "Made")) (.ref (ga K "Source")) = some false)
  && (decide (PySem.W.subIn K (.ref (ga K "Source")) (.ref (ga K "Made")) = some false)
  && (decide (PySem.W.findIn K (.ref (ga K "Made")) "__ne__" = some (some (.builtin "object.__ne__")))
  && (decide (PySem.W.exmOne K (.ref (ga K "NoTarget")) (.ref (ga K "BuildError")) = some true)
  && (decide (PySem.W.exmOne K (.ref (ga K "NotSource")) (.ref (ga K "BuildError")) = some true)
  && (decide (PySem.W.exmOne K (.ref (ga K "NoTarget")) (.ref (ga K "NoTarget")) = some true)
  && (PySem.W.fnIn K (ma K (ga K "Project") "__getitem__")
  && (emB K (He.dflAt ("Made", some "__init__") 0 K)
  && (decide (PySem.W.findIn K (.ref (ga K "Source")) "outputs" = some (some (.ref (pAd K "Source" "outputs"))))
  && (decide (PySem.W.specialIn K (.ref (pAd K "Source" "outputs")) "__get__" = some (some (.builtin "property.__get__")))
  && (decide (PySem.W.takesIn K (.ref (pAd K "Source" "outputs")) = some true)
  && (decide ((PySem.W.recIn K (pAd K "Source" "outputs") "property").map (fun l => l.head?) = some (some (.ref (gAd K "Source" "outputs"))))
  && (okAt K (gAd K "Source" "outputs") "Source.outputs"
  && (decide (PySem.W.findIn K (.ref (ga K "Made")) "recipe" = some (some (.ref (pAd K "Made" "recipe"))))
  && (decide (PySem.W.specialIn K (.ref (pAd K "Made" "recipe")) "__get__" = some (some (.builtin "property.__get__")))
  && (decide (PySem.W.takesIn K (.ref (pAd K "Made" "recipe")) = some true)
  && (decide ((PySem.W.recIn K (pAd K "Made" "recipe") "property").map (fun l => l.head?) = some (some (.ref (gAd K "Made" "recipe"))))
  && (okAt K (gAd K "Made" "recipe") "Made.recipe"
  && (decide (PySem.W.findIn K (.ref (ga K "Made")) "arguments" = some (some (.ref (pAd K "Made" "arguments"))))
  && (decide (PySem.W.specialIn K (.ref (pAd K "Made" "arguments")) "__get__" = some (some (.builtin "property.__get__")))
  && (decide (PySem.W.takesIn K (.ref (pAd K "Made" "arguments")) = some true)
  && (decide ((PySem.W.recIn K (pAd K "Made" "arguments") "property").map (fun l => l.head?) = some (some (.ref (gAd K "Made" "arguments"))))
  && (okAt K (gAd K "Made" "arguments") "Made.arguments"
  && (decide (PySem.W.findIn K (.ref (ga K "Project")) "names" = some (some (.ref (pAd K "Project" "names"))))
  && (decide (PySem.W.specialIn K (.ref (pAd K "Project" "names")) "__get__" = some (some (.builtin "property.__get__")))
  && (decide (PySem.W.takesIn K (.ref (pAd K "Project" "names")) = some true)
  && (decide ((PySem.W.recIn K (pAd K "Project" "names") "property").map (fun l => l.head?) = some (some (.ref (gAd K "Project" "names"))))
  && (okAt K (gAd K "Project" "names") "Project.names")))))))))))))))))))))))))))))))))))))))))))))))))))))))))))
def vSourceoutputs : He.FnW := some ("outputs", "Source.outputs", defArgs (inClass (top 6) 2), .stmts (defBody (inClass (top 6) 2)), defScope (inClass (top 6) 2), mainGlobals, [], builtinsNs)
def vMaderecipe : He.FnW := some ("recipe", "Made.recipe", defArgs (inClass (top 7) 2), .stmts (defBody (inClass (top 7) 2)), defScope (inClass (top 7) 2), mainGlobals, [], builtinsNs)
def vMadearguments : He.FnW := some ("arguments", "Made.arguments", defArgs (inClass (top 7) 3), .stmts (defBody (inClass (top 7) 3)), defScope (inClass (top 7) 3), mainGlobals, [], builtinsNs)
def vProjectnames : He.FnW := some ("names", "Project.names", defArgs (inClass (top 8) 6), .stmts (defBody (inClass (top 8) 6)), defScope (inClass (top 8) 6), mainGlobals, [], builtinsNs)
/-- the head's look: defs, names, numbers, these -/
abbrev Al : Type := He.AlD × (Bool × (He.FnW × He.FnW × He.FnW × He.FnW))
def obsK (K : PySem.W.Frag) : Al := (He.obsD fa fn K, exB K, fnAt K (gAd K "Source" "outputs"), fnAt K (gAd K "Made" "recipe"), fnAt K (gAd K "Made" "arguments"), fnAt K (gAd K "Project" "names"))
def obsM (n : Nat) (g : Addr → Option Obj) : Al := obsK (He.frG g (He.asD g n))
structure Says (K : PySem.W.Frag) : Prop where
  d : He.SaysD fa fn K
  e : exB K = true
  g : (fnAt K (gAd K "Source" "outputs"), fnAt K (gAd K "Made" "recipe"), fnAt K (gAd K "Made" "arguments"), fnAt K (gAd K "Project" "names")) = (vSourceoutputs, vMaderecipe, vMadearguments, vProjectnames)
def hk : PySem.W.Hook where
  α := Al
  obs := fun s => obsM 6 s.heap.get?
  val := fun _ => (He.valD fn, true, vSourceoutputs, vMaderecipe, vMadearguments, vProjectnames)
  says := fun _ h => ∃ K : PySem.W.Frag, K.In h ∧ Says K
  of := fun _ _ e => ⟨_, He.frG_in, ⟨congrArg (fun z : Al => z.1) e, congrArg (fun z : Al => z.2.1) e, congrArg (fun z : Al => z.2.2) e⟩⟩
  keeps := fun _ _ _ ⟨K, hK, c⟩ k => ⟨K, PySem.W.Frag.In.keeps hK k, c⟩
def ob (s : PySem.W.SharedT) : Al := obsM 6 (HandSHeadRun.getT s)
theorem ob_eq (s : PySem.W.SharedT) : ob s = hk.obs s.abs := by
  have e : HandSHeadRun.getT s = s.abs.heap.get? := funext (HandSHeadRun.getT_eq s)
  unfold ob
  rw [e] <;> rfl
theorem run (w : World) : HandSHeadRun.RunEq R (PySem.W.view R.prog [26]) hk ob 20000 loose w := by
  intro os
  kernel_rfl
end PJ.HD

set_option Elab.async false
set_option linter.all false
set_option maxRecDepth 100000
set_option maxHeartbeats 4000000
namespace KS
open PySem PySem.Spec PyProof.Rows L2
theorem sameUpd {H : Hp} {p : Addr} {o : HO} (h : H p = none) : Same H (upd H p o) := fun b u e => by
  rw [upd_ne (ne_of_none e h)]
  exact e
theorem sameTup {K : PySem.W.Frag} {H H' : Hp} {a : Addr} {xs : List V} (e : Same H H') (h : SqT K H a xs) : SqT K H' a xs := by
  rcases h with (h | ⟨o, h⟩) | h
  · exact .inl (.inl (e _ _ h))
  · exact .inl (.inr ⟨o, e _ _ h⟩)
  · exact .inr h
mutual
theorem dpSame {K : PySem.W.Frag} {H H' : Hp} (e : Same H H') : ∀ (d : PyData) (v : V), Dp K H v d → Dp K H' v d
  | .none, _, h => by cases h; exact .non
  | .bool b, _, h => by cases h; exact .bl b
  | .int i, _, h => by cases h; exact .int i
  | .str x, _, h => by cases h; exact .str x
  | .list ds, _, h => by
    cases h with
    | lst ha hd => exact .lst (e.seq ha) (dpAllSame e ds _ hd)
  | .tuple ds, _, h => by
    cases h with
    | tup ha hd => exact .tup (sameTup e ha) (dpAllSame e ds _ hd)
  | .dict _, _, h => nomatch h
theorem dpAllSame {K : PySem.W.Frag} {H H' : Hp} (e : Same H H') : ∀ (ds : List PyData) (vs : List V), DpAll K H vs ds → DpAll K H' vs ds
  | [], _, h => by cases h; exact .nil
  | d :: ds, _, h => by
    cases h with
    | cons h1 h2 => exact .cons (dpSame e d _ h1) (dpAllSame e ds _ h2)
end
theorem dpLen {K : PySem.W.Frag} {H : Hp} : ∀ {vs : List V} {ds : List PyData}, DpAll K H vs ds → vs.length = ds.length
  | _, _, .nil => rfl
  | _, _, .cons _ r => by rw [List.length_cons, List.length_cons, dpLen r]
theorem dpAt {K : PySem.W.Frag} {H : Hp} : ∀ {vs : List V} {ds : List PyData}, DpAll K H vs ds → ∀ {i : Nat} {d : PyData}, ds[i]? = some d → ∃ v, vs[i]? = some v ∧ Dp K H v d
  | _, _, .nil, _, _, h => by simp at h
  | _, _, .cons h1 r, 0, _, h => by
    cases h
    exact ⟨_, rfl, h1⟩
  | _, _, .cons h1 r, i + 1, _, h => dpAt r (by simpa using h)
def SOk (z : Str) : Prop := z.cps.all (· < 0x110000) = true
/-- data down to the depth n: texts not too long, tuples not too wide, no lists -/
inductive Od : Nat → PyData → Prop
  | non (n : Nat) : Od n .none
  | bl (n : Nat) (b : Bool) : Od n (.bool b)
  | int (n : Nat) (i : Int) : Od n (.int i)
  | str (n : Nat) {z : Str} (h : SOk z) (h2 : z.length ≤ 2000) : Od n (.str z)
  | tup {n : Nat} {ds : List PyData} (h : ds.length ≤ 100) (h2 : ∀ d ∈ ds, Od n d) : Od (n + 1) (.tuple ds)
theorem Od.up {n : Nat} {d : PyData} (h : Od n d) : ∀ {m : Nat}, n ≤ m → Od m d := by
  induction h with
  | non n => exact fun _ => .non _
  | bl n b => exact fun _ => .bl _ b
  | int n i => exact fun _ => .int _ i
  | str n h h2 => exact fun _ => .str _ h h2
  | @tup n ds h h2 ih =>
    intro m hm
    obtain ⟨k, rfl⟩ : ∃ k, m = k + 1 := ⟨m - 1, by omega⟩
    exact .tup h fun d hd => ih d hd (by omega)
theorem allLay : ∀ {ds : List PyData} {n : Nat}, (∀ d ∈ ds, d.canLay0 = true ∧ d.depth ≤ n) → PyData.canLayAll0 ds = true ∧ PyData.depthAll ds ≤ n
  | [], n, _ => ⟨rfl, Nat.zero_le _⟩
  | d :: ds, n, h => by
    obtain ⟨h1, h2⟩ := h d List.mem_cons_self
    obtain ⟨h3, h4⟩ := allLay (n := n) fun x hx => h x (List.mem_cons_of_mem _ hx)
    constructor
    · simp only [PyData.canLayAll0, h1, h3, Bool.and_self]
    · simp only [PyData.depthAll]
      exact Nat.max_le.mpr ⟨h2, h4⟩
theorem Od.lay {n : Nat} {d : PyData} (h : Od n d) : d.canLay0 = true ∧ d.depth ≤ n := by
  induction h with
  | non n => exact ⟨rfl, Nat.zero_le _⟩
  | bl n b => exact ⟨rfl, Nat.zero_le _⟩
  | int n i => exact ⟨rfl, Nat.zero_le _⟩
  | str n h h2 => exact ⟨h, Nat.zero_le _⟩
  | @tup n ds h h2 ih =>
    obtain ⟨a, b⟩ := allLay (n := n) ih
    refine ⟨a, ?_⟩
    simp only [PyData.depth]
    omega
theorem Od.shaped {n : Nat} {d : PyData} (h : Od n d) (hn : n ≤ 64) : SeqAt.shaped d = true := by
  obtain ⟨a, b⟩ := h.lay
  unfold SeqAt.shaped
  rw [a, Bool.true_and]
  exact decide_eq_true (by omega)
/-! kinds -/
def tyD : PyData → String
  | .none => "NoneType" | .bool _ => "bool" | .int _ => "int" | .str _ => "str" | .list _ => "list" | .tuple _ => "tuple" | .dict _ => "dict"
def isT (t c : String) : Bool := t == c || (t == "bool" && c == "int")
def isD (d : PyData) (c : String) : Bool := isT (tyD d) c
theorem kitAll : ∀ t ∈ ["NoneType", "bool", "int", "str", "list", "tuple"], ∀ c ∈ ["tuple", "str", "int", "bool", "list"], kitB t c = some (isT t c) := by decide +kernel
theorem dpTy {K : PySem.W.Frag} {H : Hp} {v : V} {d : PyData} (h : Dp K H v d) : TyX K H v (.type (tyD d)) := by
  cases h with
  | non => exact .base .non
  | bl b => exact .base (.bl b)
  | int i => exact .base (.int i)
  | str x => exact .base (.str x)
  | lst h _ =>
    rcases h with (h | ⟨o, h⟩) | ⟨o, its, n, h, c, _⟩
    · exact .base (.lst h)
    · exact .base (.frz h)
    · exact .kList h c
  | tup h _ =>
    rcases h with (h | ⟨o, h⟩) | ⟨o, its, n, h, c, _⟩
    · exact .base (.tup h)
    · exact .fTuple h
    · exact .kTuple h c
theorem dpKit {K : PySem.W.Frag} {H : Hp} {v : V} {d : PyData} (h : Dp K H v d) {c : String} (hc : c = "tuple" ∨ c = "str" ∨ c = "int" ∨ c = "bool" ∨ c = "list") : PySem.W.kitOne K (.type (tyD d)) (.type c) = some (isD d c) := by
  have hc' : c ∈ ["tuple", "str", "int", "bool", "list"] := by rcases hc with rfl | rfl | rfl | rfl | rfl <;> simp
  refine kit_ty (kitAll _ ?_ _ hc')
  cases h <;> simp [tyD]
theorem isi {K : PySem.W.Frag} {H : Hp} {v : V} {d : PyData} (h : Dp K H v d) {c : String} (hc : c = "tuple" ∨ c = "str" ∨ c = "int" ∨ c = "bool" ∨ c = "list") {Q : VK} (q : Q (.bl (isD d c)) H) : rIsi K [v, .ty c] H Q :=
  ⟨v, .ty c, _, _, _, rfl, .ty c, dpTy h, dpKit h hc, q⟩
/-- the built-in names that are read -/
structure Bn (mg : Str → Option Value) : Prop where
  isi : mg "isinstance" = none
  len : mg "len" = none
  zip : mg "zip" = none
  all : mg "all" = none
  list : mg "list" = none
  tuple : mg "tuple" = none
  bool : mg "bool" = none
  int : mg "int" = none
  str : mg "str" = none
  range : mg "range" = none
  ord : mg "ord" = none
  set : mg "set" = none
  max : mg "max" = none
  min : mg "min" = none
/-! comprehensions with one name -/
theorem lcJ {J : It} {n : Nat} {g : TG} {tt : TT} {te : TE} {vs : List Nat} {σ : L2.St} {H1 : Hp} {D : Addr} {Qd : Hp → Prop} (Pv : Nat → Hp → Prop) (h0 : Pv 0 (upd H1 D (.lst [])))
    (hgo : ∀ i H, i < n → Pv i H → J.go i H) (hst : ∀ H, Pv n H → J.stop n H)
    (hs : ∀ i H x H', i < n → Pv i H → J.yld i H x H' → g x (wipe σ vs) H' fun σ2 H2 => wipe σ2 vs = wipe σ vs ∧ tt σ2 H2 fun b H3 =>
      if b = true then te σ2 H3 fun y H4 => ∃ acc, H4 D = some (.lst acc) ∧ acc.length < sizeLine ∧ Pv (i + 1) (upd H4 D (.lst (acc ++ [y]))) else Pv (i + 1) H3)
    (hd : ∀ H, Pv n H → Qd H) :
    ∃ W : Nat → Nat → Hp → Prop, (∃ m, W 0 m (upd H1 D (.lst []))) ∧ ∀ i m H, W i m H →
      (J.stop i H ∧ Qd H) ∨ (J.go i H ∧ ∃ Nx : Hp → Prop, (∀ H', Nx H' → ∃ m', m' < m ∧ W (i + 1) m' H') ∧ ∀ x H', J.yld i H x H' → g x (wipe σ vs) H' fun σ2 H2 => wipe σ2 vs = wipe σ vs ∧ tt σ2 H2 fun b H3 =>
        if b = true then te σ2 H3 fun y H4 => ∃ acc, H4 D = some (.lst acc) ∧ acc.length < sizeLine ∧ Nx (upd H4 D (.lst (acc ++ [y]))) else Nx H3) := by
  refine ⟨fun i m H => m = n - i ∧ i ≤ n ∧ Pv i H, ⟨n, by simp, Nat.zero_le _, h0⟩, fun i m H hW => ?_⟩
  obtain ⟨rfl, hi, p⟩ := hW
  by_cases lt : i < n
  · refine .inr ⟨hgo i H lt p, Pv (i + 1), fun H' p' => ⟨n - (i + 1), by omega, rfl, lt, p'⟩, fun x H' y => ?_⟩
    exact hs i H x H' lt p y
  · have e : i = n := by omega
    subst e
    exact .inl ⟨hst H p, hd H p⟩
/-- the list at D, all else as it was -/
def At (H1 : Hp) (D : Addr) (xs : List V) (H : Hp) : Prop := Same H1 H ∧ H D = some (.lst xs)
theorem At.put {H1 H H' : Hp} {D : Addr} {xs ys : List V} (hD : H1 D = none) (h : At H1 D xs H) (s : Same H H') : H' D = some (.lst xs) ∧ At H1 D ys (upd H' D (.lst ys)) := by
  obtain ⟨a, b⟩ := h
  refine ⟨s _ _ b, fun c o e => ?_, upd_same⟩
  rw [upd_ne (ne_of_none e hD)]
  exact s _ _ (a _ _ e)
theorem dpSnoc {K : PySem.W.Frag} {H : Hp} {y : V} {e : PyData} (hy : Dp K H y e) : ∀ {xs : List V} {ds : List PyData}, DpAll K H xs ds → DpAll K H (xs ++ [y]) (ds ++ [e])
  | _, _, .nil => .cons hy .nil
  | _, _, .cons h r => .cons h (dpSnoc hy r)
/-- every item answers a Bool -/
theorem lcAll {J : It} {n j : Nat} {te : TE} {σ : L2.St} {H1 : Hp} {D : Addr} {Qd : Hp → Prop} (b : Nat → Bool) (hD : H1 D = none) (hn : n ≤ 1000000) (hw : ∀ v, wipe ((wipe σ [j]).set j (some v)) [j] = wipe σ [j])
    (hgo : ∀ i H, i < n → Same H1 H → J.go i H) (hst : ∀ H, Same H1 H → J.stop n H)
    (hs : ∀ i H x H', i < n → Same H1 H → J.yld i H x H' → Same H H' ∧ ∀ (R : VK), (∀ H2, Same H' H2 → R (.bl (b i)) H2) → te ((wipe σ [j]).set j (some x)) H' R)
    (hd : ∀ H, Same H1 H → H D = some (.lst (((List.range n).map b).map V.bl)) → Qd H) :
    ∃ W : Nat → Nat → Hp → Prop, (∃ m, W 0 m (upd H1 D (.lst []))) ∧ ∀ i m H, W i m H →
      (J.stop i H ∧ Qd H) ∨ (J.go i H ∧ ∃ Nx : Hp → Prop, (∀ H', Nx H' → ∃ m', m' < m ∧ W (i + 1) m' H') ∧ ∀ x H', J.yld i H x H' → gName j x (wipe σ [j]) H' fun σ2 H2 => wipe σ2 [j] = wipe σ [j] ∧ tYes σ2 H2 fun b H3 =>
        if b = true then te σ2 H3 fun y H4 => ∃ acc, H4 D = some (.lst acc) ∧ acc.length < sizeLine ∧ Nx (upd H4 D (.lst (acc ++ [y]))) else Nx H3) := by
  refine lcJ (n := n) (fun i H => At H1 D (((List.range i).map b).map V.bl) H) ⟨sameUpd hD, upd_same⟩ (fun i H lt h => hgo i H lt h.1) (fun H h => hst H h.1) (fun i H x H' lt h y => ?_) (fun H h => hd H h.1 h.2)
  obtain ⟨s1, s2⟩ := hs i H x H' lt h.1 y
  refine ⟨hw x, ?_⟩
  unfold tYes
  dsimp only
  rw [if_pos rfl]
  refine s2 _ fun H2 s3 => ?_
  obtain ⟨e1, e2⟩ := h.put (ys := ((List.range (i + 1)).map b).map V.bl) hD (s1.trans s3)
  refine ⟨_, e1, ?_, ?_⟩
  · rw [List.length_map, List.length_map, List.length_range, sizeLine_eq]
    omega
  · have e3 : ((List.range (i + 1)).map b).map V.bl = ((List.range i).map b).map V.bl ++ [V.bl (b i)] := by
      rw [List.range_succ, List.map_append, List.map_append]
      rfl
    rw [← e3]
    exact e2
/-- the ones that answer true are kept -/
theorem lcSome {K : PySem.W.Frag} {J : It} {n j : Nat} {tt : TT} {te : TE} {σ : L2.St} {H1 : Hp} {D : Addr} {Qd : Hp → Prop} (b : Nat → Bool) (hD : H1 D = none) (hn : n ≤ 1000000) (hw : ∀ v, wipe ((wipe σ [j]).set j (some v)) [j] = wipe σ [j])
    (hgo : ∀ i H, i < n → Same H1 H → J.go i H) (hst : ∀ H, Same H1 H → J.stop n H)
    (hs : ∀ i H x H', i < n → Same H1 H → J.yld i H x H' → Same H H' ∧ (∀ (F : Bool → Hp → Prop), (∀ H2, Same H' H2 → F (b i) H2) → tt ((wipe σ [j]).set j (some x)) H' F) ∧ ∃ y d, (∀ H, Dp K H y d) ∧ Od 0 d ∧ ∀ (R : VK) H2, R y H2 → te ((wipe σ [j]).set j (some x)) H2 R)
    (hd : ∀ H xs, Same H1 H → H D = some (.lst xs) → (xs = [] ↔ ∀ i, i < n → b i = false) → (∃ ds, (∀ H, DpAll K H xs ds) ∧ (∀ d ∈ ds, Od 0 d) ∧ ds.length ≤ n) → Qd H) :
    ∃ W : Nat → Nat → Hp → Prop, (∃ m, W 0 m (upd H1 D (.lst []))) ∧ ∀ i m H, W i m H →
      (J.stop i H ∧ Qd H) ∨ (J.go i H ∧ ∃ Nx : Hp → Prop, (∀ H', Nx H' → ∃ m', m' < m ∧ W (i + 1) m' H') ∧ ∀ x H', J.yld i H x H' → gName j x (wipe σ [j]) H' fun σ2 H2 => wipe σ2 [j] = wipe σ [j] ∧ tt σ2 H2 fun b H3 =>
        if b = true then te σ2 H3 fun y H4 => ∃ acc, H4 D = some (.lst acc) ∧ acc.length < sizeLine ∧ Nx (upd H4 D (.lst (acc ++ [y]))) else Nx H3) := by
  refine lcJ (n := n) (fun i H => ∃ xs, At H1 D xs H ∧ (xs = [] ↔ ∀ k, k < i → b k = false) ∧ xs.length ≤ i ∧ ∃ ds, (∀ H, DpAll K H xs ds) ∧ ∀ d ∈ ds, Od 0 d) ⟨[], ⟨sameUpd hD, upd_same⟩, ⟨fun _ k hk => absurd hk (Nat.not_lt_zero _), fun _ => rfl⟩, Nat.le_refl _, [], fun _ => .nil, fun d hd => absurd hd (by simp)⟩ (fun i H lt h => hgo i H lt h.choose_spec.1.1) (fun H h => hst H h.choose_spec.1.1) (fun i H x H' lt h y => ?_)
    (fun H h => by obtain ⟨xs, h1, h2, h3, h4⟩ := h; obtain ⟨ds, g1, g2⟩ := h4; exact hd H xs h1.1 h1.2 h2 ⟨ds, g1, g2, by have := dpLen (g1 H); omega⟩)
  obtain ⟨xs, h, e0, hl, ds, hda, hod⟩ := h
  obtain ⟨s1, s2, z, zd, z1, z2, s4⟩ := hs i H x H' lt h.1 y
  refine ⟨hw x, s2 _ fun H2 s3 => ?_⟩
  cases hb : b i with
  | true =>
    refine iteT (s4 _ _ ?_)
    obtain ⟨e1, e2⟩ := h.put (ys := xs ++ [z]) hD (s1.trans s3)
    refine ⟨_, e1, by rw [sizeLine_eq]; omega, _, e2, ⟨fun q => absurd q (by simp), fun q => ?_⟩, by rw [List.length_append]; exact Nat.succ_le_succ hl, ds ++ [zd], fun H => dpSnoc (z1 H) (hda H), fun d hd => ?_⟩
    · rw [q i (Nat.lt_succ_self _)] at hb
      cases hb
    · rcases List.mem_append.mp hd with y | y
      · exact hod d y
      · rw [List.mem_singleton.mp y]
        exact z2
  | false =>
    refine iteF ⟨xs, ⟨(h.1.trans s1).trans s3, s3 _ _ (s1 _ _ h.2)⟩, ⟨fun q k hk => ?_, fun q => e0.mpr fun k hk => q k (by omega)⟩, by omega, ds, hda, hod⟩
    rcases Nat.lt_succ_iff_lt_or_eq.mp hk with c | c
    · exact e0.mp q k c
    · rw [c]
      exact hb
/-- all(..) over a tuple -/
theorem lcAllT {K : PySem.W.Frag} {a : Addr} {xs : List V} {ds : List PyData} {j : Nat} {te : TE} {σ : L2.St} {H1 : Hp} {D : Addr} {Qd : Hp → Prop} (p : PyData → Bool) (ha : SqT K H1 a xs) (hx : DpAll K H1 xs ds) (hn : ds.length ≤ 1000) (hD : H1 D = none) (hw : ∀ v, wipe ((wipe σ [j]).set j (some v)) [j] = wipe σ [j])
    (hs : ∀ v d H, d ∈ ds → Same H1 H → Dp K H v d → ∀ (R : VK), (∀ H2, Same H H2 → R (.bl (p d)) H2) → te ((wipe σ [j]).set j (some v)) H R)
    (hd : ∀ H, Same H1 H → H D = some (.lst ((ds.map p).map V.bl)) → Qd H) :
    ∃ W : Nat → Nat → Hp → Prop, (∃ m, W 0 m (upd H1 D (.lst []))) ∧ ∀ i m H, W i m H →
      ((Itt K a).stop i H ∧ Qd H) ∨ ((Itt K a).go i H ∧ ∃ Nx : Hp → Prop, (∀ H', Nx H' → ∃ m', m' < m ∧ W (i + 1) m' H') ∧ ∀ x H', (Itt K a).yld i H x H' → gName j x (wipe σ [j]) H' fun σ2 H2 => wipe σ2 [j] = wipe σ [j] ∧ tYes σ2 H2 fun b H3 =>
        if b = true then te σ2 H3 fun y H4 => ∃ acc, H4 D = some (.lst acc) ∧ acc.length < sizeLine ∧ Nx (upd H4 D (.lst (acc ++ [y]))) else Nx H3) := by
  have hl := dpLen hx
  refine lcAll (n := ds.length) (fun i => p (ds.getD i .none)) hD (by omega) hw (fun i H lt s => ?_) (fun H s => ⟨xs, sameTup s ha, by omega⟩) (fun i H x H' lt s y => ?_) (fun H s e => hd H s ?_)
  · exact ⟨xs, xs[i], sameTup s ha, List.getElem?_eq_getElem (by omega)⟩
  · obtain ⟨rfl, y⟩ := y
    refine ⟨Same.refl _, fun R hR => ?_⟩
    have e := y xs (sameTup s ha)
    have e2 : ds[i]? = some ds[i] := List.getElem?_eq_getElem lt
    obtain ⟨v, h1, h2⟩ := dpAt hx e2
    obtain rfl : v = x := Option.some.inj (h1.symm.trans e)
    rw [List.getD_eq_getElem?_getD, e2] at hR
    exact hs v ds[i] _ (List.getElem_mem lt) s (dpSame s _ _ h2) R hR
  · rw [e]
    have : (List.range ds.length).map (fun i => p (ds.getD i .none)) = ds.map p := by
      refine List.ext_getElem (by simp) fun i h1 h2 => ?_
      simp only [List.getElem_map, List.getElem_range]
      rw [List.getD_eq_getElem?_getD, List.getElem?_eq_getElem (by simpa using h1)]
      rfl
    rw [this]
/-- the kept ones of a tuple -/
theorem lcSomeT {K : PySem.W.Frag} {a : Addr} {xs : List V} {ds : List PyData} {j : Nat} {tt : TT} {te : TE} {σ : L2.St} {H1 : Hp} {D : Addr} {Qd : Hp → Prop} (p : PyData → Bool) (ha : SqT K H1 a xs) (hx : DpAll K H1 xs ds) (hn : ds.length ≤ 1000) (hD : H1 D = none) (hw : ∀ v, wipe ((wipe σ [j]).set j (some v)) [j] = wipe σ [j])
    (hs : ∀ v d H, d ∈ ds → Same H1 H → Dp K H v d → (∀ (F : Bool → Hp → Prop), (∀ H2, Same H H2 → F (p d) H2) → tt ((wipe σ [j]).set j (some v)) H F) ∧ ∃ y d, (∀ H, Dp K H y d) ∧ Od 0 d ∧ ∀ (R : VK) H2, R y H2 → te ((wipe σ [j]).set j (some v)) H2 R)
    (hd : ∀ H zs, Same H1 H → H D = some (.lst zs) → (zs = [] ↔ ∀ d ∈ ds, p d = false) → (∃ es, (∀ H, DpAll K H zs es) ∧ (∀ d ∈ es, Od 0 d) ∧ es.length ≤ ds.length) → Qd H) :
    ∃ W : Nat → Nat → Hp → Prop, (∃ m, W 0 m (upd H1 D (.lst []))) ∧ ∀ i m H, W i m H →
      ((Itt K a).stop i H ∧ Qd H) ∨ ((Itt K a).go i H ∧ ∃ Nx : Hp → Prop, (∀ H', Nx H' → ∃ m', m' < m ∧ W (i + 1) m' H') ∧ ∀ x H', (Itt K a).yld i H x H' → gName j x (wipe σ [j]) H' fun σ2 H2 => wipe σ2 [j] = wipe σ [j] ∧ tt σ2 H2 fun b H3 =>
        if b = true then te σ2 H3 fun y H4 => ∃ acc, H4 D = some (.lst acc) ∧ acc.length < sizeLine ∧ Nx (upd H4 D (.lst (acc ++ [y]))) else Nx H3) := by
  have hl := dpLen hx
  refine lcSome (K := K) (n := ds.length) (fun i => p (ds.getD i .none)) hD (by omega) hw (fun i H lt s => ?_) (fun H s => ⟨xs, sameTup s ha, by omega⟩) (fun i H x H' lt s y => ?_) (fun H zs s e e0 es => hd H zs s e (e0.trans ?_) es)
  · exact ⟨xs, xs[i], sameTup s ha, List.getElem?_eq_getElem (by omega)⟩
  · obtain ⟨rfl, y⟩ := y
    have e := y xs (sameTup s ha)
    have e2 : ds[i]? = some ds[i] := List.getElem?_eq_getElem lt
    obtain ⟨v, h1, h2⟩ := dpAt hx e2
    obtain rfl : v = x := Option.some.inj (h1.symm.trans e)
    rw [List.getD_eq_getElem?_getD, e2]
    exact ⟨Same.refl _, hs v ds[i] _ (List.getElem_mem lt) s (dpSame s _ _ h2)⟩
  · constructor
    · intro h d hd
      obtain ⟨i, hi, e⟩ := List.getElem_of_mem hd
      have := h i hi
      rw [List.getD_eq_getElem?_getD, List.getElem?_eq_getElem hi] at this
      rw [← e]
      exact this
    · intro h i hi
      rw [List.getD_eq_getElem?_getD, List.getElem?_eq_getElem hi]
      exact h _ (List.getElem_mem hi)
/-- a kept list against [] -/
theorem eqNil {K : PySem.W.Frag} {H : Hp} {D e : Addr} {zs : List V} {Q : VK} {n : Nat} (hD : H D = some (.lst zs)) (he : H e = some (.lst [])) (es : ∃ es, (∀ H, DpAll K H zs es) ∧ (∀ d ∈ es, Od 0 d) ∧ es.length ≤ n) (h : Q (.bl (decide (zs = []))) H) : rEqD K (.ref D) (.ref e) H Q := by
  obtain ⟨ds, h1, h2, _⟩ := es
  refine ⟨.list ds, .list [], .lst (.inl (.inl hD)) (h1 H), .lst (.inl (.inl he)) .nil, ?_, rfl, ?_⟩
  · obtain ⟨a, b⟩ := allLay (ds := ds) (n := 0) fun d hd => (h2 d hd).lay
    have e1 : (PyData.list ds).canLay0 = true := a
    unfold SeqAt.shaped
    rw [e1, Bool.true_and]
    refine decide_eq_true ?_
    simp only [PyData.depth]
    omega
  · have hl := dpLen (h1 H)
    cases ds with
    | nil =>
      have : zs = [] := List.eq_nil_of_length_eq_zero hl
      subst this
      exact h
    | cons d ds =>
      have : ¬ zs = [] := fun z => by rw [z] at hl; cases hl
      rw [decide_eq_false this] at h
      exact h
theorem neNil {K : PySem.W.Frag} {H : Hp} {D e : Addr} {zs : List V} {Q : VK} {n : Nat} (hD : H D = some (.lst zs)) (he : H e = some (.lst [])) (es : ∃ es, (∀ H, DpAll K H zs es) ∧ (∀ d ∈ es, Od 0 d) ∧ es.length ≤ n) (h : Q (.bl (!decide (zs = []))) H) : rNeD K (.ref D) (.ref e) H Q := by
  obtain ⟨d, e, h1, h2, h3, h4, h5⟩ := eqNil (Q := fun x H => Q (match x with | .bl b => .bl (!b) | _ => x) H) hD he es h
  exact ⟨d, e, h1, h2, h3, h4, h5⟩
end KS

set_option Elab.async false
set_option linter.all false
set_option maxRecDepth 100000
set_option maxHeartbeats 4000000
namespace KS
open PySem PySem.Spec PyProof.Rows L2
/-- a def's bundle -/
structure Has (P : Program) (w : World) (K : PySem.W.Frag) (mg : Str → Option Value) (base : Heap) (k : Nat) (x : Str) (ps : List Str) (sp : Sp) : Prop where
  ex : ∃ (f : Addr) (fd : FuncData), mg x = some (.ref f) ∧ PySem.W.keepIn K (.ref f) = true ∧ Binds K fd ps [] ∧ FnOk P w K mg base CX0 k f fd ps sp
/-- one that may raise -/
structure HasX (P : Program) (w : World) (K : PySem.W.Frag) (mg : Str → Option Value) (base : Heap) (k : Nat) (x : Str) (ps : List Str) (sp : Sp) : Prop where
  ex : ∃ (f : Addr) (fd : FuncData), mg x = some (.ref f) ∧ PySem.W.keepIn K (.ref f) = true ∧ Binds K fd ps [] ∧ FnOk P w K mg base (L2.CX P w) k f fd ps sp
end KS

set_option Elab.async false
set_option linter.all false
set_option maxRecDepth 100000
set_option maxHeartbeats 4000000
/-! == of data that may hold dicts, either way -/
namespace PySem.SeqAt
open AutoSeq1 (wpAny_loadPart')
open MeetsSeq MeetsSeq2 MeetsSeq3 SeqRoads2
section
variable {prog : Program} {w : World}
/-- pairs compared from the left, no further than the first unlike ones -/
inductive Cmp (prog : Program) (w : World) (A : Around) (s : Shared) : List (Value × Value) → Bool → Prop
  | nil : Cmp prog w A s [] true
  | cons {x y : Value} {r : List (Value × Value)} {a b : Bool} (h : EqP prog w A s x y a) (t : a = true → Cmp prog w A s r b) : Cmp prog w A s ((x, y) :: r) (a && b)
theorem Cmp.inv {A : Around} {s : Shared} {x y : Value} {r : List (Value × Value)} {c : Bool} (h : Cmp prog w A s ((x, y) :: r) c) : ∃ a b, c = (a && b) ∧ EqP prog w A s x y a ∧ (a = true → Cmp prog w A s r b) := by
  cases h with
  | cons h t => exact ⟨_, _, rfl, h, t⟩
theorem tupCmp (l b : Addr) (p q : Array Value) (n m : Nat) (d1 d2 : Option Addr) (sl1 sl2 : Array (Option Value)) :
    MeetsIn prog w (Builtin.«tuple.__eq__» ⟨[.ref l, .ref b], []⟩)
      (fun A R s => s.heap.get? l = some { cls := .type "tuple", dict := d1, data := .seq p n, slots := sl1 } ∧ s.heap.get? b = some { cls := .type "tuple", dict := d2, data := .seq q m, slots := sl2 } ∧
        ∃ c, Cmp prog w A.in1 s (p.toList.zip q.toList) c ∧ R (.ok (.ret (.bool (c && p.size == q.size)))) s) :=
  .of_wp fun A R s0 h => by
    obtain ⟨g1, g2, c0, hc, hR⟩ := h
    obtain ⟨hp, g, d, tk, os⟩ := s0
    have sub := AutoSeq1.sub_tuple_tuple
    wp_walk using wpAny_loadPart' g1, wpAny_loadPart' g2, wpAny_forIn_list _ (fun rest z s' => z.1 = none ∧ s' = ⟨hp, g, d, tk, os⟩ ∧ ∃ c, Cmp prog w A.in1 ⟨hp, g, d, tk, os⟩ rest c ∧ R (.ok (.ret (.bool (c && p.size == q.size)))) ⟨hp, g, d, tk, os⟩) _
    case turn =>
      rintro ⟨x, y⟩ rest z s' ⟨_, rfl, c, hc, hR⟩
      obtain ⟨a, b, rfl, hxy, hr⟩ := hc.inv
      refine wpAny_bind (hxy _ _ ?_)
      cases a with
      | false =>
        wp_walk
        exact ⟨_, rfl, hR⟩
      | true =>
        wp_walk
        exact ⟨rfl, rfl, b, hr rfl, hR⟩
    case fin =>
      rintro ⟨z1, z2⟩ s' ⟨hz, rfl, c, hc, hR⟩
      cases hc
      have e : z1 = none := hz
      subst e
      wp_walk
      exact ⟨_, rfl, by simpa [Builtin.Tuple.tupleCompareSizes] using hR⟩
    case h =>
      exact ⟨rfl, rfl, c0, hc, hR⟩
theorem rcCmp {A : Around} {s : Shared} {l b : Addr} {p q : Array Value} {c : Bool} (h1 : s.heap.IsTuple l p) (h2 : s.heap.IsTuple b q) (hu : A.units < cLine) (hc : Cmp prog w A.in1 s (p.toList.zip q.toList) c)
    (E Q : Value → Shared → Prop) (k : Q (.bool (c && p.size == q.size)) s) : wpAny (model prog w) A (richCompare .Eq (.ref l) (.ref b)) Q E s := by
  obtain ⟨⟨_, d1, _, sl1⟩, o1, e1, n, e2⟩ := h1
  obtain ⟨⟨_, d2, _, sl2⟩, o2, e3, m, e4⟩ := h2
  simp only at e1 e2 e3 e4
  subst e1 e2 e3 e4
  have t1 : s.TypeIs (.ref l) "tuple" := ⟨_, o1, rfl⟩
  have t2 : s.TypeIs (.ref b) "tuple" := ⟨_, o2, rfl⟩
  refine wpAny_richCompare_same_room (op := .Eq) t1 t2 F.slot_tuple_eq (call_meetsIn F.slot_tuple_eq t1 F.entry_tuple_eq (F.args_tuple_eq_2 _ _) (tupCmp l b p q n m d1 d2 sl1 sl2) ⟨o1, o2, c, hc, ?_⟩) hu
  exact ⟨(fun z => nomatch z), k⟩
end
end PySem.SeqAt
namespace DB
open PySem PySem.Spec PyProof.Rows L2
/-- data, or flat ones -/
def EbD (K : PySem.W.Frag) (H : Hp) (x y : V) (c : Bool) : Prop := (flatV x = true ∧ flatV y = true ∧ c = eqV x y) ∨ ∃ d1 d2, Dp K H x d1 ∧ Dp K H y d2 ∧ SeqAt.shaped d1 = true ∧ SeqAt.shaped d2 = true ∧ c = PyData.eqv d1 d2
/-- two rows compared from the left -/
inductive EbL (F : V → V → Bool → Prop) : List V → List V → Bool → Prop
  | nilL {ys : List V} : EbL F [] ys true
  | nilR {xs : List V} : EbL F xs [] true
  | cons {x y : V} {xs ys : List V} {a b : Bool} (h : F x y a) (t : a = true → EbL F xs ys b) : EbL F (x :: xs) (y :: ys) (a && b)
/-- how two values compare: data, tuples, dicts, down to the depth n -/
def Eb (K : PySem.W.Frag) (H : Hp) : Nat → V → V → Bool → Prop
  | 0 => fun x y c => EbD K H x y c
  | n + 1 => fun x y c => EbD K H x y c ∨
      (∃ (a b : Addr) (xs ys : List V) (e : Bool), x = .ref a ∧ y = .ref b ∧ SqT K H a xs ∧ SqT K H b ys ∧ (a = b → c = true) ∧ EbL (Eb K H n) xs ys e ∧ c = (e && xs.length == ys.length)) ∨
      ∃ (a b : Addr) (ka kb : List (Key × V)) (e : Key → Bool), x = .ref a ∧ y = .ref b ∧ H a = some (.dK ka) ∧ H b = some (.dK kb) ∧ (a = b → c = true) ∧ (∀ k v u, (k, v) ∈ ka → valV kb k = some u → Eb K H n v u (e k)) ∧ c = (ka.length == kb.length && ka.all fun p => (valV kb p.1).isSome && e p.1)
section
variable {X : Cx} {pins : List (Addr × Obj)} {σ : L2.St} {H : Hp} {s : Shared}
theorem hitsB {A : Around} {n : Nat} {e : Key → Bool} (ih : ∀ x y v u c, Eb X.K H n x y c → RelV x v → RelV y u → SeqAt.EqP X.prog X.w A s v u c) {ls : List (Key × V)} {vb : List (Key × Value)} (rb : KV ls vb) {ks : List (Key × V)} {va : List (Key × Value)}
    (ra : KV ks va) : (∀ k v u, (k, v) ∈ ks → valV ls k = some u → Eb X.K H n v u (e k)) → PySem.W.KeqHitsP X.prog X.w A s vb va (ks.all fun p => (valV ls p.1).isSome && e p.1) := by
  unfold KV at ra
  induction ra with
  | nil => intro _; exact .nil
  | @cons p q ps qs h t k =>
    intro hp
    obtain ⟨h1, h2⟩ := h
    obtain ⟨key, v⟩ := q
    obtain ⟨kk, pv⟩ := p
    have h1' : kk = key := h1
    subst h1'
    have rr := rb.val kk
    rw [List.all_cons]
    cases hv : valV ls kk with
    | none =>
      rw [hv] at rr
      have hn : valueAt vb kk = none := by
        cases hb : valueAt vb kk with
        | none => rfl
        | some y => rw [hb] at rr; exact (show False from rr).elim
      exact .miss hn
    | some u =>
      rw [hv] at rr
      obtain ⟨y, hy, ry⟩ := rr.some_of
      exact .hit hy (ih _ _ _ _ _ (hp kk pv u List.mem_cons_self hv) h2 ry) (k fun k' v' u' hm hv' => hp k' v' u' (List.mem_cons_of_mem _ hm) hv')
theorem data_run (I : Inv X pins σ H s) {A : Around} (hu : A.units + 70 < cLine) {x y : V} {v u : Value} {c : Bool} (h : EbD X.K H x y c) (rx : RelV x v) (ry : RelV y u) : SeqAt.EqP X.prog X.w A s v u c := by
  rcases h with ⟨f1, f2, rfl⟩ | ⟨d1, d2, h1, h2, s1, s2, rfl⟩
  · exact (eqAt_V rx ry f1 f2).eqP
  obtain ⟨as, r1⟩ := Dp.reads I d1 x v h1 rx
  obtain ⟨bs, r2⟩ := Dp.reads I d2 y u h2 ry
  exact (SeqAt.eqAt_reads d1 d2 A s v u as bs r1 r2 (SeqAt.canLay_of_shaped s1) (SeqAt.canLay_of_shaped s2) (SeqAt.room_of_shaped s1 (by omega))).eqP
/-- the comparison itself of two objects -/
theorem rc_run (I : Inv X pins σ H s) {A : Around} {n : Nat} (hu : A.units + 1 < cLine) (ih : ∀ x y v u c, Eb X.K H n x y c → RelV x v → RelV y u → SeqAt.EqP X.prog X.w A.in1 s v u c) {a b : Addr} {c : Bool} 
    (h : (∃ (xs ys : List V) (e : Bool), SqT X.K H a xs ∧ SqT X.K H b ys ∧ EbL (Eb X.K H n) xs ys e ∧ c = (e && xs.length == ys.length)) ∨
      ∃ (ka kb : List (Key × V)) (e : Key → Bool), H a = some (.dK ka) ∧ H b = some (.dK kb) ∧ (∀ k v u, (k, v) ∈ ka → valV kb k = some u → Eb X.K H n v u (e k)) ∧ c = (ka.length == kb.length && ka.all fun p => (valV kb p.1).isSome && e p.1))
    (E Q : Value → Shared → Prop) (q : Q (.bool c) s) : wpAny (model X.prog X.w) A (richCompare .Eq (.ref a) (.ref b)) Q E s := by
  rcases h with ⟨xs, ys, e, ha, hb, hp, rfl⟩ | ⟨ka, kb, e, ha, hb, hp, rfl⟩
  · obtain ⟨us, r1, p1, -⟩ := I.tuple ha
    obtain ⟨ws, r2, p2, -⟩ := I.tuple hb
    refine SeqAt.rcCmp (c := e) p1 p2 (by omega) ?_ E Q ?_
    · show SeqAt.Cmp X.prog X.w A.in1 s (us.zip ws) e
      clear p1 p2 ha hb q
      induction hp generalizing us ws with
      | nilL => cases r1; exact .nil
      | nilR => cases r2; rw [List.zip_nil_right]; exact .nil
      | cons h _ k =>
        cases r1 with
        | cons a1 b1 =>
          cases r2 with
          | cons a2 b2 => exact .cons (ih _ _ _ _ _ h a1 a2) fun z => k z _ b1 _ b2
    · rw [List.size_toArray, List.size_toArray, ← r1.length, ← r2.length]
      exact q
  · obtain ⟨_, ya, va, ra, da⟩ := (show ObjOk X.prog X.w H s.heap a (.dK ka) from I.hok a _ ha)
    obtain ⟨_, yb, vb, rb, db⟩ := (show ObjOk X.prog X.w H s.heap b (.dK kb) from I.hok b _ hb)
    refine PySem.W.rcP_dicts (knd := mixKind X.prog X.w) (r := ka.all fun p => (valV kb p.1).isSome && e p.1) ya yb da db (by omega) (fun _ => hitsB ih rb ra hp) E Q ?_
    rw [ra.length, rb.length] at q
    exact q
theorem eb_run (I : Inv X pins σ H s) : ∀ (n : Nat) (A : Around), A.units + n + 70 < cLine → ∀ (x y : V) (v u : Value) (c : Bool), Eb X.K H n x y c → RelV x v → RelV y u → SeqAt.EqP X.prog X.w A s v u c
  | 0, A, hu, x, y, v, u, c, h, rx, ry => by
    exact data_run I (by omega) h rx ry
  | n + 1, A, hu, x, y, v, u, c, h, rx, ry => by
    have ih := eb_run I n A.in1 (by show A.units + 1 + n + 70 < cLine; omega)
    rcases h with h | ⟨a, b, xs, ys, e, rfl, rfl, ha, hb, hs, hp, hc⟩ | ⟨a, b, ka, kb, e, rfl, rfl, ha, hb, hs, hp, hc⟩
    · exact data_run I (by omega) h rx ry
    · cases (show v = Value.ref a from rx)
      cases (show u = Value.ref b from ry)
      by_cases e1 : a = b
      · rw [hs e1, e1]
        exact (SeqAt.EqAt.same _).eqP
      · exact SeqAt.eqP_refs e1 fun E Q q => rc_run I (by omega) ih (.inl ⟨xs, ys, e, ha, hb, hp, hc⟩) E Q q
    · cases (show v = Value.ref a from rx)
      cases (show u = Value.ref b from ry)
      by_cases e1 : a = b
      · rw [hs e1, e1]
        exact (SeqAt.EqAt.same _).eqP
      · exact SeqAt.eqP_refs e1 fun E Q q => rc_run I (by omega) ih (.inr ⟨ka, kb, e, ha, hb, hp, hc⟩) E Q q
end
/-- d == e of two dicts of data -/
def rEqDB (K : PySem.W.Frag) : R2 := fun x y H Q => ∃ (n : Nat) (a b : Addr) (ka kb : List (Key × V)) (e : Key → Bool), n ≤ 20 ∧ x = .ref a ∧ y = .ref b ∧ H a = some (.dK ka) ∧ H b = some (.dK kb) ∧ (∀ k v u, (k, v) ∈ ka → valV kb k = some u → Eb K H n v u (e k)) ∧ Q (.bl (ka.length == kb.length && ka.all fun p => (valV kb p.1).isSome && e p.1)) H
theorem op_eqDB {X : Cx} (hu : X.A.units + 100 < cLine) : OpR X (compareOp .Eq) (rEqDB X.K) := by
  intro pins s σ H x y v u Q I rx ry h
  obtain ⟨n, a, b, ka, kb, e, hn, rfl, rfl, ha, hb, hp, q⟩ := h
  cases (show v = Value.ref a from rx)
  cases (show u = Value.ref b from ry)
  exact rc_run I (by omega) (eb_run I n X.A.in1 (by show X.A.units + 1 + n + 70 < cLine; omega)) (.inr ⟨ka, kb, e, ha, hb, hp, rfl⟩) _ _ ⟨.bl _, H, I, rfl, q⟩
theorem op_or {X : Cx} {f : Value → Value → Sem Value} {r1 r2 : R2} (h1 : OpR X f r1) (h2 : OpR X f r2) : OpR X f (fun x y H Q => r1 x y H Q ∨ r2 x y H Q) := fun pins s σ H x y v u Q I rx ry h => h.elim (h1 pins s σ H x y v u Q I rx ry) (h2 pins s σ H x y v u Q I rx ry)
theorem un100 {k : Nat} {A : Around} (r : Room k A) : A.units + 100 < cLine := by
  have := r.un
  omega
end DB

set_option Elab.async false
set_option linter.all false
set_option maxRecDepth 100000
set_option maxHeartbeats 4000000
namespace KS.La
open PySem PySem.Spec PyProof.Rows L2
/-! ### the feed -/
/-- all but the list at f stands -/
def Kp (f : Addr) (H H' : Hp) : Prop := ∀ b o, b ≠ f → H b = some o → H' b = some o
def Fd (H : Hp) (f : Addr) : Prop := ∃ x y : Int, H f = some (.lst [.int x, .int y]) ∧ 0 ≤ x ∧ 0 ≤ y
theorem Kp.refl (f : Addr) (H : Hp) : Kp f H H := fun _ _ _ h => h
theorem Kp.trans {f : Addr} {H H1 H2 : Hp} (a : Kp f H H1) (b : Kp f H1 H2) : Kp f H H2 := fun c o n h => b c o n (a c o n h)
theorem Kp.put {f : Addr} {H : Hp} {o : HO} : Kp f H (upd H f o) := fun b u n h => by
  rw [upd_ne n]
  exact h
theorem Kp.new {f p : Addr} {H : Hp} {o : HO} (h : H p = none) : Kp f H (upd H p o) := fun b u _ e => by
  rw [upd_ne (ne_of_none e h)]
  exact e
theorem Kp.same {f : Addr} {H H' : Hp} (s : Same H H') : Kp f H H' := fun b o _ h => s b o h
theorem Fd.same {f : Addr} {H H' : Hp} (s : Same H H') : Fd H f → Fd H' f := fun ⟨x, y, h, a, b⟩ => ⟨x, y, s _ _ h, a, b⟩
theorem Fd.new {f p : Addr} {H : Hp} {o : HO} (h : H p = none) (e : Fd H f) : Fd (upd H p o) f := e.same (sameUpd h)
theorem Fd.put {f : Addr} {H : Hp} {x y : Int} (hx : 0 ≤ x) (hy : 0 ≤ y) : Fd (upd H f (.lst [.int x, .int y])) f := ⟨x, y, upd_same, hx, hy⟩
/-! ### promises -/
def spFeed (K : PySem.W.Frag) : Sp := fun vs H Q _ => ∃ (a : Addr) (ns : List Int) (k : Int), vs = [.ref a, .int k] ∧ SqL K H a (ns.map V.int) ∧ ns.length ≤ 63 ∧ 0 ≤ k ∧ k < 1000 ∧ ∀ p H', Same H H' → H p = none → Fd H' p → Q (.ref p) H'
def spDraw : Sp := fun vs H Q _ => ∃ (f : Addr) (n : Int), vs = [.ref f, .int n] ∧ Fd H f ∧ 0 < n ∧ n < 1000000 ∧ ∀ (r : Int) H', 0 ≤ r → r < n → Kp f H H' → Fd H' f → Q (.int r) H'
def spPick (K : PySem.W.Frag) : Sp := fun vs H Q _ => ∃ (f l : Addr) (xs : List V), vs = [.ref f, .ref l] ∧ Fd H f ∧ SqL K H l xs ∧ l ≠ f ∧ 0 < xs.length ∧ xs.length < 1000 ∧ ∀ (i : Nat) (v : V) H', xs[i]? = some v → Kp f H H' → Fd H' f → Q v H'
def spCalls : Sp := fun vs H Q _ => vs = [] ∧ ∀ p, H p = none → Q (.ref p) (upd H p (.lst [.str "make", .str "", .str "r 2", .str "Mend!", .str "m"]))
def TOk (z : Str) : Prop := SOk z ∧ z.length ≤ 1000
instance (z : Str) : Decidable (TOk z) := by unfold TOk SOk; infer_instance
theorem sokFold : ∀ (l : List (Array Nat)) (a : Array Nat), a.all (· < 0x110000) = true → (∀ b ∈ l, b.all (· < 0x110000) = true) → (l.foldl (· ++ ·) a).all (· < 0x110000) = true
  | [], _, h, _ => h
  | b :: l, a, h, k => sokFold l (a ++ b) (by rw [Array.all_append, h, k b (List.mem_cons_self ..)]; rfl) fun c hc => k c (List.mem_cons_of_mem _ hc)
theorem sokMul {z : Str} {n : Int} (h : SOk z) : SOk (Txt.mul z n) := by
  unfold Txt.mul
  split
  · (show Str.empty.cps.all (· < 0x110000) = true; decide +kernel)
  · split
    · exact h
    · exact sokFold _ #[] (by simp) fun b hb => by rw [List.eq_of_mem_replicate hb]; exact h
theorem tokMul {z : Str} {n : Int} {c : Nat} (h : SOk z) (e : z = ⟨#[c]⟩) (m : n ≤ 1000) : TOk (Txt.mul z n) := ⟨sokMul h, len_mul_one (N := 1000) e m⟩
def spText : Sp := fun vs H Q _ => ∃ f : Addr, vs = [.ref f] ∧ Fd H f ∧ ∀ (z : Str) H', TOk z → Kp f H H' → Fd H' f → Q (.str z) H'
section
variable {P : Program} {w : World} {K : PySem.W.Frag} {mg : Str → Option Value} {base : Heap} {f : Addr} {fd : FuncData}
theorem scFeed : FnScope ["_law_script", "_law_k", "_law_cell", "_law_great"] ["_law_script", "_law_k"] (defScope lFeed) := ⟨rfl, rfl, rfl, by decide +kernel, rfl, by decide +kernel, by decide +kernel⟩
theorem seqNat {ns : List Int} {k : Int} (h0 : 0 ≤ k) (h : k < (ns.length : Int)) : ∃ n : Int, atI (ns.map V.int) k = some (.int n) := by
  obtain ⟨j, rfl⟩ : ∃ j : Nat, k = (j : Int) := ⟨k.toNat, by omega⟩
  have hj : j < ns.length := by omega
  refine ⟨ns[j], atI_nat ?_⟩
  rw [List.getElem?_map, List.getElem?_eq_getElem hj]
  rfl
theorem okFeed {k : Nat} (F : FnP K "_law_feed_of" lFeed f fd) (ml : mg "len" = none) : FnOk P w K mg base CX0 (k + 1) f fd ["_law_script", "_law_k"] (spFeed K) := by
  refine F.ok scFeed (fun vs H Q E h => ?_) (fun cdv A outer s H vs Q E hr h => ?_)
  · obtain ⟨a, ns, k, rfl, _⟩ := h
    rfl
  · obtain ⟨a, ns, n, rfl, hS, hlen, hn0, hn1, q⟩ := h
    refine ⟨_, PSs.nox (pss_cons (ps_set (i := 2) scFeed.nd rfl (.inl rfl) (pe_op op_add (pe_op op_mul pe_int (pv 1)) pe_int))
      (C8.pss_cut (ps_if (pt_cmpR op_lt (pv 1) (pe_callB call_len_seq (by rfl) ml PySem.boot_len (pa_cons (pv 0) pa_nil)) (nomark _)) (pss_one (ps_set (i := 2) scFeed.nd rfl (.inl rfl) (pe_ix ix_list (pv 0) (pv 1) (fun _ _ => rfl)))) pss_nil)
      (C8.pss_cut (ps_if (pt_cmpR op_lt (pv 2) pe_int (nomark _)) (pss_one (ps_set (i := 2) scFeed.nd rfl (.inl rfl) (pe_op op_sub pe_int (pe_op op_mul pe_int (pv 2))))) pss_nil)
      (C8.pss_cut (ps_set (i := 3) scFeed.nd rfl (.inl rfl) (pe_ifExp (pt_cmpR op_ge (pv 2) (pe_op op_pow pe_int pe_int) (nomark _)) (pv 2) pe_int))
      (pss_one (ps_ret (pe_lst (pa_cons (pv 3) (pa_cons (pe_op op_add (pe_op op_add (pe_op op_mod (pv 2) pe_int) (pe_op op_mul pe_int (pv 1))) pe_int) pa_nil))))))))), ?_⟩
    refine ⟨.int n, rfl, 9029, n, rfl, rfl, .inl ⟨by decide, by decide⟩, 9029 * n, 31, rfl, rfl, ?_⟩
    refine ⟨fun σ' H' => H' = H ∧ ∃ c : Int, σ' = [some (.ref a), some (.int n), some (.int c), none], ?_, ?_⟩
    · refine ⟨.int n, rfl, .ref a, rfl, a, _, rfl, .inl hS, n, _, rfl, rfl, _, rfl, ite2 (fun e => ?_) (fun _ => ?_)⟩
      · have e1 : n < ((ns.map V.int).length : Int) := of_decide_eq_true e
        rw [List.length_map] at e1
        obtain ⟨c, hc⟩ := seqNat hn0 e1
        exact ⟨.ref a, rfl, .int n, rfl, a, _, n, _, rfl, rfl, hS, hc, rfl, c, rfl⟩
      · exact ⟨rfl, _, rfl⟩
    rintro σ' H' ⟨rfl, c, rfl⟩
    refine ⟨fun σ' H2 => H2 = H' ∧ ∃ c : Int, 0 ≤ c ∧ σ' = [some (.ref a), some (.int n), some (.int c), none], ?_, ?_⟩
    · refine ⟨.int c, rfl, c, 0, rfl, rfl, _, rfl, ite2 (fun e => ?_) (fun e => ?_)⟩
      · have e1 : c < 0 := of_decide_eq_true e
        exact ⟨.int c, rfl, 7, c, rfl, rfl, .inl ⟨by decide, by decide⟩, 5, 7 * c, rfl, rfl, rfl, 5 - 7 * c, by omega, rfl⟩
      · have e1 : ¬ c < 0 := fun z => e (decide_eq_true z)
        exact ⟨rfl, c, by omega, rfl⟩
    rintro σ' H2 ⟨rfl, d, hd, rfl⟩
    refine ⟨fun σ' H3 => H3 = H2 ∧ ∃ g : Int, 0 ≤ g ∧ σ' = [some (.ref a), some (.int n), some (.int d), some (.int g)], ?_, ?_⟩
    · refine ⟨.int d, rfl, 10, 18, rfl, rfl, ⟨by decide, by decide, by decide⟩, d, _, rfl, rfl, _, rfl, ite2 (fun _ => ?_) (fun _ => ?_)⟩
      · exact ⟨.int d, rfl, rfl, d, hd, rfl⟩
      · exact ⟨rfl, 0, by decide, rfl⟩
    rintro σ' H3 ⟨rfl, g, hg, rfl⟩
    refine ⟨.int g, rfl, .int d, rfl, d, 1000003, rfl, rfl, (by show (0 : Int) < 1000003; decide), .int n, rfl, 11, n, rfl, rfl, .inl ⟨by decide, by decide⟩, _, _, rfl, rfl, _, _, rfl, rfl, (by show 2 ≤ sizeLine; decide), fun p hp => ?_⟩
    refine q p _ (sameUpd hp) hp ⟨_, _, upd_same, hg, ?_⟩
    have := Int.emod_nonneg d (show (1000003 : Int) ≠ 0 by decide)
    omega
theorem scDraw : FnScope ["_law_feed", "_law_many", "_law_digit"] ["_law_feed", "_law_many"] (defScope lDraw) := ⟨rfl, rfl, rfl, by decide +kernel, rfl, by decide +kernel, by decide +kernel⟩
theorem okDraw {k : Nat} (F : FnP K "_law_draw" lDraw f fd) : FnOk P w K mg base CX0 (k + 1) f fd ["_law_feed", "_law_many"] spDraw := by
  refine F.ok scDraw (fun vs H Q E h => ?_) (fun cdv A outer s H vs Q E hr h => ?_)
  · obtain ⟨a, n, rfl, _⟩ := h
    rfl
  · obtain ⟨a, n, rfl, ⟨x, y, hf, hx, hy⟩, hn0, hn1, q⟩ := h
    have hS : ∀ {x y : Int} {H : Hp}, H a = some (.lst [.int x, .int y]) → SqL K H a [.int x, .int y] := fun h => .inl (.inl h)
    refine ⟨_, PSs.nox (pss_cons (ps_if (pt_cmpR op_gt (pe_ix ix_list (pv 0) pe_int (fun _ _ => rfl)) pe_int (nomark _))
        (pss_cons (ps_set (i := 2) scDraw.nd rfl (.inl rfl) (pe_op op_modN (pe_ix ix_list (pv 0) pe_int (fun _ _ => rfl)) (pv 1)))
        (pss_cons (ps_asg (pe_op op_fdivN (pe_ix ix_list (pv 0) pe_int (fun _ _ => rfl)) (pv 1)) (pg_sub (pv 0) pe_int set_list))
        (pss_one (ps_ret (pv 2))))) pss_nil)
      (pss_cons (ps_asg (pe_op op_mod (pe_op op_add (pe_op op_mul (pe_ix ix_list (pv 0) pe_int (fun _ _ => rfl)) pe_int) pe_int) pe_int) (pg_sub (pv 0) pe_int set_list))
      (pss_one (ps_ret (pe_op op_modN (pe_op op_fdiv (pe_ix ix_list (pv 0) pe_int (fun _ _ => rfl)) pe_int) (pv 1)))))), ?_⟩
    refine ⟨.ref a, rfl, a, _, 0, .int x, rfl, rfl, hS hf, atI_nat (j := 0) rfl, x, 0, rfl, rfl, _, rfl, ite2 (fun e => ?_) (fun e => ?_)⟩
    · refine ⟨.ref a, rfl, a, _, 0, .int x, rfl, rfl, hS hf, atI_nat (j := 0) rfl, .int n, rfl, x, n, rfl, rfl, (by show n ≠ 0; omega), ?_⟩
      refine ⟨.ref a, rfl, a, _, 0, .int x, rfl, rfl, hS hf, atI_nat (j := 0) rfl, .int n, rfl, x, n, rfl, rfl, ⟨(by omega), (by omega)⟩, ?_⟩
      refine ⟨.ref a, rfl, a, _, _, 0, rfl, rfl, hf, rfl, ?_⟩
      refine ⟨_, rfl, ?_⟩
      show Q (.int (x.fmod n)) (upd H a (.lst [.int (x.fdiv n), .int y]))
      rw [Int.fmod_eq_emod_of_nonneg x (by omega), Int.fdiv_eq_ediv_of_nonneg x (by omega)]
      exact q (x % n) _ (Int.emod_nonneg x (by omega)) (Int.emod_lt_of_pos x hn0) Kp.put (Fd.put (Int.ediv_nonneg hx (by omega)) hy)
    · refine ⟨.ref a, rfl, a, _, 1, .int y, rfl, rfl, hS hf, atI_nat (j := 1) rfl, y, 48271, rfl, rfl, .inr ⟨by decide, by decide⟩, _, 11, rfl, rfl, _, 2147483647, rfl, rfl, (by show (0 : Int) < 2147483647; decide), ?_⟩
      refine ⟨.ref a, rfl, a, _, _, 1, rfl, rfl, hf, rfl, ?_⟩
      have hm := Int.emod_nonneg (y * 48271 + 11) (show (2147483647 : Int) ≠ 0 by decide)
      refine ⟨.ref a, rfl, a, [.int x, .int ((y * 48271 + 11) % 2147483647)], 1, .int ((y * 48271 + 11) % 2147483647), rfl, rfl, hS upd_same, atI_nat (j := 1) rfl, (y * 48271 + 11) % 2147483647, 127, rfl, rfl, ⟨by decide, by decide⟩, ?_⟩
      refine ⟨.int n, rfl, _, n, rfl, rfl, (by show n ≠ 0; omega), ?_⟩
      show Q (.int (((y * 48271 + 11) % 2147483647 / 127).fmod n)) (upd H a (.lst [.int x, .int ((y * 48271 + 11) % 2147483647)]))
      rw [Int.fmod_eq_emod_of_nonneg _ (by omega)]
      exact q _ _ (Int.emod_nonneg _ (by omega)) (Int.emod_lt_of_pos _ hn0) Kp.put (Fd.put hx hm)
theorem scPick : FnScope ["_law_feed", "_law_items"] ["_law_feed", "_law_items"] (defScope lPick) := ⟨rfl, rfl, rfl, by decide +kernel, rfl, by decide +kernel, by decide +kernel⟩
theorem okPick {k : Nat} (F : FnP K "_law_pick" lPick f fd) (ml : mg "len" = none) (D : Has P w K mg base (k + 1) "_law_draw" ["_law_feed", "_law_many"] spDraw) : FnOk P w K mg base CX0 (k + 2) f fd ["_law_feed", "_law_items"] (spPick K) := by
  obtain ⟨fD, fdD, gD, kD, bD, GD⟩ := D.ex
  refine F.ok scPick (fun vs H Q E h => ?_) (fun cdv A outer s H vs Q E hr h => ?_)
  · obtain ⟨a, l, xs, rfl, _⟩ := h
    rfl
  · obtain ⟨a, l, xs, rfl, hF, hL, ne, h0, h1, q⟩ := h
    refine ⟨_, PSs.nox (pss_one (ps_ret (pe_ix ix_list (pv 1) (pe_call GD hr (by rfl) gD kD bD .nil pass0 (pa_cons (pv 0) (pa_cons (pe_callB call_len_seq (by rfl) ml PySem.boot_len (pa_cons (pv 1) pa_nil)) pa_nil))) (fun _ _ => rfl)))), ?_⟩
    refine ⟨.ref l, rfl, .ref a, rfl, .ref l, rfl, l, xs, rfl, .inl hL, ?_⟩
    refine ⟨a, (xs.length : Int), rfl, hF, by omega, by omega, fun r H' r0 r1 kp fd' => ?_⟩
    obtain ⟨j, rfl⟩ : ∃ j : Nat, r = (j : Int) := ⟨r.toNat, by omega⟩
    have hj : j < xs.length := by omega
    have hv : xs[j]? = some xs[j] := List.getElem?_eq_getElem hj
    have hL' : SqL K H' l xs := by
      rcases hL with (h | ⟨o, h⟩) | h
      · exact .inl (.inl (kp _ _ ne h))
      · exact .inl (.inr ⟨o, kp _ _ ne h⟩)
      · exact .inr h
    exact ⟨l, xs, _, _, rfl, rfl, hL', atI_nat hv, q j _ H' hv kp fd'⟩
theorem scCalls : FnScope [] [] (defScope lCalls) := ⟨rfl, rfl, rfl, by decide +kernel, rfl, by decide +kernel, by decide +kernel⟩
theorem okCalls {k : Nat} (F : FnP K "_law_calls" lCalls f fd) : FnOk P w K mg base CX0 (k + 1) f fd [] spCalls := by
  refine F.ok scCalls (fun vs H Q E h => ?_) (fun cdv A outer s H vs Q E hr h => ?_)
  · obtain ⟨rfl, _⟩ := h
    rfl
  · obtain ⟨rfl, q⟩ := h
    refine ⟨_, PSs.nox (pss_one (ps_ret (pe_lst (pa_cons pe_str (pa_cons pe_str (pa_cons pe_str (pa_cons pe_str (pa_cons pe_str pa_nil)))))))), ?_⟩
    exact ⟨(by show 5 ≤ sizeLine; decide), fun p hp => q p hp⟩
/-- z * n, z one sign -/
def rRepX : R2 := fun x y H Q => ∃ (z : Str) (n : Int), x = .str z ∧ y = .int n ∧ z.length = 1 ∧ 0 ≤ n ∧ n ≤ 1000 ∧ Q (.str (Txt.mul z n)) H
theorem opRepX {X : Cx} : OpR X (binaryOp .Mult) rRepX := by
  intro pins s σ H x y v u Q I rx ry h
  obtain ⟨z, n, rfl, rfl, hz, h0, h1, q⟩ := h
  obtain ⟨t, rfl⟩ := rx
  obtain ⟨t', rfl⟩ := ry
  refine SB.mul ⟨?_, fun g _ => ?_, fun _ _ => ?_⟩ fun t2 k => ⟨.str (Txt.mul z n), H, I.tok k, ⟨t2, rfl⟩, q⟩
  · simp
    omega
  · rw [hz]
    have hn : 0 < n := by omega
    have hle : (1 : Int) ≤ (2 ^ 63 - 1) / n := by
      rw [Int.le_ediv_iff_mul_le hn]
      omega
    show ¬ ((1 : Nat) : Int) > (2 ^ 63 - 1) / n
    omega
  · rw [hz]
    unfold Builtin.Str.tooLong
    rw [decide_eq_false_iff_not, sizeLine_eq]
    omega
theorem scTxt : FnScope ["_law_feed", "_law_form", "_law_many"] ["_law_feed"] (defScope lText) := ⟨rfl, rfl, rfl, by decide +kernel, rfl, by decide +kernel, by decide +kernel⟩
theorem okTxt {k : Nat} (F : FnP K "_law_some_text" lText f fd) (D : Has P w K mg base (k + 1) "_law_draw" ["_law_feed", "_law_many"] spDraw) (Pk : Has P w K mg base (k + 2) "_law_pick" ["_law_feed", "_law_items"] (spPick K))
    (Ca : Has P w K mg base (k + 1) "_law_calls" [] spCalls) : FnOk P w K mg base CX0 (k + 3) f fd ["_law_feed"] spText := by
  obtain ⟨fD, fdD, gD, kD, bD, GD⟩ := D.ex
  obtain ⟨fP, fdP, gP, kP, bP, GP⟩ := Pk.ex
  obtain ⟨fC, fdC, gC, kC, bC, GC⟩ := Ca.ex
  refine F.ok scTxt (fun vs H Q E h => ?_) (fun cdv A outer s H vs Q E hr h => ?_)
  · obtain ⟨a, rfl, _⟩ := h
    rfl
  · obtain ⟨a, rfl, hF, q⟩ := h
    have hr1 : Room (k + 1) _ := hr.mono (by omega)
    refine ⟨_, PSs.nox (pss_cons (ps_set (i := 1) scTxt.nd rfl (.inl rfl) (pe_call GD hr1 (by rfl) gD kD bD .nil pass0 (pa_cons (pv 0) (pa_cons (pe_int) pa_nil)))) (pss_cons (ps_if (pt_cmpR op_eq (pv 1) pe_int (nomark _)) (pss_one (ps_ret (pe_call GP hr (by rfl) gP kP bP .nil pass0 (pa_cons (pv 0) (pa_cons (pe_call0 GC hr1 (by rfl) gC kC bC .nil pass0) pa_nil))))) pss_nil) (pss_cons (ps_if (pt_cmpR op_eq (pv 1) pe_int (nomark _))
        (pss_cons (ps_set (i := 2) scTxt.nd rfl (.inl rfl) (pe_ix ix_list (pe_lst (pa_cons (pe_op op_add pe_int (pe_call GD hr1 (by rfl) gD kD bD .nil pass0 (pa_cons (pv 0) (pa_cons (pe_int) pa_nil)))) (pa_cons (pe_int) pa_nil)))
          (pe_op op_fdiv (pe_call GD hr1 (by rfl) gD kD bD .nil pass0 (pa_cons (pv 0) (pa_cons (pe_int) pa_nil))) pe_int) (fun _ _ => rfl))) (pss_one (ps_ret (pe_call GP hr (by rfl) gP kP bP .nil pass0 (pa_cons (pv 0) (pa_cons (pe_lst (pa_cons (pe_str) (pa_cons (pe_str) (pa_cons (pe_str) (pa_cons (pe_str) (pa_cons (pe_str) (pa_cons (pe_op opRepX pe_str (pv 2)) (pa_cons (pe_str) (pa_cons (pe_str) (pa_cons (pe_str) (pa_cons (pe_str) pa_nil))))))))))) pa_nil)))))) pss_nil) (pss_one (ps_ret (pe_ix ix_list (pe_lst (pa_cons (pe_str) (pa_cons (pe_str) (pa_cons (pe_str) (pa_cons (pe_str) (pa_cons (pe_str) (pa_cons (pe_str) pa_nil))))))) (pv 1) (fun _ _ => rfl))))))), ?_⟩
    have neF : ∀ {H : Hp} {p : Addr}, Fd H a → H p = none → p ≠ a := fun ⟨x, y, e, _⟩ hp z => by
      rw [z, e] at hp
      cases hp
    refine ⟨.ref a, rfl, a, 8, rfl, hF, by decide, by decide, fun r H1 r0 r1 k1 F1 => ?_⟩
    refine ⟨.int r, rfl, rfl, _, rfl, ite2 (fun e => ?_) (fun e7 => ?_)⟩
    · -- the names of calls
      refine ⟨.ref a, rfl, rfl, fun p hp => ?_⟩
      refine ⟨a, p, _, rfl, F1.new hp, .inl (.inl upd_same), neF F1 hp, by decide, by decide, fun i v H2 hv k2 F2 => ?_⟩
      have kk : Kp a H H2 := (k1.trans (Kp.new hp)).trans k2
      match i, hv with
      | 0, hv => cases hv; exact q _ H2 (by decide +kernel) kk F2
      | 1, hv => cases hv; exact q _ H2 (by decide +kernel) kk F2
      | 2, hv => cases hv; exact q _ H2 (by decide +kernel) kk F2
      | 3, hv => cases hv; exact q _ H2 (by decide +kernel) kk F2
      | 4, hv => cases hv; exact q _ H2 (by decide +kernel) kk F2
    refine ⟨.int r, rfl, rfl, _, rfl, ite2 (fun e => ?_) (fun e6 => ?_)⟩
    · -- one of ten
      refine ⟨.ref a, rfl, a, 90, rfl, F1, by decide, by decide, fun r2 H2 r20 r21 k2 F2 => ⟨1, r2, rfl, rfl, ?_⟩⟩
      refine ⟨(by show 2 ≤ sizeLine; decide), fun p hp => ?_⟩
      refine ⟨.ref a, rfl, a, 7, rfl, F2.new hp, by decide, by decide, fun r3 H3 r30 r31 k3 F3 => ⟨r3, 6, rfl, rfl, ⟨by decide, by decide⟩, ?_⟩⟩
      have hp3 : H3 p = some (.lst [.int (1 + r2), .int 400]) := k3 _ _ (neF F2 hp) upd_same
      obtain ⟨m, hm, m0, m1⟩ : ∃ m : Int, atI [V.int (1 + r2), .int 400] (r3 / 6) = some (.int m) ∧ 0 ≤ m ∧ m ≤ 1000 := by
        by_cases hz : r3 < 6
        · have e0 : r3 / 6 = 0 := by omega
          rw [e0]
          exact ⟨1 + r2, rfl, by omega, by omega⟩
        · have e0 : r3 / 6 = 1 := by omega
          rw [e0]
          exact ⟨400, rfl, by decide, by decide⟩
      refine ⟨p, _, _, .int m, rfl, rfl, .inl (.inl hp3), hm, ?_⟩
      refine ⟨.ref a, rfl, .int m, rfl, _, m, rfl, rfl, rfl, m0, m1, (by show 10 ≤ sizeLine; decide), fun p2 hp2 => ?_⟩
      refine ⟨a, p2, _, rfl, F3.new hp2, .inl (.inl upd_same), neF F3 hp2, (by show 0 < 10; decide), (by show 10 < 1000; decide), fun i v H4 hv k4 F4 => ?_⟩
      have kk : Kp a H H4 := ((((k1.trans k2).trans (Kp.new hp)).trans k3).trans (Kp.new hp2)).trans k4
      match i, hv with
      | 0, hv => cases hv; exact q _ H4 (by decide +kernel) kk F4
      | 1, hv => cases hv; exact q _ H4 (by decide +kernel) kk F4
      | 2, hv => cases hv; exact q _ H4 (by decide +kernel) kk F4
      | 3, hv => cases hv; exact q _ H4 (by decide +kernel) kk F4
      | 4, hv => cases hv; exact q _ H4 (by decide +kernel) kk F4
      | 5, hv => cases hv; exact q _ H4 (tokMul (c := 120) (by unfold SOk; decide +kernel) (by decide +kernel) m1) kk F4
      | 6, hv => cases hv; exact q _ H4 (by decide +kernel) kk F4
      | 7, hv => cases hv; exact q _ H4 (by decide +kernel) kk F4
      | 8, hv => cases hv; exact q _ H4 (by decide +kernel) kk F4
      | 9, hv => cases hv; exact q _ H4 (by decide +kernel) kk F4
    · have n7 : r ≠ 7 := fun z => e7 (by rw [z]; rfl)
      have n6 : r ≠ 6 := fun z => e6 (by rw [z]; rfl)
      refine ⟨(by show 6 ≤ sizeLine; decide), fun p hp => ?_⟩
      obtain ⟨z, sz, hz⟩ : ∃ z : Str, TOk z ∧ atI [V.str "0", .str "1", .str "0", .str "1", .str "", .str "10"] r = some (.str z) := by
        have hc : r = 0 ∨ r = 1 ∨ r = 2 ∨ r = 3 ∨ r = 4 ∨ r = 5 := by omega
        rcases hc with h | h | h | h | h | h <;> (rw [h]; first | exact ⟨"0", by decide +kernel, rfl⟩ | exact ⟨"1", by decide +kernel, rfl⟩ | exact ⟨"", by decide +kernel, rfl⟩ | exact ⟨"10", by decide +kernel, rfl⟩)
      exact ⟨.int r, rfl, p, _, _, .str z, rfl, rfl, .inl (.inl upd_same), hz, q z _ sz (k1.trans (Kp.new hp)) (F1.new hp)⟩
end
/-! ### values that are alike -/
inductive Fl : V → String → Prop
  | non : Fl .non "NoneType"
  | bl (b : Bool) : Fl (.bl b) "bool"
  | int (i : Int) : Fl (.int i) "int"
  | str (z : Str) : Fl (.str z) "str"
section
variable {K : PySem.W.Frag} {H : Hp}
theorem Fl.tyX {v : V} {t : String} (h : Fl v t) : TyX K H v (.type t) := by
  cases h
  · exact .base .non
  · exact .base (.bl _)
  · exact .base (.int _)
  · exact .base (.str _)
theorem Fl.noSeq {v : V} {t : String} (h : Fl v t) : PySem.W.kitAny K (.type t) [.type "list", .type "tuple"] = some false := by
  cases h <;> exact kitAny_cons (b := false) (kit_ty (by decide +kernel)) (fun _ => kitAny_cons (b := false) (kit_ty (by decide +kernel)) (fun _ => kitAny_nil) (fun z => z)) (fun z => z)
theorem Fl.kit {v : V} {t : String} (h : Fl v t) (c : String) (hc : c = "bool" ∨ c = "int" ∨ c = "str") : ∃ b, PySem.W.kitOne K (.type t) (.type c) = some b := by
  rcases hc with rfl | rfl | rfl <;> cases h <;> first | exact ⟨true, kit_ty (by decide +kernel)⟩ | exact ⟨false, kit_ty (by decide +kernel)⟩
theorem Fl.scal {v : V} {t : String} (h : Fl v t) : L2.scal v v = true := by
  cases h <;> rfl
theorem kitSeqL : PySem.W.kitAny K (.type "list") [.type "list", .type "tuple"] = some true := kitAny_cons (b := true) (kit_ty (by decide +kernel)) (fun z => by cases z) (fun _ => rfl)
theorem kitSeqT : PySem.W.kitAny K (.type "tuple") [.type "list", .type "tuple"] = some true := kitAny_cons (b := false) (kit_ty (by decide +kernel)) (fun _ => kitAny_cons (b := true) (kit_ty (by decide +kernel)) (fun z => by cases z) (fun _ => rfl)) (fun _ => rfl)
theorem SqL.tyX {a : Addr} {xs : List V} (h : SqL K H a xs) : TyX K H (.ref a) (.type "list") := by
  rcases h with (h | ⟨o, h⟩) | ⟨o, its, n, h, c, _⟩
  · exact .base (.lst h)
  · exact .base (.frz h)
  · exact .kList h c
theorem SqT.tyX {a : Addr} {xs : List V} (h : SqT K H a xs) : TyX K H (.ref a) (.type "tuple") := by
  rcases h with (h | ⟨o, h⟩) | ⟨o, its, n, h, c, _⟩
  · exact .base (.tup h)
  · exact .fTuple h
  · exact .kTuple h c
end
/-- alike down to the depth n -/
inductive Sv (K : PySem.W.Frag) (H : Hp) : Nat → V → V → Prop
  | flat {n : Nat} {v : V} {t : String} (h : Fl v t) : Sv K H n v v
  | lst {n : Nat} {a b : Addr} {xs ys : List V} (ha : SqL K H a xs) (hb : SqL K H b ys) (hl : xs.length = ys.length) (hz : xs.length ≤ 1000) (h : ∀ (i : Nat) v w, xs[i]? = some v → ys[i]? = some w → Sv K H n v w) : Sv K H (n + 1) (.ref a) (.ref b)
  | tup {n : Nat} {a b : Addr} {xs ys : List V} (ha : SqT K H a xs) (hb : SqT K H b ys) (hl : xs.length = ys.length) (hz : xs.length ≤ 1000) (h : ∀ (i : Nat) v w, xs[i]? = some v → ys[i]? = some w → Sv K H n v w) : Sv K H (n + 1) (.ref a) (.ref b)
  | dct {n : Nat} {a b : Addr} {ka kb : List (Key × V)} (ha : H a = some (.dK ka)) (hb : H b = some (.dK kb)) (hl : ka.length = kb.length) (h : ∀ p ∈ ka, ∃ z, p.2 = .str z ∧ valV kb p.1 = some p.2) : Sv K H n (.ref a) (.ref b)
theorem Sv.same {K : PySem.W.Frag} {H H' : Hp} (e : Same H H') {n : Nat} {v w : V} (h : Sv K H n v w) : Sv K H' n v w := by
  induction h with
  | flat h => exact .flat h
  | lst ha hb hl hz _ ih => exact .lst (e.seq ha) (e.seq hb) hl hz ih
  | tup ha hb hl hz _ ih => exact .tup (sameTup e ha) (sameTup e hb) hl hz ih
  | dct ha hb hl h => exact .dct (e _ _ ha) (e _ _ hb) hl h
theorem dctEb {K : PySem.W.Frag} {H : Hp} {ka kb : List (Key × V)} (h : ∀ p ∈ ka, ∃ z, p.2 = .str z ∧ valV kb p.1 = some p.2) : ∀ k v u, (k, v) ∈ ka → valV kb k = some u → DB.Eb K H 0 v u true := fun k v u hm hv => by
  obtain ⟨z, e, e2⟩ := h _ hm
  rw [hv] at e2
  have e3 := Option.some.inj e2
  have e4 : v = .str z := e
  have e5 : u = v := e3
  subst e5
  subst e4
  exact .inl ⟨rfl, rfl, (by show true = (z == z); simp)⟩
theorem dctAll {ka kb : List (Key × V)} (hl : ka.length = kb.length) (h : ∀ p ∈ ka, ∃ z, p.2 = .str z ∧ valV kb p.1 = some p.2) : (ka.length == kb.length && ka.all fun p => (valV kb p.1).isSome && true) = true := by
  rw [hl]
  simp only [beq_self_eq_true, Bool.true_and, Bool.and_true, List.all_eq_true]
  intro p hp
  obtain ⟨z, _, e⟩ := h p hp
  rw [e]
  rfl
theorem kitDct {K : PySem.W.Frag} : PySem.W.kitAny K (.type "dict") [.type "list", .type "tuple"] = some false := kitAny_cons (b := false) (kit_ty (by decide +kernel)) (fun _ => kitAny_cons (b := false) (kit_ty (by decide +kernel)) (fun _ => kitAny_nil) (fun z => z)) (fun z => z)
theorem tyDct {K : PySem.W.Frag} {H : Hp} {a : Addr} {ka : List (Key × V)} (h : H a = some (.dK ka)) : TyX K H (.ref a) (.type "dict") := .base (.dK h)
def spSame (K : PySem.W.Frag) (n : Nat) : Sp := fun vs H Q _ => ∃ v w : V, vs = [v, w] ∧ Sv K H n v w ∧ ∀ H', Same H H' → Q (.bl true) H'
section
variable {P : Program} {w : World} {K : PySem.W.Frag} {mg : Str → Option Value} {base : Heap} {f : Addr} {fd : FuncData}
theorem scSame : FnScope ["_law_found", "_law_due", "_law_a", "_law_b"] ["_law_found", "_law_due"] (defScope lSame) := ⟨rfl, rfl, rfl, by decide +kernel, rfl, by decide +kernel, by decide +kernel⟩
theorem okSame (F : FnP K "_law_same" lSame f fd) (gS : mg "_law_same" = some (.ref f)) (B : Bn mg) : ∀ (n k : Nat), FnOk P w K mg base CX0 (k + n + 1) f fd ["_law_found", "_law_due"] (spSame K n) := by
  have bS : Binds K fd ["_law_found", "_law_due"] [] := F.bindsN fun _ _ _ _ _ _ us hl => match us, hl with | [_, _], _ => rfl
  intro n
  induction n with
  | zero =>
    intro k
    refine F.ok scSame (fun vs H Q E h => ?_) (fun cdv A outer s H vs Q E hr h => ?_)
    · obtain ⟨v, w, rfl, _⟩ := h
      rfl
    · obtain ⟨v, w', rfl, hv, q⟩ := h
      refine ⟨_, PSs.nox (pss_cons (ps_if (pt_val (pe_callB call_isiT (by rfl) B.isi (by decide +kernel) (pa_cons (pv 1) (pa_cons (pe_tup (pa_cons (pe_bltn (v := .ty "list") (by rfl) B.list (by decide +kernel) rfl) (pa_cons (pe_bltn (v := .ty "tuple") (by rfl) B.tuple (by decide +kernel) rfl) pa_nil))) pa_nil))))
        (pss_cons (ps_never) (pss_one (ps_never))) pss_nil) (pss_cons (ps_if (PW.pt (pw_or (pt_cmpR op_ne (pe_callB call_isi (by rfl) B.isi (by decide +kernel) (pa_cons (pv 0) (pa_cons (pe_bltn (v := .ty "bool") (by rfl) B.bool (by decide +kernel) rfl) pa_nil))) (pe_callB call_isi (by rfl) B.isi (by decide +kernel) (pa_cons (pv 1) (pa_cons (pe_bltn (v := .ty "bool") (by rfl) B.bool (by decide +kernel) rfl) pa_nil))) (nomark _))
            (pw_or1 (pt_cmpR op_ne (pe_callB call_isi (by rfl) B.isi (by decide +kernel) (pa_cons (pv 0) (pa_cons (pe_bltn (v := .ty "int") (by rfl) B.int (by decide +kernel) rfl) pa_nil))) (pe_callB call_isi (by rfl) B.isi (by decide +kernel) (pa_cons (pv 1) (pa_cons (pe_bltn (v := .ty "int") (by rfl) B.int (by decide +kernel) rfl) pa_nil))) (nomark _)))))
          (pss_one (ps_ret pe_bl)) pss_nil) (pss_one (ps_ret (pe_and (pe_cmpR op_eq (pe_callB call_isi (by rfl) B.isi (by decide +kernel) (pa_cons (pv 0) (pa_cons (pe_bltn (v := .ty "str") (by rfl) B.str (by decide +kernel) rfl) pa_nil))) (pe_callB call_isi (by rfl) B.isi (by decide +kernel) (pa_cons (pv 1) (pa_cons (pe_bltn (v := .ty "str") (by rfl) B.str (by decide +kernel) rfl) pa_nil))) (nomark _))
          (pe_one (pe_cmpR (DB.op_or op_eq (DB.op_eqDB (DB.un100 hr))) (pv 0) (pv 1) (nomark _)))))))), ?_⟩
      cases hv with
      | @flat _ _ t hf =>
        obtain ⟨b1, e1⟩ := hf.kit (K := K) "bool" (.inl rfl)
        obtain ⟨b2, e2⟩ := hf.kit (K := K) "int" (.inr (.inl rfl))
        obtain ⟨b3, e3⟩ := hf.kit (K := K) "str" (.inr (.inr rfl))
        refine ⟨v, rfl, (by show 2 ≤ sizeLine; decide), fun p hp => ⟨v, p, [.ty "list", .ty "tuple"], .type t, [.type "list", .type "tuple"], false, rfl, upd_same, .cons (.ty _) (.cons (.ty _) .nil), hf.tyX, hf.noSeq, false, rfl, iteF ?_⟩⟩
        refine ⟨v, rfl, v, .ty "bool", .type t, .type "bool", b1, rfl, .ty _, hf.tyX, e1, v, rfl, v, .ty "bool", .type t, .type "bool", b1, rfl, .ty _, hf.tyX, e1, rfl, _, rfl, iteNS rfl ?_⟩
        refine ⟨v, rfl, v, .ty "int", .type t, .type "int", b2, rfl, .ty _, hf.tyX, e2, v, rfl, v, .ty "int", .type t, .type "int", b2, rfl, .ty _, hf.tyX, e2, rfl, _, rfl, iteNS rfl ?_⟩
        refine ⟨v, rfl, v, .ty "str", .type t, .type "str", b3, rfl, .ty _, hf.tyX, e3, v, rfl, v, .ty "str", .type t, .type "str", b3, rfl, .ty _, hf.tyX, e3, rfl, _, rfl, ?_⟩
        rw [if_pos (decide_eq_true rfl)]
        refine ⟨v, rfl, v, rfl, .inl ⟨hf.scal, ?_⟩⟩
        rw [decide_eq_true (rfl : v = v)]
        exact q _ (sameUpd hp)
      | @dct _ a b ka kb ha hb hl hh =>
        refine ⟨.ref b, rfl, (by show 2 ≤ sizeLine; decide), fun p hp => ⟨.ref b, p, [.ty "list", .ty "tuple"], .type "dict", [.type "list", .type "tuple"], false, rfl, upd_same, .cons (.ty _) (.cons (.ty _) .nil), tyDct (sameUpd hp _ _ hb), kitDct, false, rfl, iteF ?_⟩⟩
        have ha1 := sameUpd (o := .tup [.ty "list", .ty "tuple"]) hp _ _ ha
        have hb1 := sameUpd (o := .tup [.ty "list", .ty "tuple"]) hp _ _ hb
        refine ⟨.ref a, rfl, .ref a, .ty "bool", .type "dict", .type "bool", false, rfl, .ty _, tyDct ha1, kit_ty (by decide +kernel), .ref b, rfl, .ref b, .ty "bool", .type "dict", .type "bool", false, rfl, .ty _, tyDct hb1, kit_ty (by decide +kernel), rfl, _, rfl, iteNS rfl ?_⟩
        refine ⟨.ref a, rfl, .ref a, .ty "int", .type "dict", .type "int", false, rfl, .ty _, tyDct ha1, kit_ty (by decide +kernel), .ref b, rfl, .ref b, .ty "int", .type "dict", .type "int", false, rfl, .ty _, tyDct hb1, kit_ty (by decide +kernel), rfl, _, rfl, iteNS rfl ?_⟩
        refine ⟨.ref a, rfl, .ref a, .ty "str", .type "dict", .type "str", false, rfl, .ty _, tyDct ha1, kit_ty (by decide +kernel), .ref b, rfl, .ref b, .ty "str", .type "dict", .type "str", false, rfl, .ty _, tyDct hb1, kit_ty (by decide +kernel), rfl, _, rfl, ?_⟩
        rw [if_pos (decide_eq_true rfl)]
        refine ⟨.ref a, rfl, .ref b, rfl, .inr ⟨0, a, b, ka, kb, fun _ => true, by decide, rfl, rfl, ha1, hb1, dctEb hh, ?_⟩⟩
        rw [dctAll hl hh]
        exact q _ (sameUpd hp)
  | succ n ih =>
    intro k
    have G := ih k
    refine F.ok scSame (fun vs H Q E h => ?_) (fun cdv A outer s H vs Q E hr h => ?_)
    · obtain ⟨v, w, rfl, _⟩ := h
      rfl
    · have hr1 : Room (k + n + 1) _ := hr.mono (by omega)
      refine ⟨_, PSs.nox (pss_cons (ps_if (pt_val (pe_callB call_isiT (by rfl) B.isi (by decide +kernel) (pa_cons (pv 1) (pa_cons (pe_tup (pa_cons (pe_bltn (v := .ty "list") (by rfl) B.list (by decide +kernel) rfl) (pa_cons (pe_bltn (v := .ty "tuple") (by rfl) B.tuple (by decide +kernel) rfl) pa_nil))) pa_nil))))
        (pss_cons (ps_if (PW.pt (pw_or (pt_cmpR op_ne (pe_callB call_isi (by rfl) B.isi (by decide +kernel) (pa_cons (pv 0) (pa_cons (pe_bltn (v := .ty "list") (by rfl) B.list (by decide +kernel) rfl) pa_nil))) (pe_callB call_isi (by rfl) B.isi (by decide +kernel) (pa_cons (pv 1) (pa_cons (pe_bltn (v := .ty "list") (by rfl) B.list (by decide +kernel) rfl) pa_nil))) (nomark _))
            (pw_or1 (pt_not (pt_val (pe_callB call_isiT (by rfl) B.isi (by decide +kernel) (pa_cons (pv 0) (pa_cons (pe_tup (pa_cons (pe_bltn (v := .ty "list") (by rfl) B.list (by decide +kernel) rfl) (pa_cons (pe_bltn (v := .ty "tuple") (by rfl) B.tuple (by decide +kernel) rfl) pa_nil))) pa_nil))))))))
            (pss_one (ps_ret pe_bl)) pss_nil) (pss_one (ps_ret (pe_and (pe_cmpR op_eq (pe_callB call_len_seq (by rfl) B.len PySem.boot_len (pa_cons (pv 0) pa_nil)) (pe_callB call_len_seq (by rfl) B.len PySem.boot_len (pa_cons (pv 1) pa_nil)) (nomark _))
            (pe_one (pe_callB (cr_all rfl) (by rfl) B.all (by decide +kernel) (pa_cons (pe_lc (own := [("_law_a", 2), ("_law_b", 3)]) (g := gTup K 2 (gCons (gName 2) (gCons (gName 3) gNil))) rfl scSame.nd (RZ.pi_zipA (by rfl) B.zip (pa_cons (pv 0) (pa_cons (pv 1) pa_nil))) (blkOk_by (N := ["_law_found", "_law_due", "_law_a", "_law_b"]) (sc := defScope lSame) (by decide +kernel))
              (fun _ _ _ _ _ => pg_tup rfl (pgs_cons (pg_name (i := 2) scSame.nd rfl (.inl rfl) (hf := .inr rfl)) (pgs_cons (pg_name (i := 3) scSame.nd rfl (.inl rfl) (hf := .inr rfl)) pgs_nil))) (fun _ _ _ _ _ => pts_nil)
              (fun _ _ _ _ _ => pe_call G hr1 (by rfl) gS F.kp bS .nil pass0 (pa_cons (pv 2) (pa_cons (pv 3) pa_nil)))) pa_nil))))))) pss_nil) (pss_cons (ps_if (PW.pt (pw_or (pt_cmpR op_ne (pe_callB call_isi (by rfl) B.isi (by decide +kernel) (pa_cons (pv 0) (pa_cons (pe_bltn (v := .ty "bool") (by rfl) B.bool (by decide +kernel) rfl) pa_nil))) (pe_callB call_isi (by rfl) B.isi (by decide +kernel) (pa_cons (pv 1) (pa_cons (pe_bltn (v := .ty "bool") (by rfl) B.bool (by decide +kernel) rfl) pa_nil))) (nomark _))
            (pw_or1 (pt_cmpR op_ne (pe_callB call_isi (by rfl) B.isi (by decide +kernel) (pa_cons (pv 0) (pa_cons (pe_bltn (v := .ty "int") (by rfl) B.int (by decide +kernel) rfl) pa_nil))) (pe_callB call_isi (by rfl) B.isi (by decide +kernel) (pa_cons (pv 1) (pa_cons (pe_bltn (v := .ty "int") (by rfl) B.int (by decide +kernel) rfl) pa_nil))) (nomark _)))))
          (pss_one (ps_ret pe_bl)) pss_nil) (pss_one (ps_ret (pe_and (pe_cmpR op_eq (pe_callB call_isi (by rfl) B.isi (by decide +kernel) (pa_cons (pv 0) (pa_cons (pe_bltn (v := .ty "str") (by rfl) B.str (by decide +kernel) rfl) pa_nil))) (pe_callB call_isi (by rfl) B.isi (by decide +kernel) (pa_cons (pv 1) (pa_cons (pe_bltn (v := .ty "str") (by rfl) B.str (by decide +kernel) rfl) pa_nil))) (nomark _))
          (pe_one (pe_cmpR (DB.op_or op_eq (DB.op_eqDB (DB.un100 hr))) (pv 0) (pv 1) (nomark _)))))))), ?_⟩
      obtain ⟨v, w, rfl, hv, q⟩ := h
      cases hv with
      | @flat _ _ t hf =>
        obtain ⟨b1, e1⟩ := hf.kit (K := K) "bool" (.inl rfl)
        obtain ⟨b2, e2⟩ := hf.kit (K := K) "int" (.inr (.inl rfl))
        obtain ⟨b3, e3⟩ := hf.kit (K := K) "str" (.inr (.inr rfl))
        refine ⟨v, rfl, (by show 2 ≤ sizeLine; decide), fun p hp => ⟨v, p, [.ty "list", .ty "tuple"], .type t, [.type "list", .type "tuple"], false, rfl, upd_same, .cons (.ty _) (.cons (.ty _) .nil), hf.tyX, hf.noSeq, false, rfl, iteF ?_⟩⟩
        refine ⟨v, rfl, v, .ty "bool", .type t, .type "bool", b1, rfl, .ty _, hf.tyX, e1, v, rfl, v, .ty "bool", .type t, .type "bool", b1, rfl, .ty _, hf.tyX, e1, rfl, _, rfl, iteNS rfl ?_⟩
        refine ⟨v, rfl, v, .ty "int", .type t, .type "int", b2, rfl, .ty _, hf.tyX, e2, v, rfl, v, .ty "int", .type t, .type "int", b2, rfl, .ty _, hf.tyX, e2, rfl, _, rfl, iteNS rfl ?_⟩
        refine ⟨v, rfl, v, .ty "str", .type t, .type "str", b3, rfl, .ty _, hf.tyX, e3, v, rfl, v, .ty "str", .type t, .type "str", b3, rfl, .ty _, hf.tyX, e3, rfl, _, rfl, ?_⟩
        rw [if_pos (decide_eq_true rfl)]
        refine ⟨v, rfl, v, rfl, .inl ⟨hf.scal, ?_⟩⟩
        rw [decide_eq_true (rfl : v = v)]
        exact q _ (sameUpd hp)
      | @dct _ a b ka kb ha hb hl hh =>
        refine ⟨.ref b, rfl, (by show 2 ≤ sizeLine; decide), fun p hp => ⟨.ref b, p, [.ty "list", .ty "tuple"], .type "dict", [.type "list", .type "tuple"], false, rfl, upd_same, .cons (.ty _) (.cons (.ty _) .nil), tyDct (sameUpd hp _ _ hb), kitDct, false, rfl, iteF ?_⟩⟩
        have ha1 := sameUpd (o := .tup [.ty "list", .ty "tuple"]) hp _ _ ha
        have hb1 := sameUpd (o := .tup [.ty "list", .ty "tuple"]) hp _ _ hb
        refine ⟨.ref a, rfl, .ref a, .ty "bool", .type "dict", .type "bool", false, rfl, .ty _, tyDct ha1, kit_ty (by decide +kernel), .ref b, rfl, .ref b, .ty "bool", .type "dict", .type "bool", false, rfl, .ty _, tyDct hb1, kit_ty (by decide +kernel), rfl, _, rfl, iteNS rfl ?_⟩
        refine ⟨.ref a, rfl, .ref a, .ty "int", .type "dict", .type "int", false, rfl, .ty _, tyDct ha1, kit_ty (by decide +kernel), .ref b, rfl, .ref b, .ty "int", .type "dict", .type "int", false, rfl, .ty _, tyDct hb1, kit_ty (by decide +kernel), rfl, _, rfl, iteNS rfl ?_⟩
        refine ⟨.ref a, rfl, .ref a, .ty "str", .type "dict", .type "str", false, rfl, .ty _, tyDct ha1, kit_ty (by decide +kernel), .ref b, rfl, .ref b, .ty "str", .type "dict", .type "str", false, rfl, .ty _, tyDct hb1, kit_ty (by decide +kernel), rfl, _, rfl, ?_⟩
        rw [if_pos (decide_eq_true rfl)]
        refine ⟨.ref a, rfl, .ref b, rfl, .inr ⟨0, a, b, ka, kb, fun _ => true, by decide, rfl, rfl, ha1, hb1, dctEb hh, ?_⟩⟩
        rw [dctAll hl hh]
        exact q _ (sameUpd hp)
      | @lst _ a b xs ys ha hb hl hz hh =>
        refine ⟨.ref b, rfl, (by show 2 ≤ sizeLine; decide), fun p hp => ?_⟩
        have s1 : Same H (upd H p (.tup [.ty "list", .ty "tuple"])) := sameUpd hp
        have ha1 := (s1).seq ha
        have hb1 := (s1).seq hb
        refine ⟨.ref b, p, [.ty "list", .ty "tuple"], .type "list", [.type "list", .type "tuple"], true, rfl, upd_same, .cons (.ty _) (.cons (.ty _) .nil), SqL.tyX hb1, kitSeqL, true, rfl, iteT ?_⟩
        refine ⟨.ref a, rfl, .ref a, .ty "list", .type "list", .type "list", true, rfl, .ty _, SqL.tyX ha1, kit_ty (by decide +kernel), .ref b, rfl, .ref b, .ty "list", .type "list", .type "list", true, rfl, .ty _, SqL.tyX hb1, kit_ty (by decide +kernel), rfl, _, rfl, iteNS rfl ?_⟩
        refine ⟨.ref a, rfl, (by show 2 ≤ sizeLine; decide), fun p2 hp2 => ?_⟩
        have s2 : Same _ (upd (upd H p (.tup [.ty "list", .ty "tuple"])) p2 (.tup [.ty "list", .ty "tuple"])) := s1.trans (sameUpd hp2)
        have ha2 := (s2).seq ha
        have hb2 := (s2).seq hb
        refine ⟨.ref a, p2, [.ty "list", .ty "tuple"], .type "list", [.type "list", .type "tuple"], true, rfl, upd_same, .cons (.ty _) (.cons (.ty _) .nil), SqL.tyX ha2, kitSeqL, true, rfl, iteF ?_⟩
        refine ⟨.ref a, rfl, a, xs, rfl, .inl ha2, .ref b, rfl, b, ys, rfl, .inl hb2, rfl, _, rfl, ?_⟩
        rw [if_pos (decide_eq_true (by rw [hl]))]
        refine ⟨.ref a, rfl, .ref b, rfl, a, b, xs, ys, rfl, .inl ⟨ha2, hb2, fun D hD => ?_⟩⟩
        generalize upd (upd H p (.tup [.ty "list", .ty "tuple"])) p2 (.tup [.ty "list", .ty "tuple"]) = H2 at *
        refine lcJ (n := xs.length) (fun i H3 => Same H2 H3 ∧ H3 D = some (.lst ((List.replicate i true).map V.bl)) ∧ i ≤ xs.length) ⟨sameUpd hD, upd_same, Nat.zero_le _⟩ (fun i H3 lt h3 => ?_) (fun H3 h3 => ?_) (fun i H3 x H4 lt h3 y => ?_) (fun H3 h3 => ?_)
        · exact ⟨xs, ys, xs[i], ys[i], (h3.1).seq ha2, (h3.1).seq hb2, List.getElem?_eq_getElem lt, List.getElem?_eq_getElem (by omega)⟩
        · exact ⟨xs, ys, (h3.1).seq ha2, (h3.1).seq hb2, .inl (Nat.le_refl _)⟩
        · obtain ⟨s3, eD, _⟩ := h3
          obtain ⟨T, x1, y1, rfl, nT, rfl, fx, fy⟩ := y
          have e1 := fx _ ((s3).seq ha2)
          have e2 := fy _ ((s3).seq hb2)
          refine ⟨T, [x1, y1], rfl, .inl (.inl upd_same), rfl, x1, [y1], rfl, y1, [], rfl, rfl, rfl, ?_⟩
          refine ⟨x1, rfl, y1, rfl, x1, y1, rfl, (hh i _ _ e1 e2).same (s2.trans (s3.trans (sameUpd nT))), fun H5 s5 => ?_⟩
          have s4 : Same H2 H5 := s3.trans ((sameUpd nT).trans s5)
          have eD5 : H5 D = some (.lst ((List.replicate i true).map V.bl)) := s5 _ _ (sameUpd nT _ _ eD)
          refine ⟨_, eD5, ?_, fun b o hb => ?_, ?_, lt⟩
          · rw [List.length_map, List.length_replicate]
            exact small1000 (by omega)
          · rw [upd_ne (ne_of_none hb hD)]
            exact s4 _ _ hb
          · rw [upd_same, List.replicate_succ', List.map_append]
            rfl
        · obtain ⟨s3, eD, _⟩ := h3
          refine ⟨D, List.replicate xs.length true, rfl, .inl (.inl eD), ?_⟩
          rw [show (List.replicate xs.length true).all id = true by simp]
          exact q _ (s2.trans s3)
      | @tup _ a b xs ys ha hb hl hz hh =>
        refine ⟨.ref b, rfl, (by show 2 ≤ sizeLine; decide), fun p hp => ?_⟩
        have s1 : Same H (upd H p (.tup [.ty "list", .ty "tuple"])) := sameUpd hp
        have ha1 := sameTup (s1) ha
        have hb1 := sameTup (s1) hb
        refine ⟨.ref b, p, [.ty "list", .ty "tuple"], .type "tuple", [.type "list", .type "tuple"], true, rfl, upd_same, .cons (.ty _) (.cons (.ty _) .nil), SqT.tyX hb1, kitSeqT, true, rfl, iteT ?_⟩
        refine ⟨.ref a, rfl, .ref a, .ty "list", .type "tuple", .type "list", false, rfl, .ty _, SqT.tyX ha1, kit_ty (by decide +kernel), .ref b, rfl, .ref b, .ty "list", .type "tuple", .type "list", false, rfl, .ty _, SqT.tyX hb1, kit_ty (by decide +kernel), rfl, _, rfl, iteNS rfl ?_⟩
        refine ⟨.ref a, rfl, (by show 2 ≤ sizeLine; decide), fun p2 hp2 => ?_⟩
        have s2 : Same _ (upd (upd H p (.tup [.ty "list", .ty "tuple"])) p2 (.tup [.ty "list", .ty "tuple"])) := s1.trans (sameUpd hp2)
        have ha2 := sameTup (s2) ha
        have hb2 := sameTup (s2) hb
        refine ⟨.ref a, p2, [.ty "list", .ty "tuple"], .type "tuple", [.type "list", .type "tuple"], true, rfl, upd_same, .cons (.ty _) (.cons (.ty _) .nil), SqT.tyX ha2, kitSeqT, true, rfl, iteF ?_⟩
        refine ⟨.ref a, rfl, a, xs, rfl, .inr ha2, .ref b, rfl, b, ys, rfl, .inr hb2, rfl, _, rfl, ?_⟩
        rw [if_pos (decide_eq_true (by rw [hl]))]
        refine ⟨.ref a, rfl, .ref b, rfl, a, b, xs, ys, rfl, .inr ⟨ha2, hb2, fun D hD => ?_⟩⟩
        generalize upd (upd H p (.tup [.ty "list", .ty "tuple"])) p2 (.tup [.ty "list", .ty "tuple"]) = H2 at *
        refine lcJ (n := xs.length) (fun i H3 => Same H2 H3 ∧ H3 D = some (.lst ((List.replicate i true).map V.bl)) ∧ i ≤ xs.length) ⟨sameUpd hD, upd_same, Nat.zero_le _⟩ (fun i H3 lt h3 => ?_) (fun H3 h3 => ?_) (fun i H3 x H4 lt h3 y => ?_) (fun H3 h3 => ?_)
        · exact ⟨xs, ys, xs[i], ys[i], sameTup (h3.1) ha2, sameTup (h3.1) hb2, List.getElem?_eq_getElem lt, List.getElem?_eq_getElem (by omega)⟩
        · exact ⟨xs, ys, sameTup (h3.1) ha2, sameTup (h3.1) hb2, .inl (Nat.le_refl _)⟩
        · obtain ⟨s3, eD, _⟩ := h3
          obtain ⟨T, x1, y1, rfl, nT, rfl, fx, fy⟩ := y
          have e1 := fx _ (sameTup (s3) ha2)
          have e2 := fy _ (sameTup (s3) hb2)
          refine ⟨T, [x1, y1], rfl, .inl (.inl upd_same), rfl, x1, [y1], rfl, y1, [], rfl, rfl, rfl, ?_⟩
          refine ⟨x1, rfl, y1, rfl, x1, y1, rfl, (hh i _ _ e1 e2).same (s2.trans (s3.trans (sameUpd nT))), fun H5 s5 => ?_⟩
          have s4 : Same H2 H5 := s3.trans ((sameUpd nT).trans s5)
          have eD5 : H5 D = some (.lst ((List.replicate i true).map V.bl)) := s5 _ _ (sameUpd nT _ _ eD)
          refine ⟨_, eD5, ?_, fun b o hb => ?_, ?_, lt⟩
          · rw [List.length_map, List.length_replicate]
            exact small1000 (by omega)
          · rw [upd_ne (ne_of_none hb hD)]
            exact s4 _ _ hb
          · rw [upd_same, List.replicate_succ', List.map_append]
            rfl
        · obtain ⟨s3, eD, _⟩ := h3
          refine ⟨D, List.replicate xs.length true, rfl, .inl (.inl eD), ?_⟩
          rw [show (List.replicate xs.length true).all id = true by simp]
          exact q _ (s2.trans s3)
end
end KS.La

set_option Elab.async false
set_option linter.all false
set_option maxRecDepth 100000
set_option maxHeartbeats 4000000
/-! targets and tables of targets -/
namespace PJ
open PySem PySem.Spec PyProof.Rows L2 KS KS.La
abbrev Outs := List (Str × Str)
def kvO (p : Str × Str) : Key × V := (.inr p.1, .str p.2)
def oK (os : Outs) : List (Key × V) := os.map kvO
inductive Rc where
  | txt (z : Str)
  | key (a b : Str)
def rcD : Rc → PyData
  | .txt z => .str z
  | .key a b => .tuple [.str a, .str b]
def argsD (as : List Str) : PyData := .tuple (as.map .str)
inductive Tg where
  | src (os : Outs)
  | mad (r : Rc) (as : List Str)
abbrev Tb := List (Str × Tg)
def tLook (T : Tb) (k : Str) : Option Tg := (T.find? fun p => decide (p.1 = k)).map (·.2)
def tPut (T : Tb) (k : Str) (t : Tg) : Tb := if (T.any fun p => decide (p.1 = k)) = true then T.map (fun p => if p.1 = k then (p.1, t) else p) else T ++ [(k, t)]
def tDrop (T : Tb) (k : Str) : Tb := T.filter fun p => decide (p.1 ≠ k)
def oPut (os : Outs) (k : Str) (z : Str) : Outs := if (os.any fun p => decide (p.1 = k)) = true then os.map (fun p => if p.1 = k then (p.1, z) else p) else os ++ [(k, z)]
def oDrop (os : Outs) (k : Str) : Outs := os.filter fun p => decide (p.1 ≠ k)
/-! ### outputs -/
theorem oK_any (k : Str) : ∀ (os : Outs), ((oK os).any fun kv => decide (kv.1 = (.inr k : Key))) = os.any fun p => decide (p.1 = k)
  | [] => rfl
  | p :: os => by
    show (decide ((.inr p.1 : Key) = .inr k) || _) = (decide (p.1 = k) || _)
    have ih := oK_any k os
    unfold oK at ih
    rw [ih]
    congr 1
    exact decide_eq_decide.mpr ⟨fun h => Sum.inr.inj h, fun h => by rw [h]⟩
theorem oK_put (os : Outs) (k z : Str) : putK (oK os) (.inr k) (.str z) = oK (oPut os k z) := by
  unfold putK oPut
  rw [oK_any]
  split
  · unfold oK
    rw [List.map_map, List.map_map]
    refine List.map_congr_left fun p _ => ?_
    by_cases e : p.1 = k
    · show (if (.inr p.1 : Key) = .inr k then ((.inr p.1 : Key), V.str z) else kvO p) = kvO (if p.1 = k then (p.1, z) else p)
      rw [if_pos e, if_pos (by rw [e])]
      rfl
    · show (if (.inr p.1 : Key) = .inr k then ((.inr p.1 : Key), V.str z) else kvO p) = kvO (if p.1 = k then (p.1, z) else p)
      rw [if_neg e, if_neg fun h => e (Sum.inr.inj h)]
  · unfold oK
    rw [List.map_append]
    rfl
theorem oK_drop (os : Outs) (k : Str) : dropK (oK os) (.inr k) = oK (oDrop os k) := by
  unfold dropK oK oDrop
  rw [List.filter_map]
  congr 1
  refine List.filter_congr fun p _ => ?_
  show decide ((.inr p.1 : Key) ≠ .inr k) = decide (p.1 ≠ k)
  exact decide_eq_decide.mpr ⟨fun h e => h (by rw [e]), fun h e => h (Sum.inr.inj e)⟩
theorem oK_len (os : Outs) : (oK os).length = os.length := List.length_map _
theorem oK_keys (os : Outs) : (oK os).map (·.1) = (os.map (·.1)).map Sum.inr := by
  unfold oK
  rw [List.map_map, List.map_map]
  rfl
theorem oK_str {os : Outs} : ∀ p ∈ oK os, ∃ z, p.2 = .str z := fun p hp => by
  obtain ⟨q, _, rfl⟩ := List.mem_map.mp hp
  exact ⟨q.2, rfl⟩
theorem oK_nd {os : Outs} (h : (os.map (·.1)).Nodup) : ((oK os).map (·.1)).Nodup := by
  rw [oK_keys, List.nodup_iff_pairwise_ne, List.pairwise_map]
  rw [List.nodup_iff_pairwise_ne] at h
  exact h.imp fun n e => n (Sum.inr.inj e)
theorem valMem : ∀ {ka : List (Key × V)}, (ka.map (·.1)).Nodup → ∀ {k : Key} {v : V}, (k, v) ∈ ka → valV ka k = some v
  | [], _, _, _, h => absurd h (by simp)
  | (k0, v0) :: r, nd, k, v, h => by
    rw [List.map_cons, List.nodup_cons] at nd
    rcases List.mem_cons.mp h with e | h
    · injection e with e1 e2
      subst e1 e2
      exact valV_pos (p := (k, v)) rfl
    · have ne : ¬ k0 = k := fun e => nd.1 (List.mem_map.mpr ⟨(k, v), h, e.symm⟩)
      rw [valV_neg (p := (k0, v0)) ne]
      exact valMem nd.2 h
/-! ### how tables compare -/
def eF (ka kb : List (Key × V)) (k : Key) : Bool := match valV ka k, valV kb k with
  | some v, some u => eqV v u
  | _, _ => false
def osE (os os' : Outs) : Bool := (oK os).length == (oK os').length && (oK os).all fun p => (valV (oK os') p.1).isSome && eF (oK os) (oK os') p.1
def tgE : Tg → Tg → Bool
  | .src os, .src os' => osE os os'
  | .mad r as, .mad r' as' => PyData.eqv (rcD r) (rcD r') && PyData.eqv (argsD as) (argsD as')
  | _, _ => false
def teF (T T' : Tb) (k : Str) : Bool := match tLook T k, tLook T' k with
  | some t, some t' => tgE t t'
  | _, _ => false
def tbE (T T' : Tb) : Bool := T.length == T'.length && T.all fun p => (tLook T' p.1).isSome && teF T T' p.1
theorem osE_refl {os : Outs} (nd : (os.map (·.1)).Nodup) : osE os os = true := by
  unfold osE
  rw [beq_self_eq_true, Bool.true_and, List.all_eq_true]
  intro p hp
  obtain ⟨z, ez⟩ := oK_str p hp
  have hv : valV (oK os) p.1 = some p.2 := valMem (oK_nd nd) hp
  unfold eF
  rw [hv, ez]
  show (true && (z == z)) = true
  simp
/-! ### a table of things -/
inductive Tab (R : V → Tg → Prop) : List (Key × V) → Tb → Prop
  | nil : Tab R [] []
  | cons {k : Str} {v : V} {t : Tg} {kvs : List (Key × V)} {T : Tb} (h : R v t) (r : Tab R kvs T) : Tab R ((.inr k, v) :: kvs) ((k, t) :: T)
section
variable {R R' : V → Tg → Prop} {kvs : List (Key × V)} {T : Tb}
theorem Tab.len (h : Tab R kvs T) : kvs.length = T.length := by
  induction h with
  | nil => rfl
  | cons _ _ ih => rw [List.length_cons, List.length_cons, ih]
theorem Tab.keys (h : Tab R kvs T) : kvs.map (·.1) = (T.map (·.1)).map Sum.inr := by
  induction h with
  | nil => rfl
  | cons _ _ ih => rw [List.map_cons, List.map_cons, List.map_cons, ih]
theorem Tab.imp (h : Tab R kvs T) (i : ∀ k v t, (.inr k, v) ∈ kvs → (k, t) ∈ T → R v t → R' v t) : Tab R' kvs T := by
  induction h with
  | nil => exact .nil
  | cons h r ih => exact .cons (i _ _ _ List.mem_cons_self List.mem_cons_self h) (ih fun k v t a b => i k v t (List.mem_cons_of_mem _ a) (List.mem_cons_of_mem _ b))
theorem Tab.look (h : Tab R kvs T) (k : Str) : (valV kvs (.inr k) = none ∧ tLook T k = none) ∨ ∃ v t, valV kvs (.inr k) = some v ∧ tLook T k = some t ∧ R v t := by
  induction h with
  | nil => exact .inl ⟨rfl, rfl⟩
  | @cons k0 v t kvs T h r ih =>
    by_cases e : k0 = k
    · subst e
      exact .inr ⟨v, t, valV_pos (p := ((Sum.inr k0 : Key), v)) rfl, by simp [tLook], h⟩
    · rw [valV_neg (p := ((Sum.inr k0 : Key), v)) fun q => e (Sum.inr.inj q)]
      have : tLook ((k0, t) :: T) k = tLook T k := by simp [tLook, e]
      rw [this]
      exact ih
theorem Tab.any (h : Tab R kvs T) (k : Str) : (kvs.any fun kv => decide (kv.1 = (.inr k : Key))) = T.any fun p => decide (p.1 = k) := by
  induction h with
  | nil => rfl
  | @cons k0 v t kvs T h r ih =>
    rw [List.any_cons, List.any_cons, ih]
    congr 1
    exact decide_eq_decide.mpr ⟨fun h => Sum.inr.inj h, fun (h : k0 = k) => congrArg Sum.inr h⟩
theorem Tab.append {k : Str} {v : V} {t : Tg} (h : Tab R kvs T) (hv : R v t) : Tab R (kvs ++ [(.inr k, v)]) (T ++ [(k, t)]) := by
  induction h with
  | nil => exact .cons hv .nil
  | cons h r ih => exact .cons h ih
theorem Tab.set {k : Str} {v : V} {t : Tg} (h : Tab R kvs T) (hv : R v t) : Tab R (kvs.map fun kv => if kv.1 = (.inr k : Key) then (kv.1, v) else kv) (T.map fun p => if p.1 = k then (p.1, t) else p) := by
  induction h with
  | nil => exact .nil
  | @cons k0 v0 t0 kvs T h r ih =>
    rw [List.map_cons, List.map_cons]
    by_cases e : k0 = k
    · rw [if_pos (by rw [e]), if_pos e]
      exact .cons hv ih
    · rw [if_neg fun q => e (Sum.inr.inj q), if_neg e]
      exact .cons h ih
theorem Tab.put {k : Str} {v : V} {t : Tg} (h : Tab R kvs T) (hv : R v t) : Tab R (putK kvs (.inr k) v) (tPut T k t) := by
  unfold putK tPut
  rw [h.any k]
  split
  · exact h.set hv
  · exact h.append hv
theorem Tab.drop (k : Str) (h : Tab R kvs T) : Tab R (dropK kvs (.inr k)) (tDrop T k) := by
  unfold dropK tDrop
  induction h with
  | nil => exact .nil
  | @cons k0 v0 t0 kvs T h r ih =>
    rw [List.filter_cons, List.filter_cons]
    by_cases e : k0 = k
    · rw [if_neg (by simp [e]), if_neg (by simp [e])]
      exact ih
    · rw [if_pos (by simpa using e), if_pos (by simpa using e)]
      exact .cons h ih
theorem Tab.mem (h : Tab R kvs T) : ∀ k v, (k, v) ∈ kvs → ∃ z t, k = .inr z ∧ (z, t) ∈ T ∧ R v t := by
  induction h with
  | nil => exact fun k v h => absurd h (by simp)
  | cons h r ih =>
    intro k v hm
    rcases List.mem_cons.mp hm with e | hm
    · injection e with e1 e2
      subst e1 e2
      exact ⟨_, _, rfl, List.mem_cons_self, h⟩
    · obtain ⟨z, t, a, b, c⟩ := ih k v hm
      exact ⟨z, t, a, List.mem_cons_of_mem _ b, c⟩
end
theorem keysInj {T : Tb} (h : (T.map (·.1)).Nodup) : ((T.map (·.1)).map (Sum.inr : Str → Key)).Nodup := by
  rw [List.nodup_iff_pairwise_ne, List.pairwise_map]
  rw [List.nodup_iff_pairwise_ne] at h
  exact h.imp fun n e => n (Sum.inr.inj e)
theorem Tab.nd {R : V → Tg → Prop} {kvs : List (Key × V)} {T : Tb} (h : Tab R kvs T) (nd : (T.map (·.1)).Nodup) : (kvs.map (·.1)).Nodup := by
  rw [h.keys]
  exact keysInj nd
theorem tMem {T : Tb} (nd : (T.map (·.1)).Nodup) {k : Str} {t : Tg} (h : (k, t) ∈ T) : tLook T k = some t := by
  induction T with
  | nil => exact absurd h (by simp)
  | cons p T ih =>
    obtain ⟨k0, t0⟩ := p
    rw [List.map_cons, List.nodup_cons] at nd
    rcases List.mem_cons.mp h with e | h
    · injection e with e1 e2
      subst e1 e2
      simp [tLook]
    · have ne : ¬ k0 = k := fun e => nd.1 (List.mem_map.mpr ⟨(k, t), h, e.symm⟩)
      have : tLook ((k0, t0) :: T) k = tLook T k := by simp [tLook, ne]
      rw [this]
      exact ih nd.2 h
/-- two tables of like things compare as their targets do -/
theorem tabAll {R R' : V → Tg → Prop} {kvs ls : List (Key × V)} {T T' : Tb} (h : Tab R kvs T) (h' : Tab R' ls T') (e : Key → Bool) (he : ∀ k, e (.inr k) = teF T T' k) : (kvs.length == ls.length && kvs.all fun p => (valV ls p.1).isSome && e p.1) = tbE T T' := by
  unfold tbE
  rw [h.len, h'.len]
  congr 1
  have : ∀ {ks : List (Key × V)} {S : Tb}, Tab R ks S → (ks.all fun p => (valV ls p.1).isSome && e p.1) = S.all fun p => (tLook T' p.1).isSome && teF T T' p.1 := fun {ks S} g => by
    induction g with
    | nil => rfl
    | @cons k0 v t ks S _ _ ih =>
      rw [List.all_cons, List.all_cons, ih, he]
      congr 2
      rcases h'.look k0 with ⟨a, b⟩ | ⟨_, _, a, b, _⟩ <;> rw [a, b] <;> rfl
  exact this h
/-! ### where a target stands: the program's, the law's -/
def RcIn (H : Hp) (v : V) : Rc → Prop
  | .txt z => v = .str z ∧ TOk z
  | .key a b => (∃ t, v = .ref t ∧ H t = some (.tup [.str a, .str b])) ∧ TOk a ∧ TOk b
def AsIn (H : Hp) (v : V) (as : List Str) : Prop := ∃ t, v = .ref t ∧ H t = some (.tup (as.map .str)) ∧ as.length ≤ 100 ∧ ∀ z ∈ as, TOk z
def OsIn (H : Hp) (d : Addr) (os : Outs) : Prop := H d = some (.dK (oK os)) ∧ (os.map (·.1)).Nodup ∧ os.length ≤ 100
def TgAt (CS CM : Addr) (H : Hp) (v : V) : Tg → Prop
  | .src os => ∃ x dx d, v = .ref x ∧ H x = some (.ins CS dx [("_outputs", .ref d)]) ∧ OsIn H d os
  | .mad r as => ∃ x dx vr va, v = .ref x ∧ H x = some (.ins CM dx [("_recipe", vr), ("_arguments", va)]) ∧ RcIn H vr r ∧ AsIn H va as
def ToAt (H : Hp) (v : V) : Tg → Prop
  | .src os => ∃ t d, v = .ref t ∧ H t = some (.tup [.str "source", .ref d]) ∧ OsIn H d os
  | .mad r as => ∃ t vr va, v = .ref t ∧ H t = some (.tup [.str "made", vr, va]) ∧ RcIn H vr r ∧ AsIn H va as
/-- all but lists stands -/
def Stl (H H' : Hp) : Prop := ∀ b o, H b = some o → (∀ xs, o ≠ .lst xs) → H' b = some o
theorem Stl.refl (H : Hp) : Stl H H := fun _ _ e _ => e
theorem Stl.trans {H H1 H2 : Hp} (a : Stl H H1) (b : Stl H1 H2) : Stl H H2 := fun x o e t => b x o (a x o e t) t
theorem Stl.same {H H' : Hp} (s : Same H H') : Stl H H' := fun a o e _ => s a o e
theorem Stl.lst {H H' : Hp} {a : Addr} {xs : List V} (h : H a = some (.lst xs)) (k : Kp a H H') : Stl H H' := fun b o e t => by
  refine k b o (fun z => ?_) e
  subst z
  exact t xs (Option.some.inj (h.symm.trans e)).symm
theorem Stl.fd {H H' : Hp} {a : Addr} (h : Fd H a) (k : Kp a H H') : Stl H H' := by
  obtain ⟨x, y, e, _⟩ := h
  exact Stl.lst e k
theorem RcIn.stl {H H' : Hp} {v : V} {r : Rc} (h : RcIn H v r) (s : Stl H H') : RcIn H' v r := by
  cases r with
  | txt z => exact h
  | key a b => exact ⟨let ⟨t, e, h⟩ := h.1; ⟨t, e, s _ _ h (fun _ z => nomatch z)⟩, h.2⟩
theorem AsIn.stl {H H' : Hp} {v : V} {as : List Str} (h : AsIn H v as) (s : Stl H H') : AsIn H' v as := let ⟨t, e, h, z⟩ := h; ⟨t, e, s _ _ h (fun _ z => nomatch z), z⟩
theorem OsIn.stl {H H' : Hp} {d : Addr} {os : Outs} (h : OsIn H d os) (s : Stl H H') : OsIn H' d os := ⟨s _ _ h.1 (fun _ z => nomatch z), h.2⟩
theorem TgAt.stl {CS CM : Addr} {H H' : Hp} {v : V} {t : Tg} (h : TgAt CS CM H v t) (s : Stl H H') : TgAt CS CM H' v t := by
  cases t with
  | src os => obtain ⟨x, dx, d, e, h1, h2⟩ := h; exact ⟨x, dx, d, e, s _ _ h1 (fun _ z => nomatch z), h2.stl s⟩
  | mad r as => obtain ⟨x, dx, vr, va, e, h1, h2, h3⟩ := h; exact ⟨x, dx, vr, va, e, s _ _ h1 (fun _ z => nomatch z), h2.stl s, h3.stl s⟩
theorem ToAt.stl {H H' : Hp} {v : V} {t : Tg} (h : ToAt H v t) (s : Stl H H') : ToAt H' v t := by
  cases t with
  | src os => obtain ⟨x, d, e, h1, h2⟩ := h; exact ⟨x, d, e, s _ _ h1 (fun _ z => nomatch z), h2.stl s⟩
  | mad r as => obtain ⟨x, vr, va, e, h1, h2, h3⟩ := h; exact ⟨x, vr, va, e, s _ _ h1 (fun _ z => nomatch z), h2.stl s, h3.stl s⟩
theorem Tab.tg {CS CM : Addr} {H H' : Hp} {kvs : List (Key × V)} {T : Tb} (h : Tab (TgAt CS CM H) kvs T) (s : Stl H H') : Tab (TgAt CS CM H') kvs T := h.imp fun _ _ _ _ _ h => h.stl s
theorem Tab.to {H H' : Hp} {kvs : List (Key × V)} {T : Tb} (h : Tab (ToAt H) kvs T) (s : Stl H H') : Tab (ToAt H') kvs T := h.imp fun _ _ _ _ _ h => h.stl s
def rOd (z : Str) (h : TOk z) : Od 0 (.str z) := .str _ h.1 (by have := h.2; omega)
theorem RcIn.dp {K : PySem.W.Frag} {H : Hp} {v : V} {r : Rc} (h : RcIn H v r) : Dp K H v (rcD r) ∧ SeqAt.shaped (rcD r) = true := by
  cases r with
  | txt z =>
    obtain ⟨rfl, hz⟩ := h
    exact ⟨.str z, (rOd z hz).shaped (by decide)⟩
  | key a b =>
    obtain ⟨⟨t, rfl, h⟩, ha, hb⟩ := h
    refine ⟨.tup (.inl (.inl h)) (.cons (.str a) (.cons (.str b) .nil)), (Od.tup (n := 0) (by show 2 ≤ 100; decide) fun d hd => ?_).shaped (by decide)⟩
    simp only [List.mem_cons, List.not_mem_nil, or_false] at hd
    rcases hd with rfl | rfl
    · exact rOd _ ha
    · exact rOd _ hb
theorem dpStrs {K : PySem.W.Frag} {H : Hp} : ∀ (as : List Str), DpAll K H (as.map .str) (as.map .str)
  | [] => .nil
  | z :: as => .cons (.str z) (dpStrs as)
theorem argsShaped {as : List Str} (hl : as.length ≤ 100) (h : ∀ z ∈ as, TOk z) : SeqAt.shaped (argsD as) = true := by
  refine (Od.tup (n := 0) (by rw [List.length_map]; exact hl) fun d hd => ?_).shaped (by decide)
  obtain ⟨z, hz, rfl⟩ := List.mem_map.mp hd
  exact rOd z (h z hz)
theorem AsIn.dp {K : PySem.W.Frag} {H : Hp} {v : V} {as : List Str} (h : AsIn H v as) : Dp K H v (argsD as) ∧ SeqAt.shaped (argsD as) = true := by
  obtain ⟨t, rfl, h, hl, hz⟩ := h
  exact ⟨.tup (.inl (.inl h)) (dpStrs as), argsShaped hl hz⟩
end PJ

set_option Elab.async false
set_option linter.all false
set_option maxRecDepth 100000
set_option maxHeartbeats 4000000
/-! o[k], o.m(..) where it may raise; x != y by an own __eq__ -/
namespace OD
open PySem PySem.Spec PyProof.Rows L2
section
variable {X : Cx} {CX : CXT} {k : Nat} {C f : Addr} {fd : FuncData} {ps : List Str} {sp : Sp} {E : L2.St → XK} {o e i : Expr} {es : List Expr} {ta tb : TE} {t : TA} {pos apos : Pos} {m : Str}
/-- o[i] -/
def tIxO (C : Addr) (sp : Sp) (E : L2.St → XK) (ta tb : TE) : TE := fun σ H Q => ta σ H fun x H1 => tb σ H1 fun y H2 => ∃ a dx fs, x = .ref a ∧ H2 a = some (.ins C dx fs) ∧ sp [.ref a, y] H2 Q (E σ)
theorem pe_ixO (ha : PE X o ta) (hi : PE X i tb) (F : FnOk X.prog X.w X.K X.mg X.base CX k f fd ps sp) (hr : Room (k + 1) X.A) (hs : PySem.W.findIn X.K (.ref C) "__getitem__" = some (some (.ref f))) (hf : PySem.W.fnIn X.K f = true) (hfn : PySem.W.isFn X.K (.ref f) = true)
    (hb : Binds X.K fd ps []) (hx : ∀ σ, PassesAt CX X σ (E σ)) (hsl : ∀ (a : Addr) (u : Value), subscripted i true (.ref a) u = runValue (.builtin "lifetime.subscript" ⟨[.ref a, u], []⟩) := by intro _ _; with_unfolding_all rfl) : PE X (.Subscript o i pos) (tIxO C sp E ta tb) := by
  refine ⟨fun pins s σ H Q I h => ?_⟩
  refine Subscript_ (thn (ha.run pins s σ H _ I h) fun v s1 ⟨x, H1, I1, r1, q1⟩ => thn (hi.run pins s1 σ H1 _ I1 q1) fun u s2 ⟨y, H2, I2, r2, a, dx, fs, ex, hins, q⟩ => ?_)
  subst ex
  obtain rfl : v = Value.ref a := r1
  obtain ⟨mA, J, _⟩ := ins_get I2.hok hins
  obtain ⟨od, J, _⟩ := J.look
  obtain ⟨m, hF⟩ := I2.fr
  refine PySem.W.sub_K hF I2.ok.mod.kin J hs hf hfn ?_ (hsl a u)
  have r : Vals [V.ref a, y] [Value.ref a, u] := .cons rfl (.cons r2 .nil)
  have hl : [Value.ref a, u].length = ps.length := by rw [← r.length]; exact F.len _ _ _ _ q
  have b := hb s2 [.ref a, u] I2.kIn (by rw [List.append_nil]; exact hl)
  rw [List.append_nil] at b
  refine wpAny_call (codeAny_mono (F.run X.A.in1 X.stack s2 H2 ⟨[.ref a, u], []⟩ [.ref a, u] [.ref a, y] Q (E σ) hr.in1 I2.env0.in1 b r q) fun r s' hq => ?_)
  cases r with
  | error e => exact hx σ pins H2 s2 e s' I2 hq
  | ok fl =>
    cases fl with
    | ret u => exact I2.after hq
    | next => exact False.elim hq
    | brk => exact False.elim hq
    | cont => exact False.elim hq
/-- o.m(e, ..), which may raise -/
def tMethT (C : Addr) (m : Str) (sp : Sp) (E : L2.St → XK) (ta : TE) (t : TA) : TE := fun σ H Q => ta σ H fun x H1 => ∃ a dx fs, x = .ref a ∧ H1 a = some (.ins C dx fs) ∧ fs.lookup m = none ∧ t σ H1 fun vs H2 => sp (.ref a :: vs) H2 Q (E σ)
theorem pe_methT {pl : Sem Bool} (he : PE X o ta) (c : Cls X.K C) (hm : Meth X.K C m f) (F : FnOk X.prog X.w X.K X.mg X.base CX k f fd ps sp) (hr : Room k X.A) (hb : Binds X.K fd ps []) (hx : ∀ σ, PassesAt CX X σ (E σ)) (ha : PA X (e :: es) t)
    (hst : starEach (e :: es) X.env = (false, eval e X.env) :: starEach es X.env := by rfl) (hpl : (backTo pos (starEach es X.env)).any (·.1) = false := by rfl)
    (ht : eval (.Call (.Attribute o m apos) (e :: es) [] pos) X.env = (do
      let ov ← eval o X.env
      standAt apos.atName
      let (f, first) ← holding [ov] (getMethod ov m pl)
      callWith pos f first (backTo pos (starEach (e :: es) X.env)) (backToKw pos (keywordEach [] X.env))) := by rfl) :
    PE X (.Call (.Attribute o m apos) (e :: es) [] pos) (tMethT C m sp E ta t) := by
  refine ⟨fun pins s σ H Q I h => ?_⟩
  refine PySem.W.methodCall_KW (pl := pl) (thn (he.run pins s σ H _ I h) fun u s1 ⟨x, H1, I1, rx, a, dx, fs, ex, ea, l, q⟩ => ?_) ht
  subst ex
  obtain rfl : u = Value.ref a := rx
  refine getmeth_ok I1 ea c hm l ?_
  refine PySem.W.callWith_K (first := [.ref a]) (h₀ := X.base) I.ok.mod.kin hm.kp (thn (ha.run pos pins s1 σ H1 _ I1 q) fun us s2 ⟨vs, H2, I2, r, q2⟩ => ⟨I2.kIn, ?_⟩) hst hpl
  exact run_fnS (us := .ref a :: us) (vs := .ref a :: vs) F hr hb (hx σ) I2 (.cons rfl r) q2
end
/-! ### a call that is promised not to raise -/
theorem passE0 {X : Cx} : Passes (L2.CX X.prog X.w) X E0 := fun _ _ _ _ _ _ _ c => by
  obtain ⟨_, _, _, _, _, _, _, _, _, _, _, _, e⟩ := c
  exact e.elim
theorem passAt0 {X : Cx} {σ : L2.St} : PassesAt (L2.CX X.prog X.w) X σ E0 := fun _ _ _ _ _ _ c => by
  obtain ⟨_, _, _, _, _, _, _, _, _, _, _, _, e⟩ := c
  exact e.elim
/-! ### != -/
theorem slotNe : Slot "object" "__ne__" "object.__ne__" :=
  Slot.of (T := "object") (name := "__ne__") (owner := "object") (n := "__ne__") (by rw [typeLookup_type, builtinLookup_eq_fast]; kernel_rfl) (by decide +kernel) (by decide +kernel) (by decide +kernel)
    (.inl (by decide +kernel)) (by rw [isSubtype_type]; kernel_rfl)
def rNeOwn (C : Addr) (sp : Sp) (E : XK) : R2 := fun x y H Q => ∃ a b dx fs dy gs, x = .ref a ∧ y = .ref b ∧ H a = some (.ins C dx fs) ∧ H b = some (.ins C dy gs) ∧ sp [x, y] H (fun v H' => ∃ c, v = .bl c ∧ Q (.bl (!c)) H') E
theorem op_neOwn {X : Cx} {CX : CXT} {n : Nat} {C f : Addr} {fd : FuncData} {ps : List Str} {sp : Sp} {E : XK} (F : FnOk X.prog X.w X.K X.mg X.base CX n f fd ps sp) (hr : Room (n + 1) X.A)
    (hs : PySem.W.findIn X.K (.ref C) "__eq__" = some (some (.ref f))) (hf : PySem.W.isFn X.K (.ref f) = true) (hb : Binds X.K fd ps []) (hx : Passes CX X E)
    (hn : PySem.W.findIn X.K (.ref C) "__ne__" = some (some (.builtin "object.__ne__"))) (ht : PySem.W.mroIn X.K C (.type "object") = some true) : OpR X (compareOp .NotEq) (rNeOwn C sp E) := by
  intro pins s σ H x y v u Q I rx ry h
  obtain ⟨a, b, dx, fs, dy, gs, rfl, rfl, ha, hb', hsp⟩ := h
  cases rx
  cases ry
  obtain ⟨mA, J, _⟩ := ins_get I.hok ha
  obtain ⟨od, J, _⟩ := J.look
  obtain ⟨mB, J', _⟩ := ins_get I.hok hb'
  obtain ⟨od', J', _⟩ := J'.look
  obtain ⟨m, hF⟩ := I.fr
  have XK := I.kIn
  show wpAny (model X.prog X.w) X.A (richCompare .NotEq (.ref a) (.ref b)) (EP X pins σ Q) X.xe s
  unfold richCompare
  simp only [oneThing_ref]
  refine wpAny_holding ?_
  refine wpAny_bind (wpAny_cRoomFor hr.units0 ?_)
  rw [cmpInfo_NotEq]
  dsimp only
  refine wpAny_bind (J.type.here (wpAny_bind (J'.type.here ?_)))
  rw [show (Value.ref C != Value.ref C) = false from by simp]
  simp only [Bool.false_eq_true, if_false]
  refine wpAny_bind (wpAny_pure ?_)
  simp only [Bool.false_eq_true, if_false]
  refine wpAny_bind ?_
  simp only [tryCompare]
  refine wpAny_bind ?_
  simp only [callSpecialIfBound?, bindSpecialIfBound?]
  refine wpAny_holding (wpAny_bind (wpAny_bind (wpAny_bind (J.type.here ((PySem.W.looks_findIn XK hn).here ?_)))))
  refine wpAny_bind (wpAny_askSetting (wpAny_ite ?_))
  have two : PySem.W.Looks (model X.prog X.w) s.heap (isInstance (.ref a) (.type "object")) true := J.type.andThen (PySem.W.looks_mroIn XK ht)
  have callE : wpAny (model X.prog X.w) X.A.in1 (call (.ref f) [.ref a, .ref b]) (fun v s' => ∃ c, v = .bool c ∧ ∃ H', Inv X pins σ H' s' ∧ Q (.bl (!c)) H') X.xe s := by
    have hl := F.len _ _ _ _ hsp
    have r2 : Vals [V.ref a, V.ref b] [Value.ref a, Value.ref b] := .cons rfl (.cons rfl .nil)
    refine wpAny_call (codeAny_mono (F.run X.A.in1 X.stack s H ⟨[.ref a, .ref b], []⟩ [.ref a, .ref b] [.ref a, .ref b] _ E hr.in1 I.env0.in1 (by
      have := hb s [.ref a, .ref b] I.kIn (by simpa using hl)
      simpa using this) r2 hsp) fun r s' hq => ?_)
    cases r with
    | error e => exact hx pins σ H s e s' I hq
    | ok fl =>
      cases fl with
      | ret w =>
        obtain ⟨z, H', I', rz, c, ez, q⟩ := I.after hq
        subst ez
        cases rz
        exact ⟨c, rfl, H', I', q⟩
      | next => exact False.elim hq
      | brk => exact False.elim hq
      | cont => exact False.elim hq
  have callN : wpAny (model X.prog X.w) X.A (call (.builtin "object.__ne__") [.ref a, .ref b]) (fun v s' => ∃ c, v = .bool c ∧ EP X pins σ Q (.bool c) s') X.xe s := by
    refine wpAny_call (codeAny_call_builtin slotNe.plain PySem.F.cmpEntry_ne (@PySem.W.check_slot (model X.prog X.w) _ _ _ "object.__ne__" "object" "__ne__" (.ref a) [.ref b] [] _ PySem.F.cmpKind_ne PySem.F.cmpSplit_ne two (PySem.F.cmpArgs_ne _ _) ?_))
    have hu : X.A.in1.units < cLine := hr.in1.units0
    unfold Builtin.«object.__ne__»
    repeat (first
      | with_reducible refine wpAny_cRoomFor hu ?_
      | (refine wpAny_bind (m := callSpecialIfBound? (.ref a) (Str.ofString "__eq__") [.ref b])
          (PySem.W.ifBound_K XK J hs hf (wpAny_mono callE (fun r s' hr => by
            obtain ⟨c, rfl, H', I', q⟩ := hr
            have fin : EP X pins σ Q (.bool (!c)) s' := ⟨.bl (!c), H', I', rfl, q⟩
            repeat (first | exact ⟨_, rfl, fin⟩ | (refine wpAny_bind (m := truthy (.bool _)) (wpAny_truthy_bool ?_)) | wp_step)) fun _ _ e => e)))
      | wp_step)
  have fin : wpAny (model X.prog X.w) X.A (call (.builtin "object.__ne__") ([.ref a] ++ [.ref b]) >>= fun v => pure (some v)) (fun r s' => ∃ c, r = some (.bool c) ∧ EP X pins σ Q (.bool c) s') X.xe s := wpAny_bind (wpAny_mono callN (fun v s' z => by
    obtain ⟨c, rfl, q⟩ := z
    exact wpAny_pure ⟨c, rfl, q⟩) fun _ _ e => e)
  split
  · rw [slotNe.bind]
    refine wpAny_bind (wpAny_pure (wpAny_pure ?_))
    refine wpAny_mono fin (fun r s' z => ?_) fun _ _ e => e
    obtain ⟨c, rfl, q⟩ := z
    exact wpAny_pure (wpAny_pure q)
  · rw [slotNe.bind]
    refine wpAny_tryCatch (wpAny_bind (wpAny_pure (wpAny_pure ?_)))
    refine wpAny_mono fin (fun r s' z => ?_) fun _ _ e => e
    obtain ⟨c, rfl, q⟩ := z
    exact wpAny_pure (wpAny_pure q)
end OD

set_option Elab.async false
set_option linter.all false
set_option maxRecDepth 100000
set_option maxHeartbeats 4000000
/-! C() without an own __init__; x == y by an own __eq__ that answers either way -/
namespace OW
open PySem PySem.Spec PyProof.Rows L2
structure Bare (K : PySem.W.Frag) (C : Addr) : Prop where
  makes : PySem.W.makesIn K C = true
  init : PySem.W.findIn K (.ref C) "__init__" = some (some (.builtin "object.__init__"))
  top : PySem.W.mroIn K C (.type "object") = some true
  kp : PySem.W.keepIn K (.ref C) = true
def tBare (C : Addr) : TE := fun _ H Q => ∀ x dx, H x = none → H dx = none → dx ≠ x → Q (.ref x) (upd (upd H dx (.own x)) x (.ins C dx []))
section
variable {X : Cx} {C : Addr} {x : Str} {p pos : Pos}
theorem pe_bare (M : Bare X.K C) (hg : Gl X x) (hm : X.mg x = some (.ref C)) (hdb : (x == ("__debug__" : Str)) = false := by decide) : PE X (.Call (.Name x p) [] [] pos) (tBare C) := by
  refine ⟨fun pins s σ H Q I h => ?_⟩
  refine wpAny_Call_Name_kw (ld_glob I hg hm ?_ hdb)
  refine PySem.W.callWith_K0 I.kIn M.kp ?_
  refine wpAny_call (make_map0 I.kIn M.makes M.init (fun self => PySem.W.Looks.of_pure (PySem.W.oi_bind _)) ?_)
  have I2 := Inv.made (C := C) I
  have ho : ((s.heap.push PySem.W.emptyDict).push (PySem.W.instObj C s.heap.objs.size)).get? (s.heap.objs.size + 1) = some (PySem.W.instObj C s.heap.objs.size) := by
    have := Heap.get?_push_size (s.heap.push PySem.W.emptyDict) (o := PySem.W.instObj C s.heap.objs.size) rfl
    rwa [Heap.size_push] at this
  have t2 : PySem.W.Looks (model X.prog X.w) _ (isInstance (.ref (s.heap.objs.size + 1)) (.type "object")) true := (NwA.type_at ho rfl).andThen (PySem.W.looks_mroIn I2.kIn M.top)
  refine codeAny_call_builtin PySem.W.oi_plain PySem.W.entry_oi (@PySem.W.check_slot (model X.prog X.w) _ _ _ "object.__init__" "object" "__init__" (.ref (s.heap.objs.size + 1)) [] [] _ PySem.W.oi_kind PySem.W.oi_split t2 (NwA.oi_args_any _ _ _) ?_)
  rw [PySem.W.oi_run]
  exact wpAny_pure ⟨rfl, V.ref (s.heap.objs.size + 1), _, I2, rfl, h _ _ (I.hok.fresh (Nat.le_succ _)) (I.hok.fresh (Nat.le_refl _)) (Nat.ne_of_lt (Nat.lt_succ_self _))⟩
/-! ### == -/
def rEqOwn (K : PySem.W.Frag) (C : Addr) (sp : Sp) (E : XK) : R2 := fun x y H Q => ∃ a b dx fs, x = .ref a ∧ y = .ref b ∧ H a = some (.ins C dx fs) ∧ ((∃ dy gs, H b = some (.ins C dy gs)) ∨ ∃ ys, SqT K H b ys) ∧ sp [x, y] H (fun v H' => ∃ c, v = .bl c ∧ Q v H') E
theorem op_eqOwn {CX : CXT} {n : Nat} {f : Addr} {fd : FuncData} {ps : List Str} {sp : Sp} {E : XK} (F : FnOk X.prog X.w X.K X.mg X.base CX n f fd ps sp) (hr : Room n X.A)
    (hs : PySem.W.findIn X.K (.ref C) "__eq__" = some (some (.ref f))) (hf : PySem.W.isFn X.K (.ref f) = true) (hb : Binds X.K fd ps []) (hx : Passes CX X E) (hT : PySem.W.subIn X.K (.type "tuple") (.ref C) = some false) : OpR X (compareOp .Eq) (rEqOwn X.K C sp E) := by
  intro pins s σ H x y v u Q I rx ry h
  obtain ⟨a, b, dx, fs, rfl, rfl, ha, hy, hsp⟩ := h
  cases rx
  cases ry
  obtain ⟨mA, J, _⟩ := ins_get I.hok ha
  obtain ⟨od, J, _⟩ := J.look
  obtain ⟨m, hF⟩ := I.fr
  show wpAny (model X.prog X.w) X.A (richCompare .Eq (.ref a) (.ref b)) (EP X pins σ Q) X.xe s
  have go : ∀ {tb : Value}, PySem.W.Looks (model X.prog X.w) s.heap (typeOf (.ref b)) tb → PySem.W.notFirst X.K C tb = true → wpAny (model X.prog X.w) X.A (richCompare .Eq (.ref a) (.ref b)) (EP X pins σ Q) X.xe s := fun {tb} lk nf => by
    refine PySem.W.cmp_K (op := .Eq) (tb := tb) hr.units0 hF I.ok.mod.kin J lk nf hs hf ?_
    have hl := F.len _ _ _ _ hsp
    have r2 : Vals [V.ref a, V.ref b] [Value.ref a, Value.ref b] := .cons rfl (.cons rfl .nil)
    refine wpAny_call (codeAny_mono (F.run X.A X.stack s H ⟨[.ref a, .ref b], []⟩ [.ref a, .ref b] [.ref a, .ref b] _ E hr I.env0 (by
      have := hb s [.ref a, .ref b] I.kIn (by simpa using hl)
      simpa using this) r2 hsp) fun r s' hq => ?_)
    cases r with
    | error e => exact hx pins σ H s e s' I hq
    | ok fl =>
      cases fl with
      | ret w =>
        obtain ⟨z, H', I', rz, c, ez, q⟩ := I.after hq
        subst ez
        cases rz
        exact ⟨.bl c, H', I', rfl, q⟩
      | next => exact False.elim hq
      | brk => exact False.elim hq
      | cont => exact False.elim hq
  rcases hy with ⟨dy, gs, hb'⟩ | ⟨ys, hT2⟩
  · obtain ⟨mB, J', _⟩ := ins_get I.hok hb'
    obtain ⟨od', J', _⟩ := J'.look
    exact go J'.type (by simp [PySem.W.notFirst])
  · obtain ⟨its, r, ⟨o, ho, hc, _⟩, _⟩ := I.tuple hT2
    exact go (tb := .type "tuple") ((PySem.W.Looks.ld ho).andThen (by rw [hc]; exact .now)) (by simp [PySem.W.notFirst, hT])
end
end OW

set_option Elab.async false
set_option linter.all false
set_option maxRecDepth 100000
set_option maxHeartbeats 4000000
/-! == of dicts whose values have an own __eq__ that answers either way -/
namespace EB
open PySem PySem.Spec PyProof.Rows L2 PySem.W
/-- how two values compare, by the abstract heap -/
abbrev Eqb := V → V → Bool → Hp → Prop
def Mon2 (D : Eqb) : Prop := ∀ x y c H H', Ext H H' → D x y c H → D x y c H'
def EqB (X : Cx) (n : Nat) (D : Eqb) : Prop :=
  ∀ (A : Around) (pins : List (Addr × Obj)) (s : Shared) (σ : L2.St) (H : Hp) (x y : V) (c : Bool) (u v : Value), Sub X n A → Inv X pins σ H s → RelV x u → RelV y v → D x y c H →
    wpAny (model X.prog X.w) A (eqBool u v) (fun r s' => r = c ∧ ∃ H', Inv X pins σ H' s' ∧ Ext H H') X.xe s
def RcB (X : Cx) (n : Nat) (D : Eqb) : Prop :=
  ∀ (A : Around) (pins : List (Addr × Obj)) (s : Shared) (σ : L2.St) (H : Hp) (x y : V) (c : Bool) (u v : Value), Sub X n A → Inv X pins σ H s → RelV x u → RelV y v → D x y c H →
    wpAny (model X.prog X.w) A (richCompare .Eq u v) (fun r s' => r = .bool c ∧ ∃ H', Inv X pins σ H' s' ∧ Ext H H') X.xe s
/-- the pairs of one table looked up in another one -/
inductive Hits (D : Eqb) (H : Hp) (kb : List (Key × V)) : List (Key × V) → Bool → Prop
  | nil : Hits D H kb [] true
  | miss {k : Key} {v : V} {r : List (Key × V)} : valV kb k = none → Hits D H kb ((k, v) :: r) false
  | hit {k : Key} {v y : V} {r : List (Key × V)} {e b : Bool} : valV kb k = some y → D v y e H → Hits D H kb r b → Hits D H kb ((k, v) :: r) (e && b)
section
variable {D : Eqb} {H H' : Hp} {kb : List (Key × V)}
theorem Hits.mon (hD : Mon2 D) (x : Ext H H') {r : List (Key × V)} {b : Bool} (h : Hits D H kb r b) : Hits D H' kb r b := by
  induction h with
  | nil => exact .nil
  | miss h => exact .miss h
  | hit h d _ ih => exact .hit h (hD _ _ _ _ _ x d) ih
theorem Hits.inv {k : Key} {v : V} {r : List (Key × V)} {b : Bool} (h : Hits D H kb ((k, v) :: r) b) : (valV kb k = none ∧ b = false) ∨ ∃ y e b', valV kb k = some y ∧ D v y e H ∧ Hits D H kb r b' ∧ b = (e && b') := by
  cases h with
  | miss hn => exact .inl ⟨hn, rfl⟩
  | hit hy he hr => exact .inr ⟨_, _, _, hy, he, hr, rfl⟩
theorem Hits.of (e : Key → Bool) : ∀ (r : List (Key × V)), (∀ k v y, (k, v) ∈ r → valV kb k = some y → D v y (e k) H) → Hits D H kb r (r.all fun p => (valV kb p.1).isSome && e p.1)
  | [], _ => .nil
  | (k, v) :: r, h => by
    cases hv : valV kb k with
    | none =>
      have q : (((k, v) :: r).all fun p => (valV kb p.1).isSome && e p.1) = false := by simp [hv]
      rw [q]
      exact .miss hv
    | some y =>
      have q : (((k, v) :: r).all fun p => (valV kb p.1).isSome && e p.1) = (e k && r.all fun p => (valV kb p.1).isSome && e p.1) := by simp [hv]
      rw [q]
      exact .hit hv (h k v y List.mem_cons_self hv) (Hits.of e r fun k' v' y' hm hv' => h k' v' y' (List.mem_cons_of_mem _ hm) hv')
end
section
variable {X : Cx} {n : Nat} {D : Eqb} {A : Around} {pins : List (Addr × Obj)} {σ : L2.St} {H : Hp} {s : Shared} {a b : Addr} {oa ob : Obj} {ka kb : List (Key × V)} {r : Bool}
theorem find_arr {K : Type} (P : K → Value → Bool) (es : Array DictEntry) (k : K) : findBy P es k = (es.toList.find? fun e => P k e.key).map (·.val) := by
  obtain ⟨l⟩ := es
  simp [findBy]
/-- what stands in the memory of a locked dict -/
theorem tab (I : Inv X pins σ H s) (ha : H a = some (.frz oa (.dK ka))) : ∃ es ep, oa.data = .dict es ep ∧ es.size = ka.length ∧ (a == sysModules) = false ∧ ∀ (s' : Shared) (H' : Hp), Inv X pins σ H' s' → Ext H H' →
    s'.heap.get? a = some oa ∧ ∃ vs, KV ka vs ∧ KeysOf (mixKind X.prog X.w) es ∧ Pairs (mixKind X.prog X.w) es.toList vs ∧ (vs.map (·.1)).Nodup := by
  obtain ⟨hs, hg, hx, es, ep, vs, hdt, hsz, kv, o', es', ho', hx', hd', hk, hp, hn⟩ := I.frzK ha
  refine ⟨es, ep, hdt, hsz, hs, fun s' H' I' e => ?_⟩
  obtain ⟨_, hg2, _, es2, ep2, vs2, hdt2, _, kv2, o2, es3, ho2, _, hd2, hk2, hp2, hn2⟩ := I'.frzK (e _ _ ha)
  rw [hg2] at ho2
  obtain rfl := Option.some.inj ho2
  rw [hdt] at hd2
  injection hd2 with e1 e2
  subst e1
  exact ⟨hg2, vs2, kv2, hk2, hp2, hn2⟩
theorem samePairsB {nm : String} (hD : Mon2 D) (h : EqB X n D) (sb : Sub X n A) (I : Inv X pins σ H s) (ha : H a = some (.frz oa (.dK ka))) (hb : H b = some (.frz ob (.dK kb))) (hits : ka.length = kb.length → Hits D H kb ka r)
    {Q : Bool → Shared → Prop} (q : ∀ s' H', Inv X pins σ H' s' → Ext H H' → Q (ka.length == kb.length && r) s') : wpAny (model X.prog X.w) A (Builtin.Dict.samePairs nm a b) Q X.xe s := by
  obtain ⟨es, ep, hda, hsa, sa, ta⟩ := tab I ha
  obtain ⟨es', ep', hdb, hsb, sb', tb⟩ := tab I hb
  obtain ⟨hoa, _⟩ := ta s H I Ext.rfl'
  obtain ⟨hob, _⟩ := tb s H I Ext.rfl'
  rw [← hsa, ← hsb] at q
  unfold Builtin.Dict.samePairs Builtin.Dict.showsAll
  rw [if_neg (show ¬ (a == sysModules) = true by rw [sa]; exact Bool.false_ne_true), if_neg (show ¬ (b == sysModules) = true by rw [sb']; exact Bool.false_ne_true)]
  refine wpAny_bind (wpAny_pure (wpAny_bind (wpAny_pure ?_)))
  refine wpAny_bind (wpAny_dictEntries hoa hda ?_)
  dsimp only
  refine wpAny_bind (wpAny_dictEntries hob hdb ?_)
  by_cases hsz : es.size = es'.size
  case neg =>
    rw [if_pos (by simpa using hsz)]
    have hbf : (es.size == es'.size) = false := by simpa using hsz
    rw [hbf, Bool.false_and] at q
    exact wpAny_bind (wpAny_rule (wpAny_pure (q s H I Ext.rfl')))
  case pos =>
    have q' : ∀ s' H', Inv X pins σ H' s' → Ext H H' → Q r s' := by simpa [hsz] using q
    have hits' := hits (by rw [← hsa, ← hsb]; exact hsz)
    rw [if_neg (by rw [hsz]; simp)]
    refine wpAny_bind (wpAny_dictEpoch hoa hda ?_)
    refine wpAny_bind ?_
    rw [Std.Legacy.Range.forIn_eq_forIn_range']
    simp only [Std.Legacy.Range.size, Nat.sub_zero, Nat.add_sub_cancel, Nat.div_one]
    refine wpAny_forIn_list _
      (fun rest z s' => (∃ H', Inv X pins σ H' s' ∧ Ext H H' ∧ Hits D H' kb (ka.drop (es.size - rest.length)) r) ∧ z = (none, ()) ∧ ∃ i, rest = List.range' i (es.size - i) ∧ i ≤ es.size)
      _ ?_ ?_ _ _ ⟨⟨H, I, Ext.rfl', by rw [List.length_range', Nat.sub_self]; exact hits'⟩, rfl, 0, by simp, Nat.zero_le _⟩
    · rintro x rest z s' ⟨⟨H1, I1, x1, hpre⟩, rfl, i, hr, hi⟩
      have hlt : i < es.size := by
        rcases Nat.lt_or_ge i es.size with h | h
        · exact h
        · rw [Nat.sub_eq_zero_of_le h] at hr; simp at hr
      obtain ⟨rfl, hrest⟩ : x = i ∧ rest = List.range' (i + 1) (es.size - (i + 1)) := by
        have e : es.size - i = (es.size - (i + 1)) + 1 := by omega
        rw [e, List.range'_succ] at hr
        injection hr with h1 h2
        exact ⟨h1, h2⟩
      have hl1 : es.size - (x :: rest).length = x := by
        rw [List.length_cons, hrest, List.length_range']; omega
      have hl2 : es.size - rest.length = x + 1 := by
        rw [hrest, List.length_range']; omega
      rw [hl1] at hpre
      obtain ⟨ga, vs, kv, hka, hpa, hna⟩ := ta s' H1 I1 x1
      obtain ⟨gb, us, ku, hkb, hpb, hnb⟩ := tb s' H1 I1 x1
      refine wpAny_bind (wpAny_dictEntries ga hda ?_)
      rw [Array.getElem?_eq_getElem hlt]
      have hlt' : x < ka.length := by rw [← hsa]; exact hlt
      obtain ⟨k, v, hkv⟩ : ∃ k v, ka[x] = (k, v) := ⟨_, _, rfl⟩
      have hdrop : ka.drop x = (k, v) :: ka.drop (x + 1) := by rw [← hkv]; exact List.drop_eq_getElem_cons hlt'
      obtain ⟨⟨k2, v2⟩, hv2, ek, rv⟩ : ∃ p, vs[x]? = some p ∧ k = p.1 ∧ RelV v p.2 := by
        obtain ⟨p, hp, e1, e2⟩ := paired_get kv (List.getElem?_eq_getElem hlt')
        rw [hkv] at e1 e2
        exact ⟨p, hp, e1, e2⟩
      simp only at ek rv
      subst ek
      obtain ⟨hkey, hval⟩ := hpa.get? (i := x) (e := es[x]) (k := k) (v := v2) (by rw [Array.getElem?_toList]; exact Array.getElem?_eq_getElem hlt) hv2
      obtain ⟨k', hk', hh⟩ := hka es[x] (Array.getElem_mem hlt)
      have ekk : k' = k := (mixKind X.prog X.w).inj _ _ _ hk' hkey
      rw [ekk] at hh
      rw [hdrop] at hpre
      have hfind : ∀ k, findBy (mixKind X.prog X.w).is es' k = valueAt us k := fun k => by
        rw [← hpb.find k]
        exact find_arr _ _ _
      have rel := ku.val k
      show wpAny _ _ (holding [es[x].key, es[x].val] _ >>= _) _ _ _
      rw [hh]
      refine wpAny_bind (wpAny_holding (wpAny_bind (wpAny_dictFind_of hkey gb hdb hkb ?_)))
      cases hj : es'.findIdx? fun e => (mixKind X.prog X.w).is k e.key with
      | none =>
        have hn : valueAt us k = none := by rw [← hfind k, findBy_of_findIdx?, hj]
        have hn' : valV kb k = none := by
          rw [hn] at rel
          cases hv : valV kb k with
          | none => rfl
          | some y => rw [hv] at rel; exact (show False from rel).elim
        rcases hpre.inv with ⟨_, er⟩ | ⟨y, _, _, hy, _⟩
        · rw [er] at q'
          refine wpAny_pure ?_
          show wpAny _ _ (if (!false) = true then _ else _) _ _ _
          rw [if_pos (by decide)]
          exact wpAny_pure (wpAny_pure (q' _ _ I1 x1))
        · rw [hn'] at hy; exact nomatch hy
      | some j =>
        obtain ⟨hjlt, _, _⟩ := Array.findIdx?_eq_some_iff_getElem.mp hj
        have hv' : valueAt us k = some es'[j].val := by
          rw [← hfind k, findBy_of_findIdx?, hj]
          simp [Array.getElem?_eq_getElem hjlt]
        refine wpAny_bind (wpAny_dictEntries gb hdb ?_)
        rw [Array.getElem?_eq_getElem hjlt]
        rw [hv'] at rel
        rcases hpre.inv with ⟨hn, _⟩ | ⟨y, e, b', hy, he, hrr, er⟩
        · rw [hn] at rel; exact (show False from rel).elim
        · rw [hy] at rel
          have ry : RelV y es'[j].val := rel
          rw [← hval] at rv
          refine wpAny_holding (wpAny_mono (h A pins s' σ H1 v y e _ _ sb I1 rv ry he) (fun c s2 w2 => ?_) fun _ _ x => x)
          obtain ⟨ec, H2, I2, x2⟩ := w2
          subst ec
          cases c with
          | false =>
            rw [er, Bool.false_and] at q'
            show wpAny _ _ (if (!false) = true then _ else _) _ _ _
            rw [if_pos (by decide)]
            exact wpAny_pure (wpAny_pure (q' _ _ I2 (x1.trans x2)))
          | true =>
            rw [Bool.true_and] at er
            rw [← er] at hrr
            obtain ⟨ga2, _⟩ := ta s2 H2 I2 (x1.trans x2)
            show wpAny _ _ (if (!true) = true then _ else _) _ _ _
            rw [if_neg (by decide)]
            refine wpAny_bind (wpAny_dictEpoch ga2 hda ?_)
            rw [if_neg (by simp)]
            exact wpAny_pure ⟨⟨H2, I2, x1.trans x2, by rw [hl2]; exact hrr.mon hD x2⟩, rfl, x + 1, hrest, hlt⟩
    · rintro z s' ⟨⟨H1, I1, x1, hpre⟩, rfl, i, hr, hi⟩
      refine wpAny_pure ?_
      rw [List.length_nil, Nat.sub_zero, hsa, List.drop_length] at hpre
      cases hpre
      exact q' _ _ I1 x1
theorem richB (hD : Mon2 D) (h : EqB X n D) (sb : Sub X (n + 1) A) (I : Inv X pins σ H s) (ha : H a = some (.frz oa (.dK ka))) (hb : H b = some (.frz ob (.dK kb))) (hits : ka.length = kb.length → Hits D H kb ka r)
    {Q : Value → Shared → Prop} (q : ∀ s' H', Inv X pins σ H' s' → Ext H H' → Q (.bool (ka.length == kb.length && r)) s') : wpAny (model X.prog X.w) A (richCompare .Eq (.ref a) (.ref b)) Q X.xe s := by
  obtain ⟨_, _, ta⟩ := dk_rd I.hok (.inr ⟨_, ha⟩)
  obtain ⟨vs, _, da⟩ := ta
  obtain ⟨_, _, tb⟩ := dk_rd I.hok (.inr ⟨_, hb⟩)
  obtain ⟨us, _, db⟩ := tb
  refine wpAny_richCompare_same_room (op := .Eq) da.typeIs db.typeIs F.slot_dict_eq (wpAny_call_entry F.slot_dict_eq da.typeIs F.entry_dict_eq ?_ (F.args_dict_eq_2 _ _)) sb.room.units0
  show wpAny _ _ (Builtin.Dict.dictSlotArgs "__eq__" ⟨[.ref a, .ref b], []⟩ >>= _) _ _ s
  refine wpAny_bind ?_
  unfold Builtin.Dict.dictSlotArgs
  refine wpAny_bind (wpAny_notOrdered_dict da.typeIs ?_)
  show wpAny _ _ (pure (Value.ref a, Value.ref b)) _ _ s
  refine wpAny_pure ?_
  refine wpAny_bind (wpAny_isInstance (T := "dict") db.typeIs F.sub_dict_dict ?_)
  simp only [Bool.not_true, Bool.false_eq_true, if_false]
  refine wpAny_bind (wpAny_pure (wpAny_bind (wpAny_pure ?_)))
  refine wpAny_bind (samePairsB hD h sb.in1 I ha hb hits fun s' H' I' x => ?_)
  refine wpAny_pure ⟨_, rfl, ?_, ?_⟩
  · exact fun z => nomatch z
  · simpa using q s' H' I' x
end
/-! ### as an expression, the two dicts locked meanwhile -/
def rEqD (D : Eqb) : R2 := fun x y H Q => ∃ a b ka kb r, x = .ref a ∧ y = .ref b ∧ H a = some (.dK ka) ∧ H b = some (.dK kb) ∧
  (ka.length = kb.length → ∀ H', (∀ c, c ≠ a → c ≠ b → H' c = H c) → Hits D H' kb ka r) ∧ ∀ H', Ext H H' → Q (.bl (ka.length == kb.length && r)) H'
section
variable {X : Cx} {n m : Nat} {D D' : Eqb}
theorem op_eqD (hD : Mon2 D) (h : EqB X n D) (hr : Room (n + 1) X.A) : OpR X (compareOp .Eq) (rEqD D) := by
  intro pins s σ H x y v u Q I rx ry hq
  obtain ⟨a, b, ka, kb, r, rfl, rfl, ha, hb, hits, q⟩ := hq
  cases rx
  cases ry
  show wpAny (model X.prog X.w) X.A (richCompare .Eq (.ref a) (.ref b)) (EP X pins σ Q) X.xe s
  obtain ⟨oa, I1⟩ := I.lock ha True.intro
  have na := I.nofrz ha True.intro
  by_cases hab : a = b
  · subst hab
    rw [ha] at hb
    cases hb
    have e1 : upd H a (.frz oa (.dK ka)) a = some (.frz oa (.dK ka)) := upd_same
    refine richB hD h ⟨hr, rfl⟩ I1 e1 e1 (fun hl => hits hl _ fun c hc _ => upd_ne hc) fun s' H' I' x => ?_
    have I2 := I'.unlock (x _ _ e1) na
    refine ⟨.bl _, _, I2, rfl, q _ fun c o e => ?_⟩
    by_cases hc : c = a
    · rw [hc, upd_same, ← e, hc, ha]
    · rw [upd_ne hc]; exact x _ _ (by rw [upd_ne hc]; exact e)
  · have hb1 : upd H a (.frz oa (.dK ka)) b = some (.dK kb) := by rw [upd_ne (Ne.symm hab)]; exact hb
    obtain ⟨ob, I2⟩ := I1.lock hb1 True.intro
    have nb := I1.nofrz hb1 True.intro
    have ea : upd (upd H a (.frz oa (.dK ka))) b (.frz ob (.dK kb)) a = some (.frz oa (.dK ka)) := by rw [upd_ne hab]; exact upd_same
    have eb : upd (upd H a (.frz oa (.dK ka))) b (.frz ob (.dK kb)) b = some (.frz ob (.dK kb)) := upd_same
    refine richB hD h ⟨hr, rfl⟩ I2 ea eb (fun hl => hits hl _ fun c hc hc' => by rw [upd_ne hc', upd_ne hc]) fun s' H' I' x => ?_
    have I3 := I'.unlock (x _ _ eb) nb
    have I4 := I3.unlock (d := a) (od := oa) (u := .dK ka) (by rw [upd_ne hab]; exact x _ _ ea) na
    refine ⟨.bl _, _, I4, rfl, q _ fun c o e => ?_⟩
    by_cases hc : c = a
    · rw [hc, upd_same, ← e, hc, ha]
    · rw [upd_ne hc]
      by_cases hc' : c = b
      · rw [hc', upd_same, ← e, hc', hb]
      · rw [upd_ne hc']; exact x _ _ (by rw [upd_ne hc', upd_ne hc]; exact e)
/-! ### what the values may be -/
theorem EqB.mono (h : EqB X n D) (hn : n ≤ m) : EqB X m D := fun A pins s σ H x y c u v sb => h A pins s σ H x y c u v (sb.mono hn)
theorem EqB.or (h : EqB X n D) (h' : EqB X n D') : EqB X n (fun x y c H => D x y c H ∨ D' x y c H) := fun A pins s σ H x y c u v sb I rx ry d => by
  rcases d with d | d
  · exact h A pins s σ H x y c u v sb I rx ry d
  · exact h' A pins s σ H x y c u v sb I rx ry d
theorem Mon2.or (h : Mon2 D) (h' : Mon2 D') : Mon2 (fun x y c H => D x y c H ∨ D' x y c H) := fun x y c H H' e d => d.elim (fun d => .inl (h x y c H H' e d)) fun d => .inr (h' x y c H H' e d)
def EFlat : Eqb := fun x y c _ => flatV x = true ∧ flatV y = true ∧ eqV x y = c
theorem mon_eflat : Mon2 EFlat := fun _ _ _ _ _ _ d => d
theorem eqB_flat : EqB X 0 EFlat := by
  intro A pins s σ H x y c u v sb I rx ry d
  obtain ⟨fx, fy, e⟩ := d
  have q := eqAt_V (A := A) (s := s) rx ry fx fy
  rw [e] at q
  exact q X.prog X.w X.xe _ ⟨rfl, H, I, Ext.rfl'⟩
/-- an instance of C, whose == is the text's own, and an instance of this class or of another one that isn't below it -/
def EOwn (K : PySem.W.Frag) (C : Addr) (sp : Sp) (E : XK) : Eqb := fun x y c H => ∃ a b C' dx fs dy gs, x = .ref a ∧ y = .ref b ∧ H a = some (.ins C dx fs) ∧ H b = some (.ins C' dy gs) ∧ PySem.W.notFirst K C (.ref C') = true ∧ (a = b → c = true) ∧
  ∀ H', Ext H H' → sp [x, y] H' (fun v H2 => v = .bl c ∧ Ext H' H2) E
theorem mon_eown {K : PySem.W.Frag} {C : Addr} {sp : Sp} {E : XK} : Mon2 (EOwn K C sp E) := fun x y c H H' e d => by
  obtain ⟨a, b, C', dx, fs, dy, gs, hx, hy, h1, h2, hn, hc, r⟩ := d
  exact ⟨a, b, C', dx, fs, dy, gs, hx, hy, e _ _ h1, e _ _ h2, hn, hc, fun H2 e2 => r H2 (e.trans e2)⟩
theorem eqB_own {CX : CXT} {C f : Addr} {fd : FuncData} {ps : List Str} {sp : Sp} {E : XK} (F : FnOk X.prog X.w X.K X.mg X.base CX n f fd ps sp)
    (hs : PySem.W.findIn X.K (.ref C) "__eq__" = some (some (.ref f))) (hf : PySem.W.isFn X.K (.ref f) = true) (hb : Binds X.K fd ps []) (hx : Passes CX X E) : EqB X n (EOwn X.K C sp E) := by
  intro A pins s σ H x y c u v sb I rx ry d
  obtain ⟨a, b, C', dx, fs, dy, gs, rfl, rfl, ha, hb', hn, hc, hr⟩ := d
  cases rx
  cases ry
  by_cases hab : a = b
  · subst hab
    rw [hc rfl]
    exact SeqAt.EqAt.same (A := A) (s := s) (.ref a) X.prog X.w X.xe _ ⟨rfl, H, I, Ext.rfl'⟩
  · refine GQ.eqBool_refG hab ?_
    obtain ⟨mA, J, _⟩ := ins_get I.hok ha
    obtain ⟨mB, J', _⟩ := ins_get I.hok hb'
    obtain ⟨od, J, _⟩ := J.look
    obtain ⟨od', J', _⟩ := J'.look
    obtain ⟨m, hF⟩ := I.fr
    refine PySem.W.cmp_K (op := .Eq) (tb := .ref C') sb.room.units0 hF I.ok.mod.kin J J'.type hn hs hf ?_
    have hsp := hr H Ext.rfl'
    have e0 : Env0 X.prog X.w X.K X.mg X.base A X.stack s H := by
      have e := I.env0
      exact ⟨by rw [sb.fr]; exact e.frames, e.mod, e.bs, e.bsz, e.funs, e.frf, e.hok, e.bare⟩
    have hl := F.len _ _ _ _ hsp
    have r2 : Vals [V.ref a, V.ref b] [Value.ref a, Value.ref b] := .cons rfl (.cons rfl .nil)
    refine wpAny_call (codeAny_mono (F.run A X.stack s H ⟨[.ref a, .ref b], []⟩ [.ref a, .ref b] [.ref a, .ref b] _ E sb.room e0 (by
      have := hb s [.ref a, .ref b] I.kIn (by simpa using hl)
      simpa using this) r2 hsp) fun r s' hq => ?_)
    cases r with
    | error e => exact hx pins σ H s e s' I hq
    | ok fl =>
      cases fl with
      | ret w =>
        obtain ⟨z, H', I', rz, ez, ex⟩ := I.after hq
        subst ez
        cases rz
        exact ⟨c, rfl, rfl, H', I', ex⟩
      | next => exact False.elim hq
      | brk => exact False.elim hq
      | cont => exact False.elim hq
end
end EB

set_option Elab.async false
set_option linter.all false
set_option maxRecDepth 100000
set_option maxHeartbeats 4000000
/-! a dict's display with one more dict in it: {**d, k: v} -/
namespace MM
open PySem PySem.Spec PyProof.Rows L2
section
variable {prog : Program} {w : World} {K : Type} [DecidableEq K] {knd : KeyKind prog w K} {A : Around} {E : Value → Shared → Prop} {s : Shared}
theorem putAt {d : Addr} {kvs : List (K × Value)} {k : K} {key v : Value} {Q : Unit → Shared → Prop} (hkey : knd.is k key = true) (hm : s.heap.DictOf knd d kvs) (hsz : kvs.length ≤ sizeLine)
    (hQ : ∀ h', h'.DictOf knd d (stored kvs k v) → Heap.SameBut d s.heap h' → Q () { s with heap := h' }) : wpAny (model prog w) A (dictPut d (knd.hash k) key v) Q E s := by
  obtain ⟨o, es, ep, ho, hc, hd, hk, hp, hn⟩ := hm
  have hes : es.size ≤ sizeLine := by
    have e1 := hp.length
    rw [Array.length_toList] at e1
    omega
  have same : (es.findIdx? fun e => knd.is k e.key) = kvs.findIdx? fun kv => decide (kv.1 = k) := by
    rw [← hp.findIdx k]
    obtain ⟨l⟩ := es
    simp
  unfold dictPut
  refine wpAny_bind (wpAny_dictFind_of hkey ho hd hk ?_)
  rcases hi : es.findIdx? fun e => knd.is k e.key with _ | i
  · have no : k ∉ kvs.map (·.1) := not_mem_of_findIdx_none (same ▸ hi)
    have st : stored kvs k v = kvs ++ [(k, v)] := by
      unfold stored
      rw [if_neg]
      intro h
      obtain ⟨q, hq, e⟩ := List.any_eq_true.mp h
      exact no (List.mem_map.mpr ⟨q, hq, of_decide_eq_true e⟩)
    have hq := hQ
    rw [st] at hq
    rw [hi]
    refine wpAny_updateDictKeys (f := fun es => es.push ⟨knd.hash k, key, v⟩) (hz := hes) ho hd (hq _ ?_ (Heap.SameBut.update ..))
    refine ⟨_, _, ep + 1, Heap.get?_update_self _ ho (Obj.isFreed_of_dict (Obj.data_mapDictKeys hd _)), hc.mapDictKeys _, Obj.data_mapDictKeys hd _, hk.push hkey _, ?_, ?_⟩
    · have := hp.append hkey (knd.hash k) v
      obtain ⟨l⟩ := es
      simpa using this
    · rw [List.map_append, List.nodup_append]
      refine ⟨hn, by simp, fun a ha b hb e => no ?_⟩
      rw [List.map_cons, List.map_nil, List.mem_singleton] at hb
      have ea : a = k := e.trans hb
      exact ea ▸ ha
  · have st : stored kvs k v = kvs.map fun kv => if kv.1 = k then (kv.1, v) else kv := by
      unfold stored
      rw [if_pos (any_of_findIdx_some (same ▸ hi))]
    have hl : (es.toList.findIdx? fun e => knd.is k e.key) = some i := by
      rw [← hi]
      obtain ⟨l⟩ := es
      simp
    have hq := hQ
    rw [st] at hq
    rw [hi]
    refine wpAny_updateDict (f := fun es => es.modify i fun e => { e with val := v }) ho hd (hq _ ?_ (Heap.SameBut.update ..))
    refine ⟨_, _, ep, Heap.get?_update_self _ ho (Obj.isFreed_of_dict (Obj.data_mapDict hd _)), hc.mapDict _, Obj.data_mapDict hd _, hk.modify _ _, ?_, ?_⟩
    · have := hp.modify hn hl v
      obtain ⟨l⟩ := es
      simpa using this
    · rw [keys_map_store]
      exact hn
theorem merge_plain {d a : Addr} {kvs more : List (K × Value)} {Q : Unit → Shared → Prop} (hda : d ≠ a) (hoS : (a == sysModules) = false) (hd : s.heap.DictOf knd d kvs) (ha : s.heap.DictOf knd a more)
    (hsz : kvs.length + more.length ≤ sizeLine) (hQ : ∀ h', h'.DictOf knd d (merged kvs more) → Heap.SameBut d s.heap h' → Q () { s with heap := h' }) :
    wpAny (model prog w) A (mergeMapping d (.ref a) false) Q E s := by
  have tA := ha.typeIs (s := s)
  obtain ⟨od, esd, epd, hod, hcd, hdd, hkd, hpd, hnd⟩ := id hd
  obtain ⟨oo, eso, epo, hoo, hco, hdo, hko, hpo, hno⟩ := id ha
  have hlen : more.length = eso.size := by
    rw [← hpo.length, Array.length_toList]
  unfold mergeMapping
  refine wpAny_bind ?_
  refine wpAny_bind (wpAny_typeOf tA (wpAny_of_eq isSubtype_dict_dict ?_))
  rw [if_pos rfl]
  refine wpAny_bind (wpAny_specialOf tA F.slot_dict_iter.lookup ?_)
  refine wpAny_bind (wpAny_pure ?_)
  simp only [beq_self_eq_true]
  rw [if_neg (by rw [hoS]; exact Bool.false_ne_true)]
  have main : wpAny (model prog w) A (do
      let l ← dictEntries a
      let epoch ← dictEpoch a
      forIn (List.range l.size) PUnit.unit fun i (_ : PUnit) => (do
          let l' ← dictEntries a
          match l'[i]? with
            | some e => do
              holding [e.key, e.val] (dictPut d e.hash e.key e.val)
              let ep' ← dictEpoch a
              if (ep' != epoch) = true then do
                  (unsupported "dict.changed-during-merge" : Sem PUnit)
                  pure (ForInStep.yield PUnit.unit)
                else pure (ForInStep.yield PUnit.unit)
            | _ => do
              (unsupported "dict.changed-during-merge" : Sem PUnit)
              pure (ForInStep.yield PUnit.unit) : Sem (ForInStep PUnit))
      pure ()) Q E s := by
    refine wpAny_bind (wpAny_dictEntries hoo hdo ?_)
    refine wpAny_bind (wpAny_dictEpoch hoo hdo ?_)
    refine wpAny_bind ?_
    rw [List.range_eq_range']
    refine wpAny_forIn_list _ (fun l _ t => ∃ h' i, t = { s with heap := h' } ∧ l = List.range' i (eso.size - i) ∧ i ≤ eso.size ∧ h'.DictOf knd d (merged kvs (more.take i)) ∧ h'.get? a = some oo ∧ Heap.SameBut d s.heap h') _ ?_ ?_ _ _
      ⟨s.heap, 0, rfl, by simp, Nat.zero_le _, by simpa [merged] using hd, hoo, Heap.SameBut.refl _ _⟩
    · rintro x l b t ⟨h', i, rfl, hr, hi, hd', ha', hs'⟩
      have lt : i < eso.size := by
        refine Nat.lt_of_not_le fun h => ?_
        rw [Nat.sub_eq_zero_of_le h] at hr
        cases hr
      rw [show eso.size - i = (eso.size - (i + 1)) + 1 by omega, List.range'_succ] at hr
      injection hr with e1 e2
      subst e1
      refine wpAny_bind (wpAny_dictEntries ha' hdo ?_)
      rw [Array.getElem?_eq_getElem lt]
      have hm : ∃ k v, more[x]? = some (k, v) := by
        have hx : x < more.length := hlen ▸ lt
        exact ⟨_, _, List.getElem?_eq_getElem hx⟩
      obtain ⟨k, v, hkv⟩ := hm
      obtain ⟨hk1, hv1⟩ := hpo.get? (e := eso[x]) (by simp [lt]) hkv
      obtain ⟨k2, hk2, hh⟩ := hko eso[x] (Array.getElem_mem lt)
      obtain rfl : k2 = k := knd.inj _ _ _ hk2 hk1
      show wpAny _ _ (holding [eso[x].key, eso[x].val] (dictPut d eso[x].hash eso[x].key eso[x].val) >>= _) _ _ _
      rw [hh, hv1]
      have small : (merged kvs (more.take x)).length ≤ sizeLine := by
        have q1 := merged_length_le kvs (more.take x)
        have q2 := List.length_take_le x more
        omega
      refine wpAny_bind (wpAny_holding (putAt hk1 hd' small fun h2 hd2 hs2 => ?_))
      have ha2 : h2.get? a = some oo := (hs2.2 a (Ne.symm hda)).trans ha'
      refine wpAny_bind (wpAny_dictEpoch ha2 hdo ?_)
      rw [if_neg (by simp)]
      exact wpAny_pure ⟨h2, x + 1, rfl, e2, lt, by rw [merged_take_succ kvs more x _ hkv]; exact hd2, ha2, hs'.trans hs2⟩
    · rintro b t ⟨h', i, rfl, hr, hi, hd', ha', hs'⟩
      have ei : i = more.length := by
        refine hlen ▸ Nat.le_antisymm hi (Nat.le_of_not_lt fun h => ?_)
        rw [show eso.size - i = (eso.size - (i + 1)) + 1 by omega, List.range'_succ] at hr
        cases hr
      rw [ei, List.take_length] at hd'
      exact wpAny_pure (hQ h' hd' hs')
  refine wpAny_bind (wpAny_dictEntries hod hdd ?_)
  split
  · refine wpAny_bind (wpAny_dictEntries hoo hdo ?_)
    refine wpAny_bind ?_
    rw [← Array.forIn_toList]
    refine wpAny_forIn_list _ (fun l _ t => t = s ∧ ∀ e ∈ l, ∃ k, knd.is k e.key = true) _ ?_ ?_ _ _ ⟨rfl, fun e he => ?_⟩
    · rintro x l b t ⟨rfl, hl⟩
      obtain ⟨k, hk⟩ := hl x List.mem_cons_self
      have bv := knd.byValue _ _ hk
      split
      · rename_i r er
        rw [er] at bv
        cases bv
      · exact wpAny_pure ⟨rfl, fun e he => hl e (List.mem_cons_of_mem _ he)⟩
    · rintro b t ⟨rfl, _⟩
      exact main
    · obtain ⟨k, hk, _⟩ := hko e (by simpa using he)
      exact ⟨k, hk⟩
  · exact main
end
end MM

set_option Elab.async false
set_option linter.all false
set_option maxRecDepth 100000
set_option maxHeartbeats 4000000
namespace MM
open PySem PySem.Spec PyProof.Rows L2
def tStarPut (tm tk tv : TE) : TE := fun σ H Q => ∀ d, H d = none → tm σ (upd H d (.dK [])) fun x H1 => ∃ a kvs, x = .ref a ∧ Rd H1 a (.dK kvs) ∧ d ≠ a ∧ H1 d = some (.dK []) ∧ kvs.length < sizeLine ∧
  ∀ u, upd H1 d (.dK kvs) u = none → tk σ (upd (upd H1 d (.dK kvs)) u (.dK [])) fun y H2 => tv σ H2 fun z H3 => ∃ key : Key, y = kV key ∧ H3 u = some (.dK []) ∧ H3 d = some (.dK kvs) ∧ Q (.ref d) (upd (upd H3 u (.dK [(key, z)])) d (.dK (putK kvs key z)))
section
variable {X : Cx} {em k ev : Expr} {pos : Pos} {tm tk tv : TE}
theorem pe_starPut (hm : PE X em tm) (hk : PE X k tk) (hv : PE X ev tv) : PE X (.Dict [none, some k] [em, ev] pos) (tStarPut tm tk tv) := by
  refine ⟨fun pins s σ H Q I q => ?_⟩
  rw [arm_eval_Dict]
  refine wpAny_bind (wpAny_standAt ?_)
  show wpAny _ _ (dictDisplay [(none, (do let x ← eval em X.env; standAt pos; pure x)), (some (eval k X.env), (do let x ← eval ev X.env; standAt pos; pure x))]) _ _ _
  unfold dictDisplay
  dsimp only
  refine wpAny_bind ?_
  rw [List.forIn_cons]
  refine wpAny_bind ?_
  dsimp only
  refine wpAny_bind (wpAny_pure ?_)
  dsimp only
  refine wpAny_bind (wpAny_alloc ?_)
  have hn := I.hok.fresh (Nat.le_refl s.heap.objs.size)
  have I1 := I.laid (a := s.heap.objs.size) (o := .dK []) (h' := s.heap.push { cls := .type "dict", data := .dict #[] }) (t' := s.toks) (fun _ _ q => Heap.get?_push_of_some _ q) (Nat.le_refl _) (dk_empty s.heap I.big)
  refine wpAny_bind (wpAny_holding (wpAny_bind (thn (hm.run pins _ σ _ _ I1 (q _ hn)) fun m s2 ⟨x, H2, I2, rx, a, kvs, ex, ha, ne, hd0, hz, q2⟩ => wpAny_bind (wpAny_standAt (wpAny_pure ?_)))))
  subst ex
  cases rx
  obtain ⟨z0, hd1, vs0, r0, dd0⟩ := dk_of I2.hok hd0
  cases r0
  obtain ⟨z1, ha1, vs1, r1, dd1⟩ := dk_rd I2.hok ha
  have nod : (vs1.map (·.1)).Nodup := let ⟨_, _, _, _, _, _, _, _, h⟩ := dd1; h
  refine wpAny_bind (wpAny_onRaise (wpAny_tryCatch (wpAny_onRaise (wpAny_holding (merge_plain ne ha1 dd0 dd1 (by rw [List.length_nil, Nat.zero_add, ← r1.length]; exact z1) fun h3 d3 hs3 => ?_)))))
  rw [merged_nil_of_nodup vs1 nod] at d3
  have he3 : ∃ q, h3.get? s.heap.objs.size = some q := let ⟨q, _, _, hq, _⟩ := d3; ⟨q, hq⟩
  have I3 := d_write (ob := .dK kvs) (t' := s2.toks) I2 (by rw [hd0]; exact True.intro) hs3 he3 (dk_new z1 hd1 r1 d3)
  refine wpAny_pure ?_
  dsimp only
  rw [List.forIn_cons]
  refine wpAny_bind ?_
  dsimp only
  rw [if_neg (by simp)]
  refine wpAny_pure ?_
  dsimp only
  rw [List.forIn_nil]
  refine wpAny_pure ?_
  dsimp only
  rw [if_neg (by simp)]
  refine wpAny_bind ?_
  refine wpAny_bind (wpAny_holding (wpAny_subDict (knd := mixKind X.prog X.w) (by simp) ?_))
  have hn3 := I3.hok.fresh (Nat.le_refl h3.objs.size)
  have I4 := I3.laid (a := h3.objs.size) (o := .dK []) (h' := h3.push { cls := .type "dict", data := .dict #[] }) (t' := s2.toks) (fun _ _ q => Heap.get?_push_of_some _ q) (Nat.le_refl _) (dk_empty h3 I3.big)
  show wpAny _ _ (evalPairs [(eval k X.env, (do let x ← eval ev X.env; standAt pos; pure x))]) _ _ _
  unfold evalPairs evalPairs
  refine wpAny_bind (thn (hk.run pins _ σ _ _ I4 (q2 _ hn3)) fun kv s5 ⟨y, H5, I5, ry, q5⟩ => ?_)
  refine wpAny_bind (wpAny_holding (wpAny_bind (thn (hv.run pins s5 σ _ _ I5 q5) fun vv s6 ⟨z, H6, I6, rz, key, ey, eu, ed, q6⟩ => wpAny_bind (wpAny_standAt (wpAny_pure ?_)))))
  refine wpAny_bind (wpAny_holding (wpAny_pure (wpAny_pure ?_)))
  subst ey
  obtain ⟨rs, c, rk⟩ := carries_of (P := X.prog) (w := X.w) (kvs := [(key, z)]) (ws := [(kv, vv)]) (.cons ⟨ry, rz⟩ .nil)
  obtain ⟨z6, hu6, vs6, r6, dd6⟩ := dk_of I6.hok eu
  cases r6
  refine ⟨rs, c, dd6, fun h7 dd7 hs7 => ?_⟩
  have he7 : ∃ q, h7.get? h3.objs.size = some q := let ⟨q, _, _, hq, _⟩ := dd7; ⟨q, hq⟩
  have rk1 : KV [(key, z)] (merged [] rs) := rk.merge .nil
  have I7 := d_write (ob := .dK [(key, z)]) (t' := s6.toks + [(kv, vv)].length) I6 (by rw [eu]; exact True.intro) hs7 he7 (dk_new (by rw [sizeLine_eq]; simp) hu6 rk1 dd7)
  have nud : h3.objs.size ≠ s.heap.objs.size := fun e => by
    rw [e, upd_same] at hn3
    cases hn3
  have ed7 : upd H6 h3.objs.size (.dK [(key, z)]) s.heap.objs.size = some (.dK kvs) := by rw [upd_ne (Ne.symm nud)]; exact ed
  obtain ⟨z8, hd8, vs8, r8, dd8⟩ := dk_of I7.hok ed7
  refine wpAny_bind (wpAny_onRaise (wpAny_holding (merge_plain (Ne.symm nud) hu6 dd8 dd7 ?_ fun h9 d9 hs9 => ?_)))
  · have e1 := rk1.length
    have e2 := r8.length
    rw [← e1, ← e2, List.length_singleton]
    omega
  · have he9 : ∃ q, h9.get? s.heap.objs.size = some q := let ⟨q, _, _, hq, _⟩ := d9; ⟨q, hq⟩
    have rk9 : KV (mergeK kvs [(key, z)]) (merged vs8 (merged [] rs)) := rk1.merge r8
    have z9 : (mergeK kvs [(key, z)]).length ≤ sizeLine := by
      have := length_mergeK [(key, z)] kvs
      rw [List.length_singleton] at this
      omega
    have I9 := d_write (ob := .dK (mergeK kvs [(key, z)])) (t' := s6.toks + [(kv, vv)].length) I7 (by rw [ed7]; exact True.intro) hs9 he9 (dk_new z9 hd8 rk9 d9)
    exact wpAny_pure (wpAny_pure ⟨.ref s.heap.objs.size, _, I9, rfl, q6⟩)
end
end MM

set_option Elab.async false
set_option linter.all false
set_option maxRecDepth 100000
set_option maxHeartbeats 4000000
/-! x in o, len(o), o[k], o(), o(k = v) by the methods of an own class -/
namespace OC
open PySem PySem.Spec PyProof.Rows L2 StX
def rInOwn (C : Addr) (sp : Sp) (E : XK) (g : Bool → Bool) : R2 := fun x y H Q => ∃ a dx fs, y = .ref a ∧ H a = some (.ins C dx fs) ∧ sp [y, x] H (fun v H' => ∃ c, v = .bl c ∧ Q (.bl (g c)) H') E
def rLenOwn (C : Addr) (sp : Sp) (E : XK) : List V → Hp → VK → Prop := fun xs H Q => ∃ a dx fs, xs = [.ref a] ∧ H a = some (.ins C dx fs) ∧ sp [.ref a] H (fun v H' => ∃ n : Int, v = .int n ∧ 0 ≤ n ∧ n < 2 ^ 63 ∧ Q (.int n) H') E
section
variable {X : Cx} {CX : CXT} {n : Nat} {C f : Addr} {sp : Sp} {E : XK}
theorem op_inOwn (F : FnR X.prog X.w X.K X.mg X.base CX n f sp) (hr : Room n X.A) (hs : PySem.W.findIn X.K (.ref C) "__contains__" = some (some (.ref f))) (hf : PySem.W.isFn X.K (.ref f) = true) (hx : Passes CX X E) : OpR X (compareOp .In) (rInOwn C sp E id) := by
  intro pins s σ H x y v u Q I rx ry h
  obtain ⟨a, dx, fs, rfl, ha, hsp⟩ := h
  cases ry
  obtain ⟨mA, J, _⟩ := ins_get I.hok ha
  obtain ⟨od, J, _⟩ := J.look
  obtain ⟨m, hF⟩ := I.fr
  refine PySem.W.in_K hF I.ok.mod.kin J hs hf ?_
  refine thn (wpAny_call (run_fnR (us := [.ref a, v]) (vs := [V.ref a, x]) F hr hx I (.cons rfl (.cons rx .nil)) hsp)) fun r s' ⟨z, H', I', rz, c, ez, q⟩ => ?_
  subst ez
  cases rz
  exact wpAny_truthy_bool ⟨.bl c, H', I', rfl, q⟩
theorem op_notInOwn (F : FnR X.prog X.w X.K X.mg X.base CX n f sp) (hr : Room n X.A) (hs : PySem.W.findIn X.K (.ref C) "__contains__" = some (some (.ref f))) (hf : PySem.W.isFn X.K (.ref f) = true) (hx : Passes CX X E) : OpR X (compareOp .NotIn) (rInOwn C sp E not) := by
  intro pins s σ H x y v u Q I rx ry h
  obtain ⟨a, dx, fs, rfl, ha, hsp⟩ := h
  cases ry
  obtain ⟨mA, J, _⟩ := ins_get I.hok ha
  obtain ⟨od, J, _⟩ := J.look
  obtain ⟨m, hF⟩ := I.fr
  refine PySem.W.notIn_K hF I.ok.mod.kin J hs hf ?_
  refine thn (wpAny_call (run_fnR (us := [.ref a, v]) (vs := [V.ref a, x]) F hr hx I (.cons rfl (.cons rx .nil)) hsp)) fun r s' ⟨z, H', I', rz, c, ez, q⟩ => ?_
  subst ez
  cases rz
  exact wpAny_truthy_bool ⟨.bl (!c), H', I', rfl, q⟩
theorem call_lenOwn (F : FnR X.prog X.w X.K X.mg X.base CX n f sp) (hr : Room (n + 1) X.A) (hs : PySem.W.findIn X.K (.ref C) "__len__" = some (some (.ref f))) (hf : PySem.W.isFn X.K (.ref f) = true) (hx : Passes CX X E) : CallR X (.builtin "len") (rLenOwn C sp E) := by
  intro pins s σ H xs us Q I r h
  obtain ⟨a, dx, fs, rfl, ha, hsp⟩ := h
  obtain ⟨u, rfl, ru⟩ := vals1 r
  cases ru
  obtain ⟨mA, J, _⟩ := ins_get I.hok ha
  obtain ⟨od, J, _⟩ := J.look
  obtain ⟨m, hF⟩ := I.fr
  refine PySem.W.len_K hF I.ok.mod.kin J hs hf ?_
  refine wpAny_call (codeAny_mono (F X.A.in1 X.stack s H [.ref a] [V.ref a] _ E hr.in1 I.env0.in1 (.cons rfl .nil) hsp) fun r s' hq => ?_)
  cases r with
  | error e => exact hx pins σ H s e s' I hq
  | ok fl =>
    cases fl with
    | ret u =>
      obtain ⟨z, H', I', rz, k, ez, h0, h1, q⟩ := I.after hq
      subst ez
      obtain ⟨t, rfl⟩ := rz
      exact ⟨⟨h0, h1⟩, .int k, H', I'.tok _, ⟨_, rfl⟩, q⟩
    | next => exact False.elim hq
    | brk => exact False.elim hq
    | cont => exact False.elim hq
end
section
variable {M : Model} {A : Around} {E : Value → Shared → Prop} {s : Shared} {a : Addr} {pos : Pos} {Q : Value → Shared → Prop} {args : List (Bool × Sem Value)} {kws : List (Option Str × Sem Value)}
theorem callsOwn (hplain : (args.any (·.1) || kws.any (·.1.isNone)) = false)
    (h : wpAny M A (evalArgs (.ref a) true args kws) (fun z t => (∃ C ox od, PySem.W.InstAt t.heap a ox C od ∧ ox.data = .plain) ∧ wpAny M A (call (.ref a) ([] ++ z.pos) z.kw) Q E t) E s) : wpAny M A (callWith pos (.ref a) [] args kws) Q E s := by
  unfold callWith
  refine wpAny_bind (wpAny_holding (thn h fun z t ⟨⟨C, ox, od, J, hd⟩, hq⟩ => wpAny_bind (wpAny_standAt ?_)))
  have L := PySem.W.kco_keeper (M := M) J hd
  simp only [hplain]
  refine wpAny_bind (L.here ?_)
  have last : ∀ {m : Sem Value}, wpAny M A m Q E t → wpAny M A (do let r ← m; holding [r] point; pure r) Q E t := fun hm => wpAny_bind (thn hm fun r t2 hr => wpAny_bind (wpAny_holding (wpAny_point (wpAny_pure hr))))
  exact last (wpAny_operateT hq)
end
section
variable {X : Cx} {CX : CXT} {k : Nat} {C g : Addr} {fd : FuncData} {ps ks : List Str} {sp : Sp} {E : XK} {fe : Expr} {tf : TE} {tk : TA} {pos : Pos} {kws : List Keyword} {gg : List Value → List Value → List Value} {gV : List V → List V → List V}
/-- o() -/
theorem pe_callO0 (hf : PE X fe tf) (c : CallO X.K C g) (F : FnR X.prog X.w X.K X.mg X.base CX k g sp) (hr : Room k X.A) (hx : Passes CX X E)
    (ht : eval (.Call fe [] [] pos) X.env = (do callWith pos (← eval fe X.env) [] (backTo pos (starEach [] X.env)) (backToKw pos (keywordEach [] X.env))) := by rfl) : PE X (.Call fe [] [] pos) (tCallO X C sp E tf tNil) := by
  refine ⟨fun pins s σ H Q I h => ?_⟩
  refine Call_ (thn (hf.run pins s σ H _ I h) fun u s1 ⟨y, H1, I1, ry, a, ey, hi, q⟩ => ?_) ht
  subst ey
  obtain rfl : u = Value.ref a := ry
  obtain ⟨ox, od, J, hd⟩ := insC_at I1 hi
  exact callsOwn rfl (evalArgs_nil3 ⟨⟨C, ox, od, J, hd⟩, run_callO c F hr hx I1 hi .nil q⟩)
/-- o(x = e, ..) -/
def tCallOK (X : Cx) (C : Addr) (sp : Sp) (gV : List V → List V → List V) (E : XK) (tf : TE) (tk : TA) : TE := fun σ H Q => tf σ H fun y H1 => ∃ a, y = V.ref a ∧ tk σ H1 fun zs H2 => InsC X H2 a C ∧ sp (gV [.ref a] zs) H2 Q E
theorem pe_callOK (hf : PE X fe tf) (c : CallO X.K C g) (F : FnOk X.prog X.w X.K X.mg X.base CX k g fd ps sp) (hr : Room k X.A) (hb : KBinds X.K fd ps ks gg gV) (hx : Passes CX X E) (hkw : PK X kws tk)
    (ht : eval (.Call fe [] kws pos) X.env = (do callWith pos (← eval fe X.env) [] (backTo pos (starEach [] X.env)) (backToKw pos (keywordEach kws X.env))) := by rfl)
    (hall : (backToKw pos (keywordEach kws X.env)).all (·.1.isSome) = true := by rfl) (hnone : (backToKw pos (keywordEach kws X.env)).any (·.1.isNone) = false := by rfl) (hks : (backToKw pos (keywordEach kws X.env)).filterMap (·.1) = ks := by rfl) :
    PE X (.Call fe [] kws pos) (tCallOK X C sp gV E tf tk) := by
  refine ⟨fun pins s σ H Q I h => ?_⟩
  rw [ht]
  refine wpAny_bind (thn (hf.run pins s σ H _ I h) fun u s1 ⟨y, H1, I1, ry, a, ey, q⟩ => ?_)
  subst ey
  obtain rfl : u = Value.ref a := ry
  refine callsOwn hnone (evalArgs_kw_nil hall (thn (hkw.run pos pins s1 σ H1 _ I1 q) fun ws s2 ⟨zs, H2, I2, rz, hi, q2⟩ => ?_))
  obtain ⟨ox, od, J, hd⟩ := insC_at I2 hi
  refine ⟨⟨C, ox, od, J, hd⟩, ?_⟩
  rw [hks]
  have r2 := hb.rel (us := [.ref a]) (vs := [.ref a]) (.cons rfl .nil) rz
  have hl : (gg [.ref a] ws).length = ps.length := by rw [← r2.length]; exact F.len _ _ _ _ q2
  refine wpAny_call (PySem.W.kco_code I2.kIn J hd c.at_ c.fn c.fi (codeAny_mono (F.run X.A X.stack s2 H2 ⟨[.ref a], ks.zip ws⟩ (gg [.ref a] ws) (gV [.ref a] zs) Q E hr I2.env0 (hb.to s2 [.ref a] ws I2.kIn hl) r2 q2) fun r s' hq => ?_))
  cases r with
  | error e => exact hx pins σ H2 s2 e s' I2 hq
  | ok fl =>
    cases fl with
    | ret u => exact I2.after hq
    | next => exact False.elim hq
    | brk => exact False.elim hq
    | cont => exact False.elim hq
end
end OC

set_option Elab.async false
set_option linter.all false
set_option maxRecDepth 100000
set_option maxHeartbeats 4000000
namespace KX
open PySem PySem.Spec PyProof.Rows L2
/-- what a suite under «as n» (n in slot i) leaves: the name is gone behind it -/
def asEnds (i : Nat) (D : Ends) : Ends := { nx := fun σ' H' => D.nx (σ'.set i none) H', rt := D.rt, bk := fun σ' H' => D.bk (σ'.set i none) H', ct := fun σ' H' => D.ct (σ'.set i none) H' }
def asSuite (i : Nat) (ts : Addr → Value → Option Addr → TS) : Addr → Value → Option Addr → TS := fun a cls d D σ H => ts a cls d (asEnds i D) (σ.set i (some (.ref a))) H
/-- except clauses, with a name or without -/
inductive Mix (X : Cx) : List ExceptHandler → List (Value × (Addr → Value → Option Addr → TS)) → Prop
  | nil : Mix X [] []
  | bare {x : Str} {c : Value} {ts : Addr → Value → Option Addr → TS} {b : Stmt} {suite : List Stmt} {np q : Pos} {hds : List ExceptHandler} {l : List (Value × (Addr → Value → Option Addr → TS))} (hc : Names X x c)
      (hsu : ∀ (a : Addr) (oe : Obj) (cls : Value) (d : Option Addr) (pn : List (Addr × Obj)), Zc cls d oe → (∃ vs, oe.data = .fields vs) → PSs (X.suite a ((a, oe) :: pn)) (b :: suite) (ts a cls d)) (r : Mix X hds l) :
      Mix X (.ExceptHandler (some (.Name x np)) none (b :: suite) q :: hds) ((c, ts) :: l)
  | named {x n : Str} {i : Nat} {c : Value} {ts : Addr → Value → Option Addr → TS} {b : Stmt} {suite : List Stmt} {np q : Pos} {hds : List ExceptHandler} {l : List (Value × (Addr → Value → Option Addr → TS))} (hc : Names X x c)
      (hN : X.N.Nodup) (hi : X.N[i]? = some n) (hln : X.env.kindOf n = some .local)
      (hsu : ∀ (a : Addr) (oe : Obj) (cls : Value) (d : Option Addr) (pn : List (Addr × Obj)), Zc cls d oe → (∃ vs, oe.data = .fields vs) → PSs (X.suite a ((a, oe) :: pn)) (b :: suite) (ts a cls d)) (r : Mix X hds l) :
      Mix X (.ExceptHandler (some (.Name x np)) (some n) (b :: suite) q :: hds) ((c, asSuite i ts) :: l)
section
variable {X : Cx} {body : List Stmt} {h0 : ExceptHandler} {hds : List ExceptHandler} {l : List (Value × (Addr → Value → Option Addr → TS))} {pos : Pos} {tb : WX → TS} {Wout : WX}
theorem psTryMix (hs : X.stack = X.env :: X.outer) (hf : X.env.frame = some X.env.locals) (tk : Takes X Wout)
    (hb : ∀ (W : WX) (pn : List (Addr × Obj)) (xe : Value → Shared → Prop), Takes (X.tr pn xe) W → PassesOwn (model X.prog X.w) X.A X.env xe → PSs (X.tr pn xe) body (tb W))
    (hh : Mix X (h0 :: hds) l) : PS X (.Try body (h0 :: hds) [] [] pos) (fun D σ H => tb (wMany X.K Wout D l) D σ H) := by
  refine ⟨fun pins s σ H D I h => ?_⟩
  have ok := I.ok
  have frames : X.A.frames = some (X.env :: X.outer) := by
    rw [ok.frames, hs]
  refine wpAny_Try_except ?_
  have inner := hb (wMany X.K Wout D l) (X.pn ++ pins) (fun e s1 => wpAny (model X.prog X.w) X.A (noteFrame e X.env) (fun _ s2 =>
    wpAny (model X.prog X.w) X.A (setFlight e none) (fun _ s3 => wpAny (model X.prog X.w) X.A (handleBy e X.env (h0 :: hds)) (SP X pins D) X.xe s3) X.xe s2) X.xe s1)
  refine wpAny_mono ((inner (fun u s' xx => ?_) PassesOwn.looking).run [] s σ H D (I.toTry _) h) (fun f s1 hsp => ?_) (fun _ _ z => z)
  · obtain ⟨a, B, sI, pins', σ', H', cls, d, rfl, J', nb, up, sky, na, os, ag, w⟩ := xx
    have J : Inv X pins σ' H' sI := J'.ofTry ok
    have sky' : Sky B (X.env :: X.outer) a (Zc cls d) X.env.locals s'.heap := by
      rw [← hs]
      exact sky
    show wpAny (model X.prog X.w) X.A (noteFrame (.ref a) X.env) _ _ _
    refine Sky.land Zc.steady frames hf sky' fun h3 fl3 up3 => ?_
    have J3 : Inv X pins σ' H' { s' with heap := h3 } := J.landed nb fl3.1 (up.trans up3) os ag
    obtain ⟨oe3, vs3, he3, hz3, hd3⟩ := fl3.there
    have out : a ∉ frs (X.env :: X.outer) := fun hm => by
      obtain ⟨_, o', e', hnf⟩ := fl3.2.2.1.mem hm
      rw [he3] at e'
      cases e'
      exact hnf _ hd3
    have nL : a ≠ X.env.locals := fun z => out (List.mem_filterMap.mpr ⟨X.env, List.mem_cons_self, by rw [hf, z]⟩)
    have nF : a ∉ X.fs := fun hm => by
      obtain ⟨e, he, q⟩ := List.mem_filterMap.mp hm
      exact out (List.mem_filterMap.mpr ⟨e, List.mem_cons_of_mem _ he, q⟩)
    have S3 := J3.suite he3 hd3 na nL nF
    have LT : PySem.W.Looks (model X.prog X.w) h3 (typeOf (.ref a)) cls := fun A Q E s k q => wpAny_typeOf_ref (k _ _ he3) (by rw [hz3.1]; exact q)
    have asked : ∀ {x : Str} {c : Value} {np : Pos} {Q E : Value → Shared → Prop}, Names X x c → Q c { s' with heap := h3 } → wpAny (model X.prog X.w) (X.A.mark (some (.ref a))) (eval (.Name x np) X.env) Q E { s' with heap := h3 } := fun {x c np Q E} hc q => by
      obtain ⟨hg, hdbg, hm | ⟨hm, hv, hnn⟩⟩ := hc
      · exact ld_glob (X := X.suite a ((a, oe3) :: (X.pn ++ pins))) S3 hg hm q hdbg
      · exact ld_blt (X := X.suite a ((a, oe3) :: (X.pn ++ pins))) S3 hg hm hv q hnn hdbg
    have go : ∀ {hds' : List ExceptHandler} {l' : List (Value × (Addr → Value → Option Addr → TS))}, Mix X hds' l' → wMany X.K Wout D l' cls d σ' H' →
        wpAny (model X.prog X.w) X.A (handleBy (.ref a) X.env hds') (SP X pins D) X.xe { s' with heap := h3 } := by
      intro hds' l' hk
      induction hk with
      | nil =>
        intro w
        refine wpAny_handleBy_nil ?_
        obtain ⟨k1, k2, k3, oe, vs, T, oT, ts', he, hz, hd, h1, hr⟩ := id fl3
        unfold PySem.passOn
        refine wpAny_bind (wpAny_field he hd h1 ?_)
        rw [if_neg (show ¬ ((Value.ref T == Value.none) = true) from by simp)]
        have fin : wpAny (model X.prog X.w) X.A (setFlight (.ref a) X.env.frame) (fun _ s4 => wpAny (model X.prog X.w) X.A (throw (.ref a) : Sem Flow) (SP X pins D) X.xe s4) X.xe { s' with heap := h3 } := by
          rw [hf]
          refine HandSPX.setFlight_upZ fl3 fun h4 hh4 up4 => wpAny_throw (tk _ _ ?_)
          exact ⟨a, B, sI, pins, σ', H', cls, d, rfl, J, nb, (up.trans up3).trans up4, .inr (.inr (by rw [hs]; exact hh4)), na, os, ag, w⟩
        first
          | exact wpAny_bind (wpAny_pure (wpAny_bind fin))
          | exact wpAny_bind fin
      | @bare x c ts b suite np q hds2 l2 hc hsu r ih =>
        intro w
        obtain ⟨b, hb1, hyes, hno⟩ := w
        refine wpAny_handleBy_cons (codeAny_handlers_test ?_) (by intro q; cases q)
        have LM := PySem.W.exm_one (M := model X.prog X.w) (J3.kIn) LT hb1
        refine asked hc (LM.here ?_)
        cases b with
        | true =>
          refine codeAny_handlers_suite ?_
          refine HandSPX.lands_againZ fl3 fun h4 fl4 up4 => ?_
          have J4 : Inv X pins σ' H' { s' with heap := h4 } := J.landed nb fl4.1 ((up.trans up3).trans up4) os ag
          obtain ⟨oe4, vs4, he4, hz4, hd4⟩ := fl4.there
          have S4 := J4.suite he4 hd4 na nL nF
          refine wpAny_mono ((hsu a oe4 cls d (X.pn ++ pins) hz4 ⟨_, hd4⟩).run [] _ _ H' _ S4 (hyes rfl a na)) (fun f s6 hsp => ?_) (fun _ _ z => False.elim z)
          cases f with
          | ret u =>
            obtain ⟨v6, σ6, H6, S6, r6, q6⟩ := hsp
            exact ⟨_, _, _, S6.unsuite ok, r6, q6⟩
          | _ =>
            obtain ⟨σ6, H6, S6, q6⟩ := hsp
            exact ⟨_, _, S6.unsuite ok, q6⟩
        | false => exact ih (hno rfl)
      | @named x n i c ts b suite np q hds2 l2 hc hN hi hln hsu r ih =>
        intro w
        obtain ⟨b, hb1, hyes, hno⟩ := w
        refine wpAny_handleBy_cons (codeAny_handlers_test ?_) (by intro q; cases q)
        have LM := PySem.W.exm_one (M := model X.prog X.w) (J3.kIn) LT hb1
        refine asked hc (LM.here ?_)
        cases b with
        | true =>
          refine codeAny_handlers_suite_as ?_
          refine HandSPX.lands_againZ fl3 fun h4 fl4 up4 => ?_
          have J4 : Inv X pins σ' H' { s' with heap := h4 } := J.landed nb fl4.1 ((up.trans up3).trans up4) os ag
          obtain ⟨oe4, vs4, he4, hz4, hd4⟩ := fl4.there
          have S4 := J4.suite he4 hd4 na nL nF
          refine store_ok (X := X.suite a ((a, oe4) :: (X.pn ++ pins))) (v := .ref a) S4 hN hi (.inl hln) rfl (fun s5 S5 => ?_) (.inr hln)
          refine wpAny_mono ((hsu a oe4 cls d (X.pn ++ pins) hz4 ⟨_, hd4⟩).run [] s5 _ H' _ S5 (hyes rfl a na)) (fun f s6 hsp => ?_) (fun _ _ z => False.elim z)
          have fin : ∀ {σ6 : L2.St} {H6 : Hp} {Q : Shared → Prop}, Inv (X.suite a ((a, oe4) :: (X.pn ++ pins))) [] σ6 H6 s6 → (∀ s7, Inv X pins (σ6.set i none) H6 s7 → Q s7) →
              wpAny (model X.prog X.w) X.A (do bindName X.env n .none; unbindBehindTheSuite X.env n q) (fun _ s7 => Q s7) X.xe s6 := fun S6 hq => gone_ok (S6.unsuite ok) hN hi hln hq
          cases f with
          | ret u =>
            obtain ⟨v6, σ6, H6, S6, r6, q6⟩ := hsp
            exact fin S6 fun s7 J7 => ⟨_, _, _, J7, r6, q6⟩
          | next =>
            obtain ⟨σ6, H6, S6, q6⟩ := hsp
            exact fin S6 fun s7 J7 => ⟨_, _, J7, q6⟩
          | brk =>
            obtain ⟨σ6, H6, S6, q6⟩ := hsp
            exact fin S6 fun s7 J7 => ⟨_, _, J7, q6⟩
          | cont =>
            obtain ⟨σ6, H6, S6, q6⟩ := hsp
            exact fin S6 fun s7 J7 => ⟨_, _, J7, q6⟩
        | false => exact ih (hno rfl)
    exact go hh w
  · cases f with
    | ret u =>
      obtain ⟨v, σ', H', J', r, q⟩ := hsp
      exact ⟨v, σ', H', J'.ofTry ok, r, q⟩
    | next =>
      obtain ⟨σ', H', J', q⟩ := hsp
      exact wpAny_execs_nil ⟨σ', H', J'.ofTry ok, q⟩
    | brk =>
      obtain ⟨σ', H', J', q⟩ := hsp
      exact ⟨σ', H', J'.ofTry ok, q⟩
    | cont =>
      obtain ⟨σ', H', J', q⟩ := hsp
      exact ⟨σ', H', J'.ofTry ok, q⟩
end
end KX

set_option Elab.async false
set_option linter.all false
set_option maxRecDepth 100000
set_option maxHeartbeats 8000000
/-! the classes: sources, made targets -/
namespace PJ
open PySem PySem.Spec PyProof.Rows L2 KS KS.La
open KX hiding sameUpd
abbrev sSInit : Stmt := inClass (top 6) 0
abbrev sSEq : Stmt := inClass (top 6) 1
abbrev sSOut : Stmt := inClass (top 6) 2
abbrev sMInit : Stmt := inClass (top 7) 0
abbrev sMEq : Stmt := inClass (top 7) 1
abbrev sMRec : Stmt := inClass (top 7) 2
abbrev sMArg : Stmt := inClass (top 7) 3
abbrev sPInit : Stmt := inClass (top 8) 0
abbrev sPGet : Stmt := inClass (top 8) 1
abbrev sPHas : Stmt := inClass (top 8) 3
abbrev sPLen : Stmt := inClass (top 8) 4
abbrev sPEq : Stmt := inClass (top 8) 5
abbrev sPNames : Stmt := inClass (top 8) 6
abbrev sPPut : Stmt := inClass (top 8) 7
abbrev sPWithout : Stmt := inClass (top 8) 8
abbrev sPWrite : Stmt := inClass (top 8) 9
abbrev sPErase : Stmt := inClass (top 8) 10
abbrev sPOuts : Stmt := inClass (top 8) 11
abbrev FnM (K : PySem.W.Frag) (x q : Str) (st : Stmt) (f : Addr) (fd : FuncData) : Prop := FunD K x q (defArgs st) (defBody st) (defScope st) [] [] f fd
/-- a class's instances in isinstance -/
structure IsC (K : PySem.W.Frag) (C : Addr) : Prop where
  cl : Cls K C
  ha : PySem.W.findIn K (.ref C) "__class__" = some (some (.builtin "object.__class__"))
  hn : PySem.W.specialIn K (.builtin "object.__class__") "__get__" = some (some (.builtin "getset_descriptor.__get__"))
  ht : PySem.W.takesIn K (.builtin "object.__class__") = some true
  hm : PySem.W.mroIn K C (.type "object") = some true
theorem IsC.ty {K : PySem.W.Frag} {C : Addr} (c : IsC K C) {H : Hp} {a dx : Addr} {fs : List (Str × V)} (h : H a = some (.ins C dx fs)) : TyX K H (.ref a) (.ref C) := .base (.ins h c.cl c.ha c.hn c.ht c.hm)
theorem call_dictD {X : Cx} : CallR X (.type "dict") (fun xs H Q => ∃ a kvs, xs = [V.ref a] ∧ H a = some (.dK kvs) ∧ ∀ p, H p = none → Q (.ref p) (upd H p (.dK kvs))) := by
  intro pins s σ H xs us Q I r h
  obtain ⟨a, kvs, rfl, ha, q⟩ := h
  obtain ⟨u, rfl, ru⟩ := vals1 r
  cases ru
  exact d_copyOf I (.inl ha) fun p s' n I' => ⟨.ref p, _, I', rfl, q p n⟩
theorem noneSame {H H' : Hp} {p : Addr} (s : Same H H') (h : H' p = none) : H p = none := by
  cases e : H p with
  | none => rfl
  | some o => rw [s _ _ e] at h; cases h
/-- self.f = dict(x) -/
def spDInit (C : Addr) (fld : Str) : Sp := fun vs H Q _ => ∃ s ds M kvs, vs = [.ref s, .ref M] ∧ H s = some (.ins C ds []) ∧ H M = some (.dK kvs) ∧ ∀ H' D, Kp s H H' → H D = none → H' s = some (.ins C ds [(fld, .ref D)]) → H' D = some (.dK kvs) → Q .non H'
theorem dMade {C : Addr} {fld : Str} {H : Hp} {x dx M : Addr} {kvs : List (Key × V)} {R : Hp → Prop} {E : XK} (hx : H x = none) (hdx : H dx = none) (ne : dx ≠ x) (hM : H M = some (.dK kvs)) (q : ∀ H' D, H D = none → Same H H' → H' x = some (.ins C dx [(fld, .ref D)]) → H' D = some (.dK kvs) → R H') :
    spDInit C fld [.ref x, .ref M] (upd (upd H dx (.own x)) x (.ins C dx [])) (fun v H2 => v = .non ∧ R H2) E := by
  have s1 : Same H (upd (upd H dx (.own x)) x (.ins C dx [])) := fun b o hb => by
    rw [upd_ne (ne_of_none hb hx), upd_ne (ne_of_none hb hdx)]
    exact hb
  exact ⟨x, dx, M, kvs, rfl, upd_same, s1 _ _ hM, fun H' D k nD h1 h2 => ⟨rfl, q H' D (noneSame s1 nD) (fun b o hb => k _ _ (ne_of_none hb hx) (s1 _ _ hb)) h1 h2⟩⟩
section
variable {P : Program} {w : World} {K : PySem.W.Frag} {mg : Str → Option Value} {base : Heap} {f : Addr} {fd : FuncData} {CS CM CP : Addr}
theorem scSInit : FnScope ["self", "outputs"] ["self", "outputs"] (defScope sSInit) := ⟨rfl, rfl, rfl, by decide +kernel, rfl, by decide +kernel, by decide +kernel⟩
theorem okSInit {k : Nat} (cW : Cls K CS) (n1 : NoAttr K CS "_outputs") (md : mg "dict" = none) (F : FnM K "__init__" "Source.__init__" sSInit f fd) : FnOk P w K mg base CX0 (k + 1) f fd ["self", "outputs"] (spDInit CS "_outputs") := by
  refine F.ok scSInit (fun vs H Q E h => ?_) (fun cdv A outer s H vs Q E hr h => ?_)
  · obtain ⟨a, ds, M, mvs, rfl, _⟩ := h
    rfl
  · obtain ⟨a, ds, M, mvs, rfl, ha, hM, q⟩ := h
    refine ⟨_, PSs.nox (pss_one (ps_fld (pv 0) (pe_callTy call_dictD (by rfl) md (by decide +kernel) (pa_cons (pv 1) pa_nil)) rfl)), ?_⟩
    refine ⟨.ref M, rfl, M, mvs, rfl, hM, fun D hD => ⟨.ref a, rfl, a, CS, ds, _, rfl, KS.sameUpd hD _ _ ha, cW, n1, by decide, ?_⟩⟩
    refine q _ D ((Kp.same (KS.sameUpd hD)).trans Kp.put) hD upd_same ?_
    rw [upd_ne fun z => by rw [z, ha] at hD; cases hD]
    exact upd_same
theorem scPInit : FnScope ["self", "targets"] ["self", "targets"] (defScope sPInit) := ⟨rfl, rfl, rfl, by decide +kernel, rfl, by decide +kernel, by decide +kernel⟩
theorem okPInit {k : Nat} (cW : Cls K CP) (n1 : NoAttr K CP "_targets") (md : mg "dict" = none) (F : FnM K "__init__" "Project.__init__" sPInit f fd) : FnOk P w K mg base CX0 (k + 1) f fd ["self", "targets"] (spDInit CP "_targets") := by
  refine F.ok scPInit (fun vs H Q E h => ?_) (fun cdv A outer s H vs Q E hr h => ?_)
  · obtain ⟨a, ds, M, mvs, rfl, _⟩ := h
    rfl
  · obtain ⟨a, ds, M, mvs, rfl, ha, hM, q⟩ := h
    refine ⟨_, PSs.nox (pss_one (ps_fld (pv 0) (pe_callTy call_dictD (by rfl) md (by decide +kernel) (pa_cons (pv 1) pa_nil)) rfl)), ?_⟩
    refine ⟨.ref M, rfl, M, mvs, rfl, hM, fun D hD => ⟨.ref a, rfl, a, CP, ds, _, rfl, KS.sameUpd hD _ _ ha, cW, n1, by decide, ?_⟩⟩
    refine q _ D ((Kp.same (KS.sameUpd hD)).trans Kp.put) hD upd_same ?_
    rw [upd_ne fun z => by rw [z, ha] at hD; cases hD]
    exact upd_same
def fsM (vr va : V) : List (Str × V) := [("_recipe", vr), ("_arguments", va)]
def spMInit (K : PySem.W.Frag) (CM : Addr) : Sp := fun vs H Q _ => ∃ s ds vr t xs, vs = [.ref s, vr, .ref t] ∧ H s = some (.ins CM ds []) ∧
  ((SqT K H t xs ∧ ∀ H', Kp s H H' → H' s = some (.ins CM ds (fsM vr (.ref t))) → Q .non H') ∨ (H t = some (.lst xs) ∧ ∀ H' u, Kp s H H' → H u = none → H' u = some (.tup xs) → H' s = some (.ins CM ds (fsM vr (.ref u))) → Q .non H'))
theorem scMInit : FnScope ["self", "recipe", "arguments"] ["self", "recipe", "arguments"] (defScope sMInit) := ⟨rfl, rfl, rfl, by decide +kernel, rfl, by decide +kernel, by decide +kernel⟩
theorem okMInit {k : Nat} {dvs : List V} (cW : Cls K CM) (n1 : NoAttr K CM "_recipe") (n2 : NoAttr K CM "_arguments") (mt : mg "tuple" = none) (F : FunD K "__init__" "Made.__init__" (defArgs sMInit) (defBody sMInit) (defScope sMInit) dvs [] f fd) : FnOk P w K mg base CX0 (k + 1) f fd ["self", "recipe", "arguments"] (spMInit K CM) := by
  refine F.ok scMInit (fun vs H Q E h => ?_) (fun cdv A outer s H vs Q E hr h => ?_)
  · obtain ⟨a, ds, vr, t, xs, rfl, _⟩ := h
    rfl
  · obtain ⟨a, ds, vr, t, xs, rfl, ha, h⟩ := h
    refine ⟨_, PSs.nox (pss_cons (ps_fld (pv 0) (pv 1) rfl) (pss_one (ps_fld (pv 0) (pe_callTy (T := "tuple") call_tuple_of (by rfl) mt (by decide +kernel) (pa_cons (pv 2) pa_nil)) rfl))), ?_⟩
    refine ⟨vr, rfl, .ref a, rfl, a, CM, ds, _, rfl, ha, cW, n1, by decide, ?_⟩
    have h1 : upd H a (.ins CM ds (putF "_recipe" vr [])) a = some (.ins CM ds [("_recipe", vr)]) := upd_same
    have k1 : Kp a H (upd H a (.ins CM ds (putF "_recipe" vr []))) := Kp.put
    generalize upd H a (.ins CM ds (putF "_recipe" vr [])) = H1 at *
    rcases h with ⟨ht, q⟩ | ⟨ht, q⟩
    · have ht1 : SqT K H1 t xs := by
        have nt : ∀ {o}, H t = some o → (∀ D d f, o ≠ .ins D d f) → H1 t = some o := fun e z => k1 _ _ (fun w => by rw [w, ha] at e; exact z _ _ _ (Option.some.inj e).symm) e
        rcases ht with (h | ⟨o, h⟩) | h
        · exact .inl (.inl (nt h fun _ _ _ z => nomatch z))
        · exact .inl (.inr ⟨o, nt h fun _ _ _ z => nomatch z⟩)
        · exact .inr h
      refine ⟨.ref t, rfl, t, xs, rfl, .inr ⟨ht1, .ref a, rfl, a, CM, ds, _, rfl, h1, cW, n2, by show 1 < 1000; decide, ?_⟩⟩
      exact q _ (k1.trans Kp.put) upd_same
    · have ht1 : H1 t = some (.lst xs) := k1 _ _ (fun w => by rw [w, ha] at ht; cases ht) ht
      refine ⟨.ref t, rfl, t, xs, rfl, .inl ⟨.inl (.inl ht1), fun u hu => ⟨.ref a, rfl, a, CM, ds, _, rfl, KS.sameUpd hu _ _ h1, cW, n2, by show 1 < 1000; decide, ?_⟩⟩⟩
      have nua : u ≠ a := fun z => by rw [z, h1] at hu; cases hu
      refine q _ u ((k1.trans (Kp.same (KS.sameUpd hu))).trans Kp.put) ?_ (by rw [upd_ne nua]; exact upd_same) upd_same
      cases e : H u with
      | none => rfl
      | some o => rw [k1 _ _ nua e] at hu; cases hu
def spSOut (CS : Addr) : Sp := fun vs H Q _ => ∃ s ds d kvs, vs = [.ref s] ∧ H s = some (.ins CS ds [("_outputs", .ref d)]) ∧ H d = some (.dK kvs) ∧ ∀ p, H p = none → Q (.ref p) (upd H p (.dK kvs))
theorem scSOut : FnScope ["self"] ["self"] (defScope sSOut) := ⟨rfl, rfl, rfl, by decide +kernel, rfl, by decide +kernel, by decide +kernel⟩
theorem okSOut {k : Nat} (cW : Cls K CS) (n1 : NoAttr K CS "_outputs") (md : mg "dict" = none) (F : FnM K "outputs" "Source.outputs" sSOut f fd) : FnOk P w K mg base CX0 (k + 1) f fd ["self"] (spSOut CS) := by
  refine F.ok scSOut (fun vs H Q E h => ?_) (fun cdv A outer s H vs Q E hr h => ?_)
  · obtain ⟨a, ds, d, kvs, rfl, _⟩ := h
    rfl
  · obtain ⟨a, ds, d, kvs, rfl, ha, hd, q⟩ := h
    exact ⟨_, PSs.nox (pss_one (ps_ret (pe_callTy call_dictD (by rfl) md (by decide +kernel) (pa_cons (pe_fld (pv 0) rfl) pa_nil)))), .ref a, rfl, a, CS, ds, _, .ref d, rfl, ha, cW, n1, rfl, d, kvs, rfl, hd, q⟩
theorem scMRec : FnScope ["self"] ["self"] (defScope sMRec) := ⟨rfl, rfl, rfl, by decide +kernel, rfl, by decide +kernel, by decide +kernel⟩
theorem okMRec {k : Nat} (cl : Cls K CM) (nf : NoAttr K CM "_recipe") (F : FnM K "recipe" "Made.recipe" sMRec f fd) : FnOk P w K mg base CX0 (k + 1) f fd ["self"] (getSp CM "_recipe") := by
  refine F.ok scMRec (fun vs H Q E h => ?_) (fun cdv A outer s H vs Q E hr h => ?_)
  · obtain ⟨a, dx, fs, v, rfl, _⟩ := h
    rfl
  · obtain ⟨a, dx, fs, v, rfl, ha, hl, q⟩ := h
    exact ⟨_, PSs.nox (pss_one (ps_ret (pe_fld (pv 0) rfl))), .ref a, rfl, a, CM, dx, fs, v, rfl, ha, cl, nf, hl, q⟩
theorem scMArg : FnScope ["self"] ["self"] (defScope sMArg) := ⟨rfl, rfl, rfl, by decide +kernel, rfl, by decide +kernel, by decide +kernel⟩
theorem okMArg {k : Nat} (cl : Cls K CM) (nf : NoAttr K CM "_arguments") (F : FnM K "arguments" "Made.arguments" sMArg f fd) : FnOk P w K mg base CX0 (k + 1) f fd ["self"] (getSp CM "_arguments") := by
  refine F.ok scMArg (fun vs H Q E h => ?_) (fun cdv A outer s H vs Q E hr h => ?_)
  · obtain ⟨a, dx, fs, v, rfl, _⟩ := h
    rfl
  · obtain ⟨a, dx, fs, v, rfl, ha, hl, q⟩ := h
    exact ⟨_, PSs.nox (pss_one (ps_ret (pe_fld (pv 0) rfl))), .ref a, rfl, a, CM, dx, fs, v, rfl, ha, cl, nf, hl, q⟩
/-! ### == -/
theorem osEb {K : PySem.W.Frag} {H : Hp} {os os' : Outs} (nd : (os.map (·.1)).Nodup) : ∀ k v u, (k, v) ∈ oK os → valV (oK os') k = some u → DB.Eb K H 0 v u (eF (oK os) (oK os') k) := fun k v u hm hv => by
  obtain ⟨z, ez⟩ := oK_str _ hm
  have hv1 : valV (oK os) k = some v := valMem (oK_nd nd) hm
  have ev : v = .str z := ez
  subst ev
  obtain ⟨q, hq, hq2⟩ : ∃ q, q ∈ oK os' ∧ q.2 = u := by
    unfold valV at hv
    cases hf : (oK os').find? fun kv => decide (kv.1 = k) with
    | none => rw [hf] at hv; cases hv
    | some q =>
      rw [hf] at hv
      exact ⟨q, List.mem_of_find?_eq_some hf, Option.some.inj hv⟩
  obtain ⟨z', ez'⟩ := oK_str _ hq
  rw [hq2] at ez'
  subst ez'
  refine .inl ⟨rfl, rfl, ?_⟩
  unfold eF
  rw [hv1, hv]
def spSEq (CS CM : Addr) : Sp := fun vs H Q _ => ∃ x dx d os y, vs = [.ref x, .ref y] ∧ H x = some (.ins CS dx [("_outputs", .ref d)]) ∧ OsIn H d os ∧
  ((∃ dy d' os', H y = some (.ins CS dy [("_outputs", .ref d')]) ∧ OsIn H d' os' ∧ Q (.bl (osE os os')) H) ∨ (∃ dy fs, H y = some (.ins CM dy fs) ∧ Q (.bl false) H))
theorem scSEq : FnScope ["self", "other"] ["self", "other"] (defScope sSEq) := ⟨rfl, rfl, rfl, by decide +kernel, rfl, by decide +kernel, by decide +kernel⟩
theorem okSEq {k : Nat} (mi : mg "isinstance" = none) (gC : mg "Source" = some (.ref CS)) (iS : IsC K CS) (iM : IsC K CM) (nf : NoAttr K CS "_outputs") (k1 : PySem.W.kitOne K (.ref CS) (.ref CS) = some true) (k2 : PySem.W.kitOne K (.ref CM) (.ref CS) = some false)
    (F : FnM K "__eq__" "Source.__eq__" sSEq f fd) : FnOk P w K mg base CX0 (k + 1) f fd ["self", "other"] (spSEq CS CM) := by
  refine F.ok scSEq (fun vs H Q E h => ?_) (fun cdv A outer s H vs Q E hr h => ?_)
  · obtain ⟨a, dx, d, os, y, rfl, _⟩ := h
    rfl
  · obtain ⟨a, dx, d, os, y, rfl, ha, ho, h⟩ := h
    refine ⟨_, PSs.nox (pss_one (ps_ret (pe_and (pe_callB call_isi (by rfl) mi (by decide +kernel) (pa_cons (pv 1) (pa_cons (pe_glob (v := .ref CS) (by rfl) gC rfl) pa_nil))) (pe_one (pe_cmpR (r := DB.rEqDB K) (DB.op_eqDB (DB.un100 hr)) (pe_fld (pv 0) rfl) (pe_fld (pv 1) rfl) (nomark _)))))), ?_⟩
    rcases h with ⟨dy, d', os', hb, ho', q⟩ | ⟨dy, fs, hb, q⟩
    · refine ⟨.ref y, rfl, .ref y, .ref CS, .ref CS, .ref CS, true, rfl, .own CS, iS.ty hb, k1, true, rfl, iteT ?_⟩
      exact ⟨.ref a, rfl, a, CS, dx, _, .ref d, rfl, ha, iS.cl, nf, rfl, .ref y, rfl, y, CS, dy, _, .ref d', rfl, hb, iS.cl, nf, rfl, 0, d, d', oK os, oK os', eF (oK os) (oK os'), by decide, rfl, rfl, ho.1, ho'.1, osEb ho.2.1, q⟩
    · exact ⟨.ref y, rfl, .ref y, .ref CS, .ref CM, .ref CS, false, rfl, .own CS, iM.ty hb, k2, false, rfl, iteF q⟩
def spMEq (K : PySem.W.Frag) (CS CM : Addr) : Sp := fun vs H Q _ => ∃ x dx vr va d1 d2 y, vs = [.ref x, .ref y] ∧ H x = some (.ins CM dx (fsM vr va)) ∧ Dp K H vr d1 ∧ Dp K H va d2 ∧ SeqAt.shaped d1 = true ∧ SeqAt.shaped d2 = true ∧
  ((∃ dy vr' va' d1' d2', H y = some (.ins CM dy (fsM vr' va')) ∧ Dp K H vr' d1' ∧ Dp K H va' d2' ∧ SeqAt.shaped d1' = true ∧ SeqAt.shaped d2' = true ∧ Q (.bl (PyData.eqv d1 d1' && PyData.eqv d2 d2')) H) ∨ (∃ dy fs, H y = some (.ins CS dy fs) ∧ Q (.bl false) H))
theorem scMEq : FnScope ["self", "other"] ["self", "other"] (defScope sMEq) := ⟨rfl, rfl, rfl, by decide +kernel, rfl, by decide +kernel, by decide +kernel⟩
theorem okMEq {k : Nat} (mi : mg "isinstance" = none) (gC : mg "Made" = some (.ref CM)) (iS : IsC K CS) (iM : IsC K CM) (n1 : NoAttr K CM "_recipe") (n2 : NoAttr K CM "_arguments") (k1 : PySem.W.kitOne K (.ref CM) (.ref CM) = some true) (k2 : PySem.W.kitOne K (.ref CS) (.ref CM) = some false)
    (F : FnM K "__eq__" "Made.__eq__" sMEq f fd) : FnOk P w K mg base CX0 (k + 1) f fd ["self", "other"] (spMEq K CS CM) := by
  refine F.ok scMEq (fun vs H Q E h => ?_) (fun cdv A outer s H vs Q E hr h => ?_)
  · obtain ⟨a, dx, vr, va, d1, d2, y, rfl, _⟩ := h
    rfl
  · obtain ⟨a, dx, vr, va, d1, d2, y, rfl, ha, h1, h2, s1, s2, h⟩ := h
    refine ⟨_, PSs.nox (pss_one (ps_ret (pe_and (pe_callB call_isi (by rfl) mi (by decide +kernel) (pa_cons (pv 1) (pa_cons (pe_glob (v := .ref CM) (by rfl) gC rfl) pa_nil))) (pe_and (pe_cmpR (r := rEqD K) (op_eqD hr.units) (pe_fld (pv 0) rfl) (pe_fld (pv 1) rfl) (nomark _)) (pe_one (pe_cmpR (r := rEqD K) (op_eqD hr.units) (pe_fld (pv 0) rfl) (pe_fld (pv 1) rfl) (nomark _))))))), ?_⟩
    rcases h with ⟨dy, vr', va', d1', d2', hb, h1', h2', s1', s2', q⟩ | ⟨dy, fs, hb, q⟩
    · refine ⟨.ref y, rfl, .ref y, .ref CM, .ref CM, .ref CM, true, rfl, .own CM, iM.ty hb, k1, true, rfl, iteT ?_⟩
      refine ⟨.ref a, rfl, a, CM, dx, _, vr, rfl, ha, iM.cl, n1, rfl, .ref y, rfl, y, CM, dy, _, vr', rfl, hb, iM.cl, n1, rfl, d1, d1', h1, h1', s1, s1', _, rfl, ?_⟩
      cases e : PyData.eqv d1 d1' with
      | true =>
        rw [e, Bool.true_and] at q
        exact iteT ⟨.ref a, rfl, a, CM, dx, _, va, rfl, ha, iM.cl, n2, rfl, .ref y, rfl, y, CM, dy, _, va', rfl, hb, iM.cl, n2, rfl, d2, d2', h2, h2', s2, s2', q⟩
      | false =>
        rw [e, Bool.false_and] at q
        exact iteF q
    · exact ⟨.ref y, rfl, .ref y, .ref CM, .ref CS, .ref CM, false, rfl, .own CM, iS.ty hb, k2, false, rfl, iteF q⟩
end
end PJ

set_option Elab.async false
set_option linter.all false
set_option maxRecDepth 100000
set_option maxHeartbeats 8000000
/-! the classes: projects -/
namespace PJ
open PySem PySem.Spec PyProof.Rows L2 KS KS.La
open KX hiding sameUpd
def PrAt (CP : Addr) (H : Hp) (p : Addr) (kvs : List (Key × V)) : Prop := ∃ dp D, H p = some (.ins CP dp [("_targets", .ref D)]) ∧ H D = some (.dK kvs)
theorem PrAt.stl {CP : Addr} {H H' : Hp} {p : Addr} {kvs : List (Key × V)} (h : PrAt CP H p kvs) (s : Stl H H') : PrAt CP H' p kvs := let ⟨dp, D, a, b⟩ := h; ⟨dp, D, s _ _ a (fun _ z => nomatch z), s _ _ b (fun _ z => nomatch z)⟩
def PjAt (CS CM CP : Addr) (H : Hp) (p : Addr) (T : Tb) : Prop := ∃ kvs, PrAt CP H p kvs ∧ Tab (TgAt CS CM H) kvs T
theorem PjAt.stl {CS CM CP : Addr} {H H' : Hp} {p : Addr} {T : Tb} (h : PjAt CS CM CP H p T) (s : Stl H H') : PjAt CS CM CP H' p T := let ⟨kvs, a, b⟩ := h; ⟨kvs, a.stl s, b.tg s⟩
section
variable {P : Program} {w : World} {K : PySem.W.Frag} {mg : Str → Option Value} {base : Heap} {f : Addr} {fd : FuncData} {CS CM CP NT NS : Addr}
/-- what projects rest on -/
structure Pjc (P : Program) (w : World) (K : PySem.W.Frag) (mg : Str → Option Value) (base : Heap) (CS CM CP NT NS : Addr) : Prop where
  iS : IsC K CS
  iM : IsC K CM
  iP : IsC K CP
  nS : NoAttr K CS "_outputs"
  nP : NoAttr K CP "_targets"
  gS : mg "Source" = some (.ref CS)
  gM : mg "Made" = some (.ref CM)
  gP : mg "Project" = some (.ref CP)
  mi : mg "isinstance" = none
  md : mg "dict" = none
  ml : mg "len" = none
  ms : mg "sorted" = none
  mt : mg "tuple" = none
  kSS : PySem.W.kitOne K (.ref CS) (.ref CS) = some true
  kMS : PySem.W.kitOne K (.ref CM) (.ref CS) = some false
  kPP : PySem.W.kitOne K (.ref CP) (.ref CP) = some true
  kDP : PySem.W.kitOne K (.type "dict") (.ref CP) = some false
  sMS : PySem.W.subIn K (.ref CM) (.ref CS) = some false
  sSM : PySem.W.subIn K (.ref CS) (.ref CM) = some false
  mkS : ∃ (f : Addr) (fd : FuncData), Mk K CS f ∧ Binds K fd ["self", "outputs"] [] ∧ FnOk P w K mg base CX0 1 f fd ["self", "outputs"] (spDInit CS "_outputs")
  mkP : ∃ (f : Addr) (fd : FuncData), Mk K CP f ∧ Binds K fd ["self", "targets"] [] ∧ FnOk P w K mg base CX0 1 f fd ["self", "targets"] (spDInit CP "_targets")
  eqS : ∃ (f : Addr) (fd : FuncData), PySem.W.findIn K (.ref CS) "__eq__" = some (some (.ref f)) ∧ PySem.W.isFn K (.ref f) = true ∧ Binds K fd ["self", "other"] [] ∧ FnOk P w K mg base CX0 1 f fd ["self", "other"] (spSEq CS CM)
  eqM : ∃ (f : Addr) (fd : FuncData), PySem.W.findIn K (.ref CM) "__eq__" = some (some (.ref f)) ∧ PySem.W.isFn K (.ref f) = true ∧ Binds K fd ["self", "other"] [] ∧ FnOk P w K mg base CX0 1 f fd ["self", "other"] (spMEq K CS CM)
  outS : ∃ (p g : Addr) (fd : FuncData), PropOf K CS "outputs" p g ∧ Binds K fd ["self"] [] ∧ FnOk P w K mg base CX0 1 g fd ["self"] (spSOut CS)
  xT : Cl1 P w K mg base "NoTarget" NT "name"
  xN : Cl1 P w K mg base "NotSource" NS "name"
theorem eqSame {r r' : Rc} {H : Hp} {v : V} (h : RcIn H v r) (h' : RcIn H v r') : rcD r = rcD r' := by
  cases r with
  | txt z =>
    cases r' with
    | txt z' => rw [show z = z' from V.str.inj (h.1.symm.trans h'.1)]
    | key a b =>
      obtain ⟨⟨t, e, _⟩, _⟩ := h'
      rw [h.1] at e
      cases e
  | key a b =>
    obtain ⟨⟨t, e, ht⟩, _⟩ := h
    cases r' with
    | txt z' =>
      rw [h'.1] at e
      cases e
    | key a' b' =>
      obtain ⟨⟨t', e', ht'⟩, _⟩ := h'
      rw [e] at e'
      cases e'
      rw [ht] at ht'
      have := Option.some.inj ht'
      injection this with this
      injection this with e1 e2
      injection e2 with e2 _
      rw [V.str.inj e1, V.str.inj e2]
theorem asSame {as as' : List Str} {H : Hp} {v : V} (h : AsIn H v as) (h' : AsIn H v as') : as = as' := by
  obtain ⟨t, rfl, ht, _⟩ := h
  obtain ⟨t', e, ht', _⟩ := h'
  cases e
  rw [ht] at ht'
  have := Option.some.inj ht'
  injection this with this
  exact List.map_inj_right (fun a b e => V.str.inj e) |>.mp this
/-- two targets compare as they are told -/
def DT (K : PySem.W.Frag) (CS CM : Addr) : EB.Eqb := fun x y c H => EB.EOwn K CS (spSEq CS CM) E0 x y c H ∨ EB.EOwn K CM (spMEq K CS CM) E0 x y c H
theorem tgD (W : Pjc P w K mg base CS CM CP NT NS) {H : Hp} {v u : V} {t t' : Tg} (h : TgAt CS CM H v t) (h' : TgAt CS CM H u t') : DT K CS CM v u (tgE t t') H := by
  have stl : ∀ {H'}, L2.Ext H H' → Stl H H' := fun e b o hb _ => e b o hb
  cases t with
  | src os =>
    obtain ⟨x, dx, d, rfl, hx, ho⟩ := h
    cases t' with
    | src os' =>
      obtain ⟨y, dy, d', rfl, hy, ho'⟩ := h'
      refine .inl ⟨x, y, CS, dx, _, dy, _, rfl, rfl, hx, hy, by simp [PySem.W.notFirst], fun e => ?_, fun H' e => ?_⟩
      · subst e
        rw [hx] at hy
        have := Option.some.inj hy
        injection this with _ _ e3
        injection e3 with e4 _
        have ed : d = d' := V.ref.inj (congrArg Prod.snd e4)
        subst ed
        have eo : oK os = oK os' := by
          have := Option.some.inj (ho.1.symm.trans ho'.1)
          injection this
        show osE os os' = true
        have := osE_refl ho.2.1
        unfold osE at this ⊢
        rw [← eo]
        exact this
      · exact ⟨x, dx, d, os, y, rfl, e _ _ hx, ho.stl (stl e), .inl ⟨dy, d', os', e _ _ hy, ho'.stl (stl e), rfl, fun _ _ z => z⟩⟩
    | mad r as =>
      obtain ⟨y, dy, vr, va, rfl, hy, _⟩ := h'
      refine .inl ⟨x, y, CM, dx, _, dy, _, rfl, rfl, hx, hy, by simp [PySem.W.notFirst, W.sMS], fun e => ?_, fun H' e => ?_⟩
      · subst e
        rw [hx] at hy
        have := Option.some.inj hy
        injection this with _ _ e3
        injection e3 with _ e5
        cases e5
      · exact ⟨x, dx, d, os, y, rfl, e _ _ hx, ho.stl (stl e), .inr ⟨dy, _, e _ _ hy, rfl, fun _ _ z => z⟩⟩
  | mad r as =>
    obtain ⟨x, dx, vr, va, rfl, hx, hr, ha⟩ := h
    cases t' with
    | src os' =>
      obtain ⟨y, dy, d', rfl, hy, ho'⟩ := h'
      refine .inr ⟨x, y, CS, dx, _, dy, _, rfl, rfl, hx, hy, by simp [PySem.W.notFirst, W.sSM], fun e => ?_, fun H' e => ?_⟩
      · subst e
        rw [hx] at hy
        have := Option.some.inj hy
        injection this with _ _ e3
        injection e3 with _ e5
        cases e5
      · have hr' := hr.stl (stl e)
        have ha' := ha.stl (stl e)
        exact ⟨x, dx, vr, va, rcD r, argsD as, y, rfl, e _ _ hx, hr'.dp.1, ha'.dp.1, hr'.dp (K := K).2, ha'.dp (K := K).2, .inr ⟨dy, _, e _ _ hy, rfl, fun _ _ z => z⟩⟩
    | mad r' as' =>
      obtain ⟨y, dy, vr', va', rfl, hy, hr', ha'⟩ := h'
      refine .inr ⟨x, y, CM, dx, _, dy, _, rfl, rfl, hx, hy, by simp [PySem.W.notFirst], fun e => ?_, fun H' e => ?_⟩
      · subst e
        rw [hx] at hy
        have := Option.some.inj hy
        injection this with _ _ e3
        injection e3 with e4 e5
        injection e5 with e5 _
        have e6 : vr = vr' := congrArg Prod.snd e4
        have e7 : va = va' := congrArg Prod.snd e5
        subst e6 e7
        show (PyData.eqv (rcD r) (rcD r') && PyData.eqv (argsD as) (argsD as')) = true
        rw [← eqSame hr hr', ← asSame ha ha', SeqAt.eqv_refl _ (SeqAt.canLay_of_shaped (hr.dp (K := K)).2), SeqAt.eqv_refl _ (SeqAt.canLay_of_shaped (ha.dp (K := K)).2)]
        rfl
      · have g1 := hr.stl (stl e)
        have g2 := ha.stl (stl e)
        have g3 := hr'.stl (stl e)
        have g4 := ha'.stl (stl e)
        exact ⟨x, dx, vr, va, rcD r, argsD as, y, rfl, e _ _ hx, g1.dp.1, g2.dp.1, (g1.dp (K := K)).2, (g2.dp (K := K)).2, .inl ⟨dy, vr', va', rcD r', argsD as', e _ _ hy, g3.dp.1, g4.dp.1, (g3.dp (K := K)).2, (g4.dp (K := K)).2, rfl, fun _ _ z => z⟩⟩
/-- a target that is seen while two dicts are locked -/
theorem tgLock {H H' : Hp} {a b : Addr} {ka kb : List (Key × V)} {k1 k2 : Key} {x1 x2 : Addr} (ha : H a = some (.dK ka)) (hb : H b = some (.dK kb)) (m1 : (k1, V.ref x1) ∈ ka) (m2 : (k2, V.ref x2) ∈ kb) (e : ∀ c, c ≠ a → c ≠ b → H' c = H c) {v : V} {t : Tg} (h : TgAt CS CM H v t) : TgAt CS CM H' v t := by
  have ne : ∀ {c o}, H c = some o → (∀ ks, o ≠ .dK ks) → H' c = some o := fun {c o} hc hn => by
    rw [e c (fun z => by rw [z, ha] at hc; exact hn _ (Option.some.inj hc).symm) (fun z => by rw [z, hb] at hc; exact hn _ (Option.some.inj hc).symm)]
    exact hc
  have nd : ∀ {c os}, H c = some (.dK (oK os)) → H' c = some (.dK (oK os)) := fun {c os} hc => by
    rw [e c (fun z => ?_) (fun z => ?_)]
    · exact hc
    · rw [z, ha] at hc
      have : ka = oK os := by
        have := Option.some.inj hc
        injection this
      rw [this] at m1
      obtain ⟨z, ez⟩ := oK_str _ m1
      cases ez
    · rw [z, hb] at hc
      have : kb = oK os := by
        have := Option.some.inj hc
        injection this
      rw [this] at m2
      obtain ⟨z, ez⟩ := oK_str _ m2
      cases ez
  cases t with
  | src os =>
    obtain ⟨x, dx, d, rfl, hx, ho, r⟩ := h
    exact ⟨x, dx, d, rfl, ne hx (fun _ z => nomatch z), nd ho, r⟩
  | mad r as =>
    obtain ⟨x, dx, vr, va, rfl, hx, hr, ⟨u, e1, hu, g⟩⟩ := h
    refine ⟨x, dx, vr, va, rfl, ne hx (fun _ z => nomatch z), ?_, ⟨u, e1, ne hu (fun _ z => nomatch z), g⟩⟩
    cases r with
    | txt z => exact hr
    | key a b => exact ⟨let ⟨t, e, h⟩ := hr.1; ⟨t, e, ne h (fun _ z => nomatch z)⟩, hr.2⟩
def eT (T T' : Tb) : Key → Bool
  | .inr s => teF T T' s
  | .inl _ => false
theorem valMem2 {ka : List (Key × V)} {k : Key} {v : V} (h : valV ka k = some v) : (k, v) ∈ ka := by
  unfold valV at h
  cases hf : ka.find? fun kv => decide (kv.1 = k) with
  | none => rw [hf] at h; cases h
  | some q =>
    rw [hf] at h
    have e1 : q.1 = k := by
      have := List.find?_some hf
      exact of_decide_eq_true this
    have e2 : q.2 = v := Option.some.inj h
    have := List.mem_of_find?_eq_some hf
    rw [← e1, ← e2]
    exact this
theorem hitsT (W : Pjc P w K mg base CS CM CP NT NS) {H H' : Hp} {a b : Addr} {ka kb : List (Key × V)} {T T' : Tb} (ha : H a = some (.dK ka)) (hb : H b = some (.dK kb)) (t1 : Tab (TgAt CS CM H) ka T) (t2 : Tab (TgAt CS CM H) kb T') (nd : (T.map (·.1)).Nodup) (e : ∀ c, c ≠ a → c ≠ b → H' c = H c) :
    EB.Hits (DT K CS CM) H' kb ka (ka.all fun p => (valV kb p.1).isSome && eT T T' p.1) := by
  refine EB.Hits.of (eT T T') ka fun k v y hm hv => ?_
  obtain ⟨z, t, rfl, mt, ht⟩ := t1.mem k v hm
  rcases t2.look z with ⟨n, _⟩ | ⟨y2, t', e1, e2, ht'⟩
  · rw [hv] at n; cases n
  · obtain rfl : y = y2 := Option.some.inj (hv.symm.trans e1)
    have ref : ∀ {v t}, TgAt CS CM H v t → ∃ x, v = .ref x := fun {v t} h => by
      cases t with
      | src os => obtain ⟨x, _, _, e, _⟩ := h; exact ⟨x, e⟩
      | mad r as => obtain ⟨x, _, _, _, e, _⟩ := h; exact ⟨x, e⟩
    obtain ⟨x1, ex1⟩ := ref ht
    obtain ⟨x2, ex2⟩ := ref ht'
    have m1 : ((.inr z : Key), V.ref x1) ∈ ka := ex1 ▸ hm
    have m2 : ((.inr z : Key), V.ref x2) ∈ kb := ex2 ▸ valMem2 hv
    have r := tgD W (tgLock ha hb m1 m2 e ht) (tgLock ha hb m1 m2 e ht')
    have eq : eT T T' (.inr z) = tgE t t' := by
      show teF T T' z = _
      unfold teF
      rw [tMem nd mt, e2]
    rw [eq]
    exact r
def spPEq (CS CM CP : Addr) : Sp := fun vs H Q _ => ∃ p y T, vs = [.ref p, .ref y] ∧ PjAt CS CM CP H p T ∧ (T.map (·.1)).Nodup ∧
  ((∃ T', PjAt CS CM CP H y T' ∧ ∀ H', Same H H' → Q (.bl (tbE T T')) H') ∨ (∃ ls, H y = some (.dK ls) ∧ Q (.bl false) H))
theorem scPEq : FnScope ["self", "other"] ["self", "other"] (defScope sPEq) := ⟨rfl, rfl, rfl, by decide +kernel, rfl, by decide +kernel, by decide +kernel⟩
theorem okPEq {k : Nat} (W : Pjc P w K mg base CS CM CP NT NS) (F : FnM K "__eq__" "Project.__eq__" sPEq f fd) : FnOk P w K mg base CX0 (k + 3) f fd ["self", "other"] (spPEq CS CM CP) := by
  obtain ⟨fS, dS, hS, iS, bS, GS⟩ := W.eqS
  obtain ⟨fM, dM, hM, iM, bM, GM⟩ := W.eqM
  refine F.ok scPEq (fun vs H Q E h => ?_) (fun cdv A outer s H vs Q E hr h => ?_)
  · obtain ⟨a, y, T, rfl, _⟩ := h
    rfl
  · obtain ⟨a, y, T, rfl, ⟨ka, ⟨dp, D, ha, hD⟩, tA⟩, nd, h⟩ := h
    have hr2 : Room (1 + 1) _ := hr.mono (by omega)
    have m2 : EB.Mon2 (DT K CS CM) := EB.Mon2.or EB.mon_eown EB.mon_eown
    refine ⟨_, PSs.nox (pss_one (ps_ret (pe_and (pe_callB call_isi (by rfl) W.mi (by decide +kernel) (pa_cons (pv 1) (pa_cons (pe_glob (v := .ref CP) (by rfl) W.gP rfl) pa_nil))) (pe_one (pe_cmpR (r := EB.rEqD (DT K CS CM)) (EB.op_eqD (n := 1) m2 (EB.EqB.or (EB.eqB_own GS hS iS bS pass0) (EB.eqB_own GM hM iM bM pass0)) hr2) (pe_fld (pv 0) rfl) (pe_fld (pv 1) rfl) (nomark _)))))), ?_⟩
    rcases h with ⟨T', ⟨kb, ⟨dq, D', hb, hD'⟩, tB⟩, q⟩ | ⟨ls, hb, q⟩
    · refine ⟨.ref y, rfl, .ref y, .ref CP, .ref CP, .ref CP, true, rfl, .own CP, W.iP.ty hb, W.kPP, true, rfl, iteT ?_⟩
      refine ⟨.ref a, rfl, a, CP, dp, _, .ref D, rfl, ha, W.iP.cl, W.nP, rfl, .ref y, rfl, y, CP, dq, _, .ref D', rfl, hb, W.iP.cl, W.nP, rfl, D, D', ka, kb, _, rfl, rfl, hD, hD', fun _ H' e => hitsT W hD hD' tA tB nd e, fun H' e => ?_⟩
      rw [tabAll tA tB (eT T T') fun _ => rfl]
      exact q H' e
    · exact ⟨.ref y, rfl, .ref y, .ref CP, .type "dict", .ref CP, false, rfl, .own CP, tyDct hb, W.kDP, false, rfl, iteF q⟩
end
end PJ

set_option Elab.async false
set_option linter.all false
set_option maxRecDepth 100000
set_option maxHeartbeats 8000000
/-! what projects do -/
namespace PJ
open PySem PySem.Spec PyProof.Rows L2 KS KS.La
open KX hiding sameUpd
section
variable {P : Program} {w : World} {K : PySem.W.Frag} {mg : Str → Option Value} {base : Heap} {f : Addr} {fd : FuncData} {CS CM CP NT NS : Addr}
/-- an error with its name -/
def Nm (C : Addr) (z : Str) (H : Hp) (E : XK) : Prop := ∀ d H', Same H H' → H' d = some (.xd [("name", .str z)]) → E (.ref C) (some d) H'
theorem Nm.same {C : Addr} {z : Str} {H H1 : Hp} {E : XK} (h : Nm C z H E) (s : Same H H1) : Nm C z H1 E := fun d H' s' e => h d H' (s.trans s') e
def spPGet (CP NT : Addr) : Sp := fun vs H Q E => ∃ p kvs z, vs = [.ref p, .str z] ∧ PrAt CP H p kvs ∧ (∀ v, valV kvs (.inr z) = some v → Q v H) ∧ (valV kvs (.inr z) = none → Nm NT z H E)
theorem scPGet : FnScope ["self", "at"] ["self", "at"] (defScope sPGet) := ⟨rfl, rfl, rfl, by decide +kernel, rfl, by decide +kernel, by decide +kernel⟩
theorem okPGet {k : Nat} (W : Pjc P w K mg base CS CM CP NT NS) (F : FnM K "__getitem__" "Project.__getitem__" sPGet f fd) : FnOk P w K mg base (L2.CX P w) (k + 3) f fd ["self", "at"] (spPGet CP NT) := by
  refine F.ok scPGet (fun vs H Q E h => ?_) (fun cdv A outer s H vs Q E hr h => ?_)
  · obtain ⟨a, kvs, z, rfl, _⟩ := h
    rfl
  · obtain ⟨a, kvs, z, rfl, ⟨dp, D, ha, hD⟩, q1, q2⟩ := h
    have hu1 : (A.deeper (envOfC "Project.__getitem__" (defScope sPGet) s.heap.objs.size f cdv)).units + 1 < cLine := by
      have := hr.units
      omega
    refine ⟨_, (pss_cons (ps_if (pt_cmp (pc_dnotin hu1 (pv 1) (pe_fld (pv 0) rfl))) (pss_one (ps_raise rfl (takes_of rfl rfl rfl rfl) (pmkX W.xT (hr.mono (by omega)) (by rfl) (pa_cons (pv 1) pa_nil)))) pss_nil) (pss_one (ps_ret (pe_dget hu1 (pe_fld (pv 0) rfl) (pv 1) (fun _ _ => rfl))))), ?_⟩
    refine ⟨.str z, rfl, .ref a, rfl, a, CP, dp, _, .ref D, rfl, ha, W.iP.cl, W.nP, rfl, D, _, rfl, DGet.k (k := Sum.inr z) hD, _, rfl, ?_⟩
    cases e : valV kvs (Sum.inr z) with
    | none => exact iteT ⟨.str z, rfl, .str z, rfl, fun d H2 s2 hd => q2 e d H2 s2 hd⟩
    | some v => exact iteF ⟨.ref a, rfl, a, CP, dp, _, .ref D, rfl, ha, W.iP.cl, W.nP, rfl, .str z, rfl, D, v, rfl, by have := DGet.k (k := Sum.inr z) hD; rw [e] at this; exact this, q1 v e⟩
def spPHas (CP : Addr) : Sp := fun vs H Q _ => ∃ p kvs z, vs = [.ref p, .str z] ∧ PrAt CP H p kvs ∧ Q (.bl (valV kvs (.inr z)).isSome) H
theorem scPHas : FnScope ["self", "x"] ["self", "x"] (defScope sPHas) := ⟨rfl, rfl, rfl, by decide +kernel, rfl, by decide +kernel, by decide +kernel⟩
theorem okPHas {k : Nat} (W : Pjc P w K mg base CS CM CP NT NS) (F : FnM K "__contains__" "Project.__contains__" sPHas f fd) : FnOk P w K mg base CX0 (k + 1) f fd ["self", "x"] (spPHas CP) := by
  refine F.ok scPHas (fun vs H Q E h => ?_) (fun cdv A outer s H vs Q E hr h => ?_)
  · obtain ⟨a, kvs, z, rfl, _⟩ := h
    rfl
  · obtain ⟨a, kvs, z, rfl, ⟨dp, D, ha, hD⟩, q⟩ := h
    have hu1 : (A.deeper (envOfC "Project.__contains__" (defScope sPHas) s.heap.objs.size f cdv)).units + 1 < cLine := by
      have := hr.units
      omega
    refine ⟨_, PSs.nox (pss_one (ps_ret (pe_cmp (pc_din hu1 (pv 1) (pe_fld (pv 0) rfl)) rfl))), ?_⟩
    exact ⟨.str z, rfl, .ref a, rfl, a, CP, dp, _, .ref D, rfl, ha, W.iP.cl, W.nP, rfl, D, _, rfl, DGet.k (k := Sum.inr z) hD, q⟩
def spPLen (CP : Addr) : Sp := fun vs H Q _ => ∃ p kvs, vs = [.ref p] ∧ PrAt CP H p kvs ∧ Q (.int kvs.length) H
theorem scPLen : FnScope ["self"] ["self"] (defScope sPLen) := ⟨rfl, rfl, rfl, by decide +kernel, rfl, by decide +kernel, by decide +kernel⟩
theorem okPLen {k : Nat} (W : Pjc P w K mg base CS CM CP NT NS) (F : FnM K "__len__" "Project.__len__" sPLen f fd) : FnOk P w K mg base CX0 (k + 1) f fd ["self"] (spPLen CP) := by
  refine F.ok scPLen (fun vs H Q E h => ?_) (fun cdv A outer s H vs Q E hr h => ?_)
  · obtain ⟨a, kvs, rfl, _⟩ := h
    rfl
  · obtain ⟨a, kvs, rfl, ⟨dp, D, ha, hD⟩, q⟩ := h
    refine ⟨_, PSs.nox (pss_one (ps_ret (pe_callB call_lenD (by rfl) W.ml PySem.boot_len (pa_cons (pe_fld (pv 0) rfl) pa_nil)))), ?_⟩
    exact ⟨.ref a, rfl, a, CP, dp, _, .ref D, rfl, ha, W.iP.cl, W.nP, rfl, D, _, rfl, hD, q⟩
def spNames (CP : Addr) : Sp := fun vs H Q _ => ∃ p kvs ks, vs = [.ref p] ∧ PrAt CP H p kvs ∧ kvs.map (·.1) = (ks.map Sum.inr : List Key) ∧ ks.length < 64 ∧ ∀ ys u H', ys.Perm ks → sortedS ys = true → Same H H' → H' u = some (.tup (ys.map V.str)) → Q (.ref u) H'
theorem scPNames : FnScope ["self"] ["self"] (defScope sPNames) := ⟨rfl, rfl, rfl, by decide +kernel, rfl, by decide +kernel, by decide +kernel⟩
theorem okPNames {k : Nat} (W : Pjc P w K mg base CS CM CP NT NS) (F : FnM K "names" "Project.names" sPNames f fd) : FnOk P w K mg base CX0 (k + 1) f fd ["self"] (spNames CP) := by
  refine F.ok scPNames (fun vs H Q E h => ?_) (fun cdv A outer s H vs Q E hr h => ?_)
  · obtain ⟨a, kvs, ks, rfl, _⟩ := h
    rfl
  · obtain ⟨a, kvs, ks, rfl, ⟨dp, D, ha, hD⟩, hk, hl, q⟩ := h
    refine ⟨_, PSs.nox (pss_one (ps_ret (pe_callTy (T := "tuple") call_tuple_of (by rfl) W.mt (by decide +kernel) (pa_cons (pe_callB (call_sortedD rfl) (by rfl) W.ms (by decide +kernel) (pa_cons (pe_fld (pv 0) rfl) pa_nil)) pa_nil)))), ?_⟩
    refine ⟨.ref a, rfl, a, CP, dp, _, .ref D, rfl, ha, W.iP.cl, W.nP, rfl, D, kvs, ks, rfl, .inl hD, hk, hl, fun ys p hp hs np => ?_⟩
    refine ⟨p, _, rfl, .inl ⟨.inl (.inl upd_same), fun u hu => ?_⟩⟩
    exact q ys u _ hp hs ((KS.sameUpd np).trans (KS.sameUpd hu)) upd_same
/-- Project(d) -/
theorem pjMade {H : Hp} {x dx M : Addr} {kvs : List (Key × V)} {T : Tb} {R : Hp → Prop} {E : XK} (hx : H x = none) (hdx : H dx = none) (ne : dx ≠ x) (hM : H M = some (.dK kvs)) (hT : Tab (TgAt CS CM H) kvs T) (q : ∀ H', Same H H' → PjAt CS CM CP H' x T → R H') :
    spDInit CP "_targets" [.ref x, .ref M] (upd (upd H dx (.own x)) x (.ins CP dx [])) (fun v H2 => v = .non ∧ R H2) E :=
  dMade hx hdx ne hM fun H' D nD s h1 h2 => q H' s ⟨kvs, ⟨dx, D, h1, h2⟩, hT.tg (Stl.same s)⟩
def spPPut (CS CM CP : Addr) : Sp := fun vs H Q _ => ∃ p z v T t, vs = [.ref p, .str z, v] ∧ PjAt CS CM CP H p T ∧ TgAt CS CM H v t ∧ T.length ≤ 100 ∧ ∀ p' H', H p' = none → Same H H' → PjAt CS CM CP H' p' (tPut T z t) → Q (.ref p') H'
theorem scPPut : FnScope ["self", "name", "target"] ["self", "name", "target"] (defScope sPPut) := ⟨rfl, rfl, rfl, by decide +kernel, rfl, by decide +kernel, by decide +kernel⟩
theorem okPPut {k : Nat} (W : Pjc P w K mg base CS CM CP NT NS) (F : FnM K "put" "Project.put" sPPut f fd) : FnOk P w K mg base CX0 (k + 3) f fd ["self", "name", "target"] (spPPut CS CM CP) := by
  obtain ⟨fI, dI, M, bI, GI⟩ := W.mkP
  refine F.ok scPPut (fun vs H Q E h => ?_) (fun cdv A outer s H vs Q E hr h => ?_)
  · obtain ⟨a, z, v, T, t, rfl, _⟩ := h
    rfl
  · obtain ⟨a, z, v, T, t, rfl, ⟨kvs, ⟨dp, D, ha, hD⟩, hT⟩, hv, lT, q⟩ := h
    have hr2 : Room (1 + 1) _ := hr.mono (by omega)
    have lk := hT.len
    refine ⟨_, PSs.nox (pss_one (ps_ret (pe_make M GI hr2 (by rfl) W.gP bI .nil pass0 (pa_cons (MM.pe_starPut (pe_fld (pv 0) rfl) (pv 1) (pv 2)) pa_nil)))), ?_⟩
    refine fun d hd => ?_
    have s1 := KS.sameUpd (o := .dK []) hd
    have nDd : d ≠ D := fun z => by rw [z, hD] at hd; cases hd
    refine ⟨.ref a, rfl, a, CP, dp, _, .ref D, rfl, s1 _ _ ha, W.iP.cl, W.nP, rfl, D, kvs, rfl, .inl (s1 _ _ hD), nDd, upd_same, by rw [sizeLine_eq]; omega, fun u hu => ?_⟩
    refine ⟨.str z, rfl, v, rfl, .inr z, rfl, upd_same, ?_, fun x dx hx hdx nex => ?_⟩
    · rw [upd_ne fun z => by rw [← z, upd_same] at hu; cases hu]
      exact upd_same
    have nu : H u = none := by
      cases e : H u with
      | none => rfl
      | some o =>
        have nud : u ≠ d := fun z => by rw [z] at e; rw [e] at hd; cases hd
        rw [upd_ne nud, s1 _ _ e] at hu
        cases hu
    have sA : Same H (upd (upd (upd (upd (upd H d (.dK [])) d (.dK kvs)) u (.dK [])) u (.dK [(.inr z, v)])) d (.dK (putK kvs (.inr z) v))) := fun b o hb => by
      rw [upd_ne (ne_of_none hb hd), upd_ne (ne_of_none hb nu), upd_ne (ne_of_none hb nu), upd_ne (ne_of_none hb hd), upd_ne (ne_of_none hb hd)]
      exact hb
    exact pjMade hx hdx nex upd_same ((hT.put (k := z) hv).tg (Stl.same sA)) fun H' s2 h => q x H' (noneSame sA hx) (sA.trans s2) h
def spPWithout (CS CM CP NT : Addr) : Sp := fun vs H Q E => ∃ p z T, vs = [.ref p, .str z] ∧ PjAt CS CM CP H p T ∧ (tLook T z ≠ none → ∀ p' H', H p' = none → Same H H' → PjAt CS CM CP H' p' (tDrop T z) → Q (.ref p') H') ∧ (tLook T z = none → Nm NT z H E)
theorem scPWithout : FnScope ["self", "name", "targets"] ["self", "name"] (defScope sPWithout) := ⟨rfl, rfl, rfl, by decide +kernel, rfl, by decide +kernel, by decide +kernel⟩
theorem okPWithout {k : Nat} (W : Pjc P w K mg base CS CM CP NT NS) (F : FnM K "without" "Project.without" sPWithout f fd) : FnOk P w K mg base (L2.CX P w) (k + 3) f fd ["self", "name"] (spPWithout CS CM CP NT) := by
  obtain ⟨fI, dI, M, bI, GI⟩ := W.mkP
  refine F.ok scPWithout (fun vs H Q E h => ?_) (fun cdv A outer s H vs Q E hr h => ?_)
  · obtain ⟨a, z, T, rfl, _⟩ := h
    rfl
  · obtain ⟨a, z, T, rfl, ⟨kvs, ⟨dp, D, ha, hD⟩, hT⟩, q1, q2⟩ := h
    have hr2 : Room (1 + 1) _ := hr.mono (by omega)
    have hu1 : (A.deeper (envOfC "Project.without" (defScope sPWithout) s.heap.objs.size f cdv)).units + 1 < cLine := by
      have := hr.units
      omega
    refine ⟨_, (pss_cons (ps_if (pt_cmp (pc_dnotin hu1 (pv 1) (pe_fld (pv 0) rfl))) (pss_one (ps_raise rfl (takes_of rfl rfl rfl rfl) (pmkX W.xT (hr.mono (by omega)) (by rfl) (pa_cons (pv 1) pa_nil)))) pss_nil) (pss_cons (ps_set (i := 2) scPWithout.nd rfl (.inl rfl) (pe_callTy call_dictD (by rfl) W.md (by decide +kernel) (pa_cons (pe_fld (pv 0) rfl) pa_nil))) (pss_cons (ps_ddel (pv 2) (pv 1)) (pss_one (ps_ret (pe_make M GI hr2 (by rfl) W.gP bI .nil pass0 (pa_cons (pv 2) pa_nil))))))), ?_⟩
    refine ⟨.str z, rfl, .ref a, rfl, a, CP, dp, _, .ref D, rfl, ha, W.iP.cl, W.nP, rfl, D, _, rfl, DGet.k (k := Sum.inr z) hD, _, rfl, ?_⟩
    rcases hT.look z with ⟨e, e2⟩ | ⟨v, t, e, e2, _⟩
    · rw [e]
      exact iteT ⟨.str z, rfl, .str z, rfl, fun d H2 s2 hd => q2 e2 d H2 s2 hd⟩
    · rw [e]
      refine iteF ⟨.ref a, rfl, a, CP, dp, _, .ref D, rfl, ha, W.iP.cl, W.nP, rfl, D, kvs, rfl, hD, fun u hu => ?_⟩
      have s1 := KS.sameUpd (o := .dK kvs) hu
      refine ⟨.ref u, rfl, .str z, rfl, u, kvs, .inr z, rfl, upd_same, rfl, by rw [e]; rfl, ?_⟩
      have sA : Same H (upd (upd H u (.dK kvs)) u (.dK (dropK kvs (.inr z)))) := fun b o hb => by
        rw [upd_ne (ne_of_none hb hu), upd_ne (ne_of_none hb hu)]
        exact hb
      refine ⟨.ref u, rfl, fun x dx hx hdx nex => ?_⟩
      exact pjMade hx hdx nex upd_same ((hT.drop z).tg (Stl.same sA)) fun H' s2 h => q1 (by rw [e2]; exact fun z => nomatch z) x H' (noneSame sA hx) (sA.trans s2) h
end
end PJ

set_option Elab.async false
set_option linter.all false
set_option maxRecDepth 100000
set_option maxHeartbeats 8000000
/-! outputs written and erased -/
namespace PJ
open PySem PySem.Spec PyProof.Rows L2 KS KS.La
open KX hiding sameUpd
section
variable {P : Program} {w : World} {K : PySem.W.Frag} {mg : Str → Option Value} {base : Heap} {f : Addr} {fd : FuncData} {CS CM CP NT NS : Addr}
/-- where a name's outputs come from: none of this name, a made one -/
def spPOuts (CS CM CP NT NS : Addr) : Sp := fun vs H Q E => ∃ p z T, vs = [.ref p, .str z] ∧ PjAt CS CM CP H p T ∧ (∀ os, tLook T z = some (.src os) → ∀ u H', H u = none → Same H H' → OsIn H' u os → Q (.ref u) H') ∧ (tLook T z = none → Nm NT z H E) ∧ (∀ r as, tLook T z = some (.mad r as) → Nm NS z H E)
theorem scPOuts : FnScope ["self", "name", "target"] ["self", "name"] (defScope sPOuts) := ⟨rfl, rfl, rfl, by decide +kernel, rfl, by decide +kernel, by decide +kernel⟩
structure Pgt (P : Program) (w : World) (K : PySem.W.Frag) (mg : Str → Option Value) (base : Heap) (CP NT : Addr) : Prop where
  get : ∃ (f : Addr) (fd : FuncData), PySem.W.findIn K (.ref CP) "__getitem__" = some (some (.ref f)) ∧ PySem.W.fnIn K f = true ∧ PySem.W.isFn K (.ref f) = true ∧ Binds K fd ["self", "at"] [] ∧ FnOk P w K mg base (L2.CX P w) 3 f fd ["self", "at"] (spPGet CP NT)
theorem okPOuts {k : Nat} (W : Pjc P w K mg base CS CM CP NT NS) (G : Pgt P w K mg base CP NT) (F : FnM K "_outputs_of" "Project._outputs_of" sPOuts f fd) : FnOk P w K mg base (L2.CX P w) (k + 5) f fd ["self", "name"] (spPOuts CS CM CP NT NS) := by
  obtain ⟨fG, dG, h1, h2, h3, bG, GG⟩ := G.get
  obtain ⟨po, go, dO, hO, bO, GO⟩ := W.outS
  refine F.ok scPOuts (fun vs H Q E h => ?_) (fun cdv A outer s H vs Q E hr h => ?_)
  · obtain ⟨a, z, T, rfl, _⟩ := h
    rfl
  · obtain ⟨a, z, T, rfl, ⟨kvs, hp, hT⟩, q1, q2, q3⟩ := h
    have hr4 : Room (3 + 1) _ := hr.mono (by omega)
    have hr2 : Room (1 + 1) _ := hr.mono (by omega)
    refine ⟨_, (pss_cons (ps_set (i := 2) scPOuts.nd rfl (.inl rfl) (OD.pe_ixO (pv 0) (pv 1) GG hr4 h1 h2 h3 bG (fun σ => passAt (takes_of rfl rfl rfl rfl) σ))) (pss_cons (ps_if (pt_not (pt_val (pe_callB call_isi (by rfl) W.mi (by decide +kernel) (pa_cons (pv 2) (pa_cons (pe_glob (v := .ref CS) (by rfl) W.gS rfl) pa_nil))))) (pss_one (ps_raise rfl (takes_of rfl rfl rfl rfl) (pmkX W.xN (hr.mono (by omega)) (by rfl) (pa_cons (pv 1) pa_nil)))) pss_nil) (pss_one (ps_ret (pe_prop (pv 2) W.iS.cl hO GO hr2 bO .nil pass0 rfl))))), ?_⟩
    obtain ⟨dp, D, ha, hD⟩ := id hp
    refine ⟨.ref a, rfl, .str z, rfl, a, dp, _, rfl, ha, a, kvs, z, rfl, hp, fun v hv => ?_, fun hv => ?_⟩
    · rcases hT.look z with ⟨n, _⟩ | ⟨v2, t, e, e2, ht⟩
      · rw [hv] at n; cases n
      · obtain rfl : v = v2 := Option.some.inj (hv.symm.trans e)
        cases t with
        | src os =>
          obtain ⟨x, dx, d, rfl, hx, ho, hn⟩ := ht
          refine ⟨.ref x, rfl, .ref x, .ref CS, .ref CS, .ref CS, true, rfl, .own CS, W.iS.ty hx, W.kSS, true, rfl, iteF ?_⟩
          exact ⟨.ref x, rfl, x, dx, _, rfl, hx, x, dx, d, oK os, rfl, hx, ho, fun u hu => q1 os e2 u _ hu (KS.sameUpd hu) ⟨upd_same, hn⟩⟩
        | mad r as =>
          obtain ⟨x, dx, vr, va, rfl, hx, hr, has⟩ := ht
          refine ⟨.ref x, rfl, .ref x, .ref CS, .ref CM, .ref CS, false, rfl, .own CS, W.iM.ty hx, W.kMS, false, rfl, iteT ?_⟩
          exact ⟨.str z, rfl, .str z, rfl, fun d H2 s2 hd => q3 r as e2 d H2 s2 hd⟩
    · rcases hT.look z with ⟨_, e2⟩ | ⟨v2, t, e, _⟩
      · exact fun d H2 s2 hd => q2 e2 d H2 s2 hd
      · rw [hv] at e; cases e
/-- Source(d) -/
theorem srcMade {H : Hp} {x dx M : Addr} {os : Outs} {R : Hp → Prop} {E : XK} (hx : H x = none) (hdx : H dx = none) (ne : dx ≠ x) (hM : OsIn H M os) (q : ∀ H', Same H H' → TgAt CS CM H' (.ref x) (.src os) → R H') :
    spDInit CS "_outputs" [.ref x, .ref M] (upd (upd H dx (.own x)) x (.ins CS dx [])) (fun v H2 => v = .non ∧ R H2) E :=
  dMade hx hdx ne hM.1 fun H' D nD s h1 h2 => q H' s ⟨x, dx, D, rfl, h1, h2, hM.2⟩
theorem oPut_keys {os : Outs} {k z : Str} : (oPut os k z).map (·.1) = if k ∈ os.map (·.1) then os.map (·.1) else os.map (·.1) ++ [k] := by
  unfold oPut
  by_cases h : k ∈ os.map (·.1)
  · have : (os.any fun p => decide (p.1 = k)) = true := by
      obtain ⟨p, hp, e⟩ := List.mem_map.mp h
      exact List.any_eq_true.mpr ⟨p, hp, decide_eq_true e⟩
    rw [if_pos this, if_pos h, List.map_map]
    refine List.map_congr_left fun p _ => ?_
    show (if p.1 = k then (p.1, z) else p).1 = p.1
    split <;> rfl
  · have : ¬ (os.any fun p => decide (p.1 = k)) = true := fun h2 => by
      obtain ⟨p, hp, e⟩ := List.any_eq_true.mp h2
      exact h (List.mem_map.mpr ⟨p, hp, of_decide_eq_true e⟩)
    rw [if_neg this, if_neg h, List.map_append]
    rfl
theorem oPut_nd {os : Outs} {k z : Str} (h : (os.map (·.1)).Nodup) : ((oPut os k z).map (·.1)).Nodup := by
  rw [oPut_keys]
  split
  · exact h
  · rename_i n
    exact List.nodup_append.mpr ⟨h, by simp, fun a ha b hb e => n (by rw [List.mem_singleton.mp hb] at e; exact e ▸ ha)⟩
theorem oPut_len {os : Outs} {k z : Str} : (oPut os k z).length ≤ os.length + 1 := by
  rw [← oK_len, ← oK_put, ← oK_len os]
  exact length_putK _ _ _
theorem oDrop_nd {os : Outs} {k : Str} (h : (os.map (·.1)).Nodup) : ((oDrop os k).map (·.1)).Nodup := h.sublist (List.Sublist.map _ List.filter_sublist)
theorem oDrop_len {os : Outs} {k : Str} : (oDrop os k).length ≤ os.length := List.length_filter_le _ _
/-- the outputs that a write starts from -/
def wrOs (T : Tb) (z : Str) : Outs := match tLook T z with
  | some (.src os) => os
  | _ => []
def spPWrite (CS CM CP NS : Addr) : Sp := fun vs H Q E => ∃ p z o y T, vs = [.ref p, .str z, .str o, .str y] ∧ PjAt CS CM CP H p T ∧ T.length ≤ 100 ∧ (wrOs T z).length ≤ 50 ∧
  ((∀ r as, tLook T z ≠ some (.mad r as)) → ∀ p' H', H p' = none → Same H H' → PjAt CS CM CP H' p' (tPut T z (.src (oPut (wrOs T z) o y))) → Q (.ref p') H') ∧ (∀ r as, tLook T z = some (.mad r as) → Nm NS z H E)
abbrev nWr : List Str := ["self", "name", "output", "text", "outputs"]
theorem scPWrite : FnScope nWr ["self", "name", "output", "text"] (defScope sPWrite) := ⟨rfl, rfl, rfl, by decide +kernel, rfl, by decide +kernel, by decide +kernel⟩
structure Pms (P : Program) (w : World) (K : PySem.W.Frag) (mg : Str → Option Value) (base : Heap) (CS CM CP NT NS : Addr) : Prop where
  put : ∃ (f : Addr) (fd : FuncData), Meth K CP "put" f ∧ Binds K fd ["self", "name", "target"] [] ∧ FnOk P w K mg base CX0 3 f fd ["self", "name", "target"] (spPPut CS CM CP)
  outs : ∃ (f : Addr) (fd : FuncData), Meth K CP "_outputs_of" f ∧ Binds K fd ["self", "name"] [] ∧ FnOk P w K mg base (L2.CX P w) 5 f fd ["self", "name"] (spPOuts CS CM CP NT NS)
theorem okPWrite {k : Nat} (W : Pjc P w K mg base CS CM CP NT NS) (M : Pms P w K mg base CS CM CP NT NS) (F : FnM K "write" "Project.write" sPWrite f fd) : FnOk P w K mg base (L2.CX P w) (k + 6) f fd ["self", "name", "output", "text"] (spPWrite CS CM CP NS) := by
  obtain ⟨fP, dP, hP, bP, GP⟩ := M.put
  obtain ⟨fO, dO, hO, bO, GO⟩ := M.outs
  obtain ⟨fI, dI, MI, bI, GI⟩ := W.mkS
  refine F.ok scPWrite (fun vs H Q E h => ?_) (fun cdv A outer s H vs Q E hr h => ?_)
  · obtain ⟨a, z, o, y, T, rfl, _⟩ := h
    rfl
  · obtain ⟨a, z, o, y, T, rfl, hpj, lT, lo, q1, q2⟩ := h
    obtain ⟨kvs, hp, hT⟩ := id hpj
    obtain ⟨dp, D, ha, hD⟩ := id hp
    have hr5 : Room 5 _ := hr.mono (by omega)
    have hr3 : Room 3 _ := hr.mono (by omega)
    have hr2 : Room (1 + 1) _ := hr.mono (by omega)
    have hu1 : (A.deeper (envOfC "Project.write" (defScope sPWrite) s.heap.objs.size f cdv)).units + 1 < cLine := by
      have := hr.units
      omega
    refine ⟨_, (pss_cons (ps_set (i := 4) scPWrite.nd rfl (.inl rfl) (pe_ifExp (pt_cmp (pc_din hu1 (pv 1) (pe_fld (pv 0) rfl))) (OD.pe_methT (pv 0) W.iP.cl hO GO hr5 bO (fun σ => passAt (takes_of rfl rfl rfl rfl) σ) (pa_cons (pv 1) pa_nil)) pe_dnewK)) (pss_one (ps_ret (pe_meth (pv 0) W.iP.cl hP GP hr3 bP .nil pass0 (pa_cons (pv 1) (pa_cons (pe_make MI GI hr2 (by rfl) W.gS bI .nil pass0 (pa_cons (MM.pe_starPut (pv 4) (pv 2) (pv 3)) pa_nil)) pa_nil)))))), ?_⟩
    have go : ∀ u H1, (∀ r as, tLook T z ≠ some (.mad r as)) → Same H H1 → OsIn H1 u (wrOs T z) → ∃ p dx fs, V.ref a = .ref p ∧ H1 p = some (.ins CP dx fs) ∧ fs.lookup ("put" : Str) = none ∧
        tCons (tVar 1) (tCons (tMake CS (spDInit CS "_outputs") [] E0 (tCons (MM.tStarPut (tVar 4) (tVar 2) (tVar 3)) tNil)) tNil) [some (.ref a), some (.str z), some (.str o), some (.str y), some (.ref u)] H1 (fun vs H2 => spPPut CS CM CP (.ref p :: (vs ++ [])) H2 Q E0) := fun u H1 nm s1 ho => by
      refine ⟨a, dp, _, rfl, s1 _ _ ha, rfl, .str z, rfl, fun d hd => ?_⟩
      have sd := KS.sameUpd (o := .dK []) hd
      have ndu : d ≠ u := fun z => by rw [z, ho.1] at hd; cases hd
      refine ⟨.ref u, rfl, u, _, rfl, .inl (sd _ _ ho.1), ndu, upd_same, by rw [oK_len, sizeLine_eq]; omega, fun u' hu' => ?_⟩
      have nud : d ≠ u' := fun z => by rw [← z, upd_same] at hu'; cases hu'
      refine ⟨.str o, rfl, .str y, rfl, .inr o, rfl, upd_same, ?_, fun x dx hx hdx nex => ?_⟩
      · rw [upd_ne nud]
        exact upd_same
      have nu : H1 u' = none := by
        cases e : H1 u' with
        | none => rfl
        | some o =>
          rw [upd_ne (Ne.symm nud), sd _ _ e] at hu'
          cases hu'
      rw [oK_put] at hx hdx ⊢
      have sA : Same H1 (upd (upd (upd (upd (upd H1 d (.dK [])) d (.dK (oK (wrOs T z)))) u' (.dK [])) u' (.dK [(.inr o, .str y)])) d (.dK (oK (oPut (wrOs T z) o y)))) := fun b o hb => by
        rw [upd_ne (ne_of_none hb hd), upd_ne (ne_of_none hb nu), upd_ne (ne_of_none hb nu), upd_ne (ne_of_none hb hd), upd_ne (ne_of_none hb hd)]
        exact hb
      refine srcMade (CM := CM) hx hdx nex ⟨upd_same, oPut_nd ho.2.1, by have := oPut_len (os := wrOs T z) (k := o) (z := y); omega⟩ fun H' s2 h => ?_
      have sH := s1.trans (sA.trans s2)
      exact ⟨a, z, .ref x, T, _, rfl, hpj.stl (Stl.same sH), h, lT, fun p' H'' np s3 h3 => q1 nm p' H'' (noneSame sH np) (sH.trans s3) h3⟩
    refine ⟨.str z, rfl, .ref a, rfl, a, CP, dp, _, .ref D, rfl, ha, W.iP.cl, W.nP, rfl, D, _, rfl, DGet.k (k := Sum.inr z) hD, _, rfl, ?_⟩
    rcases hT.look z with ⟨e, e2⟩ | ⟨v, t, e, e2, _⟩
    · rw [e]
      refine iteF fun u hu => ⟨.ref a, rfl, ?_⟩
      have ew : wrOs T z = [] := by unfold wrOs; rw [e2]
      obtain ⟨p, dx, fs, g1, g2, g3, g4⟩ := go u (upd H u (.dK [])) (fun r as => by rw [e2]; exact fun z => nomatch z) (KS.sameUpd hu) (by rw [ew]; exact ⟨upd_same, List.nodup_nil, Nat.zero_le _⟩)
      refine ⟨p, dx, fs, g1, g2, g3, ?_⟩
      rw [g1]
      exact g4
    · rw [e]
      refine iteT ⟨.ref a, rfl, a, dp, _, rfl, ha, rfl, .str z, rfl, a, z, T, rfl, hpj, fun os' eo u H1 nu s1 ho => ⟨.ref a, rfl, ?_⟩, fun n => ?_, fun r as er => ?_⟩
      · have ew : wrOs T z = os' := by unfold wrOs; rw [eo]
        obtain ⟨p, dx, fs, g1, g2, g3, g4⟩ := go u H1 (fun r as => by rw [eo]; exact fun z => nomatch z) s1 (by rw [ew]; exact ho)
        refine ⟨p, dx, fs, g1, g2, g3, ?_⟩
        rw [g1]
        exact g4
      · rw [n] at e2; cases e2
      · exact fun d H2 s2 hd => q2 r as er d H2 s2 hd
end
end PJ

set_option Elab.async false
set_option linter.all false
set_option maxRecDepth 100000
set_option maxHeartbeats 8000000
/-! outputs erased -/
namespace PJ
open PySem PySem.Spec PyProof.Rows L2 KS KS.La
open KX hiding sameUpd
/-- turns over a dict's keys, as a dict is built -/
theorem dcJ {J : It} {n : Nat} {g : TG} {tt : TT} {tk tv : TE} {vs : List Nat} {σ : L2.St} {H1 : Hp} {D : Addr} {Qd : Hp → Prop} (Pv : Nat → Hp → Prop) (h0 : Pv 0 (upd H1 D (.dK [])))
    (hgo : ∀ i H, i < n → Pv i H → J.go i H) (hst : ∀ H, Pv n H → J.stop n H)
    (hs : ∀ i H x H', i < n → Pv i H → J.yld i H x H' → g x (wipe σ vs) H' fun σ2 H2 => wipe σ2 vs = wipe σ vs ∧ tt σ2 H2 fun b H3 =>
      if b = true then tk σ2 H3 fun y H4 => tv σ2 H4 fun z H5 => ∃ kvs k, y = kV k ∧ H5 D = some (.dK kvs) ∧ kvs.length < sizeLine ∧ Pv (i + 1) (upd H5 D (.dK (putK kvs k z))) else Pv (i + 1) H3)
    (hd : ∀ H, Pv n H → Qd H) :
    ∃ W : Nat → Nat → Hp → Prop, (∃ m, W 0 m (upd H1 D (.dK []))) ∧ ∀ i m H, W i m H →
      (J.stop i H ∧ Qd H) ∨ (J.go i H ∧ ∃ Nx : Hp → Prop, (∀ H', Nx H' → ∃ m', m' < m ∧ W (i + 1) m' H') ∧ ∀ x H', J.yld i H x H' → g x (wipe σ vs) H' fun σ2 H2 => wipe σ2 vs = wipe σ vs ∧ tt σ2 H2 fun b H3 =>
        if b = true then tk σ2 H3 fun y H4 => tv σ2 H4 fun z H5 => ∃ kvs k, y = kV k ∧ H5 D = some (.dK kvs) ∧ kvs.length < sizeLine ∧ Nx (upd H5 D (.dK (putK kvs k z))) else Nx H3) := by
  refine ⟨fun i m H => m = n - i ∧ i ≤ n ∧ Pv i H, ⟨n, by simp, Nat.zero_le _, h0⟩, fun i m H hW => ?_⟩
  obtain ⟨rfl, hi, p⟩ := hW
  by_cases lt : i < n
  · exact .inr ⟨hgo i H lt p, Pv (i + 1), fun H' p' => ⟨n - (i + 1), by omega, rfl, lt, p'⟩, fun x H' y => hs i H x H' lt p y⟩
  · have e : i = n := by omega
    subst e
    exact .inl ⟨hst H p, hd H p⟩
theorem oDrop_step {os : Outs} {k : Str} {i : Nat} {p : Str × Str} (h : os[i]? = some p) : oDrop (os.take (i + 1)) k = if p.1 = k then oDrop (os.take i) k else oDrop (os.take i) k ++ [p] := by
  obtain ⟨lt, e⟩ := List.getElem?_eq_some_iff.mp h
  rw [List.take_succ_eq_append_getElem lt, e]
  unfold oDrop
  rw [List.filter_append, List.filter_cons, List.filter_nil]
  by_cases c : p.1 = k
  · rw [if_neg (by simpa using c), if_pos c, List.append_nil]
  · rw [if_pos (by simpa using c), if_neg c]
theorem oNew {os : Outs} {k : Str} {i : Nat} {p : Str × Str} (nd : (os.map (·.1)).Nodup) (h : os[i]? = some p) : valV (oK (oDrop (os.take i) k)) (.inr p.1) = none := by
  cases e : valV (oK (oDrop (os.take i) k)) (Sum.inr p.1) with
  | none => rfl
  | some v =>
    have h1 := valMem2 e
    obtain ⟨q, hq, eq⟩ := List.mem_map.mp h1
    have e1 : q.1 = p.1 := Sum.inr.inj (congrArg Prod.fst eq)
    have hq2 : q ∈ os.take i := (List.mem_filter.mp hq).1
    obtain ⟨lt, ep⟩ := List.getElem?_eq_some_iff.mp h
    have nd2 : ((os.take (i + 1)).map (·.1)).Nodup := nd.sublist (List.Sublist.map _ (List.take_sublist _ _))
    rw [List.take_succ_eq_append_getElem lt, ep, List.map_append] at nd2
    exact absurd e1 ((List.nodup_append.mp nd2).2.2 _ (List.mem_map_of_mem hq2) _ (List.mem_singleton.mpr rfl))
section
variable {P : Program} {w : World} {K : PySem.W.Frag} {mg : Str → Option Value} {base : Heap} {f : Addr} {fd : FuncData} {CS CM CP NT NS : Addr}
def spPErase (CS CM CP NT NS : Addr) : Sp := fun vs H Q E => ∃ p z o T, vs = [.ref p, .str z, .str o] ∧ PjAt CS CM CP H p T ∧ T.length ≤ 100 ∧
  (∀ os, tLook T z = some (.src os) → ∀ p' H', H p' = none → Same H H' → PjAt CS CM CP H' p' (tPut T z (.src (oDrop os o))) → Q (.ref p') H') ∧ (tLook T z = none → Nm NT z H E) ∧ (∀ r as, tLook T z = some (.mad r as) → Nm NS z H E)
abbrev nEr : List Str := ["self", "name", "output", "outputs", "other"]
theorem scPErase : FnScope nEr ["self", "name", "output"] (defScope sPErase) := ⟨rfl, rfl, rfl, by decide +kernel, rfl, by decide +kernel, by decide +kernel⟩
theorem okPErase {k : Nat} (W : Pjc P w K mg base CS CM CP NT NS) (M : Pms P w K mg base CS CM CP NT NS) (F : FnM K "erase" "Project.erase" sPErase f fd) : FnOk P w K mg base (L2.CX P w) (k + 6) f fd ["self", "name", "output"] (spPErase CS CM CP NT NS) := by
  obtain ⟨fP, dP, hP, bP, GP⟩ := M.put
  obtain ⟨fO, dO, hO, bO, GO⟩ := M.outs
  obtain ⟨fI, dI, MI, bI, GI⟩ := W.mkS
  refine F.ok scPErase (fun vs H Q E h => ?_) (fun cdv A outer s H vs Q E hr h => ?_)
  · obtain ⟨a, z, o, T, rfl, _⟩ := h
    rfl
  · obtain ⟨a, z, o, T, rfl, hpj, lT, q1, q2, q3⟩ := h
    obtain ⟨kvs, hp, hT⟩ := id hpj
    obtain ⟨dp, D, ha, hD⟩ := id hp
    have hr5 : Room 5 _ := hr.mono (by omega)
    have hr3 : Room 3 _ := hr.mono (by omega)
    have hr2 : Room (1 + 1) _ := hr.mono (by omega)
    have hu1 : (A.deeper (envOfC "Project.erase" (defScope sPErase) s.heap.objs.size f cdv)).units + 1 < cLine := by
      have := hr.units
      omega
    refine ⟨_, (C8.pss_cut (ps_set (i := 3) scPErase.nd rfl (.inr rfl) (OD.pe_methT (pv 0) W.iP.cl hO GO hr5 bO (fun σ => passAt (takes_of rfl rfl rfl rfl) σ) (pa_cons (pv 1) pa_nil))) (pss_one (ps_ret (pe_meth (pv 0) W.iP.cl hP GP hr3 bP .nil pass0 (pa_cons (pv 1) (pa_cons (pe_make MI GI hr2 (by rfl) W.gS bI .nil pass0 (pa_cons (pe_lock (pe_dc (own := [("other", 4)]) (g := gName 4) rfl scPErase.nd (pi_keys (pv 3)) (blkOk_by (N := nEr) (sc := defScope sPErase) (by decide +kernel))
        (fun _ _ _ _ _ => pg_name (i := 4) scPErase.nd rfl (.inl rfl) (hf := .inr rfl)) (fun _ _ _ _ _ => pts_one (pt_cmpR op_ne (pv 4) (pv 2) (nomark _))) (fun _ _ _ _ _ => pv 4) (fun _ _ _ _ _ => pe_dget hu1 (pv 3) (pv 4) (fun _ _ => rfl)))) pa_nil)) pa_nil)))))), ?_⟩
    refine ⟨fun σ' H' => ∃ u os, σ' = [some (.ref a), some (.str z), some (.str o), some (.ref u), none] ∧ tLook T z = some (.src os) ∧ Same H H' ∧ OsIn H' u os, ?_, ?_⟩
    · refine ⟨.ref a, rfl, a, dp, _, rfl, ha, rfl, .str z, rfl, a, z, T, rfl, hpj, fun os eo u H1 nu s1 ho => ?_, fun n => ?_, fun r as er => ?_⟩
      · exact ⟨u, os, rfl, eo, s1, ho⟩
      · exact fun d H2 s2 hd => q2 n d H2 s2 hd
      · exact fun d H2 s2 hd => q3 r as er d H2 s2 hd
    rintro _ H1 ⟨u, os, rfl, eo, s1, ho⟩
    refine ⟨.ref a, rfl, a, dp, _, rfl, s1 _ _ ha, rfl, .str z, rfl, u, .dK (oK os), ho.1, True.intro, fun od => ?_⟩
    have eu : upd H1 u (.frz od (.dK (oK os))) u = some (.frz od (.dK (oK os))) := upd_same
    refine ⟨.ref u, rfl, u, od, rfl, .inl ⟨oK os, eu, fun N hN => ?_⟩⟩
    have nNu : N ≠ u := fun z => by rw [z, eu] at hN; cases hN
    have hN1 : H1 N = none := by rw [upd_ne nNu] at hN; exact hN
    refine dcJ (n := os.length) (fun i H2 => H2 u = some (.frz od (.dK (oK os))) ∧ H2 N = some (.dK (oK (oDrop (os.take i) o))) ∧ ∀ b x, b ≠ u → H1 b = some x → H2 b = some x) ⟨?_, ?_, ?_⟩ (fun i H2 lt h => ⟨h.1, by rw [oK_len]; exact lt⟩) (fun H2 h => ⟨h.1, by rw [oK_len]; exact Nat.le_refl _⟩) (fun i H2 x H3 lt h y => ?_) (fun H2 h => ?_)
    · rw [upd_ne (Ne.symm nNu)]
      exact eu
    · rw [List.take_zero]
      exact upd_same
    · intro b x nb hb
      rw [upd_ne (ne_of_none hb hN1), upd_ne nb]
      exact hb
    · obtain ⟨rfl, k, v, ek, rfl⟩ := y
      obtain ⟨g1, g2, g3⟩ := h
      have eo2 : os[i]? = some os[i] := List.getElem?_eq_getElem lt
      have ekv : (oK os)[i]? = some (kvO os[i]) := by unfold oK; rw [List.getElem?_map, eo2]; rfl
      obtain ⟨rfl, rfl⟩ : k = .inr os[i].1 ∧ v = .str os[i].2 := by
        rw [ekv] at ek
        have := Option.some.inj ek
        injection this with a b
        exact ⟨a.symm, b.symm⟩
      have put : ∀ (H5 : Hp), H5 = H3 → ∃ kvs k, kV (Sum.inr os[i].1) = kV k ∧ H5 N = some (.dK kvs) ∧ kvs.length < sizeLine ∧ (¬ os[i].1 = o → (upd H5 N (.dK (putK kvs k (.str os[i].2)))) u = some (.frz od (.dK (oK os))) ∧ (upd H5 N (.dK (putK kvs k (.str os[i].2)))) N = some (.dK (oK (oDrop (os.take (i + 1)) o))) ∧ ∀ b x, b ≠ u → H1 b = some x → (upd H5 N (.dK (putK kvs k (.str os[i].2)))) b = some x) := fun H5 e5 => by
        subst e5
        refine ⟨_, _, rfl, g2, ?_, fun ne => ⟨?_, ?_, ?_⟩⟩
        · rw [oK_len, sizeLine_eq]
          have h1 := oDrop_len (os := os.take i) (k := o)
          have h2 := List.length_take_le i os
          have := ho.2.2
          omega
        · rw [upd_ne (Ne.symm nNu)]
          exact g1
        · rw [putK_new _ (oNew ho.2.1 eo2), oDrop_step eo2, if_neg ne, upd_same]
          unfold oK
          rw [List.map_append]
          rfl
        · intro b x nb hb
          rw [upd_ne (ne_of_none hb hN1)]
          exact g3 b x nb hb
      refine ⟨rfl, .str os[i].1, rfl, .str o, rfl, rfl, _, rfl, ite2 (fun e => ?_) (fun e => ?_)⟩
      · obtain ⟨kvs', k', e1, e2, e3, e4⟩ := put H3 rfl
        have ne : ¬ os[i].1 = o := fun z => by rw [z] at e; simp at e
        have hv : valV (oK os) (.inr os[i].1) = some (.str os[i].2) := valMem (oK_nd ho.2.1) (List.mem_of_getElem? ekv)
        refine ⟨.str os[i].1, rfl, .ref u, rfl, .str os[i].1, rfl, u, .str os[i].2, rfl, .inl ⟨oK os, .inr os[i].1, .inr ⟨od, g1⟩, rfl, hv.symm⟩, kvs', k', e1, e2, e3, e4 ne⟩
      · have ne : os[i].1 = o := by
          have : decide (V.str os[i].1 = V.str o) = true := by
            cases d : decide (V.str os[i].1 = V.str o) with
            | true => rfl
            | false => rw [d] at e; exact absurd rfl e
          exact V.str.inj (of_decide_eq_true this)
        refine ⟨g1, ?_, g3⟩
        rw [oDrop_step eo2, if_pos ne]
        exact g2
    · obtain ⟨g1, g2, g3⟩ := h
      rw [List.take_length] at g2
      refine ⟨g1, fun x dx hx hdx nex => ?_⟩
      have sA : Same H1 (upd H2 u (.dK (oK os))) := fun b x hb => by
        by_cases e : b = u
        · subst e
          rw [upd_same, ← hb, ho.1]
        · rw [upd_ne e]
          exact g3 b x e hb
      have eN : upd H2 u (.dK (oK os)) N = some (.dK (oK (oDrop os o))) := by rw [upd_ne nNu]; exact g2
      refine srcMade (CM := CM) hx hdx nex ⟨eN, oDrop_nd ho.2.1, by have := oDrop_len (os := os) (k := o); have := ho.2.2; omega⟩ fun H' s2 h => ?_
      have sH := s1.trans (sA.trans s2)
      exact ⟨a, z, .ref x, T, _, rfl, hpj.stl (Stl.same sH), h, lT, fun p' H'' np s3 h3 => q1 os eo p' H'' (noneSame sH np) (sH.trans s3) h3⟩
end
end PJ

set_option Elab.async false
set_option linter.all false
set_option maxRecDepth 100000
set_option maxHeartbeats 8000000
/-! the law's drawn targets -/
namespace PJ
open PySem PySem.Spec PyProof.Rows L2 KS KS.La
open KX hiding sameUpd
abbrev lOuts : Stmt := top 13
abbrev lOutputs : Stmt := top 16
abbrev lOne : Stmt := top 17
abbrev lWhole : Stmt := top 18
abbrev lDrawn : Stmt := top 20
def outsL : List Str := ["o", "read", "write", "z9z9z9z9"]
theorem outsNd : outsL.Nodup := by unfold outsL; decide +kernel
theorem fdNe {H : Hp} {f p : Addr} (h : Fd H f) (hp : H p = none) : p ≠ f := fun z => by
  obtain ⟨x, y, e, _⟩ := h
  rw [z, e] at hp
  cases hp
theorem fdOther {H : Hp} {f p : Addr} {o : HO} (h : Fd H f) (hp : p ≠ f) : Fd (upd H p o) f := by
  obtain ⟨x, y, e, a, b⟩ := h
  exact ⟨x, y, by rw [upd_ne (Ne.symm hp)]; exact e, a, b⟩
theorem kpNone {H H' : Hp} {f p : Addr} (h : Fd H f) (k : Kp f H H') (F : Fd H' f) (hp : H' p = none) : H p = none := by
  cases e : H p with
  | none => rfl
  | some o => rw [k p o (fdNe F hp) e] at hp; cases hp
theorem notTake {α : Type} {l : List α} (h : l.Nodup) {i : Nat} (lt : i < l.length) : l[i] ∉ l.take i := fun hm => by
  have h2 : (l.take (i + 1)).Nodup := h.sublist (List.take_sublist _ _)
  rw [List.take_succ_eq_append_getElem lt] at h2
  exact (List.nodup_append.mp h2).2.2 _ hm _ (List.mem_singleton.mpr rfl) rfl
/-- drawn outputs, each once, with texts -/
def OutsOk (os : Outs) : Prop := (os.map (·.1)).Nodup ∧ os.length ≤ 4
theorem mergeNd : ∀ (l acc : Outs), ((acc ++ l).map (·.1)).Nodup → mergeK (acc.map kvO) (l.map kvO) = (acc ++ l).map kvO
  | [], acc, _ => by rw [List.append_nil]; rfl
  | o :: l, acc, h => by
    have e : putK (acc.map kvO) (.inr o.1) (.str o.2) = (acc ++ [o]).map kvO := by
      rw [putK_new]
      · rw [List.map_append]; rfl
      · cases hv : valV (acc.map kvO) (Sum.inr o.1) with
        | none => rfl
        | some v =>
          have h1 := valV_any (Sum.inr o.1 : Key) (acc.map kvO)
          rw [hv] at h1
          obtain ⟨kv, hkv, hd⟩ := List.any_eq_true.mp h1
          obtain ⟨o2, ho2, rfl⟩ := List.mem_map.mp hkv
          have e1 : o2.1 = o.1 := Sum.inr.inj (of_decide_eq_true hd)
          rw [List.map_append, List.map_cons] at h
          exact absurd e1 ((List.nodup_append.mp h).2.2 _ (List.mem_map_of_mem ho2) _ List.mem_cons_self)
    show mergeK (putK (acc.map kvO) (.inr o.1) (.str o.2)) (l.map kvO) = _
    rw [e, mergeNd l (acc ++ [o]) (by rw [List.append_assoc]; exact h), List.append_assoc]
    rfl
section
variable {P : Program} {w : World} {K : PySem.W.Frag} {mg : Str → Option Value} {base : Heap} {f : Addr} {fd : FuncData} {CS CM CP NT NS : Addr}
def spOutsT : Sp := fun vs H Q _ => vs = [] ∧ ∀ p, H p = none → Q (.ref p) (upd H p (.lst (outsL.map V.str)))
theorem scOuts : FnScope [] [] (defScope lOuts) := ⟨rfl, rfl, rfl, by decide +kernel, rfl, by decide +kernel, by decide +kernel⟩
theorem okOutsT {k : Nat} (F : FnP K "_law_outs" lOuts f fd) : FnOk P w K mg base CX0 (k + 1) f fd [] spOutsT := by
  refine F.ok scOuts (fun vs H Q E h => ?_) (fun cdv A outer s H vs Q E hr h => ?_)
  · obtain ⟨rfl, _⟩ := h
    rfl
  · obtain ⟨rfl, q⟩ := h
    exact ⟨_, PSs.nox (pss_one (ps_ret (pe_lst (pa_cons (pe_str) (pa_cons (pe_str) (pa_cons (pe_str) (pa_cons (pe_str) pa_nil))))))), (by show 4 ≤ sizeLine; decide), fun p hp => q p hp⟩
def spOutputs : Sp := fun vs H Q _ => ∃ f : Addr, vs = [.ref f] ∧ Fd H f ∧ ∀ p os H', OutsOk os → H p = none → H' p = some (.dK (oK os)) → Kp f H H' → Fd H' f → Q (.ref p) H'
abbrev nOutputs : List Str := ["_law_feed", "_law_out"]
theorem scOutputs : FnScope nOutputs ["_law_feed"] (defScope lOutputs) := ⟨rfl, rfl, rfl, by decide +kernel, rfl, by decide +kernel, by decide +kernel⟩
theorem okOutputs {k : Nat} (F : FnP K "_law_some_outputs" lOutputs f fd) (md : mg "dict" = none) (D : Has P w K mg base (k + 1) "_law_draw" ["_law_feed", "_law_many"] spDraw) (T : Has P w K mg base (k + 3) "_law_some_text" ["_law_feed"] spText) (O : Has P w K mg base (k + 1) "_law_outs" [] spOutsT) : FnOk P w K mg base CX0 (k + 4) f fd ["_law_feed"] spOutputs := by
  obtain ⟨fD, fdD, gD, kD, bD, GD⟩ := D.ex
  obtain ⟨fT, fdT, gT, kT, bT, GT⟩ := T.ex
  obtain ⟨fO, fdO, gO, kO, bO, GO⟩ := O.ex
  refine F.ok scOutputs (fun vs H Q E h => ?_) (fun cdv A outer s H vs Q E hr h => ?_)
  · obtain ⟨a, rfl, _⟩ := h
    rfl
  · obtain ⟨a, rfl, hF, q⟩ := h
    have hr1 : Room (k + 1) _ := hr.mono (by omega)
    refine ⟨_, PSs.nox (pss_one (ps_ret (pe_callTy (T := "dict") (call_dictP rfl) (by rfl) md (by decide +kernel) (pa_cons (pe_lc (own := [("_law_out", 1)]) (g := gName 1) rfl scOutputs.nd (pi_list (pe_call0 GO hr1 (by rfl) gO kO bO .nil pass0)) (blkOk_by (N := nOutputs) (sc := defScope lOutputs) (by decide +kernel))
        (fun _ _ _ _ _ => pg_name (i := 1) scOutputs.nd rfl (.inl rfl) (hf := .inr rfl)) (fun _ _ _ _ _ => pts_one (pt_cmpR op_gt (pe_call GD hr1 (by rfl) gD kD bD .nil pass0 (pa_cons (pv 0) (pa_cons (pe_int) pa_nil))) pe_int (nomark _)))
        (fun _ _ _ _ _ => pe_tup (pa_cons (pv 1) (pa_cons (pe_call GT hr (by rfl) gT kT bT .nil pass0 (pa_cons (pv 0) pa_nil)) pa_nil)))) pa_nil)))), ?_⟩
    refine ⟨rfl, fun O hO => ⟨O, rfl, ⟨_, .inl (.inl upd_same)⟩, fun D hD => ?_⟩⟩
    have sO := KS.sameUpd (o := .lst (outsL.map V.str)) hO
    have eO : upd H O (.lst (outsL.map V.str)) O = some (.lst (outsL.map V.str)) := upd_same
    have F1 := hF.same sO
    have nO := fdNe hF hO
    have nD := fdNe F1 hD
    have nOD : D ≠ O := fun z => by rw [z, eO] at hD; cases hD
    have kO1 : Kp a H (upd H O (.lst (outsL.map V.str))) := Kp.same sO
    generalize upd H O (.lst (outsL.map V.str)) = H1 at *
    refine lcJ (n := outsL.length) (vs := [1]) (fun i H' => ∃ (ps : List Addr) (os : Outs), H' D = some (.lst (ps.map V.ref)) ∧ H' O = some (.lst (outsL.map V.str)) ∧ Paired (fun p o => H' p = some (.tup [.str o.1, .str o.2])) ps os ∧ (os.map (·.1)).Nodup ∧ (∀ o ∈ os, o.1 ∈ outsL.take i) ∧ (ps.length ≤ i ∧ os.length ≤ i) ∧ Kp a H1 H' ∧ Fd H' a)
      ⟨[], [], upd_same, by rw [upd_ne (Ne.symm nOD)]; exact eO, .nil, List.nodup_nil, fun o ho => absurd ho (by simp), ⟨Nat.zero_le _, Nat.zero_le _⟩, Kp.new hD, fdOther F1 nD⟩
      (fun i H' lt h => by obtain ⟨_, _, _, e, _⟩ := h; exact ⟨outsL.map V.str, V.str outsL[i], .inl (.inl e), by rw [List.getElem?_map, List.getElem?_eq_getElem lt]; rfl⟩)
      (fun H' h => by obtain ⟨_, _, _, e, _⟩ := h; exact ⟨outsL.map V.str, .inl (.inl e), by rw [List.length_map]; exact Nat.le_refl _⟩) (fun i H' x H2 lt h y => ?_) (fun H' h => ?_)
    · obtain ⟨rfl, y⟩ := y
      obtain ⟨ps, os, eD, eO2, pr, ndp, hm, hl, k1, F2⟩ := h
      have ex := y _ (.inl (.inl eO2))
      rw [List.getElem?_map, List.getElem?_eq_getElem lt] at ex
      obtain rfl : V.str outsL[i] = x := Option.some.inj ex
      have up : ∀ {ps : List Addr} {os : Outs} {H H' : Hp}, Stl H H' → Paired (fun p (o : Str × Str) => H p = some (.tup [.str o.1, .str o.2])) ps os → Paired (fun p (o : Str × Str) => H' p = some (.tup [.str o.1, .str o.2])) ps os := fun t h => by
        induction h with
        | nil => exact .nil
        | cons h _ ih => exact .cons (t _ _ h fun _ z => nomatch z) ih
      refine ⟨rfl, .ref a, rfl, a, 4, rfl, F2, by decide, by decide, fun r H3 r0 r1 k3 F3 => ⟨r, 0, rfl, rfl, _, rfl, ite2 (fun _ => ?_) (fun _ => ?_)⟩⟩
      · refine ⟨_, rfl, .ref a, rfl, a, rfl, F3, fun z H4 tz k4 F4 => ⟨(by show 2 ≤ sizeLine; decide), fun U hU => ?_⟩⟩
        have sU := KS.sameUpd (o := .tup [.str outsL[i], .str z]) hU
        have kA : Kp a H2 (upd H4 U (.tup [.str outsL[i], .str z])) := (k3.trans k4).trans (Kp.same sU)
        have F5 := F4.same sU
        have eU : (upd H4 U (.tup [.str outsL[i], .str z])) U = some (.tup [.str outsL[i], .str z]) := upd_same
        have tA := Stl.fd F2 kA
        generalize upd H4 U (.tup [.str outsL[i], .str z]) = H5 at *
        have eD5 := kA _ _ nD eD
        have t6 : Stl H5 (upd H5 D (.lst (ps.map V.ref ++ [.ref U]))) := Stl.lst eD5 Kp.put
        refine ⟨ps.map V.ref, eD5, by rw [sizeLine_eq, List.length_map]; have : outsL.length = 4 := rfl; omega, ps ++ [U], os ++ [(outsL[i], z)], by rw [List.map_append]; exact upd_same, by rw [upd_ne (Ne.symm nOD)]; exact kA _ _ nO eO2, ?_, ?_, fun o ho => ?_, ⟨by rw [List.length_append]; show ps.length + 1 ≤ _; omega, by rw [List.length_append]; show os.length + 1 ≤ _; omega⟩, fun b o nb hb => ?_, fdOther F5 nD⟩
        · exact (up (tA.trans t6) pr).snoc (t6 _ _ eU fun _ z => nomatch z)
        · rw [List.map_append]
          refine List.nodup_append.mpr ⟨ndp, by simp, fun u hu v hv e => ?_⟩
          obtain ⟨o, ho, rfl⟩ := List.mem_map.mp hu
          have hv2 : v = outsL[i] := List.mem_singleton.mp hv
          rw [hv2] at e
          have h1 := hm o ho
          rw [e] at h1
          exact notTake outsNd lt h1
        · rw [List.take_succ_eq_append_getElem lt]
          rcases List.mem_append.mp ho with z' | z'
          · exact List.mem_append_left _ (hm o z')
          · rw [List.mem_singleton.mp z']
            exact List.mem_append_right _ (List.mem_singleton.mpr rfl)
        · rw [upd_ne (ne_of_none hb hD)]
          exact kA _ _ nb (k1 _ _ nb hb)
      · refine ⟨ps, os, k3 _ _ nD eD, k3 _ _ nO eO2, up (Stl.fd F2 k3) pr, ndp, fun o ho => ?_, ⟨by omega, by omega⟩, k1.trans k3, F3⟩
        rw [List.take_succ_eq_append_getElem lt]
        exact List.mem_append_left _ (hm o ho)
    · obtain ⟨ps, os, eD, eO2, pr, ndp, hm, hl, k1, F2⟩ := h
      have pr2 : Paired (fun p (kv : Key × V) => SqT K H' p [kV kv.1, kv.2]) ps (os.map kvO) := by
        clear eD hm hl ndp
        induction pr with
        | nil => exact .nil
        | cons h _ ih => exact .cons (.inl (.inl h)) ih
      refine ⟨D, ps, os.map kvO, rfl, .inl (.inl eD), pr2, fun p hp => ?_⟩
      have em := mergeNd os [] ndp
      rw [List.map_nil, List.nil_append] at em
      rw [em]
      have hp0 : H p = none := kpNone hF (kO1.trans k1) F2 hp
      exact q p os _ ⟨ndp, hl.2⟩ hp0 upd_same ((kO1.trans k1).trans (Kp.new hp)) (F2.new hp)
/-- a list of drawn texts -/
theorem lcTexts {J : It} {n j : Nat} {te : TE} {σ : L2.St} {H1 : Hp} {D a : Addr} {Qd : Hp → Prop} (hF : Fd H1 a) (hD : H1 D = none) (hn : n ≤ 1000) (hw : ∀ v, wipe ((wipe σ [j]).set j (some v)) [j] = wipe σ [j])
    (hgo : ∀ i H, i < n → J.go i H) (hst : ∀ H, J.stop n H) (hy : ∀ i H x H', J.yld i H x H' → H' = H)
    (hs : ∀ x H, Fd H a → ∀ (R : VK), (∀ z H', TOk z → Kp a H H' → Fd H' a → R (.str z) H') → te ((wipe σ [j]).set j (some x)) H R)
    (hd : ∀ (as : List Str) (H : Hp), H D = some (.lst (as.map .str)) → (∀ z ∈ as, TOk z) → as.length ≤ n → Kp a H1 H → Fd H a → Qd H) :
    ∃ W : Nat → Nat → Hp → Prop, (∃ m, W 0 m (upd H1 D (.lst []))) ∧ ∀ i m H, W i m H →
      (J.stop i H ∧ Qd H) ∨ (J.go i H ∧ ∃ Nx : Hp → Prop, (∀ H', Nx H' → ∃ m', m' < m ∧ W (i + 1) m' H') ∧ ∀ x H', J.yld i H x H' → gName j x (wipe σ [j]) H' fun σ2 H2 => wipe σ2 [j] = wipe σ [j] ∧ tYes σ2 H2 fun b H3 =>
        if b = true then te σ2 H3 fun y H4 => ∃ acc, H4 D = some (.lst acc) ∧ acc.length < sizeLine ∧ Nx (upd H4 D (.lst (acc ++ [y]))) else Nx H3) := by
  have nD := fdNe hF hD
  refine lcJ (n := n) (fun i H => ∃ as : List Str, H D = some (.lst (as.map .str)) ∧ (∀ z ∈ as, TOk z) ∧ as.length = i ∧ Kp a H1 H ∧ Fd H a) ⟨[], upd_same, fun z hz => absurd hz (by simp), rfl, Kp.new hD, fdOther hF nD⟩ (fun i H lt _ => hgo i H lt) (fun H _ => hst H) (fun i H x H' lt h y => ?_) (fun H h => ?_)
  · obtain ⟨as, e, ha, hl, k1, F1⟩ := h
    have := hy i H x H' y
    subst this
    refine ⟨hw x, ?_⟩
    unfold tYes
    dsimp only
    rw [if_pos rfl]
    refine hs x _ F1 _ fun z H2 tz k2 F2 => ⟨_, k2 _ _ nD e, by rw [List.length_map, sizeLine_eq]; omega, as ++ [z], ?_, fun y hy => ?_, by rw [List.length_append, hl]; rfl, fun b o nb hb => ?_, fdOther F2 nD⟩
    · rw [List.map_append]
      exact upd_same
    · rcases List.mem_append.mp hy with h | h
      · exact ha y h
      · rw [List.mem_singleton.mp h]; exact tz
    · rw [upd_ne (ne_of_none hb hD)]
      exact k2 _ _ nb (k1 _ _ nb hb)
  · obtain ⟨as, e, ha, hl, k1, F1⟩ := h
    exact hd as H e ha (by omega) k1 F1
/-- told by what is new behind H -/
def ToN (H H' : Hp) (v : V) (t : Tg) : Prop := ∀ H2, (∀ b o, H b = none → H' b = some o → (∀ xs, o ≠ .lst xs) → H2 b = some o) → ToAt H2 v t
theorem ToN.to {H H' : Hp} {v : V} {t : Tg} (h : ToN H H' v t) : ToAt H' v t := h H' fun _ _ _ e _ => e
/-- a drawn target, as it is told -/
def spDrawn : Sp := fun vs H Q _ => ∃ f : Addr, vs = [.ref f] ∧ Fd H f ∧ ∀ r t H', ToN H H' r t → (∀ os, t = .src os → os.length ≤ 4) → Kp f H H' → Fd H' f → Q r H'
abbrev nDrawn : List Str := ["_law_feed", "_law_recipe", "_law_turn"]
theorem scDrawn : FnScope nDrawn ["_law_feed"] (defScope lDrawn) := ⟨rfl, rfl, rfl, by decide +kernel, rfl, by decide +kernel, by decide +kernel⟩
theorem okDrawn {k : Nat} (F : FnP K "_law_drawn" lDrawn f fd) (B : Bn mg) (D : Has P w K mg base (k + 1) "_law_draw" ["_law_feed", "_law_many"] spDraw) (T : Has P w K mg base (k + 3) "_law_some_text" ["_law_feed"] spText) (O : Has P w K mg base (k + 4) "_law_some_outputs" ["_law_feed"] spOutputs) : FnOk P w K mg base CX0 (k + 5) f fd ["_law_feed"] spDrawn := by
  obtain ⟨fD, fdD, gD, kD, bD, GD⟩ := D.ex
  obtain ⟨fT, fdT, gT, kT, bT, GT⟩ := T.ex
  obtain ⟨fO, fdO, gO, kO, bO, GO⟩ := O.ex
  refine F.ok scDrawn (fun vs H Q E h => ?_) (fun cdv A outer s H vs Q E hr h => ?_)
  · obtain ⟨a, rfl, _⟩ := h
    rfl
  · obtain ⟨a, rfl, hF, q⟩ := h
    have hr1 : Room (k + 1) _ := hr.mono (by omega)
    have hr3 : Room (k + 3) _ := hr.mono (by omega)
    refine ⟨_, PSs.nox (pss_cons (ps_if (pt_cmpR op_eq (pe_call GD hr1 (by rfl) gD kD bD .nil pass0 (pa_cons (pv 0) (pa_cons (pe_int) pa_nil))) pe_int (nomark _)) (pss_one (ps_ret (pe_tup (pa_cons (pe_str) (pa_cons (pe_call GO hr (by rfl) gO kO bO .nil pass0 (pa_cons (pv 0) pa_nil)) pa_nil))))) pss_nil) (C8.pss_cut (ps_set (i := 1) scDrawn.nd rfl (.inl rfl) (pe_ix ix_list (pe_lst (pa_cons (pe_call GT hr3 (by rfl) gT kT bT .nil pass0 (pa_cons (pv 0) pa_nil)) (pa_cons (pe_tup (pa_cons (pe_str) (pa_cons (pe_str) pa_nil))) (pa_cons (pe_tup (pa_cons (pe_str) (pa_cons (pe_str) pa_nil))) pa_nil)))) (pe_call GD hr1 (by rfl) gD kD bD .nil pass0 (pa_cons (pv 0) (pa_cons (pe_int) pa_nil))) (fun _ _ => rfl))) (pss_one (ps_ret (pe_tup (pa_cons (pe_str) (pa_cons (pv 1) (pa_cons (pe_callTy (T := "tuple") call_tuple_of (by rfl) B.tuple (by decide +kernel) (pa_cons (pe_lc (own := [("_law_turn", 2)]) (g := gName 2) rfl scDrawn.nd (pi_range1 (by rfl) B.range (pa_cons (pe_call GD hr1 (by rfl) gD kD bD .nil pass0 (pa_cons (pv 0) (pa_cons (pe_int) pa_nil))) pa_nil)) (blkOk_by (N := nDrawn) (sc := defScope lDrawn) (by decide +kernel))
        (fun _ _ _ _ _ => pg_name (i := 2) scDrawn.nd rfl (.inl rfl) (hf := .inr rfl)) (fun _ _ _ _ _ => pts_nil) (fun _ _ _ _ _ => pe_call GT hr3 (by rfl) gT kT bT .nil pass0 (pa_cons (pv 0) pa_nil))) pa_nil)) pa_nil)))))))), ?_⟩
    refine ⟨.ref a, rfl, a, 2, rfl, hF, by decide, by decide, fun r H1 r0 r1 k1 F1 => ⟨rfl, _, rfl, ite2 (fun e => ?_) (fun e => ?_)⟩⟩
    · refine ⟨.ref a, rfl, a, rfl, F1, fun p os H2 ho np ep k2 F2 => ⟨(by show 2 ≤ sizeLine; decide), fun U hU => ?_⟩⟩
      have nU : H U = none := kpNone hF (k1.trans k2) F2 hU
      have np2 : H p = none := kpNone hF k1 F1 np
      refine q _ (.src os) _ (fun H2' g => ⟨U, p, rfl, g _ _ nU upd_same (fun _ z => nomatch z), g _ _ np2 (KS.sameUpd hU _ _ ep) (fun _ z => nomatch z), ho.1, by have := ho.2; omega⟩) (fun os' e => by cases e; exact ho.2) ((k1.trans k2).trans (Kp.new hU)) (F2.new hU)
    refine ⟨fun σ' H' => ∃ v r, σ' = [some (.ref a), some v, none] ∧ (∀ H2, (∀ b o, H b = none → H' b = some o → (∀ xs, o ≠ .lst xs) → H2 b = some o) → RcIn H2 v r) ∧ Kp a H H' ∧ Fd H' a, ?_, ?_⟩
    · refine ⟨.ref a, rfl, a, rfl, F1, fun z H2 tz k2 F2 => ⟨(by show 2 ≤ sizeLine; decide), fun U hU => ⟨(by show 2 ≤ sizeLine; decide), fun U2 hU2 => ⟨(by show 3 ≤ sizeLine; decide), fun L hL => ?_⟩⟩⟩⟩
      have s1 := KS.sameUpd (o := .tup [.str "a", .str "o"]) hU
      have s2 := KS.sameUpd (o := .tup [.str "b", .str "out"]) hU2
      have s3 := KS.sameUpd (o := .lst [.str z, .ref U, .ref U2]) hL
      have F5 := F2.same (s1.trans (s2.trans s3))
      have e1 := s3 _ _ (s2 _ _ (upd_same (H := H2) (a := U) (o := .tup [.str "a", .str "o"])))
      have e2 := s3 _ _ (upd_same (H := upd H2 U (.tup [.str "a", .str "o"])) (a := U2) (o := .tup [.str "b", .str "out"]))
      have e3 : upd (upd (upd H2 U (.tup [.str "a", .str "o"])) U2 (.tup [.str "b", .str "out"])) L (.lst [.str z, .ref U, .ref U2]) L = some (.lst [.str z, .ref U, .ref U2]) := upd_same
      have kk : Kp a H _ := (k1.trans k2).trans (Kp.same (s1.trans (s2.trans s3)))
      have nL := fdNe (F2.same (s1.trans s2)) hL
      generalize upd (upd (upd H2 U (.tup [.str "a", .str "o"])) U2 (.tup [.str "b", .str "out"])) L (.lst [.str z, .ref U, .ref U2]) = H5 at *
      refine ⟨.ref a, rfl, a, 3, rfl, F5, by decide, by decide, fun r6 H6 r60 r61 k6 F6 => ?_⟩
      have st := Stl.fd F5 k6
      have nU : H U = none := kpNone hF (k1.trans k2) F2 hU
      have nU2 : H U2 = none := kpNone hF ((k1.trans k2).trans (Kp.same s1)) (F2.same s1) hU2
      obtain ⟨v, r, ev, hv⟩ : ∃ v r, atI [V.str z, .ref U, .ref U2] r6 = some v ∧ ∀ H2, (∀ b o, H b = none → H6 b = some o → (∀ xs, o ≠ .lst xs) → H2 b = some o) → RcIn H2 v r := by
        have hc : r6 = 0 ∨ r6 = 1 ∨ r6 = 2 := by omega
        rcases hc with h | h | h <;> rw [h]
        · exact ⟨_, .txt z, rfl, fun _ _ => ⟨rfl, tz⟩⟩
        · exact ⟨_, .key "a" "o", rfl, fun _ g => ⟨⟨U, rfl, g _ _ nU (st _ _ e1 fun _ z => nomatch z) fun _ z => nomatch z⟩, by decide +kernel, by decide +kernel⟩⟩
        · exact ⟨_, .key "b" "out", rfl, fun _ g => ⟨⟨U2, rfl, g _ _ nU2 (st _ _ e2 fun _ z => nomatch z) fun _ z => nomatch z⟩, by decide +kernel, by decide +kernel⟩⟩
      exact ⟨L, _, _, v, rfl, rfl, .inl (.inl (k6 _ _ nL e3)), ev, v, r, rfl, hv, kk.trans k6, F6⟩
    rintro _ H2 ⟨v, r, rfl, hv, k2, F2⟩
    refine ⟨v, rfl, .ref a, rfl, a, 3, rfl, F2, by decide, by decide, fun m H3 m0 m1 k3 F3 => ⟨m, rfl, by omega, by omega, fun D hD => ?_⟩⟩
    refine lcTexts (n := m.toNat) (a := a) F3 hD (by omega) (fun v => rfl) (fun i H' lt => ?_) (fun H' => ?_) (fun i H' x H'' y => y.1) (fun x H' F' R hR => ⟨.ref a, rfl, a, rfl, F', hR⟩) (fun as H4 e4 ha hl k4 F4 => ?_)
    · exact lt
    · exact Nat.le_refl _
    refine ⟨D, as.map .str, rfl, .inl ⟨.inl (.inl e4), fun U hU => ⟨(by show 3 ≤ sizeLine; decide), fun U2 hU2 => ?_⟩⟩⟩
    have s1 := KS.sameUpd (o := .tup (as.map .str)) hU
    have s2 := KS.sameUpd (o := .tup [.str "made", v, .ref U]) hU2
    have kA : Kp a H _ := ((k2.trans (k3.trans k4)).trans (Kp.same s1)).trans (Kp.same s2)
    have kB := k2.trans (k3.trans k4)
    have nU : H U = none := kpNone hF kB F4 hU
    have nU2 : H U2 = none := kpNone hF (kB.trans (Kp.same s1)) (F4.same s1) hU2
    have stA := (Stl.fd F2 (k3.trans k4)).trans (Stl.same (s1.trans s2))
    refine q _ (.mad r as) _ (fun H5 g => ⟨U2, v, .ref U, rfl, g _ _ nU2 upd_same (fun _ z => nomatch z), hv H5 (fun b o nb hb hx => g _ _ nb (stA _ _ hb hx) hx), U, rfl, g _ _ nU (s2 _ _ upd_same) (fun _ z => nomatch z), by omega, ha⟩) (fun os e => by cases e) kA (F4.same (s1.trans s2))
end
end PJ

set_option Elab.async false
set_option linter.all false
set_option maxRecDepth 100000
set_option maxHeartbeats 8000000
/-! the law's own targets made to the program's -/
namespace PJ
open PySem PySem.Spec PyProof.Rows L2 KS KS.La
open KX hiding sameUpd
/-- the law's own table -/
def KtAt (H : Hp) (d : Addr) (T : Tb) : Prop := ∃ kvs, H d = some (.dK kvs) ∧ Tab (ToAt H) kvs T
theorem KtAt.stl {H H' : Hp} {d : Addr} {T : Tb} (h : KtAt H d T) (s : Stl H H') : KtAt H' d T := let ⟨kvs, a, b⟩ := h; ⟨kvs, s _ _ a (fun _ z => nomatch z), b.to s⟩
theorem ToAt.rf {H : Hp} {v : V} {t : Tg} (h : ToAt H v t) : ∃ x, v = .ref x := by
  cases t with
  | src os => obtain ⟨x, _, e, _⟩ := h; exact ⟨x, e⟩
  | mad r as => obtain ⟨x, _, _, e, _⟩ := h; exact ⟨x, e⟩
theorem TgAt.rf {CS CM : Addr} {H : Hp} {v : V} {t : Tg} (h : TgAt CS CM H v t) : ∃ x, v = .ref x := by
  cases t with
  | src os => obtain ⟨x, _, _, e, _⟩ := h; exact ⟨x, e⟩
  | mad r as => obtain ⟨x, _, _, _, e, _⟩ := h; exact ⟨x, e⟩
/-- seen while the table is locked, and behind it -/
theorem toLock {H H' : Hp} {d : Addr} {kvs : List (Key × V)} {k1 : Key} {x1 : Addr} (hd : H d = some (.dK kvs)) (m1 : (k1, V.ref x1) ∈ kvs) (e : ∀ c o, c ≠ d → H c = some o → H' c = some o) {v : V} {t : Tg} (h : ToAt H v t) : ToAt H' v t := by
  have ne : ∀ {c o}, H c = some o → (∀ ks, o ≠ .dK ks) → H' c = some o := fun {c o} hc hn => e c o (fun z => by rw [z, hd] at hc; exact hn _ (Option.some.inj hc).symm) hc
  have nd : ∀ {c os}, H c = some (.dK (oK os)) → H' c = some (.dK (oK os)) := fun {c os} hc => e c _ (fun z => by
    rw [z, hd] at hc
    have : kvs = oK os := by
      have := Option.some.inj hc
      injection this
    rw [this] at m1
    obtain ⟨z, ez⟩ := oK_str _ m1
    cases ez) hc
  cases t with
  | src os =>
    obtain ⟨x, d', rfl, hx, ho, r⟩ := h
    exact ⟨x, d', rfl, ne hx (fun _ z => nomatch z), nd ho, r⟩
  | mad r as =>
    obtain ⟨x, vr, va, rfl, hx, hr, ⟨u, e1, hu, g⟩⟩ := h
    refine ⟨x, vr, va, rfl, ne hx (fun _ z => nomatch z), ?_, ⟨u, e1, ne hu (fun _ z => nomatch z), g⟩⟩
    cases r with
    | txt z => exact hr
    | key a b => exact ⟨let ⟨t, e, h⟩ := hr.1; ⟨t, e, ne h (fun _ z => nomatch z)⟩, hr.2⟩
theorem tgFree {CS CM : Addr} {H H' : Hp} {d : Addr} {p : Obj} {u : HO} (hd : H d = some (.frz p u)) (e : ∀ c o, c ≠ d → H c = some o → H' c = some o) {v : V} {t : Tg} (h : TgAt CS CM H v t) : TgAt CS CM H' v t := by
  have ne : ∀ {c o}, H c = some o → (∀ q u, o ≠ .frz q u) → H' c = some o := fun {c o} hc hn => e c o (fun z => by rw [z, hd] at hc; exact hn _ _ (Option.some.inj hc).symm) hc
  cases t with
  | src os =>
    obtain ⟨x, dx, d', rfl, hx, ho, r⟩ := h
    exact ⟨x, dx, d', rfl, ne hx (fun _ _ z => nomatch z), ne ho (fun _ _ z => nomatch z), r⟩
  | mad r as =>
    obtain ⟨x, dx, vr, va, rfl, hx, hr, ⟨u, e1, hu, g⟩⟩ := h
    refine ⟨x, dx, vr, va, rfl, ne hx (fun _ _ z => nomatch z), ?_, ⟨u, e1, ne hu (fun _ _ z => nomatch z), g⟩⟩
    cases r with
    | txt z => exact hr
    | key a b => exact ⟨let ⟨t, e, h⟩ := hr.1; ⟨t, e, ne h (fun _ _ z => nomatch z)⟩, hr.2⟩
theorem mergeApp : ∀ (l acc : List (Key × V)), ((acc ++ l).map (·.1)).Nodup → mergeK acc l = acc ++ l
  | [], acc, _ => by rw [List.append_nil]; rfl
  | o :: l, acc, h => by
    have e : putK acc o.1 o.2 = acc ++ [o] := by
      rw [putK_new]
      cases hv : valV acc o.1 with
      | none => rfl
      | some v =>
        have h1 := valMem2 hv
        rw [List.map_append, List.map_cons] at h
        exact absurd rfl ((List.nodup_append.mp h).2.2 _ (List.mem_map_of_mem (f := (·.1)) h1) _ List.mem_cons_self)
    show mergeK (putK acc o.1 o.2) l = _
    rw [e, mergeApp l (acc ++ [o]) (by rw [List.append_assoc]; exact h), List.append_assoc]
    rfl
section
variable {P : Program} {w : World} {K : PySem.W.Frag} {mg : Str → Option Value} {base : Heap} {f : Addr} {fd : FuncData} {CS CM CP NT NS : Addr}
/-- how made targets are made -/
structure Mdc (P : Program) (w : World) (K : PySem.W.Frag) (mg : Str → Option Value) (base : Heap) (CM : Addr) (e : Addr) : Prop where
  mak : ∃ (f : Addr) (fd : FuncData), Mk K CM f ∧ Binds K fd ["self", "recipe", "arguments"] [.ref e] ∧ Binds K fd ["self", "recipe", "arguments"] [] ∧ FnOk P w K mg base CX0 1 f fd ["self", "recipe", "arguments"] (spMInit K CM)
  em : ∀ H, SqT K H e []
theorem madMade {H : Hp} {x dx t : Addr} {vr : V} {r : Rc} {as : List Str} {R : Hp → Prop} {E : XK} (hx : H x = none) (hdx : H dx = none) (ne : dx ≠ x) (hr : RcIn H vr r) (ha : AsIn H (.ref t) as) (q : ∀ H', Same H H' → TgAt CS CM H' (.ref x) (.mad r as) → R H') :
    spMInit K CM [.ref x, vr, .ref t] (upd (upd H dx (.own x)) x (.ins CM dx [])) (fun v H2 => v = .non ∧ R H2) E := by
  have s1 : Same H (upd (upd H dx (.own x)) x (.ins CM dx [])) := fun b o hb => by
    rw [upd_ne (ne_of_none hb hx), upd_ne (ne_of_none hb hdx)]
    exact hb
  obtain ⟨t', et, ht, hl⟩ := id ha
  cases et
  refine ⟨x, dx, vr, t, as.map .str, rfl, upd_same, .inl ⟨.inl (.inl (s1 _ _ ht)), fun H' k h1 => ⟨rfl, ?_⟩⟩⟩
  have sH : Same H H' := fun b o hb => k _ _ (ne_of_none hb hx) (s1 _ _ hb)
  exact q H' sH ⟨x, dx, vr, .ref t, rfl, h1, hr.stl (Stl.same sH), ha.stl (Stl.same sH)⟩
theorem wSS : decide (V.str "source" = V.str "source") = true := decide_eq_true rfl
theorem wMS : decide (V.str "made" = V.str "source") = false := by decide +kernel
def spOne (CS CM : Addr) : Sp := fun vs H Q _ => ∃ v t, vs = [v] ∧ ToAt H v t ∧ ∀ r H', Same H H' → TgAt CS CM H' r t → Q r H'
theorem scOne : FnScope ["_law_told"] ["_law_told"] (defScope lOne) := ⟨rfl, rfl, rfl, by decide +kernel, rfl, by decide +kernel, by decide +kernel⟩
theorem okOne {k : Nat} {e : Addr} (W : Pjc P w K mg base CS CM CP NT NS) (M : Mdc P w K mg base CM e) (F : FnP K "_law_one_target" lOne f fd) : FnOk P w K mg base CX0 (k + 3) f fd ["_law_told"] (spOne CS CM) := by
  obtain ⟨fI, dI, MI, bI, GI⟩ := W.mkS
  obtain ⟨fJ, dJ, MJ, _, bJ, GJ⟩ := M.mak
  refine F.ok scOne (fun vs H Q E h => ?_) (fun cdv A outer s H vs Q E hr h => ?_)
  · obtain ⟨v, t, rfl, _⟩ := h
    rfl
  · obtain ⟨v, t, rfl, hv, q⟩ := h
    have hr2 : Room (1 + 1) _ := hr.mono (by omega)
    refine ⟨_, PSs.nox (pss_one (ps_ret (pe_ifExp (pt_cmpR op_eq (pe_ix ix_tup (pv 0) pe_int (fun _ _ => rfl)) pe_str (nomark _)) (pe_make MI GI hr2 (by rfl) W.gS bI .nil pass0 (pa_cons (pe_ix ix_tup (pv 0) pe_int (fun _ _ => rfl)) pa_nil))
      (pe_make MJ GJ hr2 (by rfl) W.gM bJ .nil pass0 (pa_cons (pe_ix ix_tup (pv 0) pe_int (fun _ _ => rfl)) (pa_cons (pe_ix ix_tup (pv 0) pe_int (fun _ _ => rfl)) pa_nil)))))), ?_⟩
    cases t with
    | src os =>
      obtain ⟨t, d, rfl, ht, ho⟩ := hv
      refine ⟨.ref t, rfl, t, _, 0, .str "source", rfl, rfl, .inl (.inl ht), rfl, rfl, _, rfl, ?_⟩
      rw [wSS]
      refine iteT ⟨.ref t, rfl, t, _, 1, .ref d, rfl, rfl, .inl (.inl ht), rfl, fun x dx hx hdx nex => ?_⟩
      exact srcMade (CM := CM) hx hdx nex ho fun H' s2 h => q _ H' s2 h
    | mad r as =>
      obtain ⟨t, vr, va, rfl, ht, hr', ha⟩ := hv
      obtain ⟨u, rfl, _⟩ := id ha
      refine ⟨.ref t, rfl, t, _, 0, .str "made", rfl, rfl, .inl (.inl ht), rfl, rfl, _, rfl, ?_⟩
      rw [wMS]
      refine iteF ⟨.ref t, rfl, t, _, 1, vr, rfl, rfl, .inl (.inl ht), rfl, .ref t, rfl, t, _, 2, .ref u, rfl, rfl, .inl (.inl ht), rfl, fun x dx hx hdx nex => ?_⟩
      exact madMade hx hdx nex hr' ha fun H' s2 h => q _ H' s2 h
def spWhole (CS CM CP : Addr) : Sp := fun vs H Q _ => ∃ d T, vs = [.ref d] ∧ KtAt H d T ∧ (T.map (·.1)).Nodup ∧ T.length ≤ 100 ∧ ∀ p H', Same H H' → PjAt CS CM CP H' p T → Q (.ref p) H'
abbrev nWhole : List Str := ["_law_targets", "_law_name"]
theorem scWhole : FnScope nWhole ["_law_targets"] (defScope lWhole) := ⟨rfl, rfl, rfl, by decide +kernel, rfl, by decide +kernel, by decide +kernel⟩
theorem okWhole {k : Nat} (W : Pjc P w K mg base CS CM CP NT NS) (O : Has P w K mg base 3 "_law_one_target" ["_law_told"] (spOne CS CM)) (F : FnP K "_law_whole_project" lWhole f fd) : FnOk P w K mg base CX0 (k + 4) f fd ["_law_targets"] (spWhole CS CM CP) := by
  obtain ⟨fI, dI, MI, bI, GI⟩ := W.mkP
  obtain ⟨fO, fdO, gO, kO, bO, GO⟩ := O.ex
  refine F.ok scWhole (fun vs H Q E h => ?_) (fun cdv A outer s H vs Q E hr h => ?_)
  · obtain ⟨d, T, rfl, _⟩ := h
    rfl
  · obtain ⟨d, T, rfl, ⟨kvs, hd, tT⟩, nd, lT, q⟩ := h
    have hr2 : Room (1 + 1) _ := hr.mono (by omega)
    have hr3 : Room 3 _ := hr.mono (by omega)
    have hu1 : (A.deeper (envOfC "_law_whole_project" (defScope lWhole) s.heap.objs.size f cdv)).units + 1 < cLine := by
      have := hr.units
      omega
    refine ⟨_, PSs.nox (pss_one (ps_ret (pe_make MI GI hr2 (by rfl) W.gP bI .nil pass0 (pa_cons (pe_callTy (T := "dict") (call_dictP rfl) (by rfl) W.md (by decide +kernel) (pa_cons (pe_lock (pe_lc (own := [("_law_name", 1)]) (g := gName 1) rfl scWhole.nd (pi_keys (pv 0)) (blkOk_by (N := nWhole) (sc := defScope lWhole) (by decide +kernel))
        (fun _ _ _ _ _ => pg_name (i := 1) scWhole.nd rfl (.inl rfl) (hf := .inr rfl)) (fun _ _ _ _ _ => pts_nil) (fun _ _ _ _ _ => pe_tup (pa_cons (pv 1) (pa_cons (pe_call GO hr3 (by rfl) gO kO bO .nil pass0 (pa_cons (pe_dget hu1 (pv 0) (pv 1) (fun _ _ => rfl)) pa_nil)) pa_nil))))) pa_nil)) pa_nil)))), ?_⟩
    refine ⟨d, .dK kvs, hd, True.intro, fun od => ?_⟩
    have ed : upd H d (.frz od (.dK kvs)) d = some (.frz od (.dK kvs)) := upd_same
    have eo : ∀ c o, c ≠ d → H c = some o → upd H d (.frz od (.dK kvs)) c = some o := fun c o n h => by rw [upd_ne n]; exact h
    have back : ∀ c o, c ≠ d → upd H d (.frz od (.dK kvs)) c = some o → H c = some o := fun c o n h => by rw [upd_ne n] at h; exact h
    generalize upd H d (.frz od (.dK kvs)) = H1 at *
    refine ⟨.ref d, rfl, d, od, rfl, .inl ⟨kvs, ed, fun D hD => ?_⟩⟩
    have nDd : D ≠ d := fun z => by rw [z, ed] at hD; cases hD
    have lk := tT.len
    have ndk := tT.nd nd
    refine lcJ (n := kvs.length) (vs := [1]) (fun i H2 => ∃ (ps : List Addr) (ks : List (Key × V)), H2 D = some (.lst (ps.map V.ref)) ∧ Paired (fun p (kv : Key × V) => H2 p = some (.tup [kV kv.1, kv.2])) ps ks ∧ Tab (TgAt CS CM H2) ks (T.take i) ∧ ks.length = i ∧ ps.length = i ∧ ∀ b o, H1 b = some o → H2 b = some o)
      ⟨[], [], upd_same, .nil, .nil, rfl, rfl, KS.sameUpd hD⟩ (fun i H2 lt h => by obtain ⟨_, _, _, _, _, _, _, s⟩ := h; exact ⟨s _ _ ed, lt⟩) (fun H2 h => by obtain ⟨_, _, _, _, _, _, _, s⟩ := h; exact ⟨s _ _ ed, Nat.le_refl _⟩) (fun i H2 x H3 lt h y => ?_) (fun H2 h => ?_)
    · obtain ⟨rfl, k, v, ek, rfl⟩ := y
      obtain ⟨ps, ks, eD, pr, tb, l1, l2, s1⟩ := h
      have hm : (k, v) ∈ kvs := List.mem_of_getElem? ek
      obtain ⟨z, t, rfl, mt, ht⟩ := tT.mem k v hm
      have et : T[i]? = some (z, t) := by
        have lt2 : i < T.length := by omega
        have e1 : (kvs.map (·.1))[i]? = some (Sum.inr z) := by rw [List.getElem?_map, ek]; rfl
        rw [tT.keys, List.getElem?_map, List.getElem?_map, List.getElem?_eq_getElem lt2] at e1
        have e2 : T[i].1 = z := Sum.inr.inj (Option.some.inj e1)
        have e3 : tLook T z = some T[i].2 := tMem nd (by rw [← e2]; exact List.getElem_mem lt2)
        have e4 := tMem nd mt
        rw [e3] at e4
        rw [List.getElem?_eq_getElem lt2, ← e2, ← Option.some.inj e4]
      have hv : valV kvs (.inr z) = some v := valMem ndk hm
      obtain ⟨x1, ex1⟩ := ht.rf
      have ht1 : ToAt H3 v t := toLock hd (ex1 ▸ hm) (fun c o n h => s1 _ _ (eo c o n h)) ht
      refine ⟨rfl, ?_⟩
      unfold tYes
      dsimp only
      rw [if_pos rfl]
      refine ⟨.str z, rfl, .ref d, rfl, .str z, rfl, d, v, rfl, .inl ⟨kvs, .inr z, .inr ⟨od, s1 _ _ ed⟩, rfl, hv.symm⟩, v, t, rfl, ht1, fun r H4 s4 hr4 => ⟨(by show 2 ≤ sizeLine; decide), fun U hU => ?_⟩⟩
      have sU := KS.sameUpd (o := .tup [.str z, r]) hU
      have eU : upd H4 U (.tup [.str z, r]) U = some (.tup [.str z, r]) := upd_same
      have sA := s4.trans sU
      have hr5 := hr4.stl (Stl.same sU)
      generalize upd H4 U (.tup [.str z, r]) = H5 at *
      have eD5 := sA _ _ eD
      have t6 : Stl H5 (upd H5 D (.lst (ps.map V.ref ++ [.ref U]))) := Stl.lst eD5 Kp.put
      have tA : Stl H3 _ := (Stl.same sA).trans t6
      have up : ∀ {ps : List Addr} {ks : List (Key × V)} {H H' : Hp}, Stl H H' → Paired (fun p (o : Key × V) => H p = some (.tup [kV o.1, o.2])) ps ks → Paired (fun p (o : Key × V) => H' p = some (.tup [kV o.1, o.2])) ps ks := fun t h => by
        induction h with
        | nil => exact .nil
        | cons h _ ih => exact .cons (t _ _ h fun _ z => nomatch z) ih
      refine ⟨ps.map V.ref, eD5, by rw [sizeLine_eq, List.length_map]; omega, ps ++ [U], ks ++ [(.inr z, r)], by rw [List.map_append]; exact upd_same, (up tA pr).snoc (t6 _ _ (show H5 U = some (.tup [kV (Sum.inr z : Key), r]) from eU) fun _ z => nomatch z), ?_, by rw [List.length_append, l1]; rfl, by rw [List.length_append, l2]; rfl, fun b o hb => ?_⟩
      · rw [List.take_succ, et]
        exact Tab.append (tb.tg tA) (hr5.stl t6)
      · rw [upd_ne (ne_of_none hb hD)]
        exact sA _ _ (s1 _ _ hb)
    · obtain ⟨ps, ks, eD, pr, tb, l1, l2, s1⟩ := h
      rw [lk, List.take_length] at tb
      refine ⟨s1 _ _ ed, ?_⟩
      have eo2 : ∀ c o, c ≠ d → H2 c = some o → upd H2 d (.dK kvs) c = some o := fun c o n h => by rw [upd_ne n]; exact h
      have pr2 : Paired (fun p (kv : Key × V) => SqT K (upd H2 d (.dK kvs)) p [kV kv.1, kv.2]) ps ks := by
        clear eD l1 l2 tb
        induction pr with
        | nil => exact .nil
        | cons h _ ih => exact .cons (.inl (.inl (eo2 _ _ (fun z => by rw [z, s1 _ _ ed] at h; cases h) h))) ih
      have tb2 : Tab (TgAt CS CM (upd H2 d (.dK kvs))) ks T := tb.imp fun _ _ _ _ _ h => tgFree (s1 _ _ ed) eo2 h
      have sA : Same H (upd H2 d (.dK kvs)) := fun b x hb => by
        by_cases e : b = d
        · subst e
          rw [upd_same, ← hb, hd]
        · exact eo2 _ _ e (s1 _ _ (eo _ _ e hb))
      have eD2 := eo2 _ _ nDd eD
      generalize upd H2 d (.dK kvs) = H3 at *
      refine ⟨D, ps, ks, rfl, .inl (.inl eD2), pr2, fun u hu => ?_⟩
      have em := mergeApp ks [] (by rw [List.nil_append]; exact tb2.nd nd)
      rw [List.nil_append] at em
      rw [em]
      have su := KS.sameUpd (o := .dK ks) hu
      refine fun x dx hx hdx nex => ?_
      exact pjMade hx hdx nex upd_same (tb2.tg (Stl.same su)) fun H' s2 h => q x H' (sA.trans (su.trans s2)) h
end
end PJ

set_option Elab.async false
set_option linter.all false
set_option maxRecDepth 100000
set_option maxHeartbeats 8000000
/-! the law's own changes -/
namespace PJ
open PySem PySem.Spec PyProof.Rows L2 KS KS.La
open KX hiding sameUpd
abbrev lChanged : Stmt := top 21
inductive Dd where
  | put (t : Tg)
  | wout
  | wr (o y : Str)
  | er (o : Str)
/-- what a change comes to -/
def dRes (T : Tb) (z : Str) : Dd → Sum Tb Str
  | .put t => .inl (tPut T z t)
  | .wout => match tLook T z with
    | none => .inr "no target"
    | some _ => .inl (tDrop T z)
  | .wr o y => match tLook T z with
    | some (.mad _ _) => .inr "no source"
    | _ => .inl (tPut T z (.src (oPut (wrOs T z) o y)))
  | .er o => match tLook T z with
    | none => .inr "no target"
    | some (.mad _ _) => .inr "no source"
    | some (.src os) => .inl (tPut T z (.src (oDrop os o)))
/-- how a change is told -/
def DdAt (H : Hp) (vd vt : V) : Dd → Prop
  | .put t => vd = .str "put" ∧ ToAt H vt t
  | .wout => vd = .str "without" ∧ ∃ u o y, vt = .ref u ∧ H u = some (.tup [.str o, .str y])
  | .wr o y => vd = .str "write" ∧ ∃ u, vt = .ref u ∧ H u = some (.tup [.str o, .str y])
  | .er o => vd = .str "erase" ∧ ∃ u y, vt = .ref u ∧ H u = some (.tup [.str o, .str y])
theorem wE (z : Str) : decide (V.str z = V.str z) = true := decide_eq_true rfl
theorem w1 : decide (V.str "without" = V.str "put") = false := by decide +kernel
theorem w2 : decide (V.str "write" = V.str "put") = false := by decide +kernel
theorem w3 : decide (V.str "erase" = V.str "put") = false := by decide +kernel
theorem w4 : decide (V.str "without" = V.str "write") = false := by decide +kernel
theorem w5 : decide (V.str "erase" = V.str "write") = false := by decide +kernel
theorem w6 : decide (V.str "write" = V.str "without") = false := by decide +kernel
theorem w7 : decide (V.str "erase" = V.str "without") = false := by decide +kernel
theorem w8 : decide (V.str "source" = V.str "made") = false := by decide +kernel
theorem nNon : decide (V.non = V.non) = true := decide_eq_true rfl
theorem nRef (x : Addr) : decide (V.ref x = V.non) = false := decide_eq_false fun z => nomatch z
section
variable {P : Program} {w : World} {K : PySem.W.Frag} {mg : Str → Option Value} {base : Heap} {f : Addr} {fd : FuncData} {CS CM CP NT NS : Addr}
def spChanged : Sp := fun vs H Q _ => ∃ d z vd vt T D, vs = [.ref d, .str z, vd, vt] ∧ KtAt H d T ∧ T.length ≤ 100 ∧ (wrOs T z).length ≤ 50 ∧ DdAt H vd vt D ∧
  (∀ T', dRes T z D = .inl T' → ∀ d' H', Same H H' → KtAt H' d' T' → Q (.ref d') H') ∧ (∀ m, dRes T z D = .inr m → ∀ H', Same H H' → Q (.str m) H')
abbrev nCh : List Str := ["_law_targets", "_law_name", "_law_deed", "_law_told", "_law_after", "_law_old", "_law_outputs"]
theorem scCh : FnScope nCh ["_law_targets", "_law_name", "_law_deed", "_law_told"] (defScope lChanged) := ⟨rfl, rfl, rfl, by decide +kernel, rfl, by decide +kernel, by decide +kernel⟩
theorem okChanged {k : Nat} (md : mg "dict" = none) (F : FnP K "_law_changed" lChanged f fd) : FnOk P w K mg base CX0 (k + 1) f fd ["_law_targets", "_law_name", "_law_deed", "_law_told"] spChanged := by
  refine F.ok scCh (fun vs H Q E h => ?_) (fun cdv A outer s H vs Q E hr h => ?_)
  · obtain ⟨d, z, vd, vt, T, D, rfl, _⟩ := h
    rfl
  · obtain ⟨d, z, vd, vt, T, D, rfl, ⟨kvs, hd, tT⟩, lT, lo, hD, q1, q2⟩ := h
    have hu1 : (A.deeper (envOfC "_law_changed" (defScope lChanged) s.heap.objs.size f cdv)).units + 1 < cLine := by
      have := hr.units
      omega
    refine ⟨_, PSs.nox (C8.pss_cut (ps_par (i := 4) (j := 5) (by rfl) scCh.nd rfl rfl (by decide) rfl rfl (pa_cons (pe_callTy call_dictD (by rfl) md (by decide +kernel) (pa_cons (pv 0) pa_nil)) (pa_cons (pe_dget1 hu1 (pv 0) (pv 1) ⟨rfl, rfl, rfl, rfl⟩) pa_nil)) (by rfl)) (C8.pss_cut (ps_if (pt_cmpR op_eq (pv 2) pe_str (nomark _)) (pss_cons (ps_dput hu1 (pv 4) (pv 1) (pv 3) rfl) (pss_one (ps_ret (pv 4)))) pss_nil) (C8.pss_cut (ps_if (PW.pt (pw_and (pt_cmp (pc_isN (pv 5))) (pw_and1 (pt_cmpR op_ne (pv 2) pe_str (nomark _))))) (pss_one (ps_ret pe_str)) pss_nil) (C8.pss_cut (ps_if (pt_cmpR op_eq (pv 2) pe_str (nomark _)) (pss_cons (ps_expr (pe_dpop1 (pv 4) (pv 1) ⟨rfl, rfl, rfl, rfl⟩)) (pss_one (ps_ret (pv 4)))) pss_nil) (C8.pss_cut (ps_if (PW.pt (pw_and (pt_cmp (pc_notN (pv 5))) (pw_and1 (pt_cmpR op_eq (pe_ix ix_tup (pv 5) pe_int (fun _ _ => rfl)) pe_str (nomark _))))) (pss_one (ps_ret pe_str)) pss_nil) (C8.pss_cut (ps_set (i := 6) scCh.nd rfl (.inl rfl) (pe_ifExp (pt_cmp (pc_notN (pv 5))) (pe_callTy call_dictD (by rfl) md (by decide +kernel) (pa_cons (pe_ix ix_tup (pv 5) pe_int (fun _ _ => rfl)) pa_nil)) pe_dnewK)) (C8.pss_cut (ps_if (pt_cmpR op_eq (pv 2) pe_str (nomark _)) (pss_one (ps_dput hu1 (pv 6) (pe_ix ix_tup (pv 3) pe_int (fun _ _ => rfl)) (pe_ix ix_tup (pv 3) pe_int (fun _ _ => rfl)) rfl))
        (pss_one (ps_expr (pe_dpop2 (pv 6) (pe_ix ix_tup (pv 3) pe_int (fun _ _ => rfl)) pe_non ⟨rfl, rfl, rfl, rfl⟩)))) (pss_cons (ps_dput hu1 (pv 4) (pv 1) (pe_tup (pa_cons (pe_str) (pa_cons (pv 6) pa_nil))) rfl) (pss_one (ps_ret (pv 4))))))))))), ?_⟩
    have lk := tT.len
    refine ⟨fun σ' H' => ∃ a v, σ' = [some (.ref d), some (.str z), some vd, some vt, some (.ref a), some v, none] ∧ H a = none ∧ H' a = some (.dK kvs) ∧ Same H H' ∧ ((tLook T z = none ∧ v = .non) ∨ ∃ t, tLook T z = some t ∧ ToAt H v t), ?_, ?_⟩
    · refine ⟨.ref d, rfl, d, kvs, rfl, hd, fun a ha => ?_⟩
      have s1 := KS.sameUpd (o := .dK kvs) ha
      refine ⟨.ref d, rfl, d, rfl, .inl ⟨kvs, .inl (s1 _ _ hd)⟩, .str z, rfl, _, DGet.k (k := Sum.inr z) (s1 _ _ hd), .ref a, _, rfl, ?_⟩
      refine ⟨a, _, rfl, ha, upd_same, s1, ?_⟩
      rcases tT.look z with ⟨e, e2⟩ | ⟨v, t, e, e2, ht⟩
      · rw [e]
        exact .inl ⟨e2, rfl⟩
      · rw [e]
        exact .inr ⟨t, e2, ht⟩
    rintro _ H1 ⟨a, old, rfl, ha, ea, s1, hold⟩
    -- a thing put
    have fin : ∀ (H2 : Hp) (v : V) (t : Tg), Same H H2 → H2 a = some (.dK kvs) → ToAt (upd H2 a (.dK (putK kvs (.inr z) v))) v t → dRes T z D = .inl (tPut T z t) → ∃ a' H4, V.ref a = .ref a' ∧ DPut H2 a' (.str z) v H4 ∧ ∃ r, (some (some (V.ref a)) : Option (Option V)) = some (some r) ∧ Q r H4 := fun H2 v t s2 ea2 hv er => by
      refine ⟨a, _, rfl, DPut.k (k := Sum.inr z) ea2 (by rw [sizeLine_eq]; omega), .ref a, rfl, ?_⟩
      have sA : Same H (upd H2 a (.dK (putK kvs (.inr z) v))) := fun b o hb => by
        rw [upd_ne (ne_of_none hb ha)]
        exact s2 _ _ hb
      exact q1 _ er a _ sA ⟨_, upd_same, (tT.to (Stl.same sA)).put hv⟩
    have sAny : ∀ (x : HO), Same H (upd H1 a x) := fun x b o hb => by
      rw [upd_ne (ne_of_none hb ha)]
      exact s1 _ _ hb
    -- put
    refine ⟨fun σ' H' => (σ' = [some (.ref d), some (.str z), some vd, some vt, some (.ref a), some old, none] ∧ H' = H1) ∧ ∀ t, D ≠ .put t, ?_, ?_⟩
    · cases D with
      | put t =>
        obtain ⟨rfl, ht⟩ := hD
        refine ⟨.str "put", rfl, rfl, _, rfl, ?_⟩
        rw [wE]
        exact iteT ⟨vt, rfl, .ref a, rfl, .str z, rfl, fin H1 vt t s1 ea (ht.stl (Stl.same (sAny _))) rfl⟩
      | wout =>
        obtain ⟨rfl, _⟩ := hD
        refine ⟨.str "without", rfl, rfl, _, rfl, ?_⟩
        rw [w1]
        exact iteF ⟨⟨rfl, rfl⟩, fun _ z => nomatch z⟩
      | wr o y =>
        obtain ⟨rfl, _⟩ := hD
        refine ⟨.str "write", rfl, rfl, _, rfl, ?_⟩
        rw [w2]
        exact iteF ⟨⟨rfl, rfl⟩, fun _ z => nomatch z⟩
      | er o =>
        obtain ⟨rfl, _⟩ := hD
        refine ⟨.str "erase", rfl, rfl, _, rfl, ?_⟩
        rw [w3]
        exact iteF ⟨⟨rfl, rfl⟩, fun _ z => nomatch z⟩
    rintro _ H1 ⟨⟨rfl, rfl⟩, np⟩
    -- there is none
    refine ⟨fun σ' H' => (σ' = [some (.ref d), some (.str z), some vd, some vt, some (.ref a), some old, none] ∧ H' = H1) ∧ (tLook T z = none → ∃ o y, D = .wr o y), ?_, ?_⟩
    · rcases hold with ⟨e, rfl⟩ | ⟨t, e, ht⟩
      · refine ⟨.non, rfl, _, rfl, ?_⟩
        rw [nNon]
        cases D with
        | put t => exact absurd rfl (np t)
        | wout =>
          obtain ⟨rfl, _⟩ := hD
          refine iteT ⟨.str "without", rfl, rfl, _, rfl, ?_⟩
          rw [w4]
          exact iteT (q2 _ (by show dRes T z .wout = _; unfold dRes; rw [e]) H1 s1)
        | wr o y =>
          obtain ⟨rfl, _⟩ := hD
          refine iteT ⟨.str "write", rfl, rfl, _, rfl, ?_⟩
          rw [wE]
          exact iteF ⟨⟨rfl, rfl⟩, fun _ => ⟨o, y, rfl⟩⟩
        | er o =>
          obtain ⟨rfl, _⟩ := hD
          refine iteT ⟨.str "erase", rfl, rfl, _, rfl, ?_⟩
          rw [w5]
          exact iteT (q2 _ (by show dRes T z (.er o) = _; unfold dRes; rw [e]) H1 s1)
      · obtain ⟨x, rfl⟩ := ht.rf
        refine ⟨.ref x, rfl, _, rfl, ?_⟩
        rw [nRef]
        exact iteF ⟨⟨rfl, rfl⟩, fun n => by rw [e] at n; cases n⟩
    rintro _ H1 ⟨⟨rfl, rfl⟩, nn⟩
    -- left out
    refine ⟨fun σ' H' => (σ' = [some (.ref d), some (.str z), some vd, some vt, some (.ref a), some old, none] ∧ H' = H1) ∧ D ≠ .wout, ?_, ?_⟩
    · cases D with
      | put t => exact absurd rfl (np t)
      | wout =>
        obtain ⟨rfl, _⟩ := hD
        refine ⟨.str "without", rfl, rfl, _, rfl, ?_⟩
        rw [wE]
        have ev : ∃ v t, valV kvs (.inr z) = some v ∧ tLook T z = some t := by
          rcases tT.look z with ⟨_, n⟩ | ⟨v, t, e2, e3, _⟩
          · obtain ⟨_, _, e⟩ := nn n
            cases e
          · exact ⟨v, t, e2, e3⟩
        obtain ⟨v, t, ev, e⟩ := ev
        refine iteT ⟨.ref a, rfl, a, rfl, .inl ⟨kvs, .inl ea⟩, .str z, rfl, kvs, .inr z, v, ea, rfl, ev, .ref a, rfl, ?_⟩
        exact q1 _ (by show dRes T z .wout = _; unfold dRes; rw [e]) a _ (sAny _) ⟨_, upd_same, (tT.to (Stl.same (sAny _))).drop z⟩
      | wr o y =>
        obtain ⟨rfl, _⟩ := hD
        refine ⟨.str "write", rfl, rfl, _, rfl, ?_⟩
        rw [w6]
        exact iteF ⟨⟨rfl, rfl⟩, fun z => nomatch z⟩
      | er o =>
        obtain ⟨rfl, _⟩ := hD
        refine ⟨.str "erase", rfl, rfl, _, rfl, ?_⟩
        rw [w7]
        exact iteF ⟨⟨rfl, rfl⟩, fun z => nomatch z⟩
    rintro _ H1 ⟨⟨rfl, rfl⟩, nw⟩
    have cl : ∃ w u o y, vd = .str w ∧ vt = .ref u ∧ H u = some (.tup [.str o, .str y]) ∧ ((w = "write" ∧ D = .wr o y) ∨ (w = "erase" ∧ D = .er o ∧ tLook T z ≠ none)) := by
      cases D with
      | put t => exact absurd rfl (np t)
      | wout => exact absurd rfl nw
      | wr o y =>
        obtain ⟨e1, u, e2, e3⟩ := hD
        exact ⟨_, u, o, y, e1, e2, e3, .inl ⟨rfl, rfl⟩⟩
      | er o =>
        obtain ⟨e1, u, y, e2, e3⟩ := hD
        refine ⟨_, u, o, y, e1, e2, e3, .inr ⟨rfl, rfl, fun n => ?_⟩⟩
        obtain ⟨_, _, e⟩ := nn n
        cases e
    obtain ⟨wd, u, o, y, rfl, rfl, hu, cl⟩ := cl
    -- a made one
    refine ⟨fun σ' H' => (σ' = [some (.ref d), some (.str z), some (.str wd), some (.ref u), some (.ref a), some old, none] ∧ H' = H1) ∧ ((tLook T z = none ∧ old = .non) ∨ ∃ os, tLook T z = some (.src os) ∧ ToAt H old (.src os)), ?_, ?_⟩
    · rcases hold with ⟨e, rfl⟩ | ⟨t, e, ht⟩
      · refine ⟨.non, rfl, _, rfl, ?_⟩
        rw [nNon]
        exact iteF ⟨⟨rfl, rfl⟩, .inl ⟨e, rfl⟩⟩
      · cases t with
        | src os =>
          obtain ⟨x, d', rfl, hx, ho⟩ := id ht
          refine ⟨.ref x, rfl, _, rfl, ?_⟩
          rw [nRef]
          refine iteT ⟨.ref x, rfl, x, _, 0, .str "source", rfl, rfl, .inl (.inl (s1 _ _ hx)), rfl, rfl, _, rfl, ?_⟩
          rw [w8]
          exact iteF ⟨⟨rfl, rfl⟩, .inr ⟨os, e, ht⟩⟩
        | mad r as =>
          obtain ⟨x, vr, va, rfl, hx, _⟩ := id ht
          refine ⟨.ref x, rfl, _, rfl, ?_⟩
          rw [nRef]
          refine iteT ⟨.ref x, rfl, x, _, 0, .str "made", rfl, rfl, .inl (.inl (s1 _ _ hx)), rfl, rfl, _, rfl, ?_⟩
          rw [wE]
          refine iteT (q2 _ ?_ H1 s1)
          rcases cl with ⟨_, rfl⟩ | ⟨_, rfl, _⟩
          · show dRes T z (.wr o y) = _
            unfold dRes
            rw [e]
          · show dRes T z (.er o) = _
            unfold dRes
            rw [e]
    rintro _ H1 ⟨⟨rfl, rfl⟩, hold2⟩
    -- the outputs
    refine ⟨fun σ' H' => ∃ p, σ' = [some (.ref d), some (.str z), some (.str wd), some (.ref u), some (.ref a), some old, some (.ref p)] ∧ Same H1 H' ∧ H1 p = none ∧ H' p = some (.dK (oK (wrOs T z))), ?_, ?_⟩
    · rcases hold2 with ⟨e, rfl⟩ | ⟨os, e, ht⟩
      · refine ⟨.non, rfl, _, rfl, ?_⟩
        rw [nNon]
        refine iteF fun p hp => ⟨p, rfl, KS.sameUpd hp, hp, ?_⟩
        have ew : wrOs T z = [] := by unfold wrOs; rw [e]
        rw [ew]
        exact upd_same
      · obtain ⟨x, d', rfl, hx, ho⟩ := ht
        refine ⟨.ref x, rfl, _, rfl, ?_⟩
        rw [nRef]
        refine iteT ⟨.ref x, rfl, x, _, 1, .ref d', rfl, rfl, .inl (.inl (s1 _ _ hx)), rfl, d', _, rfl, s1 _ _ ho.1, fun p hp => ⟨p, rfl, KS.sameUpd hp, hp, ?_⟩⟩
        have ew : wrOs T z = os := by unfold wrOs; rw [e]
        rw [ew]
        exact upd_same
    rintro _ H2 ⟨p, rfl, s2, np1, ep⟩
    have npa : p ≠ a := fun z => by rw [z, ea] at np1; cases np1
    have ndw : ((wrOs T z).map (·.1)).Nodup := by
      unfold wrOs
      rcases hold2 with ⟨e, _⟩ | ⟨os, e, ⟨x, d', _, _, ho⟩⟩
      · rw [e]; exact List.nodup_nil
      · rw [e]; exact ho.2.1
    -- written or erased
    refine ⟨fun σ' H' => ∃ os1, σ' = [some (.ref d), some (.str z), some (.str wd), some (.ref u), some (.ref a), some old, some (.ref p)] ∧ Kp p H2 H' ∧ H' p = some (.dK (oK os1)) ∧ (os1.map (·.1)).Nodup ∧ os1.length ≤ 100 ∧ dRes T z D = .inl (tPut T z (.src os1)), ?_, ?_⟩
    · have hu2 := s2 _ _ (s1 _ _ hu)
      rcases cl with ⟨rfl, rfl⟩ | ⟨rfl, rfl, nz⟩
      · refine ⟨.str "write", rfl, rfl, _, rfl, ?_⟩
        rw [wE]
        refine iteT ⟨.ref u, rfl, u, _, 1, .str y, rfl, rfl, .inl (.inl hu2), rfl, .ref p, rfl, .ref u, rfl, u, _, 0, .str o, rfl, rfl, .inl (.inl hu2), rfl, p, _, rfl, DPut.k (k := Sum.inr o) ep (by rw [oK_len, sizeLine_eq]; omega), ?_⟩
        rw [oK_put]
        refine ⟨_, rfl, Kp.put, upd_same, oPut_nd ndw, by have := oPut_len (os := wrOs T z) (k := o) (z := y); omega, ?_⟩
        show dRes T z (.wr o y) = _
        unfold dRes
        rcases hold2 with ⟨e, _⟩ | ⟨os, e, _⟩ <;> rw [e]
      · refine ⟨.str "erase", rfl, rfl, _, rfl, ?_⟩
        rw [w5]
        have er : dRes T z (.er o) = .inl (tPut T z (.src (oDrop (wrOs T z) o))) := by
          rcases hold2 with ⟨e, _⟩ | ⟨os, e, _⟩
          · exact absurd e nz
          · unfold dRes wrOs
            rw [e]
        refine iteF ⟨.ref p, rfl, p, rfl, .inl ⟨_, .inl ep⟩, .ref u, rfl, u, _, 0, .str o, rfl, rfl, .inl (.inl hu2), rfl, _, .inr o, ep, rfl, fun v hv => ?_, fun hv => ?_⟩
        · rw [oK_drop]
          exact ⟨_, rfl, Kp.put, upd_same, oDrop_nd ndw, by have := oDrop_len (os := wrOs T z) (k := o); omega, er⟩
        · have ed : oDrop (wrOs T z) o = wrOs T z := by
            unfold oDrop
            refine List.filter_eq_self.mpr fun q hq => ?_
            refine decide_eq_true fun e => ?_
            have : (Sum.inr o, V.str q.2) ∈ oK (wrOs T z) := List.mem_map.mpr ⟨q, hq, by unfold kvO; rw [e]⟩
            rw [valMem (oK_nd ndw) this] at hv
            cases hv
          rw [ed] at er
          exact ⟨_, rfl, Kp.refl _ _, ep, ndw, by omega, er⟩
    rintro _ H3 ⟨os1, rfl, k3, ep3, nd1, l1, er⟩
    have s3 : Same H H3 := fun b x hb => k3 _ _ (fun e => by rw [e] at hb; rw [s1 _ _ hb] at np1; cases np1) (s2 _ _ (s1 _ _ hb))
    have ea3 : H3 a = some (.dK kvs) := k3 _ _ (Ne.symm npa) (s2 _ _ ea)
    refine ⟨.ref p, rfl, (by show 2 ≤ sizeLine; decide), fun U hU => ?_⟩
    have sU := KS.sameUpd (o := .tup [.str "source", .ref p]) hU
    have nUa : U ≠ a := fun z => by rw [z, ea3] at hU; cases hU
    refine ⟨.ref a, rfl, .str z, rfl, fin _ (.ref U) (.src os1) (s3.trans sU) (sU _ _ ea3) ⟨U, p, rfl, ?_, ?_, nd1, l1⟩ er⟩
    · rw [upd_ne nUa]
      exact upd_same
    · rw [upd_ne npa]
      exact sU _ _ ep3
end
end PJ

set_option Elab.async false
set_option linter.all false
set_option maxRecDepth 100000
set_option maxHeartbeats 8000000
namespace IX
open PySem PySem.Spec PyProof.Rows L2 KX
/-- isinstance(e, c), e the error that the suite holds -/
def rIsS (K : PySem.W.Frag) (a : Addr) (cls : Value) (d : Option Addr) : List V → Hp → VK → Prop := fun xs H Q => ∃ (D : Addr) (c : V) (cv : Value) (b : Bool), xs = [.ref a, c] ∧ cls = .ref D ∧ d = none ∧ XC K D ∧ ClsV c cv ∧ PySem.W.kitOne K (.ref D) cv = some b ∧ Q (.bl b) H
theorem callIsS {X : Cx} {a : Addr} {oe : Obj} {pn : List (Addr × Obj)} {cls : Value} {d : Option Addr} (hz : Zc cls d oe) (hf : ∃ vs, oe.data = .fields vs) : CallR (X.suite a ((a, oe) :: pn)) (.builtin "isinstance") (rIsS X.K a cls d) := by
  intro pins s σ H xs us Q I r h
  obtain ⟨D, c, cv, b, rfl, rfl, rfl, T, hc, ans, q⟩ := h
  obtain ⟨u1, u2, rfl, r1, r2⟩ := vals2 r
  have e2 := hc.eq r2
  subst e2
  cases (show u1 = Value.ref a from r1)
  obtain ⟨hget, _⟩ := I.pin (a, oe) (List.mem_append.mpr (.inl List.mem_cons_self))
  obtain ⟨vs, hv⟩ := hf
  have J : PySem.W.InstAt s.heap a oe D none := by
    refine ⟨hget, hz.1, ?_, ?_⟩
    · unfold PySem.W.notCls
      rw [hv]
    · rw [hz.2]
      trivial
  have hcl : (PySem.W.clsIn X.K D).isSome = true := by
    obtain ⟨cd, hcd, _⟩ := PySem.W.any_some T.hd
    rw [hcd]
    rfl
  exact PySem.W.kia_one (PySem.W.kitx_exc hcl T.ga T.gg T.ex T.cl T.gt T.st T.ob) I.kIn J ans (fun z => nomatch z) fun tk => ⟨.bl b, H, I.tok tk, rfl, q⟩
end IX

set_option Elab.async false
set_option linter.all false
set_option maxRecDepth 100000
set_option maxHeartbeats 8000000
/-! the law's look at what a project does -/
namespace PJ
open PySem PySem.Spec PyProof.Rows L2 KS KS.La
open KX hiding sameUpd
/-- isinstance(e, c), e the error that the suite holds, with its dict -/
def rIsD (K : PySem.W.Frag) (a : Addr) (cls : Value) (d : Option Addr) : List V → Hp → VK → Prop := fun xs H Q => ∃ (D : Addr) (c : V) (cv : Value) (b : Bool) (dd : Addr) (fs : List (Str × V)), xs = [.ref a, c] ∧ cls = .ref D ∧ d = some dd ∧ H dd = some (.xd fs) ∧ XC K D ∧ ClsV c cv ∧ PySem.W.kitOne K (.ref D) cv = some b ∧ Q (.bl b) H
theorem callIsD {X : Cx} {a : Addr} {oe : Obj} {pn : List (Addr × Obj)} {cls : Value} {d : Option Addr} (hz : Zc cls d oe) (hf : ∃ vs, oe.data = .fields vs) : CallR (X.suite a ((a, oe) :: pn)) (.builtin "isinstance") (rIsD X.K a cls d) := by
  intro pins s σ H xs us Q I r h
  obtain ⟨D, c, cv, b, dd, fs, rfl, rfl, rfl, hdd, T, hc, ans, q⟩ := h
  obtain ⟨u1, u2, rfl, r1, r2⟩ := vals2 r
  have e2 := hc.eq r2
  subst e2
  cases (show u1 = Value.ref a from r1)
  obtain ⟨hget, _⟩ := I.pin (a, oe) (List.mem_append.mpr (.inl List.mem_cons_self))
  obtain ⟨vs, hv⟩ := hf
  have hx : ObjOk X.prog X.w H s.heap dd (.xd fs) := I.hok dd _ hdd
  obtain ⟨mA, hns, hr⟩ := hx
  obtain ⟨od, ho, hl⟩ := lookIn_ns hns
  have J : PySem.W.InstAt s.heap a oe D (some od) := ⟨hget, hz.1, by unfold PySem.W.notCls; rw [hv] <;> rfl, by rw [hz.2]; exact ho⟩
  have hcl : (PySem.W.clsIn X.K D).isSome = true := by
    obtain ⟨cd, hcd, _⟩ := PySem.W.any_some T.hd
    rw [hcd]
    rfl
  exact PySem.W.kia_one (PySem.W.kitx_exc hcl T.ga T.gg T.ex T.cl T.gt T.st T.ob) I.kIn J ans (fun z => nomatch z) fun tk => ⟨.bl b, H, I.tok tk, rfl, q⟩
abbrev lDoes : Stmt := top 22
abbrev lIsTold : Stmt := top 23
abbrev lRefuses : Stmt := top 24
section
variable {P : Program} {w : World} {K : PySem.W.Frag} {mg : Str → Option Value} {base : Heap} {f : Addr} {fd : FuncData} {CS CM CP NT NS BE : Addr}
structure Pmd (P : Program) (w : World) (K : PySem.W.Frag) (mg : Str → Option Value) (base : Heap) (CS CM CP NT NS BE : Addr) : Prop where
  put : ∃ (f : Addr) (fd : FuncData), Meth K CP "put" f ∧ Binds K fd ["self", "name", "target"] [] ∧ FnOk P w K mg base CX0 3 f fd ["self", "name", "target"] (spPPut CS CM CP)
  wout : ∃ (f : Addr) (fd : FuncData), Meth K CP "without" f ∧ Binds K fd ["self", "name"] [] ∧ FnOk P w K mg base (L2.CX P w) 3 f fd ["self", "name"] (spPWithout CS CM CP NT)
  wr : ∃ (f : Addr) (fd : FuncData), Meth K CP "write" f ∧ Binds K fd ["self", "name", "output", "text"] [] ∧ FnOk P w K mg base (L2.CX P w) 6 f fd ["self", "name", "output", "text"] (spPWrite CS CM CP NS)
  er : ∃ (f : Addr) (fd : FuncData), Meth K CP "erase" f ∧ Binds K fd ["self", "name", "output"] [] ∧ FnOk P w K mg base (L2.CX P w) 6 f fd ["self", "name", "output"] (spPErase CS CM CP NT NS)
  gB : mg "BuildError" = some (.ref BE)
  eT : PySem.W.exmOne K (.ref NT) (.ref BE) = some true
  eS : PySem.W.exmOne K (.ref NS) (.ref BE) = some true
  eTT : PySem.W.exmOne K (.ref NT) (.ref NT) = some true
  kTT : PySem.W.kitOne K (.ref NT) (.ref NT) = some true
  kTS : PySem.W.kitOne K (.ref NT) (.ref NS) = some false
  kST : PySem.W.kitOne K (.ref NS) (.ref NT) = some false
  kSS : PySem.W.kitOne K (.ref NS) (.ref NS) = some true
theorem u1 : decide (V.str "put" = V.str "put") = true := decide_eq_true rfl
def spDoes (CS CM CP : Addr) : Sp := fun vs H Q _ => ∃ p z vd vt T D, vs = [.ref p, .str z, vd, vt] ∧ PjAt CS CM CP H p T ∧ T.length ≤ 100 ∧ (wrOs T z).length ≤ 50 ∧ DdAt H vd vt D ∧
  (∀ T', dRes T z D = .inl T' → ∀ p' H', Same H H' → PjAt CS CM CP H' p' T' → Q (.ref p') H') ∧ (∀ m, dRes T z D = .inr m → ∀ H', Same H H' → Q (.str m) H')
abbrev nDoes : List Str := ["_law_project", "_law_name", "_law_deed", "_law_told", "_law_found", "e"]
theorem scDoes : FnScope nDoes ["_law_project", "_law_name", "_law_deed", "_law_told"] (defScope lDoes) := ⟨rfl, rfl, rfl, by decide +kernel, rfl, by decide +kernel, by decide +kernel⟩
/-- the suite -/
def suT (K : PySem.W.Frag) (NT NS : Addr) (a : Addr) (cls : Value) (d : Option Addr) : TS := tSeq (tAsg (tC (.str "other")) (gName 4))
  (tSeq (tIfS (tAnd (tB (tCB (rIsD K a cls d) (tCons (tVar 5) (tCons (tC (.ref NT)) tNil)))) (tTest (tOp rEq (tXf a cls d NT "name" (tVar 5)) (tVar 1)))) (tAsg (tC (.str "no target")) (gName 4)) tNext)
    (tIfS (tAnd (tB (tCB (rIsD K a cls d) (tCons (tVar 5) (tCons (tC (.ref NS)) tNil)))) (tTest (tOp rEq (tXf a cls d NS "name" (tVar 5)) (tVar 1)))) (tAsg (tC (.str "no source")) (gName 4)) tNext))
theorem suiteT (W : Pjc P w K mg base CS CM CP NT NS) (M : Pmd P w K mg base CS CM CP NT NS BE) {H : Hp} {a0 dd p : Addr} {z : Str} {vd vt : V} {Q : VK} (hdd : H dd = some (.xd [("name", .str z)])) (q : Q (.str "no target") H) :
    asSuite 5 (suT K NT NS) a0 (.ref NT) (some dd) { nx := tRet (tVar 4) { nx := fun _ H' => Q .non H', rt := Q }, rt := Q } [some (.ref p), some (.str z), some vd, some vt, some (.str "none"), none] H := by
  refine ⟨.ref a0, rfl, NT, .ref NT, .ref NT, true, dd, _, rfl, rfl, rfl, hdd, W.xT.xc, .own _, M.kTT, true, rfl, iteT ?_⟩
  refine ⟨.ref a0, rfl, rfl, rfl, dd, _, .str z, rfl, hdd, rfl, .str z, rfl, rfl, _, rfl, ?_⟩
  rw [wE]
  refine iteT ⟨.ref a0, rfl, NT, .ref NS, .ref NS, false, dd, _, rfl, rfl, rfl, hdd, W.xT.xc, .own _, M.kTS, false, rfl, iteF ?_⟩
  exact ⟨.str "no target", rfl, q⟩
theorem suiteS (W : Pjc P w K mg base CS CM CP NT NS) (M : Pmd P w K mg base CS CM CP NT NS BE) {H : Hp} {a0 dd p : Addr} {z : Str} {vd vt : V} {Q : VK} (hdd : H dd = some (.xd [("name", .str z)])) (q : Q (.str "no source") H) :
    asSuite 5 (suT K NT NS) a0 (.ref NS) (some dd) { nx := tRet (tVar 4) { nx := fun _ H' => Q .non H', rt := Q }, rt := Q } [some (.ref p), some (.str z), some vd, some vt, some (.str "none"), none] H := by
  refine ⟨.ref a0, rfl, NS, .ref NT, .ref NT, false, dd, _, rfl, rfl, rfl, hdd, W.xN.xc, .own _, M.kST, false, rfl, iteF ?_⟩
  refine ⟨.ref a0, rfl, NS, .ref NS, .ref NS, true, dd, _, rfl, rfl, rfl, hdd, W.xN.xc, .own _, M.kSS, true, rfl, iteT ?_⟩
  refine ⟨.ref a0, rfl, rfl, rfl, dd, _, .str z, rfl, hdd, rfl, .str z, rfl, rfl, _, rfl, ?_⟩
  rw [wE]
  exact iteT ⟨.str "no source", rfl, q⟩
theorem okDoes {k : Nat} (W : Pjc P w K mg base CS CM CP NT NS) (M : Pmd P w K mg base CS CM CP NT NS BE) (O : Has P w K mg base 3 "_law_one_target" ["_law_told"] (spOne CS CM)) (F : FnP K "_law_does" lDoes f fd) : FnOk P w K mg base CX0 (k + 7) f fd ["_law_project", "_law_name", "_law_deed", "_law_told"] (spDoes CS CM CP) := by
  obtain ⟨fO, fdO, gO, kO, bO, GO⟩ := O.ex
  obtain ⟨f1, d1, h1, b1, G1⟩ := M.put
  obtain ⟨f2, d2, h2, b2, G2⟩ := M.wout
  obtain ⟨f3, d3, h3, b3, G3⟩ := M.wr
  obtain ⟨f4, d4, h4, b4, G4⟩ := M.er
  have xfT : XfC K NT := ⟨W.xT.xc.ga, W.xT.xc.gg, W.xT.xc.ex, W.xT.xc.hd⟩
  have xfS : XfC K NS := ⟨W.xN.xc.ga, W.xN.xc.gg, W.xN.xc.ex, W.xN.xc.hd⟩
  refine F.ok scDoes (fun vs H Q E h => ?_) (fun cdv A outer s H vs Q E hr h => ?_)
  · obtain ⟨p, z, vd, vt, T, D, rfl, _⟩ := h
    rfl
  · obtain ⟨p, z, vd, vt, T, D, rfl, hp, lT, lo, hD, q1, q2⟩ := h
    have hr3 : Room 3 _ := hr.mono (by omega)
    have hr6 : Room 6 _ := hr.mono (by omega)
    refine ⟨_, PSs.nox (pss_cons (ps_set (i := 4) scDoes.nd rfl (.inl rfl) pe_str) (pss_cons (psTryMix rfl rfl takes0
        (fun W' pn xe tk _ => (pss_one (ps_if (pt_cmpR op_eq (pv 2) pe_str (nomark _)) (pss_one (ps_set (i := 4) scDoes.nd rfl (.inl rfl) (pe_meth (pv 0) W.iP.cl h1 G1 hr3 b1 .nil pass0 (pa_cons (pv 1) (pa_cons (pe_call GO hr3 (by rfl) gO kO bO .nil pass0 (pa_cons (pv 3) pa_nil)) pa_nil)))))
          (pss_one (ps_if (pt_cmpR op_eq (pv 2) pe_str (nomark _)) (pss_one (ps_set (i := 4) scDoes.nd rfl (.inl rfl) (OD.pe_methT (pv 0) W.iP.cl h2 G2 hr3 b2 (fun σ => passAt tk σ) (pa_cons (pv 1) pa_nil))))
            (pss_one (ps_if (pt_cmpR op_eq (pv 2) pe_str (nomark _)) (pss_one (ps_set (i := 4) scDoes.nd rfl (.inl rfl) (OD.pe_methT (pv 0) W.iP.cl h3 G3 hr6 b3 (fun σ => passAt tk σ) (pa_cons (pv 1) (pa_cons (pe_ix (r := rIxT K) ix_tup (pv 3) pe_int (fun _ _ => rfl)) (pa_cons (pe_ix (r := rIxT K) ix_tup (pv 3) pe_int (fun _ _ => rfl)) pa_nil))))))
              (pss_one (ps_set (i := 4) scDoes.nd rfl (.inl rfl) (OD.pe_methT (pv 0) W.iP.cl h4 G4 hr6 b4 (fun σ => passAt tk σ) (pa_cons (pv 1) (pa_cons (pe_ix (r := rIxT K) ix_tup (pv 3) pe_int (fun _ _ => rfl)) pa_nil))))))))))))
        (.named (i := 5) ⟨rfl, by decide, .inl M.gB⟩ scDoes.nd rfl rfl (fun a oe cls d pn hz hf => (pss_cons (ps_set (i := 4) scDoes.nd rfl (.inl rfl) pe_str) (pss_cons (ps_if (PW.pt (pw_and (pt_val (pe_callB (callIsD hz hf) (by rfl) W.mi (by decide +kernel) (pa_cons (pv 5) (pa_cons (pe_glob (v := .ref NT) (by rfl) W.xT.gm rfl) pa_nil)))) (pw_and1 (pt_cmpR op_eq (pe_xf xfT W.xT.no hz hf (pv 5)) (pv 1) (nomark _))))) (pss_one (ps_set (i := 4) scDoes.nd rfl (.inl rfl) pe_str)) pss_nil) (pss_one (ps_if (PW.pt (pw_and (pt_val (pe_callB (callIsD hz hf) (by rfl) W.mi (by decide +kernel) (pa_cons (pv 5) (pa_cons (pe_glob (v := .ref NS) (by rfl) W.xN.gm rfl) pa_nil)))) (pw_and1 (pt_cmpR op_eq (pe_xf xfS W.xN.no hz hf (pv 5)) (pv 1) (nomark _))))) (pss_one (ps_set (i := 4) scDoes.nd rfl (.inl rfl) pe_str)) pss_nil))))) .nil)) (pss_one (ps_ret (pv 4))))), ?_⟩
    obtain ⟨kvs, ⟨dp, Da, ha, _⟩, _⟩ := id hp
    cases D with
    | put t =>
      obtain ⟨rfl, ht⟩ := hD
      refine ⟨.str "put", rfl, rfl, _, rfl, ?_⟩
      rw [wE]
      refine iteT ⟨.ref p, rfl, p, dp, _, rfl, ha, rfl, .str z, rfl, vt, rfl, vt, t, rfl, ht, fun r H1 s1 hr1 => ?_⟩
      exact ⟨p, z, r, T, t, rfl, hp.stl (Stl.same s1), hr1, lT, fun p' H2 _ s2 h => ⟨.ref p', rfl, q1 _ rfl p' H2 (s1.trans s2) h⟩⟩
    | wout =>
      obtain ⟨rfl, _⟩ := hD
      refine ⟨.str "without", rfl, rfl, _, rfl, ?_⟩
      rw [w1]
      refine iteF ⟨.str "without", rfl, rfl, _, rfl, ?_⟩
      rw [wE]
      refine iteT ⟨.ref p, rfl, p, dp, _, rfl, ha, rfl, .str z, rfl, p, z, T, rfl, hp, fun nz p' H2 _ s2 h => ⟨.ref p', rfl, q1 _ ?_ p' H2 s2 h⟩, fun nz => ?_⟩
      · show dRes T z .wout = _
        unfold dRes
        cases e : tLook T z with
        | none => exact absurd e nz
        | some t => rfl
      · have er : dRes T z .wout = .inr "no target" := by unfold dRes; rw [nz]
        refine fun dd H2 s2 hdd => ⟨true, M.eT, fun _ a0 na => ?_, fun z => Bool.noConfusion z⟩
        exact suiteT W M hdd (q2 _ er H2 s2)
    | wr o y =>
      obtain ⟨rfl, u, rfl, hu⟩ := hD
      refine ⟨.str "write", rfl, rfl, _, rfl, ?_⟩
      rw [w2]
      refine iteF ⟨.str "write", rfl, rfl, _, rfl, ?_⟩
      rw [w6]
      refine iteF ⟨.str "write", rfl, rfl, _, rfl, ?_⟩
      rw [wE]
      refine iteT ⟨.ref p, rfl, p, dp, _, rfl, ha, rfl, .str z, rfl, .ref u, rfl, u, _, 0, .str o, rfl, rfl, .inl (.inl hu), rfl, .ref u, rfl, u, _, 1, .str y, rfl, rfl, .inl (.inl hu), rfl, p, z, o, y, T, rfl, hp, lT, lo, fun nm p' H2 _ s2 h => ⟨.ref p', rfl, q1 _ ?_ p' H2 s2 h⟩, fun r as em => ?_⟩
      · show dRes T z (.wr o y) = _
        unfold dRes
        cases e : tLook T z with
        | none => rfl
        | some t =>
          cases t with
          | src os => rfl
          | mad r as => exact absurd e (nm r as)
      · exact fun dd H2 s2 hdd => ⟨true, M.eS, fun _ a0 na => suiteS W M hdd (q2 _ (by show dRes T z (.wr o y) = _; unfold dRes; rw [em]) H2 s2), fun z => Bool.noConfusion z⟩
    | er o =>
      obtain ⟨rfl, u, y, rfl, hu⟩ := hD
      refine ⟨.str "erase", rfl, rfl, _, rfl, ?_⟩
      rw [w3]
      refine iteF ⟨.str "erase", rfl, rfl, _, rfl, ?_⟩
      rw [w7]
      refine iteF ⟨.str "erase", rfl, rfl, _, rfl, ?_⟩
      rw [w5]
      refine iteF ⟨.ref p, rfl, p, dp, _, rfl, ha, rfl, .str z, rfl, .ref u, rfl, u, _, 0, .str o, rfl, rfl, .inl (.inl hu), rfl, p, z, o, T, rfl, hp, lT, fun os eo p' H2 _ s2 h => ⟨.ref p', rfl, q1 _ ?_ p' H2 s2 h⟩, fun nz => ?_, fun r as em => ?_⟩
      · show dRes T z (.er o) = _
        unfold dRes
        rw [eo]
      · exact fun dd H2 s2 hdd => ⟨true, M.eT, fun _ a0 na => suiteT W M hdd (q2 _ (by show dRes T z (.er o) = _; unfold dRes; rw [nz]) H2 s2), fun z => Bool.noConfusion z⟩
      · exact fun dd H2 s2 hdd => ⟨true, M.eS, fun _ a0 na => suiteS W M hdd (q2 _ (by show dRes T z (.er o) = _; unfold dRes; rw [em]) H2 s2), fun z => Bool.noConfusion z⟩
end
end PJ

set_option autoImplicit false
namespace SU
open PySem PySem.Spec PyProof.Rows
theorem pwRising : ∀ (l : List Str) (p : Str), risingS p l = true → (p :: l).Pairwise (fun a b => a.cps.toList ≤ b.cps.toList)
  | [], p, _ => List.pairwise_singleton _ _
  | x :: r, p, h => by
    have h2 : (!ltCps x.cps.toList p.cps.toList && risingS x r) = true := h
    rw [Bool.and_eq_true, Bool.not_eq_true', ltCps_eq] at h2
    have le : p.cps.toList ≤ x.cps.toList := List.not_lt.mp (of_decide_eq_false h2.1)
    have ih := pwRising r x h2.2
    refine List.pairwise_cons.mpr ⟨fun y hy => ?_, ih⟩
    rcases List.mem_cons.mp hy with rfl | hy
    · exact le
    · exact List.le_trans le ((List.pairwise_cons.mp ih).1 y hy)
theorem pwSorted (l : List Str) (h : sortedS l = true) : l.Pairwise (fun a b => a.cps.toList ≤ b.cps.toList) := by
  cases l with
  | nil => exact .nil
  | cons x r => exact pwRising r x h
theorem uniq {a b : List Str} (h : a.Perm b) (s1 : sortedS a = true) (s2 : sortedS b = true) : a = b := by
  refine List.Perm.eq_of_pairwise (le := fun a b : Str => a.cps.toList ≤ b.cps.toList) (fun x y _ _ h1 h2 => ?_) (pwSorted a s1) (pwSorted b s2) h
  have e := List.le_antisymm h1 h2
  cases x; cases y
  simpa using e
end SU

set_option Elab.async false
set_option linter.all false
set_option maxRecDepth 100000
set_option maxHeartbeats 8000000
/-! the law's look at a project -/
namespace PJ
open PySem PySem.Spec PyProof.Rows L2 KS KS.La
open KX hiding sameUpd
abbrev lStands : Stmt := top 25
section
variable {P : Program} {w : World} {K : PySem.W.Frag} {mg : Str → Option Value} {base : Heap} {f : Addr} {fd : FuncData} {CS CM CP NT NS BE : Addr}
/-- properties of made targets -/
structure Mpr (P : Program) (w : World) (K : PySem.W.Frag) (mg : Str → Option Value) (base : Heap) (CM : Addr) : Prop where
  kMM : PySem.W.kitOne K (.ref CM) (.ref CM) = some true
  rc : ∃ (p g : Addr) (fd : FuncData), PropOf K CM "recipe" p g ∧ Binds K fd ["self"] [] ∧ FnOk P w K mg base CX0 1 g fd ["self"] (getSp CM "_recipe")
  ag : ∃ (p g : Addr) (fd : FuncData), PropOf K CM "arguments" p g ∧ Binds K fd ["self"] [] ∧ FnOk P w K mg base CX0 1 g fd ["self"] (getSp CM "_arguments")
def spTold (CS CM : Addr) : Sp := fun vs H Q _ => ∃ v t, vs = [v] ∧ TgAt CS CM H v t ∧ ∀ r H', Same H H' → ToAt H' r t → Q r H'
theorem scTold : FnScope ["_law_target"] ["_law_target"] (defScope lIsTold) := ⟨rfl, rfl, rfl, by decide +kernel, rfl, by decide +kernel, by decide +kernel⟩
theorem okTold {k : Nat} (W : Pjc P w K mg base CS CM CP NT NS) (M : Mpr P w K mg base CM) (F : FnP K "_law_is_told" lIsTold f fd) : FnOk P w K mg base CX0 (k + 3) f fd ["_law_target"] (spTold CS CM) := by
  obtain ⟨po, go, dO, hO, bO, GO⟩ := W.outS
  obtain ⟨pr, gr, dr, hR, bR, GR⟩ := M.rc
  obtain ⟨pa, ga, da, hA, bA, GA⟩ := M.ag
  refine F.ok scTold (fun vs H Q E h => ?_) (fun cdv A outer s H vs Q E hr h => ?_)
  · obtain ⟨v, t, rfl, _⟩ := h
    rfl
  · obtain ⟨v, t, rfl, hv, q⟩ := h
    have hr2 : Room (1 + 1) _ := hr.mono (by omega)
    refine ⟨_, PSs.nox (pss_cons (ps_if (pt_val (pe_callB call_isi (by rfl) W.mi (by decide +kernel) (pa_cons (pv 0) (pa_cons (pe_glob (v := .ref CS) (by rfl) W.gS rfl) pa_nil)))) (pss_one (ps_ret (pe_tup (pa_cons (pe_str) (pa_cons (pe_prop (pv 0) W.iS.cl hO GO hr2 bO .nil pass0 rfl) pa_nil))))) pss_nil) (pss_one (ps_ret (pe_ifExp (pt_val (pe_callB call_isi (by rfl) W.mi (by decide +kernel) (pa_cons (pv 0) (pa_cons (pe_glob (v := .ref CM) (by rfl) W.gM rfl) pa_nil)))) (pe_tup (pa_cons (pe_str) (pa_cons (pe_prop (pv 0) W.iM.cl hR GR hr2 bR .nil pass0 rfl) (pa_cons (pe_prop (pv 0) W.iM.cl hA GA hr2 bA .nil pass0 rfl) pa_nil)))) pe_non)))), ?_⟩
    cases t with
    | src os =>
      obtain ⟨x, dx, d, rfl, hx, ho⟩ := hv
      refine ⟨.ref x, rfl, .ref x, .ref CS, .ref CS, .ref CS, true, rfl, .own CS, W.iS.ty hx, W.kSS, true, rfl, iteT ?_⟩
      refine ⟨.ref x, rfl, x, dx, _, rfl, hx, x, dx, d, oK os, rfl, hx, ho.1, fun u hu => ⟨(by show 2 ≤ sizeLine; decide), fun U hU => ?_⟩⟩
      exact q _ _ ((KS.sameUpd hu).trans (KS.sameUpd hU)) ⟨U, u, rfl, upd_same, KS.sameUpd hU _ _ upd_same, ho.2⟩
    | mad r as =>
      obtain ⟨x, dx, vr, va, rfl, hx, hr', ha'⟩ := hv
      refine ⟨.ref x, rfl, .ref x, .ref CS, .ref CM, .ref CS, false, rfl, .own CS, W.iM.ty hx, W.kMS, false, rfl, iteF ?_⟩
      refine ⟨.ref x, rfl, .ref x, .ref CM, .ref CM, .ref CM, true, rfl, .own CM, W.iM.ty hx, M.kMM, true, rfl, iteT ?_⟩
      refine ⟨.ref x, rfl, x, dx, _, rfl, hx, x, dx, _, vr, rfl, hx, rfl, .ref x, rfl, x, dx, _, rfl, hx, x, dx, _, va, rfl, hx, rfl, (by show 3 ≤ sizeLine; decide), fun U hU => ?_⟩
      have sU := KS.sameUpd (o := .tup [.str "made", vr, va]) hU
      exact q _ _ sU ⟨U, vr, va, rfl, upd_same, hr'.stl (Stl.same sU), ha'.stl (Stl.same sU)⟩
def spRefu (CP : Addr) : Sp := fun vs H Q _ => ∃ p kvs z, vs = [.ref p, .str z] ∧ PrAt CP H p kvs ∧ valV kvs (.inr z) = none ∧ ∀ H', Same H H' → Q (.str z) H'
abbrev nRefu : List Str := ["_law_project", "_law_name", "_law_found", "e"]
theorem scRefu : FnScope nRefu ["_law_project", "_law_name"] (defScope lRefuses) := ⟨rfl, rfl, rfl, by decide +kernel, rfl, by decide +kernel, by decide +kernel⟩
theorem okRefu {k : Nat} (W : Pjc P w K mg base CS CM CP NT NS) (M : Pmd P w K mg base CS CM CP NT NS BE) (G : Pgt P w K mg base CP NT) (F : FnP K "_law_refuses" lRefuses f fd) : FnOk P w K mg base CX0 (k + 5) f fd ["_law_project", "_law_name"] (spRefu CP) := by
  obtain ⟨fG, dG, h1, h2, h3, bG, GG⟩ := G.get
  have xfT : XfC K NT := ⟨W.xT.xc.ga, W.xT.xc.gg, W.xT.xc.ex, W.xT.xc.hd⟩
  refine F.ok scRefu (fun vs H Q E h => ?_) (fun cdv A outer s H vs Q E hr h => ?_)
  · obtain ⟨p, kvs, z, rfl, _⟩ := h
    rfl
  · obtain ⟨p, kvs, z, rfl, hp, hn, q⟩ := h
    have hr4 : Room (3 + 1) _ := hr.mono (by omega)
    refine ⟨_, PSs.nox (pss_cons (ps_set (i := 2) scRefu.nd rfl (.inl rfl) pe_non) (pss_cons (psTryMix rfl rfl takes0
        (fun W' pn xe tk _ => (pss_one (ps_set (i := 2) scRefu.nd rfl (.inl rfl) (OD.pe_ixO (pv 0) (pv 1) GG hr4 h1 h2 h3 bG (fun σ => passAt tk σ)))))
        (.named (i := 3) ⟨rfl, by decide, .inl W.xT.gm⟩ scRefu.nd rfl rfl (fun a oe cls d pn hz hf => (pss_one (ps_set (i := 2) scRefu.nd rfl (.inl rfl) (pe_xf xfT W.xT.no hz hf (pv 3))))) .nil)) (pss_one (ps_ret (pv 2))))), ?_⟩
    obtain ⟨dp, Da, ha, _⟩ := id hp
    refine ⟨.ref p, rfl, .str z, rfl, p, dp, _, rfl, ha, p, kvs, z, rfl, hp, fun v hv => ?_, fun _ => ?_⟩
    · rw [hn] at hv; cases hv
    · refine fun dd H2 s2 hdd => ⟨true, M.eTT, fun _ a0 na => ?_, fun z => Bool.noConfusion z⟩
      exact ⟨.ref a0, rfl, rfl, rfl, dd, _, .str z, rfl, hdd, rfl, .str z, rfl, q H2 s2⟩
/-- two tellings of one target are alike -/
theorem rcSv {H : Hp} {v u : V} {r : Rc} (h : RcIn H v r) (h' : RcIn H u r) : Sv K H 1 v u := by
  cases r with
  | txt z =>
    obtain ⟨rfl, _⟩ := h
    obtain ⟨rfl, _⟩ := h'
    exact .flat (.str z)
  | key a b =>
    obtain ⟨⟨t, rfl, ht⟩, _⟩ := h
    obtain ⟨⟨t', rfl, ht'⟩, _⟩ := h'
    refine .tup (.inl (.inl ht)) (.inl (.inl ht')) rfl (by show 2 ≤ 1000; decide) fun i v w hv hw => ?_
    rw [hv] at hw
    cases hw
    have : v ∈ [V.str a, .str b] := List.mem_of_getElem? hv
    simp only [List.mem_cons, List.not_mem_nil, or_false] at this
    rcases this with rfl | rfl
    · exact .flat (.str a)
    · exact .flat (.str b)
theorem asSv {H : Hp} {v u : V} {as : List Str} (h : AsIn H v as) (h' : AsIn H u as) : Sv K H 1 v u := by
  obtain ⟨t, rfl, ht, hl, _⟩ := h
  obtain ⟨t', rfl, ht', _⟩ := h'
  refine .tup (.inl (.inl ht)) (.inl (.inl ht')) rfl (by rw [List.length_map]; omega) fun i v w hv hw => ?_
  rw [hv] at hw
  cases hw
  obtain ⟨z, _, rfl⟩ := List.mem_map.mp (List.mem_of_getElem? hv)
  exact .flat (.str z)
theorem Sv.up1 {H : Hp} {v u : V} (h : Sv K H 1 v u) : Sv K H 2 v u := by
  cases h with
  | flat h => exact .flat h
  | lst ha hb hl hz h => exact .lst ha hb hl hz fun i v w a b => (h i v w a b).rec (motive := fun n v w _ => n = 0 → Sv K H 1 v w) (fun h _ => .flat h) (fun _ _ _ _ _ _ e => nomatch e) (fun _ _ _ _ _ _ e => nomatch e) (fun a b c d _ => .dct a b c d) rfl
  | tup ha hb hl hz h => exact .tup ha hb hl hz fun i v w a b => (h i v w a b).rec (motive := fun n v w _ => n = 0 → Sv K H 1 v w) (fun h _ => .flat h) (fun _ _ _ _ _ _ e => nomatch e) (fun _ _ _ _ _ _ e => nomatch e) (fun a b c d _ => .dct a b c d) rfl
  | dct ha hb hl h => exact .dct ha hb hl h
theorem toSv {H : Hp} {v u : V} {t : Tg} (h : ToAt H v t) (h' : ToAt H u t) : Sv K H 3 v u := by
  cases t with
  | src os =>
    obtain ⟨t, d, rfl, ht, ho⟩ := h
    obtain ⟨t', d', rfl, ht', ho'⟩ := h'
    refine .tup (.inl (.inl ht)) (.inl (.inl ht')) rfl (by show 2 ≤ 1000; decide) fun i v w hv hw => ?_
    match i, hv, hw with
    | 0, hv, hw => cases hv; cases hw; exact .flat (.str _)
    | 1, hv, hw =>
      cases hv; cases hw
      refine .dct ho.1 ho'.1 rfl fun p hp => ?_
      obtain ⟨z, ez⟩ := oK_str p hp
      exact ⟨z, ez, valMem (oK_nd ho.2.1) hp⟩
    | i + 2, hv, _ => simp at hv
  | mad r as =>
    obtain ⟨t, vr, va, rfl, ht, hr, ha⟩ := h
    obtain ⟨t', vr', va', rfl, ht', hr', ha'⟩ := h'
    refine .tup (.inl (.inl ht)) (.inl (.inl ht')) rfl (by show 3 ≤ 1000; decide) fun i v w hv hw => ?_
    match i, hv, hw with
    | 0, hv, hw => cases hv; cases hw; exact .flat (.str _)
    | 1, hv, hw => cases hv; cases hw; exact Sv.up1 (rcSv hr hr')
    | 2, hv, hw => cases hv; cases hw; exact Sv.up1 (asSv ha ha')
    | i + 3, hv, _ => simp at hv
end
end PJ

set_option Elab.async false
set_option linter.all false
set_option maxRecDepth 100000
set_option maxHeartbeats 8000000
/-! whether a project stands -/
namespace PJ
open PySem PySem.Spec PyProof.Rows L2 KS KS.La
open KX hiding sameUpd
section
variable {P : Program} {w : World} {K : PySem.W.Frag} {mg : Str → Option Value} {base : Heap} {f : Addr} {fd : FuncData} {CS CM CP NT NS BE : Addr}
theorem forJ {J : It} {n : Nat} {g : TG} {tb : TS} {D : Ends} {σ : L2.St} {H : Hp} (Pv : Nat → L2.St → Hp → Prop) (h0 : Pv 0 σ H) (hgo : ∀ i σ H, i < n → Pv i σ H → J.go i H) (hst : ∀ σ H, Pv n σ H → J.stop n H)
    (hs : ∀ i σ H x H', i < n → Pv i σ H → J.yld i H x H' → g x σ H' fun σ2 H2 => tb { D with nx := Pv (i + 1), ct := Pv (i + 1), bk := D.nx } σ2 H2) (hd : ∀ σ H, Pv n σ H → D.nx σ H) :
    ∃ W : Nat → Nat → L2.St → Hp → Prop, (∃ m, W 0 m σ H) ∧ ∀ i m σ H, W i m σ H →
      (J.stop i H ∧ D.nx σ H) ∨ (J.go i H ∧ ∃ N : L2.St → Hp → Prop, (∀ σ' H', N σ' H' → ∃ m', m' < m ∧ W (i + 1) m' σ' H') ∧ ∀ x H', J.yld i H x H' → g x σ H' fun σ2 H2 => tb { D with nx := N, ct := N, bk := D.nx } σ2 H2) := by
  refine ⟨fun i m σ H => m = n - i ∧ i ≤ n ∧ Pv i σ H, ⟨n, by simp, Nat.zero_le _, h0⟩, fun i m σ H hW => ?_⟩
  obtain ⟨rfl, hi, p⟩ := hW
  by_cases lt : i < n
  · exact .inr ⟨hgo i σ H lt p, Pv (i + 1), fun σ' H' p' => ⟨n - (i + 1), by omega, rfl, lt, p'⟩, fun x H' y => hs i σ H x H' lt p y⟩
  · have e : i = n := by omega
    subst e
    exact .inl ⟨hst σ H p, hd σ H p⟩
/-- what is asked of a project -/
structure Pas (P : Program) (w : World) (K : PySem.W.Frag) (mg : Str → Option Value) (base : Heap) (CP NT : Addr) : Prop where
  get : ∃ (f : Addr) (fd : FuncData), PySem.W.findIn K (.ref CP) "__getitem__" = some (some (.ref f)) ∧ PySem.W.fnIn K f = true ∧ PySem.W.isFn K (.ref f) = true ∧ Binds K fd ["self", "at"] [] ∧ FnOk P w K mg base (L2.CX P w) 3 f fd ["self", "at"] (spPGet CP NT)
  has : ∃ (f : Addr) (fd : FuncData), PySem.W.findIn K (.ref CP) "__contains__" = some (some (.ref f)) ∧ PySem.W.isFn K (.ref f) = true ∧ Binds K fd ["self", "x"] [] ∧ FnOk P w K mg base CX0 1 f fd ["self", "x"] (spPHas CP)
  len : ∃ (f : Addr) (fd : FuncData), PySem.W.findIn K (.ref CP) "__len__" = some (some (.ref f)) ∧ PySem.W.isFn K (.ref f) = true ∧ Binds K fd ["self"] [] ∧ FnOk P w K mg base CX0 1 f fd ["self"] (spPLen CP)
  nam : ∃ (p g : Addr) (fd : FuncData), PropOf K CP "names" p g ∧ Binds K fd ["self"] [] ∧ FnOk P w K mg base CX0 1 g fd ["self"] (spNames CP)
def spStands (CS CM CP : Addr) : Sp := fun vs H Q _ => ∃ p d T, vs = [.ref p, .ref d] ∧ PjAt CS CM CP H p T ∧ KtAt H d T ∧ (T.map (·.1)).Nodup ∧ T.length < 60 ∧ ∀ H', Same H H' → Q (.bl true) H'
abbrev nSt : List Str := ["_law_project", "_law_targets", "_law_names", "_law_name"]
theorem scSt : FnScope nSt ["_law_project", "_law_targets"] (defScope lStands) := ⟨rfl, rfl, rfl, by decide +kernel, rfl, by decide +kernel, by decide +kernel⟩
theorem okStands {k : Nat} (W : Pjc P w K mg base CS CM CP NT NS) (B : Bn mg) (G : Pas P w K mg base CP NT) (Sa : Has P w K mg base 4 "_law_same" ["_law_found", "_law_due"] (spSame K 3)) (Re : Has P w K mg base 5 "_law_refuses" ["_law_project", "_law_name"] (spRefu CP))
    (To : Has P w K mg base 3 "_law_is_told" ["_law_target"] (spTold CS CM)) (F : FnP K "_law_stands" lStands f fd) : FnOk P w K mg base CX0 (k + 6) f fd ["_law_project", "_law_targets"] (spStands CS CM CP) := by
  obtain ⟨fG, dG, hG1, hG2, hG3, bG, GG⟩ := G.get
  obtain ⟨fH, dH, hH1, hH2, bH, GH⟩ := G.has
  obtain ⟨fL, dL, hL1, hL2, bL, GL⟩ := G.len
  obtain ⟨pN, gN, dN, hN, bN, GN⟩ := G.nam
  obtain ⟨fS, fdS, gS, kS, bS, GS⟩ := Sa.ex
  obtain ⟨fR, fdR, gR, kR, bR, GR⟩ := Re.ex
  obtain ⟨fT, fdT, gT, kT, bT, GT⟩ := To.ex
  refine F.ok scSt (fun vs H Q E h => ?_) (fun cdv A outer s H vs Q E hr h => ?_)
  · obtain ⟨p, d, T, rfl, _⟩ := h
    rfl
  · obtain ⟨p, d, T, rfl, hp, hd, nd, lT, q⟩ := h
    have hr1 : Room 1 _ := hr.mono (by omega)
    have hr2 : Room (1 + 1) _ := hr.mono (by omega)
    have hr3 : Room 3 _ := hr.mono (by omega)
    have hr4 : Room 4 _ := hr.mono (by omega)
    have hr4' : Room (3 + 1) _ := hr.mono (by omega)
    have hr5 : Room 5 _ := hr.mono (by omega)
    have hu1 : (A.deeper (envOfC "_law_stands" (defScope lStands) s.heap.objs.size f cdv)).units + 1 < cLine := by
      have := hr.units
      omega
    refine ⟨_, PSs.nox (C8.pss_cut (ps_set (i := 2) scSt.nd rfl (.inl rfl) (pe_callB (call_sortedD rfl) (by rfl) W.ms (by decide +kernel) (pa_cons (pv 1) pa_nil))) (C8.pss_cut (ps_if (PW.pt (pw_or (pt_not (pt_val (pe_call GS hr4 (by rfl) gS kS bS .nil pass0 (pa_cons (pe_prop (pv 0) W.iP.cl hN GN hr2 bN .nil pass0 rfl) (pa_cons (pe_callTy (T := "tuple") call_tuple_of (by rfl) W.mt (by decide +kernel) (pa_cons (pv 2) pa_nil)) pa_nil)))))
          (pw_or1 (pt_not (pt_val (pe_call GS hr4 (by rfl) gS kS bS .nil pass0 (pa_cons (pe_callB (OC.call_lenOwn (E := E0) (FnOk.raw GL bL .nil) hr2 hL1 hL2 pass0) (by rfl) W.ml PySem.boot_len (pa_cons (pv 0) pa_nil)) (pa_cons (pe_callB call_len_seq (by rfl) W.ml PySem.boot_len (pa_cons (pv 2) pa_nil)) pa_nil))))))))
        (pss_one (ps_ret pe_bl)) pss_nil) (C8.pss_cut (ps_for PassesOwn.never rfl (pi_list (pe_op op_cat (pv 2) (pe_lst (pa_cons (pe_str) pa_nil)))) (pg_name (i := 3) scSt.nd rfl (.inl rfl))
        (C8.pss_cut (ps_if (pt_not (pt_val (pe_call GS hr4 (by rfl) gS kS bS .nil pass0 (pa_cons (pe_cmpR (OC.op_inOwn (E := E0) (FnOk.raw GH bH .nil) hr1 hH1 hH2 pass0) (pv 3) (pv 0) (by rfl)) (pa_cons (pe_cmp (pc_din hu1 (pv 3) (pv 1)) rfl) pa_nil))))) (pss_one (ps_ret pe_bl)) pss_nil) (pss_one (ps_if (PW.pt (pw_and (pt_cmp (pc_dnotin hu1 (pv 3) (pv 1))) (pw_and1 (pt_cmpR op_ne (pe_call GR hr5 (by rfl) gR kR bR .nil pass0 (pa_cons (pv 0) (pa_cons (pv 3) pa_nil))) (pv 3) (nomark _))))) (pss_one (ps_ret pe_bl)) pss_nil)))) (pss_one (ps_ret (pe_cmpR (r := rEqD K) (op_eqD hr.units) (pe_lc (own := [("_law_name", 3)]) (g := gName 3) rfl scSt.nd (pi_list (pv 2)) (blkOk_by (N := nSt) (sc := defScope lStands) (by decide +kernel))
        (fun _ _ _ _ _ => pg_name (i := 3) scSt.nd rfl (.inl rfl) (hf := .inr rfl)) (fun _ _ _ _ _ => pts_one (pt_not (pt_val (pe_call GS hr4 (by rfl) gS kS bS .nil pass0 (pa_cons (pe_call GT hr3 (by rfl) gT kT bT .nil pass0 (pa_cons (OD.pe_ixO (E := fun _ => E0) (pv 0) (pv 3) GG hr4' hG1 hG2 hG3 bG (fun _ => OD.passAt0)) pa_nil)) (pa_cons (pe_dget hu1 (pv 1) (pv 3) (fun _ _ => rfl)) pa_nil))))))
        (fun _ _ _ _ _ => pe_int)) (pe_lst pa_nil) (nomark _))))))), ?_⟩
    obtain ⟨kp, hpr, tP⟩ := id hp
    obtain ⟨kd, ed, tD⟩ := id hd
    obtain ⟨dp, Da, ha, eDa⟩ := id hpr
    have lD := tD.len
    have lP := tP.len
    refine ⟨fun σ' H' => ∃ u zs, σ' = [some (.ref p), some (.ref d), some (.ref u), none] ∧ Same H H' ∧ H' u = some (.lst (zs.map V.str)) ∧ zs.Perm (T.map (·.1)) ∧ sortedS zs = true, ?_, ?_⟩
    · refine ⟨.ref d, rfl, d, kd, T.map (·.1), rfl, .inl ed, tD.keys, by rw [List.length_map]; omega, fun zs u hz hs hu => ?_⟩
      exact ⟨u, zs, rfl, KS.sameUpd hu, upd_same, hz, hs⟩
    rintro _ H1 ⟨u, zs, rfl, s1, eu, hz, hs⟩
    have lz : zs.length = T.length := by rw [hz.length_eq, List.length_map]
    refine ⟨fun σ' H' => σ' = [some (.ref p), some (.ref d), some (.ref u), none] ∧ Same H1 H', ?_, ?_⟩
    · refine ⟨.ref p, rfl, p, dp, _, rfl, s1 _ _ ha, p, kp, T.map (·.1), rfl, hpr.stl (Stl.same s1), tP.keys, by rw [List.length_map]; omega, fun ys t H2 hy hs2 s2 et => ?_⟩
      have ey : ys = zs := SU.uniq (hy.trans hz.symm) hs2 hs
      subst ey
      refine ⟨.ref u, rfl, u, _, rfl, .inl ⟨.inl (.inl (s2 _ _ eu)), fun t2 ht2 => ?_⟩⟩
      have s3 := KS.sameUpd (o := .tup (ys.map V.str)) ht2
      refine ⟨.ref t, .ref t2, rfl, .tup (.inl (.inl (s3 _ _ et))) (.inl (.inl upd_same)) rfl (by rw [List.length_map]; omega) (fun i v w hv hw => ?_), fun H3 s4 => ⟨true, rfl, iteF ?_⟩⟩
      · rw [hv] at hw
        cases hw
        obtain ⟨z, _, rfl⟩ := List.mem_map.mp (List.mem_of_getElem? hv)
        exact .flat (.str z)
      have s5 := s2.trans (s3.trans s4)
      refine ⟨.ref p, rfl, p, dp, _, rfl, s5 _ _ (s1 _ _ ha), p, kp, rfl, hpr.stl (Stl.same (s1.trans s5)), (kp.length : Int), rfl, by omega, by omega, ?_⟩
      refine ⟨.ref u, rfl, u, _, rfl, .inl (.inl (.inl (s5 _ _ eu))), .int kp.length, .int (ys.map V.str).length, rfl, ?_, fun H4 s6 => ⟨true, rfl, iteF ⟨rfl, s5.trans s6⟩⟩⟩
      rw [List.length_map, lz, lP]
      exact .flat (.int _)
    rintro _ H2 ⟨rfl, s2⟩
    -- the names
    refine ⟨fun σ' H' => ∃ x, σ' = [some (.ref p), some (.ref d), some (.ref u), x] ∧ Same H2 H', ?_, ?_⟩
    · refine ⟨.ref u, rfl, (by show 1 ≤ sizeLine; decide), fun l hl => ?_⟩
      have sl := KS.sameUpd (o := .lst [.str "zz9"]) hl
      refine ⟨u, l, zs.map V.str, [.str "zz9"], rfl, rfl, sl _ _ (s2 _ _ eu), upd_same, by rw [List.length_map, sizeLine_eq]; show zs.length + 1 ≤ _; omega, fun g hg => ?_⟩
      have sg := KS.sameUpd (o := .lst (zs.map V.str ++ [.str "zz9"])) hg
      have eg : upd (upd H2 l (.lst [.str "zz9"])) g (.lst (zs.map V.str ++ [.str "zz9"])) g = some (.lst ((zs ++ [("zz9" : Str)]).map V.str)) := by rw [List.map_append]; exact upd_same
      have s4 : Same H2 (upd (upd H2 l (.lst [.str "zz9"])) g (.lst (zs.map V.str ++ [.str "zz9"]))) := sl.trans sg
      generalize upd (upd H2 l (.lst [.str "zz9"])) g (.lst (zs.map V.str ++ [.str "zz9"])) = H4 at *
      generalize zs ++ [("zz9" : Str)] = ws at *
      refine ⟨g, rfl, ⟨_, .inl (.inl eg)⟩, ?_⟩
      refine forJ (n := ws.length) (fun i σ' H' => ∃ x, σ' = [some (.ref p), some (.ref d), some (.ref u), x] ∧ Same H4 H') ⟨_, rfl, Same.refl _⟩
        (fun i σ' H' lt h => by obtain ⟨_, _, s⟩ := h; exact ⟨_, V.str ws[i], .inl (.inl (s _ _ eg)), by rw [List.getElem?_map, List.getElem?_eq_getElem lt]; rfl⟩)
        (fun σ' H' h => by obtain ⟨_, _, s⟩ := h; exact ⟨_, .inl (.inl (s _ _ eg)), by rw [List.length_map]; exact Nat.le_refl _⟩) (fun i σ' H5 x H6 lt h y => ?_) (fun σ' H' h => ?_)
      · obtain ⟨rfl, y⟩ := y
        obtain ⟨x3, rfl, s5⟩ := h
        have ex := y _ (.inl (.inl (s5 _ _ eg)))
        rw [List.getElem?_map, List.getElem?_eq_getElem lt] at ex
        obtain rfl : V.str ws[i] = x := Option.some.inj ex
        generalize ws[i] = z at *
        have sA := s1.trans (s2.trans (s4.trans s5))
        have two : (valV kp (.inr z)).isSome = (valV kd (.inr z)).isSome ∧ (valV kd (.inr z) = none → valV kp (.inr z) = none) := by
          rcases tP.look z with ⟨a, b⟩ | ⟨_, _, a, b, _⟩ <;> rcases tD.look z with ⟨c, e⟩ | ⟨_, _, c, e, _⟩ <;> (rw [b] at e; first | cases e | skip) <;> rw [a, c]
          · exact ⟨rfl, fun _ => rfl⟩
          · exact ⟨rfl, fun n => nomatch n⟩
        refine ⟨fun σ' H' => σ' = [some (.ref p), some (.ref d), some (.ref u), some (.str z)] ∧ Same H6 H', ?_, ?_⟩
        · refine ⟨.str z, rfl, .ref p, rfl, p, dp, _, rfl, sA _ _ ha, p, kp, z, rfl, hpr.stl (Stl.same sA), _, rfl, ?_⟩
          refine ⟨.str z, rfl, .ref d, rfl, d, _, rfl, DGet.k (k := Sum.inr z) (sA _ _ ed), _, _, rfl, ?_, fun H7 s7 => ⟨true, rfl, iteF ⟨rfl, s7⟩⟩⟩
          show Sv K H6 3 (.bl (valV kp (.inr z)).isSome) (.bl (valV kd (.inr z)).isSome)
          rw [two.1]
          exact .flat (.bl _)
        rintro _ H7 ⟨rfl, s7⟩
        have sB := sA.trans s7
        refine ⟨.str z, rfl, .ref d, rfl, d, _, rfl, DGet.k (k := Sum.inr z) (sB _ _ ed), _, rfl, ?_⟩
        cases e : valV kd (Sum.inr z) with
        | some v => exact iteF ⟨_, rfl, s5.trans s7⟩
        | none =>
          refine iteT ⟨.ref p, rfl, .str z, rfl, p, kp, z, rfl, hpr.stl (Stl.same sB), two.2 e, fun H8 s8 => ⟨.str z, rfl, rfl, _, rfl, ?_⟩⟩
          rw [wE]
          exact iteF ⟨_, rfl, s5.trans (s7.trans s8)⟩
      · obtain ⟨x3, rfl, s5⟩ := h
        exact ⟨x3, rfl, s4.trans s5⟩
    rintro _ H3 ⟨x3, rfl, s3⟩
    have eu3 := s3 _ _ (s2 _ _ eu)
    have sH := s1.trans (s2.trans s3)
    -- what stands under the names
    refine ⟨.ref u, rfl, u, rfl, ⟨_, .inl (.inl eu3)⟩, fun D hD => ?_⟩
    refine lcJ (n := zs.length) (vs := [3]) (fun i H' => At H3 D [] H') ⟨KS.sameUpd hD, upd_same⟩ (fun i H' lt h => ?_) (fun H' h => ?_) (fun i H' x H4 lt h y => ?_) (fun H' h => ?_)
    · exact ⟨_, V.str zs[i], .inl (.inl (h.1 _ _ eu3)), by rw [List.getElem?_map, List.getElem?_eq_getElem lt]; rfl⟩
    · exact ⟨_, .inl (.inl (h.1 _ _ eu3)), by rw [List.length_map]; exact Nat.le_refl _⟩
    · obtain ⟨rfl, y⟩ := y
      have ex := y _ (.inl (.inl (h.1 _ _ eu3)))
      rw [List.getElem?_map, List.getElem?_eq_getElem lt] at ex
      obtain rfl : V.str zs[i] = x := Option.some.inj ex
      have hm : zs[i] ∈ T.map (·.1) := hz.mem_iff.mp (List.getElem_mem lt)
      obtain ⟨⟨z, t⟩, mt, ezt⟩ := List.mem_map.mp hm
      have ez : z = zs[i] := ezt
      rw [← ez]
      have et := tMem nd mt
      have sA := sH.trans h.1
      obtain ⟨v, t1, ev, e1, hv⟩ : ∃ v t1, valV kp (.inr z) = some v ∧ tLook T z = some t1 ∧ TgAt CS CM H v t1 := by
        rcases tP.look z with ⟨_, n⟩ | r
        · rw [et] at n; cases n
        · exact r
      obtain ⟨v2, t2, ev2, e2, hv2⟩ : ∃ v t1, valV kd (.inr z) = some v ∧ tLook T z = some t1 ∧ ToAt H v t1 := by
        rcases tD.look z with ⟨_, n⟩ | r
        · rw [et] at n; cases n
        · exact r
      rw [et] at e1 e2
      cases e1
      cases e2
      refine ⟨rfl, .ref p, rfl, .str z, rfl, p, dp, _, rfl, sA _ _ ha, p, kp, z, rfl, hpr.stl (Stl.same sA), fun v' hv' => ?_, fun n => ?_⟩
      · rw [ev] at hv'
        cases hv'
        refine ⟨v, t, rfl, hv.stl (Stl.same sA), fun r H5 s5 hr5 => ?_⟩
        have sB := sA.trans s5
        have g : DGet H5 d (kV (Sum.inr z)) (some v2) := by
          have := DGet.k (k := (Sum.inr z : Key)) (sB _ _ ed)
          rw [ev2] at this
          exact this
        refine ⟨.ref d, rfl, .str z, rfl, d, v2, rfl, g, r, v2, rfl, toSv hr5 (hv2.stl (Stl.same sB)), fun H6 s6 => ⟨true, rfl, iteF ?_⟩⟩
        exact ⟨h.1.trans (s5.trans s6), s6 _ _ (s5 _ _ h.2)⟩
      · rw [ev] at n; cases n
    · refine ⟨Nat.zero_le _, fun e he => ?_⟩
      refine eqNil (n := 0) (KS.sameUpd he _ _ h.2) upd_same ⟨[], fun _ => .nil, fun d hd => absurd hd (by simp), Nat.le_refl _⟩ ?_
      exact q _ (sH.trans (h.1.trans (KS.sameUpd he)))
end
end PJ

set_option Elab.async false
set_option linter.all false
set_option maxRecDepth 100000
set_option maxHeartbeats 8000000
/-! what the law keeps -/
namespace PJ
open PySem PySem.Spec PyProof.Rows L2 KS KS.La
open KX hiding sameUpd
theorem tPut_keys {T : Tb} {k : Str} {t : Tg} : (tPut T k t).map (·.1) = if k ∈ T.map (·.1) then T.map (·.1) else T.map (·.1) ++ [k] := by
  unfold tPut
  by_cases h : k ∈ T.map (·.1)
  · have : (T.any fun p => decide (p.1 = k)) = true := by
      obtain ⟨p, hp, e⟩ := List.mem_map.mp h
      exact List.any_eq_true.mpr ⟨p, hp, decide_eq_true e⟩
    rw [if_pos this, if_pos h, List.map_map]
    refine List.map_congr_left fun p _ => ?_
    show (if p.1 = k then (p.1, t) else p).1 = p.1
    split <;> rfl
  · have : ¬ (T.any fun p => decide (p.1 = k)) = true := fun h2 => by
      obtain ⟨p, hp, e⟩ := List.any_eq_true.mp h2
      exact h (List.mem_map.mpr ⟨p, hp, of_decide_eq_true e⟩)
    rw [if_neg this, if_neg h, List.map_append]
    rfl
theorem tPut_nd {T : Tb} {k : Str} {t : Tg} (h : (T.map (·.1)).Nodup) : ((tPut T k t).map (·.1)).Nodup := by
  rw [tPut_keys]
  split
  · exact h
  · rename_i n
    exact List.nodup_append.mpr ⟨h, by simp, fun a ha b hb e => n (by rw [List.mem_singleton.mp hb] at e; exact e ▸ ha)⟩
theorem tPut_len {T : Tb} {k : Str} {t : Tg} : (tPut T k t).length ≤ T.length + 1 := by
  have h : ((tPut T k t).map (·.1)).length ≤ (T.map (·.1)).length + 1 := by
    rw [tPut_keys]
    split
    · omega
    · rw [List.length_append]; exact Nat.le_refl _
  rwa [List.length_map, List.length_map] at h
theorem tDrop_nd {T : Tb} {k : Str} (h : (T.map (·.1)).Nodup) : ((tDrop T k).map (·.1)).Nodup := h.sublist (List.Sublist.map _ List.filter_sublist)
theorem tDrop_len {T : Tb} {k : Str} : (tDrop T k).length ≤ T.length := List.length_filter_le _ _
/-- so large at most: n changes on -/
def TbOk (n : Nat) (T : Tb) : Prop := (T.map (·.1)).Nodup ∧ T.length ≤ 5 + n ∧ ∀ z os, (z, Tg.src os) ∈ T → os.length ≤ 4 + n
theorem TbOk.up {n m : Nat} {T : Tb} (h : TbOk n T) (l : n ≤ m) : TbOk m T := ⟨h.1, by have := h.2.1; omega, fun z os hm => by have := h.2.2 z os hm; omega⟩
theorem tLook_mem {T : Tb} {z : Str} {t : Tg} (h : tLook T z = some t) : (z, t) ∈ T := by
  unfold tLook at h
  cases hf : T.find? fun p => decide (p.1 = z) with
  | none => rw [hf] at h; cases h
  | some q =>
    rw [hf] at h
    have e1 : q.1 = z := of_decide_eq_true (List.find?_some (p := fun p : Str × Tg => decide (p.1 = z)) hf)
    have e2 : q.2 = t := Option.some.inj h
    have := List.mem_of_find?_eq_some hf
    rw [← e1, ← e2]
    exact this
theorem TbOk.wr {n : Nat} {T : Tb} (h : TbOk n T) (z : Str) : (wrOs T z).length ≤ 4 + n := by
  unfold wrOs
  cases e : tLook T z with
  | none => exact Nat.zero_le _
  | some t =>
    cases t with
    | src os => exact h.2.2 z os (tLook_mem e)
    | mad r as => exact Nat.zero_le _
theorem TbOk.put {n : Nat} {T : Tb} {z : Str} {t : Tg} (h : TbOk n T) (ht : ∀ os, t = .src os → os.length ≤ 4 + n + 1) : TbOk (n + 1) (tPut T z t) := by
  refine ⟨tPut_nd h.1, by have := tPut_len (T := T) (k := z) (t := t); have := h.2.1; omega, fun y os hm => ?_⟩
  unfold tPut at hm
  split at hm
  · obtain ⟨p, hp, e⟩ := List.mem_map.mp hm
    by_cases c : p.1 = z
    · rw [if_pos c] at e
      injection e with _ e2
      have := ht os e2
      omega
    · rw [if_neg c] at e
      subst e
      have := h.2.2 _ _ hp
      omega
  · rcases List.mem_append.mp hm with hp | hp
    · have := h.2.2 _ _ hp
      omega
    · have e := List.mem_singleton.mp hp
      injection e with _ e2
      have := ht os e2.symm
      omega
theorem TbOk.drop {n : Nat} {T : Tb} {z : Str} (h : TbOk n T) : TbOk n (tDrop T z) := ⟨tDrop_nd h.1, by have := tDrop_len (T := T) (k := z); have := h.2.1; omega, fun y os hm => h.2.2 y os (List.mem_filter.mp hm).1⟩
theorem TbOk.res {n : Nat} {T T' : Tb} {z : Str} {D : Dd} (h : TbOk n T) (hD : ∀ t os, D = .put t → t = .src os → os.length ≤ 4) (e : dRes T z D = .inl T') : TbOk (n + 1) T' := by
  cases D with
  | put t =>
    cases e
    exact h.put fun os et => by have := hD t os rfl et; omega
  | wout =>
    have e1 : dRes T z .wout = .inl T' := e
    unfold dRes at e1
    cases e2 : tLook T z with
    | none => rw [e2] at e1; cases e1
    | some t =>
      rw [e2] at e1
      cases e1
      exact h.drop.up (Nat.le_succ n)
  | wr o y =>
    have e1 : dRes T z (.wr o y) = .inl T' := e
    have key : T' = tPut T z (.src (oPut (wrOs T z) o y)) := by
      unfold dRes at e1
      cases e2 : tLook T z with
      | none => rw [e2] at e1; cases e1; rfl
      | some t =>
        rw [e2] at e1
        cases t with
        | src os => cases e1; rfl
        | mad r as => cases e1
    rw [key]
    exact h.put fun os et => by cases et; have := oPut_len (os := wrOs T z) (k := o) (z := y); have := h.wr z; omega
  | er o =>
    have e1 : dRes T z (.er o) = .inl T' := e
    unfold dRes at e1
    cases e2 : tLook T z with
    | none => rw [e2] at e1; cases e1
    | some t =>
      rw [e2] at e1
      cases t with
      | src os => cases e1; exact h.put fun os' et => by cases et; have := oDrop_len (os := os) (k := o); have := h.2.2 _ _ (tLook_mem e2); omega
      | mad r as => cases e1
/-- told away from t0 -/
def ToX (t0 : Addr) (H : Hp) (v : V) (t : Tg) : Prop := ∀ H2, (∀ b o, b ≠ t0 → H b = some o → (∀ xs, o ≠ .lst xs) → H2 b = some o) → ToAt H2 v t
theorem ToX.to {t0 : Addr} {H : Hp} {v : V} {t : Tg} (h : ToX t0 H v t) : ToAt H v t := h H fun _ _ _ e _ => e
theorem ToX.on {t0 : Addr} {H H' : Hp} {v : V} {t : Tg} (h : ToX t0 H v t) (s : ∀ b o, b ≠ t0 → H b = some o → (∀ xs, o ≠ .lst xs) → H' b = some o) : ToX t0 H' v t := fun H2 g => h H2 fun b o nb hb hx => g b o nb (s b o nb hb hx) hx
/-- a project and the law's own -/
def PrIt (CS CM CP : Addr) (n : Nat) (H : Hp) (v : V) : Prop := ∃ t p d T, v = .ref t ∧ H t = some (.tup [.ref p, .ref d]) ∧ PjAt CS CM CP H p T ∧ KtAt H d T ∧ TbOk n T
theorem PrIt.stl {CS CM CP : Addr} {n m : Nat} {H H' : Hp} {v : V} (h : PrIt CS CM CP n H v) (s : Stl H H') (l : n ≤ m) : PrIt CS CM CP m H' v := let ⟨t, p, d, T, e, a, b, c, k⟩ := h; ⟨t, p, d, T, e, s _ _ a (fun _ z => nomatch z), b.stl s, c.stl s, k.up l⟩
/-! ### how the law's own tables compare -/
section
variable {K : PySem.W.Frag}
theorem osEbD {H : Hp} {d d' : Addr} {os os' : Outs} (h : OsIn H d os) (h' : OsIn H d' os') : DB.Eb K H 1 (.ref d) (.ref d') (osE os os') := by
  refine .inr (.inr ⟨d, d', oK os, oK os', eF (oK os) (oK os'), rfl, rfl, h.1, h'.1, fun e => ?_, osEb h.2.1, rfl⟩)
  subst e
  have eo : oK os = oK os' := by
    have := Option.some.inj (h.1.symm.trans h'.1)
    injection this
  have := osE_refl h.2.1
  unfold osE at this ⊢
  rw [← eo]
  exact this
theorem toEb {H : Hp} {v u : V} {t t' : Tg} (h : ToAt H v t) (h' : ToAt H u t') : DB.Eb K H 2 v u (tgE t t') := by
  have word : ∀ z : Str, DB.Eb K H 1 (.str z) (.str z) true := fun z => .inl (.inl ⟨rfl, rfl, by show true = (z == z); simp⟩)
  cases t with
  | src os =>
    obtain ⟨x, d, rfl, hx, ho⟩ := h
    cases t' with
    | src os' =>
      obtain ⟨y, d', rfl, hy, ho'⟩ := h'
      refine .inr (.inl ⟨x, y, _, _, true && (osE os os' && true), rfl, rfl, .inl (.inl hx), .inl (.inl hy), fun e => ?_, .cons (word _) fun _ => .cons (osEbD ho ho') fun _ => .nilL, ?_⟩)
      · subst e
        rw [hx] at hy
        have := Option.some.inj hy
        injection this with this
        injection this with _ this
        injection this with e1 _
        have e2 := V.ref.inj e1
        subst e2
        have eo : oK os = oK os' := by
          have := Option.some.inj (ho.1.symm.trans ho'.1)
          injection this
        show osE os os' = true
        have := osE_refl ho.2.1
        unfold osE at this ⊢
        rw [← eo]
        exact this
      · show osE os os' = _
        simp
    | mad r as =>
      obtain ⟨y, vr, va, rfl, hy, _⟩ := h'
      refine .inr (.inl ⟨x, y, _, _, false && true, rfl, rfl, .inl (.inl hx), .inl (.inl hy), fun e => ?_, .cons (.inl (.inl ⟨rfl, rfl, by decide +kernel⟩)) (fun z => nomatch z), rfl⟩)
      subst e
      rw [hx] at hy
      have := Option.some.inj hy
      injection this with this
      injection this with _ this
      injection this with _ this
      cases this
  | mad r as =>
    obtain ⟨x, vr, va, rfl, hx, hr, ha⟩ := h
    cases t' with
    | src os' =>
      obtain ⟨y, d', rfl, hy, ho'⟩ := h'
      refine .inr (.inl ⟨x, y, _, _, false && true, rfl, rfl, .inl (.inl hx), .inl (.inl hy), fun e => ?_, .cons (.inl (.inl ⟨rfl, rfl, by decide +kernel⟩)) (fun z => nomatch z), rfl⟩)
      subst e
      rw [hx] at hy
      have := Option.some.inj hy
      injection this with this
      injection this with _ this
      injection this with _ this
      cases this
    | mad r' as' =>
      obtain ⟨y, vr', va', rfl, hy, hr', ha'⟩ := h'
      have e1 : DB.Eb K H 1 vr vr' (PyData.eqv (rcD r) (rcD r')) := .inl (.inr ⟨_, _, hr.dp.1, hr'.dp.1, (hr.dp (K := K)).2, (hr'.dp (K := K)).2, rfl⟩)
      have e2 : DB.Eb K H 1 va va' (PyData.eqv (argsD as) (argsD as')) := .inl (.inr ⟨_, _, ha.dp.1, ha'.dp.1, (ha.dp (K := K)).2, (ha'.dp (K := K)).2, rfl⟩)
      refine .inr (.inl ⟨x, y, _, _, true && (PyData.eqv (rcD r) (rcD r') && (PyData.eqv (argsD as) (argsD as') && true)), rfl, rfl, .inl (.inl hx), .inl (.inl hy), fun e => ?_, .cons (word _) fun _ => .cons e1 fun _ => .cons e2 fun _ => .nilL, ?_⟩)
      · subst e
        rw [hx] at hy
        have := Option.some.inj hy
        injection this with this
        injection this with _ this
        injection this with e1 this
        injection this with e2 _
        subst e1 e2
        show (PyData.eqv (rcD r) (rcD r') && PyData.eqv (argsD as) (argsD as')) = true
        rw [← eqSame hr hr', ← asSame ha ha', SeqAt.eqv_refl _ (SeqAt.canLay_of_shaped (hr.dp (K := K)).2), SeqAt.eqv_refl _ (SeqAt.canLay_of_shaped (ha.dp (K := K)).2)]
        rfl
      · show (PyData.eqv (rcD r) (rcD r') && PyData.eqv (argsD as) (argsD as')) = _
        simp
theorem ktEb {H : Hp} {ka kb : List (Key × V)} {T T' : Tb} (t1 : Tab (ToAt H) ka T) (t2 : Tab (ToAt H) kb T') (nd : (T.map (·.1)).Nodup) : ∀ k v u, (k, v) ∈ ka → valV kb k = some u → DB.Eb K H 2 v u (eT T T' k) := fun k v u hm hv => by
  obtain ⟨z, t, rfl, mt, ht⟩ := t1.mem k v hm
  rcases t2.look z with ⟨n, _⟩ | ⟨y2, t', e1, e2, ht'⟩
  · rw [hv] at n; cases n
  · obtain rfl : u = y2 := Option.some.inj (hv.symm.trans e1)
    have eq : eT T T' (.inr z) = tgE t t' := by
      show teF T T' z = _
      unfold teF
      rw [tMem nd mt, e2]
    rw [eq]
    exact toEb ht ht'
end
end PJ

set_option Elab.async false
set_option linter.all false
set_option maxRecDepth 100000
set_option maxHeartbeats 8000000
/-! the law -/
namespace PJ
open PySem PySem.Spec PyProof.Rows L2 KS KS.La
open KX hiding sameUpd
abbrev lLaw : Stmt := top 26
def spLaw (K : PySem.W.Frag) : Sp := fun vs H Q _ => ∃ (a : Addr) (ns : List Int), vs = [.ref a] ∧ SqL K H a (ns.map V.int) ∧ ns.length ≤ 63 ∧ ∀ H', Q (.bl true) H'
abbrev nLaw : List Str := ["_law_script", "_law_k", "_law_feed", "_law_names", "_law_targets", "_law_name", "_law_projects", "_law_turn", "_law_project", "_law_deed", "_law_told", "_law_due", "_law_found", "_law_one", "_law_kept", "_law_other", "_law_more"]
theorem scLaw : FnScope nLaw ["_law_script"] (defScope lLaw) := ⟨rfl, rfl, rfl, by decide +kernel, rfl, by decide +kernel, by decide +kernel⟩
abbrev sl (sc : Addr) (x1 x2 x3 x4 x5 x6 x7 x8 x9 x10 x11 x12 x13 x14 x15 x16 : Option V) : L2.St := [some (.ref sc), x1, x2, x3, x4, x5, x6, x7, x8, x9, x10, x11, x12, x13, x14, x15, x16]
def nmsL : List Str := ["a", "b", "a1", "zzzzzzz1", "zzzzzzz2"]
theorem cutTake (xs : List V) (j : Nat) : cutV xs none (some (j : Int)) = xs.take j := by
  unfold cutV
  rw [HT.sIx_nat, HT.sIx_none, List.drop_zero, Nat.sub_zero]
  rcases Nat.le_total j xs.length with h | h
  · rw [Nat.min_eq_left h]
  · rw [Nat.min_eq_right h, List.take_of_length_le h, List.take_length]
theorem cutLast (xs : List V) : cutV xs (some (-3)) none = xs.drop (xs.length - 3) := by
  unfold cutV
  rw [HT.sIx_none]
  have e : HT.sIx xs.length 0 (some (-3)) = xs.length - 3 := by
    show (if (-3 : Int) < 0 then ((-3 : Int) + (xs.length : Int)).toNat else min (-3 : Int).toNat xs.length) = xs.length - 3
    rw [if_pos (by decide)]
    omega
  rw [e]
  exact List.take_of_length_le (Nat.le_of_eq List.length_drop)
theorem ddSame {H H' : Hp} {vd vt : V} {D : Dd} (s : Same H H') (h : DdAt H vd vt D) : DdAt H' vd vt D := by
  cases D with
  | put t => exact ⟨h.1, h.2.stl (Stl.same s)⟩
  | wout => obtain ⟨a, u, o, y, b, c⟩ := h; exact ⟨a, u, o, y, b, s _ _ c⟩
  | wr o y => obtain ⟨a, u, b, c⟩ := h; exact ⟨a, u, b, s _ _ c⟩
  | er o => obtain ⟨a, u, y, b, c⟩ := h; exact ⟨a, u, y, b, s _ _ c⟩
/-! ### == of an own object, either way -/
def rEqO (K : PySem.W.Frag) (C : Addr) (sp : Sp) : R2 := fun x y H Q => ∃ a b dx fs, x = .ref a ∧ y = .ref b ∧ H a = some (.ins C dx fs) ∧ ((∃ C' dy gs, H b = some (.ins C' dy gs) ∧ PySem.W.notFirst K C (.ref C') = true) ∨ ∃ kvs, H b = some (.dK kvs)) ∧ sp [x, y] H (fun v H' => ∃ c, v = .bl c ∧ Q v H') E0
theorem op_eqO {X : Cx} {n : Nat} {C f : Addr} {fd : FuncData} {ps : List Str} {sp : Sp} (F : FnOk X.prog X.w X.K X.mg X.base CX0 n f fd ps sp) (hr : Room n X.A)
    (hs : PySem.W.findIn X.K (.ref C) "__eq__" = some (some (.ref f))) (hf : PySem.W.isFn X.K (.ref f) = true) (hb : Binds X.K fd ps []) (hD : PySem.W.subIn X.K (.type "dict") (.ref C) = some false) : OpR X (compareOp .Eq) (rEqO X.K C sp) := by
  intro pins s σ H x y v u Q I rx ry h
  obtain ⟨a, b, dx, fs, rfl, rfl, ha, hy, hsp⟩ := h
  cases rx
  cases ry
  obtain ⟨mA, J, _⟩ := ins_get I.hok ha
  obtain ⟨od, J, _⟩ := J.look
  obtain ⟨m, hF⟩ := I.fr
  show wpAny (model X.prog X.w) X.A (richCompare .Eq (.ref a) (.ref b)) (EP X pins σ Q) X.xe s
  have go : ∀ {tb : Value}, PySem.W.Looks (model X.prog X.w) s.heap (typeOf (.ref b)) tb → PySem.W.notFirst X.K C tb = true → wpAny (model X.prog X.w) X.A (richCompare .Eq (.ref a) (.ref b)) (EP X pins σ Q) X.xe s := fun {tb} lk nf => by
    refine PySem.W.cmp_K (op := .Eq) (tb := tb) hr.units0 hF I.ok.mod.kin J lk nf hs hf ?_
    have hl := F.len _ _ _ _ hsp
    have r2 : Vals [V.ref a, V.ref b] [Value.ref a, Value.ref b] := .cons rfl (.cons rfl .nil)
    refine wpAny_call (codeAny_mono (F.run X.A X.stack s H ⟨[.ref a, .ref b], []⟩ [.ref a, .ref b] [.ref a, .ref b] _ E0 hr I.env0 (by
      have := hb s [.ref a, .ref b] I.kIn (by simpa using hl)
      simpa using this) r2 hsp) fun r s' hq => ?_)
    cases r with
    | error e => exact pass0 pins σ H s e s' I hq
    | ok fl =>
      cases fl with
      | ret w =>
        obtain ⟨z, H', I', rz, c, ez, q⟩ := I.after hq
        subst ez
        cases rz
        exact ⟨.bl c, H', I', rfl, q⟩
      | next => exact False.elim hq
      | brk => exact False.elim hq
      | cont => exact False.elim hq
  rcases hy with ⟨C', dy, gs, hb', nf⟩ | ⟨kvs, hb'⟩
  · obtain ⟨mB, J', _⟩ := ins_get I.hok hb'
    obtain ⟨od', J', _⟩ := J'.look
    exact go J'.type nf
  · obtain ⟨_, _, vs, _, dd⟩ := dk_of I.hok hb'
    obtain ⟨o, ho, hc⟩ := dd.typeIs (s := s)
    exact go (tb := .type "dict") ((PySem.W.Looks.ld ho).andThen (by rw [hc]; exact .now)) (by simp [PySem.W.notFirst, hD])
/-- what the law asks beside its own defs -/
structure LawC (P : Program) (w : World) (K : PySem.W.Frag) (mg : Str → Option Value) (base : Heap) (CS CM CP CT : Addr) : Prop where
  gT : mg "Target" = some (.ref CT)
  kST : PySem.W.kitOne K (.ref CS) (.ref CT) = some true
  kMT : PySem.W.kitOne K (.ref CM) (.ref CT) = some true
  kPs : PySem.W.kitOne K (.ref CP) (.type "str") = some false
  dS : PySem.W.subIn K (.type "dict") (.ref CS) = some false
  dM : PySem.W.subIn K (.type "dict") (.ref CM) = some false
  dP : PySem.W.subIn K (.type "dict") (.ref CP) = some false
  nM : PySem.W.findIn K (.ref CM) "__ne__" = some (some (.builtin "object.__ne__"))
  oM : PySem.W.mroIn K CM (.type "object") = some true
  eqP : ∃ (f : Addr) (fd : FuncData), PySem.W.findIn K (.ref CP) "__eq__" = some (some (.ref f)) ∧ PySem.W.isFn K (.ref f) = true ∧ Binds K fd ["self", "other"] [] ∧ FnOk P w K mg base CX0 3 f fd ["self", "other"] (spPEq CS CM CP)
section
variable {P : Program} {w : World} {K : PySem.W.Frag} {mg : Str → Option Value} {base : Heap} {f : Addr} {fd : FuncData} {CS CM CP CT NT NS BE e0 : Addr}
theorem mMade {H : Hp} {x dx t : Addr} {vr : V} {xs : List V} {R : Hp → Prop} {E : XK} (hx : H x = none) (hdx : H dx = none) (ne : dx ≠ x) (ht : ∀ H, SqT K H t xs) (q : ∀ H', Same H H' → H' x = some (.ins CM dx (fsM vr (.ref t))) → R H') :
    spMInit K CM [.ref x, vr, .ref t] (upd (upd H dx (.own x)) x (.ins CM dx [])) (fun v H2 => v = .non ∧ R H2) E := by
  have s1 : Same H (upd (upd H dx (.own x)) x (.ins CM dx [])) := fun b o hb => by
    rw [upd_ne (ne_of_none hb hx), upd_ne (ne_of_none hb hdx)]
    exact hb
  exact ⟨x, dx, vr, t, xs, rfl, upd_same, .inl ⟨ht _, fun H' k h1 => ⟨rfl, q H' (fun b o hb => k _ _ (ne_of_none hb hx) (s1 _ _ hb)) h1⟩⟩⟩
theorem mMadeT {H : Hp} {x dx t : Addr} {vr : V} {xs : List V} {R : Hp → Prop} {E : XK} (hx : H x = none) (hdx : H dx = none) (ne : dx ≠ x) (ht : H t = some (.tup xs)) (q : ∀ H', Same H H' → H' x = some (.ins CM dx (fsM vr (.ref t))) → R H') :
    spMInit K CM [.ref x, vr, .ref t] (upd (upd H dx (.own x)) x (.ins CM dx [])) (fun v H2 => v = .non ∧ R H2) E := by
  have s1 : Same H (upd (upd H dx (.own x)) x (.ins CM dx [])) := fun b o hb => by
    rw [upd_ne (ne_of_none hb hx), upd_ne (ne_of_none hb hdx)]
    exact hb
  exact ⟨x, dx, vr, t, xs, rfl, upd_same, .inl ⟨.inl (.inl (s1 _ _ ht)), fun H' k h1 => ⟨rfl, q H' (fun b o hb => k _ _ (ne_of_none hb hx) (s1 _ _ hb)) h1⟩⟩⟩
theorem mMadeL {H : Hp} {x dx t : Addr} {vr : V} {xs : List V} {R : Hp → Prop} {E : XK} (hx : H x = none) (hdx : H dx = none) (ne : dx ≠ x) (ht : H t = some (.lst xs)) (q : ∀ H' u, Same H H' → H' u = some (.tup xs) → H' x = some (.ins CM dx (fsM vr (.ref u))) → R H') :
    spMInit K CM [.ref x, vr, .ref t] (upd (upd H dx (.own x)) x (.ins CM dx [])) (fun v H2 => v = .non ∧ R H2) E := by
  have s1 : Same H (upd (upd H dx (.own x)) x (.ins CM dx [])) := fun b o hb => by
    rw [upd_ne (ne_of_none hb hx), upd_ne (ne_of_none hb hdx)]
    exact hb
  exact ⟨x, dx, vr, t, xs, rfl, upd_same, .inr ⟨s1 _ _ ht, fun H' u k _ hu h1 => ⟨rfl, q H' u (fun b o hb => k _ _ (ne_of_none hb hx) (s1 _ _ hb)) hu h1⟩⟩⟩
/-- two made ones compared -/
theorem mEq {H : Hp} {x y dx dy : Addr} {vr va vr' va' : V} {d1 d2 d1' d2' : PyData} {b : Bool} {Q : VK} (hx : H x = some (.ins CM dx (fsM vr va))) (hy : H y = some (.ins CM dy (fsM vr' va'))) (h1 : Dp K H vr d1) (h2 : Dp K H va d2) (h1' : Dp K H vr' d1') (h2' : Dp K H va' d2')
    (s : SeqAt.shaped d1 = true ∧ SeqAt.shaped d2 = true ∧ SeqAt.shaped d1' = true ∧ SeqAt.shaped d2' = true) (e : (PyData.eqv d1 d1' && PyData.eqv d2 d2') = b) (q : Q (.bl b) H) : spMEq K CS CM [.ref x, .ref y] H Q E0 :=
  ⟨x, dx, vr, va, d1, d2, y, rfl, hx, h1, h2, s.1, s.2.1, .inl ⟨dy, vr', va', d1', d2', hy, h1', h2', s.2.2.1, s.2.2.2, by rw [e]; exact q⟩⟩
theorem dpS4 {H : Hp} {t : Addr} {zs : List Str} (h : H t = some (.tup (zs.map .str))) : Dp K H (.ref t) (.tuple (zs.map .str)) := .tup (.inl (.inl h)) (dpStrs zs)
theorem okLaw {k : Nat} (F : FnP K "law" lLaw f fd) (B : Bn mg) (W : Pjc P w K mg base CS CM CP NT NS) (Md : Mdc P w K mg base CM e0) (G : Pas P w K mg base CP NT) (L' : LawC P w K mg base CS CM CP CT)
    (Fe : Has P w K mg base 1 "_law_feed_of" ["_law_script", "_law_k"] (spFeed K)) (Dr : Has P w K mg base 1 "_law_draw" ["_law_feed", "_law_many"] spDraw) (Pk : Has P w K mg base 2 "_law_pick" ["_law_feed", "_law_items"] (spPick K))
    (Ou : Has P w K mg base 1 "_law_outs" [] spOutsT) (Tx : Has P w K mg base 3 "_law_some_text" ["_law_feed"] spText) (Wh : Has P w K mg base 4 "_law_whole_project" ["_law_targets"] (spWhole CS CM CP))
    (Dn : Has P w K mg base 5 "_law_drawn" ["_law_feed"] spDrawn) (Ch : Has P w K mg base 1 "_law_changed" ["_law_targets", "_law_name", "_law_deed", "_law_told"] spChanged)
    (Do : Has P w K mg base 7 "_law_does" ["_law_project", "_law_name", "_law_deed", "_law_told"] (spDoes CS CM CP)) (Sa : Has P w K mg base 6 "_law_stands" ["_law_project", "_law_targets"] (spStands CS CM CP)) :
    FnOk P w K mg base CX0 (k + 8) f fd ["_law_script"] (spLaw K) := by
  obtain ⟨f1, d1, g1, k1, b1, G1⟩ := Fe.ex
  obtain ⟨f2, d2, g2, k2, b2, G2⟩ := Dr.ex
  obtain ⟨fP, dP, gP, kP, bP, GP⟩ := Pk.ex
  obtain ⟨fU, dU, gU, kU, bU, GU⟩ := Ou.ex
  obtain ⟨fX, dX, gX, kX, bX, GX⟩ := Tx.ex
  obtain ⟨fW, dW, gW, kW, bW, GW⟩ := Wh.ex
  obtain ⟨fD, dD, gD, kD, bD, GD⟩ := Dn.ex
  obtain ⟨fC, dC, gC, kC, bC, GC⟩ := Ch.ex
  obtain ⟨fE, dE, gE, kE, bE, GE⟩ := Do.ex
  obtain ⟨fZ, dZ, gZ, kZ, bZ, GZ⟩ := Sa.ex
  obtain ⟨fG, dG, hG1, hG2, hG3, bG, GG⟩ := G.get
  obtain ⟨pN, gN, dN, hN, bN, GN⟩ := G.nam
  obtain ⟨fI, dI, MI, bI, GI⟩ := W.mkS
  obtain ⟨fJ, dJ, MJ, bJd, bJ, GJ⟩ := Md.mak
  obtain ⟨fK, dK, MK, bK, GK⟩ := W.mkP
  obtain ⟨po, go, dO, hO, bO, GO⟩ := W.outS
  obtain ⟨fQ, dQ, hQ, iQ, bQ, GQ⟩ := L'.eqP
  obtain ⟨fR, dR, hR, iR, bR, GR⟩ := W.eqM
  obtain ⟨fY, dY, hY, iY, bY, GY⟩ := W.eqS
  refine F.ok scLaw (fun vs H Q E h => ?_) (fun cdv A outer s H vs Q E hr h => ?_)
  · obtain ⟨a, ns, rfl, _⟩ := h
    rfl
  · obtain ⟨sc, ns, rfl, hSc, hlen, q⟩ := h
    have hu1 : (A.deeper (envOfC "law" (defScope lLaw) s.heap.objs.size f cdv)).units + 1 < cLine := by
      have := hr.units
      omega
    have r1 : Room 1 _ := hr.mono (by omega)
    have r2 : Room 2 _ := hr.mono (by omega)
    have r11 : Room (1 + 1) _ := hr.mono (by omega)
    have r3 : Room 3 _ := hr.mono (by omega)
    have r31 : Room (3 + 1) _ := hr.mono (by omega)
    have r4 : Room 4 _ := hr.mono (by omega)
    have r5 : Room 5 _ := hr.mono (by omega)
    have r6 : Room 6 _ := hr.mono (by omega)
    have r7 : Room 7 _ := hr.mono (by omega)
    have vE : Vals [V.ref e0] [Value.ref e0] := .cons rfl .nil
    refine ⟨_, PSs.nox (C8.pss_cut (ps_for PassesOwn.never rfl (pi_range1 (by rfl) B.range (pa_cons (pe_callB (call_max2 rfl) (by rfl) B.max (by decide +kernel) (pa_cons (pe_int) (pa_cons (pe_callB (call_min2 rfl) (by rfl) B.min (by decide +kernel) (pa_cons (pe_int) (pa_cons (pe_callB call_len_seq (by rfl) B.len PySem.boot_len (pa_cons (pv 0) pa_nil)) pa_nil))) pa_nil))) pa_nil)) (pg_name (i := 1) scLaw.nd rfl (.inl rfl))
      (C8.pss_cut (ps_set (i := 2) scLaw.nd rfl (.inl rfl) (pe_call G1 r1 (by rfl) g1 k1 b1 .nil pass0 (pa_cons (pv 0) (pa_cons (pv 1) pa_nil)))) (C8.pss_cut (ps_par (i := 3) (j := 4) (by rfl) scLaw.nd rfl rfl (by decide) rfl rfl (pa_cons (pe_lst (pa_cons (pe_str) (pa_cons (pe_str) (pa_cons (pe_str) (pa_cons (pe_str) (pa_cons (pe_str) pa_nil)))))) (pa_cons (pe_dnewK) pa_nil)) (by rfl)) (C8.pss_cut (ps_for PassesOwn.never rfl (pi_list (pe_slice sl_list (pv 3) po_none (po_some (pe_call G2 r1 (by rfl) g2 k2 b2 .nil pass0 (pa_cons (pv 2) (pa_cons (pe_int) pa_nil)))))) (pg_name (i := 5) scLaw.nd rfl (.inl rfl)) (pss_one (ps_dput hu1 (pv 4) (pv 5) (pe_call GD r5 (by rfl) gD kD bD .nil pass0 (pa_cons (pv 2) pa_nil)) rfl))) (C8.pss_cut (ps_set (i := 6) scLaw.nd rfl (.inl rfl) (pe_lst (pa_cons (pe_tup (pa_cons (pe_call GW r4 (by rfl) gW kW bW .nil pass0 (pa_cons (pv 4) pa_nil)) (pa_cons (pv 4) pa_nil))) pa_nil))) (C8.pss_cut (ps_for PassesOwn.never rfl (pi_range1 (by rfl) B.range (pa_cons (pe_int) pa_nil)) (pg_name (i := 7) scLaw.nd rfl (.inl rfl))
          (C8.pss_cut (ps_asg (pe_call GP r2 (by rfl) gP kP bP .nil pass0 (pa_cons (pv 2) (pa_cons (pe_slice sl_list (pv 6) (po_some (pe_un un_neg pe_int)) po_none) pa_nil))) (pg_tup rfl (pgs_cons (pg_name (i := 8) scLaw.nd rfl (.inl rfl)) (pgs_cons (pg_name (i := 4) scLaw.nd rfl (.inl rfl)) pgs_nil)))) (C8.pss_cut (ps_par (i := 5) (j := 9) (by rfl) scLaw.nd rfl rfl (by decide) rfl rfl (pa_cons (pe_call GP r2 (by rfl) gP kP bP .nil pass0 (pa_cons (pv 2) (pa_cons (pv 3) pa_nil))) (pa_cons (pe_ix ix_list (pe_lst (pa_cons (pe_str) (pa_cons (pe_str) (pa_cons (pe_str) (pa_cons (pe_str) pa_nil))))) (pe_call G2 r1 (by rfl) g2 k2 b2 .nil pass0 (pa_cons (pv 2) (pa_cons (pe_int) pa_nil))) (fun _ _ => rfl)) pa_nil)) (by rfl)) (C8.pss_cut (ps_set (i := 10) scLaw.nd rfl (.inl rfl) (pe_ifExp (pt_cmpR op_eq (pv 9) pe_str (nomark _)) (pe_call GD r5 (by rfl) gD kD bD .nil pass0 (pa_cons (pv 2) pa_nil)) (pe_tup (pa_cons (pe_call GP r2 (by rfl) gP kP bP .nil pass0 (pa_cons (pv 2) (pa_cons (pe_call0 GU r1 (by rfl) gU kU bU .nil pass0) pa_nil))) (pa_cons (pe_call GX r3 (by rfl) gX kX bX .nil pass0 (pa_cons (pv 2) pa_nil)) pa_nil))))) (C8.pss_cut (ps_par (i := 11) (j := 12) (by rfl) scLaw.nd rfl rfl (by decide) rfl rfl (pa_cons (pe_call GC r1 (by rfl) gC kC bC .nil pass0 (pa_cons (pv 4) (pa_cons (pv 5) (pa_cons (pv 9) (pa_cons (pv 10) pa_nil))))) (pa_cons (pe_call GE r7 (by rfl) gE kE bE .nil pass0 (pa_cons (pv 8) (pa_cons (pv 5) (pa_cons (pv 9) (pa_cons (pv 10) pa_nil))))) pa_nil)) (by rfl)) (C8.pss_cut (ps_if (PW.pt (pw_or (pt_val (pe_callB call_isi (by rfl) B.isi (by decide +kernel) (pa_cons (pv 11) (pa_cons (pe_bltn (v := .ty "str") (by rfl) B.str (by decide +kernel) rfl) pa_nil)))) (pw_or1 (pt_val (pe_callB call_isi (by rfl) B.isi (by decide +kernel) (pa_cons (pv 12) (pa_cons (pe_bltn (v := .ty "str") (by rfl) B.str (by decide +kernel) rfl) pa_nil)))))))
              (pss_one (ps_if (pt_cmpR op_ne (pv 12) (pv 11) (nomark _)) (pss_one (ps_ret pe_bl)) pss_nil))
              (pss_one (ps_expr (pe_bm PySem.F.plainAttrs_list PySem.F.slot_list_append PySem.F.type_list_append mt_append (pv 6) (pa_cons (pe_tup (pa_cons (pv 12) (pa_cons (pv 11) pa_nil))) pa_nil))))) (C8.pss_cut (ps_for PassesOwn.never rfl (pi_tup (pe_prop (pv 8) W.iP.cl hN GN r11 bN .nil pass0 rfl)) (pg_name (i := 5) scLaw.nd rfl (.inl rfl))
              (pss_one (ps_if (pt_val (pe_callB call_isi (by rfl) B.isi (by decide +kernel) (pa_cons (OD.pe_ixO (E := fun _ => E0) (pv 8) (pv 5) GG r31 hG1 hG2 hG3 bG (fun _ => OD.passAt0)) (pa_cons (pe_glob (v := .ref CS) (by rfl) W.gS rfl) pa_nil))))
                (pss_one (ps_expr (pe_dclear (pe_prop (OD.pe_ixO (E := fun _ => E0) (pv 8) (pv 5) GG r31 hG1 hG2 hG3 bG (fun _ => OD.passAt0)) W.iS.cl hO GO r11 bO .nil pass0 rfl)))) pss_nil))) (pss_one (ps_if (pt_cmpR (r := rNeD K) (op_neD hr.units) (pe_lc (own := [("_law_one", 13), ("_law_kept", 14)]) (g := gTup K 2 (gCons (gName 13) (gCons (gName 14) gNil))) rfl scLaw.nd (pi_list (pv 6)) (blkOk_by (N := nLaw) (sc := defScope lLaw) (by decide +kernel))
              (fun _ _ _ _ _ => pg_tup rfl (pgs_cons (pg_name (i := 13) scLaw.nd rfl (.inl rfl) (hf := .inr rfl)) (pgs_cons (pg_name (i := 14) scLaw.nd rfl (.inl rfl) (hf := .inr rfl)) pgs_nil))) (fun _ _ _ _ _ => pts_one (pt_not (pt_val (pe_call GZ r6 (by rfl) gZ kZ bZ .nil pass0 (pa_cons (pv 13) (pa_cons (pv 14) pa_nil))))))
              (fun _ _ _ _ _ => pe_int)) (pe_lst pa_nil) (nomark _)) (pss_one (ps_ret pe_bl)) pss_nil))))))))) (pss_one (ps_for PassesOwn.never rfl (pi_list (pv 6)) (pg_tup rfl (pgs_cons (pg_name (i := 13) scLaw.nd rfl (.inl rfl)) (pgs_cons (pg_name (i := 14) scLaw.nd rfl (.inl rfl)) pgs_nil)))
          (pss_one (ps_for PassesOwn.never rfl (pi_list (pv 6)) (pg_tup rfl (pgs_cons (pg_name (i := 15) scLaw.nd rfl (.inl rfl)) (pgs_cons (pg_name (i := 16) scLaw.nd rfl (.inl rfl)) pgs_nil)))
            (pss_one (ps_if (PW.pt (pw_or (pt_cmpR op_ne (pe_cmpR (r := rEqO K CP (spPEq CS CM CP)) (op_eqO GQ r3 hQ iQ bQ L'.dP) (pv 13) (pv 15) (nomark _)) (pe_cmpR (r := DB.rEqDB K) (DB.op_eqDB (DB.un100 hr)) (pv 14) (pv 16) (nomark _)) (nomark _))
                (pw_or1 (pt_cmpR (r := rEqO K CP (spPEq CS CM CP)) (op_eqO GQ r3 hQ iQ bQ L'.dP) (pv 13) (pv 14) (nomark _))))) (pss_one (ps_ret pe_bl)) pss_nil)))))))))))) (C8.pss_cut (ps_if (PW.pt (pw_or (pt_cmpR (r := rEqO K CM (spMEq K CS CM)) (op_eqO GR r1 hR iR bR L'.dM) (pe_make MJ GJ r11 (by rfl) W.gM bJ .nil pass0 (pa_cons (pe_str) (pa_cons (pe_tup (pa_cons (pe_str) (pa_cons (pe_str) (pa_cons (pe_str) (pa_cons (pe_str) pa_nil))))) pa_nil))) (pe_make MJ GJ r11 (by rfl) W.gM bJ .nil pass0 (pa_cons (pe_str) (pa_cons (pe_tup (pa_cons (pe_str) (pa_cons (pe_str) (pa_cons (pe_str) (pa_cons (pe_str) pa_nil))))) pa_nil))) (nomark _))
          (pw_or1 (pt_cmpR (r := rEqO K CM (spMEq K CS CM)) (op_eqO GR r1 hR iR bR L'.dM) (pe_make MJ GJ r11 (by rfl) W.gM bJd vE pass0 (pa_cons (pe_tup (pa_cons (pe_str) (pa_cons (pe_str) pa_nil))) pa_nil)) (pe_make MJ GJ r11 (by rfl) W.gM bJd vE pass0 (pa_cons (pe_tup (pa_cons (pe_str) (pa_cons (pe_str) pa_nil))) pa_nil)) (nomark _))))) (pss_one (ps_ret pe_bl)) pss_nil) (C8.pss_cut (ps_if (PW.pt (pw_or (pt_not (pt_val (pe_callB call_isi (by rfl) B.isi (by decide +kernel) (pa_cons (pe_make MI GI r11 (by rfl) W.gS bI .nil pass0 (pa_cons (pe_dnewK) pa_nil)) (pa_cons (pe_glob (v := .ref CT) (by rfl) L'.gT rfl) pa_nil)))))
          (pw_or1 (pt_not (pt_val (pe_callB call_isi (by rfl) B.isi (by decide +kernel) (pa_cons (pe_make MJ GJ r11 (by rfl) W.gM bJd vE pass0 (pa_cons (pe_str) pa_nil)) (pa_cons (pe_glob (v := .ref CT) (by rfl) L'.gT rfl) pa_nil)))))))) (pss_one (ps_ret pe_bl)) pss_nil) (C8.pss_cut (ps_if (PW.pt (pw_or (pt_cmpR (r := rEqO K CS (spSEq CS CM)) (op_eqO GY r1 hY iY bY L'.dS) (pe_make MI GI r11 (by rfl) W.gS bI .nil pass0 (pa_cons (pe_disp (pps_cons pe_str pe_str pps_nil) (by rfl) (by rfl) (fun z => by cases z) (by decide)) pa_nil)) (pe_make MJ GJ r11 (by rfl) W.gM bJ .nil pass0 (pa_cons (pe_str) (pa_cons (pe_tup (pa_cons (pe_str) pa_nil)) pa_nil))) (nomark _))
          (pw_or1 (pt_cmpR (r := OD.rNeOwn CM (spMEq K CS CM) E0) (OD.op_neOwn GR r11 hR iR bR pass0 L'.nM L'.oM) (pe_make MJ GJ r11 (by rfl) W.gM bJd vE pass0 (pa_cons (pe_str) pa_nil)) (pe_make MJ GJ r11 (by rfl) W.gM bJ .nil pass0 (pa_cons (pe_str) (pa_cons (pe_lst pa_nil) pa_nil))) (nomark _))))) (pss_one (ps_ret pe_bl)) pss_nil) (pss_one (ps_ret (pe_cmpR (r := rEqO K CP (spPEq CS CM CP)) (op_eqO GQ r3 hQ iQ bQ L'.dP) (pe_make MK GK r11 (by rfl) W.gP bK .nil pass0 (pa_cons (pe_dnewK) pa_nil)) (pe_call GW r4 (by rfl) gW kW bW .nil pass0 (pa_cons (pe_dnewK) pa_nil)) (nomark _)))))))), ?_⟩
    refine ⟨fun _ _ => True, ?_, ?_⟩
    · refine ⟨.ref sc, rfl, sc, _, rfl, .inl hSc, 4, _, rfl, 2, _, rfl, _, rfl, ?b1, ?b2, ?main⟩
      case b1 => split <;> (try split) <;> omega
      case b2 => split <;> (try split) <;> omega
      case main =>
      have hN : ∀ L : Int, 0 ≤ L → (if (if L < 4 then L else 4) > 2 then (if L < 4 then L else 4) else 2).toNat ≤ 4 := fun L hL => by split <;> (try split) <;> omega
      refine forJ (n := _) (fun i σ' H' => (∃ x1 x2 x3 x4 x5 x6 x7 x8 x9 x10 x11 x12 x13 x14 x15 x16, σ' = sl sc x1 x2 x3 x4 x5 x6 x7 x8 x9 x10 x11 x12 x13 x14 x15 x16) ∧ SqL K H' sc (ns.map V.int)) ⟨⟨none, none, none, none, none, none, none, none, none, none, none, none, none, none, none, none, rfl⟩, hSc⟩ (fun i σ' H' lt _ => lt) (fun σ' H' _ => Nat.le_refl _) (fun i σ' H0 x H1 lt h y => ?_) (fun _ _ _ => True.intro)
      obtain ⟨rfl, rfl⟩ := y
      obtain ⟨⟨x1, x2, x3, x4, x5, x6, x7, x8, x9, x10, x11, x12, x13, x14, x15, x16, rfl⟩, hS1⟩ := h
      have li : i < 4 := Nat.lt_of_lt_of_le lt (hN _ (Int.natCast_nonneg _))
      -- the feed
      refine ⟨fun σ' H2 => ∃ a, σ' = sl sc (some (.int (0 + i))) (some (.ref a)) x3 x4 x5 x6 x7 x8 x9 x10 x11 x12 x13 x14 x15 x16 ∧ Same H1 H2 ∧ Fd H2 a ∧ H1 a = none, ?_, ?_⟩
      · exact ⟨.ref sc, rfl, .int (0 + i), rfl, sc, ns, 0 + i, rfl, hS1, hlen, by omega, by omega, fun p Hp sm np fd => ⟨p, rfl, sm, fd, np⟩⟩
      rintro _ H2 ⟨a, rfl, s2, F2, na⟩
      -- the names, the table
      refine ⟨fun σ' H3 => ∃ N t0, σ' = sl sc (some (.int (0 + i))) (some (.ref a)) (some (.ref N)) (some (.ref t0)) x5 x6 x7 x8 x9 x10 x11 x12 x13 x14 x15 x16 ∧ Same H1 H3 ∧ Fd H3 a ∧ H3 N = some (.lst (nmsL.map V.str)) ∧ H1 N = none ∧ N ≠ a ∧ H3 t0 = some (.dK []) ∧ H1 t0 = none, ?_, ?_⟩
      · refine ⟨(by show 5 ≤ sizeLine; decide), fun N hN => ?_⟩
        refine fun t0 ht0 => ⟨.ref N, .ref t0, rfl, N, t0, rfl, ?_, ?_, ?_, ?_, ?_, ?_, ?_⟩
        · exact s2.trans ((KS.sameUpd hN).trans (KS.sameUpd ht0))
        · exact (F2.same (KS.sameUpd hN)).same (KS.sameUpd ht0)
        · exact KS.sameUpd ht0 _ _ upd_same
        · exact noneSame s2 hN
        · exact fdNe F2 hN
        · exact upd_same
        · exact noneSame (s2.trans (KS.sameUpd hN)) ht0
      rintro _ H3 ⟨N, t0, rfl, s3, F3, eN, nN, nNa, et0, nt0⟩
      clear s2 F2
      have na0 : t0 ≠ a := fun z => by
        obtain ⟨_, _, e, _⟩ := F3
        rw [← z, et0] at e
        cases e
      -- the table filled
      refine ⟨fun σ' H4 => ∃ y5 kvs T, σ' = sl sc (some (.int (0 + i))) (some (.ref a)) (some (.ref N)) (some (.ref t0)) y5 x6 x7 x8 x9 x10 x11 x12 x13 x14 x15 x16 ∧ Same H1 H4 ∧ Fd H4 a ∧ H4 N = some (.lst (nmsL.map V.str)) ∧ H4 t0 = some (.dK kvs) ∧ Tab (ToAt H4) kvs T ∧ TbOk 0 T, ?_, ?_⟩
      · refine ⟨.ref N, rfl, .ref a, rfl, a, 5, rfl, F3, by decide, by decide, fun r H4 r0 r1' k4 F4 => ⟨r, rfl, N, nmsL.map V.str, rfl, .inl (.inl (k4 _ _ nNa eN)), fun p hp => ?_⟩⟩
        obtain ⟨m, rfl⟩ : ∃ m : Nat, r = (m : Int) := ⟨r.toNat, by omega⟩
        rw [cutTake, ← List.map_take]
        have sp := KS.sameUpd (o := .lst ((nmsL.take m).map V.str)) hp
        have ep : upd H4 p (.lst ((nmsL.take m).map V.str)) p = some (.lst ((nmsL.take m).map V.str)) := upd_same
        have kA : Kp a H3 (upd H4 p (.lst ((nmsL.take m).map V.str))) := k4.trans (Kp.same sp)
        have F5 := F4.same sp
        have npa := fdNe F4 hp
        have eN5 := kA _ _ nNa eN
        have et5 := kA _ _ na0 et0
        have s5 : Same H1 (upd H4 p (.lst ((nmsL.take m).map V.str))) := fun b o hb => kA _ _ (ne_of_none hb na) (s3 _ _ hb)
        generalize upd H4 p (.lst ((nmsL.take m).map V.str)) = H5 at *
        have lm : (nmsL.take m).length ≤ 4 := by rw [List.length_take]; omega
        generalize nmsL.take m = ws at *
        have npt : p ≠ t0 := fun z => by rw [z, et5] at ep; cases ep
        refine ⟨p, rfl, ⟨_, .inl (.inl ep)⟩, ?_⟩
        refine forJ (n := ws.length) (fun j σ' H' => ∃ y5 kvs T, σ' = sl sc (some (.int (0 + i))) (some (.ref a)) (some (.ref N)) (some (.ref t0)) y5 x6 x7 x8 x9 x10 x11 x12 x13 x14 x15 x16 ∧ Same H1 H' ∧ Fd H' a ∧ H' N = some (.lst (nmsL.map V.str)) ∧ H' p = some (.lst (ws.map V.str)) ∧ H' t0 = some (.dK kvs) ∧ Tab (ToX t0 H') kvs T ∧ (T.map (·.1)).Nodup ∧ T.length ≤ j ∧ ∀ z os, (z, Tg.src os) ∈ T → os.length ≤ 4)
          ⟨_, [], [], rfl, s5, F5, eN5, ep, et5, .nil, List.nodup_nil, Nat.zero_le _, fun z os h => absurd h (by simp)⟩
          (fun j σ' H' lt h => by obtain ⟨_, _, _, _, _, _, _, e, _⟩ := h; exact ⟨_, V.str ws[j], .inl (.inl e), by rw [List.getElem?_map, List.getElem?_eq_getElem lt]; rfl⟩)
          (fun σ' H' h => by obtain ⟨_, _, _, _, _, _, _, e, _⟩ := h; exact ⟨_, .inl (.inl e), by rw [List.length_map]; exact Nat.le_refl _⟩) (fun j σ' H6 x H7 ltj h y => ?_) (fun σ' H' h => ?_)
        · obtain ⟨rfl, y⟩ := y
          obtain ⟨y5, kvs, T, rfl, s6, F6, eN6, ep6, et6, tab, nd, lT, lo⟩ := h
          have ex := y _ (.inl (.inl ep6))
          rw [List.getElem?_map, List.getElem?_eq_getElem ltj] at ex
          obtain rfl : V.str ws[j] = x := Option.some.inj ex
          generalize ws[j] = z at *
          refine ⟨.ref a, rfl, a, rfl, F6, fun v t H8 hv ho k8 F8 => ?_⟩
          have lk := tab.len
          have et8 := k8 _ _ na0 et6
          refine ⟨.ref t0, rfl, .str z, rfl, t0, _, rfl, DPut.k (k := Sum.inr z) et8 (by rw [sizeLine_eq]; omega), ?_⟩
          have un : ∀ b o, b ≠ t0 → H8 b = some o → upd H8 t0 (.dK (putK kvs (.inr z) v)) b = some o := fun b o nb hb => by rw [upd_ne nb]; exact hb
          have st8 := Stl.fd F6 k8
          refine ⟨some (.str z), _, tPut T z t, rfl, fun b o hb => ?_, ?_, ?_, ?_, upd_same, ?_, tPut_nd nd, by have := tPut_len (T := T) (k := z) (t := t); omega, fun y os hm => ?_⟩
          · exact un _ _ (ne_of_none hb nt0) (k8 _ _ (ne_of_none hb na) (s6 _ _ hb))
          · exact fdOther F8 na0
          · exact un _ _ (fun z => by rw [z, et6] at eN6; cases eN6) (k8 _ _ nNa eN6)
          · exact un _ _ npt (k8 _ _ npa ep6)
          · refine Tab.put (tab.imp fun _ _ _ _ _ h => h.on fun b o nb hb hx => un b o nb (st8 _ _ hb hx)) ?_
            intro H9 g
            exact hv H9 fun b o nb hb hx => g b o (fun e => by rw [e, et6] at nb; cases nb) (un _ _ (fun e => by rw [e, et6] at nb; cases nb) hb) hx
          · unfold tPut at hm
            split at hm
            · obtain ⟨q', hq, e⟩ := List.mem_map.mp hm
              by_cases c : q'.1 = z
              · rw [if_pos c] at e
                injection e with _ e2
                exact ho os e2
              · rw [if_neg c] at e
                subst e
                exact lo _ _ hq
            · rcases List.mem_append.mp hm with hq | hq
              · exact lo _ _ hq
              · have e := List.mem_singleton.mp hq
                injection e with _ e2
                exact ho os e2.symm
        · obtain ⟨y5, kvs, T, rfl, s6, F6, eN6, ep6, et6, tab, nd, lT, lo⟩ := h
          exact ⟨y5, kvs, T, rfl, s6, F6, eN6, et6, tab.imp fun _ _ _ _ _ h => h.to, nd, by omega, lo⟩
      rintro _ H4 ⟨y5, kvs, T, rfl, s4, F4, eN4, et4, tab4, tok4⟩
      clear s3 F3 eN et0
      -- the first project
      refine ⟨fun σ' H5 => ∃ L vs, σ' = sl sc (some (.int (0 + i))) (some (.ref a)) (some (.ref N)) (some (.ref t0)) y5 (some (.ref L)) x7 x8 x9 x10 x11 x12 x13 x14 x15 x16 ∧ Same H1 H5 ∧ Fd H5 a ∧ H5 N = some (.lst (nmsL.map V.str)) ∧ H5 L = some (.lst vs) ∧ H1 L = none ∧ L ≠ a ∧ L ≠ N ∧ (∀ v ∈ vs, PrIt CS CM CP 0 H5 v) ∧ vs ≠ [] ∧ vs.length ≤ 1, ?_, ?_⟩
      · refine ⟨.ref t0, rfl, t0, T, rfl, ⟨kvs, et4, tab4⟩, tok4.1, by have := tok4.2.1; omega, fun p H5 s5 hp => ⟨.ref t0, rfl, (by show 2 ≤ sizeLine; decide), fun U hU => ⟨(by show 1 ≤ sizeLine; decide), fun L hL => ?_⟩⟩⟩
        have sU := KS.sameUpd (o := .tup [.ref p, .ref t0]) hU
        have sL := KS.sameUpd (o := .lst [.ref U]) hL
        have sA := s5.trans (sU.trans sL)
        refine ⟨L, [.ref U], rfl, s4.trans sA, F4.same sA, sA _ _ eN4, upd_same, noneSame (s4.trans (s5.trans sU)) hL, fdNe (F4.same (s5.trans sU)) hL, fun z => ?_, fun v hv => ?_, by simp, Nat.le_refl _⟩
        · rw [z, sU _ _ (s5 _ _ eN4)] at hL; cases hL
        · rw [List.mem_singleton.mp hv]
          exact ⟨U, p, t0, T, rfl, sL _ _ upd_same, hp.stl (Stl.same (sU.trans sL)), KtAt.stl ⟨kvs, et4, tab4⟩ (Stl.same sA), tok4⟩
      rintro _ H5 ⟨L, vs, rfl, s5, F5, eN5, eL5, nL, nLa, nLN, hvs, vs0, lvs⟩
      clear s4 F4 eN4 et4 tab4 tok4
      -- the changes
      refine ⟨fun σ' H6 => ∃ y4 y5 y7 y8 y9 y10 y11 y12 vs, σ' = sl sc (some (.int (0 + i))) (some (.ref a)) (some (.ref N)) y4 y5 (some (.ref L)) y7 y8 y9 y10 y11 y12 x13 x14 x15 x16 ∧ Same H1 H6 ∧ H6 L = some (.lst vs) ∧ (∀ v ∈ vs, PrIt CS CM CP 14 H6 v) ∧ vs.length ≤ 15, ?_, ?_⟩
      · refine ⟨14, rfl, by decide, by decide, ?_⟩
        refine forJ (n := 14) (fun j σ' H6 => ∃ y4 y5 y7 y8 y9 y10 y11 y12 vs, σ' = sl sc (some (.int (0 + i))) (some (.ref a)) (some (.ref N)) y4 y5 (some (.ref L)) y7 y8 y9 y10 y11 y12 x13 x14 x15 x16 ∧ Same H1 H6 ∧ Fd H6 a ∧ H6 N = some (.lst (nmsL.map V.str)) ∧ H6 L = some (.lst vs) ∧ (∀ v ∈ vs, PrIt CS CM CP j H6 v) ∧ vs ≠ [] ∧ vs.length ≤ 1 + j)
          ⟨_, _, _, _, _, _, _, _, vs, rfl, s5, F5, eN5, eL5, hvs, vs0, by omega⟩ (fun j σ' H' lt _ => lt) (fun σ' H' _ => Nat.le_refl _) (fun j σ' H0 x H6 ltj h y => ?_) (fun σ' H' h => ?_)
        · obtain ⟨rfl, rfl⟩ := y
          obtain ⟨y4, y5, y7, y8, y9, y10, y11, y12, vs, rfl, s6, F6, eN6, eL6, hvs, vs0, lvs⟩ := h
          -- one of the last
          refine ⟨fun σ' H7 => ∃ p d T, σ' = sl sc (some (.int (0 + i))) (some (.ref a)) (some (.ref N)) (some (.ref d)) y5 (some (.ref L)) (some (.int (0 + j))) (some (.ref p)) y9 y10 y11 y12 x13 x14 x15 x16 ∧ Same H1 H7 ∧ Fd H7 a ∧ H7 N = some (.lst (nmsL.map V.str)) ∧ H7 L = some (.lst vs) ∧ (∀ v ∈ vs, PrIt CS CM CP j H7 v) ∧ PjAt CS CM CP H7 p T ∧ KtAt H7 d T ∧ TbOk j T, ?_, ?_⟩
          · refine ⟨.ref a, rfl, .ref L, rfl, 3, rfl, -3, rfl, L, vs, rfl, .inl (.inl eL6), fun p hp => ?_⟩
            rw [cutLast]
            have sp := KS.sameUpd (o := .lst (vs.drop (vs.length - 3))) hp
            have l0 : 0 < vs.length := List.length_pos_iff.mpr vs0
            refine ⟨a, p, _, rfl, F6.same sp, .inl (.inl upd_same), fdNe F6 hp, by rw [List.length_drop]; omega, by rw [List.length_drop]; omega, fun m v H7 hv k7 F7 => ?_⟩
            have hm : v ∈ vs := List.mem_of_mem_drop (List.mem_of_getElem? hv)
            have stA : Stl H6 H7 := (Stl.same sp).trans (Stl.fd (F6.same sp) k7)
            have kA : Kp a H6 H7 := (Kp.same sp).trans k7
            obtain ⟨t, q1, d, T, rfl, et, hq1, hd, tok⟩ := (hvs v hm).stl stA (Nat.le_refl _)
            exact ⟨t, _, rfl, .inl (.inl et), rfl, _, _, rfl, _, _, rfl, rfl, q1, d, T, rfl, fun b o hb => kA _ _ (ne_of_none hb na) (s6 _ _ hb), F7, kA _ _ nNa eN6, kA _ _ nLa eL6, fun v hv => (hvs v hv).stl stA (Nat.le_refl _), hq1, hd, tok⟩
          rintro _ H7 ⟨p, d, T, rfl, s7, F7, eN7, eL7, hvs7, hp7, hd7, tok⟩
          clear s6 F6 eN6 eL6 hvs
          have l0 : 0 < vs.length := List.length_pos_iff.mpr vs0
          -- a name, a deed
          refine ⟨fun σ' H8 => ∃ z w, σ' = sl sc (some (.int (0 + i))) (some (.ref a)) (some (.ref N)) (some (.ref d)) (some (.str z)) (some (.ref L)) (some (.int (0 + j))) (some (.ref p)) (some (.str w)) y10 y11 y12 x13 x14 x15 x16 ∧ (w = "put" ∨ w = "without" ∨ w = "write" ∨ w = "erase") ∧ Same H1 H8 ∧ Fd H8 a ∧ H8 N = some (.lst (nmsL.map V.str)) ∧ H8 L = some (.lst vs) ∧ (∀ v ∈ vs, PrIt CS CM CP j H8 v) ∧ PjAt CS CM CP H8 p T ∧ KtAt H8 d T, ?_, ?_⟩
          · refine ⟨.ref a, rfl, .ref N, rfl, a, N, _, rfl, F7, .inl (.inl eN7), nNa, by show 0 < 5; decide, by show 5 < 1000; decide, fun m v H8 hv k8 F8 => ?_⟩
            obtain ⟨z, _, rfl⟩ := List.mem_map.mp (List.mem_of_getElem? hv)
            refine ⟨(by show 4 ≤ sizeLine; decide), fun l hl => ?_⟩
            have sl' := KS.sameUpd (o := .lst [.str "put", .str "without", .str "write", .str "erase"]) hl
            have nl := fdNe F8 hl
            refine ⟨.ref a, rfl, a, 4, rfl, F8.same sl', by decide, by decide, fun r H9 r0 r1' k9 F9 => ?_⟩
            have kA : Kp a H7 H9 := (k8.trans (Kp.same sl')).trans k9
            have stA : Stl H7 H9 := Stl.fd F7 kA
            obtain ⟨w, ew, cw⟩ : ∃ w, atI [V.str "put", .str "without", .str "write", .str "erase"] r = some (.str w) ∧ (w = "put" ∨ w = "without" ∨ w = "write" ∨ w = "erase") := by
              have hc : r = 0 ∨ r = 1 ∨ r = 2 ∨ r = 3 := by omega
              rcases hc with h | h | h | h <;> rw [h]
              · exact ⟨_, rfl, .inl rfl⟩
              · exact ⟨_, rfl, .inr (.inl rfl)⟩
              · exact ⟨_, rfl, .inr (.inr (.inl rfl))⟩
              · exact ⟨_, rfl, .inr (.inr (.inr rfl))⟩
            exact ⟨l, _, _, _, rfl, rfl, .inl (.inl (k9 _ _ nl upd_same)), ew, .str z, .str w, rfl, z, w, rfl, cw, fun b o hb => kA _ _ (ne_of_none hb na) (s7 _ _ hb), F9, kA _ _ nNa eN7, kA _ _ nLa eL7, fun v hv => (hvs7 v hv).stl stA (Nat.le_refl _), hp7.stl stA, hd7.stl stA⟩
          rintro _ H8 ⟨z, wd, rfl, cw, s8, F8, eN8, eL8, hvs8, hp8, hd8⟩
          clear s7 F7 eN7 eL7 hvs7 hp7 hd7
          -- what is told
          refine ⟨fun σ' H9 => ∃ vt D, σ' = sl sc (some (.int (0 + i))) (some (.ref a)) (some (.ref N)) (some (.ref d)) (some (.str z)) (some (.ref L)) (some (.int (0 + j))) (some (.ref p)) (some (.str wd)) (some vt) y11 y12 x13 x14 x15 x16 ∧ DdAt H9 (.str wd) vt D ∧ (∀ t os, D = .put t → t = .src os → os.length ≤ 4) ∧ Same H1 H9 ∧ Fd H9 a ∧ H9 N = some (.lst (nmsL.map V.str)) ∧ H9 L = some (.lst vs) ∧ (∀ v ∈ vs, PrIt CS CM CP j H9 v) ∧ PjAt CS CM CP H9 p T ∧ KtAt H9 d T, ?_, ?_⟩
          · refine ⟨.str wd, rfl, rfl, _, rfl, ?_⟩
            have other : wd ≠ "put" → ∀ H9 U o y, Kp a H8 H9 → Fd H9 a → H9 U = none → (∃ D, DdAt (upd H9 U (.tup [.str o, .str y])) (.str wd) (.ref U) D ∧ (∀ t os, D = .put t → t = .src os → os.length ≤ 4)) := fun np H9 U o y k F hU => by
              have eU : upd H9 U (.tup [.str o, .str y]) U = some (.tup [.str o, .str y]) := upd_same
              rcases cw with rfl | rfl | rfl | rfl
              · exact absurd rfl np
              · exact ⟨.wout, ⟨rfl, U, o, y, rfl, eU⟩, fun _ _ e => nomatch e⟩
              · exact ⟨.wr o y, ⟨rfl, U, rfl, eU⟩, fun _ _ e => nomatch e⟩
              · exact ⟨.er o, ⟨rfl, U, y, rfl, eU⟩, fun _ _ e => nomatch e⟩
            refine ite2 (fun e => ?_) (fun e => ?_)
            · have ew : wd = "put" := V.str.inj (of_decide_eq_true e)
              subst ew
              refine ⟨.ref a, rfl, a, rfl, F8, fun v t H9 hv ho k9 F9 => ?_⟩
              have stA : Stl H8 H9 := Stl.fd F8 k9
              exact ⟨v, .put t, rfl, ⟨rfl, hv.to⟩, fun t' os e1 e2 => by cases e1; exact ho os e2, fun b o hb => k9 _ _ (ne_of_none hb na) (s8 _ _ hb), F9, k9 _ _ nNa eN8, k9 _ _ nLa eL8, fun v hv => (hvs8 v hv).stl stA (Nat.le_refl _), hp8.stl stA, hd8.stl stA⟩
            · have np : wd ≠ "put" := fun z => e (by rw [z]; rfl)
              refine ⟨.ref a, rfl, rfl, fun l hl => ?_⟩
              have sl' := KS.sameUpd (o := .lst (outsL.map V.str)) hl
              refine ⟨a, l, _, rfl, F8.same sl', .inl (.inl upd_same), fdNe F8 hl, by show 0 < 4; decide, by show 4 < 1000; decide, fun m v H9 hv k9 F9 => ?_⟩
              obtain ⟨o, _, rfl⟩ := List.mem_map.mp (List.mem_of_getElem? hv)
              refine ⟨.ref a, rfl, a, rfl, F9, fun y H10 _ k10 F10 => ⟨(by show 2 ≤ sizeLine; decide), fun U hU => ?_⟩⟩
              have sU := KS.sameUpd (o := .tup [.str o, .str y]) hU
              have kB : Kp a H8 H10 := ((Kp.same sl').trans k9).trans k10
              have kA : Kp a H8 (upd H10 U (.tup [.str o, .str y])) := kB.trans (Kp.same sU)
              have stA : Stl H8 _ := Stl.fd F8 kA
              obtain ⟨D, hD, hp⟩ := other np H10 U o y kB F10 hU
              exact ⟨.ref U, D, rfl, hD, hp, fun b o hb => kA _ _ (ne_of_none hb na) (s8 _ _ hb), F10.same sU, kA _ _ nNa eN8, kA _ _ nLa eL8, fun v hv => (hvs8 v hv).stl stA (Nat.le_refl _), hp8.stl stA, hd8.stl stA⟩
          rintro _ H9 ⟨vt, D, rfl, hD, hDo, s9, F9, eN9, eL9, hvs9, hp9, hd9⟩
          clear s8 F8 eN8 eL8 hvs8 hp8 hd8
          -- the changes, both
          refine ⟨fun σ' H10 => ∃ r1 r2, σ' = sl sc (some (.int (0 + i))) (some (.ref a)) (some (.ref N)) (some (.ref d)) (some (.str z)) (some (.ref L)) (some (.int (0 + j))) (some (.ref p)) (some (.str wd)) (some vt) (some r1) (some r2) x13 x14 x15 x16 ∧ Same H9 H10 ∧ ((∃ d' p' T', r1 = .ref d' ∧ r2 = .ref p' ∧ KtAt H10 d' T' ∧ PjAt CS CM CP H10 p' T' ∧ TbOk (j + 1) T') ∨ ∃ m, r1 = .str m ∧ r2 = .str m), ?_, ?_⟩
          · have lT : T.length ≤ 100 := by have := tok.2.1; omega
            have lo : (wrOs T z).length ≤ 50 := by have := tok.wr z; omega
            refine ⟨.ref d, rfl, .str z, rfl, .str wd, rfl, vt, rfl, d, z, .str wd, vt, T, D, rfl, hd9, lT, lo, hD, fun T' eT' d' H10 s10 hk => ?_, fun m em H10 s10 => ?_⟩
            · refine ⟨.ref p, rfl, .str z, rfl, .str wd, rfl, vt, rfl, p, z, .str wd, vt, T, D, rfl, hp9.stl (Stl.same s10), lT, lo, ?_, fun T2 eT2 p' H11 s11 hpj => ?_, fun m em => ?_⟩
              · exact ddSame s10 hD
              · rw [eT'] at eT2
                cases eT2
                exact ⟨.ref d', .ref p', rfl, .ref d', .ref p', rfl, s10.trans s11, .inl ⟨d', p', T', rfl, rfl, hk.stl (Stl.same s11), hpj, tok.res hDo eT'⟩⟩
              · rw [eT'] at em; cases em
            · refine ⟨.ref p, rfl, .str z, rfl, .str wd, rfl, vt, rfl, p, z, .str wd, vt, T, D, rfl, hp9.stl (Stl.same s10), lT, lo, ?_, fun T2 eT2 => ?_, fun m2 em2 H11 s11 => ?_⟩
              · exact ddSame s10 hD
              · rw [em] at eT2; cases eT2
              · rw [em] at em2
                cases em2
                exact ⟨.str m, .str m, rfl, .str m, .str m, rfl, s10.trans s11, .inr ⟨m, rfl, rfl⟩⟩
          rintro _ H10 ⟨r1v, r2v, rfl, s10, hres⟩
          have F10 := F9.same s10
          have eN10 := s10 _ _ eN9
          have eL10 := s10 _ _ eL9
          have hvs10 : ∀ v ∈ vs, PrIt CS CM CP j H10 v := fun v hv => (hvs9 v hv).stl (Stl.same s10) (Nat.le_refl _)
          have hp10 := hp9.stl (Stl.same s10)
          have s1A := s9.trans s10
          clear hvs9 hp9 hd9 hD
          -- refused, or kept
          refine ⟨fun σ' H11 => ∃ ws, σ' = sl sc (some (.int (0 + i))) (some (.ref a)) (some (.ref N)) (some (.ref d)) (some (.str z)) (some (.ref L)) (some (.int (0 + j))) (some (.ref p)) (some (.str wd)) (some vt) (some r1v) (some r2v) x13 x14 x15 x16 ∧ Same H1 H11 ∧ Fd H11 a ∧ H11 N = some (.lst (nmsL.map V.str)) ∧ H11 L = some (.lst ws) ∧ (∀ v ∈ ws, PrIt CS CM CP (j + 1) H11 v) ∧ ws ≠ [] ∧ ws.length ≤ 1 + (j + 1) ∧ PjAt CS CM CP H11 p T, ?_, ?_⟩
          · rcases hres with ⟨d', p', T', rfl, rfl, hk, hpj, tok'⟩ | ⟨m, rfl, rfl⟩
            · obtain ⟨kv', ekd, _⟩ := id hk
              obtain ⟨kv2, ⟨dp2, D2, ep2, _⟩, _⟩ := id hpj
              refine ⟨.ref d', rfl, .ref d', .ty "str", .type "dict", .type "str", false, rfl, .ty _, tyDct ekd, kit_ty (by decide +kernel), false, rfl, iteF ?_⟩
              refine ⟨.ref p', rfl, .ref p', .ty "str", .ref CP, .type "str", false, rfl, .ty _, W.iP.ty ep2, L'.kPs, false, rfl, iteF ?_⟩
              refine ⟨.ref L, rfl, .inl ⟨rfl, _, .inl (.inl eL10)⟩, .ref p', rfl, .ref d', rfl, (by show 2 ≤ sizeLine; decide), fun U hU => ?_⟩
              have sU := KS.sameUpd (o := .tup [.ref p', .ref d']) hU
              have eL11 := sU _ _ eL10
              have kL : Kp L (upd H10 U (.tup [.ref p', .ref d'])) (upd (upd H10 U (.tup [.ref p', .ref d'])) L (.lst (vs ++ [.ref U]))) := Kp.put
              have stA : Stl H10 (upd (upd H10 U (.tup [.ref p', .ref d'])) L (.lst (vs ++ [.ref U]))) := (Stl.same sU).trans (Stl.lst eL11 kL)
              have eU : upd (upd H10 U (.tup [.ref p', .ref d'])) L (.lst (vs ++ [.ref U])) U = some (.tup [.ref p', .ref d']) := by
                rw [upd_ne fun z => by rw [← z, hU] at eL10; cases eL10]
                exact upd_same
              refine ⟨L, vs, .ref U, rfl, rfl, eL11, by rw [sizeLine_eq]; omega, vs ++ [.ref U], rfl, ?_, ?_, ?_, upd_same, ?_, by simp, by rw [List.length_append]; show vs.length + 1 ≤ _; omega, hp10.stl stA⟩
              · exact fun b o hb => kL _ _ (ne_of_none hb nL) (sU _ _ (s1A _ _ hb))
              · exact fdOther (F10.same sU) nLa
              · exact kL _ _ (Ne.symm nLN) (sU _ _ eN10)
              · intro v hv
                rcases List.mem_append.mp hv with h | h
                · exact (hvs10 v h).stl stA (Nat.le_succ j)
                · rw [List.mem_singleton.mp h]
                  exact ⟨U, p', d', T', rfl, eU, hpj.stl stA, hk.stl stA, tok'⟩
            · refine ⟨.str m, rfl, .str m, .ty "str", .type "str", .type "str", true, rfl, .ty _, .base (.str _), kit_ty (by decide +kernel), true, rfl, iteT ?_⟩
              refine ⟨.str m, rfl, .str m, rfl, rfl, _, rfl, ?_⟩
              rw [wE]
              exact iteF ⟨vs, rfl, s1A, F10, eN10, eL10, fun v hv => (hvs10 v hv).stl (Stl.refl _) (Nat.le_succ j), vs0, by omega, hp10⟩
          rintro _ H11 ⟨ws, rfl, s11, F11, eN11, eL11, hws11, ws0, lws, hp11⟩
          clear hres
          -- what a project tells is new
          refine ⟨fun σ' H12 => ∃ y5, σ' = sl sc (some (.int (0 + i))) (some (.ref a)) (some (.ref N)) (some (.ref d)) y5 (some (.ref L)) (some (.int (0 + j))) (some (.ref p)) (some (.str wd)) (some vt) (some r1v) (some r2v) x13 x14 x15 x16 ∧ Same H11 H12, ?_, ?_⟩
          · obtain ⟨kp, hpr, tP⟩ := id hp11
            obtain ⟨dp, Da, ha, eDa⟩ := id hpr
            refine ⟨.ref p, rfl, p, dp, _, rfl, ha, p, kp, T.map (·.1), rfl, hpr, tP.keys, by rw [List.length_map]; have := tok.2.1; omega, fun ys u H12 hy _ s12 eu => ?_⟩
            refine ⟨u, rfl, ⟨_, .inl (.inl eu)⟩, ?_⟩
            refine forJ (n := ys.length) (fun n σ' H' => ∃ y5, σ' = sl sc (some (.int (0 + i))) (some (.ref a)) (some (.ref N)) (some (.ref d)) y5 (some (.ref L)) (some (.int (0 + j))) (some (.ref p)) (some (.str wd)) (some vt) (some r1v) (some r2v) x13 x14 x15 x16 ∧ Same H12 H') ⟨_, rfl, Same.refl _⟩
              (fun n σ' H' lt h => by obtain ⟨_, _, s⟩ := h; exact ⟨_, V.str ys[n], .inl (.inl (s _ _ eu)), by rw [List.getElem?_map, List.getElem?_eq_getElem lt]; rfl⟩)
              (fun σ' H' h => by obtain ⟨_, _, s⟩ := h; exact ⟨_, .inl (.inl (s _ _ eu)), by rw [List.length_map]; exact Nat.le_refl _⟩) (fun n σ' H0 x H13 lt h y => ?_) (fun σ' H' h => ?_)
            · obtain ⟨rfl, y⟩ := y
              obtain ⟨y5, rfl, s13⟩ := h
              have ex := y _ (.inl (.inl (s13 _ _ eu)))
              rw [List.getElem?_map, List.getElem?_eq_getElem lt] at ex
              obtain rfl : V.str ys[n] = x := Option.some.inj ex
              have hm : ys[n] ∈ T.map (·.1) := hy.mem_iff.mp (List.getElem_mem lt)
              obtain ⟨⟨z2, t⟩, mt, ezt⟩ := List.mem_map.mp hm
              have ez : z2 = ys[n] := ezt
              rw [← ez]
              have et := tMem tok.1 mt
              have sA := s12.trans s13
              obtain ⟨v, t1, ev, e1, hv⟩ : ∃ v t1, valV kp (.inr z2) = some v ∧ tLook T z2 = some t1 ∧ TgAt CS CM H11 v t1 := by
                rcases tP.look z2 with ⟨_, n⟩ | r
                · rw [et] at n; cases n
                · exact r
              have hv13 := hv.stl (Stl.same sA)
              have ask : ∀ {Q2 : VK}, Q2 v H13 → spPGet CP NT [.ref p, .str z2] H13 Q2 E0 := fun {Q2} hq => ⟨p, kp, z2, rfl, hpr.stl (Stl.same sA), fun v' hv' => by rw [ev] at hv'; cases hv'; exact hq, fun n => by rw [ev] at n; cases n⟩
              refine ⟨.ref p, rfl, .str z2, rfl, p, dp, _, rfl, sA _ _ ha, ask ?_⟩
              cases t1 with
              | src os =>
                obtain ⟨x, dx, d3, rfl, hx, ho⟩ := hv13
                refine ⟨.ref x, .ref CS, .ref CS, .ref CS, true, rfl, .own CS, W.iS.ty hx, W.kSS, true, rfl, iteT ?_⟩
                refine ⟨.ref p, rfl, .str z2, rfl, p, dp, _, rfl, sA _ _ ha, ask ?_⟩
                refine ⟨x, dx, _, rfl, hx, x, dx, d3, oK os, rfl, hx, ho.1, fun u2 hu2 => ⟨.inr (.inr (.inl ⟨rfl, .inl ⟨_, upd_same⟩⟩)), u2, _, rfl, rfl, upd_same, _, rfl, s13.trans ?_⟩⟩
                intro b o hb
                rw [upd_ne (ne_of_none hb hu2), upd_ne (ne_of_none hb hu2)]
                exact hb
              | mad r as =>
                obtain ⟨x, dx, vr, va, rfl, hx, _⟩ := hv13
                exact ⟨.ref x, .ref CS, .ref CM, .ref CS, false, rfl, .own CS, W.iM.ty hx, W.kMS, false, rfl, iteF ⟨_, rfl, s13⟩⟩
            · obtain ⟨y5, rfl, s13⟩ := h
              exact ⟨y5, rfl, s12.trans s13⟩
          rintro _ H12 ⟨y5', rfl, s12⟩
          have eL12 := s12 _ _ eL11
          have hws12 : ∀ v ∈ ws, PrIt CS CM CP (j + 1) H12 v := fun v hv => (hws11 v hv).stl (Stl.same s12) (Nat.le_refl _)
          -- all of them stand
          refine ⟨.ref L, rfl, L, rfl, ⟨_, .inl (.inl eL12)⟩, fun D' hD' => ?_⟩
          refine lcJ (n := ws.length) (vs := [13, 14]) (fun n H' => At H12 D' [] H') ⟨KS.sameUpd hD', upd_same⟩ (fun n H' lt h => ⟨ws, ws[n], .inl (.inl (h.1 _ _ eL12)), List.getElem?_eq_getElem lt⟩) (fun H' h => ⟨ws, .inl (.inl (h.1 _ _ eL12)), Nat.le_refl _⟩) (fun n H' x H13 lt h y => ?_) (fun H' h => ?_)
          · obtain ⟨rfl, y⟩ := y
            have ex := y _ (.inl (.inl (h.1 _ _ eL12)))
            rw [List.getElem?_eq_getElem lt] at ex
            obtain rfl : ws[n] = x := Option.some.inj ex
            obtain ⟨t, p2, d2', T2, ev, et, hp2, hd2, tok2⟩ := (hws12 _ (List.getElem_mem lt)).stl (Stl.same h.1) (Nat.le_refl _)
            rw [ev]
            refine ⟨t, [.ref p2, .ref d2'], rfl, .inl (.inl et), rfl, .ref p2, [.ref d2'], rfl, .ref d2', [], rfl, rfl, rfl, ?_⟩
            refine ⟨.ref p2, rfl, .ref d2', rfl, p2, d2', T2, rfl, hp2, hd2, tok2.1, by have := tok2.2.1; omega, fun H14 s14 => ⟨true, rfl, iteF ?_⟩⟩
            exact ⟨h.1.trans s14, s14 _ _ h.2⟩
          · refine ⟨Nat.zero_le _, fun e he => ?_⟩
            refine neNil (n := 0) (KS.sameUpd he _ _ h.2) upd_same ⟨[], fun _ => .nil, fun d hd => absurd hd (by simp), Nat.le_refl _⟩ ⟨_, rfl, iteF ?_⟩
            have sZ := h.1.trans (KS.sameUpd (o := .lst []) he)
            exact ⟨_, _, _, _, _, _, _, _, ws, rfl, s11.trans (s12.trans sZ), F11.same (s12.trans sZ), sZ _ _ (s12 _ _ eN11), sZ _ _ eL12, fun v hv => (hws12 v hv).stl (Stl.same sZ) (Nat.le_refl _), ws0, lws⟩
        · obtain ⟨y4, y5, y7, y8, y9, y10, y11, y12, vs, rfl, s6, F6, eN6, eL6, hvs, vs0, lvs⟩ := h
          exact ⟨y4, y5, y7, y8, y9, y10, y11, y12, vs, rfl, s6, eL6, hvs, by omega⟩
      rintro _ H6 ⟨y4, y5, y7, y8, y9, y10, y11, y12, vs, rfl, s6, eL6, hvs6, lvs6⟩
      -- all by all
      refine ⟨.ref L, rfl, L, rfl, ⟨_, .inl (.inl eL6)⟩, ?_⟩
      refine forJ (n := vs.length) (fun n σ' H' => ∃ y13 y14 y15 y16, σ' = sl sc (some (.int (0 + i))) (some (.ref a)) (some (.ref N)) y4 y5 (some (.ref L)) y7 y8 y9 y10 y11 y12 y13 y14 y15 y16 ∧ Same H6 H') ⟨_, _, _, _, rfl, Same.refl _⟩
        (fun n σ' H' lt h => by obtain ⟨_, _, _, _, _, s⟩ := h; exact ⟨vs, vs[n], .inl (.inl (s _ _ eL6)), List.getElem?_eq_getElem lt⟩)
        (fun σ' H' h => by obtain ⟨_, _, _, _, _, s⟩ := h; exact ⟨vs, .inl (.inl (s _ _ eL6)), Nat.le_refl _⟩) (fun n σ' H0 x H7 lt h y => ?_) (fun σ' H' h => ?_)
      · obtain ⟨rfl, y⟩ := y
        obtain ⟨y13, y14, y15, y16, rfl, s7⟩ := h
        have eL7 := s7 _ _ eL6
        have ex := y _ (.inl (.inl eL7))
        rw [List.getElem?_eq_getElem lt] at ex
        obtain rfl : vs[n] = x := Option.some.inj ex
        obtain ⟨t, p, d, T, ev, et, hp, hd, tok⟩ := (hvs6 _ (List.getElem_mem lt)).stl (Stl.same s7) (Nat.le_refl _)
        rw [ev]
        refine ⟨t, _, rfl, .inl (.inl et), rfl, _, _, rfl, _, _, rfl, rfl, ?_⟩
        refine ⟨.ref L, rfl, L, rfl, ⟨_, .inl (.inl eL7)⟩, ?_⟩
        refine forJ (n := vs.length) (fun n σ' H' => ∃ y15 y16, σ' = sl sc (some (.int (0 + i))) (some (.ref a)) (some (.ref N)) y4 y5 (some (.ref L)) y7 y8 y9 y10 y11 y12 (some (.ref p)) (some (.ref d)) y15 y16 ∧ Same H7 H') ⟨_, _, rfl, Same.refl _⟩
          (fun n σ' H' lt h => by obtain ⟨_, _, _, s⟩ := h; exact ⟨vs, vs[n], .inl (.inl (s _ _ eL7)), List.getElem?_eq_getElem lt⟩)
          (fun σ' H' h => by obtain ⟨_, _, _, s⟩ := h; exact ⟨vs, .inl (.inl (s _ _ eL7)), Nat.le_refl _⟩) (fun m σ' H0 x2 H8 ltm h y2 => ?_) (fun σ' H' h => ?_)
        · obtain ⟨rfl, y2⟩ := y2
          obtain ⟨y15, y16, rfl, s8⟩ := h
          have ex2 := y2 _ (.inl (.inl (s8 _ _ eL7)))
          rw [List.getElem?_eq_getElem ltm] at ex2
          obtain rfl : vs[m] = x2 := Option.some.inj ex2
          obtain ⟨t2, p2, d2', T2, ev2, et2, hp2, hd2, tok2⟩ := (hvs6 _ (List.getElem_mem ltm)).stl (Stl.same (s7.trans s8)) (Nat.le_refl _)
          rw [ev2]
          have hp8 := hp.stl (Stl.same s8)
          have hd8 := hd.stl (Stl.same s8)
          refine ⟨t2, _, rfl, .inl (.inl et2), rfl, _, _, rfl, _, _, rfl, rfl, ?_⟩
          obtain ⟨kp, ⟨dp, Da, ha, _⟩, _⟩ := id hp8
          obtain ⟨kp2, ⟨dp2, Da2, ha2, _⟩, _⟩ := id hp2
          refine ⟨.ref p, rfl, .ref p2, rfl, p, p2, dp, _, rfl, rfl, ha, .inl ⟨CP, dp2, _, ha2, by simp [PySem.W.notFirst]⟩, p, p2, T, rfl, hp8, tok.1, .inl ⟨T2, hp2, fun H9 s9 => ⟨tbE T T2, rfl, ?_⟩⟩⟩
          obtain ⟨ka, ea, ta⟩ := hd8.stl (Stl.same s9)
          obtain ⟨kb, eb, tb⟩ := hd2.stl (Stl.same s9)
          refine ⟨.ref d, rfl, .ref d2', rfl, 2, d, d2', ka, kb, eT T T2, by decide, rfl, rfl, ea, eb, ktEb ta tb tok.1, ?_⟩
          rw [tabAll ta tb (eT T T2) fun _ => rfl]
          refine ⟨rfl, _, rfl, ?_⟩
          rw [decide_eq_true (rfl : V.bl (tbE T T2) = V.bl (tbE T T2))]
          refine iteF ⟨.ref p, rfl, .ref d, rfl, p, d, dp, _, rfl, rfl, s9 _ _ ha, .inr ⟨ka, ea⟩, p, d, T, rfl, hp8.stl (Stl.same s9), tok.1, .inr ⟨ka, ea, false, rfl, false, rfl, iteF ?_⟩⟩
          exact ⟨_, _, rfl, s8.trans s9⟩
        · obtain ⟨y15, y16, rfl, s8⟩ := h
          exact ⟨_, _, _, _, rfl, s7.trans s8⟩
      · obtain ⟨y13, y14, y15, y16, rfl, s7⟩ := h
        exact ⟨⟨_, _, _, _, _, _, _, _, _, _, _, _, _, _, _, _, rfl⟩, Same.seq (s6.trans s7) hS1⟩
    rintro σ' H' _
    -- unlike ones
    refine ⟨fun _ _ => True, ?_, ?_⟩
    · refine ⟨(by show 4 ≤ sizeLine; decide), fun U hU x dx hx hdx nex => mMadeT hx hdx nex upd_same fun H1 s1 e1 => ?_⟩
      refine ⟨(by show 4 ≤ sizeLine; decide), fun U2 hU2 x2 dx2 hx2 hdx2 nex2 => mMadeT hx2 hdx2 nex2 upd_same fun H2 s2 e2 => ?_⟩
      have sA := (KS.sameUpd (o := .tup [.str "", .str "1", .str "2", .str "4"]) hU2).trans s2
      refine ⟨x, x2, dx, _, rfl, rfl, sA _ _ e1, .inl ⟨CM, dx2, _, e2, by simp [PySem.W.notFirst]⟩, mEq (b := false) (sA _ _ e1) e2 (.str "a") (dpS4 (zs := ["", "1", "2", "3"]) (sA _ _ (s1 _ _ upd_same))) (.str "a") (dpS4 (zs := ["", "1", "2", "4"]) (s2 _ _ upd_same)) (by decide +kernel) (by decide +kernel) ⟨false, rfl, false, rfl, iteF ?_⟩⟩
      refine ⟨(by show 2 ≤ sizeLine; decide), fun V1 hV1 x3 dx3 hx3 hdx3 nex3 => mMade hx3 hdx3 nex3 Md.em fun H3 s3 e3 => ?_⟩
      refine ⟨(by show 2 ≤ sizeLine; decide), fun V2 hV2 x4 dx4 hx4 hdx4 nex4 => mMade hx4 hdx4 nex4 Md.em fun H4 s4 e4 => ?_⟩
      have sB := (KS.sameUpd (o := .tup [.str "a", .str "p"]) hV2).trans s4
      exact ⟨x3, x4, dx3, _, rfl, rfl, sB _ _ e3, .inl ⟨CM, dx4, _, e4, by simp [PySem.W.notFirst]⟩, mEq (b := false) (sB _ _ e3) e4 (dpS4 (zs := ["a", "o"]) (sB _ _ (s3 _ _ upd_same))) (.tup (Md.em _) .nil) (dpS4 (zs := ["a", "p"]) (s4 _ _ upd_same)) (.tup (Md.em _) .nil) (by decide +kernel) (by decide +kernel) ⟨false, rfl, false, rfl, iteF trivial⟩⟩
    rintro σ2 H2 _
    -- their class
    refine ⟨fun _ _ => True, ?_, ?_⟩
    · refine fun d hd x dx hx hdx nex => dMade hx hdx nex upd_same fun H3 D nD s3 e3 eD => ?_
      refine ⟨.ref x, .ref CT, .ref CS, .ref CT, true, rfl, .own CT, W.iS.ty e3, L'.kST, true, rfl, iteF ?_⟩
      refine fun x2 dx2 hx2 hdx2 nex2 => mMade hx2 hdx2 nex2 Md.em fun H4 s4 e4 => ?_
      exact ⟨.ref x2, .ref CT, .ref CM, .ref CT, true, rfl, .own CT, W.iM.ty e4, L'.kMT, true, rfl, iteF trivial⟩
    rintro σ3 H3 _
    -- unlike ones again, like ones
    refine ⟨fun _ _ => True, ?_, ?_⟩
    · refine fun p hp => ⟨upd_same, [(.inr "a", .str "1")], rfl, by show 1 ≤ 15; decide, fun x dx hx hdx nex => ?_⟩
      refine srcMade (os := [("a", "1")]) (CM := CM) hx hdx nex ⟨upd_same, by simp, by show 1 ≤ 100; decide⟩ fun H4 s4 h4 => ?_
      refine ⟨(by show 1 ≤ sizeLine; decide), fun U hU x2 dx2 hx2 hdx2 nex2 => mMadeT hx2 hdx2 nex2 upd_same fun H5 s5 e5 => ?_⟩
      have h5 := h4.stl (Stl.same ((KS.sameUpd (o := .tup [.str "a"]) hU).trans s5))
      obtain ⟨x', dx', d', ex, hxx, ho⟩ := h5
      cases ex
      refine ⟨x, x2, dx', _, rfl, rfl, hxx, .inl ⟨CM, dx2, _, e5, by simp [PySem.W.notFirst, W.sMS]⟩, x, dx', d', _, x2, rfl, hxx, ho, .inr ⟨dx2, _, e5, false, rfl, false, rfl, iteF ?_⟩⟩
      refine fun x3 dx3 hx3 hdx3 nex3 => mMade hx3 hdx3 nex3 Md.em fun H6 s6 e6 => ?_
      refine ⟨Nat.zero_le _, fun l hl x4 dx4 hx4 hdx4 nex4 => mMadeL hx4 hdx4 nex4 upd_same fun H7 u s7 eu e7 => ?_⟩
      have sB := (KS.sameUpd (o := .lst []) hl).trans s7
      exact ⟨x3, x4, dx3, _, dx4, _, rfl, rfl, sB _ _ e6, e7, mEq (b := true) (sB _ _ e6) e7 (.str "a") (.tup (Md.em _) .nil) (.str "a") (.tup (.inl (.inl eu)) .nil) (by decide +kernel) (by decide +kernel) ⟨true, rfl, false, rfl, iteF trivial⟩⟩
    rintro σ4 H4 _
    -- none at all
    refine fun d hd x dx hx hdx nex => pjMade (CS := CS) (CM := CM) (T := []) hx hdx nex upd_same .nil fun H5 s5 h5 => ?_
    refine fun d2 hd2 => ⟨d2, [], rfl, ⟨[], upd_same, .nil⟩, List.nodup_nil, Nat.zero_le _, fun p H6 s6 h6 => ?_⟩
    have h7 := h5.stl (Stl.same ((KS.sameUpd (o := .dK []) hd2).trans s6))
    obtain ⟨kp, ⟨dp, Da, ha, _⟩, _⟩ := id h7
    obtain ⟨kp2, ⟨dp2, Da2, ha2, _⟩, _⟩ := id h6
    exact ⟨x, p, dp, _, rfl, rfl, ha, .inl ⟨CP, dp2, _, ha2, by simp [PySem.W.notFirst]⟩, x, p, [], rfl, h7, List.nodup_nil, .inl ⟨[], h6, fun H8 _ => ⟨true, rfl, q H8⟩⟩⟩
end
end PJ

set_option Elab.async false
set_option linter.all false
set_option maxRecDepth 100000
set_option maxHeartbeats 0
namespace PJ.HD
open PySem PySem.Spec PyProof.Rows L2 KS KS.La
open KX hiding sameUpd
open He (ga ma)
section
variable {P : Program} {w : World} {K : PySem.W.Frag} {mg : Str → Option Value} {base h : Heap}
theorem hasMono {j k : Nat} {x : Str} {ps : List Str} {sp : Sp} (A : Has P w K mg base j x ps sp) (h : j ≤ k) : Has P w K mg base k x ps sp := by
  obtain ⟨f, fd, a, b, c, F⟩ := A.ex
  exact ⟨f, fd, a, b, c, F.mono h⟩
theorem factM (c : He.SaysD fa fn K) {f : He.Fa} (hm : f ∈ fa) : f.ok K = true := by
  obtain ⟨i, hi, e⟩ := List.mem_iff_getElem.mp hm
  exact c.fact i (f := f) (by rw [List.getElem?_eq_getElem hi, e])
theorem factX (c : He.SaysD fa fn K) {f : He.Fa} (hm : f ∈ faC ++ (faN ++ faM)) : f.ok K = true := factM c (List.mem_append_right _ (List.mem_append_right _ hm))
theorem factC (c : He.SaysD fa fn K) {f : He.Fa} (hm : f ∈ faC) : f.ok K = true := factX c (List.mem_append_left _ hm)
theorem factN (c : He.SaysD fa fn K) {f : He.Fa} (hm : f ∈ faN) : f.ok K = true := factX c (List.mem_append_right _ (List.mem_append_left _ hm))
theorem factT (c : He.SaysD fa fn K) {f : He.Fa} (hm : f ∈ faM) : f.ok K = true := factX c (List.mem_append_right _ (List.mem_append_right _ hm))
theorem propOf {C p g : Addr} {m : Str} (h1 : PySem.W.findIn K (.ref C) m = some (some (.ref p))) (h2 : PySem.W.specialIn K (.ref p) "__get__" = some (some (.builtin "property.__get__"))) (h3 : PySem.W.takesIn K (.ref p) = some true)
    (h4 : (PySem.W.recIn K p "property").map (fun l => l.head?) = some (some (.ref g))) : PropOf K C m p g := by
  refine ⟨h1, h2, h3, ?_⟩
  cases hr : PySem.W.recIn K p "property" with
  | none =>
    rw [hr] at h4
    cases h4
  | some l =>
    rw [hr] at h4
    cases l with
    | nil => cases h4
    | cons v l =>
      have ev : some (some v) = some (some (Value.ref g)) := h4
      injection ev with ev
      injection ev with ev
      exact ⟨l, by rw [ev]⟩
theorem kbnOf {x q : Str} {params : Arguments} {body : List Stmt} {scope : Scope} {f : Addr} {fd : FuncData} {ps ks : List Str} {n : Nat} {g : List Value → List Value → List Value} {gV : List V → List V → List V} (F : FunD K x q params body scope [] [] f fd)
    (hto : ∀ (kV doc pm : Value) (an : Option Addr) (cdv ct : Value) (us ws : List Value), us.length = n → ws.length = ks.length → bindArgs (PySem.W.fnOf x q params body scope .none kV doc pm an cdv ct) ⟨us, ks.zip ws⟩ = pure (ps.zip (g us ws)))
    (hrel : ∀ {vs : List V} {us : List Value} {zs : List V} {ws : List Value}, Vals vs us → Vals zs ws → Vals (gV vs zs) (g us ws)) : KBn K fd ps n ks g gV := by
  obtain ⟨oc, od, dV, kV, doc, pm, an, cdv, ct, osl, rfl, lk, hcd, hD, _⟩ := F.ex
  rcases hD with ⟨_, rfl⟩ | ⟨e, _⟩
  · exact ⟨fun s us ws _ h1 h2 => .of_eq (hto kV doc pm an cdv ct us ws h1 h2), hrel⟩
  · exact absurd rfl e
theorem exB_parts (e : exB K = true) : xcB K (ga K "NoTarget") veB "ValueError.__new__" = true ∧
    PySem.W.findIn K (.ref (ga K "NoTarget")) "name" = some none ∧
    PySem.W.findIn K (.ref (ga K "NoTarget")) "__init__" = some (some (.ref (ma K (ga K "NoTarget") "__init__"))) ∧
    PySem.W.typeIn K (.ref (ma K (ga K "NoTarget") "__init__")) = some (.type "function") ∧
    xcB K (ga K "NotSource") veB "ValueError.__new__" = true ∧
    PySem.W.findIn K (.ref (ga K "NotSource")) "name" = some none ∧
    PySem.W.findIn K (.ref (ga K "NotSource")) "__init__" = some (some (.ref (ma K (ga K "NotSource") "__init__"))) ∧
    PySem.W.typeIn K (.ref (ma K (ga K "NotSource") "__init__")) = some (.type "function") ∧
    PySem.W.findIn K (.ref (ga K "Source")) "__class__" = some (some (.builtin "object.__class__")) ∧
    PySem.W.mroIn K (ga K "Source") (.type "object") = some true ∧
    PySem.W.subIn K (.type "dict") (.ref (ga K "Source")) = some false ∧
    PySem.W.findIn K (.ref (ga K "Made")) "__class__" = some (some (.builtin "object.__class__")) ∧
    PySem.W.mroIn K (ga K "Made") (.type "object") = some true ∧
    PySem.W.subIn K (.type "dict") (.ref (ga K "Made")) = some false ∧
    PySem.W.findIn K (.ref (ga K "Project")) "__class__" = some (some (.builtin "object.__class__")) ∧
    PySem.W.mroIn K (ga K "Project") (.type "object") = some true ∧
    PySem.W.subIn K (.type "dict") (.ref (ga K "Project")) = some false ∧
    PySem.W.specialIn K (.builtin "object.__class__") "__get__" = some (some (.builtin "getset_descriptor.__get__")) ∧
    PySem.W.takesIn K (.builtin "object.__class__") = some true ∧
    PySem.W.kitOne K (.ref (ga K "Source")) (.ref (ga K "Source")) = some true ∧
    PySem.W.kitOne K (.ref (ga K "Made")) (.ref (ga K "Source")) = some false ∧
    PySem.W.kitOne K (.ref (ga K "Source")) (.ref (ga K "Made")) = some false ∧
    PySem.W.kitOne K (.ref (ga K "Made")) (.ref (ga K "Made")) = some true ∧
    PySem.W.kitOne K (.ref (ga K "Project")) (.ref (ga K "Project")) = some true ∧
    PySem.W.kitOne K (.ref (ga K "Source")) (.ref (ga K "Target")) = some true ∧
    PySem.W.kitOne K (.ref (ga K "Made")) (.ref (ga K "Target")) = some true ∧
    PySem.W.kitOne K (.ref (ga K "NoTarget")) (.ref (ga K "NoTarget")) = some true ∧
    PySem.W.kitOne K (.ref (ga K "NoTarget")) (.ref (ga K "NotSource")) = some false ∧
    PySem.W.kitOne K (.ref (ga K "NotSource")) (.ref (ga K "NoTarget")) = some false ∧
    PySem.W.kitOne K (.ref (ga K "NotSource")) (.ref (ga K "NotSource")) = some true ∧
    PySem.W.kitOne K (.type "dict") (.ref (ga K "Project")) = some false ∧
    PySem.W.kitOne K (.ref (ga K "Project")) (.type "str") = some false ∧
    PySem.W.subIn K (.ref (ga K "Made")) (.ref (ga K "Source")) = some false ∧
    PySem.W.subIn K (.ref (ga K "Source")) (.ref (ga K "Made")) = some false ∧
    PySem.W.findIn K (.ref (ga K "Made")) "__ne__" = some (some (.builtin "object.__ne__")) ∧
    PySem.W.exmOne K (.ref (ga K "NoTarget")) (.ref (ga K "BuildError")) = some true ∧
    PySem.W.exmOne K (.ref (ga K "NotSource")) (.ref (ga K "BuildError")) = some true ∧
    PySem.W.exmOne K (.ref (ga K "NoTarget")) (.ref (ga K "NoTarget")) = some true ∧
    PySem.W.fnIn K (ma K (ga K "Project") "__getitem__") = true ∧
    emB K (He.dflAt ("Made", some "__init__") 0 K) = true ∧
    PySem.W.findIn K (.ref (ga K "Source")) "outputs" = some (some (.ref (pAd K "Source" "outputs"))) ∧
    PySem.W.specialIn K (.ref (pAd K "Source" "outputs")) "__get__" = some (some (.builtin "property.__get__")) ∧
    PySem.W.takesIn K (.ref (pAd K "Source" "outputs")) = some true ∧
    (PySem.W.recIn K (pAd K "Source" "outputs") "property").map (fun l => l.head?) = some (some (.ref (gAd K "Source" "outputs"))) ∧
    okAt K (gAd K "Source" "outputs") "Source.outputs" = true ∧
    PySem.W.findIn K (.ref (ga K "Made")) "recipe" = some (some (.ref (pAd K "Made" "recipe"))) ∧
    PySem.W.specialIn K (.ref (pAd K "Made" "recipe")) "__get__" = some (some (.builtin "property.__get__")) ∧
    PySem.W.takesIn K (.ref (pAd K "Made" "recipe")) = some true ∧
    (PySem.W.recIn K (pAd K "Made" "recipe") "property").map (fun l => l.head?) = some (some (.ref (gAd K "Made" "recipe"))) ∧
    okAt K (gAd K "Made" "recipe") "Made.recipe" = true ∧
    PySem.W.findIn K (.ref (ga K "Made")) "arguments" = some (some (.ref (pAd K "Made" "arguments"))) ∧
    PySem.W.specialIn K (.ref (pAd K "Made" "arguments")) "__get__" = some (some (.builtin "property.__get__")) ∧
    PySem.W.takesIn K (.ref (pAd K "Made" "arguments")) = some true ∧
    (PySem.W.recIn K (pAd K "Made" "arguments") "property").map (fun l => l.head?) = some (some (.ref (gAd K "Made" "arguments"))) ∧
    okAt K (gAd K "Made" "arguments") "Made.arguments" = true ∧
    PySem.W.findIn K (.ref (ga K "Project")) "names" = some (some (.ref (pAd K "Project" "names"))) ∧
    PySem.W.specialIn K (.ref (pAd K "Project" "names")) "__get__" = some (some (.builtin "property.__get__")) ∧
    PySem.W.takesIn K (.ref (pAd K "Project" "names")) = some true ∧
    (PySem.W.recIn K (pAd K "Project" "names") "property").map (fun l => l.head?) = some (some (.ref (gAd K "Project" "names"))) ∧
    okAt K (gAd K "Project" "names") "Project.names" = true := by
  unfold exB at e
  simp only [Bool.and_eq_true, decide_eq_true_eq] at e
  exact e
theorem facts {f : Addr} (X : K.In h) (G : h.Ns mainGlobals mg) (hfa : mg ("law" : Str) = some (.ref f)) (y : Says K) :
    ∃ fd : FuncData, (∀ (s : Shared) (v : Value), BindsTo s fd ⟨[v], []⟩ [("_law_script", v)]) ∧ ∀ base : Heap, K.In base → base.Ns mainGlobals mg → FnOk P w K mg base CX0 66 f fd ["_law_script"] (spLaw K) := by
  obtain ⟨c, e, eg⟩ := y
  obtain ⟨p1, p2, p3, p4, p5, p6, p7, p8, p9, p10, p11, p12, p13, p14, p15, p16, p17, p18, p19, p20, p21, p22, p23, p24, p25, p26, p27, p28, p29, p30, p31, p32, p33, p34, p35, p36, p37, p38, p39, p40, p41, p42, p43, p44, p45, p46, p47, p48, p49, p50, p51, p52, p53, p54, p55, p56, p57, p58, p59, p60⟩ := exB_parts e
  have glo : ∀ x ∈ glos ++ ([("law" : Str)] : List Str), mg x = some (.ref (ga K x)) := fun x hx => He.glo_ok X G (factM c (f := .glo x) (List.mem_append_left _ (List.mem_map_of_mem hx)))
  have fre : ∀ x ∈ frees, mg x = none := fun x hx => He.free_ok X G (factM c (f := .free x) (List.mem_append_right _ (List.mem_append_left _ (List.mem_map_of_mem hx))))
  have clSource : Cls K (ga K "Source") := He.cls_ok (factC c (f := .cls "Source") (by simp [faC]))
  have clMade : Cls K (ga K "Made") := He.cls_ok (factC c (f := .cls "Made") (by simp [faC]))
  have clProject : Cls K (ga K "Project") := He.cls_ok (factC c (f := .cls "Project") (by simp [faC]))
  have mkSource : Mk K (ga K "Source") (ma K (ga K "Source") "__init__") := He.mkr_ok (factC c (f := .mkr "Source") (by simp [faC]))
  have mkMade : Mk K (ga K "Made") (ma K (ga K "Made") "__init__") := He.mkr_ok (factC c (f := .mkr "Made") (by simp [faC]))
  have mkProject : Mk K (ga K "Project") (ma K (ga K "Project") "__init__") := He.mkr_ok (factC c (f := .mkr "Project") (by simp [faC]))
  have naSource_outputs : NoAttr K (ga K "Source") "_outputs" := He.noat_ok (factN c (f := .noat "Source" "_outputs") (by simp [faN]))
  have naMade_recipe : NoAttr K (ga K "Made") "_recipe" := He.noat_ok (factN c (f := .noat "Made" "_recipe") (by simp [faN]))
  have naMade_arguments : NoAttr K (ga K "Made") "_arguments" := He.noat_ok (factN c (f := .noat "Made" "_arguments") (by simp [faN]))
  have naProject_targets : NoAttr K (ga K "Project") "_targets" := He.noat_ok (factN c (f := .noat "Project" "_targets") (by simp [faN]))
  have meSource__eq__ : Meth K (ga K "Source") "__eq__" (ma K (ga K "Source") "__eq__") := He.meth_ok (factT c (f := .meth "Source" "__eq__") (by simp [faM]))
  have meMade__eq__ : Meth K (ga K "Made") "__eq__" (ma K (ga K "Made") "__eq__") := He.meth_ok (factT c (f := .meth "Made" "__eq__") (by simp [faM]))
  have meProject__getitem__ : Meth K (ga K "Project") "__getitem__" (ma K (ga K "Project") "__getitem__") := He.meth_ok (factT c (f := .meth "Project" "__getitem__") (by simp [faM]))
  have meProject__contains__ : Meth K (ga K "Project") "__contains__" (ma K (ga K "Project") "__contains__") := He.meth_ok (factT c (f := .meth "Project" "__contains__") (by simp [faM]))
  have meProject__len__ : Meth K (ga K "Project") "__len__" (ma K (ga K "Project") "__len__") := He.meth_ok (factT c (f := .meth "Project" "__len__") (by simp [faM]))
  have meProject__eq__ : Meth K (ga K "Project") "__eq__" (ma K (ga K "Project") "__eq__") := He.meth_ok (factT c (f := .meth "Project" "__eq__") (by simp [faM]))
  have meProjectput : Meth K (ga K "Project") "put" (ma K (ga K "Project") "put") := He.meth_ok (factT c (f := .meth "Project" "put") (by simp [faM]))
  have meProjectwithout : Meth K (ga K "Project") "without" (ma K (ga K "Project") "without") := He.meth_ok (factT c (f := .meth "Project" "without") (by simp [faM]))
  have meProjectwrite : Meth K (ga K "Project") "write" (ma K (ga K "Project") "write") := He.meth_ok (factT c (f := .meth "Project" "write") (by simp [faM]))
  have meProjecterase : Meth K (ga K "Project") "erase" (ma K (ga K "Project") "erase") := He.meth_ok (factT c (f := .meth "Project" "erase") (by simp [faM]))
  have meProject_outputs_of : Meth K (ga K "Project") "_outputs_of" (ma K (ga K "Project") "_outputs_of") := He.meth_ok (factT c (f := .meth "Project" "_outputs_of") (by simp [faM]))
  have prSourceoutputs := propOf p41 p42 p43 p44
  obtain ⟨fdP0, FP0⟩ := funAt (congrArg (fun z : He.FnW × He.FnW × He.FnW × He.FnW => z.1) eg) p45
  have bP0 := FunD.bindsN (ps := ["self"]) FP0 (fun _ _ _ _ _ _ us hl => match us, hl with | [_], _ => rfl)
  have prMaderecipe := propOf p46 p47 p48 p49
  obtain ⟨fdP1, FP1⟩ := funAt (congrArg (fun z : He.FnW × He.FnW × He.FnW × He.FnW => z.2.1) eg) p50
  have bP1 := FunD.bindsN (ps := ["self"]) FP1 (fun _ _ _ _ _ _ us hl => match us, hl with | [_], _ => rfl)
  have prMadearguments := propOf p51 p52 p53 p54
  obtain ⟨fdP2, FP2⟩ := funAt (congrArg (fun z : He.FnW × He.FnW × He.FnW × He.FnW => z.2.2.1) eg) p55
  have bP2 := FunD.bindsN (ps := ["self"]) FP2 (fun _ _ _ _ _ _ us hl => match us, hl with | [_], _ => rfl)
  have prProjectnames := propOf p56 p57 p58 p59
  obtain ⟨fdP3, FP3⟩ := funAt (congrArg (fun z : He.FnW × He.FnW × He.FnW × He.FnW => z.2.2.2) eg) p60
  have bP3 := FunD.bindsN (ps := ["self"]) FP3 (fun _ _ _ _ _ _ us hl => match us, hl with | [_], _ => rfl)
  have B : Bn mg := ⟨fre _ (by decide +kernel), fre _ (by decide +kernel), fre _ (by decide +kernel), fre _ (by decide +kernel), fre _ (by decide +kernel), fre _ (by decide +kernel), fre _ (by decide +kernel), fre _ (by decide +kernel), fre _ (by decide +kernel), fre _ (by decide +kernel), fre _ (by decide +kernel), fre _ (by decide +kernel), fre _ (by decide +kernel), fre _ (by decide +kernel)⟩
  obtain ⟨fd, F⟩ := c.def_ 16 (d := dOf "law" 26) rfl
  have ef := hfa.symm.trans (glo "law" (by decide +kernel))
  cases ef
  have b := FunD.bindsA (ps := ["_law_script"]) F fun _ _ _ _ _ _ us hl => match us, hl with | [_], _ => rfl
  refine ⟨fd, fun s v => b s [v] rfl, fun base hb hg => ?_⟩
  obtain ⟨d0, F0⟩ := c.def_ 0 (d := dOf "_law_feed_of" 10) rfl
  have g0 : mg "_law_feed_of" = some (.ref (ga K "_law_feed_of")) := glo _ (by decide +kernel)
  have b0 : Binds K d0 ["_law_script", "_law_k"] [] := F0.bindsN (fun _ _ _ _ _ _ us hl => match us, hl with | [_, _], _ => rfl)
  obtain ⟨d1, F1⟩ := c.def_ 1 (d := dOf "_law_draw" 11) rfl
  have g1 : mg "_law_draw" = some (.ref (ga K "_law_draw")) := glo _ (by decide +kernel)
  have b1 : Binds K d1 ["_law_feed", "_law_many"] [] := F1.bindsN (fun _ _ _ _ _ _ us hl => match us, hl with | [_, _], _ => rfl)
  obtain ⟨d2, F2⟩ := c.def_ 2 (d := dOf "_law_pick" 12) rfl
  have g2 : mg "_law_pick" = some (.ref (ga K "_law_pick")) := glo _ (by decide +kernel)
  have b2 : Binds K d2 ["_law_feed", "_law_items"] [] := F2.bindsN (fun _ _ _ _ _ _ us hl => match us, hl with | [_, _], _ => rfl)
  obtain ⟨d3, F3⟩ := c.def_ 3 (d := dOf "_law_outs" 13) rfl
  have g3 : mg "_law_outs" = some (.ref (ga K "_law_outs")) := glo _ (by decide +kernel)
  have b3 : Binds K d3 [] [] := F3.bindsN (fun _ _ _ _ _ _ us hl => match us, hl with | [], _ => rfl)
  obtain ⟨d4, F4⟩ := c.def_ 4 (d := dOf "_law_calls" 14) rfl
  have g4 : mg "_law_calls" = some (.ref (ga K "_law_calls")) := glo _ (by decide +kernel)
  have b4 : Binds K d4 [] [] := F4.bindsN (fun _ _ _ _ _ _ us hl => match us, hl with | [], _ => rfl)
  obtain ⟨d5, F5⟩ := c.def_ 5 (d := dOf "_law_some_text" 15) rfl
  have g5 : mg "_law_some_text" = some (.ref (ga K "_law_some_text")) := glo _ (by decide +kernel)
  have b5 : Binds K d5 ["_law_feed"] [] := F5.bindsN (fun _ _ _ _ _ _ us hl => match us, hl with | [_], _ => rfl)
  obtain ⟨d6, F6⟩ := c.def_ 6 (d := dOf "_law_some_outputs" 16) rfl
  have g6 : mg "_law_some_outputs" = some (.ref (ga K "_law_some_outputs")) := glo _ (by decide +kernel)
  have b6 : Binds K d6 ["_law_feed"] [] := F6.bindsN (fun _ _ _ _ _ _ us hl => match us, hl with | [_], _ => rfl)
  obtain ⟨d7, F7⟩ := c.def_ 7 (d := dOf "_law_one_target" 17) rfl
  have g7 : mg "_law_one_target" = some (.ref (ga K "_law_one_target")) := glo _ (by decide +kernel)
  have b7 : Binds K d7 ["_law_told"] [] := F7.bindsN (fun _ _ _ _ _ _ us hl => match us, hl with | [_], _ => rfl)
  obtain ⟨d8, F8⟩ := c.def_ 8 (d := dOf "_law_whole_project" 18) rfl
  have g8 : mg "_law_whole_project" = some (.ref (ga K "_law_whole_project")) := glo _ (by decide +kernel)
  have b8 : Binds K d8 ["_law_targets"] [] := F8.bindsN (fun _ _ _ _ _ _ us hl => match us, hl with | [_], _ => rfl)
  obtain ⟨d9, F9⟩ := c.def_ 9 (d := dOf "_law_same" 19) rfl
  have g9 : mg "_law_same" = some (.ref (ga K "_law_same")) := glo _ (by decide +kernel)
  have b9 : Binds K d9 ["_law_found", "_law_due"] [] := F9.bindsN (fun _ _ _ _ _ _ us hl => match us, hl with | [_, _], _ => rfl)
  obtain ⟨d10, F10⟩ := c.def_ 10 (d := dOf "_law_drawn" 20) rfl
  have g10 : mg "_law_drawn" = some (.ref (ga K "_law_drawn")) := glo _ (by decide +kernel)
  have b10 : Binds K d10 ["_law_feed"] [] := F10.bindsN (fun _ _ _ _ _ _ us hl => match us, hl with | [_], _ => rfl)
  obtain ⟨d11, F11⟩ := c.def_ 11 (d := dOf "_law_changed" 21) rfl
  have g11 : mg "_law_changed" = some (.ref (ga K "_law_changed")) := glo _ (by decide +kernel)
  have b11 : Binds K d11 ["_law_targets", "_law_name", "_law_deed", "_law_told"] [] := F11.bindsN (fun _ _ _ _ _ _ us hl => match us, hl with | [_, _, _, _], _ => rfl)
  obtain ⟨d12, F12⟩ := c.def_ 12 (d := dOf "_law_does" 22) rfl
  have g12 : mg "_law_does" = some (.ref (ga K "_law_does")) := glo _ (by decide +kernel)
  have b12 : Binds K d12 ["_law_project", "_law_name", "_law_deed", "_law_told"] [] := F12.bindsN (fun _ _ _ _ _ _ us hl => match us, hl with | [_, _, _, _], _ => rfl)
  obtain ⟨d13, F13⟩ := c.def_ 13 (d := dOf "_law_is_told" 23) rfl
  have g13 : mg "_law_is_told" = some (.ref (ga K "_law_is_told")) := glo _ (by decide +kernel)
  have b13 : Binds K d13 ["_law_target"] [] := F13.bindsN (fun _ _ _ _ _ _ us hl => match us, hl with | [_], _ => rfl)
  obtain ⟨d14, F14⟩ := c.def_ 14 (d := dOf "_law_refuses" 24) rfl
  have g14 : mg "_law_refuses" = some (.ref (ga K "_law_refuses")) := glo _ (by decide +kernel)
  have b14 : Binds K d14 ["_law_project", "_law_name"] [] := F14.bindsN (fun _ _ _ _ _ _ us hl => match us, hl with | [_, _], _ => rfl)
  obtain ⟨d15, F15⟩ := c.def_ 15 (d := dOf "_law_stands" 25) rfl
  have g15 : mg "_law_stands" = some (.ref (ga K "_law_stands")) := glo _ (by decide +kernel)
  have b15 : Binds K d15 ["_law_project", "_law_targets"] [] := F15.bindsN (fun _ _ _ _ _ _ us hl => match us, hl with | [_, _], _ => rfl)
  obtain ⟨eNoTarget__init__, FNoTarget__init__⟩ := c.def_ 17 (d := dIn "NoTarget" "__init__" "NoTarget.__init__" 2 0) rfl
  have bNoTarget__init__ : Binds K eNoTarget__init__ ["self", "name"] [] := FunD.bindsN FNoTarget__init__ (fun _ _ _ _ _ _ us hl => match us, hl with | [_, _], _ => rfl)
  obtain ⟨eNotSource__init__, FNotSource__init__⟩ := c.def_ 18 (d := dIn "NotSource" "__init__" "NotSource.__init__" 3 0) rfl
  have bNotSource__init__ : Binds K eNotSource__init__ ["self", "name"] [] := FunD.bindsN FNotSource__init__ (fun _ _ _ _ _ _ us hl => match us, hl with | [_, _], _ => rfl)
  obtain ⟨eSource__init__, FSource__init__⟩ := c.def_ 19 (d := dIn "Source" "__init__" "Source.__init__" 6 0) rfl
  have bSource__init__ : Binds K eSource__init__ ["self", "outputs"] [] := FunD.bindsN FSource__init__ (fun _ _ _ _ _ _ us hl => match us, hl with | [_, _], _ => rfl)
  obtain ⟨eSource__eq__, FSource__eq__⟩ := c.def_ 20 (d := dIn "Source" "__eq__" "Source.__eq__" 6 1) rfl
  have bSource__eq__ : Binds K eSource__eq__ ["self", "other"] [] := FunD.bindsN FSource__eq__ (fun _ _ _ _ _ _ us hl => match us, hl with | [_, _], _ => rfl)
  obtain ⟨eMade__init__, FMade__init__⟩ := c.def_ 21 (d := dInD "Made" "__init__" "Made.__init__" 7 0) rfl
  obtain ⟨dsDMade__init__, vDMade__init__, bDMade__init__⟩ := FMade__init__.binds1 (ps := ["self", "recipe", "arguments"]) 2 0 (by simp [dInD, He.DefD.dvs]) rfl (fun _ _ _ _ _ _ _ us its hl hi => by
    rcases us with _ | ⟨u0, _ | ⟨u1, _ | ⟨u2, us⟩⟩⟩ <;> first | (cases hl; done) | skip
    rcases its with _ | ⟨i0, _ | ⟨i1, its⟩⟩ <;> first | (cases hi; done) | skip
    exact ⟨_, rfl, rfl⟩)
  obtain ⟨dsAMade__init__, vAMade__init__, bAMade__init__⟩ := FMade__init__.binds1 (ps := ["self", "recipe", "arguments"]) 3 1 (by simp [dInD, He.DefD.dvs]) rfl (fun _ _ _ _ _ _ _ us its hl hi => by
    rcases us with _ | ⟨u0, _ | ⟨u1, _ | ⟨u2, _ | ⟨u3, us⟩⟩⟩⟩ <;> first | (cases hl; done) | skip
    rcases its with _ | ⟨i0, _ | ⟨i1, its⟩⟩ <;> first | (cases hi; done) | skip
    exact ⟨_, rfl, rfl⟩)
  cases vAMade__init__
  rcases vDMade__init__ with _ | ⟨hE, _ | _⟩
  cases hE
  obtain ⟨eMade__eq__, FMade__eq__⟩ := c.def_ 22 (d := dIn "Made" "__eq__" "Made.__eq__" 7 1) rfl
  have bMade__eq__ : Binds K eMade__eq__ ["self", "other"] [] := FunD.bindsN FMade__eq__ (fun _ _ _ _ _ _ us hl => match us, hl with | [_, _], _ => rfl)
  obtain ⟨eProject__init__, FProject__init__⟩ := c.def_ 23 (d := dIn "Project" "__init__" "Project.__init__" 8 0) rfl
  have bProject__init__ : Binds K eProject__init__ ["self", "targets"] [] := FunD.bindsN FProject__init__ (fun _ _ _ _ _ _ us hl => match us, hl with | [_, _], _ => rfl)
  obtain ⟨eProject__getitem__, FProject__getitem__⟩ := c.def_ 24 (d := dIn "Project" "__getitem__" "Project.__getitem__" 8 1) rfl
  have bProject__getitem__ : Binds K eProject__getitem__ ["self", "at"] [] := FunD.bindsN FProject__getitem__ (fun _ _ _ _ _ _ us hl => match us, hl with | [_, _], _ => rfl)
  obtain ⟨eProject__contains__, FProject__contains__⟩ := c.def_ 25 (d := dIn "Project" "__contains__" "Project.__contains__" 8 3) rfl
  have bProject__contains__ : Binds K eProject__contains__ ["self", "x"] [] := FunD.bindsN FProject__contains__ (fun _ _ _ _ _ _ us hl => match us, hl with | [_, _], _ => rfl)
  obtain ⟨eProject__len__, FProject__len__⟩ := c.def_ 26 (d := dIn "Project" "__len__" "Project.__len__" 8 4) rfl
  have bProject__len__ : Binds K eProject__len__ ["self"] [] := FunD.bindsN FProject__len__ (fun _ _ _ _ _ _ us hl => match us, hl with | [_], _ => rfl)
  obtain ⟨eProject__eq__, FProject__eq__⟩ := c.def_ 27 (d := dIn "Project" "__eq__" "Project.__eq__" 8 5) rfl
  have bProject__eq__ : Binds K eProject__eq__ ["self", "other"] [] := FunD.bindsN FProject__eq__ (fun _ _ _ _ _ _ us hl => match us, hl with | [_, _], _ => rfl)
  obtain ⟨eProjectput, FProjectput⟩ := c.def_ 28 (d := dIn "Project" "put" "Project.put" 8 7) rfl
  have bProjectput : Binds K eProjectput ["self", "name", "target"] [] := FunD.bindsN FProjectput (fun _ _ _ _ _ _ us hl => match us, hl with | [_, _, _], _ => rfl)
  obtain ⟨eProjectwithout, FProjectwithout⟩ := c.def_ 29 (d := dIn "Project" "without" "Project.without" 8 8) rfl
  have bProjectwithout : Binds K eProjectwithout ["self", "name"] [] := FunD.bindsN FProjectwithout (fun _ _ _ _ _ _ us hl => match us, hl with | [_, _], _ => rfl)
  obtain ⟨eProjectwrite, FProjectwrite⟩ := c.def_ 30 (d := dIn "Project" "write" "Project.write" 8 9) rfl
  have bProjectwrite : Binds K eProjectwrite ["self", "name", "output", "text"] [] := FunD.bindsN FProjectwrite (fun _ _ _ _ _ _ us hl => match us, hl with | [_, _, _, _], _ => rfl)
  obtain ⟨eProjecterase, FProjecterase⟩ := c.def_ 31 (d := dIn "Project" "erase" "Project.erase" 8 10) rfl
  have bProjecterase : Binds K eProjecterase ["self", "name", "output"] [] := FunD.bindsN FProjecterase (fun _ _ _ _ _ _ us hl => match us, hl with | [_, _, _], _ => rfl)
  obtain ⟨eProject_outputs_of, FProject_outputs_of⟩ := c.def_ 32 (d := dIn "Project" "_outputs_of" "Project._outputs_of" 8 11) rfl
  have bProject_outputs_of : Binds K eProject_outputs_of ["self", "name"] [] := FunD.bindsN FProject_outputs_of (fun _ _ _ _ _ _ us hl => match us, hl with | [_, _], _ => rfl)
  have xT : Cl1 P w K mg base "NoTarget" (ga K "NoTarget") "name" := ⟨xcB_ok kdVe p1, glo _ (by decide +kernel), p2, _, _, p3, p4, okIni FNoTarget__init__ ⟨rfl, rfl, rfl, by decide +kernel, rfl, by decide +kernel, by decide +kernel⟩ rfl rfl (by decide) (by decide),
    kbnOf FNoTarget__init__ (fun _ _ _ _ _ _ us ws h1 h2 => match us, h1, ws, h2 with | [_, _], _, [], _ => rfl) (fun r _ => r), kbnOf FNoTarget__init__ (fun _ _ _ _ _ _ us ws h1 h2 => match us, h1, ws, h2 with | [_], _, [_], _ => rfl) (fun r t => r.append t)⟩
  have xN : Cl1 P w K mg base "NotSource" (ga K "NotSource") "name" := ⟨xcB_ok kdVe p5, glo _ (by decide +kernel), p6, _, _, p7, p8, okIni FNotSource__init__ ⟨rfl, rfl, rfl, by decide +kernel, rfl, by decide +kernel, by decide +kernel⟩ rfl rfl (by decide) (by decide),
    kbnOf FNotSource__init__ (fun _ _ _ _ _ _ us ws h1 h2 => match us, h1, ws, h2 with | [_, _], _, [], _ => rfl) (fun r _ => r), kbnOf FNotSource__init__ (fun _ _ _ _ _ _ us ws h1 h2 => match us, h1, ws, h2 with | [_], _, [_], _ => rfl) (fun r t => r.append t)⟩
  have iS : IsC K (ga K "Source") := ⟨clSource, p9, p18, p19, p10⟩
  have iM : IsC K (ga K "Made") := ⟨clMade, p12, p18, p19, p13⟩
  have iP : IsC K (ga K "Project") := ⟨clProject, p15, p18, p19, p16⟩
  have mi : mg "isinstance" = none := fre _ (by decide +kernel)
  have md : mg "dict" = none := fre _ (by decide +kernel)
  have oSI := okSInit (P := P) (w := w) (mg := mg) (base := base) (k := 0) clSource naSource_outputs md FSource__init__
  have oPI := okPInit (P := P) (w := w) (mg := mg) (base := base) (k := 0) clProject naProject_targets md FProject__init__
  have oMI := okMInit (P := P) (w := w) (mg := mg) (base := base) (k := 0) clMade naMade_recipe naMade_arguments (fre _ (by decide +kernel)) FMade__init__
  have gS : mg "Source" = some (.ref (ga K "Source")) := glo _ (by decide +kernel)
  have gM : mg "Made" = some (.ref (ga K "Made")) := glo _ (by decide +kernel)
  have oSE := okSEq (P := P) (w := w) (base := base) (k := 0) mi gS iS iM naSource_outputs p20 p21 FSource__eq__
  have oME := okMEq (P := P) (w := w) (base := base) (k := 0) mi gM iS iM naMade_recipe naMade_arguments p23 p22 FMade__eq__
  have oSO := okSOut (P := P) (w := w) (mg := mg) (base := base) (k := 0) clSource naSource_outputs md FP0
  have oMR := okMRec (P := P) (w := w) (mg := mg) (base := base) (k := 0) clMade naMade_recipe FP1
  have oMA := okMArg (P := P) (w := w) (mg := mg) (base := base) (k := 0) clMade naMade_arguments FP2
  have W : Pjc P w K mg base (ga K "Source") (ga K "Made") (ga K "Project") (ga K "NoTarget") (ga K "NotSource") := ⟨iS, iM, iP, naSource_outputs, naProject_targets, gS, gM, glo _ (by decide +kernel), mi, md, fre _ (by decide +kernel), fre _ (by decide +kernel), fre _ (by decide +kernel), p20, p21, p24, p31, p33, p34,
    ⟨_, _, mkSource, bSource__init__, oSI⟩, ⟨_, _, mkProject, bProject__init__, oPI⟩, ⟨_, _, meSource__eq__.at_, meSource__eq__.fn, bSource__eq__, oSE⟩, ⟨_, _, meMade__eq__.at_, meMade__eq__.fn, bMade__eq__, oME⟩, ⟨_, _, _, prSourceoutputs, bP0, oSO⟩, xT, xN⟩
  have oPG := okPGet (k := 0) W FProject__getitem__
  have oPP := okPPut (k := 0) W FProjectput
  have Gt : Pgt P w K mg base (ga K "Project") (ga K "NoTarget") := ⟨⟨_, _, meProject__getitem__.at_, p39, meProject__getitem__.fn, bProject__getitem__, oPG⟩⟩
  have oPO := okPOuts (k := 0) W Gt FProject_outputs_of
  have Ms : Pms P w K mg base (ga K "Source") (ga K "Made") (ga K "Project") (ga K "NoTarget") (ga K "NotSource") := ⟨⟨_, _, meProjectput, bProjectput, oPP⟩, ⟨_, _, meProject_outputs_of, bProject_outputs_of, oPO⟩⟩
  have Pd : Pmd P w K mg base (ga K "Source") (ga K "Made") (ga K "Project") (ga K "NoTarget") (ga K "NotSource") (ga K "BuildError") := ⟨⟨_, _, meProjectput, bProjectput, oPP⟩, ⟨_, _, meProjectwithout, bProjectwithout, okPWithout (k := 0) W FProjectwithout⟩, ⟨_, _, meProjectwrite, bProjectwrite, okPWrite (k := 0) W Ms FProjectwrite⟩,
    ⟨_, _, meProjecterase, bProjecterase, okPErase (k := 0) W Ms FProjecterase⟩, glo _ (by decide +kernel), p36, p37, p38, p27, p28, p29, p30⟩
  have Pa : Pas P w K mg base (ga K "Project") (ga K "NoTarget") := ⟨⟨_, _, meProject__getitem__.at_, p39, meProject__getitem__.fn, bProject__getitem__, oPG⟩, ⟨_, _, meProject__contains__.at_, meProject__contains__.fn, bProject__contains__, okPHas (k := 0) W FProject__contains__⟩,
    ⟨_, _, meProject__len__.at_, meProject__len__.fn, bProject__len__, okPLen (k := 0) W FProject__len__⟩, ⟨_, _, _, prProjectnames, bP3, okPNames (k := 0) W FP3⟩⟩
  have Mp : Mpr P w K mg base (ga K "Made") := ⟨p23, ⟨_, _, _, prMaderecipe, bP1, oMR⟩, ⟨_, _, _, prMadearguments, bP2, oMA⟩⟩
  have Mm : Mdc P w K mg base (ga K "Made") (He.dflAt ("Made", some "__init__") 0 K) := ⟨⟨_, _, mkMade, bDMade__init__, bAMade__init__, oMI⟩, emB_ok p40⟩
  have Lc : LawC P w K mg base (ga K "Source") (ga K "Made") (ga K "Project") (ga K "Target") := ⟨glo _ (by decide +kernel), p25, p26, p32, p11, p14, p17, p35, iM.hm, ⟨_, _, meProject__eq__.at_, meProject__eq__.fn, bProject__eq__, okPEq (k := 0) W FProject__eq__⟩⟩
  have aFeed : Has P w K mg base 1 "_law_feed_of" ["_law_script", "_law_k"] (spFeed K) := ⟨_, d0, g0, F0.kp, b0, okFeed (k := 0) F0 B.len⟩
  have aDraw : Has P w K mg base 1 "_law_draw" ["_law_feed", "_law_many"] (spDraw) := ⟨_, d1, g1, F1.kp, b1, okDraw (k := 0) F1⟩
  have aPick : Has P w K mg base 2 "_law_pick" ["_law_feed", "_law_items"] (spPick K) := ⟨_, d2, g2, F2.kp, b2, KS.La.okPick (k := 0) F2 B.len aDraw⟩
  have aOuts : Has P w K mg base 1 "_law_outs" [] (spOutsT) := ⟨_, d3, g3, F3.kp, b3, okOutsT (k := 0) F3⟩
  have aCalls : Has P w K mg base 1 "_law_calls" [] (spCalls) := ⟨_, d4, g4, F4.kp, b4, okCalls (k := 0) F4⟩
  have aText : Has P w K mg base 3 "_law_some_text" ["_law_feed"] (spText) := ⟨_, d5, g5, F5.kp, b5, okTxt (k := 0) F5 aDraw aPick aCalls⟩
  have aOutp : Has P w K mg base 4 "_law_some_outputs" ["_law_feed"] (spOutputs) := ⟨_, d6, g6, F6.kp, b6, okOutputs (k := 0) F6 md aDraw aText aOuts⟩
  have aOne : Has P w K mg base 3 "_law_one_target" ["_law_told"] (spOne (ga K "Source") (ga K "Made")) := ⟨_, d7, g7, F7.kp, b7, okOne (k := 0) W Mm F7⟩
  have aWhole : Has P w K mg base 4 "_law_whole_project" ["_law_targets"] (spWhole (ga K "Source") (ga K "Made") (ga K "Project")) := ⟨_, d8, g8, F8.kp, b8, okWhole (k := 0) W aOne F8⟩
  have aSame : Has P w K mg base 4 "_law_same" ["_law_found", "_law_due"] (spSame K 3) := ⟨_, d9, g9, F9.kp, b9, okSame F9 g9 B 3 0⟩
  have aDrawn : Has P w K mg base 5 "_law_drawn" ["_law_feed"] (spDrawn) := ⟨_, d10, g10, F10.kp, b10, okDrawn (k := 0) F10 B aDraw aText aOutp⟩
  have aChanged : Has P w K mg base 1 "_law_changed" ["_law_targets", "_law_name", "_law_deed", "_law_told"] (spChanged) := ⟨_, d11, g11, F11.kp, b11, okChanged (k := 0) md F11⟩
  have aDoes : Has P w K mg base 7 "_law_does" ["_law_project", "_law_name", "_law_deed", "_law_told"] (spDoes (ga K "Source") (ga K "Made") (ga K "Project")) := ⟨_, d12, g12, F12.kp, b12, okDoes (k := 0) W Pd aOne F12⟩
  have aTold : Has P w K mg base 3 "_law_is_told" ["_law_target"] (spTold (ga K "Source") (ga K "Made")) := ⟨_, d13, g13, F13.kp, b13, okTold (k := 0) W Mp F13⟩
  have aRefu : Has P w K mg base 5 "_law_refuses" ["_law_project", "_law_name"] (spRefu (ga K "Project")) := ⟨_, d14, g14, F14.kp, b14, okRefu (k := 0) W Pd Gt F14⟩
  have aStands : Has P w K mg base 6 "_law_stands" ["_law_project", "_law_targets"] (spStands (ga K "Source") (ga K "Made") (ga K "Project")) := ⟨_, d15, g15, F15.kp, b15, okStands (k := 0) W B Pa aSame aRefu aTold F15⟩
  exact (okLaw (k := 0) F B W Mm Pa Lc aFeed aDraw aPick aOuts aText aWhole aDrawn aChanged aDoes aStands).mono (by decide)
end
end PJ.HD

set_option Elab.async false
set_option linter.all false
set_option maxRecDepth 100000
set_option maxHeartbeats 0
open PySem PySem.W PySem.Calls PyProof.Rows
theorem PySem.Challenge.cw_farenough_k07_projects_changed_holds : PySem.Challenge.rw_farenough_k07_projects_changed.Holds := by
  w_on; o_law
  refine HandSHeadRun.head_any (r := OpenLaw.row PySem.Challenge.rw_farenough_k07_projects_changed) (q := view (OpenLaw.row PySem.Challenge.rw_farenough_k07_projects_changed).prog [26]) (H := PJ.HD.hk) (ob := PJ.HD.ob) (M := 20000) (loose := PJ.HD.loose)
    (d := HandSHeadRun.topDef (OpenLaw.row PySem.Challenge.rw_farenough_k07_projects_changed).prog 26) (kwd := []) PJ.HD.ob_eq
    (by kernel_rfl) (fun s => by kernel_rfl) PJ.HD.run (by kernel_rfl) (by kernel_rfl) (by kernel_rfl) (by rfl) (by first | assumption | decide +kernel) (by decide +kernel) ⟨rfl, rfl, rfl, rfl, rfl, by decide +kernel⟩ ?hw ?hc
  case hw => w_witness2
  case hc =>
    refine L2.walk_ofE (l := PySem.Challenge.rw_farenough_k07_projects_changed) (n := 63) (k := 66) (x := "_law_script") (CX := L2.CX0) rfl (by decide) (by kernel_rfl) ⟨rfl, by decide, by decide⟩ ?F (fun _ _ _ _ z => z)
    intro w mg fa h Y G hmg0
    obtain ⟨K, KX, y⟩ := Y
    have hmg : mg ("law" : PySem.Str) = some (.ref fa) := by
      have e : (HandSHeadRun.topDef (OpenLaw.row PySem.Challenge.rw_farenough_k07_projects_changed).prog 26).name = ("law" : PySem.Str) := by kernel_rfl
      rw [← e]
      exact hmg0
    obtain ⟨fd, hb, hF⟩ := PJ.HD.facts (P := (PySem.Challenge.rw_farenough_k07_projects_changed).prog) (w := w) KX G hmg y
    exact ⟨K, fd, PJ.spLaw K, KX, hb, fun H a ns hl _ hS => ⟨a, ns, rfl, hS, hl, fun _ => rfl⟩, hF⟩


import PyProof.Rows.All
import Wide.All
import OpenK.AllK
import Wide.FinOn
import HandS.ForExc
import HandS.ExcInit
import HandS.ExcField
import HandS.ExcIs
import HandS.ExcValue
import HandS.IsInst
import HandS.Defaults
import PyProof.ExcBaseAll.IndexError
import PyProof.ExcBaseAll.LookupError
import KE.KExcInit
import KE.KExcIs
import HandS.MakeKw
import HandS.Words
import HandS.ForMost
import HandS.Style
import PySem.Challenge.RW_farenough_k01_errors_and_their_values
import HandS.Codes
import HandS.Zip
import HandS.HeadHook1
import HandS.TryMany
import KE.KStateDown
import HandS.More
import HandS.WordsExc
import HandS.Head0
import HandS.Head1
import HandS.Head2
import HandS.HeadEnd
import HandS.HeadHook2
set_option Elab.async false
set_option linter.all false
set_option maxRecDepth 100000
set_option maxHeartbeats 4000000
namespace KX
open PySem PySem.Spec PyProof.Rows
abbrev veB : List Value := [.type "ValueError", .type "Exception", .type "BaseException", .type "object"]
abbrev keB : List Value := [.type "KeyError", .type "LookupError", .type "Exception", .type "BaseException", .type "object"]
abbrev ieB : List Value := [.type "IndexError", .type "LookupError", .type "Exception", .type "BaseException", .type "object"]
theorem storeKey : StoreFacts "KeyError" keB "object.__setattr__" "object" where
  mro := by kernel_rfl
  slot := .of (owner := "object") (n := "__setattr__")
    (by rw [typeLookup_type, builtinLookup_eq_fast]; kernel_rfl)
    (by decide +kernel)
    (by decide +kernel) (by decide +kernel)
    (by first
      | exact .inl (by decide +kernel)
      | exact .inr (by decide +kernel))
    (by rw [isSubtype_type]; kernel_rfl)
  entry := F.entry_object_sa
  kind := by decide +kernel
  split := by decide +kernel
  hasOwner := by decide +kernel
  args := fun a b c => by unfold argsOk; kernel_rfl
  passes := fun self => by kernel_rfl
/-- a chain of classes over a built-in error, made by newId -/
structure Kd (bmB : List Value) (newId : String) : Prop where
  made : ∃ B initId bmF, ExcBaseFacts B newId initId bmF ∧ bmB.contains (.type B) = true ∧ bmB.contains (.type "AttributeError") = false ∧ bmB.contains (.type "NameError") = false
  st : ∃ S, StoreFacts S bmB "object.__setattr__" "object"
theorem kdVe : Kd veB "ValueError.__new__" := ⟨⟨_, _, _, F.excBase_ValueError, by decide +kernel, by decide +kernel, by decide +kernel⟩, ⟨_, F.store_ValueError⟩⟩
theorem kdKe : Kd keB "LookupError.__new__" := ⟨⟨_, _, _, F.excBase_LookupError, by decide +kernel, by decide +kernel, by decide +kernel⟩, ⟨_, storeKey⟩⟩
theorem kdIe : Kd ieB "IndexError.__new__" := ⟨⟨_, _, _, F.excBase_IndexError, by decide +kernel, by decide +kernel, by decide +kernel⟩, ⟨_, F.store_IndexError⟩⟩
section
variable {prog : Program} {w : World} {A : Around} {E : Value → Shared → Prop} {R : Result → Shared → Prop} {h : Heap} {g : Array GenState} {d : Drawn} {t : Nat} {os : OsState}
variable {nm q : Str} {C N : Addr} {bs bm bmF : List Value} {hdct : Bool} {sn : List Str} {sub : List Value} {ab : Bool} {col : Option Bool} {dd : Option Addr} {k0 k1 k2 k3 k5 : Option Value} {B newId initId : String}
abbrev Stands (h : Heap) (nm q : Str) (C N : Addr) (bs bm : List Value) (hdct : Bool) (sn : List Str) (sub : List Value) (ab : Bool) (col : Option Bool) (dd : Option Addr) (k0 k1 k2 k3 k5 : Option Value) (newId : String) : Prop :=
  h.get? C = some (excClassObj nm q C N bs bm hdct sn sub ab col dd k0 k1 k2 k3 k5 newId)
theorem chkNew {M : Model} (F : ExcBaseFacts B newId initId bmF) (hB : bm.contains (.type B) = true) {rest : List Value} {kw : List (Str × Value)} {Q : Unit → Shared → Prop}
    (hC : Stands h nm q C N bs bm hdct sn sub ab col dd k0 k1 k2 k3 k5 newId) (hq : Q () ⟨h, g, d, t, os⟩) :
    wpAny M A (checkBuiltinCall newId ⟨.ref C :: rest, kw⟩) Q E ⟨h, g, d, t, os⟩ := by
  have hin : (Value.ref C :: bm).contains (.type B) = true := by
    rw [List.contains_cons, hB, Bool.or_true]
  have star := F.noStar
  simp only [checkBuiltinCall, F.newKind, F.newSplit, F.newRow]
  repeat (first
    | refine wpAny_loadPart_at hC ?_
    | (refine wpAny_isSubtype_exc hC ?_; rw [hin])
    | refine wpAny_staticBase_exc hC ?_
    | refine wpAny_madeBy_exc hC ?_
    | simp only [bne_self_eq_false, Bool.false_eq_true, if_false]
    | wp_step)
  exact hq
theorem newG (F : ExcBaseFacts B newId initId bmF) (hB : bm.contains (.type B) = true) (hA : bm.contains (.type "AttributeError") = false) (hN : bm.contains (.type "NameError") = false)
    {rest : List Value} {kw : List (Str × Value)} (hC : Stands h nm q C N bs bm hdct sn sub ab col dd k0 k1 k2 k3 k5 newId)
    (hq : R (.ok (.ret (.ref (h.objs.size + 1)))) ⟨(h.push (W.kdv_tup rest)).push (HandSPX.excO C h.objs.size), g, d, t, os⟩) (hrest : rest.length ≤ sizeLine) :
    codeAny (model prog w) A (.builtin newId ⟨.ref C :: rest, kw⟩) R ⟨h, g, d, t, os⟩ := by
  have ends := F.ends
  have i1 : (Value.ref C :: bm).contains (.type B) = true := by
    rw [List.contains_cons, hB, Bool.or_true]
  have i2 : (Value.ref C :: bm).contains (.type "AttributeError") = false := by
    rw [List.contains_cons, hA]; rfl
  have i3 : (Value.ref C :: bm).contains (.type "NameError") = false := by
    rw [List.contains_cons, hN]; rfl
  refine codeAny_builtinAt F.entry ?_
  unfold Builtin.«BaseException.__new__»
  refine PySem.wpAt_bind ?_
  show PySem.wpAt _ _ _ (PySem.stack >>= _) _ _ _
  refine PySem.wpAt_bind (PySem.wpAt_stack fun p below => PySem.wpAt_of_wpAny ?_)
  wp_walk
  refine PySem.wpAt_of_wpAny ?_
  rw [F.owner]
  repeat (first
    | with_reducible refine wpAny_madeHere_exc F.canon hC ?_
    | with_reducible refine wpAny_loadPart_at hC ?_
    | (with_reducible refine wpAny_isSubtype_exc hC ?_
       first | rw [i1] | rw [i2] | rw [i3])
    | wp_step)
  show R _ _
  rw [Heap.size_push]
  exact hq
theorem tcallG (F : ExcBaseFacts B newId initId bmF) (hB : bm.contains (.type B) = true) (hA : bm.contains (.type "AttributeError") = false) (hN : bm.contains (.type "NameError") = false)
    {rest : List Value} {kw : List (Str × Value)} {fI : Addr} {Q : Fin → Shared → Prop} (hC : Stands h nm q C N bs bm hdct sn sub ab col dd k0 k1 k2 k3 k5 newId)
    (hi : W.Looks (model prog w) h (typeLookup (.ref C) "__init__") (some (.ref fI))) (hb : ∀ self, W.Looks (model prog w) h (bindSpecial (.ref fI) self) (.ref fI, [self])) (hrest : rest.length ≤ sizeLine)
    (hq : codeAny (model prog w) A (.call (.ref fI) ⟨.ref (h.objs.size + 1) :: rest, kw⟩)
      (fun r s' => match r with
        | .ok (.ret v) => v = .none ∧ Q (.done (.ret (.ref (h.objs.size + 1)))) s'
        | .ok _ => False
        | .error e => E e s')
      ⟨(h.push (W.kdv_tup rest)).push (HandSPX.excO C h.objs.size), g, d, t, os⟩) :
    wpAny (model prog w) A (Builtin.«type.__call__» ⟨.ref C :: rest, kw⟩) Q E ⟨h, g, d, t, os⟩ := by
  repeat (first
    | with_reducible refine wpAny_loadPart_at hC ?_
    | with_reducible refine wpAny_madeBy_exc hC ?_
    | wp_step)
  refine codeAny_call_builtin_code (Code.quiet_builtin _ F.quiet) (chkNew F hB hC ?_)
  refine newG F hB hA hN hC ?_ hrest
  show wpAny _ _ _ _ _ _
  have k : ∀ b o, h.get? b = some o → ((h.push (W.kdv_tup rest)).push (HandSPX.excO C h.objs.size)).get? b = some o := fun b o e =>
    Heap.get?_push_of_some _ (Heap.get?_push_of_some _ e)
  have hC1 := k _ _ hC
  have there : ((h.push (W.kdv_tup rest)).push (HandSPX.excO C h.objs.size)).get? (h.objs.size + 1) = some (HandSPX.excO C h.objs.size) := by
    heap_get
  have self : (Value.ref C :: bm).contains (.ref C) = true := by simp
  have j1 := hi.keeps k
  have j2 := (hb (.ref (h.objs.size + 1))).keeps k
  unfold isInstance
  repeat (first
    | with_reducible refine wpAny_loadPart_at there ?_
    | (with_reducible refine wpAny_isSubtype_exc hC1 ?_
       rw [self])
    | wp_step)
  show wpAny _ _ (typeLookup (.ref C) _) _ _ _
  refine j1.at ?_
  refine wpAny_holding (wpAny_bind (j2.at ?_))
  refine wpAny_bind (wpAny_call (codeAny_mono hq fun r s' z => ?_))
  rcases r with e | (v | _ | _ | _) <;> first | exact z | exact z.elim | skip
  obtain ⟨rfl, z⟩ := z
  first
    | exact wpAny_pure (wpAny_pure z)
    | (wp_walk; exact z)
theorem callG (F : ExcBaseFacts B newId initId bmF) (hB : bm.contains (.type B) = true) (hA : bm.contains (.type "AttributeError") = false) (hN : bm.contains (.type "NameError") = false)
    {rest : List Value} {kw : List (Str × Value)} {fI : Addr} (hC : Stands h nm q C N bs bm hdct sn sub ab col dd k0 k1 k2 k3 k5 newId)
    (hi : W.Looks (model prog w) h (typeLookup (.ref C) "__init__") (some (.ref fI))) (hb : ∀ self, W.Looks (model prog w) h (bindSpecial (.ref fI) self) (.ref fI, [self])) (hrest : rest.length ≤ sizeLine)
    (hq : codeAny (model prog w) (A.under (.builtin "type.__call__" ⟨.ref C :: rest, kw⟩)) (.call (.ref fI) ⟨.ref (h.objs.size + 1) :: rest, kw⟩) (W.InitBack (h.objs.size + 1) R)
      ⟨(h.push (W.kdv_tup rest)).push (HandSPX.excO C h.objs.size), g, d, t, os⟩) :
    codeAny (model prog w) A (.call (.ref C) ⟨rest, kw⟩) R ⟨h, g, d, t, os⟩ := by
  have f1 := tc_lookup
  have f2 := tc_bind (.ref C)
  have isT : (⟨h, g, d, t, os⟩ : Shared).TypeIs (.ref C) "type" := ⟨_, hC, rfl⟩
  refine codeAny_of_tree ?_
  show wpAny _ _ (callAny (.ref C) _) _ _ _
  repeat (any_goals (first
    | assumption
    | with_reducible refine wpAny_loadPart_at hC ?_
    | wp_step))
  refine ⟨rfl, ?_⟩
  refine codeAny_call_builtin_at (Code.quiet_builtin _ (by decide +kernel)) entry_typeCall (wpAny_check_type_call_sub hC (tcallG F hB hA hN hC hi hb hrest ?_))
  refine codeAny_mono hq fun r s' z => ?_
  rcases r with e | (v | _ | _ | _) <;> exact z
end
end KX

set_option Elab.async false
set_option linter.all false
set_option maxRecDepth 100000
set_option maxHeartbeats 4000000
namespace KX
open PySem PySem.Spec PyProof.Rows L2
open Builtin.ObjectAttr (storeInOwnDict ownDictForStores)
open PySem.W (Frag findIn subIn typeIn keepIn hasDictIn mroIn specialIn takesIn excInitIn excOver clsIn takerIn)
/-! ### a class of errors, as the written part has it -/
structure XC (K : Frag) (C : Addr) : Prop where
  kd : ∃ bmB newId, Kd bmB newId ∧ excInitIn K C bmB newId = true ∧ excOver K C bmB = true
  sa : findIn K (.ref C) "__setattr__" = some (some (.builtin "object.__setattr__"))
  ga : findIn K (.ref C) "__getattribute__" = some (some (.builtin "BaseException.__getattribute__"))
  gg : findIn K (.ref C) "__getattr__" = some none
  ex : subIn K (.ref C) (.type "BaseException") = some true
  ty : typeIn K (.ref C) = some (.type "type")
  kp : keepIn K (.ref C) = true
  hd : hasDictIn K C = true
  cl : findIn K (.ref C) "__class__" = some (some (.builtin "object.__class__"))
  gt : specialIn K (.builtin "object.__class__") "__get__" = some (some (.builtin "getset_descriptor.__get__"))
  st : takesIn K (.builtin "object.__class__") = some true
  ob : mroIn K C (.type "object") = some true
def xcB (K : Frag) (C : Addr) (bmB : List Value) (newId : String) : Bool :=
  excInitIn K C bmB newId && (excOver K C bmB && (decide (findIn K (.ref C) "__setattr__" = some (some (.builtin "object.__setattr__")))
    && (decide (findIn K (.ref C) "__getattribute__" = some (some (.builtin "BaseException.__getattribute__"))) && (decide (findIn K (.ref C) "__getattr__" = some none)
    && (decide (subIn K (.ref C) (.type "BaseException") = some true) && (decide (typeIn K (.ref C) = some (.type "type")) && (keepIn K (.ref C) && (hasDictIn K C
    && (decide (findIn K (.ref C) "__class__" = some (some (.builtin "object.__class__"))) && (decide (specialIn K (.builtin "object.__class__") "__get__" = some (some (.builtin "getset_descriptor.__get__")))
    && (decide (takesIn K (.builtin "object.__class__") = some true) && decide (mroIn K C (.type "object") = some true))))))))))))
theorem xcB_ok {K : Frag} {C : Addr} {bmB : List Value} {newId : String} (k : Kd bmB newId) (h : xcB K C bmB newId = true) : XC K C := by
  unfold xcB at h
  simp only [Bool.and_eq_true, decide_eq_true_eq] at h
  obtain ⟨h1, h2, h3, h4, h5, h6, h7, h8, h9, h10, h11, h12, h13⟩ := h
  exact ⟨⟨_, _, k, h1, h2⟩, h3, h4, h5, h6, h7, h8, h9, h10, h11, h12, h13⟩
/-! ### self.name = v -/
section
variable {prog : Program} {w : World} {A : Around} {R : Result → Shared → Prop} {hp : Heap} {g : Array GenState} {d : Drawn} {t : Nat} {os : OsState}
theorem osaNew {K : Frag} {name : Str} {tk : Tok} {v : Value} {x C : Addr} {fv : Array Value} {S : String} {bmB : List Value} (SF : StoreFacts S bmB "object.__setattr__" "object")
    (X : K.In hp) (hx : hp.get? x = some { cls := .ref C, data := .fields fv }) (ov : excOver K C bmB = true) (hh : hasDictIn K C = true) (ha : findIn K (.ref C) name = some none)
    (hq : ∀ h' tk' dx, (∀ b o, b ≠ x → hp.get? b = some o → h'.get? b = some o) → hp.objs.size ≤ dx → dx ≠ x →
      h'.get? x = some { cls := .ref C, dict := some dx, data := .fields fv } → h'.Ns1 dx (fun y => if y = name then some v else none) → R (.ok (.ret .none)) ⟨h', g, d, tk', os⟩) :
    codeAny (model prog w) A (.call (.builtin "object.__setattr__") ⟨[.ref x, .str name tk, v], []⟩) R ⟨hp, g, d, t, os⟩ := by
  have hxs : x ≠ hp.objs.size := Nat.ne_of_lt (Heap.lt_size hx)
  have tkr : takerIn K C name = some none := by
    unfold PySem.W.takerIn
    rw [ha]
    rfl
  refine PySem.W.osa_openX (s := ⟨hp, g, d, t, os⟩) (od := none) SF X ⟨hx, rfl, rfl, trivial⟩ ov tkr fun b => ?_
  obtain ⟨cd, hcd, hdd⟩ := PySem.W.any_some hh
  have hcls : PySem.W.Looks (model prog w) hp (classData C) cd := PySem.W.looks_clsIn X hcd
  show wpAny _ _ (storeInOwnDict (.ref x) (.ref C) (.str name tk) name v b) _ _ _
  obtain ⟨nm, bs, mro, ns, qn, hd, sn, sb, ab, col, del⟩ := cd
  dsimp only at hdd
  subst hdd
  unfold storeInOwnDict ownDictForStores
  repeat (first
    | with_reducible refine HandSPX.store_in_new ?_ ?_
    | with_reducible refine wpAny_loadPart_at hx ?_
    | with_reducible refine hcls.at ?_
    | wp_step)
  · exact ⟨_, #[], _, (Heap.get?_update_ne _ _ _ _ hxs.symm).trans (Heap.get?_push_at rfl rfl), rfl, fun e he => absurd he (by simp), fun _ => rfl⟩
  · intro h' tk' hn' hs
    have hx1 : (hp.push { cls := .type "dict", data := .dict #[] }).get? x = some { cls := .ref C, data := .fields fv } := Heap.get?_push_of_some _ hx
    refine hq h' tk' hp.objs.size (fun b o hb ho => ?_) (Nat.le_refl _) hxs.symm ?_ hn'
    · refine (hs.2 b (Nat.ne_of_lt (Heap.lt_size ho))).trans ?_
      exact (Heap.get?_update_ne _ _ _ _ hb).trans (Heap.get?_push_of_some _ ho)
    · exact (hs.2 x hxs).trans (Heap.get?_update_self _ hx1 rfl)
theorem osaOld {K : Frag} {name : Str} {tk : Tok} {v : Value} {x C dx : Addr} {fv : Array Value} {m0 : Str → Option Value} {nl : List Str} {S : String} {bmB : List Value} (SF : StoreFacts S bmB "object.__setattr__" "object")
    (X : K.In hp) (hx : hp.get? x = some { cls := .ref C, dict := some dx, data := .fields fv }) (hns : hp.Ns1 dx m0) (hw : Within m0 nl) (hz : nl.length ≤ 1000)
    (ov : excOver K C bmB = true) (hh : hasDictIn K C = true) (ha : findIn K (.ref C) name = some none)
    (hq : ∀ h' tk', (∀ b o, b ≠ dx → hp.get? b = some o → h'.get? b = some o) → h'.Ns1 dx (fun y => if y = name then some v else m0 y) → R (.ok (.ret .none)) ⟨h', g, d, tk', os⟩) :
    codeAny (model prog w) A (.call (.builtin "object.__setattr__") ⟨[.ref x, .str name tk, v], []⟩) R ⟨hp, g, d, t, os⟩ := by
  obtain ⟨oD, esD, epD, hoD, hdD, _⟩ := hns.count hw
  have tkr : takerIn K C name = some none := by
    unfold PySem.W.takerIn
    rw [ha]
    rfl
  refine PySem.W.osa_openX (s := ⟨hp, g, d, t, os⟩) (od := some oD) SF X ⟨hx, rfl, rfl, hoD⟩ ov tkr fun b => ?_
  obtain ⟨cd, hcd, hdd⟩ := PySem.W.any_some hh
  have hcls : PySem.W.Looks (model prog w) hp (classData C) cd := PySem.W.looks_clsIn X hcd
  show wpAny _ _ (storeInOwnDict (.ref x) (.ref C) (.str name tk) name v b) _ _ _
  obtain ⟨nm, bs, mro, ns, qn, hd, sn, sb, ab, col, del⟩ := cd
  dsimp only at hdd
  subst hdd
  unfold storeInOwnDict ownDictForStores
  repeat (first
    | with_reducible refine OEX.store_in_old hns hw hz ?_
    | with_reducible refine wpAny_loadPart_at hx ?_
    | with_reducible refine hcls.at ?_
    | wp_step)
  intro h' tk' hn' hs
  exact hq h' tk' (fun b o hb ho => (hs.2 b hb).trans ho) hn'
end
end KX

set_option Elab.async false
set_option linter.all false
set_option maxRecDepth 100000
set_option maxHeartbeats 4000000
namespace KX
open PySem PySem.Spec PyProof.Rows L2
open PySem.W (Frag findIn subIn typeIn keepIn hasDictIn mroIn specialIn takesIn excInitIn excOver clsIn takerIn)
/-! ### stores, reads, isinstance, over the abstract heap -/
section
variable {X : Cx} {pins : List (Addr × Obj)} {σ : L2.St} {H : Hp} {s : Shared} {a C dx : Addr} {f : Str} {y : V} {u : Value} {fs : List (Str × V)} {E : Value → Shared → Prop} {A : Around}
theorem unTwo {hp h' : Heap} {dx : Addr} (e : H a = some (exo a C none)) (hnd : H dx = none) (dn : hp.objs.size ≤ dx) (k : ∀ b o, b ≠ a → hp.get? b = some o → h'.get? b = some o)
    (hx : ∃ o, h'.get? a = some o) : Un X.fs [] H (upd (upd H dx (exd dx fs)) a (exo a C (some dx))) hp h' := by
  have fresh : ∀ {b : Addr} {o : Obj}, hp.get? b = some o → b ≠ dx := fun q => Nat.ne_of_lt (Nat.lt_of_lt_of_le (Heap.lt_size q) dn)
  have off : ∀ {b : Addr}, H b = none → b ≠ a := fun n z => by
    rw [z, e] at n
    cases n
  constructor
  · exact fun b o q n _ _ => k b o (off n) q
  · exact fun b o q n _ _ => ⟨o.slots, k b o (off n) q⟩
  · intro b o q n _
    rw [upd_ne (off n), upd_ne (fresh q)]
    exact n
  · intro b o q _
    by_cases hb : b = a
    · rw [hb]
      exact hx
    · exact ⟨o, k b o hb q⟩
  · intro b xs q
    rw [upd_ne (at_ne e q exo_tup), upd_ne (ne_of_none q hnd)]
    exact q
  · intro b o v q
    rw [upd_ne (at_ne e q exo_frz), upd_ne (ne_of_none q hnd)]
    exact q
  · intro b ps q
    refine ⟨#[], ?_⟩
    rw [upd_ne (at_ne e q exo_tbl), upd_ne (ne_of_none q hnd), q]
    simp
theorem ostNew {Q : Unit → Shared → Prop} (T : XC X.K C) (I : Inv X pins σ H s) (e : H a = some (exo a C none)) (hno : findIn X.K (.ref C) f = some none) (ry : RelV y u)
    (h : ∀ dx s', H dx = none → dx ≠ a → Inv X pins σ (upd (upd H dx (exd dx [(f, y)])) a (exo a C (some dx))) s' → Q () s') :
    wpAny (model X.prog X.w) A (setAttr (.ref a) f u) Q E s := by
  obtain ⟨bmB, newId, ⟨_, S, SF⟩, _, ov⟩ := T.kd
  obtain ⟨t1, ho⟩ := exo_at I.hok e
  obtain ⟨hp, gs, dr, tk, os⟩ := s
  refine PySem.W.set_plain I.kIn (ox := HandSPX.excO C t1) (od := none) ⟨ho, rfl, rfl, trivial⟩ T.sa ?_
  refine osaNew SF I.kIn ho ov T.hd hno (fun h' tk' dx k dn dne hx hn => ?_)
  have hnd : H dx = none := I.hok.fresh dn
  refine h dx _ hnd dne (I.un (t' := tk') (unTwo e hnd dn k ⟨_, hx⟩) fun b o q => ?_)
  by_cases hb : b = a
  · subst hb
    rw [upd_same] at q
    cases q
    exact exo_ok hx
  · rw [upd_ne hb] at q
    by_cases hd : b = dx
    · subst hd
      rw [upd_same] at q
      cases q
      exact exd_ok hn (relO_put (fs := []) ry fun _ => True.intro)
    · rw [upd_ne hd] at q
      refine (I.hok b o q).stay (fun c v hc z => k c v ?_ z) (fun c hc => ?_) fun c xs hc => ?_
      · rcases hc with hc | hc
        · rw [hc]
          exact hb
        · exact at_ne e hc exo_own
      · rw [upd_ne (at_ne e hc exo_own), upd_ne (ne_of_none hc hnd)]
        exact hc
      · rw [upd_ne (at_ne e hc exo_tup), upd_ne (ne_of_none hc hnd)]
        exact hc
theorem ostOld {Q : Unit → Shared → Prop} (T : XC X.K C) (I : Inv X pins σ H s) (e : H a = some (exo a C (some dx))) (ed : H dx = some (exd dx fs)) (hl : fs.length ≤ 900) (hno : findIn X.K (.ref C) f = some none) (ry : RelV y u)
    (h : ∀ s', Inv X pins σ (upd H dx (exd dx ((f, y) :: fs))) s' → Q () s') :
    wpAny (model X.prog X.w) A (setAttr (.ref a) f u) Q E s := by
  obtain ⟨bmB, newId, ⟨_, S, SF⟩, _, ov⟩ := T.kd
  obtain ⟨t1, ho⟩ := exo_at I.hok e
  obtain ⟨mA, hns, rel⟩ := exd_at I.hok ed
  have hw := within_of rel
  obtain ⟨hp, gs, dr, tk, os⟩ := s
  obtain ⟨oD, _, _, hoD, _, _⟩ := hns.count hw
  refine PySem.W.set_plain I.kIn (ox := { HandSPX.excO C t1 with dict := some dx }) (od := some oD) ⟨ho, rfl, rfl, hoD⟩ T.sa ?_
  refine osaOld SF I.kIn ho hns hw (by rw [List.length_map]; omega) ov T.hd hno (fun h' tk' k hn => ?_)
  have there : ∃ o, h'.get? dx = some o := by
    obtain ⟨o, _, _, e', _⟩ := hn
    exact ⟨o, e'⟩
  refine h _ (I.write (t' := tk') (x := dx) (e := dx) (o := exd dx ((f, y) :: fs)) ?_ (.inl rfl) k there (exd_ok hn (relO_put ry rel)))
  rw [ed]
  exact True.intro
/-- at e: an error of the class at C whose dict holds fs | that has no dict -/
def ErD (H : Hp) (e C : Addr) (fs : List (Str × V)) : Prop := ∃ d, H e = some (exo e C (some d)) ∧ H d = some (exd d fs)
def Er0 (H : Hp) (e C : Addr) : Prop := H e = some (exo e C none)
def Er (H : Hp) (e C : Addr) : Prop := Er0 H e C ∨ ∃ fs, ErD H e C fs
theorem ErD.same {H H' : Hp} {e C : Addr} {fs : List (Str × V)} (k : Same H H') : ErD H e C fs → ErD H' e C fs := fun ⟨d, h1, h2⟩ => ⟨d, k _ _ h1, k _ _ h2⟩
theorem Er0.same {H H' : Hp} {e C : Addr} (k : Same H H') : Er0 H e C → Er0 H' e C := fun h => k _ _ h
theorem Er.same {H H' : Hp} {e C : Addr} (k : Same H H') : Er H e C → Er H' e C
  | .inl h => .inl (h.same k)
  | .inr ⟨fs, h⟩ => .inr ⟨fs, h.same k⟩
/-- an error as an instance -/
theorem Er.inst (I : Inv X pins σ H s) {e C : Addr} (h : Er H e C) : ∃ ox od, PySem.W.InstAt s.heap e ox C od := by
  rcases h with h | ⟨fs, d, h1, h2⟩
  · obtain ⟨t1, ho⟩ := exo_at I.hok h
    exact ⟨_, none, ho, rfl, rfl, trivial⟩
  · obtain ⟨t1, ho⟩ := exo_at I.hok h1
    obtain ⟨mA, hns, rel⟩ := exd_at I.hok h2
    obtain ⟨oD, _, _, hoD, _, _⟩ := hns.count (within_of rel)
    exact ⟨_, some oD, ho, rfl, rfl, hoD⟩
/-- isinstance(e, c), c one class -/
def rIsX (K : Frag) : List V → Hp → VK → Prop := fun xs H Q => ∃ (e C : Addr) (c : V) (cv : Value) (b : Bool), xs = [.ref e, c] ∧ Er H e C ∧ XC K C ∧ ClsV c cv ∧ PySem.W.kitOne K (.ref C) cv = some b ∧ Q (.bl b) H
theorem callIsX : CallR X (.builtin "isinstance") (rIsX X.K) := by
  intro pins s σ H xs us Q I r h
  obtain ⟨e, C, c, cv, b, rfl, he, T, hc, ans, q⟩ := h
  obtain ⟨u1, u2, rfl, r1, r2⟩ := vals2 r
  have e2 := hc.eq r2
  subst e2
  cases (show u1 = Value.ref e from r1)
  obtain ⟨ox, od, J⟩ := he.inst I
  have hcl : (clsIn X.K C).isSome = true := by
    obtain ⟨cd, hcd, _⟩ := PySem.W.any_some T.hd
    rw [hcd]
    rfl
  exact PySem.W.kia_one (PySem.W.kitx_exc hcl T.ga T.gg T.ex T.cl T.gt T.st T.ob) I.kIn J ans (fun z => nomatch z) fun tk => ⟨.bl b, H, I.tok tk, rfl, q⟩
/-- e.f, e an error that is held -/
def tXfld (K : Frag) (f : Str) (te : TE) : TE := fun σ H Q => te σ H fun x H1 => ∃ (e C : Addr) (fs : List (Str × V)) (v : V), x = .ref e ∧ ErD H1 e C fs ∧ XC K C ∧ findIn K (.ref C) f = some none ∧ fs.lookup f = some v ∧ Q v H1
theorem peXfld {o : Expr} {te : TE} {pos : Pos} (ho : PE X o te) (hb : attributeBase o f X.env (eval o X.env) = eval o X.env := by rfl) : PE X (.Attribute o f pos) (tXfld X.K f te) := by
  refine ⟨fun pins s σ H Q I h => ?_⟩
  refine attr_of hb (thn (ho.run pins s σ H _ I h) fun w s1 hh => ?_)
  obtain ⟨x, H1, I1, rx, e, C, fs, v, ex, ⟨d, h1, h2⟩, T, hno, l, q⟩ := hh
  subst ex
  cases (show w = Value.ref e from rx)
  obtain ⟨t1, he⟩ := exo_at I1.hok h1
  obtain ⟨mA, hns, rel⟩ := exd_at I1.hok h2
  obtain ⟨od, hod, hl⟩ := lookIn_ns hns
  obtain ⟨u, hu, ru⟩ := RelO.some_of (v := v) (o := mA f) (by rw [← l]; exact rel f)
  have J : PySem.W.InstAt s1.heap e { HandSPX.excO C t1 with dict := some d } C (some od) := ⟨he, rfl, rfl, hod⟩
  exact HandSPX.exc_get I1.kIn J T.ga T.gg T.ex (PySem.W.findObj_own T.hd hno rfl (by rw [hl, hu])) (handed_of ru) ⟨v, H1, I1.tok _, ru, q⟩
/-- self.f = e -/
def tOstX (K : Frag) (f : Str) (to te : TE) : TS := fun D σ H => te σ H fun y H1 => to σ H1 fun x H2 => ∃ a C : Addr, x = .ref a ∧ XC K C ∧ findIn K (.ref C) f = some none ∧
  ((H2 a = some (exo a C none) ∧ ∀ dx, H2 dx = none → dx ≠ a → D.nx σ (upd (upd H2 dx (exd dx [(f, y)])) a (exo a C (some dx)))) ∨
    ∃ (dx : Addr) (fs : List (Str × V)), H2 a = some (exo a C (some dx)) ∧ H2 dx = some (exd dx fs) ∧ fs.length ≤ 900 ∧ D.nx σ (upd H2 dx (exd dx ((f, y) :: fs))))
theorem psOstX {o e : Expr} {to te : TE} {p' pos : Pos} (ho : PE X o to) (he : PE X e te) (hs : swapsWith e (some (.Attribute o f p')) pos.line X.env = pure false := by rfl) : PS X (.Assign [.Attribute o f p'] e pos) (tOstX X.K f to te) := by
  refine ⟨fun pins s σ H D I h => ?_⟩
  refine plainObj_wpAny_Assign_Attribute (thn (he.run pins s σ H _ I h) fun v s1 ⟨y, H1, I1, r1, q1⟩ => ?_) hs
  refine thn (ho.run pins s1 σ H1 _ I1 q1) fun u s2 ⟨x, H2, I2, r2, a, C, ex, T, hno, q⟩ => ?_
  subst ex
  cases (show u = Value.ref a from r2)
  rcases q with ⟨ea, q⟩ | ⟨dx, fs, ea, ed, hl, q⟩
  · exact ostNew T I2 ea hno r1 fun dx s' n ne J => ⟨σ, _, J, q dx n ne⟩
  · exact ostOld T I2 ea ed hl hno r1 fun s' J => ⟨σ, _, J, q⟩
end
end KX

set_option Elab.async false
set_option linter.all false
set_option maxRecDepth 100000
set_option maxHeartbeats 4000000
namespace KX
open PySem PySem.Spec PyProof.Rows L2
open PySem.W (Frag findIn subIn typeIn keepIn hasDictIn mroIn specialIn takesIn excInitIn excOver clsIn takerIn)
/-! ### C(e, ..), an error with an __init__ of its own -/
section
variable {X : Cx} {CX : CXT} {k n : Nat} {fI C : Addr} {fd : FuncData} {ps ks : List Str} {sp : Sp} {g : List Value → List Value → List Value} {gV : List V → List V → List V}
variable {pins : List (Addr × Obj)} {σ : L2.St} {H : Hp} {s : Shared} {us ws : List Value} {vs zs : List V}
/-- the making, down to the __init__: R what is wanted of its end -/
theorem mkRun {R : Value → Shared → Prop} {Er' : Value → Shared → Prop} {E : XK} {Qi : Addr → VK} (T : XC X.K C) (iC : findIn X.K (.ref C) "__init__" = some (some (.ref fI))) (tI : typeIn X.K (.ref fI) = some (.type "function"))
    (F : FnOk X.prog X.w X.K X.mg X.base CX k fI fd ps sp) (hr : Room (k + 1) X.A) (hb : KBn X.K fd ps (n + 1) ks g gV) (I : Inv X pins σ H s) (r : Vals vs us) (rz : Vals zs ws)
    (l1 : vs.length = n) (l2 : zs.length = ks.length) (small : n ≤ 1000)
    (h : ∀ a, H a = none → s.heap.objs.size ≤ a → sp (gV (.ref a :: vs) zs) (upd H a (exo a C none)) (Qi a) E)
    (q : ∀ a t' h0 r' s', H a = none → s.heap.objs.size ≤ a → (∀ b o, s.heap.get? b = some o → h0.get? b = some o) → Inv X pins σ (upd H a (exo a C none)) { s with heap := h0, toks := t' } →
      CR CX X.stack X.prog X.w (upd H a (exo a C none)) { s with heap := h0, toks := t' } (Qi a) E r' s' →
      W.InitBack a (fun r s' => match r with | .ok (.ret v) => R v s' | .ok _ => False | .error e => Er' e s') r' s') :
    wpAny (model X.prog X.w) X.A (call (.ref C) us (ks.zip ws)) R Er' s := by
  obtain ⟨bmB, newId, ⟨⟨B, initId, bmF, F0, hB, hA, hN⟩, _⟩, qI, _⟩ := T.kd
  obtain ⟨nm, N, qn, bs, bm, hdct, sn, sub, ab, col, dd, k0, k1, k2, k3, k5, hC, hT⟩ := PySem.W.excInit_of I.kIn qI
  obtain ⟨hp, gs, dr, tk, os⟩ := s
  have hsz : hp.objs.size ≤ hp.objs.size + 1 := Nat.le_succ _
  have free : H (hp.objs.size + 1) = none := I.hok.fresh hsz
  have hq := h (hp.objs.size + 1) free hsz
  have kk : ∀ b o, hp.get? b = some o → ((hp.push (PySem.W.kdv_tup us)).push (HandSPX.excO C hp.objs.size)).get? b = some o := fun b o e =>
    Heap.get?_push_of_some _ (Heap.get?_push_of_some _ e)
  have there : ((hp.push (PySem.W.kdv_tup us)).push (HandSPX.excO C hp.objs.size)).get? (hp.objs.size + 1) = some (HandSPX.excO C hp.objs.size) := by
    heap_get
  have I2 : Inv X pins σ (upd H (hp.objs.size + 1) (exo (hp.objs.size + 1) C none)) ⟨(hp.push (PySem.W.kdv_tup us)).push (HandSPX.excO C hp.objs.size), gs, dr, tk, os⟩ :=
    I.laid (t' := tk) (a := hp.objs.size + 1) (o := exo (hp.objs.size + 1) C none) kk hsz (exo_ok there)
  have r1 : Vals (V.ref (hp.objs.size + 1) :: vs) (Value.ref (hp.objs.size + 1) :: us) := .cons rfl r
  have r2 := hb.rel r1 rz
  have e1 : (Value.ref (hp.objs.size + 1) :: us).length = n + 1 := r1.length.symm.trans (congrArg Nat.succ l1)
  have e2 : ws.length = ks.length := rz.length.symm.trans l2
  have lus : us.length ≤ sizeLine := by
    rw [← Paired.length r, sizeLine_eq]
    omega
  refine wpAny_call (callG F0 (by rw [hT]; exact hB) (by rw [hT]; exact hA) (by rw [hT]; exact hN) hC (PySem.W.looks_findIn I.kIn iC) (fun self => PySem.W.bind_fn I.kIn self tI) lus ?_)
  refine codeAny_mono (F.run _ X.stack _ _ ⟨Value.ref (hp.objs.size + 1) :: us, ks.zip ws⟩ (g (Value.ref (hp.objs.size + 1) :: us) ws) _ _ E (hr.make C us (ks.zip ws)) (I2.env0.make C us (ks.zip ws)) (hb.to _ _ ws I2.kIn e1 e2) r2 hq) fun r' s' z => ?_
  exact q _ tk _ r' s' free hsz kk I2 z
theorem runMkX {Q : VK} {E : XK} (T : XC X.K C) (iC : findIn X.K (.ref C) "__init__" = some (some (.ref fI))) (tI : typeIn X.K (.ref fI) = some (.type "function"))
    (F : FnOk X.prog X.w X.K X.mg X.base CX k fI fd ps sp) (hr : Room (k + 1) X.A) (hb : KBn X.K fd ps (n + 1) ks g gV) (hx : Passes CX X E) (I : Inv X pins σ H s) (r : Vals vs us) (rz : Vals zs ws)
    (l1 : vs.length = n) (l2 : zs.length = ks.length) (small : n ≤ 1000)
    (h : ∀ a, H a = none → sp (gV (.ref a :: vs) zs) (upd H a (exo a C none)) (fun v H2 => v = .non ∧ Q (.ref a) H2) E) :
    wpAny (model X.prog X.w) X.A (call (.ref C) us (ks.zip ws)) (EP X pins σ Q) X.xe s := by
  refine mkRun (Qi := fun a v H2 => v = .non ∧ Q (.ref a) H2) T iC tI F hr hb I r rz l1 l2 small (E := E) (fun a ha _ => h a ha) ?_
  intro a t' h0 r' s' _ _ _ I2 z
  cases r' with
  | error e => exact hx pins σ _ _ e s' I2 z
  | ok fl =>
    cases fl with
    | ret u =>
      obtain ⟨v, H', I3, rv, ev, q3⟩ := I2.after z
      subst ev
      exact ⟨rv, ⟨V.ref a, H', I3, rfl, q3⟩⟩
    | next => exact False.elim z
    | brk => exact False.elim z
    | cont => exact False.elim z
theorem runMkE {Q : XK} (T : XC X.K C) (iC : findIn X.K (.ref C) "__init__" = some (some (.ref fI))) (tI : typeIn X.K (.ref fI) = some (.type "function"))
    (F : FnOk X.prog X.w X.K X.mg X.base CX k fI fd ps sp) (hr : Room (k + 1) X.A) (hb : KBn X.K fd ps (n + 1) ks g gV) (hx : Passes CX X (fun _ _ _ => False)) (I : Inv X pins σ H s) (r : Vals vs us) (rz : Vals zs ws)
    (l1 : vs.length = n) (l2 : zs.length = ks.length) (small : n ≤ 1000)
    (h : ∀ a, H a = none → sp (gV (.ref a :: vs) zs) (upd H a (exo a C none)) (fun v H2 => v = .non ∧ ∃ (d : Addr) (fs : List (Str × V)), H2 a = some (exo a C (some d)) ∧ H2 d = some (exd d fs) ∧ H d = none ∧ Q (.ref C) (some d) (upd (del H2 a) d (.xd fs))) (fun _ _ _ => False)) :
    wpAny (model X.prog X.w) X.A (call (.ref C) us (ks.zip ws)) (MkP X pins σ Q) X.xe s := by
  refine mkRun (Qi := fun a v H2 => v = .non ∧ ∃ (d : Addr) (fs : List (Str × V)), H2 a = some (exo a C (some d)) ∧ H2 d = some (exd d fs) ∧ H d = none ∧ Q (.ref C) (some d) (upd (del H2 a) d (.xd fs)))
    T iC tI F hr hb I r rz l1 l2 small (fun a ha _ => h a ha) ?_
  intro a t' h0 r' s' _ ge kk I2 z
  cases r' with
  | error e => exact hx pins σ _ _ e s' I2 z
  | ok fl =>
    cases fl with
    | ret u =>
      obtain ⟨v, H2, os2, bare2, un2, hok2, rv, ev, d, fs, ea, ed, hd1, q2⟩ := z
      subst ev
      obtain ⟨hp, g1, d1, t1, o1⟩ := s
      obtain ⟨h2, g2, d2, t2, os'⟩ := s'
      exact ⟨rv, mk_end (raises_own T.ex T.ty) I ge kk un2 hok2 os2 bare2 ea ed hd1 q2⟩
    | next => exact False.elim z
    | brk => exact False.elim z
    | cont => exact False.elim z
end
end KX

set_option Elab.async false
set_option linter.all false
set_option maxRecDepth 100000
set_option maxHeartbeats 4000000
namespace KX
open PySem PySem.Spec PyProof.Rows L2
open PySem.W (Frag findIn subIn typeIn keepIn hasDictIn mroIn specialIn takesIn excInitIn excOver clsIn takerIn)
theorem sameUpd {H : Hp} {p : Addr} {o : HO} (h : H p = none) : Same H (upd H p o) := fun b x e => by
  rw [upd_ne (ne_of_none e h)]
  exact e
/-- __init__(self, f): self.f = f -/
def spIni (K : Frag) (f : Str) : Sp := fun vs H Q _ => ∃ (a C : Addr) (v : V), vs = [.ref a, v] ∧ XC K C ∧ findIn K (.ref C) f = some none ∧ H a = some (exo a C none) ∧
  ∀ dx, H dx = none → dx ≠ a → Q .non (upd (upd H dx (exd dx [(f, v)])) a (exo a C (some dx)))
def spIni2 (K : Frag) (f f2 : Str) : Sp := fun vs H Q _ => ∃ (a C : Addr) (v v2 : V), vs = [.ref a, v, v2] ∧ XC K C ∧ findIn K (.ref C) f = some none ∧ findIn K (.ref C) f2 = some none ∧ H a = some (exo a C none) ∧
  ∀ dx H', Same H (upd H' a (exo a C none)) → H' a = some (exo a C (some dx)) → H' dx = some (exd dx [(f2, v2), (f, v)]) → H dx = none → Q .non H'
section
variable {P : Program} {w : World} {K : Frag} {mg : Str → Option Value} {base : Heap} {fI : Addr} {fd : FuncData} {q f f2 : Str} {params : Arguments} {scope : Scope}
theorem okIni {p1 p2 p3 p4 : Pos} (Fd : FunD K "__init__" q params [.Assign [.Attribute (.Name "self" p1) f p2] (.Name f p3) p4] scope [] [] fI fd) (S : FnScope ["self", f] ["self", f] scope)
    (v0 : scope.names.lookup ("self" : Str) = some .local) (v1 : scope.names.lookup f = some .local) (d1 : (f == ("__debug__" : Str)) = false) (d2 : (f == ("__classdict__" : Str)) = false) :
    FnOk P w K mg base CX0 1 fI fd ["self", f] (spIni K f) := by
  refine Fd.ok S (fun vs H Q E h => ?_) (fun cdv A outer s H vs Q E hr h => ?_)
  · obtain ⟨a, C, v, rfl, _⟩ := h
    rfl
  · refine ⟨_, PSs.nox (pss_one (psOstX (pe_var (i := 0) rfl (.inl v0)) (pe_var (i := 1) rfl (.inl v1) d1 d2))), ?_⟩
    obtain ⟨a, C, v, rfl, T, hno, ha, k⟩ := h
    exact ⟨v, rfl, .ref a, rfl, a, C, rfl, T, hno, .inl ⟨ha, fun dx n ne => k dx n ne⟩⟩
theorem okIni2 {p1 p2 p3 p4 q1 q2 q3 q4 : Pos} (Fd : FunD K "__init__" q params [.Assign [.Attribute (.Name "self" p1) f p2] (.Name f p3) p4, .Assign [.Attribute (.Name "self" q1) f2 q2] (.Name f2 q3) q4] scope [] [] fI fd)
    (S : FnScope ["self", f, f2] ["self", f, f2] scope)
    (v0 : scope.names.lookup ("self" : Str) = some .local) (v1 : scope.names.lookup f = some .local) (v2 : scope.names.lookup f2 = some .local) (d1 : (f == ("__debug__" : Str)) = false) (d2 : (f == ("__classdict__" : Str)) = false)
    (d3 : (f2 == ("__debug__" : Str)) = false) (d4 : (f2 == ("__classdict__" : Str)) = false) : FnOk P w K mg base CX0 1 fI fd ["self", f, f2] (spIni2 K f f2) := by
  refine Fd.ok S (fun vs H Q E h => ?_) (fun cdv A outer s H vs Q E hr h => ?_)
  · obtain ⟨a, C, v, w, rfl, _⟩ := h
    rfl
  · refine ⟨_, PSs.nox (pss_cons (psOstX (pe_var (i := 0) rfl (.inl v0)) (pe_var (i := 1) rfl (.inl v1) d1 d2)) (pss_one (psOstX (pe_var (i := 0) rfl (.inl v0)) (pe_var (i := 2) rfl (.inl v2) d3 d4)))), ?_⟩
    obtain ⟨a, C, v, w, rfl, T, hno, hno2, ha, k⟩ := h
    refine ⟨v, rfl, .ref a, rfl, a, C, rfl, T, hno, .inl ⟨ha, fun dx n ne => ?_⟩⟩
    refine ⟨w, rfl, .ref a, rfl, a, C, rfl, T, hno2, .inr ⟨dx, [(f, v)], upd_same, ?_, (by show 1 ≤ 900; decide), ?_⟩⟩
    · rw [upd_ne ne, upd_same]
    · refine k dx _ (fun b o e => ?_) ?_ upd_same n
      · by_cases hb : b = a
        · rw [hb, upd_same, ← ha, ← hb, e]
        · have hd : b ≠ dx := ne_of_none e n
          rw [upd_ne hb, upd_ne hd, upd_ne hb, upd_ne hd]
          exact e
      · rw [upd_ne (Ne.symm ne), upd_same]
end
/-- the class x of errors with one field f; with two | with none of its own -/
structure Cl1 (P : Program) (w : World) (K : Frag) (mg : Str → Option Value) (base : Heap) (x : Str) (C : Addr) (f : Str) : Prop where
  xc : XC K C
  gm : mg x = some (.ref C)
  no : findIn K (.ref C) f = some none
  ini : ∃ fI fd, findIn K (.ref C) "__init__" = some (some (.ref fI)) ∧ typeIn K (.ref fI) = some (.type "function") ∧ FnOk P w K mg base CX0 1 fI fd ["self", f] (spIni K f) ∧
    KBn K fd ["self", f] 2 [] (fun us _ => us) (fun vs _ => vs) ∧ KBn K fd ["self", f] 1 [f] (fun us ws => us ++ ws) (fun vs zs => vs ++ zs)
structure Cl2 (P : Program) (w : World) (K : Frag) (mg : Str → Option Value) (base : Heap) (x : Str) (C : Addr) (f f2 : Str) : Prop where
  xc : XC K C
  gm : mg x = some (.ref C)
  no : findIn K (.ref C) f = some none
  no2 : findIn K (.ref C) f2 = some none
  ini : ∃ fI fd, findIn K (.ref C) "__init__" = some (some (.ref fI)) ∧ typeIn K (.ref fI) = some (.type "function") ∧ FnOk P w K mg base CX0 1 fI fd ["self", f, f2] (spIni2 K f f2) ∧
    KBn K fd ["self", f, f2] 3 [] (fun us _ => us) (fun vs _ => vs) ∧ KBn K fd ["self", f, f2] 1 [f2, f] (fun us ws => us ++ ws.reverse) (fun vs zs => vs ++ zs.reverse)
structure Cl0 (K : Frag) (mg : Str → Option Value) (x : Str) (C : Addr) : Prop where
  xc : XC K C
  gm : mg x = some (.ref C)
  own : PySem.W.excIn K C veB "ValueError.__new__" = true
section
variable {X : Cx} {C : Addr} {x f f2 : Str} {p pos : Pos} {e e2 : Expr} {te : TE} {ta : TA} {k1 k2 : Pos}
/-- C(e) -/
def tMk1 (C : Addr) (f : Str) (ta : TA) : TE := fun σ H Q => ta σ H fun vs H1 => ∃ v, vs = [v] ∧ ∀ a H2, H1 a = none → Same H1 H2 → ErD H2 a C [(f, v)] → Q (.ref a) H2
theorem mk1_end {H1 : Hp} {Q : VK} {v : V} (T : XC X.K C) (no : findIn X.K (.ref C) f = some none) (q : ∀ a H2, H1 a = none → Same H1 H2 → ErD H2 a C [(f, v)] → Q (.ref a) H2) (a : Addr) (ha : H1 a = none) :
    spIni X.K f [.ref a, v] (upd H1 a (exo a C none)) (fun v H2 => v = .non ∧ Q (.ref a) H2) E0 := by
  refine ⟨a, C, v, rfl, T, no, upd_same, fun dx hdx hne => ⟨rfl, ?_⟩⟩
  have n1 : H1 dx = none := by
    rw [upd_ne hne] at hdx
    exact hdx
  refine q a _ ha (fun b o hb => ?_) ⟨dx, upd_same, ?_⟩
  · have b1 := ne_of_none hb ha
    have b2 := ne_of_none hb n1
    rw [upd_ne b1, upd_ne b2, upd_ne b1]
    exact hb
  · rw [upd_ne hne, upd_same]
theorem peMk1 (T : Cl1 X.prog X.w X.K X.mg X.base x C f) (hr : Room 2 X.A) (hg : Gl X x) (ha : PA X [e] ta) (hdb : (x == ("__debug__" : Str)) = false := by decide)
    (he : starEach [e] X.env = (false, eval e X.env) :: starEach [] X.env := by rfl) (hpl : (backTo pos (starEach [] X.env)).any (·.1) = false := by rfl) :
    PE X (.Call (.Name x p) [e] [] pos) (tMk1 C f ta) := by
  refine ⟨fun pins s σ H Q I h => ?_⟩
  obtain ⟨fI, fd, iC, tI, F, hb, _⟩ := T.ini
  refine wpAny_Call_Name_kw (ld_glob I hg T.gm ?_ hdb)
  refine PySem.W.callWith_K (h₀ := X.base) I.ok.mod.kin T.xc.kp (thn (ha.run pos pins s σ H _ I h) fun us s1 ⟨vs, H1, I1, r, v, ev, q⟩ => ⟨I1.kIn, ?_⟩) he hpl
  subst ev
  exact runMkX (n := 1) (ks := []) (ws := []) (zs := []) T.xc iC tI F hr hb pass0 I1 r .nil rfl rfl (by decide) (fun a ha => mk1_end T.xc T.no q a ha)
/-- C(f = e) -/
theorem peMk1K (T : Cl1 X.prog X.w X.K X.mg X.base x C f) (hr : Room 2 X.A) (hg : Gl X x) (ha : PK X [⟨some f, e, k1⟩] ta) (hdb : (x == ("__debug__" : Str)) = false := by decide)
    (hall : (backToKw pos (keywordEach [⟨some f, e, k1⟩] X.env)).all (·.1.isSome) = true := by rfl) (hks : (backToKw pos (keywordEach [⟨some f, e, k1⟩] X.env)).filterMap (·.1) = [f] := by rfl)
    (hpl : ((backTo pos (starEach [] X.env)).any (·.1) || (backToKw pos (keywordEach [⟨some f, e, k1⟩] X.env)).any (·.1.isNone)) = false := by rfl) :
    PE X (.Call (.Name x p) [] [⟨some f, e, k1⟩] pos) (tMk1 C f ta) := by
  refine ⟨fun pins s σ H Q I h => ?_⟩
  obtain ⟨fI, fd, iC, tI, F, _, hb⟩ := T.ini
  refine wpAny_Call_Name_kw (ld_glob I hg T.gm ?_ hdb)
  refine PySem.W.callWith_KW0 (h₀ := X.base) I.ok.mod.kin T.xc.kp hall (thn (ha.run pos pins s σ H _ I h) fun ws s1 ⟨zs, H1, I1, rz, v, ev, q⟩ => ⟨I1.kIn, ?_⟩) hpl
  subst ev
  rw [hks]
  exact runMkX (n := 0) (ks := [f]) (us := []) (vs := []) T.xc iC tI F hr hb pass0 I1 .nil rz rfl rfl (by decide) (fun a ha => mk1_end T.xc T.no q a ha)
/-- C(e, e2) -/
def tMk2 (C : Addr) (f f2 : Str) (ta : TA) : TE := fun σ H Q => ta σ H fun vs H1 => ∃ v v2, vs = [v, v2] ∧ ∀ a H2, H1 a = none → Same H1 H2 → ErD H2 a C [(f2, v2), (f, v)] → Q (.ref a) H2
theorem mk2_end {H1 : Hp} {Q : VK} {v v2 : V} (T : XC X.K C) (no : findIn X.K (.ref C) f = some none) (no2 : findIn X.K (.ref C) f2 = some none) (q : ∀ a H2, H1 a = none → Same H1 H2 → ErD H2 a C [(f2, v2), (f, v)] → Q (.ref a) H2) (a : Addr) (ha : H1 a = none) :
    spIni2 X.K f f2 [.ref a, v, v2] (upd H1 a (exo a C none)) (fun v H2 => v = .non ∧ Q (.ref a) H2) E0 := by
  refine ⟨a, C, v, v2, rfl, T, no, no2, upd_same, fun dx H' sm h1 h2 hdx => ⟨rfl, ?_⟩⟩
  refine q a _ ha (fun b o hb => ?_) ⟨dx, h1, h2⟩
  have b1 := ne_of_none hb ha
  have z := sm b o (by rw [upd_ne b1]; exact hb)
  rw [upd_ne b1] at z
  exact z
theorem peMk2 (T : Cl2 X.prog X.w X.K X.mg X.base x C f f2) (hr : Room 2 X.A) (hg : Gl X x) (ha : PA X [e, e2] ta) (hdb : (x == ("__debug__" : Str)) = false := by decide)
    (he : starEach [e, e2] X.env = (false, eval e X.env) :: starEach [e2] X.env := by rfl) (hpl : (backTo pos (starEach [e2] X.env)).any (·.1) = false := by rfl) :
    PE X (.Call (.Name x p) [e, e2] [] pos) (tMk2 C f f2 ta) := by
  refine ⟨fun pins s σ H Q I h => ?_⟩
  obtain ⟨fI, fd, iC, tI, F, hb, _⟩ := T.ini
  refine wpAny_Call_Name_kw (ld_glob I hg T.gm ?_ hdb)
  refine PySem.W.callWith_K (h₀ := X.base) I.ok.mod.kin T.xc.kp (thn (ha.run pos pins s σ H _ I h) fun us s1 ⟨vs, H1, I1, r, v, v2, ev, q⟩ => ⟨I1.kIn, ?_⟩) he hpl
  subst ev
  exact runMkX (n := 2) (ks := []) (ws := []) (zs := []) T.xc iC tI F hr hb pass0 I1 r .nil rfl rfl (by decide) (fun a ha => mk2_end T.xc T.no T.no2 q a ha)
/-- C(f2 = e, f = e2) -/
def tMk2K (C : Addr) (f f2 : Str) (ta : TA) : TE := fun σ H Q => ta σ H fun vs H1 => ∃ v v2, vs = [v2, v] ∧ ∀ a H2, H1 a = none → Same H1 H2 → ErD H2 a C [(f2, v2), (f, v)] → Q (.ref a) H2
theorem peMk2K (T : Cl2 X.prog X.w X.K X.mg X.base x C f f2) (hr : Room 2 X.A) (hg : Gl X x) (ha : PK X [⟨some f2, e, k1⟩, ⟨some f, e2, k2⟩] ta) (hdb : (x == ("__debug__" : Str)) = false := by decide)
    (hall : (backToKw pos (keywordEach [⟨some f2, e, k1⟩, ⟨some f, e2, k2⟩] X.env)).all (·.1.isSome) = true := by rfl) (hks : (backToKw pos (keywordEach [⟨some f2, e, k1⟩, ⟨some f, e2, k2⟩] X.env)).filterMap (·.1) = [f2, f] := by rfl)
    (hpl : ((backTo pos (starEach [] X.env)).any (·.1) || (backToKw pos (keywordEach [⟨some f2, e, k1⟩, ⟨some f, e2, k2⟩] X.env)).any (·.1.isNone)) = false := by rfl) :
    PE X (.Call (.Name x p) [] [⟨some f2, e, k1⟩, ⟨some f, e2, k2⟩] pos) (tMk2K C f f2 ta) := by
  refine ⟨fun pins s σ H Q I h => ?_⟩
  obtain ⟨fI, fd, iC, tI, F, _, hb⟩ := T.ini
  refine wpAny_Call_Name_kw (ld_glob I hg T.gm ?_ hdb)
  refine PySem.W.callWith_KW0 (h₀ := X.base) I.ok.mod.kin T.xc.kp hall (thn (ha.run pos pins s σ H _ I h) fun ws s1 ⟨zs, H1, I1, rz, v, v2, ev, q⟩ => ⟨I1.kIn, ?_⟩) hpl
  subst ev
  rw [hks]
  exact runMkX (n := 0) (ks := [f2, f]) (us := []) (vs := []) T.xc iC tI F hr hb pass0 I1 .nil rz rfl rfl (by decide) (fun a ha => mk2_end T.xc T.no T.no2 q a ha)
/-- C(), no __init__ of its own -/
def tMk0 (C : Addr) : TE := fun _ H Q => ∀ a, H a = none → Q (.ref a) (upd H a (exo a C none))
theorem peMk0 (T : Cl0 X.K X.mg x C) (hg : Gl X x) (hdb : (x == ("__debug__" : Str)) = false := by decide) : PE X (.Call (.Name x p) [] [] pos) (tMk0 C) := by
  refine ⟨fun pins s σ H Q I h => ?_⟩
  refine wpAny_Call_Name_kw (ld_glob I hg T.gm ?_ hdb)
  refine PySem.W.callWith_K0 I.kIn T.xc.kp ?_
  show wpAny _ _ (call (.ref C) []) _ _ _
  obtain ⟨bm, N, nm, qn, bs, hdct, sn, sub, ab, col, dd, k0, k1, k2, k3, k5, mN, hC, hN, hni, O⟩ := exc_obj I.kIn T.own
  refine wpAny_call_exc_subT F.excBase_ValueError O hC hN hni (fun h' a hm => ?_) (Nat.zero_le _)
  have hn : H a = none := I.hok.gone hm.new
  obtain ⟨t, ht, _, _⟩ := hm.there
  exact ⟨.ref a, upd H a (exo a C none), I.laidN hm.keeps hm.new hn (exo_ok ht), rfl, h a hn⟩
/-- raise C(e) | raise C() -/
def tMkE (C : Addr) (f : Str) (ta : TA) : L2.St → Hp → XK → Prop := fun σ H Q => ta σ H fun vs H1 => ∃ v, vs = [v] ∧ ∀ d H2, Same H1 H2 → H2 d = some (.xd [(f, v)]) → Q (.ref C) (some d) H2
theorem pmkX (T : Cl1 X.prog X.w X.K X.mg X.base x C f) (hr : Room 2 X.A) (hg : Gl X x) (ha : PA X [e] ta) (hdb : (x == ("__debug__" : Str)) = false := by decide)
    (he : starEach [e] X.env = (false, eval e X.env) :: starEach [] X.env := by rfl) (hpl : (backTo pos (starEach [] X.env)).any (·.1) = false := by rfl) :
    PMk X (.Call (.Name x p) [e] [] pos) (tMkE C f ta) := by
  intro pins s σ H Q I h
  obtain ⟨fI, fd, iC, tI, F, hb, _⟩ := T.ini
  refine wpAny_Call_Name_kw (ld_glob I hg T.gm ?_ hdb)
  refine PySem.W.callWith_K (h₀ := X.base) I.ok.mod.kin T.xc.kp (thn (ha.run pos pins s σ H _ I h) fun us s1 ⟨vs, H1, I1, r, v, ev, q⟩ => ⟨I1.kIn, ?_⟩) he hpl
  subst ev
  refine runMkE (n := 1) (ks := []) (ws := []) (zs := []) T.xc iC tI F hr hb pass0 I1 r .nil rfl rfl (by decide) (fun a ha => ?_)
  refine ⟨a, C, v, rfl, T.xc, T.no, upd_same, fun dx hdx hne => ⟨rfl, dx, [(f, v)], upd_same, ?_, ?_, ?_⟩⟩
  · rw [upd_ne hne, upd_same]
  · rw [upd_ne hne] at hdx
    exact hdx
  · have n1 : H1 dx = none := by
      rw [upd_ne hne] at hdx
      exact hdx
    refine q dx _ (fun b o hb => ?_) upd_same
    have b1 := ne_of_none hb ha
    have b2 := ne_of_none hb n1
    rw [upd_ne b2, del_ne b1, upd_ne b1, upd_ne b2, upd_ne b1]
    exact hb
theorem pmk0 (T : Cl0 X.K X.mg x C) (hg : Gl X x) (hdb : (x == ("__debug__" : Str)) = false := by decide) : PMk X (.Call (.Name x p) [] [] pos) (fun _ H Q => Q (.ref C) none H) := by
  intro pins s σ H Q I h
  refine wpAny_Call_Name_kw (ld_glob I hg T.gm ?_ hdb)
  refine PySem.W.callWith_K0 I.kIn T.xc.kp ?_
  show wpAny _ _ (call (.ref C) []) _ _ _
  obtain ⟨bm, N, nm, qn, bs, hdct, sn, sub, ab, col, dd, k0, k1, k2, k3, k5, mN, hC, hN, hni, O⟩ := exc_obj I.kIn T.own
  refine wpAny_call_exc_subT F.excBase_ValueError O hC hN hni (fun h' e hm => ?_) (Nat.zero_le _)
  exact mk_of I hm (raises_own T.xc.ex T.xc.ty) h (I.hok.gone hm.new)
end
end KX

set_option Elab.async false
set_option linter.all false
set_option maxRecDepth 100000
set_option maxHeartbeats 4000000
namespace K1
open PySem PySem.Spec PyProof.Rows L2
def top (i : Nat) : Stmt := PySem.Challenge.pw_farenough_k01_errors_and_their_values.main.body.getD i (.Pass ⟨0, 0, 0, 0⟩)
abbrev sFeed : Stmt := top 29
abbrev sDraw : Stmt := top 30
abbrev sPick : Stmt := top 31
abbrev sCalls : Stmt := top 32
abbrev sText : Stmt := top 33
abbrev sSame : Stmt := top 34
abbrev sAny : Stmt := top 35
abbrev sPlaces : Stmt := top 36
abbrev sOthers : Stmt := top 37
abbrev sNames : Stmt := top 38
abbrev sCaught : Stmt := top 39
abbrev sRaised : Stmt := top 40
abbrev sRight : Stmt := top 41
abbrev sLaw : Stmt := top 42
abbrev FnP (K : PySem.W.Frag) (x : Str) (st : Stmt) (f : Addr) (fd : FuncData) : Prop := FunD K x x (defArgs st) (defBody st) (defScope st) [] [] f fd
end K1

set_option Elab.async false
set_option linter.all false
set_option maxRecDepth 100000
set_option maxHeartbeats 4000000
namespace K1
open PySem PySem.Spec PyProof.Rows L2
/-! ### the feed -/
/-- all but the list at f stands -/
def Kp (f : Addr) (H H' : Hp) : Prop := ∀ b o, b ≠ f → H b = some o → H' b = some o
def Fd (H : Hp) (f : Addr) : Prop := ∃ x y : Int, H f = some (.lst [.int x, .int y]) ∧ 0 ≤ x ∧ 0 ≤ y
theorem Kp.refl (f : Addr) (H : Hp) : Kp f H H := fun _ _ _ h => h
theorem Kp.trans {f : Addr} {H H1 H2 : Hp} (a : Kp f H H1) (b : Kp f H1 H2) : Kp f H H2 := fun c o n h => b c o n (a c o n h)
theorem Kp.put {f : Addr} {H : Hp} {o : HO} : Kp f H (upd H f o) := fun b u n h => by
  rw [upd_ne n]
  exact h
theorem Kp.new {f p : Addr} {H : Hp} {o : HO} (h : H p = none) : Kp f H (upd H p o) := fun b u _ e => by
  rw [upd_ne (ne_of_none e h)]
  exact e
theorem Kp.same {f : Addr} {H H' : Hp} (s : Same H H') : Kp f H H' := fun b o _ h => s b o h
theorem Fd.same {f : Addr} {H H' : Hp} (s : Same H H') : Fd H f → Fd H' f := fun ⟨x, y, h, a, b⟩ => ⟨x, y, s _ _ h, a, b⟩
theorem Fd.new {f p : Addr} {H : Hp} {o : HO} (h : H p = none) (e : Fd H f) : Fd (upd H p o) f := e.same (KX.sameUpd h)
theorem Fd.put {f : Addr} {H : Hp} {x y : Int} (hx : 0 ≤ x) (hy : 0 ≤ y) : Fd (upd H f (.lst [.int x, .int y])) f := ⟨x, y, upd_same, hx, hy⟩
/-! ### promises -/
def spFeed (K : PySem.W.Frag) : Sp := fun vs H Q _ => ∃ (a : Addr) (ns : List Int) (k : Int), vs = [.ref a, .int k] ∧ SqL K H a (ns.map V.int) ∧ ns.length ≤ 63 ∧ 0 ≤ k ∧ k < 1000 ∧ ∀ p H', Same H H' → H p = none → Fd H' p → Q (.ref p) H'
def spDraw : Sp := fun vs H Q _ => ∃ (f : Addr) (n : Int), vs = [.ref f, .int n] ∧ Fd H f ∧ 0 < n ∧ n < 1000000 ∧ ∀ (r : Int) H', 0 ≤ r → r < n → Kp f H H' → Fd H' f → Q (.int r) H'
def spPick (K : PySem.W.Frag) : Sp := fun vs H Q _ => ∃ (f l : Addr) (xs : List V), vs = [.ref f, .ref l] ∧ Fd H f ∧ SqL K H l xs ∧ l ≠ f ∧ 0 < xs.length ∧ xs.length < 1000 ∧ ∀ (i : Nat) (v : V) H', xs[i]? = some v → Kp f H H' → Fd H' f → Q v H'
def spCalls : Sp := fun vs H Q _ => vs = [] ∧ ∀ p, H p = none → Q (.ref p) (upd H p (.lst [.str "make", .str "", .str "r 2", .str "Mend!", .str "m"]))
/-- a text that can be laid -/
def SOk (z : Str) : Prop := z.cps.all (· < 0x110000) = true
theorem sokFold : ∀ (l : List (Array Nat)) (a : Array Nat), a.all (· < 0x110000) = true → (∀ b ∈ l, b.all (· < 0x110000) = true) → (l.foldl (· ++ ·) a).all (· < 0x110000) = true
  | [], _, h, _ => h
  | b :: l, a, h, k => sokFold l (a ++ b) (by rw [Array.all_append, h, k b (List.mem_cons_self ..)]; rfl) fun c hc => k c (List.mem_cons_of_mem _ hc)
theorem sokMul {z : Str} {n : Int} (h : SOk z) : SOk (Txt.mul z n) := by
  unfold Txt.mul
  split
  · (show Str.empty.cps.all (· < 0x110000) = true; decide +kernel)
  · split
    · exact h
    · exact sokFold _ #[] (by simp) fun b hb => by rw [List.eq_of_mem_replicate hb]; exact h
def spText : Sp := fun vs H Q _ => ∃ f : Addr, vs = [.ref f] ∧ Fd H f ∧ ∀ (z : Str) H', SOk z → Kp f H H' → Fd H' f → Q (.str z) H'
section
variable {P : Program} {w : World} {K : PySem.W.Frag} {mg : Str → Option Value} {base : Heap} {f : Addr} {fd : FuncData}
theorem scFeed : FnScope ["_law_script", "_law_k", "_law_cell", "_law_great"] ["_law_script", "_law_k"] (defScope sFeed) := ⟨rfl, rfl, rfl, by decide +kernel, rfl, by decide +kernel, by decide +kernel⟩
theorem seqNat {ns : List Int} {k : Int} (h0 : 0 ≤ k) (h : k < (ns.length : Int)) : ∃ n : Int, atI (ns.map V.int) k = some (.int n) := by
  obtain ⟨j, rfl⟩ : ∃ j : Nat, k = (j : Int) := ⟨k.toNat, by omega⟩
  have hj : j < ns.length := by omega
  refine ⟨ns[j], atI_nat ?_⟩
  rw [List.getElem?_map, List.getElem?_eq_getElem hj]
  rfl
theorem okFeed {k : Nat} (F : FnP K "_law_feed_of" sFeed f fd) (ml : mg "len" = none) : FnOk P w K mg base CX0 (k + 1) f fd ["_law_script", "_law_k"] (spFeed K) := by
  refine F.ok scFeed (fun vs H Q E h => ?_) (fun cdv A outer s H vs Q E hr h => ?_)
  · obtain ⟨a, ns, k, rfl, _⟩ := h
    rfl
  · obtain ⟨a, ns, n, rfl, hS, hlen, hn0, hn1, q⟩ := h
    refine ⟨_, PSs.nox (pss_cons (ps_set (i := 2) scFeed.nd rfl (.inl rfl) (pe_op op_add (pe_op op_mul pe_int (pv 1)) pe_int))
      (C8.pss_cut (ps_if (pt_cmpR op_lt (pv 1) (pe_callB call_len_seq (by rfl) ml PySem.boot_len (pa_cons (pv 0) pa_nil)) (nomark _)) (pss_one (ps_set (i := 2) scFeed.nd rfl (.inl rfl) (pe_ix ix_list (pv 0) (pv 1) (fun _ _ => rfl)))) pss_nil)
      (C8.pss_cut (ps_if (pt_cmpR op_lt (pv 2) pe_int (nomark _)) (pss_one (ps_set (i := 2) scFeed.nd rfl (.inl rfl) (pe_op op_sub pe_int (pe_op op_mul pe_int (pv 2))))) pss_nil)
      (C8.pss_cut (ps_set (i := 3) scFeed.nd rfl (.inl rfl) (pe_ifExp (pt_cmpR op_ge (pv 2) (pe_op op_pow pe_int pe_int) (nomark _)) (pv 2) pe_int))
      (pss_one (ps_ret (pe_lst (pa_cons (pv 3) (pa_cons (pe_op op_add (pe_op op_add (pe_op op_mod (pv 2) pe_int) (pe_op op_mul pe_int (pv 1))) pe_int) pa_nil))))))))), ?_⟩
    refine ⟨.int n, rfl, 9029, n, rfl, rfl, .inl ⟨by decide, by decide⟩, 9029 * n, 31, rfl, rfl, ?_⟩
    refine ⟨fun σ' H' => H' = H ∧ ∃ c : Int, σ' = [some (.ref a), some (.int n), some (.int c), none], ?_, ?_⟩
    · refine ⟨.int n, rfl, .ref a, rfl, a, _, rfl, .inl hS, n, _, rfl, rfl, _, rfl, ite2 (fun e => ?_) (fun _ => ?_)⟩
      · have e1 : n < ((ns.map V.int).length : Int) := of_decide_eq_true e
        rw [List.length_map] at e1
        obtain ⟨c, hc⟩ := seqNat hn0 e1
        exact ⟨.ref a, rfl, .int n, rfl, a, _, n, _, rfl, rfl, hS, hc, rfl, c, rfl⟩
      · exact ⟨rfl, _, rfl⟩
    rintro σ' H' ⟨rfl, c, rfl⟩
    refine ⟨fun σ' H2 => H2 = H' ∧ ∃ c : Int, 0 ≤ c ∧ σ' = [some (.ref a), some (.int n), some (.int c), none], ?_, ?_⟩
    · refine ⟨.int c, rfl, c, 0, rfl, rfl, _, rfl, ite2 (fun e => ?_) (fun e => ?_)⟩
      · have e1 : c < 0 := of_decide_eq_true e
        exact ⟨.int c, rfl, 7, c, rfl, rfl, .inl ⟨by decide, by decide⟩, 5, 7 * c, rfl, rfl, rfl, 5 - 7 * c, by omega, rfl⟩
      · have e1 : ¬ c < 0 := fun z => e (decide_eq_true z)
        exact ⟨rfl, c, by omega, rfl⟩
    rintro σ' H2 ⟨rfl, d, hd, rfl⟩
    refine ⟨fun σ' H3 => H3 = H2 ∧ ∃ g : Int, 0 ≤ g ∧ σ' = [some (.ref a), some (.int n), some (.int d), some (.int g)], ?_, ?_⟩
    · refine ⟨.int d, rfl, 10, 18, rfl, rfl, ⟨by decide, by decide, by decide⟩, d, _, rfl, rfl, _, rfl, ite2 (fun _ => ?_) (fun _ => ?_)⟩
      · exact ⟨.int d, rfl, rfl, d, hd, rfl⟩
      · exact ⟨rfl, 0, by decide, rfl⟩
    rintro σ' H3 ⟨rfl, g, hg, rfl⟩
    refine ⟨.int g, rfl, .int d, rfl, d, 1000003, rfl, rfl, (by show (0 : Int) < 1000003; decide), .int n, rfl, 11, n, rfl, rfl, .inl ⟨by decide, by decide⟩, _, _, rfl, rfl, _, _, rfl, rfl, (by show 2 ≤ sizeLine; decide), fun p hp => ?_⟩
    refine q p _ (KX.sameUpd hp) hp ⟨_, _, upd_same, hg, ?_⟩
    have := Int.emod_nonneg d (show (1000003 : Int) ≠ 0 by decide)
    omega
theorem scDraw : FnScope ["_law_feed", "_law_many", "_law_digit"] ["_law_feed", "_law_many"] (defScope sDraw) := ⟨rfl, rfl, rfl, by decide +kernel, rfl, by decide +kernel, by decide +kernel⟩
theorem okDraw {k : Nat} (F : FnP K "_law_draw" sDraw f fd) : FnOk P w K mg base CX0 (k + 1) f fd ["_law_feed", "_law_many"] spDraw := by
  refine F.ok scDraw (fun vs H Q E h => ?_) (fun cdv A outer s H vs Q E hr h => ?_)
  · obtain ⟨a, n, rfl, _⟩ := h
    rfl
  · obtain ⟨a, n, rfl, ⟨x, y, hf, hx, hy⟩, hn0, hn1, q⟩ := h
    have hS : ∀ {x y : Int} {H : Hp}, H a = some (.lst [.int x, .int y]) → SqL K H a [.int x, .int y] := fun h => .inl (.inl h)
    refine ⟨_, PSs.nox (pss_cons (ps_if (pt_cmpR op_gt (pe_ix ix_list (pv 0) pe_int (fun _ _ => rfl)) pe_int (nomark _))
        (pss_cons (ps_set (i := 2) scDraw.nd rfl (.inl rfl) (pe_op op_modN (pe_ix ix_list (pv 0) pe_int (fun _ _ => rfl)) (pv 1)))
        (pss_cons (ps_asg (pe_op op_fdivN (pe_ix ix_list (pv 0) pe_int (fun _ _ => rfl)) (pv 1)) (pg_sub (pv 0) pe_int set_list))
        (pss_one (ps_ret (pv 2))))) pss_nil)
      (pss_cons (ps_asg (pe_op op_mod (pe_op op_add (pe_op op_mul (pe_ix ix_list (pv 0) pe_int (fun _ _ => rfl)) pe_int) pe_int) pe_int) (pg_sub (pv 0) pe_int set_list))
      (pss_one (ps_ret (pe_op op_modN (pe_op op_fdiv (pe_ix ix_list (pv 0) pe_int (fun _ _ => rfl)) pe_int) (pv 1)))))), ?_⟩
    refine ⟨.ref a, rfl, a, _, 0, .int x, rfl, rfl, hS hf, atI_nat (j := 0) rfl, x, 0, rfl, rfl, _, rfl, ite2 (fun e => ?_) (fun e => ?_)⟩
    · refine ⟨.ref a, rfl, a, _, 0, .int x, rfl, rfl, hS hf, atI_nat (j := 0) rfl, .int n, rfl, x, n, rfl, rfl, (by show n ≠ 0; omega), ?_⟩
      refine ⟨.ref a, rfl, a, _, 0, .int x, rfl, rfl, hS hf, atI_nat (j := 0) rfl, .int n, rfl, x, n, rfl, rfl, ⟨(by omega), (by omega)⟩, ?_⟩
      refine ⟨.ref a, rfl, a, _, _, 0, rfl, rfl, hf, rfl, ?_⟩
      refine ⟨_, rfl, ?_⟩
      show Q (.int (x.fmod n)) (upd H a (.lst [.int (x.fdiv n), .int y]))
      rw [Int.fmod_eq_emod_of_nonneg x (by omega), Int.fdiv_eq_ediv_of_nonneg x (by omega)]
      exact q (x % n) _ (Int.emod_nonneg x (by omega)) (Int.emod_lt_of_pos x hn0) Kp.put (Fd.put (Int.ediv_nonneg hx (by omega)) hy)
    · refine ⟨.ref a, rfl, a, _, 1, .int y, rfl, rfl, hS hf, atI_nat (j := 1) rfl, y, 48271, rfl, rfl, .inr ⟨by decide, by decide⟩, _, 11, rfl, rfl, _, 2147483647, rfl, rfl, (by show (0 : Int) < 2147483647; decide), ?_⟩
      refine ⟨.ref a, rfl, a, _, _, 1, rfl, rfl, hf, rfl, ?_⟩
      have hm := Int.emod_nonneg (y * 48271 + 11) (show (2147483647 : Int) ≠ 0 by decide)
      refine ⟨.ref a, rfl, a, [.int x, .int ((y * 48271 + 11) % 2147483647)], 1, .int ((y * 48271 + 11) % 2147483647), rfl, rfl, hS upd_same, atI_nat (j := 1) rfl, (y * 48271 + 11) % 2147483647, 127, rfl, rfl, ⟨by decide, by decide⟩, ?_⟩
      refine ⟨.int n, rfl, _, n, rfl, rfl, (by show n ≠ 0; omega), ?_⟩
      show Q (.int (((y * 48271 + 11) % 2147483647 / 127).fmod n)) (upd H a (.lst [.int x, .int ((y * 48271 + 11) % 2147483647)]))
      rw [Int.fmod_eq_emod_of_nonneg _ (by omega)]
      exact q _ _ (Int.emod_nonneg _ (by omega)) (Int.emod_lt_of_pos _ hn0) Kp.put (Fd.put hx hm)
theorem scPick : FnScope ["_law_feed", "_law_items"] ["_law_feed", "_law_items"] (defScope sPick) := ⟨rfl, rfl, rfl, by decide +kernel, rfl, by decide +kernel, by decide +kernel⟩
/-- a def's bundle: where it stands, how it binds -/
structure At (P : Program) (w : World) (K : PySem.W.Frag) (mg : Str → Option Value) (base : Heap) (k : Nat) (x : Str) (ps : List Str) (sp : Sp) : Prop where
  ex : ∃ (f : Addr) (fd : FuncData), mg x = some (.ref f) ∧ PySem.W.keepIn K (.ref f) = true ∧ Binds K fd ps [] ∧ FnOk P w K mg base CX0 k f fd ps sp
theorem okPick {k : Nat} (F : FnP K "_law_pick" sPick f fd) (ml : mg "len" = none) (D : At P w K mg base (k + 1) "_law_draw" ["_law_feed", "_law_many"] spDraw) : FnOk P w K mg base CX0 (k + 2) f fd ["_law_feed", "_law_items"] (spPick K) := by
  obtain ⟨fD, fdD, gD, kD, bD, GD⟩ := D.ex
  refine F.ok scPick (fun vs H Q E h => ?_) (fun cdv A outer s H vs Q E hr h => ?_)
  · obtain ⟨a, l, xs, rfl, _⟩ := h
    rfl
  · obtain ⟨a, l, xs, rfl, hF, hL, ne, h0, h1, q⟩ := h
    refine ⟨_, PSs.nox (pss_one (ps_ret (pe_ix ix_list (pv 1) (pe_call GD hr (by rfl) gD kD bD .nil pass0 (pa_cons (pv 0) (pa_cons (pe_callB call_len_seq (by rfl) ml PySem.boot_len (pa_cons (pv 1) pa_nil)) pa_nil))) (fun _ _ => rfl)))), ?_⟩
    refine ⟨.ref l, rfl, .ref a, rfl, .ref l, rfl, l, xs, rfl, .inl hL, ?_⟩
    refine ⟨a, (xs.length : Int), rfl, hF, by omega, by omega, fun r H' r0 r1 kp fd' => ?_⟩
    obtain ⟨j, rfl⟩ : ∃ j : Nat, r = (j : Int) := ⟨r.toNat, by omega⟩
    have hj : j < xs.length := by omega
    have hv : xs[j]? = some xs[j] := List.getElem?_eq_getElem hj
    have hL' : SqL K H' l xs := by
      rcases hL with (h | ⟨o, h⟩) | h
      · exact .inl (.inl (kp _ _ ne h))
      · exact .inl (.inr ⟨o, kp _ _ ne h⟩)
      · exact .inr h
    exact ⟨l, xs, _, _, rfl, rfl, hL', atI_nat hv, q j _ H' hv kp fd'⟩
theorem scCalls : FnScope [] [] (defScope sCalls) := ⟨rfl, rfl, rfl, by decide +kernel, rfl, by decide +kernel, by decide +kernel⟩
theorem okCalls {k : Nat} (F : FnP K "_law_calls" sCalls f fd) : FnOk P w K mg base CX0 (k + 1) f fd [] spCalls := by
  refine F.ok scCalls (fun vs H Q E h => ?_) (fun cdv A outer s H vs Q E hr h => ?_)
  · obtain ⟨rfl, _⟩ := h
    rfl
  · obtain ⟨rfl, q⟩ := h
    refine ⟨_, PSs.nox (pss_one (ps_ret (pe_lst (pa_cons pe_str (pa_cons pe_str (pa_cons pe_str (pa_cons pe_str (pa_cons pe_str pa_nil)))))))), ?_⟩
    exact ⟨(by show 5 ≤ sizeLine; decide), fun p hp => q p hp⟩
/-- z * n, z one sign -/
def rRepX : R2 := fun x y H Q => ∃ (z : Str) (n : Int), x = .str z ∧ y = .int n ∧ z.length = 1 ∧ 0 ≤ n ∧ n ≤ 1000 ∧ Q (.str (Txt.mul z n)) H
theorem opRepX {X : Cx} : OpR X (binaryOp .Mult) rRepX := by
  intro pins s σ H x y v u Q I rx ry h
  obtain ⟨z, n, rfl, rfl, hz, h0, h1, q⟩ := h
  obtain ⟨t, rfl⟩ := rx
  obtain ⟨t', rfl⟩ := ry
  refine SB.mul ⟨?_, fun g _ => ?_, fun _ _ => ?_⟩ fun t2 k => ⟨.str (Txt.mul z n), H, I.tok k, ⟨t2, rfl⟩, q⟩
  · simp
    omega
  · rw [hz]
    have hn : 0 < n := by omega
    have hle : (1 : Int) ≤ (2 ^ 63 - 1) / n := by
      rw [Int.le_ediv_iff_mul_le hn]
      omega
    show ¬ ((1 : Nat) : Int) > (2 ^ 63 - 1) / n
    omega
  · rw [hz]
    unfold Builtin.Str.tooLong
    rw [decide_eq_false_iff_not, sizeLine_eq]
    omega
theorem scText : FnScope ["_law_feed", "_law_form", "_law_many"] ["_law_feed"] (defScope sText) := ⟨rfl, rfl, rfl, by decide +kernel, rfl, by decide +kernel, by decide +kernel⟩
theorem okText {k : Nat} (F : FnP K "_law_some_text" sText f fd) (D : At P w K mg base (k + 1) "_law_draw" ["_law_feed", "_law_many"] spDraw) (Pk : At P w K mg base (k + 2) "_law_pick" ["_law_feed", "_law_items"] (spPick K))
    (Ca : At P w K mg base (k + 1) "_law_calls" [] spCalls) : FnOk P w K mg base CX0 (k + 3) f fd ["_law_feed"] spText := by
  obtain ⟨fD, fdD, gD, kD, bD, GD⟩ := D.ex
  obtain ⟨fP, fdP, gP, kP, bP, GP⟩ := Pk.ex
  obtain ⟨fC, fdC, gC, kC, bC, GC⟩ := Ca.ex
  refine F.ok scText (fun vs H Q E h => ?_) (fun cdv A outer s H vs Q E hr h => ?_)
  · obtain ⟨a, rfl, _⟩ := h
    rfl
  · obtain ⟨a, rfl, hF, q⟩ := h
    have hr1 : Room (k + 1) _ := hr.mono (by omega)
    refine ⟨_, PSs.nox (pss_cons (ps_set (i := 1) scText.nd rfl (.inl rfl) (pe_call GD hr1 (by rfl) gD kD bD .nil pass0 (pa_cons (pv 0) (pa_cons (pe_int) pa_nil)))) (pss_cons (ps_if (pt_cmpR op_eq (pv 1) pe_int (nomark _)) (pss_one (ps_ret (pe_call GP hr (by rfl) gP kP bP .nil pass0 (pa_cons (pv 0) (pa_cons (pe_call0 GC hr1 (by rfl) gC kC bC .nil pass0) pa_nil))))) pss_nil) (pss_cons (ps_if (pt_cmpR op_eq (pv 1) pe_int (nomark _))
        (pss_cons (ps_set (i := 2) scText.nd rfl (.inl rfl) (pe_ix ix_list (pe_lst (pa_cons (pe_op op_add pe_int (pe_call GD hr1 (by rfl) gD kD bD .nil pass0 (pa_cons (pv 0) (pa_cons (pe_int) pa_nil)))) (pa_cons (pe_int) pa_nil)))
          (pe_op op_fdiv (pe_call GD hr1 (by rfl) gD kD bD .nil pass0 (pa_cons (pv 0) (pa_cons (pe_int) pa_nil))) pe_int) (fun _ _ => rfl))) (pss_one (ps_ret (pe_call GP hr (by rfl) gP kP bP .nil pass0 (pa_cons (pv 0) (pa_cons (pe_lst (pa_cons (pe_str) (pa_cons (pe_str) (pa_cons (pe_str) (pa_cons (pe_str) (pa_cons (pe_str) (pa_cons (pe_op opRepX pe_str (pv 2)) (pa_cons (pe_str) (pa_cons (pe_str) (pa_cons (pe_str) (pa_cons (pe_str) pa_nil))))))))))) pa_nil)))))) pss_nil) (pss_one (ps_ret (pe_ix ix_list (pe_lst (pa_cons (pe_str) (pa_cons (pe_str) (pa_cons (pe_str) (pa_cons (pe_str) (pa_cons (pe_str) (pa_cons (pe_str) pa_nil))))))) (pv 1) (fun _ _ => rfl))))))), ?_⟩
    have neF : ∀ {H : Hp} {p : Addr}, Fd H a → H p = none → p ≠ a := fun ⟨x, y, e, _⟩ hp z => by
      rw [z, e] at hp
      cases hp
    refine ⟨.ref a, rfl, a, 8, rfl, hF, by decide, by decide, fun r H1 r0 r1 k1 F1 => ?_⟩
    refine ⟨.int r, rfl, rfl, _, rfl, ite2 (fun e => ?_) (fun e7 => ?_)⟩
    · -- the names of calls
      refine ⟨.ref a, rfl, rfl, fun p hp => ?_⟩
      refine ⟨a, p, _, rfl, F1.new hp, .inl (.inl upd_same), neF F1 hp, by decide, by decide, fun i v H2 hv k2 F2 => ?_⟩
      have kk : Kp a H H2 := (k1.trans (Kp.new hp)).trans k2
      match i, hv with
      | 0, hv => cases hv; exact q _ H2 (by unfold SOk; decide +kernel) kk F2
      | 1, hv => cases hv; exact q _ H2 (by unfold SOk; decide +kernel) kk F2
      | 2, hv => cases hv; exact q _ H2 (by unfold SOk; decide +kernel) kk F2
      | 3, hv => cases hv; exact q _ H2 (by unfold SOk; decide +kernel) kk F2
      | 4, hv => cases hv; exact q _ H2 (by unfold SOk; decide +kernel) kk F2
    refine ⟨.int r, rfl, rfl, _, rfl, ite2 (fun e => ?_) (fun e6 => ?_)⟩
    · -- one of ten
      refine ⟨.ref a, rfl, a, 90, rfl, F1, by decide, by decide, fun r2 H2 r20 r21 k2 F2 => ⟨1, r2, rfl, rfl, ?_⟩⟩
      refine ⟨(by show 2 ≤ sizeLine; decide), fun p hp => ?_⟩
      refine ⟨.ref a, rfl, a, 7, rfl, F2.new hp, by decide, by decide, fun r3 H3 r30 r31 k3 F3 => ⟨r3, 6, rfl, rfl, ⟨by decide, by decide⟩, ?_⟩⟩
      have hp3 : H3 p = some (.lst [.int (1 + r2), .int 400]) := k3 _ _ (neF F2 hp) upd_same
      obtain ⟨m, hm, m0, m1⟩ : ∃ m : Int, atI [V.int (1 + r2), .int 400] (r3 / 6) = some (.int m) ∧ 0 ≤ m ∧ m ≤ 1000 := by
        by_cases hz : r3 < 6
        · have e0 : r3 / 6 = 0 := by omega
          rw [e0]
          exact ⟨1 + r2, rfl, by omega, by omega⟩
        · have e0 : r3 / 6 = 1 := by omega
          rw [e0]
          exact ⟨400, rfl, by decide, by decide⟩
      refine ⟨p, _, _, .int m, rfl, rfl, .inl (.inl hp3), hm, ?_⟩
      refine ⟨.ref a, rfl, .int m, rfl, _, m, rfl, rfl, rfl, m0, m1, (by show 10 ≤ sizeLine; decide), fun p2 hp2 => ?_⟩
      refine ⟨a, p2, _, rfl, F3.new hp2, .inl (.inl upd_same), neF F3 hp2, (by show 0 < 10; decide), (by show 10 < 1000; decide), fun i v H4 hv k4 F4 => ?_⟩
      have kk : Kp a H H4 := ((((k1.trans k2).trans (Kp.new hp)).trans k3).trans (Kp.new hp2)).trans k4
      match i, hv with
      | 0, hv => cases hv; exact q _ H4 (by unfold SOk; decide +kernel) kk F4
      | 1, hv => cases hv; exact q _ H4 (by unfold SOk; decide +kernel) kk F4
      | 2, hv => cases hv; exact q _ H4 (by unfold SOk; decide +kernel) kk F4
      | 3, hv => cases hv; exact q _ H4 (by unfold SOk; decide +kernel) kk F4
      | 4, hv => cases hv; exact q _ H4 (by unfold SOk; decide +kernel) kk F4
      | 5, hv => cases hv; exact q _ H4 (sokMul (by unfold SOk; decide +kernel)) kk F4
      | 6, hv => cases hv; exact q _ H4 (by unfold SOk; decide +kernel) kk F4
      | 7, hv => cases hv; exact q _ H4 (by unfold SOk; decide +kernel) kk F4
      | 8, hv => cases hv; exact q _ H4 (by unfold SOk; decide +kernel) kk F4
      | 9, hv => cases hv; exact q _ H4 (by unfold SOk; decide +kernel) kk F4
    · have n7 : r ≠ 7 := fun z => e7 (by rw [z]; rfl)
      have n6 : r ≠ 6 := fun z => e6 (by rw [z]; rfl)
      refine ⟨(by show 6 ≤ sizeLine; decide), fun p hp => ?_⟩
      obtain ⟨z, sz, hz⟩ : ∃ z : Str, SOk z ∧ atI [V.str "0", .str "1", .str "0", .str "1", .str "", .str "10"] r = some (.str z) := by
        have hc : r = 0 ∨ r = 1 ∨ r = 2 ∨ r = 3 ∨ r = 4 ∨ r = 5 := by omega
        rcases hc with h | h | h | h | h | h <;> (rw [h]; first | exact ⟨"0", by unfold SOk; decide +kernel, rfl⟩ | exact ⟨"1", by unfold SOk; decide +kernel, rfl⟩ | exact ⟨"", by unfold SOk; decide +kernel, rfl⟩ | exact ⟨"10", by unfold SOk; decide +kernel, rfl⟩)
      exact ⟨.int r, rfl, p, _, _, .str z, rfl, rfl, .inl (.inl upd_same), hz, q z _ sz (k1.trans (Kp.new hp)) (F1.new hp)⟩
end
end K1

set_option Elab.async false
set_option linter.all false
set_option maxRecDepth 100000
set_option maxHeartbeats 4000000
namespace K1
open PySem PySem.Spec PyProof.Rows L2
/-- a comprehension over whatever goes n turns -/
theorem lcJ {J : It} {n : Nat} {g : TG} {tt : TT} {te : TE} {vs : List Nat} {σ : L2.St} {H1 : Hp} {D : Addr} {Qd : Hp → Prop} (Pv : Nat → Hp → Prop) (h0 : Pv 0 (upd H1 D (.lst [])))
    (hgo : ∀ i H, i < n → Pv i H → J.go i H) (hst : ∀ H, Pv n H → J.stop n H)
    (hs : ∀ i H x H', i < n → Pv i H → J.yld i H x H' → g x (wipe σ vs) H' fun σ2 H2 => wipe σ2 vs = wipe σ vs ∧ tt σ2 H2 fun b H3 =>
      if b = true then te σ2 H3 fun y H4 => ∃ acc, H4 D = some (.lst acc) ∧ acc.length < sizeLine ∧ Pv (i + 1) (upd H4 D (.lst (acc ++ [y]))) else Pv (i + 1) H3)
    (hd : ∀ H, Pv n H → Qd H) :
    ∃ W : Nat → Nat → Hp → Prop, (∃ m, W 0 m (upd H1 D (.lst []))) ∧ ∀ i m H, W i m H →
      (J.stop i H ∧ Qd H) ∨ (J.go i H ∧ ∃ Nx : Hp → Prop, (∀ H', Nx H' → ∃ m', m' < m ∧ W (i + 1) m' H') ∧ ∀ x H', J.yld i H x H' → g x (wipe σ vs) H' fun σ2 H2 => wipe σ2 vs = wipe σ vs ∧ tt σ2 H2 fun b H3 =>
        if b = true then te σ2 H3 fun y H4 => ∃ acc, H4 D = some (.lst acc) ∧ acc.length < sizeLine ∧ Nx (upd H4 D (.lst (acc ++ [y]))) else Nx H3) := by
  refine ⟨fun i m H => m = n - i ∧ i ≤ n ∧ Pv i H, ⟨n, by simp, Nat.zero_le _, h0⟩, fun i m H hW => ?_⟩
  obtain ⟨rfl, hi, p⟩ := hW
  by_cases lt : i < n
  · refine .inr ⟨hgo i H lt p, Pv (i + 1), fun H' p' => ⟨n - (i + 1), by omega, rfl, lt, p'⟩, fun x H' y => ?_⟩
    exact hs i H x H' lt p y
  · have e : i = n := by omega
    subst e
    exact .inl ⟨hst H p, hd H p⟩
/-! ### values that are alike -/
inductive Fl : V → String → Prop
  | non : Fl .non "NoneType"
  | bl (b : Bool) : Fl (.bl b) "bool"
  | int (i : Int) : Fl (.int i) "int"
  | str (z : Str) : Fl (.str z) "str"
section
variable {K : PySem.W.Frag} {H : Hp}
theorem Fl.tyX {v : V} {t : String} (h : Fl v t) : TyX K H v (.type t) := by
  cases h
  · exact .base .non
  · exact .base (.bl _)
  · exact .base (.int _)
  · exact .base (.str _)
theorem Fl.noSeq {v : V} {t : String} (h : Fl v t) : PySem.W.kitAny K (.type t) [.type "list", .type "tuple"] = some false := by
  cases h <;> exact kitAny_cons (b := false) (kit_ty (by decide +kernel)) (fun _ => kitAny_cons (b := false) (kit_ty (by decide +kernel)) (fun _ => kitAny_nil) (fun z => z)) (fun z => z)
theorem Fl.kit {v : V} {t : String} (h : Fl v t) (c : String) (hc : c = "bool" ∨ c = "int" ∨ c = "str") : ∃ b, PySem.W.kitOne K (.type t) (.type c) = some b := by
  rcases hc with rfl | rfl | rfl <;> cases h <;> first | exact ⟨true, kit_ty (by decide +kernel)⟩ | exact ⟨false, kit_ty (by decide +kernel)⟩
theorem Fl.scal {v : V} {t : String} (h : Fl v t) : L2.scal v v = true := by
  cases h <;> rfl
theorem kitSeqL : PySem.W.kitAny K (.type "list") [.type "list", .type "tuple"] = some true := kitAny_cons (b := true) (kit_ty (by decide +kernel)) (fun z => by cases z) (fun _ => rfl)
theorem kitSeqT : PySem.W.kitAny K (.type "tuple") [.type "list", .type "tuple"] = some true := kitAny_cons (b := false) (kit_ty (by decide +kernel)) (fun _ => kitAny_cons (b := true) (kit_ty (by decide +kernel)) (fun z => by cases z) (fun _ => rfl)) (fun _ => rfl)
theorem SqL.tyX {a : Addr} {xs : List V} (h : SqL K H a xs) : TyX K H (.ref a) (.type "list") := by
  rcases h with (h | ⟨o, h⟩) | ⟨o, its, n, h, c, _⟩
  · exact .base (.lst h)
  · exact .base (.frz h)
  · exact .kList h c
theorem SqT.tyX {a : Addr} {xs : List V} (h : SqT K H a xs) : TyX K H (.ref a) (.type "tuple") := by
  rcases h with (h | ⟨o, h⟩) | ⟨o, its, n, h, c, _⟩
  · exact .base (.tup h)
  · exact .fTuple h
  · exact .kTuple h c
end
/-- alike down to the depth n -/
inductive Sv (K : PySem.W.Frag) (H : Hp) : Nat → V → V → Prop
  | flat {n : Nat} {v : V} {t : String} (h : Fl v t) : Sv K H n v v
  | lst {n : Nat} {a b : Addr} {xs ys : List V} (ha : SqL K H a xs) (hb : SqL K H b ys) (hl : xs.length = ys.length) (hz : xs.length ≤ 1000) (h : ∀ (i : Nat) v w, xs[i]? = some v → ys[i]? = some w → Sv K H n v w) : Sv K H (n + 1) (.ref a) (.ref b)
  | tup {n : Nat} {a b : Addr} {xs ys : List V} (ha : SqT K H a xs) (hb : SqT K H b ys) (hl : xs.length = ys.length) (hz : xs.length ≤ 1000) (h : ∀ (i : Nat) v w, xs[i]? = some v → ys[i]? = some w → Sv K H n v w) : Sv K H (n + 1) (.ref a) (.ref b)
theorem sameTup {K : PySem.W.Frag} {H H' : Hp} {a : Addr} {xs : List V} (e : Same H H') (h : SqT K H a xs) : SqT K H' a xs := by
  rcases h with (h | ⟨o, h⟩) | h
  · exact .inl (.inl (e _ _ h))
  · exact .inl (.inr ⟨o, e _ _ h⟩)
  · exact .inr h
theorem Sv.same {K : PySem.W.Frag} {H H' : Hp} (e : Same H H') {n : Nat} {v w : V} (h : Sv K H n v w) : Sv K H' n v w := by
  induction h with
  | flat h => exact .flat h
  | lst ha hb hl hz _ ih => exact .lst (e.seq ha) (e.seq hb) hl hz ih
  | tup ha hb hl hz _ ih => exact .tup (sameTup e ha) (sameTup e hb) hl hz ih
def spSame (K : PySem.W.Frag) (n : Nat) : Sp := fun vs H Q _ => ∃ v w : V, vs = [v, w] ∧ Sv K H n v w ∧ ∀ H', Same H H' → Q (.bl true) H'
/-- the built-in names that the helpers read -/
structure Bn (mg : Str → Option Value) : Prop where
  isi : mg "isinstance" = none
  len : mg "len" = none
  zip : mg "zip" = none
  all : mg "all" = none
  list : mg "list" = none
  tuple : mg "tuple" = none
  bool : mg "bool" = none
  int : mg "int" = none
  str : mg "str" = none
  range : mg "range" = none
  enum : mg "enumerate" = none
  max : mg "max" = none
  min : mg "min" = none
section
variable {P : Program} {w : World} {K : PySem.W.Frag} {mg : Str → Option Value} {base : Heap} {f : Addr} {fd : FuncData}
theorem scSame : FnScope ["_law_found", "_law_due", "_law_a", "_law_b"] ["_law_found", "_law_due"] (defScope sSame) := ⟨rfl, rfl, rfl, by decide +kernel, rfl, by decide +kernel, by decide +kernel⟩
theorem okSame (F : FnP K "_law_same" sSame f fd) (gS : mg "_law_same" = some (.ref f)) (B : Bn mg) : ∀ (n k : Nat), FnOk P w K mg base CX0 (k + n + 1) f fd ["_law_found", "_law_due"] (spSame K n) := by
  have bS : Binds K fd ["_law_found", "_law_due"] [] := F.bindsN fun _ _ _ _ _ _ us hl => match us, hl with | [_, _], _ => rfl
  intro n
  induction n with
  | zero =>
    intro k
    refine F.ok scSame (fun vs H Q E h => ?_) (fun cdv A outer s H vs Q E hr h => ?_)
    · obtain ⟨v, w, rfl, _⟩ := h
      rfl
    · obtain ⟨v, w', rfl, hv, q⟩ := h
      obtain ⟨t, hf, rfl⟩ : ∃ t, Fl v t ∧ v = w' := by
        cases hv with
        | flat h => exact ⟨_, h, rfl⟩
      refine ⟨_, PSs.nox (pss_cons (ps_if (pt_val (pe_callB call_isiT (by rfl) B.isi (by decide +kernel) (pa_cons (pv 1) (pa_cons (pe_tup (pa_cons (pe_bltn (v := .ty "list") (by rfl) B.list (by decide +kernel) rfl) (pa_cons (pe_bltn (v := .ty "tuple") (by rfl) B.tuple (by decide +kernel) rfl) pa_nil))) pa_nil))))
        (pss_cons (ps_never) (pss_one (ps_never))) pss_nil) (pss_cons (ps_if (PW.pt (pw_or (pt_cmpR op_ne (pe_callB call_isi (by rfl) B.isi (by decide +kernel) (pa_cons (pv 0) (pa_cons (pe_bltn (v := .ty "bool") (by rfl) B.bool (by decide +kernel) rfl) pa_nil))) (pe_callB call_isi (by rfl) B.isi (by decide +kernel) (pa_cons (pv 1) (pa_cons (pe_bltn (v := .ty "bool") (by rfl) B.bool (by decide +kernel) rfl) pa_nil))) (nomark _))
            (pw_or1 (pt_cmpR op_ne (pe_callB call_isi (by rfl) B.isi (by decide +kernel) (pa_cons (pv 0) (pa_cons (pe_bltn (v := .ty "int") (by rfl) B.int (by decide +kernel) rfl) pa_nil))) (pe_callB call_isi (by rfl) B.isi (by decide +kernel) (pa_cons (pv 1) (pa_cons (pe_bltn (v := .ty "int") (by rfl) B.int (by decide +kernel) rfl) pa_nil))) (nomark _)))))
          (pss_one (ps_ret pe_bl)) pss_nil) (pss_one (ps_ret (pe_and (pe_cmpR op_eq (pe_callB call_isi (by rfl) B.isi (by decide +kernel) (pa_cons (pv 0) (pa_cons (pe_bltn (v := .ty "str") (by rfl) B.str (by decide +kernel) rfl) pa_nil))) (pe_callB call_isi (by rfl) B.isi (by decide +kernel) (pa_cons (pv 1) (pa_cons (pe_bltn (v := .ty "str") (by rfl) B.str (by decide +kernel) rfl) pa_nil))) (nomark _))
          (pe_one (pe_cmpR op_eq (pv 0) (pv 1) (nomark _)))))))), ?_⟩
      obtain ⟨b1, e1⟩ := hf.kit (K := K) "bool" (.inl rfl)
      obtain ⟨b2, e2⟩ := hf.kit (K := K) "int" (.inr (.inl rfl))
      obtain ⟨b3, e3⟩ := hf.kit (K := K) "str" (.inr (.inr rfl))
      refine ⟨v, rfl, (by show 2 ≤ sizeLine; decide), fun p hp => ⟨v, p, [.ty "list", .ty "tuple"], .type t, [.type "list", .type "tuple"], false, rfl, upd_same, .cons (.ty _) (.cons (.ty _) .nil), hf.tyX, hf.noSeq, false, rfl, iteF ?_⟩⟩
      refine ⟨v, rfl, v, .ty "bool", .type t, .type "bool", b1, rfl, .ty _, hf.tyX, e1, v, rfl, v, .ty "bool", .type t, .type "bool", b1, rfl, .ty _, hf.tyX, e1, rfl, _, rfl, iteNS rfl ?_⟩
      refine ⟨v, rfl, v, .ty "int", .type t, .type "int", b2, rfl, .ty _, hf.tyX, e2, v, rfl, v, .ty "int", .type t, .type "int", b2, rfl, .ty _, hf.tyX, e2, rfl, _, rfl, iteNS rfl ?_⟩
      refine ⟨v, rfl, v, .ty "str", .type t, .type "str", b3, rfl, .ty _, hf.tyX, e3, v, rfl, v, .ty "str", .type t, .type "str", b3, rfl, .ty _, hf.tyX, e3, rfl, _, rfl, ?_⟩
      rw [if_pos (decide_eq_true rfl)]
      refine ⟨v, rfl, v, rfl, hf.scal, ?_⟩
      rw [decide_eq_true (rfl : v = v)]
      exact q _ (KX.sameUpd hp)
  | succ n ih =>
    intro k
    have G := ih k
    refine F.ok scSame (fun vs H Q E h => ?_) (fun cdv A outer s H vs Q E hr h => ?_)
    · obtain ⟨v, w, rfl, _⟩ := h
      rfl
    · have hr1 : Room (k + n + 1) _ := hr.mono (by omega)
      refine ⟨_, PSs.nox (pss_cons (ps_if (pt_val (pe_callB call_isiT (by rfl) B.isi (by decide +kernel) (pa_cons (pv 1) (pa_cons (pe_tup (pa_cons (pe_bltn (v := .ty "list") (by rfl) B.list (by decide +kernel) rfl) (pa_cons (pe_bltn (v := .ty "tuple") (by rfl) B.tuple (by decide +kernel) rfl) pa_nil))) pa_nil))))
        (pss_cons (ps_if (PW.pt (pw_or (pt_cmpR op_ne (pe_callB call_isi (by rfl) B.isi (by decide +kernel) (pa_cons (pv 0) (pa_cons (pe_bltn (v := .ty "list") (by rfl) B.list (by decide +kernel) rfl) pa_nil))) (pe_callB call_isi (by rfl) B.isi (by decide +kernel) (pa_cons (pv 1) (pa_cons (pe_bltn (v := .ty "list") (by rfl) B.list (by decide +kernel) rfl) pa_nil))) (nomark _))
            (pw_or1 (pt_not (pt_val (pe_callB call_isiT (by rfl) B.isi (by decide +kernel) (pa_cons (pv 0) (pa_cons (pe_tup (pa_cons (pe_bltn (v := .ty "list") (by rfl) B.list (by decide +kernel) rfl) (pa_cons (pe_bltn (v := .ty "tuple") (by rfl) B.tuple (by decide +kernel) rfl) pa_nil))) pa_nil))))))))
            (pss_one (ps_ret pe_bl)) pss_nil) (pss_one (ps_ret (pe_and (pe_cmpR op_eq (pe_callB call_len_seq (by rfl) B.len PySem.boot_len (pa_cons (pv 0) pa_nil)) (pe_callB call_len_seq (by rfl) B.len PySem.boot_len (pa_cons (pv 1) pa_nil)) (nomark _))
            (pe_one (pe_callB (cr_all rfl) (by rfl) B.all (by decide +kernel) (pa_cons (pe_lc (own := [("_law_a", 2), ("_law_b", 3)]) (g := gTup K 2 (gCons (gName 2) (gCons (gName 3) gNil))) rfl scSame.nd (RZ.pi_zipA (by rfl) B.zip (pa_cons (pv 0) (pa_cons (pv 1) pa_nil))) (blkOk_by (N := ["_law_found", "_law_due", "_law_a", "_law_b"]) (sc := defScope sSame) (by decide +kernel))
              (fun _ _ _ _ _ => pg_tup rfl (pgs_cons (pg_name (i := 2) scSame.nd rfl (.inl rfl) (hf := .inr rfl)) (pgs_cons (pg_name (i := 3) scSame.nd rfl (.inl rfl) (hf := .inr rfl)) pgs_nil))) (fun _ _ _ _ _ => pts_nil)
              (fun _ _ _ _ _ => pe_call G hr1 (by rfl) gS F.kp bS .nil pass0 (pa_cons (pv 2) (pa_cons (pv 3) pa_nil)))) pa_nil))))))) pss_nil) (pss_cons (ps_if (PW.pt (pw_or (pt_cmpR op_ne (pe_callB call_isi (by rfl) B.isi (by decide +kernel) (pa_cons (pv 0) (pa_cons (pe_bltn (v := .ty "bool") (by rfl) B.bool (by decide +kernel) rfl) pa_nil))) (pe_callB call_isi (by rfl) B.isi (by decide +kernel) (pa_cons (pv 1) (pa_cons (pe_bltn (v := .ty "bool") (by rfl) B.bool (by decide +kernel) rfl) pa_nil))) (nomark _))
            (pw_or1 (pt_cmpR op_ne (pe_callB call_isi (by rfl) B.isi (by decide +kernel) (pa_cons (pv 0) (pa_cons (pe_bltn (v := .ty "int") (by rfl) B.int (by decide +kernel) rfl) pa_nil))) (pe_callB call_isi (by rfl) B.isi (by decide +kernel) (pa_cons (pv 1) (pa_cons (pe_bltn (v := .ty "int") (by rfl) B.int (by decide +kernel) rfl) pa_nil))) (nomark _)))))
          (pss_one (ps_ret pe_bl)) pss_nil) (pss_one (ps_ret (pe_and (pe_cmpR op_eq (pe_callB call_isi (by rfl) B.isi (by decide +kernel) (pa_cons (pv 0) (pa_cons (pe_bltn (v := .ty "str") (by rfl) B.str (by decide +kernel) rfl) pa_nil))) (pe_callB call_isi (by rfl) B.isi (by decide +kernel) (pa_cons (pv 1) (pa_cons (pe_bltn (v := .ty "str") (by rfl) B.str (by decide +kernel) rfl) pa_nil))) (nomark _))
          (pe_one (pe_cmpR op_eq (pv 0) (pv 1) (nomark _)))))))), ?_⟩
      obtain ⟨v, w, rfl, hv, q⟩ := h
      cases hv with
      | @flat _ _ t hf =>
        obtain ⟨b1, e1⟩ := hf.kit (K := K) "bool" (.inl rfl)
        obtain ⟨b2, e2⟩ := hf.kit (K := K) "int" (.inr (.inl rfl))
        obtain ⟨b3, e3⟩ := hf.kit (K := K) "str" (.inr (.inr rfl))
        refine ⟨v, rfl, (by show 2 ≤ sizeLine; decide), fun p hp => ⟨v, p, [.ty "list", .ty "tuple"], .type t, [.type "list", .type "tuple"], false, rfl, upd_same, .cons (.ty _) (.cons (.ty _) .nil), hf.tyX, hf.noSeq, false, rfl, iteF ?_⟩⟩
        refine ⟨v, rfl, v, .ty "bool", .type t, .type "bool", b1, rfl, .ty _, hf.tyX, e1, v, rfl, v, .ty "bool", .type t, .type "bool", b1, rfl, .ty _, hf.tyX, e1, rfl, _, rfl, iteNS rfl ?_⟩
        refine ⟨v, rfl, v, .ty "int", .type t, .type "int", b2, rfl, .ty _, hf.tyX, e2, v, rfl, v, .ty "int", .type t, .type "int", b2, rfl, .ty _, hf.tyX, e2, rfl, _, rfl, iteNS rfl ?_⟩
        refine ⟨v, rfl, v, .ty "str", .type t, .type "str", b3, rfl, .ty _, hf.tyX, e3, v, rfl, v, .ty "str", .type t, .type "str", b3, rfl, .ty _, hf.tyX, e3, rfl, _, rfl, ?_⟩
        rw [if_pos (decide_eq_true rfl)]
        refine ⟨v, rfl, v, rfl, hf.scal, ?_⟩
        rw [decide_eq_true (rfl : v = v)]
        exact q _ (KX.sameUpd hp)
      | @lst _ a b xs ys ha hb hl hz hh =>
        refine ⟨.ref b, rfl, (by show 2 ≤ sizeLine; decide), fun p hp => ?_⟩
        have s1 : Same H (upd H p (.tup [.ty "list", .ty "tuple"])) := KX.sameUpd hp
        have ha1 := (s1).seq ha
        have hb1 := (s1).seq hb
        refine ⟨.ref b, p, [.ty "list", .ty "tuple"], .type "list", [.type "list", .type "tuple"], true, rfl, upd_same, .cons (.ty _) (.cons (.ty _) .nil), SqL.tyX hb1, kitSeqL, true, rfl, iteT ?_⟩
        refine ⟨.ref a, rfl, .ref a, .ty "list", .type "list", .type "list", true, rfl, .ty _, SqL.tyX ha1, kit_ty (by decide +kernel), .ref b, rfl, .ref b, .ty "list", .type "list", .type "list", true, rfl, .ty _, SqL.tyX hb1, kit_ty (by decide +kernel), rfl, _, rfl, iteNS rfl ?_⟩
        refine ⟨.ref a, rfl, (by show 2 ≤ sizeLine; decide), fun p2 hp2 => ?_⟩
        have s2 : Same _ (upd (upd H p (.tup [.ty "list", .ty "tuple"])) p2 (.tup [.ty "list", .ty "tuple"])) := s1.trans (KX.sameUpd hp2)
        have ha2 := (s2).seq ha
        have hb2 := (s2).seq hb
        refine ⟨.ref a, p2, [.ty "list", .ty "tuple"], .type "list", [.type "list", .type "tuple"], true, rfl, upd_same, .cons (.ty _) (.cons (.ty _) .nil), SqL.tyX ha2, kitSeqL, true, rfl, iteF ?_⟩
        refine ⟨.ref a, rfl, a, xs, rfl, .inl ha2, .ref b, rfl, b, ys, rfl, .inl hb2, rfl, _, rfl, ?_⟩
        rw [if_pos (decide_eq_true (by rw [hl]))]
        refine ⟨.ref a, rfl, .ref b, rfl, a, b, xs, ys, rfl, .inl ⟨ha2, hb2, fun D hD => ?_⟩⟩
        generalize upd (upd H p (.tup [.ty "list", .ty "tuple"])) p2 (.tup [.ty "list", .ty "tuple"]) = H2 at *
        refine lcJ (n := xs.length) (fun i H3 => Same H2 H3 ∧ H3 D = some (.lst ((List.replicate i true).map V.bl)) ∧ i ≤ xs.length) ⟨KX.sameUpd hD, upd_same, Nat.zero_le _⟩ (fun i H3 lt h3 => ?_) (fun H3 h3 => ?_) (fun i H3 x H4 lt h3 y => ?_) (fun H3 h3 => ?_)
        · exact ⟨xs, ys, xs[i], ys[i], (h3.1).seq ha2, (h3.1).seq hb2, List.getElem?_eq_getElem lt, List.getElem?_eq_getElem (by omega)⟩
        · exact ⟨xs, ys, (h3.1).seq ha2, (h3.1).seq hb2, .inl (Nat.le_refl _)⟩
        · obtain ⟨s3, eD, _⟩ := h3
          obtain ⟨T, x1, y1, rfl, nT, rfl, fx, fy⟩ := y
          have e1 := fx _ ((s3).seq ha2)
          have e2 := fy _ ((s3).seq hb2)
          refine ⟨T, [x1, y1], rfl, .inl (.inl upd_same), rfl, x1, [y1], rfl, y1, [], rfl, rfl, rfl, ?_⟩
          refine ⟨x1, rfl, y1, rfl, x1, y1, rfl, (hh i _ _ e1 e2).same (s2.trans (s3.trans (KX.sameUpd nT))), fun H5 s5 => ?_⟩
          have s4 : Same H2 H5 := s3.trans ((KX.sameUpd nT).trans s5)
          have eD5 : H5 D = some (.lst ((List.replicate i true).map V.bl)) := s5 _ _ (KX.sameUpd nT _ _ eD)
          refine ⟨_, eD5, ?_, fun b o hb => ?_, ?_, lt⟩
          · rw [List.length_map, List.length_replicate]
            exact small1000 (by omega)
          · rw [upd_ne (ne_of_none hb hD)]
            exact s4 _ _ hb
          · rw [upd_same, List.replicate_succ', List.map_append]
            rfl
        · obtain ⟨s3, eD, _⟩ := h3
          refine ⟨D, List.replicate xs.length true, rfl, .inl (.inl eD), ?_⟩
          rw [show (List.replicate xs.length true).all id = true by simp]
          exact q _ (s2.trans s3)
      | @tup _ a b xs ys ha hb hl hz hh =>
        refine ⟨.ref b, rfl, (by show 2 ≤ sizeLine; decide), fun p hp => ?_⟩
        have s1 : Same H (upd H p (.tup [.ty "list", .ty "tuple"])) := KX.sameUpd hp
        have ha1 := sameTup (s1) ha
        have hb1 := sameTup (s1) hb
        refine ⟨.ref b, p, [.ty "list", .ty "tuple"], .type "tuple", [.type "list", .type "tuple"], true, rfl, upd_same, .cons (.ty _) (.cons (.ty _) .nil), SqT.tyX hb1, kitSeqT, true, rfl, iteT ?_⟩
        refine ⟨.ref a, rfl, .ref a, .ty "list", .type "tuple", .type "list", false, rfl, .ty _, SqT.tyX ha1, kit_ty (by decide +kernel), .ref b, rfl, .ref b, .ty "list", .type "tuple", .type "list", false, rfl, .ty _, SqT.tyX hb1, kit_ty (by decide +kernel), rfl, _, rfl, iteNS rfl ?_⟩
        refine ⟨.ref a, rfl, (by show 2 ≤ sizeLine; decide), fun p2 hp2 => ?_⟩
        have s2 : Same _ (upd (upd H p (.tup [.ty "list", .ty "tuple"])) p2 (.tup [.ty "list", .ty "tuple"])) := s1.trans (KX.sameUpd hp2)
        have ha2 := sameTup (s2) ha
        have hb2 := sameTup (s2) hb
        refine ⟨.ref a, p2, [.ty "list", .ty "tuple"], .type "tuple", [.type "list", .type "tuple"], true, rfl, upd_same, .cons (.ty _) (.cons (.ty _) .nil), SqT.tyX ha2, kitSeqT, true, rfl, iteF ?_⟩
        refine ⟨.ref a, rfl, a, xs, rfl, .inr ha2, .ref b, rfl, b, ys, rfl, .inr hb2, rfl, _, rfl, ?_⟩
        rw [if_pos (decide_eq_true (by rw [hl]))]
        refine ⟨.ref a, rfl, .ref b, rfl, a, b, xs, ys, rfl, .inr ⟨ha2, hb2, fun D hD => ?_⟩⟩
        generalize upd (upd H p (.tup [.ty "list", .ty "tuple"])) p2 (.tup [.ty "list", .ty "tuple"]) = H2 at *
        refine lcJ (n := xs.length) (fun i H3 => Same H2 H3 ∧ H3 D = some (.lst ((List.replicate i true).map V.bl)) ∧ i ≤ xs.length) ⟨KX.sameUpd hD, upd_same, Nat.zero_le _⟩ (fun i H3 lt h3 => ?_) (fun H3 h3 => ?_) (fun i H3 x H4 lt h3 y => ?_) (fun H3 h3 => ?_)
        · exact ⟨xs, ys, xs[i], ys[i], sameTup (h3.1) ha2, sameTup (h3.1) hb2, List.getElem?_eq_getElem lt, List.getElem?_eq_getElem (by omega)⟩
        · exact ⟨xs, ys, sameTup (h3.1) ha2, sameTup (h3.1) hb2, .inl (Nat.le_refl _)⟩
        · obtain ⟨s3, eD, _⟩ := h3
          obtain ⟨T, x1, y1, rfl, nT, rfl, fx, fy⟩ := y
          have e1 := fx _ (sameTup (s3) ha2)
          have e2 := fy _ (sameTup (s3) hb2)
          refine ⟨T, [x1, y1], rfl, .inl (.inl upd_same), rfl, x1, [y1], rfl, y1, [], rfl, rfl, rfl, ?_⟩
          refine ⟨x1, rfl, y1, rfl, x1, y1, rfl, (hh i _ _ e1 e2).same (s2.trans (s3.trans (KX.sameUpd nT))), fun H5 s5 => ?_⟩
          have s4 : Same H2 H5 := s3.trans ((KX.sameUpd nT).trans s5)
          have eD5 : H5 D = some (.lst ((List.replicate i true).map V.bl)) := s5 _ _ (KX.sameUpd nT _ _ eD)
          refine ⟨_, eD5, ?_, fun b o hb => ?_, ?_, lt⟩
          · rw [List.length_map, List.length_replicate]
            exact small1000 (by omega)
          · rw [upd_ne (ne_of_none hb hD)]
            exact s4 _ _ hb
          · rw [upd_same, List.replicate_succ', List.map_append]
            rfl
        · obtain ⟨s3, eD, _⟩ := h3
          refine ⟨D, List.replicate xs.length true, rfl, .inl (.inl eD), ?_⟩
          rw [show (List.replicate xs.length true).all id = true by simp]
          exact q _ (s2.trans s3)
end
end K1

set_option Elab.async false
set_option linter.all false
set_option maxRecDepth 100000
set_option maxHeartbeats 4000000
namespace K1
open PySem PySem.Spec PyProof.Rows L2
/-- a drawn value -/
inductive Val (H : Hp) : V → Prop
  | flat {v : V} {t : String} (h : Fl v t) (s : ∀ z, v = .str z → SOk z) : Val H v
  | emp {p : Addr} (h : H p = some (.tup [])) : Val H (.ref p)
  | two {p q : Addr} {z : Str} {i : Int} (s : SOk z) (h : H p = some (.tup [.str z, .ref q])) (h2 : H q = some (.tup [.int i, .non])) : Val H (.ref p)
theorem Val.kp {f : Addr} {H H' : Hp} (k : Kp f H H') (hf : Fd H f) {v : V} (h : Val H v) : Val H' v := by
  obtain ⟨x, y, hf, _⟩ := hf
  have ne : ∀ {p : Addr} {xs : List V}, H p = some (.tup xs) → p ≠ f := fun e z => by
    rw [z, hf] at e
    cases e
  cases h with
  | flat h s => exact .flat h s
  | emp h => exact .emp (k _ _ (ne h) h)
  | two s h h2 => exact .two s (k _ _ (ne h) h) (k _ _ (ne h2) h2)
theorem Val.same {H H' : Hp} (s : Same H H') {v : V} (h : Val H v) : Val H' v := by
  cases h with
  | flat h z => exact .flat h z
  | emp h => exact .emp (s _ _ h)
  | two z h h2 => exact .two z (s _ _ h) (s _ _ h2)
theorem Val.sv {K : PySem.W.Frag} {H : Hp} {v : V} (h : Val H v) : Sv K H 2 v v := by
  cases h with
  | flat h _ => exact .flat h
  | emp h => exact .tup (xs := []) (ys := []) (.inl (.inl h)) (.inl (.inl h)) rfl (by decide) (fun i v w e => by simp at e)
  | @two p q z i _ h h2 =>
    refine .tup (.inl (.inl h)) (.inl (.inl h)) rfl (by show 2 ≤ 1000; decide) (fun j v w e e2 => ?_)
    have : v = w := Option.some.inj (e.symm.trans e2)
    subst this
    match j, e with
    | 0, e => cases e; exact .flat (.str z)
    | 1, e =>
      cases e
      refine .tup (.inl (.inl h2)) (.inl (.inl h2)) rfl (by show 2 ≤ 1000; decide) (fun j v w e e2 => ?_)
      have : v = w := Option.some.inj (e.symm.trans e2)
      subst this
      match j, e with
      | 0, e => cases e; exact .flat (.int i)
      | 1, e => cases e; exact .flat .non
/-- as data -/
theorem Val.dp {K : PySem.W.Frag} {H : Hp} {v : V} (h : Val H v) : ∃ d, Dp K H v d ∧ d.canLay0 = true ∧ d.depth ≤ 4 := by
  cases h with
  | flat h s =>
    cases h with
    | non => exact ⟨_, .non, rfl, by decide⟩
    | bl b => exact ⟨_, .bl b, rfl, by simp [PyData.depth]⟩
    | int i => exact ⟨_, .int i, rfl, by simp [PyData.depth]⟩
    | str z => exact ⟨_, .str z, s z rfl, by simp [PyData.depth]⟩
  | emp h => exact ⟨.tuple [], .tup (.inl (.inl h)) .nil, rfl, by decide⟩
  | @two p q z i s h h2 =>
    refine ⟨.tuple [.str z, .tuple [.int i, .none]], .tup (.inl (.inl h)) (.cons (.str z) (.cons (.tup (.inl (.inl h2)) (.cons (.int i) (.cons .non .nil))) .nil)), ?_, ?_⟩
    · show (PyData.canLay0 (.str z) && _) = true
      rw [show PyData.canLay0 (.str z) = true from s]
      rfl
    · simp [PyData.depth, PyData.depthAll]
theorem Sv.up {K : PySem.W.Frag} {H : Hp} {n : Nat} {v w : V} (h : Sv K H n v w) : Sv K H (n + 1) v w := by
  induction h with
  | flat h => exact .flat h
  | lst ha hb hl hz _ ih => exact .lst ha hb hl hz ih
  | tup ha hb hl hz _ ih => exact .tup ha hb hl hz ih
def spAny : Sp := fun vs H Q _ => ∃ f : Addr, vs = [.ref f] ∧ Fd H f ∧ ∀ (v : V) H', Kp f H H' → Fd H' f → Val H' v → Q v H'
section
variable {P : Program} {w : World} {K : PySem.W.Frag} {mg : Str → Option Value} {base : Heap} {f : Addr} {fd : FuncData}
theorem scAny : FnScope ["_law_feed", "_law_form"] ["_law_feed"] (defScope sAny) := ⟨rfl, rfl, rfl, by decide +kernel, rfl, by decide +kernel, by decide +kernel⟩
theorem okAny {k : Nat} (F : FnP K "_law_any_value" sAny f fd) (D : At P w K mg base (k + 1) "_law_draw" ["_law_feed", "_law_many"] spDraw) (T : At P w K mg base (k + 3) "_law_some_text" ["_law_feed"] spText) :
    FnOk P w K mg base CX0 (k + 4) f fd ["_law_feed"] spAny := by
  obtain ⟨fD, fdD, gD, kD, bD, GD⟩ := D.ex
  obtain ⟨fT, fdT, gT, kT, bT, GT⟩ := T.ex
  refine F.ok scAny (fun vs H Q E h => ?_) (fun cdv A outer s H vs Q E hr h => ?_)
  · obtain ⟨a, rfl, _⟩ := h
    rfl
  · obtain ⟨a, rfl, hF, q⟩ := h
    have hr1 : Room (k + 1) _ := hr.mono (by omega)
    refine ⟨_, PSs.nox (pss_cons (ps_set (i := 1) scAny.nd rfl (.inl rfl) (pe_call GD hr1 (by rfl) gD kD bD .nil pass0 (pa_cons (pv 0) (pa_cons (pe_int) pa_nil)))) (pss_cons (ps_if (pt_cmpR op_eq (pv 1) pe_int (nomark _)) (pss_one (ps_ret (pe_tup (pa_cons (pe_call GT hr (by rfl) gT kT bT .nil pass0 (pa_cons (pv 0) pa_nil)) (pa_cons (pe_tup (pa_cons (pe_call GD hr1 (by rfl) gD kD bD .nil pass0 (pa_cons (pv 0) (pa_cons (pe_int) pa_nil))) (pa_cons (pe_non) pa_nil))) pa_nil))))) pss_nil) (pss_one (ps_ret (pe_ix ix_list (pe_lst (pa_cons (pe_non) (pa_cons (pe_bl) (pa_cons (pe_op op_sub pe_int (pe_call GD hr1 (by rfl) gD kD bD .nil pass0 (pa_cons (pv 0) (pa_cons (pe_int) pa_nil)))) (pa_cons (pe_op op_pow pe_int pe_int) (pa_cons (pe_call GT hr (by rfl) gT kT bT .nil pass0 (pa_cons (pv 0) pa_nil)) (pa_cons (pe_tup pa_nil) pa_nil)))))))
        (pe_op op_sub (pv 1) pe_int) (fun _ _ => rfl)))))), ?_⟩
    have neF : ∀ {H : Hp} {p : Addr}, Fd H a → H p = none → p ≠ a := fun ⟨x, y, e, _⟩ hp z => by
      rw [z, e] at hp
      cases hp
    refine ⟨.ref a, rfl, a, 7, rfl, hF, by decide, by decide, fun r H1 r0 r1 k1 F1 => ?_⟩
    refine ⟨.int r, rfl, rfl, _, rfl, ite2 (fun e => ?_) (fun e0 => ?_)⟩
    · refine ⟨.ref a, rfl, a, rfl, F1, fun z H2 sz k2 F2 => ?_⟩
      refine ⟨.ref a, rfl, a, 9, rfl, F2, by decide, by decide, fun r3 H3 _ _ k3 F3 => ⟨(by show 2 ≤ sizeLine; decide), fun p hp => ⟨(by show 2 ≤ sizeLine; decide), fun p2 hp2 => ?_⟩⟩⟩
      refine q _ _ ((((k1.trans k2).trans k3).trans (Kp.new hp)).trans (Kp.new hp2)) ((F3.new hp).new hp2) (.two (i := r3) sz upd_same ?_)
      rw [upd_ne (ne_of_none upd_same hp2)]
      exact upd_same
    · have n0 : r ≠ 0 := fun z => e0 (by rw [z]; rfl)
      refine ⟨.ref a, rfl, a, 99, rfl, F1, by decide, by decide, fun r2 H2 _ _ k2 F2 => ⟨0, r2, rfl, rfl, ?_⟩⟩
      refine ⟨10, 30, rfl, rfl, ⟨by decide, by decide, by decide⟩, ?_⟩
      refine ⟨.ref a, rfl, a, rfl, F2, fun z H3 sz k3 F3 => ?_⟩
      refine ⟨(by show 0 ≤ sizeLine; decide), fun p hp => ⟨(by show 6 ≤ sizeLine; decide), fun l hl => ?_⟩⟩
      have hpl : upd (upd H3 p (.tup [])) l (.lst [.non, .bl true, .int (0 - r2), .int (10 ^ (18 + 12)), .str z, .ref p]) p = some (.tup []) := by
        rw [upd_ne (ne_of_none upd_same hl)]
        exact upd_same
      have kk := (((k1.trans k2).trans k3).trans (Kp.new (o := .tup []) hp)).trans (Kp.new (o := .lst [.non, .bl true, .int (0 - r2), .int (10 ^ (18 + 12)), .str z, .ref p]) hl)
      have FF := (F3.new (o := .tup []) hp).new (o := .lst [.non, .bl true, .int (0 - r2), .int (10 ^ (18 + 12)), .str z, .ref p]) hl
      refine ⟨.int r, rfl, r, 1, rfl, rfl, ?_⟩
      obtain ⟨v, hv, hval⟩ : ∃ v, atI [V.non, .bl true, .int (0 - r2), .int (10 ^ (18 + 12)), .str z, .ref p] (r - 1) = some v ∧ Val (upd (upd H3 p (.tup [])) l (.lst [.non, .bl true, .int (0 - r2), .int (10 ^ (18 + 12)), .str z, .ref p])) v := by
        have hc : r = 1 ∨ r = 2 ∨ r = 3 ∨ r = 4 ∨ r = 5 ∨ r = 6 := by omega
        rcases hc with h | h | h | h | h | h <;> subst h
        · exact ⟨_, rfl, .flat .non (fun z e => by cases e)⟩
        · exact ⟨_, rfl, .flat (.bl true) (fun z e => by cases e)⟩
        · exact ⟨_, rfl, .flat (.int _) (fun z e => by cases e)⟩
        · exact ⟨_, rfl, .flat (.int _) (fun z e => by cases e)⟩
        · exact ⟨_, rfl, .flat (.str z) (fun y e => by cases e; exact sz)⟩
        · exact ⟨_, rfl, .emp hpl⟩
      exact ⟨l, _, _, v, rfl, rfl, .inl (.inl upd_same), hv, q v _ kk FF hval⟩
end
end K1

set_option Elab.async false
set_option linter.all false
set_option maxRecDepth 100000
set_option maxHeartbeats 4000000
namespace K1
open PySem PySem.Spec PyProof.Rows L2 KX
open He (ga)
/-- the classes in the order in which they are looked for -/
def cn : List Str := ["Clash", "Gap", "Rewritten", "NoPlace", "NotNeeded", "NotPart", "BadTree", "NotSettled", "NotOpen", "NotCause", "NoTarget", "NotSource", "Mismatch", "Taken", "Stuck", "BadLine", "BadKind", "NotFresh", "Conflict", "Failed", "BadEntry", "BadName", "Halted", "NoRow", "NotAsked", "NoVersion"]
def idx (x : Str) : List Int := ((List.range 26).filter fun k => cn.getD k "" == x).map fun k : Nat => (k : Int)
structure Ks (K : PySem.W.Frag) (mg : Str → Option Value) : Prop where
  gm : ∀ x ∈ cn, mg x = some (.ref (ga K x))
  xc : ∀ x ∈ cn, XC K (ga K x)
  kit : ∀ x ∈ cn, ∀ y ∈ cn, PySem.W.kitOne K (.ref (ga K x)) (.ref (ga K y)) = some (y == x)
def spNames (K : PySem.W.Frag) : Sp := fun vs H Q _ => ∃ (e : Addr) (x : Str), vs = [.ref e] ∧ x ∈ cn ∧ Er H e (ga K x) ∧ ∀ p H', Same H H' → H' p = some (.lst ((idx x).map V.int)) → Q (.ref p) H'
theorem filtT {p : Nat → Bool} {i : Nat} (h : p i = true) : (List.range (i + 1)).filter p = (List.range i).filter p ++ [i] := by
  rw [List.range_succ, List.filter_append, List.filter_cons_of_pos h, List.filter_nil]
theorem filtF {p : Nat → Bool} {i : Nat} (h : p i = false) : (List.range (i + 1)).filter p = (List.range i).filter p := by
  rw [List.range_succ, List.filter_append, List.filter_cons_of_neg (by rw [h]; exact Bool.false_ne_true), List.filter_nil, List.append_nil]
/-- isinstance(e, X) -/
def tIs (K : PySem.W.Frag) (i : Nat) (y : Str) : TE := fun σ H Q => ∃ (e : Addr) (x : Str), σ[i]? = some (some (.ref e)) ∧ x ∈ cn ∧ Er H e (ga K x) ∧ Q (.bl (y == x)) H
/-- .. for X written, one after another -/
def tIss (K : PySem.W.Frag) (i : Nat) (ys : List Str) : TA := fun σ H Q => ∃ (e : Addr) (x : Str), σ[i]? = some (some (.ref e)) ∧ x ∈ cn ∧ Er H e (ga K x) ∧ Q (ys.map fun y => .bl (y == x)) H
section
variable {X : Cx} {i : Nat} {n y : Str} {ys : List Str} {es : List Expr} {p1 p2 p3 p4 : Pos}
theorem peIs (G : Ks X.K X.mg) (B : Bn X.mg) (hN : X.N[i]? = some n := by rfl) (hv : Vis X.env.scope n := by first | exact Or.inl rfl | exact Or.inr (Or.inl rfl) | exact Or.inr (Or.inr rfl)) (d1 : (n == ("__debug__" : Str)) = false := by decide) (d2 : (n == ("__classdict__" : Str)) = false := by decide)
    (hI : Gl X "isinstance" := by rfl) (hg : Gl X y := by rfl) (hy : y ∈ cn := by decide +kernel) (dy : (y == ("__debug__" : Str)) = false := by decide)
    (h1 : starEach [.Name n p2, .Name y p3] X.env = (false, eval (.Name n p2) X.env) :: starEach [.Name y p3] X.env := by rfl) (h2 : starEach [.Name y p3] X.env = (false, eval (.Name y p3) X.env) :: starEach [] X.env := by rfl)
    (hpl : (backTo p4 (starEach [.Name y p3] X.env)).any (·.1) = false := by rfl) :
    PE X (.Call (.Name "isinstance" p1) [.Name n p2, .Name y p3] [] p4) (tIs X.K i y) := by
  have base := pe_callB (pos := p4) (p := p1) (callIsX (X := X)) hI B.isi (by decide +kernel) (pa_cons (pe_var (pos := p2) hN hv d1 d2) (pa_cons (pe_glob (v := .ref (ga X.K y)) (pos := p3) hg (G.gm y hy) rfl dy) pa_nil h2) h1) (by decide) (by decide) h1 hpl
  refine ⟨fun pins s σ H Q I h => base.run pins s σ H Q I ?_⟩
  obtain ⟨e, x, hs, hx, er, q⟩ := h
  exact ⟨.ref e, hs, e, ga X.K x, .ref (ga X.K y), .ref (ga X.K y), _, rfl, er, G.xc x hx, .own _, G.kit x hx y hy, q⟩
theorem paIs0 : PA X [] (tIss X.K i []) := ⟨fun pos pins s σ H Q I h => by
  obtain ⟨_, _, _, _, _, q⟩ := h
  exact pa_nil.run pos pins s σ H Q I q⟩
theorem paIs (h : PE X (.Call (.Name "isinstance" p1) [.Name n p2, .Name y p3] [] p4) (tIs X.K i y)) (r : PA X es (tIss X.K i ys)) (hs : starEach (Expr.Call (.Name "isinstance" p1) [.Name n p2, .Name y p3] [] p4 :: es) X.env = (false, eval (Expr.Call (.Name "isinstance" p1) [.Name n p2, .Name y p3] [] p4) X.env) :: starEach es X.env := by rfl) :
    PA X (Expr.Call (.Name "isinstance" p1) [.Name n p2, .Name y p3] [] p4 :: es) (tIss X.K i (y :: ys)) := by
  refine ⟨fun pos pins s σ H Q I h2 => (pa_cons h r hs).run pos pins s σ H Q I ?_⟩
  obtain ⟨e, x, hs, hx, er, q⟩ := h2
  exact ⟨e, x, hs, hx, er, e, x, hs, hx, er, q⟩
end
section
variable {P : Program} {w : World} {K : PySem.W.Frag} {mg : Str → Option Value} {base : Heap} {f : Addr} {fd : FuncData}
theorem scNames : FnScope ["_law_e", "_law_found", "_law_k"] ["_law_e"] (defScope sNames) := ⟨rfl, rfl, rfl, by decide +kernel, rfl, by decide +kernel, by decide +kernel⟩
theorem okNames {k : Nat} (F : FnP K "_law_names_of" sNames f fd) (G : Ks K mg) (B : Bn mg) : FnOk P w K mg base CX0 (k + 1) f fd ["_law_e"] (spNames K) := by
  refine F.ok scNames (fun vs H Q E h => ?_) (fun cdv A outer s H vs Q E hr h => ?_)
  · obtain ⟨e, x, rfl, _⟩ := h
    rfl
  · obtain ⟨e, x, rfl, hx, he, q⟩ := h
    refine ⟨_, PSs.nox (C8.pss_cut (ps_set (i := 1) scNames.nd rfl (.inr rfl) (pe_lst (paIs (peIs (i := 0) G B) (paIs (peIs (i := 0) G B) (paIs (peIs (i := 0) G B) (paIs (peIs (i := 0) G B) paIs0)))))) (C8.pss_cut (ps_set (i := 1) scNames.nd rfl (.inr rfl) (pe_op op_cat (pv 1) (pe_lst (paIs (peIs (i := 0) G B) (paIs (peIs (i := 0) G B) (paIs (peIs (i := 0) G B) paIs0)))))) (C8.pss_cut (ps_set (i := 1) scNames.nd rfl (.inr rfl) (pe_op op_cat (pv 1) (pe_lst (paIs (peIs (i := 0) G B) (paIs (peIs (i := 0) G B) (paIs (peIs (i := 0) G B) paIs0)))))) (C8.pss_cut (ps_set (i := 1) scNames.nd rfl (.inr rfl) (pe_op op_cat (pv 1) (pe_lst (paIs (peIs (i := 0) G B) (paIs (peIs (i := 0) G B) (paIs (peIs (i := 0) G B) (paIs (peIs (i := 0) G B) paIs0))))))) (C8.pss_cut (ps_set (i := 1) scNames.nd rfl (.inr rfl) (pe_op op_cat (pv 1) (pe_lst (paIs (peIs (i := 0) G B) (paIs (peIs (i := 0) G B) (paIs (peIs (i := 0) G B) (paIs (peIs (i := 0) G B) paIs0))))))) (C8.pss_cut (ps_set (i := 1) scNames.nd rfl (.inr rfl) (pe_op op_cat (pv 1) (pe_lst (paIs (peIs (i := 0) G B) (paIs (peIs (i := 0) G B) (paIs (peIs (i := 0) G B) paIs0)))))) (C8.pss_cut (ps_set (i := 1) scNames.nd rfl (.inr rfl) (pe_op op_cat (pv 1) (pe_lst (paIs (peIs (i := 0) G B) (paIs (peIs (i := 0) G B) (paIs (peIs (i := 0) G B) paIs0)))))) (C8.pss_cut (ps_set (i := 1) scNames.nd rfl (.inr rfl) (pe_op op_cat (pv 1) (pe_lst (paIs (peIs (i := 0) G B) (paIs (peIs (i := 0) G B) paIs0))))) (pss_one (ps_ret (pe_lc (own := [("_law_k", 2)]) (g := gName 2) (tt := tB (tOp (rIxL K) (tVar 1) (tVar 2))) (te := tVar 2) rfl scNames.nd (pi_range1 (by rfl) B.range (pa_cons (pe_callB call_len_seq (by rfl) B.len PySem.boot_len (pa_cons (pv 1) pa_nil)) pa_nil)) (blkOk_by (N := ["_law_e", "_law_found", "_law_k"]) (sc := defScope sNames) (by decide +kernel))
        (fun _ _ _ _ _ => pg_name (i := 2) scNames.nd rfl (.inl rfl)) (fun _ _ _ _ _ => pts_one (pt_val (pe_ix ix_list (pv 1) (pv 2) (fun _ _ => rfl)))) (fun _ _ _ _ _ => pv 2)))))))))))), ?_⟩
    refine ⟨fun σ' H' => ∃ p, σ' = [some (.ref e), some (.ref p), none] ∧ Same H H' ∧ H' p = some (.lst ((cn.take 4).map fun y => V.bl (y == x))), ?_, ?_⟩
    · exact ⟨e, x, rfl, hx, he, (by show 4 ≤ sizeLine; decide), fun p n0 => ⟨p, rfl, KX.sameUpd n0, upd_same⟩⟩
    rintro _ H0 ⟨p0, rfl, s0, e0⟩
    refine ⟨fun σ' H' => ∃ p, σ' = [some (.ref e), some (.ref p), none] ∧ Same H H' ∧ H' p = some (.lst ((cn.take 7).map fun y => V.bl (y == x))), ?_, ?_⟩
    · refine ⟨.ref p0, rfl, e, x, rfl, hx, he.same s0, (by show 3 ≤ sizeLine; decide), fun a m => ?_⟩
      refine ⟨p0, a, (cn.take 4).map (fun y => V.bl (y == x)), _, rfl, rfl, (KX.sameUpd m) _ _ e0, upd_same, (by show 4 + 3 ≤ sizeLine; decide), fun p n2 => ?_⟩
      exact ⟨p, rfl, (s0.trans (KX.sameUpd m)).trans (KX.sameUpd n2), upd_same⟩
    rintro _ H1 ⟨p1, rfl, s1, e1⟩
    refine ⟨fun σ' H' => ∃ p, σ' = [some (.ref e), some (.ref p), none] ∧ Same H H' ∧ H' p = some (.lst ((cn.take 10).map fun y => V.bl (y == x))), ?_, ?_⟩
    · refine ⟨.ref p1, rfl, e, x, rfl, hx, he.same s1, (by show 3 ≤ sizeLine; decide), fun a m => ?_⟩
      refine ⟨p1, a, (cn.take 7).map (fun y => V.bl (y == x)), _, rfl, rfl, (KX.sameUpd m) _ _ e1, upd_same, (by show 7 + 3 ≤ sizeLine; decide), fun p n2 => ?_⟩
      exact ⟨p, rfl, (s1.trans (KX.sameUpd m)).trans (KX.sameUpd n2), upd_same⟩
    rintro _ H2 ⟨p2, rfl, s2, e2⟩
    refine ⟨fun σ' H' => ∃ p, σ' = [some (.ref e), some (.ref p), none] ∧ Same H H' ∧ H' p = some (.lst ((cn.take 14).map fun y => V.bl (y == x))), ?_, ?_⟩
    · refine ⟨.ref p2, rfl, e, x, rfl, hx, he.same s2, (by show 4 ≤ sizeLine; decide), fun a m => ?_⟩
      refine ⟨p2, a, (cn.take 10).map (fun y => V.bl (y == x)), _, rfl, rfl, (KX.sameUpd m) _ _ e2, upd_same, (by show 10 + 4 ≤ sizeLine; decide), fun p n2 => ?_⟩
      exact ⟨p, rfl, (s2.trans (KX.sameUpd m)).trans (KX.sameUpd n2), upd_same⟩
    rintro _ H3 ⟨p3, rfl, s3, e3⟩
    refine ⟨fun σ' H' => ∃ p, σ' = [some (.ref e), some (.ref p), none] ∧ Same H H' ∧ H' p = some (.lst ((cn.take 18).map fun y => V.bl (y == x))), ?_, ?_⟩
    · refine ⟨.ref p3, rfl, e, x, rfl, hx, he.same s3, (by show 4 ≤ sizeLine; decide), fun a m => ?_⟩
      refine ⟨p3, a, (cn.take 14).map (fun y => V.bl (y == x)), _, rfl, rfl, (KX.sameUpd m) _ _ e3, upd_same, (by show 14 + 4 ≤ sizeLine; decide), fun p n2 => ?_⟩
      exact ⟨p, rfl, (s3.trans (KX.sameUpd m)).trans (KX.sameUpd n2), upd_same⟩
    rintro _ H4 ⟨p4, rfl, s4, e4⟩
    refine ⟨fun σ' H' => ∃ p, σ' = [some (.ref e), some (.ref p), none] ∧ Same H H' ∧ H' p = some (.lst ((cn.take 21).map fun y => V.bl (y == x))), ?_, ?_⟩
    · refine ⟨.ref p4, rfl, e, x, rfl, hx, he.same s4, (by show 3 ≤ sizeLine; decide), fun a m => ?_⟩
      refine ⟨p4, a, (cn.take 18).map (fun y => V.bl (y == x)), _, rfl, rfl, (KX.sameUpd m) _ _ e4, upd_same, (by show 18 + 3 ≤ sizeLine; decide), fun p n2 => ?_⟩
      exact ⟨p, rfl, (s4.trans (KX.sameUpd m)).trans (KX.sameUpd n2), upd_same⟩
    rintro _ H5 ⟨p5, rfl, s5, e5⟩
    refine ⟨fun σ' H' => ∃ p, σ' = [some (.ref e), some (.ref p), none] ∧ Same H H' ∧ H' p = some (.lst ((cn.take 24).map fun y => V.bl (y == x))), ?_, ?_⟩
    · refine ⟨.ref p5, rfl, e, x, rfl, hx, he.same s5, (by show 3 ≤ sizeLine; decide), fun a m => ?_⟩
      refine ⟨p5, a, (cn.take 21).map (fun y => V.bl (y == x)), _, rfl, rfl, (KX.sameUpd m) _ _ e5, upd_same, (by show 21 + 3 ≤ sizeLine; decide), fun p n2 => ?_⟩
      exact ⟨p, rfl, (s5.trans (KX.sameUpd m)).trans (KX.sameUpd n2), upd_same⟩
    rintro _ H6 ⟨p6, rfl, s6, e6⟩
    refine ⟨fun σ' H' => ∃ p, σ' = [some (.ref e), some (.ref p), none] ∧ Same H H' ∧ H' p = some (.lst ((cn.take 26).map fun y => V.bl (y == x))), ?_, ?_⟩
    · refine ⟨.ref p6, rfl, e, x, rfl, hx, he.same s6, (by show 2 ≤ sizeLine; decide), fun a m => ?_⟩
      refine ⟨p6, a, (cn.take 24).map (fun y => V.bl (y == x)), _, rfl, rfl, (KX.sameUpd m) _ _ e6, upd_same, (by show 24 + 2 ≤ sizeLine; decide), fun p n2 => ?_⟩
      exact ⟨p, rfl, (s6.trans (KX.sameUpd m)).trans (KX.sameUpd n2), upd_same⟩
    rintro _ H7 ⟨p7, rfl, s7, e7⟩
    refine ⟨.ref p7, rfl, p7, _, rfl, .inl (.inl (.inl e7)), 26, rfl, by decide, by decide, fun D hD => ?_⟩
    refine lc_range (lo := 0) (n := 26) (fun i H3 => Same H7 H3 ∧ H3 D = some (.lst ((((List.range i).filter fun k => cn.getD k "" == x).map fun k : Nat => (k : Int)).map V.int))) ⟨KX.sameUpd hD, upd_same⟩ (fun i H3 lt h3 => ?_) (fun H3 h3 => ?_)
    · obtain ⟨s3, eD⟩ := h3
      have hv : (cn.map fun y => V.bl (y == x))[i]? = some (.bl (cn.getD i "" == x)) := by
        have hl : i < cn.length := lt
        rw [List.getElem?_map, List.getElem?_eq_getElem hl, List.getD_eq_getElem?_getD, List.getElem?_eq_getElem hl]
        rfl
      have hat : atI ((cn.take 26).map fun y => V.bl (y == x)) (0 + (i : Int)) = some (.bl (cn.getD i "" == x)) := by
        rw [Int.zero_add]
        exact atI_nat hv
      refine ⟨rfl, .ref p7, rfl, .int (0 + i), rfl, p7, _, _, .bl (cn.getD i "" == x), rfl, rfl, .inl (.inl (s3 _ _ e7)), hat, cn.getD i "" == x, rfl, ?_⟩
      have sz : (((((List.range i).filter fun k => cn.getD k "" == x).map fun k : Nat => (k : Int)).map V.int)).length < sizeLine := by
        rw [List.length_map, List.length_map]
        refine Nat.lt_of_le_of_lt (List.length_filter_le _ _) ?_
        rw [List.length_range]
        exact small1000 (by omega)
      cases hb : cn.getD i "" == x with
      | true =>
        refine iteT ⟨.int (0 + i), rfl, _, eD, sz, fun b o h => ?_, ?_⟩
        · rw [upd_ne (ne_of_none h hD)]
          exact s3 _ _ h
        · rw [upd_same, filtT (p := fun k => cn.getD k "" == x) hb, List.map_append, List.map_append, Int.zero_add]
          rfl
      | false =>
        refine iteF ⟨s3, ?_⟩
        rw [eD, filtF (p := fun k => cn.getD k "" == x) hb]
    · obtain ⟨s3, eD⟩ := h3
      exact q D H3 (s7.trans s3) eD
end
end K1

set_option Elab.async false
set_option linter.all false
set_option maxRecDepth 100000
set_option maxHeartbeats 8000000
namespace K1
open PySem PySem.Spec PyProof.Rows L2 KX
open He (ga)
/-- displays, the heap behind them by what it keeps -/
def tTupA (t : TA) : TE := fun σ H Q => t σ H fun xs H1 => xs.length ≤ sizeLine ∧ ∀ p H', H1 p = none → Same H1 H' → H' p = some (.tup xs) → Q (.ref p) H'
def tLstA (t : TA) : TE := fun σ H Q => t σ H fun xs H1 => xs.length ≤ sizeLine ∧ ∀ p H', H1 p = none → Same H1 H' → H' p = some (.lst xs) → Q (.ref p) H'
section
variable {X : Cx} {es : List Expr} {t : TA} {pos : Pos} {x1 : Nat}
theorem peTupA (h : PA X es t) : PE X (.Tuple es x1 pos) (tTupA t) := by
  refine ⟨fun pins s σ H Q I hq => wpAny_Tuple_spliced (thn (h.run pos pins s σ H _ I hq) fun us s1 z => ?_)⟩
  obtain ⟨xs, H1, I1, r, hz, q⟩ := z
  have free : H1 s1.heap.objs.size = none := I1.hok.fresh (Nat.le_refl _)
  refine ⟨by rw [← r.length]; exact hz, .ref s1.heap.objs.size, _, I1.laid (t' := s1.toks) (o := .tup xs) (fun b u e => Heap.get?_push_of_some _ e) (Nat.le_refl _) ?_, rfl, q _ _ free (sameUpd free) upd_same⟩
  exact ⟨hz, us, r, ⟨_, Heap.get?_push_size _ rfl, rfl, _, rfl⟩⟩
theorem peLstA (h : PA X es t) : PE X (.List es pos) (tLstA t) := by
  refine ⟨fun pins s σ H Q I hq => wpAny_List_spliced (thn (h.run pos pins s σ H _ I hq) fun us s1 z => ?_)⟩
  obtain ⟨xs, H1, I1, r, hz, q⟩ := z
  have free : H1 s1.heap.objs.size = none := I1.hok.fresh (Nat.le_refl _)
  refine ⟨by rw [← r.length]; exact hz, .ref s1.heap.objs.size, _, I1.laid (t' := s1.toks) (o := .lst xs) (fun b u e => Heap.get?_push_of_some _ e) (Nat.le_refl _) ?_, rfl, q _ _ free (sameUpd free) upd_same⟩
  exact ⟨hz, us, 0, r, Heap.get?_push_size _ rfl⟩
end
/-- the classes with one field, and it -/
structure C1s (P : Program) (w : World) (K : PySem.W.Frag) (mg : Str → Option Value) (base : Heap) : Prop where
  ok : ∀ q ∈ ([("Clash", "spot"), ("Gap", "spot"), ("Rewritten", "spot"), ("NoPlace", "spot"), ("NotNeeded", "spot"), ("NotPart", "spot"), ("BadTree", "path"), ("NotSettled", "key"), ("NotOpen", "key"), ("NotCause", "cause"),
    ("NoTarget", "name"), ("NotSource", "name"), ("Mismatch", "name"), ("Taken", "name"), ("Stuck", "ring"), ("BadLine", "line"), ("BadKind", "line"), ("NotFresh", "words"), ("Conflict", "conflicts"), ("Failed", "path"), ("BadEntry", "entry"),
    ("NotAsked", "key"), ("NoVersion", "number")] : List (Str × Str)), Cl1 P w K mg base q.1 (ga K q.1) q.2
def spMany (K : PySem.W.Frag) (off n : Nat) : Sp := fun vs H Q _ => ∃ v : V, vs = [v] ∧ ∀ (l : Addr) (ts : List Addr) H', Same H H' → H' l = some (.lst (ts.map V.ref)) → ts.length = n →
  (∀ i t, ts[i]? = some t → ∃ e, H' t = some (.tup [.ref e, v]) ∧ Er H' e (ga K (cn.getD (off + i) ""))) → Q (.ref l) H'
section
variable {P : Program} {w : World} {K : PySem.W.Frag} {mg : Str → Option Value} {base : Heap} {f : Addr} {fd : FuncData}

theorem scPlaces : FnScope ["_law_a", "_law_one", "_law_two", "_law_three", "_law_four", "_law_five", "_law_six", "_law_seven", "_law_eight", "_law_nine", "_law_ten"] ["_law_a"] (defScope sPlaces) := ⟨rfl, rfl, rfl, by decide +kernel, rfl, by decide +kernel, by decide +kernel⟩
theorem okPlaces {k : Nat} (F : FnP K "_law_with_places" sPlaces f fd) (C : C1s P w K mg base) : FnOk P w K mg base CX0 (k + 3) f fd ["_law_a"] (spMany K 0 10) := by
  have c0 : Cl1 P w K mg base "Clash" (ga K "Clash") "spot" := C.ok ("Clash", "spot") (by decide +kernel)
  have c1 : Cl1 P w K mg base "Gap" (ga K "Gap") "spot" := C.ok ("Gap", "spot") (by decide +kernel)
  have c2 : Cl1 P w K mg base "Rewritten" (ga K "Rewritten") "spot" := C.ok ("Rewritten", "spot") (by decide +kernel)
  have c3 : Cl1 P w K mg base "NoPlace" (ga K "NoPlace") "spot" := C.ok ("NoPlace", "spot") (by decide +kernel)
  have c4 : Cl1 P w K mg base "NotNeeded" (ga K "NotNeeded") "spot" := C.ok ("NotNeeded", "spot") (by decide +kernel)
  have c5 : Cl1 P w K mg base "NotPart" (ga K "NotPart") "spot" := C.ok ("NotPart", "spot") (by decide +kernel)
  have c6 : Cl1 P w K mg base "BadTree" (ga K "BadTree") "path" := C.ok ("BadTree", "path") (by decide +kernel)
  have c7 : Cl1 P w K mg base "NotSettled" (ga K "NotSettled") "key" := C.ok ("NotSettled", "key") (by decide +kernel)
  have c8 : Cl1 P w K mg base "NotOpen" (ga K "NotOpen") "key" := C.ok ("NotOpen", "key") (by decide +kernel)
  have c9 : Cl1 P w K mg base "NotCause" (ga K "NotCause") "cause" := C.ok ("NotCause", "cause") (by decide +kernel)
  refine F.ok scPlaces (fun vs H Q E h => ?_) (fun cdv A outer s H vs Q E hr h => ?_)
  · obtain ⟨v, rfl, _⟩ := h
    rfl
  · obtain ⟨v, rfl, q⟩ := h
    have hr1 : Room 2 _ := hr.mono (by omega)
    refine ⟨_, PSs.nox (C8.pss_cut (ps_par3 (i := 1) (j := 2) (l := 3) rfl scPlaces.nd rfl rfl rfl (by decide) (by decide) (by decide) rfl rfl rfl (pa_cons (peMk1 c0 hr1 (by rfl) (pa_cons (pv 0) pa_nil)) (pa_cons (peMk1 c1 hr1 (by rfl) (pa_cons (pv 0) pa_nil)) (pa_cons (peMk1 c2 hr1 (by rfl) (pa_cons (pv 0) pa_nil)) pa_nil))) (by rfl)) (C8.pss_cut (ps_asg (pe_tup (pa_cons (peMk1 c3 hr1 (by rfl) (pa_cons (pv 0) pa_nil)) (pa_cons (peMk1 c4 hr1 (by rfl) (pa_cons (pv 0) pa_nil)) (pa_cons (peMk1 c5 hr1 (by rfl) (pa_cons (pv 0) pa_nil)) (pa_cons (peMk1 c6 hr1 (by rfl) (pa_cons (pv 0) pa_nil)) pa_nil))))) (pg_tup rfl (pgs_cons (pg_name (i := 4) scPlaces.nd rfl (.inl rfl)) (pgs_cons (pg_name (i := 5) scPlaces.nd rfl (.inl rfl)) (pgs_cons (pg_name (i := 6) scPlaces.nd rfl (.inl rfl)) (pgs_cons (pg_name (i := 7) scPlaces.nd rfl (.inl rfl)) pgs_nil)))))) (C8.pss_cut (ps_par3 (i := 8) (j := 9) (l := 10) rfl scPlaces.nd rfl rfl rfl (by decide) (by decide) (by decide) rfl rfl rfl (pa_cons (peMk1 c7 hr1 (by rfl) (pa_cons (pv 0) pa_nil)) (pa_cons (peMk1 c8 hr1 (by rfl) (pa_cons (pv 0) pa_nil)) (pa_cons (peMk1 c9 hr1 (by rfl) (pa_cons (pv 0) pa_nil)) pa_nil))) (by rfl)) (pss_one (ps_ret (peLstA (pa_cons (peTupA (pa_cons (pv 1) (pa_cons (peXfld (f := "spot") (pv 1)) pa_nil))) (pa_cons (peTupA (pa_cons (pv 2) (pa_cons (peXfld (f := "spot") (pv 2)) pa_nil))) (pa_cons (peTupA (pa_cons (pv 3) (pa_cons (peXfld (f := "spot") (pv 3)) pa_nil))) (pa_cons (peTupA (pa_cons (pv 4) (pa_cons (peXfld (f := "spot") (pv 4)) pa_nil))) (pa_cons (peTupA (pa_cons (pv 5) (pa_cons (peXfld (f := "spot") (pv 5)) pa_nil))) (pa_cons (peTupA (pa_cons (pv 6) (pa_cons (peXfld (f := "spot") (pv 6)) pa_nil))) (pa_cons (peTupA (pa_cons (pv 7) (pa_cons (peXfld (f := "path") (pv 7)) pa_nil))) (pa_cons (peTupA (pa_cons (pv 8) (pa_cons (peXfld (f := "key") (pv 8)) pa_nil))) (pa_cons (peTupA (pa_cons (pv 9) (pa_cons (peXfld (f := "key") (pv 9)) pa_nil))) (pa_cons (peTupA (pa_cons (pv 10) (pa_cons (peXfld (f := "cause") (pv 10)) pa_nil))) pa_nil)))))))))))))))), ?_⟩
    refine ⟨fun σ' H' => ∃ e0 e1 e2 : Addr, σ' = [some v, some (.ref e0), some (.ref e1), some (.ref e2), none, none, none, none, none, none, none] ∧ Same H H' ∧ ErD H' e0 (ga K "Clash") [("spot", v)] ∧ ErD H' e1 (ga K "Gap") [("spot", v)] ∧ ErD H' e2 (ga K "Rewritten") [("spot", v)], ?_, ?_⟩
    · refine ⟨v, rfl, v, rfl, fun e0 G0 n0 m0 r0 => ⟨v, rfl, v, rfl, fun e1 G1 n1 m1 r1 => ⟨v, rfl, v, rfl, fun e2 G2 n2 m2 r2 => ⟨.ref e0, .ref e1, .ref e2, rfl, ?_⟩⟩⟩⟩
      exact ⟨e0, e1, e2, rfl, ((m0.trans m1).trans m2), r0.same (m1.trans m2), r1.same m2, r2.same (Same.refl _)⟩
    rintro _ H0 ⟨e0, e1, e2, rfl, s0, r0, r1, r2⟩
    refine ⟨fun σ' H' => ∃ e0 e1 e2 e3 e4 e5 e6 : Addr, σ' = [some v, some (.ref e0), some (.ref e1), some (.ref e2), some (.ref e3), some (.ref e4), some (.ref e5), some (.ref e6), none, none, none] ∧ Same H H' ∧ ErD H' e0 (ga K "Clash") [("spot", v)] ∧ ErD H' e1 (ga K "Gap") [("spot", v)] ∧ ErD H' e2 (ga K "Rewritten") [("spot", v)] ∧ ErD H' e3 (ga K "NoPlace") [("spot", v)] ∧ ErD H' e4 (ga K "NotNeeded") [("spot", v)] ∧ ErD H' e5 (ga K "NotPart") [("spot", v)] ∧ ErD H' e6 (ga K "BadTree") [("path", v)], ?_, ?_⟩
    · refine ⟨v, rfl, v, rfl, fun e3 G3 n3 m3 r3 => ⟨v, rfl, v, rfl, fun e4 G4 n4 m4 r4 => ⟨v, rfl, v, rfl, fun e5 G5 n5 m5 r5 => ⟨v, rfl, v, rfl, fun e6 G6 n6 m6 r6 => ⟨(by show 4 ≤ sizeLine; decide), fun p np => ?_⟩⟩⟩⟩⟩
      refine ⟨p, [.ref e3, .ref e4, .ref e5, .ref e6], rfl, .inl (.inl upd_same), rfl, _, _, rfl, _, _, rfl, _, _, rfl, _, _, rfl, rfl, ?_⟩
      exact ⟨e0, e1, e2, e3, e4, e5, e6, rfl, (((((s0.trans m3).trans m4).trans m5).trans m6).trans (sameUpd np)), r0.same ((((m3.trans m4).trans m5).trans m6).trans (sameUpd np)), r1.same ((((m3.trans m4).trans m5).trans m6).trans (sameUpd np)), r2.same ((((m3.trans m4).trans m5).trans m6).trans (sameUpd np)), r3.same (((m4.trans m5).trans m6).trans (sameUpd np)), r4.same ((m5.trans m6).trans (sameUpd np)), r5.same (m6.trans (sameUpd np)), r6.same (sameUpd np)⟩
    rintro _ H1 ⟨e0, e1, e2, e3, e4, e5, e6, rfl, s1, r0, r1, r2, r3, r4, r5, r6⟩
    refine ⟨fun σ' H' => ∃ e0 e1 e2 e3 e4 e5 e6 e7 e8 e9 : Addr, σ' = [some v, some (.ref e0), some (.ref e1), some (.ref e2), some (.ref e3), some (.ref e4), some (.ref e5), some (.ref e6), some (.ref e7), some (.ref e8), some (.ref e9)] ∧ Same H H' ∧ ErD H' e0 (ga K "Clash") [("spot", v)] ∧ ErD H' e1 (ga K "Gap") [("spot", v)] ∧ ErD H' e2 (ga K "Rewritten") [("spot", v)] ∧ ErD H' e3 (ga K "NoPlace") [("spot", v)] ∧ ErD H' e4 (ga K "NotNeeded") [("spot", v)] ∧ ErD H' e5 (ga K "NotPart") [("spot", v)] ∧ ErD H' e6 (ga K "BadTree") [("path", v)] ∧ ErD H' e7 (ga K "NotSettled") [("key", v)] ∧ ErD H' e8 (ga K "NotOpen") [("key", v)] ∧ ErD H' e9 (ga K "NotCause") [("cause", v)], ?_, ?_⟩
    · refine ⟨v, rfl, v, rfl, fun e7 G7 n7 m7 r7 => ⟨v, rfl, v, rfl, fun e8 G8 n8 m8 r8 => ⟨v, rfl, v, rfl, fun e9 G9 n9 m9 r9 => ⟨.ref e7, .ref e8, .ref e9, rfl, ?_⟩⟩⟩⟩
      exact ⟨e0, e1, e2, e3, e4, e5, e6, e7, e8, e9, rfl, (((s1.trans m7).trans m8).trans m9), r0.same ((m7.trans m8).trans m9), r1.same ((m7.trans m8).trans m9), r2.same ((m7.trans m8).trans m9), r3.same ((m7.trans m8).trans m9), r4.same ((m7.trans m8).trans m9), r5.same ((m7.trans m8).trans m9), r6.same ((m7.trans m8).trans m9), r7.same (m8.trans m9), r8.same m9, r9.same (Same.refl _)⟩
    rintro _ H2 ⟨e0, e1, e2, e3, e4, e5, e6, e7, e8, e9, rfl, s2, r0, r1, r2, r3, r4, r5, r6, r7, r8, r9⟩
    refine ⟨.ref e0, rfl, .ref e0, rfl, e0, ga K "Clash", _, v, rfl, r0.same (Same.refl _), c0.xc, c0.no, rfl, (by show 2 ≤ sizeLine; decide), fun t0 T0 w0 k0 u0 => ⟨.ref e1, rfl, .ref e1, rfl, e1, ga K "Gap", _, v, rfl, r1.same k0, c1.xc, c1.no, rfl, (by show 2 ≤ sizeLine; decide), fun t1 T1 w1 k1 u1 => ⟨.ref e2, rfl, .ref e2, rfl, e2, ga K "Rewritten", _, v, rfl, r2.same (k0.trans k1), c2.xc, c2.no, rfl, (by show 2 ≤ sizeLine; decide), fun t2 T2 w2 k2 u2 => ⟨.ref e3, rfl, .ref e3, rfl, e3, ga K "NoPlace", _, v, rfl, r3.same ((k0.trans k1).trans k2), c3.xc, c3.no, rfl, (by show 2 ≤ sizeLine; decide), fun t3 T3 w3 k3 u3 => ⟨.ref e4, rfl, .ref e4, rfl, e4, ga K "NotNeeded", _, v, rfl, r4.same (((k0.trans k1).trans k2).trans k3), c4.xc, c4.no, rfl, (by show 2 ≤ sizeLine; decide), fun t4 T4 w4 k4 u4 => ⟨.ref e5, rfl, .ref e5, rfl, e5, ga K "NotPart", _, v, rfl, r5.same ((((k0.trans k1).trans k2).trans k3).trans k4), c5.xc, c5.no, rfl, (by show 2 ≤ sizeLine; decide), fun t5 T5 w5 k5 u5 => ⟨.ref e6, rfl, .ref e6, rfl, e6, ga K "BadTree", _, v, rfl, r6.same (((((k0.trans k1).trans k2).trans k3).trans k4).trans k5), c6.xc, c6.no, rfl, (by show 2 ≤ sizeLine; decide), fun t6 T6 w6 k6 u6 => ⟨.ref e7, rfl, .ref e7, rfl, e7, ga K "NotSettled", _, v, rfl, r7.same ((((((k0.trans k1).trans k2).trans k3).trans k4).trans k5).trans k6), c7.xc, c7.no, rfl, (by show 2 ≤ sizeLine; decide), fun t7 T7 w7 k7 u7 => ⟨.ref e8, rfl, .ref e8, rfl, e8, ga K "NotOpen", _, v, rfl, r8.same (((((((k0.trans k1).trans k2).trans k3).trans k4).trans k5).trans k6).trans k7), c8.xc, c8.no, rfl, (by show 2 ≤ sizeLine; decide), fun t8 T8 w8 k8 u8 => ⟨.ref e9, rfl, .ref e9, rfl, e9, ga K "NotCause", _, v, rfl, r9.same ((((((((k0.trans k1).trans k2).trans k3).trans k4).trans k5).trans k6).trans k7).trans k8), c9.xc, c9.no, rfl, (by show 2 ≤ sizeLine; decide), fun t9 T9 w9 k9 u9 => ⟨(by show 10 ≤ sizeLine; decide), fun l Hl nl kl ul => ?_⟩⟩⟩⟩⟩⟩⟩⟩⟩⟩⟩
    refine q l [t0, t1, t2, t3, t4, t5, t6, t7, t8, t9] Hl (((((((((((s2.trans k0).trans k1).trans k2).trans k3).trans k4).trans k5).trans k6).trans k7).trans k8).trans k9).trans kl) ul rfl (fun i t ht => ?_)
    match i, ht with
    | 0, ht => cases ht; exact ⟨e0, (((((((((k1.trans k2).trans k3).trans k4).trans k5).trans k6).trans k7).trans k8).trans k9).trans kl) _ _ u0, .inr ⟨_, r0.same ((((((((((k0.trans k1).trans k2).trans k3).trans k4).trans k5).trans k6).trans k7).trans k8).trans k9).trans kl)⟩⟩
    | 1, ht => cases ht; exact ⟨e1, ((((((((k2.trans k3).trans k4).trans k5).trans k6).trans k7).trans k8).trans k9).trans kl) _ _ u1, .inr ⟨_, r1.same ((((((((((k0.trans k1).trans k2).trans k3).trans k4).trans k5).trans k6).trans k7).trans k8).trans k9).trans kl)⟩⟩
    | 2, ht => cases ht; exact ⟨e2, (((((((k3.trans k4).trans k5).trans k6).trans k7).trans k8).trans k9).trans kl) _ _ u2, .inr ⟨_, r2.same ((((((((((k0.trans k1).trans k2).trans k3).trans k4).trans k5).trans k6).trans k7).trans k8).trans k9).trans kl)⟩⟩
    | 3, ht => cases ht; exact ⟨e3, ((((((k4.trans k5).trans k6).trans k7).trans k8).trans k9).trans kl) _ _ u3, .inr ⟨_, r3.same ((((((((((k0.trans k1).trans k2).trans k3).trans k4).trans k5).trans k6).trans k7).trans k8).trans k9).trans kl)⟩⟩
    | 4, ht => cases ht; exact ⟨e4, (((((k5.trans k6).trans k7).trans k8).trans k9).trans kl) _ _ u4, .inr ⟨_, r4.same ((((((((((k0.trans k1).trans k2).trans k3).trans k4).trans k5).trans k6).trans k7).trans k8).trans k9).trans kl)⟩⟩
    | 5, ht => cases ht; exact ⟨e5, ((((k6.trans k7).trans k8).trans k9).trans kl) _ _ u5, .inr ⟨_, r5.same ((((((((((k0.trans k1).trans k2).trans k3).trans k4).trans k5).trans k6).trans k7).trans k8).trans k9).trans kl)⟩⟩
    | 6, ht => cases ht; exact ⟨e6, (((k7.trans k8).trans k9).trans kl) _ _ u6, .inr ⟨_, r6.same ((((((((((k0.trans k1).trans k2).trans k3).trans k4).trans k5).trans k6).trans k7).trans k8).trans k9).trans kl)⟩⟩
    | 7, ht => cases ht; exact ⟨e7, ((k8.trans k9).trans kl) _ _ u7, .inr ⟨_, r7.same ((((((((((k0.trans k1).trans k2).trans k3).trans k4).trans k5).trans k6).trans k7).trans k8).trans k9).trans kl)⟩⟩
    | 8, ht => cases ht; exact ⟨e8, (k9.trans kl) _ _ u8, .inr ⟨_, r8.same ((((((((((k0.trans k1).trans k2).trans k3).trans k4).trans k5).trans k6).trans k7).trans k8).trans k9).trans kl)⟩⟩
    | 9, ht => cases ht; exact ⟨e9, kl _ _ u9, .inr ⟨_, r9.same ((((((((((k0.trans k1).trans k2).trans k3).trans k4).trans k5).trans k6).trans k7).trans k8).trans k9).trans kl)⟩⟩

theorem scOthers : FnScope ["_law_a", "_law_one", "_law_two", "_law_three", "_law_four", "_law_five", "_law_six", "_law_seven", "_law_eight", "_law_nine", "_law_ten", "_law_last"] ["_law_a"] (defScope sOthers) := ⟨rfl, rfl, rfl, by decide +kernel, rfl, by decide +kernel, by decide +kernel⟩
theorem okOthers {k : Nat} (F : FnP K "_law_with_others" sOthers f fd) (C : C1s P w K mg base) : FnOk P w K mg base CX0 (k + 3) f fd ["_law_a"] (spMany K 10 11) := by
  have c0 : Cl1 P w K mg base "NoTarget" (ga K "NoTarget") "name" := C.ok ("NoTarget", "name") (by decide +kernel)
  have c1 : Cl1 P w K mg base "NotSource" (ga K "NotSource") "name" := C.ok ("NotSource", "name") (by decide +kernel)
  have c2 : Cl1 P w K mg base "Mismatch" (ga K "Mismatch") "name" := C.ok ("Mismatch", "name") (by decide +kernel)
  have c3 : Cl1 P w K mg base "Taken" (ga K "Taken") "name" := C.ok ("Taken", "name") (by decide +kernel)
  have c4 : Cl1 P w K mg base "Stuck" (ga K "Stuck") "ring" := C.ok ("Stuck", "ring") (by decide +kernel)
  have c5 : Cl1 P w K mg base "BadLine" (ga K "BadLine") "line" := C.ok ("BadLine", "line") (by decide +kernel)
  have c6 : Cl1 P w K mg base "BadKind" (ga K "BadKind") "line" := C.ok ("BadKind", "line") (by decide +kernel)
  have c7 : Cl1 P w K mg base "NotFresh" (ga K "NotFresh") "words" := C.ok ("NotFresh", "words") (by decide +kernel)
  have c8 : Cl1 P w K mg base "Conflict" (ga K "Conflict") "conflicts" := C.ok ("Conflict", "conflicts") (by decide +kernel)
  have c9 : Cl1 P w K mg base "Failed" (ga K "Failed") "path" := C.ok ("Failed", "path") (by decide +kernel)
  have c10 : Cl1 P w K mg base "BadEntry" (ga K "BadEntry") "entry" := C.ok ("BadEntry", "entry") (by decide +kernel)
  refine F.ok scOthers (fun vs H Q E h => ?_) (fun cdv A outer s H vs Q E hr h => ?_)
  · obtain ⟨v, rfl, _⟩ := h
    rfl
  · obtain ⟨v, rfl, q⟩ := h
    have hr1 : Room 2 _ := hr.mono (by omega)
    refine ⟨_, PSs.nox (C8.pss_cut (ps_asg (pe_tup (pa_cons (peMk1 c0 hr1 (by rfl) (pa_cons (pv 0) pa_nil)) (pa_cons (peMk1 c1 hr1 (by rfl) (pa_cons (pv 0) pa_nil)) (pa_cons (peMk1 c2 hr1 (by rfl) (pa_cons (pv 0) pa_nil)) (pa_cons (peMk1 c3 hr1 (by rfl) (pa_cons (pv 0) pa_nil)) pa_nil))))) (pg_tup rfl (pgs_cons (pg_name (i := 1) scOthers.nd rfl (.inl rfl)) (pgs_cons (pg_name (i := 2) scOthers.nd rfl (.inl rfl)) (pgs_cons (pg_name (i := 3) scOthers.nd rfl (.inl rfl)) (pgs_cons (pg_name (i := 4) scOthers.nd rfl (.inl rfl)) pgs_nil)))))) (C8.pss_cut (ps_asg (pe_tup (pa_cons (peMk1 c4 hr1 (by rfl) (pa_cons (pv 0) pa_nil)) (pa_cons (peMk1 c5 hr1 (by rfl) (pa_cons (pv 0) pa_nil)) (pa_cons (peMk1 c6 hr1 (by rfl) (pa_cons (pv 0) pa_nil)) (pa_cons (peMk1 c7 hr1 (by rfl) (pa_cons (pv 0) pa_nil)) pa_nil))))) (pg_tup rfl (pgs_cons (pg_name (i := 5) scOthers.nd rfl (.inl rfl)) (pgs_cons (pg_name (i := 6) scOthers.nd rfl (.inl rfl)) (pgs_cons (pg_name (i := 7) scOthers.nd rfl (.inl rfl)) (pgs_cons (pg_name (i := 8) scOthers.nd rfl (.inl rfl)) pgs_nil)))))) (C8.pss_cut (ps_par3 (i := 9) (j := 10) (l := 11) rfl scOthers.nd rfl rfl rfl (by decide) (by decide) (by decide) rfl rfl rfl (pa_cons (peMk1 c8 hr1 (by rfl) (pa_cons (pv 0) pa_nil)) (pa_cons (peMk1 c9 hr1 (by rfl) (pa_cons (pv 0) pa_nil)) (pa_cons (peMk1 c10 hr1 (by rfl) (pa_cons (pv 0) pa_nil)) pa_nil))) (by rfl)) (pss_one (ps_ret (peLstA (pa_cons (peTupA (pa_cons (pv 1) (pa_cons (peXfld (f := "name") (pv 1)) pa_nil))) (pa_cons (peTupA (pa_cons (pv 2) (pa_cons (peXfld (f := "name") (pv 2)) pa_nil))) (pa_cons (peTupA (pa_cons (pv 3) (pa_cons (peXfld (f := "name") (pv 3)) pa_nil))) (pa_cons (peTupA (pa_cons (pv 4) (pa_cons (peXfld (f := "name") (pv 4)) pa_nil))) (pa_cons (peTupA (pa_cons (pv 5) (pa_cons (peXfld (f := "ring") (pv 5)) pa_nil))) (pa_cons (peTupA (pa_cons (pv 6) (pa_cons (peXfld (f := "line") (pv 6)) pa_nil))) (pa_cons (peTupA (pa_cons (pv 7) (pa_cons (peXfld (f := "line") (pv 7)) pa_nil))) (pa_cons (peTupA (pa_cons (pv 8) (pa_cons (peXfld (f := "words") (pv 8)) pa_nil))) (pa_cons (peTupA (pa_cons (pv 9) (pa_cons (peXfld (f := "conflicts") (pv 9)) pa_nil))) (pa_cons (peTupA (pa_cons (pv 10) (pa_cons (peXfld (f := "path") (pv 10)) pa_nil))) (pa_cons (peTupA (pa_cons (pv 11) (pa_cons (peXfld (f := "entry") (pv 11)) pa_nil))) pa_nil))))))))))))))))), ?_⟩
    refine ⟨fun σ' H' => ∃ e0 e1 e2 e3 : Addr, σ' = [some v, some (.ref e0), some (.ref e1), some (.ref e2), some (.ref e3), none, none, none, none, none, none, none] ∧ Same H H' ∧ ErD H' e0 (ga K "NoTarget") [("name", v)] ∧ ErD H' e1 (ga K "NotSource") [("name", v)] ∧ ErD H' e2 (ga K "Mismatch") [("name", v)] ∧ ErD H' e3 (ga K "Taken") [("name", v)], ?_, ?_⟩
    · refine ⟨v, rfl, v, rfl, fun e0 G0 n0 m0 r0 => ⟨v, rfl, v, rfl, fun e1 G1 n1 m1 r1 => ⟨v, rfl, v, rfl, fun e2 G2 n2 m2 r2 => ⟨v, rfl, v, rfl, fun e3 G3 n3 m3 r3 => ⟨(by show 4 ≤ sizeLine; decide), fun p np => ?_⟩⟩⟩⟩⟩
      refine ⟨p, [.ref e0, .ref e1, .ref e2, .ref e3], rfl, .inl (.inl upd_same), rfl, _, _, rfl, _, _, rfl, _, _, rfl, _, _, rfl, rfl, ?_⟩
      exact ⟨e0, e1, e2, e3, rfl, ((((m0.trans m1).trans m2).trans m3).trans (sameUpd np)), r0.same (((m1.trans m2).trans m3).trans (sameUpd np)), r1.same ((m2.trans m3).trans (sameUpd np)), r2.same (m3.trans (sameUpd np)), r3.same (sameUpd np)⟩
    rintro _ H0 ⟨e0, e1, e2, e3, rfl, s0, r0, r1, r2, r3⟩
    refine ⟨fun σ' H' => ∃ e0 e1 e2 e3 e4 e5 e6 e7 : Addr, σ' = [some v, some (.ref e0), some (.ref e1), some (.ref e2), some (.ref e3), some (.ref e4), some (.ref e5), some (.ref e6), some (.ref e7), none, none, none] ∧ Same H H' ∧ ErD H' e0 (ga K "NoTarget") [("name", v)] ∧ ErD H' e1 (ga K "NotSource") [("name", v)] ∧ ErD H' e2 (ga K "Mismatch") [("name", v)] ∧ ErD H' e3 (ga K "Taken") [("name", v)] ∧ ErD H' e4 (ga K "Stuck") [("ring", v)] ∧ ErD H' e5 (ga K "BadLine") [("line", v)] ∧ ErD H' e6 (ga K "BadKind") [("line", v)] ∧ ErD H' e7 (ga K "NotFresh") [("words", v)], ?_, ?_⟩
    · refine ⟨v, rfl, v, rfl, fun e4 G4 n4 m4 r4 => ⟨v, rfl, v, rfl, fun e5 G5 n5 m5 r5 => ⟨v, rfl, v, rfl, fun e6 G6 n6 m6 r6 => ⟨v, rfl, v, rfl, fun e7 G7 n7 m7 r7 => ⟨(by show 4 ≤ sizeLine; decide), fun p np => ?_⟩⟩⟩⟩⟩
      refine ⟨p, [.ref e4, .ref e5, .ref e6, .ref e7], rfl, .inl (.inl upd_same), rfl, _, _, rfl, _, _, rfl, _, _, rfl, _, _, rfl, rfl, ?_⟩
      exact ⟨e0, e1, e2, e3, e4, e5, e6, e7, rfl, (((((s0.trans m4).trans m5).trans m6).trans m7).trans (sameUpd np)), r0.same ((((m4.trans m5).trans m6).trans m7).trans (sameUpd np)), r1.same ((((m4.trans m5).trans m6).trans m7).trans (sameUpd np)), r2.same ((((m4.trans m5).trans m6).trans m7).trans (sameUpd np)), r3.same ((((m4.trans m5).trans m6).trans m7).trans (sameUpd np)), r4.same (((m5.trans m6).trans m7).trans (sameUpd np)), r5.same ((m6.trans m7).trans (sameUpd np)), r6.same (m7.trans (sameUpd np)), r7.same (sameUpd np)⟩
    rintro _ H1 ⟨e0, e1, e2, e3, e4, e5, e6, e7, rfl, s1, r0, r1, r2, r3, r4, r5, r6, r7⟩
    refine ⟨fun σ' H' => ∃ e0 e1 e2 e3 e4 e5 e6 e7 e8 e9 e10 : Addr, σ' = [some v, some (.ref e0), some (.ref e1), some (.ref e2), some (.ref e3), some (.ref e4), some (.ref e5), some (.ref e6), some (.ref e7), some (.ref e8), some (.ref e9), some (.ref e10)] ∧ Same H H' ∧ ErD H' e0 (ga K "NoTarget") [("name", v)] ∧ ErD H' e1 (ga K "NotSource") [("name", v)] ∧ ErD H' e2 (ga K "Mismatch") [("name", v)] ∧ ErD H' e3 (ga K "Taken") [("name", v)] ∧ ErD H' e4 (ga K "Stuck") [("ring", v)] ∧ ErD H' e5 (ga K "BadLine") [("line", v)] ∧ ErD H' e6 (ga K "BadKind") [("line", v)] ∧ ErD H' e7 (ga K "NotFresh") [("words", v)] ∧ ErD H' e8 (ga K "Conflict") [("conflicts", v)] ∧ ErD H' e9 (ga K "Failed") [("path", v)] ∧ ErD H' e10 (ga K "BadEntry") [("entry", v)], ?_, ?_⟩
    · refine ⟨v, rfl, v, rfl, fun e8 G8 n8 m8 r8 => ⟨v, rfl, v, rfl, fun e9 G9 n9 m9 r9 => ⟨v, rfl, v, rfl, fun e10 G10 n10 m10 r10 => ⟨.ref e8, .ref e9, .ref e10, rfl, ?_⟩⟩⟩⟩
      exact ⟨e0, e1, e2, e3, e4, e5, e6, e7, e8, e9, e10, rfl, (((s1.trans m8).trans m9).trans m10), r0.same ((m8.trans m9).trans m10), r1.same ((m8.trans m9).trans m10), r2.same ((m8.trans m9).trans m10), r3.same ((m8.trans m9).trans m10), r4.same ((m8.trans m9).trans m10), r5.same ((m8.trans m9).trans m10), r6.same ((m8.trans m9).trans m10), r7.same ((m8.trans m9).trans m10), r8.same (m9.trans m10), r9.same m10, r10.same (Same.refl _)⟩
    rintro _ H2 ⟨e0, e1, e2, e3, e4, e5, e6, e7, e8, e9, e10, rfl, s2, r0, r1, r2, r3, r4, r5, r6, r7, r8, r9, r10⟩
    refine ⟨.ref e0, rfl, .ref e0, rfl, e0, ga K "NoTarget", _, v, rfl, r0.same (Same.refl _), c0.xc, c0.no, rfl, (by show 2 ≤ sizeLine; decide), fun t0 T0 w0 k0 u0 => ⟨.ref e1, rfl, .ref e1, rfl, e1, ga K "NotSource", _, v, rfl, r1.same k0, c1.xc, c1.no, rfl, (by show 2 ≤ sizeLine; decide), fun t1 T1 w1 k1 u1 => ⟨.ref e2, rfl, .ref e2, rfl, e2, ga K "Mismatch", _, v, rfl, r2.same (k0.trans k1), c2.xc, c2.no, rfl, (by show 2 ≤ sizeLine; decide), fun t2 T2 w2 k2 u2 => ⟨.ref e3, rfl, .ref e3, rfl, e3, ga K "Taken", _, v, rfl, r3.same ((k0.trans k1).trans k2), c3.xc, c3.no, rfl, (by show 2 ≤ sizeLine; decide), fun t3 T3 w3 k3 u3 => ⟨.ref e4, rfl, .ref e4, rfl, e4, ga K "Stuck", _, v, rfl, r4.same (((k0.trans k1).trans k2).trans k3), c4.xc, c4.no, rfl, (by show 2 ≤ sizeLine; decide), fun t4 T4 w4 k4 u4 => ⟨.ref e5, rfl, .ref e5, rfl, e5, ga K "BadLine", _, v, rfl, r5.same ((((k0.trans k1).trans k2).trans k3).trans k4), c5.xc, c5.no, rfl, (by show 2 ≤ sizeLine; decide), fun t5 T5 w5 k5 u5 => ⟨.ref e6, rfl, .ref e6, rfl, e6, ga K "BadKind", _, v, rfl, r6.same (((((k0.trans k1).trans k2).trans k3).trans k4).trans k5), c6.xc, c6.no, rfl, (by show 2 ≤ sizeLine; decide), fun t6 T6 w6 k6 u6 => ⟨.ref e7, rfl, .ref e7, rfl, e7, ga K "NotFresh", _, v, rfl, r7.same ((((((k0.trans k1).trans k2).trans k3).trans k4).trans k5).trans k6), c7.xc, c7.no, rfl, (by show 2 ≤ sizeLine; decide), fun t7 T7 w7 k7 u7 => ⟨.ref e8, rfl, .ref e8, rfl, e8, ga K "Conflict", _, v, rfl, r8.same (((((((k0.trans k1).trans k2).trans k3).trans k4).trans k5).trans k6).trans k7), c8.xc, c8.no, rfl, (by show 2 ≤ sizeLine; decide), fun t8 T8 w8 k8 u8 => ⟨.ref e9, rfl, .ref e9, rfl, e9, ga K "Failed", _, v, rfl, r9.same ((((((((k0.trans k1).trans k2).trans k3).trans k4).trans k5).trans k6).trans k7).trans k8), c9.xc, c9.no, rfl, (by show 2 ≤ sizeLine; decide), fun t9 T9 w9 k9 u9 => ⟨.ref e10, rfl, .ref e10, rfl, e10, ga K "BadEntry", _, v, rfl, r10.same (((((((((k0.trans k1).trans k2).trans k3).trans k4).trans k5).trans k6).trans k7).trans k8).trans k9), c10.xc, c10.no, rfl, (by show 2 ≤ sizeLine; decide), fun t10 T10 w10 k10 u10 => ⟨(by show 11 ≤ sizeLine; decide), fun l Hl nl kl ul => ?_⟩⟩⟩⟩⟩⟩⟩⟩⟩⟩⟩⟩
    refine q l [t0, t1, t2, t3, t4, t5, t6, t7, t8, t9, t10] Hl ((((((((((((s2.trans k0).trans k1).trans k2).trans k3).trans k4).trans k5).trans k6).trans k7).trans k8).trans k9).trans k10).trans kl) ul rfl (fun i t ht => ?_)
    match i, ht with
    | 0, ht => cases ht; exact ⟨e0, ((((((((((k1.trans k2).trans k3).trans k4).trans k5).trans k6).trans k7).trans k8).trans k9).trans k10).trans kl) _ _ u0, .inr ⟨_, r0.same (((((((((((k0.trans k1).trans k2).trans k3).trans k4).trans k5).trans k6).trans k7).trans k8).trans k9).trans k10).trans kl)⟩⟩
    | 1, ht => cases ht; exact ⟨e1, (((((((((k2.trans k3).trans k4).trans k5).trans k6).trans k7).trans k8).trans k9).trans k10).trans kl) _ _ u1, .inr ⟨_, r1.same (((((((((((k0.trans k1).trans k2).trans k3).trans k4).trans k5).trans k6).trans k7).trans k8).trans k9).trans k10).trans kl)⟩⟩
    | 2, ht => cases ht; exact ⟨e2, ((((((((k3.trans k4).trans k5).trans k6).trans k7).trans k8).trans k9).trans k10).trans kl) _ _ u2, .inr ⟨_, r2.same (((((((((((k0.trans k1).trans k2).trans k3).trans k4).trans k5).trans k6).trans k7).trans k8).trans k9).trans k10).trans kl)⟩⟩
    | 3, ht => cases ht; exact ⟨e3, (((((((k4.trans k5).trans k6).trans k7).trans k8).trans k9).trans k10).trans kl) _ _ u3, .inr ⟨_, r3.same (((((((((((k0.trans k1).trans k2).trans k3).trans k4).trans k5).trans k6).trans k7).trans k8).trans k9).trans k10).trans kl)⟩⟩
    | 4, ht => cases ht; exact ⟨e4, ((((((k5.trans k6).trans k7).trans k8).trans k9).trans k10).trans kl) _ _ u4, .inr ⟨_, r4.same (((((((((((k0.trans k1).trans k2).trans k3).trans k4).trans k5).trans k6).trans k7).trans k8).trans k9).trans k10).trans kl)⟩⟩
    | 5, ht => cases ht; exact ⟨e5, (((((k6.trans k7).trans k8).trans k9).trans k10).trans kl) _ _ u5, .inr ⟨_, r5.same (((((((((((k0.trans k1).trans k2).trans k3).trans k4).trans k5).trans k6).trans k7).trans k8).trans k9).trans k10).trans kl)⟩⟩
    | 6, ht => cases ht; exact ⟨e6, ((((k7.trans k8).trans k9).trans k10).trans kl) _ _ u6, .inr ⟨_, r6.same (((((((((((k0.trans k1).trans k2).trans k3).trans k4).trans k5).trans k6).trans k7).trans k8).trans k9).trans k10).trans kl)⟩⟩
    | 7, ht => cases ht; exact ⟨e7, (((k8.trans k9).trans k10).trans kl) _ _ u7, .inr ⟨_, r7.same (((((((((((k0.trans k1).trans k2).trans k3).trans k4).trans k5).trans k6).trans k7).trans k8).trans k9).trans k10).trans kl)⟩⟩
    | 8, ht => cases ht; exact ⟨e8, ((k9.trans k10).trans kl) _ _ u8, .inr ⟨_, r8.same (((((((((((k0.trans k1).trans k2).trans k3).trans k4).trans k5).trans k6).trans k7).trans k8).trans k9).trans k10).trans kl)⟩⟩
    | 9, ht => cases ht; exact ⟨e9, (k10.trans kl) _ _ u9, .inr ⟨_, r9.same (((((((((((k0.trans k1).trans k2).trans k3).trans k4).trans k5).trans k6).trans k7).trans k8).trans k9).trans k10).trans kl)⟩⟩
    | 10, ht => cases ht; exact ⟨e10, kl _ _ u10, .inr ⟨_, r10.same (((((((((((k0.trans k1).trans k2).trans k3).trans k4).trans k5).trans k6).trans k7).trans k8).trans k9).trans k10).trans kl)⟩⟩

end
end K1

set_option Elab.async false
set_option linter.all false
set_option maxRecDepth 100000
set_option maxHeartbeats 4000000
namespace KX
open PySem PySem.Spec PyProof.Rows L2
/-- what a suite under «as n» (n in slot i) leaves: the name is gone behind it -/
def asEnds (i : Nat) (D : Ends) : Ends := { nx := fun σ' H' => D.nx (σ'.set i none) H', rt := D.rt, bk := fun σ' H' => D.bk (σ'.set i none) H', ct := fun σ' H' => D.ct (σ'.set i none) H' }
def asSuite (i : Nat) (ts : Addr → Value → Option Addr → TS) : Addr → Value → Option Addr → TS := fun a cls d D σ H => ts a cls d (asEnds i D) (σ.set i (some (.ref a))) H
/-- except clauses, with a name or without -/
inductive Mix (X : Cx) : List ExceptHandler → List (Value × (Addr → Value → Option Addr → TS)) → Prop
  | nil : Mix X [] []
  | bare {x : Str} {c : Value} {ts : Addr → Value → Option Addr → TS} {b : Stmt} {suite : List Stmt} {np q : Pos} {hds : List ExceptHandler} {l : List (Value × (Addr → Value → Option Addr → TS))} (hc : Names X x c)
      (hsu : ∀ (a : Addr) (oe : Obj) (cls : Value) (d : Option Addr) (pn : List (Addr × Obj)), Zc cls d oe → (∃ vs, oe.data = .fields vs) → PSs (X.suite a ((a, oe) :: pn)) (b :: suite) (ts a cls d)) (r : Mix X hds l) :
      Mix X (.ExceptHandler (some (.Name x np)) none (b :: suite) q :: hds) ((c, ts) :: l)
  | named {x n : Str} {i : Nat} {c : Value} {ts : Addr → Value → Option Addr → TS} {b : Stmt} {suite : List Stmt} {np q : Pos} {hds : List ExceptHandler} {l : List (Value × (Addr → Value → Option Addr → TS))} (hc : Names X x c)
      (hN : X.N.Nodup) (hi : X.N[i]? = some n) (hln : X.env.kindOf n = some .local)
      (hsu : ∀ (a : Addr) (oe : Obj) (cls : Value) (d : Option Addr) (pn : List (Addr × Obj)), Zc cls d oe → (∃ vs, oe.data = .fields vs) → PSs (X.suite a ((a, oe) :: pn)) (b :: suite) (ts a cls d)) (r : Mix X hds l) :
      Mix X (.ExceptHandler (some (.Name x np)) (some n) (b :: suite) q :: hds) ((c, asSuite i ts) :: l)
section
variable {X : Cx} {body : List Stmt} {h0 : ExceptHandler} {hds : List ExceptHandler} {l : List (Value × (Addr → Value → Option Addr → TS))} {pos : Pos} {tb : WX → TS} {Wout : WX}
theorem psTryMix (hs : X.stack = X.env :: X.outer) (hf : X.env.frame = some X.env.locals) (tk : Takes X Wout)
    (hb : ∀ (W : WX) (pn : List (Addr × Obj)) (xe : Value → Shared → Prop), Takes (X.tr pn xe) W → PassesOwn (model X.prog X.w) X.A X.env xe → PSs (X.tr pn xe) body (tb W))
    (hh : Mix X (h0 :: hds) l) : PS X (.Try body (h0 :: hds) [] [] pos) (fun D σ H => tb (wMany X.K Wout D l) D σ H) := by
  refine ⟨fun pins s σ H D I h => ?_⟩
  have ok := I.ok
  have frames : X.A.frames = some (X.env :: X.outer) := by
    rw [ok.frames, hs]
  refine wpAny_Try_except ?_
  have inner := hb (wMany X.K Wout D l) (X.pn ++ pins) (fun e s1 => wpAny (model X.prog X.w) X.A (noteFrame e X.env) (fun _ s2 =>
    wpAny (model X.prog X.w) X.A (setFlight e none) (fun _ s3 => wpAny (model X.prog X.w) X.A (handleBy e X.env (h0 :: hds)) (SP X pins D) X.xe s3) X.xe s2) X.xe s1)
  refine wpAny_mono ((inner (fun u s' xx => ?_) PassesOwn.looking).run [] s σ H D (I.toTry _) h) (fun f s1 hsp => ?_) (fun _ _ z => z)
  · obtain ⟨a, B, sI, pins', σ', H', cls, d, rfl, J', nb, up, sky, na, os, ag, w⟩ := xx
    have J : Inv X pins σ' H' sI := J'.ofTry ok
    have sky' : Sky B (X.env :: X.outer) a (Zc cls d) X.env.locals s'.heap := by
      rw [← hs]
      exact sky
    show wpAny (model X.prog X.w) X.A (noteFrame (.ref a) X.env) _ _ _
    refine Sky.land Zc.steady frames hf sky' fun h3 fl3 up3 => ?_
    have J3 : Inv X pins σ' H' { s' with heap := h3 } := J.landed nb fl3.1 (up.trans up3) os ag
    obtain ⟨oe3, vs3, he3, hz3, hd3⟩ := fl3.there
    have out : a ∉ frs (X.env :: X.outer) := fun hm => by
      obtain ⟨_, o', e', hnf⟩ := fl3.2.2.1.mem hm
      rw [he3] at e'
      cases e'
      exact hnf _ hd3
    have nL : a ≠ X.env.locals := fun z => out (List.mem_filterMap.mpr ⟨X.env, List.mem_cons_self, by rw [hf, z]⟩)
    have nF : a ∉ X.fs := fun hm => by
      obtain ⟨e, he, q⟩ := List.mem_filterMap.mp hm
      exact out (List.mem_filterMap.mpr ⟨e, List.mem_cons_of_mem _ he, q⟩)
    have S3 := J3.suite he3 hd3 na nL nF
    have LT : PySem.W.Looks (model X.prog X.w) h3 (typeOf (.ref a)) cls := fun A Q E s k q => wpAny_typeOf_ref (k _ _ he3) (by rw [hz3.1]; exact q)
    have asked : ∀ {x : Str} {c : Value} {np : Pos} {Q E : Value → Shared → Prop}, Names X x c → Q c { s' with heap := h3 } → wpAny (model X.prog X.w) (X.A.mark (some (.ref a))) (eval (.Name x np) X.env) Q E { s' with heap := h3 } := fun {x c np Q E} hc q => by
      obtain ⟨hg, hdbg, hm | ⟨hm, hv, hnn⟩⟩ := hc
      · exact ld_glob (X := X.suite a ((a, oe3) :: (X.pn ++ pins))) S3 hg hm q hdbg
      · exact ld_blt (X := X.suite a ((a, oe3) :: (X.pn ++ pins))) S3 hg hm hv q hnn hdbg
    have go : ∀ {hds' : List ExceptHandler} {l' : List (Value × (Addr → Value → Option Addr → TS))}, Mix X hds' l' → wMany X.K Wout D l' cls d σ' H' →
        wpAny (model X.prog X.w) X.A (handleBy (.ref a) X.env hds') (SP X pins D) X.xe { s' with heap := h3 } := by
      intro hds' l' hk
      induction hk with
      | nil =>
        intro w
        refine wpAny_handleBy_nil ?_
        obtain ⟨k1, k2, k3, oe, vs, T, oT, ts', he, hz, hd, h1, hr⟩ := id fl3
        unfold PySem.passOn
        refine wpAny_bind (wpAny_field he hd h1 ?_)
        rw [if_neg (show ¬ ((Value.ref T == Value.none) = true) from by simp)]
        have fin : wpAny (model X.prog X.w) X.A (setFlight (.ref a) X.env.frame) (fun _ s4 => wpAny (model X.prog X.w) X.A (throw (.ref a) : Sem Flow) (SP X pins D) X.xe s4) X.xe { s' with heap := h3 } := by
          rw [hf]
          refine HandSPX.setFlight_upZ fl3 fun h4 hh4 up4 => wpAny_throw (tk _ _ ?_)
          exact ⟨a, B, sI, pins, σ', H', cls, d, rfl, J, nb, (up.trans up3).trans up4, .inr (.inr (by rw [hs]; exact hh4)), na, os, ag, w⟩
        first
          | exact wpAny_bind (wpAny_pure (wpAny_bind fin))
          | exact wpAny_bind fin
      | @bare x c ts b suite np q hds2 l2 hc hsu r ih =>
        intro w
        obtain ⟨b, hb1, hyes, hno⟩ := w
        refine wpAny_handleBy_cons (codeAny_handlers_test ?_) (by intro q; cases q)
        have LM := PySem.W.exm_one (M := model X.prog X.w) (J3.kIn) LT hb1
        refine asked hc (LM.here ?_)
        cases b with
        | true =>
          refine codeAny_handlers_suite ?_
          refine HandSPX.lands_againZ fl3 fun h4 fl4 up4 => ?_
          have J4 : Inv X pins σ' H' { s' with heap := h4 } := J.landed nb fl4.1 ((up.trans up3).trans up4) os ag
          obtain ⟨oe4, vs4, he4, hz4, hd4⟩ := fl4.there
          have S4 := J4.suite he4 hd4 na nL nF
          refine wpAny_mono ((hsu a oe4 cls d (X.pn ++ pins) hz4 ⟨_, hd4⟩).run [] _ _ H' _ S4 (hyes rfl a na)) (fun f s6 hsp => ?_) (fun _ _ z => False.elim z)
          cases f with
          | ret u =>
            obtain ⟨v6, σ6, H6, S6, r6, q6⟩ := hsp
            exact ⟨_, _, _, S6.unsuite ok, r6, q6⟩
          | _ =>
            obtain ⟨σ6, H6, S6, q6⟩ := hsp
            exact ⟨_, _, S6.unsuite ok, q6⟩
        | false => exact ih (hno rfl)
      | @named x n i c ts b suite np q hds2 l2 hc hN hi hln hsu r ih =>
        intro w
        obtain ⟨b, hb1, hyes, hno⟩ := w
        refine wpAny_handleBy_cons (codeAny_handlers_test ?_) (by intro q; cases q)
        have LM := PySem.W.exm_one (M := model X.prog X.w) (J3.kIn) LT hb1
        refine asked hc (LM.here ?_)
        cases b with
        | true =>
          refine codeAny_handlers_suite_as ?_
          refine HandSPX.lands_againZ fl3 fun h4 fl4 up4 => ?_
          have J4 : Inv X pins σ' H' { s' with heap := h4 } := J.landed nb fl4.1 ((up.trans up3).trans up4) os ag
          obtain ⟨oe4, vs4, he4, hz4, hd4⟩ := fl4.there
          have S4 := J4.suite he4 hd4 na nL nF
          refine store_ok (X := X.suite a ((a, oe4) :: (X.pn ++ pins))) (v := .ref a) S4 hN hi (.inl hln) rfl (fun s5 S5 => ?_) (.inr hln)
          refine wpAny_mono ((hsu a oe4 cls d (X.pn ++ pins) hz4 ⟨_, hd4⟩).run [] s5 _ H' _ S5 (hyes rfl a na)) (fun f s6 hsp => ?_) (fun _ _ z => False.elim z)
          have fin : ∀ {σ6 : L2.St} {H6 : Hp} {Q : Shared → Prop}, Inv (X.suite a ((a, oe4) :: (X.pn ++ pins))) [] σ6 H6 s6 → (∀ s7, Inv X pins (σ6.set i none) H6 s7 → Q s7) →
              wpAny (model X.prog X.w) X.A (do bindName X.env n .none; unbindBehindTheSuite X.env n q) (fun _ s7 => Q s7) X.xe s6 := fun S6 hq => gone_ok (S6.unsuite ok) hN hi hln hq
          cases f with
          | ret u =>
            obtain ⟨v6, σ6, H6, S6, r6, q6⟩ := hsp
            exact fin S6 fun s7 J7 => ⟨_, _, _, J7, r6, q6⟩
          | next =>
            obtain ⟨σ6, H6, S6, q6⟩ := hsp
            exact fin S6 fun s7 J7 => ⟨_, _, J7, q6⟩
          | brk =>
            obtain ⟨σ6, H6, S6, q6⟩ := hsp
            exact fin S6 fun s7 J7 => ⟨_, _, J7, q6⟩
          | cont =>
            obtain ⟨σ6, H6, S6, q6⟩ := hsp
            exact fin S6 fun s7 J7 => ⟨_, _, J7, q6⟩
        | false => exact ih (hno rfl)
    exact go hh w
  · cases f with
    | ret u =>
      obtain ⟨v, σ', H', J', r, q⟩ := hsp
      exact ⟨v, σ', H', J'.ofTry ok, r, q⟩
    | next =>
      obtain ⟨σ', H', J', q⟩ := hsp
      exact wpAny_execs_nil ⟨σ', H', J'.ofTry ok, q⟩
    | brk =>
      obtain ⟨σ', H', J', q⟩ := hsp
      exact ⟨σ', H', J'.ofTry ok, q⟩
    | cont =>
      obtain ⟨σ', H', J', q⟩ := hsp
      exact ⟨σ', H', J'.ofTry ok, q⟩
end
end KX

set_option Elab.async false
set_option linter.all false
set_option maxRecDepth 100000
set_option maxHeartbeats 8000000
namespace K1
open PySem PySem.Spec PyProof.Rows L2 KX
open He (ga)
/-- what the law asks of the classes besides -/
structure Kx (K : PySem.W.Frag) (mg : Str → Option Value) : Prop where
  gb : mg "BuildError" = some (.ref (ga K "BuildError"))
  mKey : mg "KeyError" = none
  mVal : mg "ValueError" = none
  mIdx : mg "IndexError" = none
  mLk : mg "LookupError" = none
  kb : ∀ x ∈ cn.take 24, PySem.W.kitOne K (.ref (ga K x)) (.ref (ga K "BuildError")) = some true ∧ PySem.W.kitOne K (.ref (ga K x)) (.type "ValueError") = some true ∧ PySem.W.kitOne K (.ref (ga K x)) (.type "LookupError") = some false
  e1 : PySem.W.exmOne K (.ref (ga K "Stuck")) (.ref (ga K "Stuck")) = some true
  e2 : PySem.W.exmOne K (.ref (ga K "NotAsked")) (.ref (ga K "Stuck")) = some false
  e3 : PySem.W.exmOne K (.ref (ga K "NotAsked")) (.ref (ga K "BuildError")) = some false
  e4 : PySem.W.exmOne K (.ref (ga K "NotAsked")) (.type "KeyError") = some true
  e5 : PySem.W.exmOne K (.ref (ga K "Halted")) (.ref (ga K "Stuck")) = some false
  e6 : PySem.W.exmOne K (.ref (ga K "Halted")) (.ref (ga K "BuildError")) = some true
  n1 : PySem.W.kitOne K (.ref (ga K "NotAsked")) (.type "KeyError") = some true
  n2 : PySem.W.kitOne K (.ref (ga K "NoVersion")) (.type "IndexError") = some true
  n3 : PySem.W.kitOne K (.ref (ga K "NoVersion")) (.ref (ga K "BuildError")) = some false
  n4 : PySem.W.kitOne K (.ref (ga K "NotAsked")) (.ref (ga K "BuildError")) = some false
/-- isinstance(e, c), e the error that the suite holds -/
def rIsS (K : PySem.W.Frag) (a : Addr) (cls : Value) (d : Option Addr) : List V → Hp → VK → Prop := fun xs H Q => ∃ (D : Addr) (c : V) (cv : Value) (b : Bool), xs = [.ref a, c] ∧ cls = .ref D ∧ d = none ∧ XC K D ∧ ClsV c cv ∧ PySem.W.kitOne K (.ref D) cv = some b ∧ Q (.bl b) H
theorem callIsS {X : Cx} {a : Addr} {oe : Obj} {pn : List (Addr × Obj)} {cls : Value} {d : Option Addr} (hz : Zc cls d oe) (hf : ∃ vs, oe.data = .fields vs) : CallR (X.suite a ((a, oe) :: pn)) (.builtin "isinstance") (rIsS X.K a cls d) := by
  intro pins s σ H xs us Q I r h
  obtain ⟨D, c, cv, b, rfl, rfl, rfl, T, hc, ans, q⟩ := h
  obtain ⟨u1, u2, rfl, r1, r2⟩ := vals2 r
  have e2 := hc.eq r2
  subst e2
  cases (show u1 = Value.ref a from r1)
  obtain ⟨hget, _⟩ := I.pin (a, oe) (List.mem_append.mpr (.inl List.mem_cons_self))
  obtain ⟨vs, hv⟩ := hf
  have J : PySem.W.InstAt s.heap a oe D none := by
    refine ⟨hget, hz.1, ?_, ?_⟩
    · unfold PySem.W.notCls
      rw [hv]
    · rw [hz.2]
      trivial
  have hcl : (PySem.W.clsIn X.K D).isSome = true := by
    obtain ⟨cd, hcd, _⟩ := PySem.W.any_some T.hd
    rw [hcd]
    rfl
  exact PySem.W.kia_one (PySem.W.kitx_exc hcl T.ga T.gg T.ex T.cl T.gt T.st T.ob) I.kIn J ans (fun z => nomatch z) fun tk => ⟨.bl b, H, I.tok tk, rfl, q⟩
def spCaught (K : PySem.W.Frag) : Sp := fun vs H Q _ => ∃ (e : Addr) (x : Str), vs = [.ref e] ∧ x ∈ cn.take 24 ∧ Er H e (ga K x) ∧ Q (.bl true) H
theorem ifYes {c A B : Prop} [Decidable c] (hc : c) (h : A) : if decide c = true then A else B := by
  rw [if_pos (decide_eq_true hc)]
  exact h
theorem ifNo {c A B : Prop} [Decidable c] (hc : ¬ c) (h : B) : if decide c = true then A else B := by
  rw [if_neg (by rw [decide_eq_false hc]; exact Bool.false_ne_true)]
  exact h
/-- what raised(n, a) hands back -/
def RaisedAs (H : Hp) (a : V) (n : Int) (r : V) : Prop := (n = 0 ∧ ∃ p, r = .ref p ∧ H p = some (.tup [.str "stuck", a])) ∨ (n = 1 ∧ ∃ p, r = .ref p ∧ H p = some (.tup [.str "key"])) ∨
  (n = 2 ∧ ∃ p, r = .ref p ∧ H p = some (.tup [.str "base", .bl true])) ∨ (n = 3 ∧ r = .str "none")
def spRaised : Sp := fun vs H Q _ => ∃ (n : Int) (a : V), vs = [.int n, a] ∧ 0 ≤ n ∧ n < 4 ∧ ∀ r H', Same H H' → RaisedAs H' a n r → Q r H'
section
variable {P : Program} {w : World} {K : PySem.W.Frag} {mg : Str → Option Value} {base : Heap} {f : Addr} {fd : FuncData}
theorem scCaught : FnScope ["_law_e"] ["_law_e"] (defScope sCaught) := ⟨rfl, rfl, rfl, by decide +kernel, rfl, by decide +kernel, by decide +kernel⟩
theorem takeIn {x : Str} (h : x ∈ cn.take 24) : x ∈ cn := List.mem_of_mem_take h
theorem okCaught {k : Nat} (F : FnP K "_law_caught" sCaught f fd) (G : Ks K mg) (X : Kx K mg) (B : Bn mg) : FnOk P w K mg base CX0 (k + 1) f fd ["_law_e"] (spCaught K) := by
  refine F.ok scCaught (fun vs H Q E h => ?_) (fun cdv A outer s H vs Q E hr h => ?_)
  · obtain ⟨e, x, rfl, _⟩ := h
    rfl
  · obtain ⟨e, x, rfl, hx, he, q⟩ := h
    refine ⟨_, PSs.nox (pss_one (ps_ret (pe_and (pe_callB callIsX (by rfl) B.isi (by decide +kernel) (pa_cons (pv 0) (pa_cons (pe_glob (v := .ref (ga K "BuildError")) (by rfl) X.gb rfl) pa_nil)))
      (pe_and (pe_callB callIsX (by rfl) B.isi (by decide +kernel) (pa_cons (pv 0) (pa_cons (pe_bltn (v := .ty "ValueError") (by rfl) X.mVal (by decide +kernel) rfl) pa_nil)))
      (pe_one (pe_not (pe_callB callIsX (by rfl) B.isi (by decide +kernel) (pa_cons (pv 0) (pa_cons (pe_bltn (v := .ty "LookupError") (by rfl) X.mLk (by decide +kernel) rfl) pa_nil))))))))), ?_⟩
    obtain ⟨k1, k2, k3⟩ := X.kb x hx
    have T := G.xc x (takeIn hx)
    refine ⟨.ref e, rfl, e, ga K x, .ref (ga K "BuildError"), .ref (ga K "BuildError"), true, rfl, he, T, .own _, k1, true, rfl, ?_⟩
    refine ⟨.ref e, rfl, e, ga K x, .ty "ValueError", .type "ValueError", true, rfl, he, T, .ty _, k2, true, rfl, ?_⟩
    exact ⟨.ref e, rfl, e, ga K x, .ty "LookupError", .type "LookupError", false, rfl, he, T, .ty _, k3, false, rfl, q⟩
theorem scRaised : FnScope ["_law_form", "_law_a", "_law_found", "_law_e"] ["_law_form", "_law_a"] (defScope sRaised) := ⟨rfl, rfl, rfl, by decide +kernel, rfl, by decide +kernel, by decide +kernel⟩
theorem okRaised {k : Nat} (F : FnP K "_law_raised" sRaised f fd) (G : Ks K mg) (X : Kx K mg) (B : Bn mg) (C : C1s P w K mg base) (C0 : Cl0 K mg "Halted" (ga K "Halted")) : FnOk P w K mg base CX0 (k + 3) f fd ["_law_form", "_law_a"] spRaised := by
  have cS : Cl1 P w K mg base "Stuck" (ga K "Stuck") "ring" := C.ok ("Stuck", "ring") (by decide +kernel)
  have cN : Cl1 P w K mg base "NotAsked" (ga K "NotAsked") "key" := C.ok ("NotAsked", "key") (by decide +kernel)
  have xf : XfC K (ga K "Stuck") := ⟨cS.xc.ga, cS.xc.gg, cS.xc.ex, cS.xc.hd⟩
  refine F.ok scRaised (fun vs H Q E h => ?_) (fun cdv A outer s H vs Q E hr h => ?_)
  · obtain ⟨n, a, rfl, _⟩ := h
    rfl
  · obtain ⟨n, va, rfl, n0, n4, q⟩ := h
    have hr1 : Room 2 _ := hr.mono (by omega)
    refine ⟨_, PSs.nox (pss_cons (ps_set (i := 2) scRaised.nd rfl (.inl rfl) pe_str) (pss_cons (psTryMix rfl rfl takes0
        (fun W pn xe tk _ => (pss_cons (ps_if (pt_cmpR op_eq (pv 0) pe_int (nomark _)) (pss_one (ps_raise rfl tk (pmkX cS hr1 (by rfl) (pa_cons (pv 1) pa_nil)))) pss_nil) (pss_cons (ps_if (pt_cmpR op_eq (pv 0) pe_int (nomark _)) (pss_one (ps_raise rfl tk (pmkX cN hr1 (by rfl) (pa_cons (pv 1) pa_nil)))) pss_nil) (pss_one (ps_if (pt_cmpR op_eq (pv 0) pe_int (nomark _)) (pss_one (ps_raise rfl tk (pmk0 C0 (by rfl)))) pss_nil)))))
        (.named (i := 3) ⟨rfl, by decide, .inl cS.gm⟩ scRaised.nd rfl rfl (fun a oe cls d pn hz hf => (pss_one (ps_set (i := 2) scRaised.nd rfl (.inl rfl) (pe_tup (pa_cons (pe_str) (pa_cons (pe_xf xf cS.no hz hf (pv 3)) pa_nil))))))
        (.named (i := 3) ⟨rfl, by decide, .inl X.gb⟩ scRaised.nd rfl rfl (fun a oe cls d pn hz hf => (pss_one (ps_set (i := 2) scRaised.nd rfl (.inl rfl) (pe_tup (pa_cons (pe_str) (pa_cons (pe_callB (callIsS hz hf) (by rfl) B.isi (by decide +kernel) (pa_cons (pv 3) (pa_cons (pe_glob (v := .ref (ga K "Halted")) (by rfl) C0.gm rfl) pa_nil))) pa_nil))))))
        (.bare (c := .type "KeyError") ⟨rfl, by decide, .inr ⟨X.mKey, by decide +kernel, by decide⟩⟩ (fun a oe cls d pn hz hf => (pss_one (ps_set (i := 2) scRaised.nd rfl (.inl rfl) (pe_tup (pa_cons (pe_str) pa_nil))))) .nil)))) (pss_one (ps_ret (pv 2))))), ?_⟩
    have hc : n = 0 ∨ n = 1 ∨ n = 2 ∨ n = 3 := by omega
    rcases hc with h | h | h | h <;> subst h
    · refine ⟨.int 0, rfl, rfl, _, rfl, ifYes rfl ?_⟩
      refine ⟨va, rfl, va, rfl, fun d H2 sm hd => ⟨true, X.e1, fun _ a0 na => ?_, fun z => Bool.noConfusion z⟩⟩
      refine ⟨.ref a0, rfl, rfl, rfl, d, [("ring", va)], va, rfl, hd, rfl, (by show 2 ≤ sizeLine; decide), fun p np => ?_⟩
      exact ⟨.ref p, rfl, q _ _ (sm.trans (sameUpd np)) (.inl ⟨rfl, p, rfl, upd_same⟩)⟩
    · refine ⟨.int 1, rfl, rfl, _, rfl, ifNo (by decide) ?_⟩
      refine ⟨.int 1, rfl, rfl, _, rfl, ifYes rfl ?_⟩
      refine ⟨va, rfl, va, rfl, fun d H2 sm hd => ⟨false, X.e2, fun z => Bool.noConfusion z, fun _ => ⟨false, X.e3, fun z => Bool.noConfusion z, fun _ => ⟨true, X.e4, fun _ a0 na => ?_, fun z => Bool.noConfusion z⟩⟩⟩⟩
      refine ⟨(by show 1 ≤ sizeLine; decide), fun p np => ?_⟩
      exact ⟨.ref p, rfl, q _ _ (sm.trans (sameUpd np)) (.inr (.inl ⟨rfl, p, rfl, upd_same⟩))⟩
    · refine ⟨.int 2, rfl, rfl, _, rfl, ifNo (by decide) ?_⟩
      refine ⟨.int 2, rfl, rfl, _, rfl, ifNo (by decide) ?_⟩
      refine ⟨.int 2, rfl, rfl, _, rfl, ifYes rfl ?_⟩
      refine ⟨false, X.e5, fun z => Bool.noConfusion z, fun _ => ⟨true, X.e6, fun _ a0 na => ?_, fun z => Bool.noConfusion z⟩⟩
      refine ⟨.ref a0, rfl, ga K "Halted", .ref (ga K "Halted"), .ref (ga K "Halted"), _, rfl, rfl, rfl, C0.xc, .own _, G.kit "Halted" (by decide +kernel) "Halted" (by decide +kernel), (by show 2 ≤ sizeLine; decide), fun p np => ?_⟩
      exact ⟨.ref p, rfl, q _ _ (sameUpd np) (.inr (.inr (.inl ⟨rfl, p, rfl, upd_same⟩)))⟩
    · refine ⟨.int 3, rfl, rfl, _, rfl, ifNo (by decide) ?_⟩
      refine ⟨.int 3, rfl, rfl, _, rfl, ifNo (by decide) ?_⟩
      refine ⟨.int 3, rfl, rfl, _, rfl, ifNo (by decide) ?_⟩
      exact ⟨.str "none", rfl, q _ _ (Same.refl _) (.inr (.inr (.inr ⟨rfl, rfl⟩)))⟩
end
end K1

set_option Elab.async false
set_option linter.all false
set_option maxRecDepth 100000
set_option maxHeartbeats 8000000
namespace K1
open PySem PySem.Spec PyProof.Rows L2 KX
open He (ga)
def spRight : Sp := fun vs H Q _ => ∃ a b : V, vs = [a, b] ∧ Val H a ∧ Val H b ∧ ∀ H', Same H H' → Q (.bl true) H'
/-- a list of drawn values is like itself -/
theorem svList {K : PySem.W.Frag} {H : Hp} {p q : Addr} {xs : List V} (hp : H p = some (.lst xs)) (hq : H q = some (.lst xs)) (hl : xs.length ≤ 1000) (h : ∀ v ∈ xs, Val H v) : Sv K H 3 (.ref p) (.ref q) := by
  refine .lst (.inl (.inl hp)) (.inl (.inl hq)) rfl hl fun i v w e e2 => ?_
  have : v = w := Option.some.inj (e.symm.trans e2)
  subst this
  exact (h v (List.mem_of_getElem? e)).sv
section
variable {P : Program} {w : World} {K : PySem.W.Frag} {mg : Str → Option Value} {base : Heap} {f : Addr} {fd : FuncData}
theorem scRight : FnScope ["_law_a", "_law_b", "_law_one", "_law_other", "_law_found"] ["_law_a", "_law_b"] (defScope sRight) := ⟨rfl, rfl, rfl, by decide +kernel, rfl, by decide +kernel, by decide +kernel⟩
theorem okRight {k : Nat} (F : FnP K "_law_named_right" sRight f fd) (B : Bn mg) (C : C1s P w K mg base) (C2 : Cl2 P w K mg base "BadName" (ga K "BadName") "line" "name") (S : At P w K mg base (k + 4) "_law_same" ["_law_found", "_law_due"] (spSame K 3)) :
    FnOk P w K mg base CX0 (k + 5) f fd ["_law_a", "_law_b"] spRight := by
  have c1 : Cl1 P w K mg base "Stuck" (ga K "Stuck") "ring" := C.ok ("Stuck", "ring") (by decide +kernel)
  have c2 : Cl1 P w K mg base "Conflict" (ga K "Conflict") "conflicts" := C.ok ("Conflict", "conflicts") (by decide +kernel)
  have c3 : Cl1 P w K mg base "Clash" (ga K "Clash") "spot" := C.ok ("Clash", "spot") (by decide +kernel)
  have c4 : Cl1 P w K mg base "BadTree" (ga K "BadTree") "path" := C.ok ("BadTree", "path") (by decide +kernel)
  have c5 : Cl1 P w K mg base "NotAsked" (ga K "NotAsked") "key" := C.ok ("NotAsked", "key") (by decide +kernel)
  have c6 : Cl1 P w K mg base "NoVersion" (ga K "NoVersion") "number" := C.ok ("NoVersion", "number") (by decide +kernel)
  have c7 : Cl1 P w K mg base "BadEntry" (ga K "BadEntry") "entry" := C.ok ("BadEntry", "entry") (by decide +kernel)
  have c8 : Cl1 P w K mg base "BadLine" (ga K "BadLine") "line" := C.ok ("BadLine", "line") (by decide +kernel)
  obtain ⟨fS, fdS, gS, kS, bS, GS⟩ := S.ex
  refine F.ok scRight (fun vs H Q E h => ?_) (fun cdv A outer s H vs Q E hr h => ?_)
  · obtain ⟨a, b, rfl, _⟩ := h
    rfl
  · obtain ⟨a, b, rfl, va, vb, q⟩ := h
    have hr1 : Room 2 _ := hr.mono (by omega)
    refine ⟨_, PSs.nox (C8.pss_cut (ps_par (i := 2) (j := 3) rfl scRight.nd rfl rfl (by decide) rfl rfl (pa_cons (peMk2K C2 hr1 (by rfl) (pk_cons (pv 1) (pk_cons (pv 0) pk_nil))) (pa_cons (peLstA (pa_cons (peMk1K c1 hr1 (by rfl) (pk_cons (pv 0) pk_nil)) (pa_cons (peMk1K c2 hr1 (by rfl) (pk_cons (pv 0) pk_nil)) (pa_cons (peMk1K c3 hr1 (by rfl) (pk_cons (pv 0) pk_nil)) (pa_cons (peMk1K c4 hr1 (by rfl) (pk_cons (pv 0) pk_nil)) pa_nil))))) pa_nil)) (by rfl)) (C8.pss_cut (ps_set (i := 4) scRight.nd rfl (.inl rfl) (peLstA (pa_cons (peXfld (f := "line") (pv 2)) (pa_cons (peXfld (f := "name") (pv 2)) (pa_cons (peXfld (f := "ring") (pe_ix ix_list (pv 3) pe_int (fun _ _ => rfl))) (pa_cons (peXfld (f := "conflicts") (pe_ix ix_list (pv 3) pe_int (fun _ _ => rfl))) (pa_cons (peXfld (f := "spot") (pe_ix ix_list (pv 3) pe_int (fun _ _ => rfl))) (pa_cons (peXfld (f := "path") (pe_ix ix_list (pv 3) pe_int (fun _ _ => rfl))) pa_nil)))))))) (C8.pss_cut (ps_set (i := 4) scRight.nd rfl (.inl rfl) (pe_op op_cat (pv 4) (peLstA (pa_cons (peXfld (f := "key") (peMk1K c5 hr1 (by rfl) (pk_cons (pv 0) pk_nil))) (pa_cons (peXfld (f := "number") (peMk1K c6 hr1 (by rfl) (pk_cons (pv 0) pk_nil))) (pa_cons (peXfld (f := "entry") (peMk1K c7 hr1 (by rfl) (pk_cons (pv 0) pk_nil))) (pa_cons (peXfld (f := "line") (peMk1K c8 hr1 (by rfl) (pk_cons (pv 0) pk_nil))) pa_nil))))))) (pss_one (ps_ret (pe_call GS hr (by rfl) gS kS bS .nil pass0 (pa_cons (pv 4) (pa_cons (pe_op op_cat (peLstA (pa_cons (pv 0) (pa_cons (pv 1) pa_nil))) (pe_op op_rep (peLstA (pa_cons (pv 0) pa_nil)) pe_int)) pa_nil)))))))), ?_⟩
    -- one, other
    refine ⟨fun σ' H' => ∃ e l e1 e2 e3 e4 : Addr, σ' = [some a, some b, some (.ref e), some (.ref l), none] ∧ Same H H' ∧ ErD H' e (ga K "BadName") [("name", b), ("line", a)] ∧ H' l = some (.lst [.ref e1, .ref e2, .ref e3, .ref e4]) ∧
      ErD H' e1 (ga K "Stuck") [("ring", a)] ∧ ErD H' e2 (ga K "Conflict") [("conflicts", a)] ∧ ErD H' e3 (ga K "Clash") [("spot", a)] ∧ ErD H' e4 (ga K "BadTree") [("path", a)], ?_, ?_⟩
    · refine ⟨b, rfl, a, rfl, a, b, rfl, fun e H0 n0 m0 r0 => ⟨a, rfl, a, rfl, fun e1 H1 n1 m1 r1 => ⟨a, rfl, a, rfl, fun e2 H2 n2 m2 r2 => ⟨a, rfl, a, rfl, fun e3 H3 n3 m3 r3 => ⟨a, rfl, a, rfl, fun e4 H4 n4 m4 r4 =>
        ⟨(by show 4 ≤ sizeLine; decide), fun l H5 nl ml ul => ⟨.ref e, .ref l, rfl, ?_⟩⟩⟩⟩⟩⟩⟩
      exact ⟨e, l, e1, e2, e3, e4, rfl, ((((m0.trans m1).trans m2).trans m3).trans m4).trans ml, r0.same ((((m1.trans m2).trans m3).trans m4).trans ml), ul, r1.same (((m2.trans m3).trans m4).trans ml), r2.same ((m3.trans m4).trans ml), r3.same (m4.trans ml), r4.same ml⟩
    rintro _ H1 ⟨e, l, e1, e2, e3, e4, rfl, s1, r0, hl, r1, r2, r3, r4⟩
    have hL : SqL K H1 l [.ref e1, .ref e2, .ref e3, .ref e4] := .inl (.inl hl)
    refine ⟨fun σ' H' => ∃ p : Addr, σ' = [some a, some b, some (.ref e), some (.ref l), some (.ref p)] ∧ Same H H' ∧ H' p = some (.lst [a, b, a, a, a, a]), ?_, ?_⟩
    · refine ⟨.ref e, rfl, e, _, _, a, rfl, r0, C2.xc, C2.no, rfl, .ref e, rfl, e, _, _, b, rfl, r0, C2.xc, C2.no2, rfl, ?_⟩
      refine ⟨.ref l, rfl, l, _, 0, _, rfl, rfl, hL, atI_nat (j := 0) rfl, e1, _, _, a, rfl, r1, c1.xc, c1.no, rfl, ?_⟩
      refine ⟨.ref l, rfl, l, _, 1, _, rfl, rfl, hL, atI_nat (j := 1) rfl, e2, _, _, a, rfl, r2, c2.xc, c2.no, rfl, ?_⟩
      refine ⟨.ref l, rfl, l, _, 2, _, rfl, rfl, hL, atI_nat (j := 2) rfl, e3, _, _, a, rfl, r3, c3.xc, c3.no, rfl, ?_⟩
      refine ⟨.ref l, rfl, l, _, 3, _, rfl, rfl, hL, atI_nat (j := 3) rfl, e4, _, _, a, rfl, r4, c4.xc, c4.no, rfl, ?_⟩
      exact ⟨(by show 6 ≤ sizeLine; decide), fun p Hp np mp up => ⟨p, rfl, s1.trans mp, up⟩⟩
    rintro _ H2 ⟨p, rfl, s2, hp⟩
    refine ⟨fun σ' H' => ∃ p : Addr, σ' = [some a, some b, some (.ref e), some (.ref l), some (.ref p)] ∧ Same H H' ∧ H' p = some (.lst [a, b, a, a, a, a, a, a, a, a]), ?_, ?_⟩
    · refine ⟨.ref p, rfl, a, rfl, a, rfl, fun x1 G1 i1 j1 t1 => ⟨x1, _, _, a, rfl, t1, c5.xc, c5.no, rfl, ?_⟩⟩
      refine ⟨a, rfl, a, rfl, fun x2 G2 i2 j2 t2 => ⟨x2, _, _, a, rfl, t2, c6.xc, c6.no, rfl, ?_⟩⟩
      refine ⟨a, rfl, a, rfl, fun x3 G3 i3 j3 t3 => ⟨x3, _, _, a, rfl, t3, c7.xc, c7.no, rfl, ?_⟩⟩
      refine ⟨a, rfl, a, rfl, fun x4 G4 i4 j4 t4 => ⟨x4, _, _, a, rfl, t4, c8.xc, c8.no, rfl, ?_⟩⟩
      refine ⟨(by show 4 ≤ sizeLine; decide), fun m Hm nm mm um => ⟨p, m, _, _, rfl, rfl, ((((j1.trans j2).trans j3).trans j4).trans mm) _ _ hp, um, (by show 6 + 4 ≤ sizeLine; decide), fun z nz => ?_⟩⟩
      exact ⟨z, rfl, (((((s2.trans j1).trans j2).trans j3).trans j4).trans mm).trans (sameUpd nz), upd_same⟩
    rintro _ H3 ⟨p2, rfl, s3, hp2⟩
    refine ⟨.ref p2, rfl, a, rfl, b, rfl, (by show 2 ≤ sizeLine; decide), fun m Hm nm mm um => ⟨a, rfl, (by show 1 ≤ sizeLine; decide), fun m2 Hm2 nm2 mm2 um2 => ?_⟩⟩
    refine ⟨m2, 8, _, rfl, rfl, um2, by decide, by decide, (by show 1 * 8 ≤ sizeLine; decide), fun m3 nm3 => ?_⟩
    refine ⟨m, m3, _, _, rfl, rfl, (mm2.trans (sameUpd nm3)) _ _ um, upd_same, (by show 2 + 8 ≤ sizeLine; decide), fun m4 nm4 => ?_⟩
    have st := (((s3.trans mm).trans mm2).trans (sameUpd nm3)).trans (sameUpd (o := .lst [a, b, a, a, a, a, a, a, a, a]) nm4)
    have hp5 := ((mm.trans mm2).trans (sameUpd nm3)).trans (sameUpd (o := .lst [a, b, a, a, a, a, a, a, a, a]) nm4) _ _ hp2
    refine ⟨.ref p2, .ref m4, rfl, svList hp5 upd_same (by show 10 ≤ 1000; decide) ?_, fun H' s' => q _ (st.trans s')⟩
    intro v hv
    have : v = a ∨ v = b := by
      simp only [List.mem_cons, List.not_mem_nil, or_false] at hv
      rcases hv with h | h | h | h | h | h | h | h | h | h <;> first | exact .inl h | exact .inr h
    rcases this with h | h
    · rw [h]
      exact va.same st
    · rw [h]
      exact vb.same st
end
end K1

set_option Elab.async false
set_option linter.all false
set_option maxRecDepth 100000
set_option maxHeartbeats 16000000
namespace K1
open PySem PySem.Spec PyProof.Rows L2 KX
open He (ga)
theorem forJ {J : It} {n : Nat} {g : TG} {tb : TS} {D : Ends} {σ : L2.St} {H : Hp} (Pv : Nat → L2.St → Hp → Prop) (h0 : Pv 0 σ H) (hgo : ∀ i σ H, i < n → Pv i σ H → J.go i H) (hst : ∀ σ H, Pv n σ H → J.stop n H)
    (hs : ∀ i σ H x H', i < n → Pv i σ H → J.yld i H x H' → g x σ H' fun σ2 H2 => tb { D with nx := Pv (i + 1), ct := Pv (i + 1), bk := D.nx } σ2 H2) (hd : ∀ σ H, Pv n σ H → D.nx σ H) :
    ∃ W : Nat → Nat → L2.St → Hp → Prop, (∃ m, W 0 m σ H) ∧ ∀ i m σ H, W i m σ H →
      (J.stop i H ∧ D.nx σ H) ∨ (J.go i H ∧ ∃ N : L2.St → Hp → Prop, (∀ σ' H', N σ' H' → ∃ m', m' < m ∧ W (i + 1) m' σ' H') ∧ ∀ x H', J.yld i H x H' → g x σ H' fun σ2 H2 => tb { D with nx := N, ct := N, bk := D.nx } σ2 H2) := by
  refine ⟨fun i m σ H => m = n - i ∧ i ≤ n ∧ Pv i σ H, ⟨n, by simp, Nat.zero_le _, h0⟩, fun i m σ H hW => ?_⟩
  obtain ⟨rfl, hi, p⟩ := hW
  by_cases lt : i < n
  · exact .inr ⟨hgo i σ H lt p, Pv (i + 1), fun σ' H' p' => ⟨n - (i + 1), by omega, rfl, lt, p'⟩, fun x H' y => hs i σ H x H' lt p y⟩
  · have e : i = n := by omega
    subst e
    exact .inl ⟨hst σ H p, hd σ H p⟩
/-- the slots of the law -/
abbrev stt (s : Addr) (x1 x2 x3 x4 x5 x6 x7 x8 x9 x10 x11 x12 : Option V) : L2.St := [some (.ref s), x1, x2, x3, x4, x5, x6, x7, x8, x9, x10, x11, x12]
theorem neInt {K : PySem.W.Frag} {H : Hp} {p q : Addr} {i : Int} {Q : VK} (hp : H p = some (.lst [.int i])) (hq : H q = some (.lst [.int i])) (h : Q (.bl false) H) : rNeD K (.ref p) (.ref q) H Q := by
  refine ⟨.list [.int i], .list [.int i], .lst (.inl (.inl hp)) (.cons (.int i) .nil), .lst (.inl (.inl hq)) (.cons (.int i) .nil), ?_, ?_, ?_⟩
  · simp [SeqAt.shaped, PyData.canLay0, PyData.canLayAll0, PyData.depth, PyData.depthAll]
  · simp [SeqAt.shaped, PyData.canLay0, PyData.canLayAll0, PyData.depth, PyData.depthAll]
  · rw [show PyData.eqv (.list [.int i]) (.list [.int i]) = true by simp [PyData.eqv, PyData.eqvAll]]
    exact h
theorem idxAll : ∀ i, i < 26 → idx (cn.getD i "") = [(i : Int)] := by decide +kernel
theorem cnIn : ∀ i, i < 24 → cn.getD i "" ∈ cn.take 24 := by decide +kernel
theorem RaisedAs.kp {D : Addr} {H H' : Hp} {a : V} {n : Int} {r : V} (k : Kp D H H') (hD : ∃ xs, H D = some (.lst xs)) (h : RaisedAs H a n r) : RaisedAs H' a n r := by
  obtain ⟨xs, hD⟩ := hD
  have ne : ∀ {p : Addr} {ys : List V}, H p = some (.tup ys) → p ≠ D := fun e z => by
    rw [z, hD] at e
    cases e
  rcases h with ⟨h, p, e, hp⟩ | ⟨h, p, e, hp⟩ | ⟨h, p, e, hp⟩ | h
  · exact .inl ⟨h, p, e, k _ _ (ne hp) hp⟩
  · exact .inr (.inl ⟨h, p, e, k _ _ (ne hp) hp⟩)
  · exact .inr (.inr (.inl ⟨h, p, e, k _ _ (ne hp) hp⟩))
  · exact .inr (.inr (.inr h))
theorem RaisedAs.same {H H' : Hp} {a : V} {n : Int} {r : V} (k : Same H H') (h : RaisedAs H a n r) : RaisedAs H' a n r := by
  rcases h with ⟨h, p, e, hp⟩ | ⟨h, p, e, hp⟩ | ⟨h, p, e, hp⟩ | h
  · exact .inl ⟨h, p, e, k _ _ hp⟩
  · exact .inr (.inl ⟨h, p, e, k _ _ hp⟩)
  · exact .inr (.inr (.inl ⟨h, p, e, k _ _ hp⟩))
  · exact .inr (.inr (.inr h))
theorem valTwo {H : Hp} {a b : V} (ha : Val H a) (hb : Val H b) : ∀ v ∈ [a, b], Val H v := by
  intro v hv
  simp only [List.mem_cons, List.not_mem_nil, or_false] at hv
  rcases hv with h | h
  · rw [h]
    exact ha
  · rw [h]
    exact hb
/-- what the law awaits of raised -/
abbrev dRaised (d : PyData) : PyData := .list [.tuple [.str "stuck", d], .tuple [.str "key"], .tuple [.str "base", .bool true], .str "none"]
theorem raised4 {K : PySem.W.Frag} {H : Hp} {va : V} {d : PyData} {rs : List V} (hd : Dp K H va d) (lr : rs.length = 4) (h : ∀ (l : Nat) (r : V), rs[l]? = some r → RaisedAs H va l r) :
    DpAll K H rs [.tuple [.str "stuck", d], .tuple [.str "key"], .tuple [.str "base", .bool true], .str "none"] := by
  match rs, lr with
  | [r0, r1, r2, r3], _ =>
    have h0 := h 0 r0 rfl
    have h1 := h 1 r1 rfl
    have h2 := h 2 r2 rfl
    have h3 := h 3 r3 rfl
    refine .cons ?_ (.cons ?_ (.cons ?_ (.cons ?_ .nil)))
    · rcases h0 with ⟨_, p, e, hp⟩ | ⟨c, _⟩ | ⟨c, _⟩ | ⟨c, _⟩
      · rw [e]
        exact .tup (.inl (.inl hp)) (.cons (.str _) (.cons hd .nil))
      all_goals exact absurd c (by decide)
    · rcases h1 with ⟨c, _⟩ | ⟨_, p, e, hp⟩ | ⟨c, _⟩ | ⟨c, _⟩
      · exact absurd c (by decide)
      · rw [e]
        exact .tup (.inl (.inl hp)) (.cons (.str _) .nil)
      all_goals exact absurd c (by decide)
    · rcases h2 with ⟨c, _⟩ | ⟨c, _⟩ | ⟨_, p, e, hp⟩ | ⟨c, _⟩
      · exact absurd c (by decide)
      · exact absurd c (by decide)
      · rw [e]
        exact .tup (.inl (.inl hp)) (.cons (.str _) (.cons (.bl true) .nil))
      · exact absurd c (by decide)
    · rcases h3 with ⟨c, _⟩ | ⟨c, _⟩ | ⟨c, _⟩ | ⟨_, e⟩
      · exact absurd c (by decide)
      · exact absurd c (by decide)
      · exact absurd c (by decide)
      · rw [e]
        exact .str _
theorem dRaised_can {d : PyData} (h : d.canLay0 = true) : (dRaised d).canLay0 = true := by
  have k1 : PyData.canLay0 (.str "stuck") = true := by decide +kernel
  have k2 : PyData.canLay0 (.str "key") = true := by decide +kernel
  have k3 : PyData.canLay0 (.str "base") = true := by decide +kernel
  have k4 : PyData.canLay0 (.str "none") = true := by decide +kernel
  simp only [dRaised, PyData.canLay0, PyData.canLayAll0] at k1 k2 k3 k4 ⊢
  simp [k1, k2, k3, k4, h]
theorem dRaised_deep {d : PyData} (h : d.depth ≤ 4) : (dRaised d).depth ≤ 64 := by
  simp only [dRaised, PyData.depth, PyData.depthAll]
  omega
def spLaw (K : PySem.W.Frag) : Sp := fun vs H Q _ => ∃ (a : Addr) (ns : List Int), vs = [.ref a] ∧ SqL K H a (ns.map V.int) ∧ ns.length ≤ 63 ∧ ∀ H', Q (.bl true) H'
section
variable {P : Program} {w : World} {K : PySem.W.Frag} {mg : Str → Option Value} {base : Heap} {f : Addr} {fd : FuncData}
theorem scLaw : FnScope ["_law_script", "_law_k", "_law_feed", "_law_a", "_law_b", "_law_made", "_law_index", "_law_error", "_law_kept", "_law_bad", "_law_asked", "_law_version", "_law_form"] ["_law_script"] (defScope sLaw) := ⟨rfl, rfl, rfl, by decide +kernel, rfl, by decide +kernel, by decide +kernel⟩
theorem okLaw (F : FnP K "law" sLaw f fd) (B : Bn mg) (G : Ks K mg) (X : Kx K mg) (C : C1s P w K mg base) (C2 : Cl2 P w K mg base "BadName" (ga K "BadName") "line" "name") (C0 : Cl0 K mg "Halted" (ga K "Halted")) (CR : Cl0 K mg "NoRow" (ga K "NoRow"))
    (A1 : At P w K mg base 5 "_law_feed_of" ["_law_script", "_law_k"] (spFeed K)) (A2 : At P w K mg base 5 "_law_any_value" ["_law_feed"] spAny) (A3 : At P w K mg base 5 "_law_with_places" ["_law_a"] (spMany K 0 10)) (A4 : At P w K mg base 5 "_law_with_others" ["_law_a"] (spMany K 10 11))
    (A5 : At P w K mg base 5 "_law_same" ["_law_found", "_law_due"] (spSame K 3)) (A6 : At P w K mg base 5 "_law_names_of" ["_law_e"] (spNames K)) (A7 : At P w K mg base 5 "_law_caught" ["_law_e"] (spCaught K)) (A8 : At P w K mg base 5 "_law_named_right" ["_law_a", "_law_b"] spRight)
    (A9 : At P w K mg base 5 "_law_raised" ["_law_form", "_law_a"] spRaised) : FnOk P w K mg base CX0 6 f fd ["_law_script"] (spLaw K) := by
  have cA : Cl1 P w K mg base "NotAsked" (ga K "NotAsked") "key" := C.ok ("NotAsked", "key") (by decide +kernel)
  have cV : Cl1 P w K mg base "NoVersion" (ga K "NoVersion") "number" := C.ok ("NoVersion", "number") (by decide +kernel)
  obtain ⟨f1, d1, g1, k1, b1, G1⟩ := A1.ex
  obtain ⟨f2, d2, g2, k2, b2, G2⟩ := A2.ex
  obtain ⟨f3, d3, g3, k3, b3, G3⟩ := A3.ex
  obtain ⟨f4, d4, g4, k4, b4, G4⟩ := A4.ex
  obtain ⟨f5, d5, g5, k5, b5, G5⟩ := A5.ex
  obtain ⟨f6, d6, g6, k6, b6, G6⟩ := A6.ex
  obtain ⟨f7, d7, g7, k7, b7, G7⟩ := A7.ex
  obtain ⟨f8, d8, g8, k8, b8, G8⟩ := A8.ex
  obtain ⟨f9, d9, g9, k9, b9, G9⟩ := A9.ex
  refine F.ok scLaw (fun vs H Q E h => ?_) (fun cdv A outer s H vs Q E hr h => ?_)
  · obtain ⟨a, ns, rfl, _⟩ := h
    rfl
  · obtain ⟨sc, ns, rfl, hS, hlen, q⟩ := h
    have hr1 : Room 2 _ := hr.mono (by omega)
    refine ⟨_, PSs.nox (pss_cons (ps_for PassesOwn.never rfl (pi_range1 (by rfl) B.range (pa_cons (pe_callB (call_max2 rfl) (by rfl) B.max (by decide +kernel) (pa_cons (pe_int) (pa_cons (pe_callB (call_min2 rfl) (by rfl) B.min (by decide +kernel) (pa_cons (pe_int) (pa_cons (pe_callB call_len_seq (by rfl) B.len PySem.boot_len (pa_cons (pv 0) pa_nil)) pa_nil))) pa_nil))) pa_nil)) (pg_name (i := 1) scLaw.nd rfl (.inl rfl))
      (C8.pss_cut (ps_set (i := 2) scLaw.nd rfl (.inl rfl) (pe_call G1 hr (by rfl) g1 k1 b1 .nil pass0 (pa_cons (pv 0) (pa_cons (pv 1) pa_nil)))) (C8.pss_cut (ps_asg (pe_tup (pa_cons (pe_call G2 hr (by rfl) g2 k2 b2 .nil pass0 (pa_cons (pv 2) pa_nil)) (pa_cons (pe_call G2 hr (by rfl) g2 k2 b2 .nil pass0 (pa_cons (pv 2) pa_nil)) pa_nil))) (pg_tup rfl (pgs_cons (pg_name (i := 3) scLaw.nd rfl (.inr rfl)) (pgs_cons (pg_name (i := 4) scLaw.nd rfl (.inl rfl)) pgs_nil)))) (C8.pss_cut (ps_set (i := 5) scLaw.nd rfl (.inl rfl) (pe_op op_cat (pe_call G3 hr (by rfl) g3 k3 b3 .nil pass0 (pa_cons (pv 3) pa_nil)) (pe_call G4 hr (by rfl) g4 k4 b4 .nil pass0 (pa_cons (pv 3) pa_nil)))) (C8.pss_cut (ps_for PassesOwn.never rfl (pi_enum (by rfl) B.enum (pa_cons (pv 5) pa_nil)) (pg_tup rfl (pgs_cons (pg_name (i := 6) scLaw.nd rfl (.inl rfl)) (pgs_cons (pg_tup rfl (pgs_cons (pg_name (i := 7) scLaw.nd rfl (.inl rfl)) (pgs_cons (pg_name (i := 8) scLaw.nd rfl (.inl rfl)) pgs_nil))) pgs_nil)))
          (pss_one (ps_if (PW.pt (pw_or (pt_not (pt_val (pe_call G5 hr (by rfl) g5 k5 b5 .nil pass0 (pa_cons (pv 8) (pa_cons (pv 3) pa_nil))))) (pw_or (pt_cmpR (op_neD hr.units) (pe_call G6 hr (by rfl) g6 k6 b6 .nil pass0 (pa_cons (pv 7) pa_nil)) (pe_lst (pa_cons (pv 6) pa_nil)) (nomark _))
            (pw_or1 (pt_not (pt_val (pe_call G7 hr (by rfl) g7 k7 b7 .nil pass0 (pa_cons (pv 7) pa_nil)))))))) (pss_one (ps_ret pe_bl)) pss_nil))) (C8.pss_cut (ps_if (pt_not (pt_val (pe_call G8 hr (by rfl) g8 k8 b8 .nil pass0 (pa_cons (pv 3) (pa_cons (pv 4) pa_nil))))) (pss_one (ps_ret pe_bl)) pss_nil) (C8.pss_cut (ps_set (i := 9) scLaw.nd rfl (.inl rfl) (peMk2 C2 hr1 (by rfl) (pa_cons (pv 3) (pa_cons (pv 4) pa_nil)))) (C8.pss_cut (ps_if (PW.pt (pw_or (pt_not (pt_val (pe_call G5 hr (by rfl) g5 k5 b5 .nil pass0 (pa_cons (peLstA (pa_cons (peXfld (f := "line") (pv 9)) (pa_cons (peXfld (f := "name") (pv 9)) pa_nil))) (pa_cons (peLstA (pa_cons (pv 3) (pa_cons (pv 4) pa_nil))) pa_nil))))) (pw_or (pt_cmpR (op_neD hr.units) (pe_call G6 hr (by rfl) g6 k6 b6 .nil pass0 (pa_cons (pv 9) pa_nil)) (pe_lst (pa_cons (pe_int) pa_nil)) (nomark _))
            (pw_or1 (pt_not (pt_val (pe_call G7 hr (by rfl) g7 k7 b7 .nil pass0 (pa_cons (pv 9) pa_nil)))))))) (pss_one (ps_ret pe_bl)) pss_nil) (C8.pss_cut (ps_if (PW.pt (pw_or (pt_not (pt_val (pe_call G7 hr (by rfl) g7 k7 b7 .nil pass0 (pa_cons (peMk0 C0 (by rfl)) pa_nil)))) (pw_or (pt_not (pt_val (pe_call G7 hr (by rfl) g7 k7 b7 .nil pass0 (pa_cons (peMk0 CR (by rfl)) pa_nil))))
            (pw_or1 (pt_cmpR (op_neD hr.units) (pe_call G6 hr (by rfl) g6 k6 b6 .nil pass0 (pa_cons (peMk0 CR (by rfl)) pa_nil)) (pe_lst (pa_cons (pe_int) pa_nil)) (nomark _)))))) (pss_one (ps_ret pe_bl)) pss_nil) (C8.pss_cut (ps_par (i := 10) (j := 11) rfl scLaw.nd rfl rfl (by decide) rfl rfl (pa_cons (peMk1 cA hr1 (by rfl) (pa_cons (pv 3) pa_nil)) (pa_cons (peMk1 cV hr1 (by rfl) (pa_cons (pv 4) pa_nil)) pa_nil)) (by rfl)) (C8.pss_cut (ps_if (PW.pt (pw_or (pt_not (pt_val (pe_callB callIsX (by rfl) B.isi (by decide +kernel) (pa_cons (pv 10) (pa_cons (pe_bltn (v := .ty "KeyError") (by rfl) X.mKey (by decide +kernel) rfl) pa_nil))))) (pw_or (pt_not (pt_val (pe_callB callIsX (by rfl) B.isi (by decide +kernel) (pa_cons (pv 11) (pa_cons (pe_bltn (v := .ty "IndexError") (by rfl) X.mIdx (by decide +kernel) rfl) pa_nil)))))
            (pw_or1 (pt_val (pe_callB callIsX (by rfl) B.isi (by decide +kernel) (pa_cons (pv 11) (pa_cons (pe_glob (v := .ref (ga K "BuildError")) (by rfl) X.gb rfl) pa_nil)))))))) (pss_one (ps_ret pe_bl)) pss_nil) (C8.pss_cut (ps_if (PW.pt (pw_or (pt_not (pt_val (pe_call G5 hr (by rfl) g5 k5 b5 .nil pass0 (pa_cons (peLstA (pa_cons (peXfld (f := "key") (pv 10)) (pa_cons (peXfld (f := "number") (pv 11)) pa_nil))) (pa_cons (peLstA (pa_cons (pv 3) (pa_cons (pv 4) pa_nil))) pa_nil)))))
            (pw_or1 (pt_val (pe_callB callIsX (by rfl) B.isi (by decide +kernel) (pa_cons (pv 10) (pa_cons (pe_glob (v := .ref (ga K "BuildError")) (by rfl) X.gb rfl) pa_nil))))))) (pss_one (ps_ret pe_bl)) pss_nil) (C8.pss_cut (ps_if (PW.pt (pw_or (pt_cmpR (op_neD hr.units) (pe_call G6 hr (by rfl) g6 k6 b6 .nil pass0 (pa_cons (pv 10) pa_nil)) (pe_lst (pa_cons (pe_int) pa_nil)) (nomark _)) (pw_or (pt_cmpR (op_neD hr.units) (pe_call G6 hr (by rfl) g6 k6 b6 .nil pass0 (pa_cons (pv 11) pa_nil)) (pe_lst (pa_cons (pe_int) pa_nil)) (nomark _))
            (pw_or1 (pt_cmpR (op_neD hr.units) (pe_call G6 hr (by rfl) g6 k6 b6 .nil pass0 (pa_cons (peMk0 C0 (by rfl)) pa_nil)) (pe_lst (pa_cons (pe_int) pa_nil)) (nomark _)))))) (pss_one (ps_ret pe_bl)) pss_nil) (pss_one (ps_if (pt_cmpR (op_neD hr.units) (pe_lc (own := [("_law_form", 12)]) (g := gName 12) (te := tCall spRaised [] E0 (tCons (tVar 12) (tCons (tVar 3) tNil))) rfl scLaw.nd (pi_range1 (by rfl) B.range (pa_cons (pe_int) pa_nil)) (blkOk_by (N := ["_law_script", "_law_k", "_law_feed", "_law_a", "_law_b", "_law_made", "_law_index", "_law_error", "_law_kept", "_law_bad", "_law_asked", "_law_version", "_law_form"]) (sc := defScope sLaw) (by decide +kernel))
            (fun _ _ _ _ _ => pg_name (i := 12) scLaw.nd rfl (.inl rfl)) (fun _ _ _ _ _ => pts_nil) (fun _ _ _ _ _ => pe_call G9 hr (by rfl) g9 k9 b9 .nil pass0 (pa_cons (pv 12) (pa_cons (pv 3) pa_nil))))
          (peLstA (pa_cons (peTupA (pa_cons (pe_str) (pa_cons (pv 3) pa_nil))) (pa_cons (peTupA (pa_cons (pe_str) pa_nil)) (pa_cons (peTupA (pa_cons (pe_str) (pa_cons (pe_bl) pa_nil))) (pa_cons (pe_str) pa_nil))))) (nomark _)) (pss_one (ps_ret pe_bl)) pss_nil))))))))))))))) (pss_one (ps_ret pe_bl))), ?_⟩
    refine ⟨.ref sc, rfl, sc, _, rfl, .inl hS, 3, _, rfl, 2, _, rfl, _, rfl, ?b1, ?b2, ?main⟩
    case b1 => split <;> (try split) <;> omega
    case b2 => split <;> (try split) <;> omega
    case main =>
    have hN : ∀ L : Int, 0 ≤ L → (if (if L < 3 then L else 3) > 2 then (if L < 3 then L else 3) else 2).toNat ≤ 3 := fun L hL => by split <;> (try split) <;> omega
    refine for_range (lo := 0) (n := _) (fun i σ' H' => (∃ x1 x2 x3 x4 x5 x6 x7 x8 x9 x10 x11 x12, σ' = stt sc x1 x2 x3 x4 x5 x6 x7 x8 x9 x10 x11 x12) ∧ SqL K H' sc (ns.map V.int)) ⟨⟨none, none, none, none, none, none, none, none, none, none, none, none, rfl⟩, hS⟩ (fun i σ' H1 lt h => ?_) (fun σ' H' h => q H')
    obtain ⟨⟨x1, x2, x3, x4, x5, x6, x7, x8, x9, x10, x11, x12, rfl⟩, hT⟩ := h
    have li : i < 3 := Nat.lt_of_lt_of_le lt (hN _ (Int.natCast_nonneg _))
    -- the feed
    refine ⟨fun σ' H2 => ∃ f, σ' = stt sc (some (.int (0 + i))) (some (.ref f)) x3 x4 x5 x6 x7 x8 x9 x10 x11 x12 ∧ Same H1 H2 ∧ Fd H2 f ∧ H1 f = none, ?_, ?_⟩
    · exact ⟨.ref sc, rfl, .int (0 + i), rfl, sc, ns, 0 + i, rfl, hT, hlen, by omega, by omega, fun p Hp sm np fd => ⟨p, rfl, sm, fd, np⟩⟩
    rintro _ H2 ⟨f, rfl, s2, F2, nf⟩
    -- a, b
    refine ⟨fun σ' H5 => ∃ va vb, σ' = stt sc (some (.int (0 + i))) (some (.ref f)) (some va) (some vb) x5 x6 x7 x8 x9 x10 x11 x12 ∧ Same H1 H5 ∧ Val H5 va ∧ Val H5 vb, ?_, ?_⟩
    · refine ⟨.ref f, rfl, f, rfl, F2, fun va H3 k3 F3 v3 => ⟨.ref f, rfl, f, rfl, F3, fun vb H4 k4 F4 v4 => ⟨(by show 2 ≤ sizeLine; decide), fun p np => ?_⟩⟩⟩
      have sm : Same H1 H4 := fun b o hb => k4 b o (ne_of_none hb nf) (k3 b o (ne_of_none hb nf) (s2 b o hb))
      exact ⟨p, [va, vb], rfl, .inl (.inl upd_same), rfl, va, [vb], rfl, vb, [], rfl, rfl, va, vb, rfl, sm.trans (sameUpd np), (v3.kp k4 F3).same (sameUpd np), v4.same (sameUpd np)⟩
    rintro _ H5 ⟨va, vb, rfl, s5, hva, hvb⟩
    -- made
    refine ⟨fun σ' H6 => ∃ (m : Addr) (ts : List Addr), σ' = stt sc (some (.int (0 + i))) (some (.ref f)) (some va) (some vb) (some (.ref m)) x6 x7 x8 x9 x10 x11 x12 ∧ Same H1 H6 ∧ Val H6 va ∧ Val H6 vb ∧ H6 m = some (.lst (ts.map V.ref)) ∧ ts.length = 21 ∧
      ∀ j t, ts[j]? = some t → ∃ e, H6 t = some (.tup [.ref e, va]) ∧ Er H6 e (ga K (cn.getD j "")), ?_, ?_⟩
    · refine ⟨va, rfl, va, rfl, fun l1 ts1 Ha sa hl1 n1 ok1 => ⟨va, rfl, va, rfl, fun l2 ts2 Hb sb hl2 n2 ok2 => ⟨l1, l2, _, _, rfl, rfl, sb _ _ hl1, hl2, ?_, fun p np => ?_⟩⟩⟩
      · rw [List.length_map, List.length_map, n1, n2]
        decide
      · refine ⟨p, ts1 ++ ts2, rfl, ((s5.trans sa).trans sb).trans (sameUpd np), ((hva.same sa).same sb).same (sameUpd np), ((hvb.same sa).same sb).same (sameUpd np), ?_, by rw [List.length_append, n1, n2], fun j t hj => ?_⟩
        · rw [List.map_append]
          exact upd_same
        · by_cases lj : j < 10
          · rw [List.getElem?_append_left (by omega)] at hj
            obtain ⟨e, h1, h2⟩ := ok1 j t hj
            rw [Nat.zero_add] at h2
            exact ⟨e, (sb.trans (sameUpd np)) _ _ h1, h2.same (sb.trans (sameUpd np))⟩
          · rw [List.getElem?_append_right (by omega), n1] at hj
            obtain ⟨e, h1, h2⟩ := ok2 (j - 10) t hj
            rw [show 10 + (j - 10) = j by omega] at h2
            exact ⟨e, (sameUpd np) _ _ h1, h2.same (sameUpd np)⟩
    rintro _ H6 ⟨m, ts, rfl, s6, wa, wb, hm, lts, hts⟩
    -- each of them
    refine ⟨fun σ' H7 => (∃ y6 y7 y8, σ' = stt sc (some (.int (0 + i))) (some (.ref f)) (some va) (some vb) (some (.ref m)) y6 y7 y8 x9 x10 x11 x12) ∧ Same H6 H7, ?_, ?_⟩
    · refine ⟨.ref m, rfl, m, _, rfl, .inl (.inl hm), ?_⟩
      have hL : ∀ {H7 : Hp}, Same H6 H7 → SqL K H7 m (ts.map V.ref) := fun s => .inl (.inl (s _ _ hm))
      refine forJ (n := 21) (fun j σ' H7 => (∃ y6 y7 y8, σ' = stt sc (some (.int (0 + i))) (some (.ref f)) (some va) (some vb) (some (.ref m)) y6 y7 y8 x9 x10 x11 x12) ∧ Same H6 H7) ⟨⟨x6, x7, x8, rfl⟩, Same.refl _⟩ (fun j σ' H7 lj h => ?_) (fun σ' H7 h => ?_) (fun j σ' H7 x H8 lj h y => ?_) (fun σ' H7 h => h)
      · refine ⟨_, .ref (ts[j]'(by omega)), hL h.2, ?_⟩
        rw [List.getElem?_map, List.getElem?_eq_getElem (by omega)]
        rfl
      · refine ⟨_, hL h.2, ?_⟩
        rw [List.length_map, lts]
        exact Nat.le_refl _
      · obtain ⟨⟨y6, y7, y8, rfl⟩, s7⟩ := h
        obtain ⟨T, x, rfl, nT, rfl, fx⟩ := y
        have e1 := fx _ (hL s7)
        rw [List.getElem?_map] at e1
        obtain ⟨t, e2, rfl⟩ := Option.map_eq_some_iff.mp e1
        obtain ⟨e, ht, er⟩ := hts j t e2
        have s8 := s7.trans (sameUpd (o := .tup [.int (j : Nat), .ref t]) nT)
        refine ⟨T, [.int (j : Nat), .ref t], rfl, .inl (.inl upd_same), rfl, .int (j : Nat), [.ref t], rfl, .ref t, [], rfl, t, [.ref e, va], rfl, .inl (.inl (s8 _ _ ht)), rfl, .ref e, [va], rfl, va, [], rfl, rfl, rfl, ?_⟩
        refine ⟨va, rfl, va, rfl, va, va, rfl, (wa.same s8).sv.up, fun H9 s9 => ⟨true, rfl, iteF ?_⟩⟩
        have t9 := s8.trans s9
        refine ⟨.ref e, rfl, e, cn.getD j "", rfl, takeIn (cnIn j (by omega)), er.same t9, fun p Hp sp hp => ⟨.int (j : Nat), rfl, (by show 1 ≤ sizeLine; decide), fun p2 np2 => ?_⟩⟩
        rw [idxAll j (by omega)] at hp
        refine neInt (sameUpd np2 _ _ hp) upd_same ⟨false, rfl, iteF ?_⟩
        have t10 := (t9.trans sp).trans (sameUpd (o := .lst [.int (j : Nat)]) np2)
        exact ⟨.ref e, rfl, e, cn.getD j "", rfl, cnIn j (by omega), er.same t10, true, rfl, iteF ⟨⟨_, _, _, rfl⟩, t10⟩⟩
    rintro _ H7 ⟨⟨y6, y7, y8, rfl⟩, s7⟩
    have wa7 := wa.same s7
    have wb7 := wb.same s7
    have s17 := s6.trans s7
    -- by names
    refine ⟨fun σ' H8 => σ' = stt sc (some (.int (0 + i))) (some (.ref f)) (some va) (some vb) (some (.ref m)) y6 y7 y8 x9 x10 x11 x12 ∧ Same H7 H8, ?_, ?_⟩
    · exact ⟨va, rfl, vb, rfl, va, vb, rfl, wa7, wb7, fun H8 s8 => ⟨true, rfl, iteF ⟨rfl, s8⟩⟩⟩
    rintro _ H8 ⟨rfl, s8⟩
    -- bad
    refine ⟨fun σ' H9 => ∃ e, σ' = stt sc (some (.int (0 + i))) (some (.ref f)) (some va) (some vb) (some (.ref m)) y6 y7 y8 (some (.ref e)) x10 x11 x12 ∧ Same H7 H9 ∧ ErD H9 e (ga K "BadName") [("name", vb), ("line", va)], ?_, ?_⟩
    · exact ⟨va, rfl, vb, rfl, va, vb, rfl, fun e H9 ne se re => ⟨e, rfl, s8.trans se, re⟩⟩
    rintro _ H9 ⟨e, rfl, s9, re⟩
    have i21 : idx "BadName" = [21] := by decide +kernel
    have i22 : idx "Halted" = [22] := by decide +kernel
    have i23 : idx "NoRow" = [23] := by decide +kernel
    have i24 : idx "NotAsked" = [24] := by decide +kernel
    have i25 : idx "NoVersion" = [25] := by decide +kernel
    refine ⟨fun σ' H10 => σ' = stt sc (some (.int (0 + i))) (some (.ref f)) (some va) (some vb) (some (.ref m)) y6 y7 y8 (some (.ref e)) x10 x11 x12 ∧ Same H7 H10, ?_, ?_⟩
    · refine ⟨.ref e, rfl, e, _, _, va, rfl, re, C2.xc, C2.no, rfl, .ref e, rfl, e, _, _, vb, rfl, re, C2.xc, C2.no2, rfl, (by show 2 ≤ sizeLine; decide), fun p Hp np mp up => ?_⟩
      refine ⟨va, rfl, vb, rfl, (by show 2 ≤ sizeLine; decide), fun p2 Hp2 np2 mp2 up2 => ?_⟩
      have t2 := (s9.trans mp).trans mp2
      refine ⟨.ref p, .ref p2, rfl, svList (mp2 _ _ up) up2 (by show 2 ≤ 1000; decide) (valTwo (wa7.same t2) (wb7.same t2)), fun H' s' => ⟨true, rfl, iteF ?_⟩⟩
      have re2 := re.same ((mp.trans mp2).trans s')
      refine ⟨.ref e, rfl, e, "BadName", rfl, (by decide +kernel), .inr ⟨_, re2⟩, fun p3 Hp3 sp3 hp3 => ⟨(by show 1 ≤ sizeLine; decide), fun p4 np4 => ?_⟩⟩
      rw [i21] at hp3
      refine neInt (sameUpd np4 _ _ hp3) upd_same ⟨false, rfl, iteF ?_⟩
      exact ⟨.ref e, rfl, e, "BadName", rfl, (by decide +kernel), .inr ⟨_, re2.same (sp3.trans (sameUpd np4))⟩, true, rfl, iteF ⟨rfl, ((t2.trans s').trans sp3).trans (sameUpd np4)⟩⟩
    rintro _ H10 ⟨rfl, s10⟩
    -- Halted(), NoRow()
    refine ⟨fun σ' H11 => σ' = stt sc (some (.int (0 + i))) (some (.ref f)) (some va) (some vb) (some (.ref m)) y6 y7 y8 (some (.ref e)) x10 x11 x12 ∧ Same H7 H11, ?_, ?_⟩
    · refine fun h nh => ⟨h, "Halted", rfl, (by decide +kernel), .inl upd_same, true, rfl, iteF ?_⟩
      refine fun r nr => ⟨r, "NoRow", rfl, (by decide +kernel), .inl upd_same, true, rfl, iteF ?_⟩
      refine fun r2 nr2 => ⟨r2, "NoRow", rfl, (by decide +kernel), .inl upd_same, fun p3 Hp3 sp3 hp3 => ⟨(by show 1 ≤ sizeLine; decide), fun p4 np4 => ?_⟩⟩
      rw [i23] at hp3
      exact neInt (sameUpd np4 _ _ hp3) upd_same ⟨false, rfl, iteF ⟨rfl, ((((s10.trans (sameUpd nh)).trans (sameUpd nr)).trans (sameUpd nr2)).trans sp3).trans (sameUpd np4)⟩⟩
    rintro _ H11 ⟨rfl, s11⟩
    -- asked, version
    refine ⟨fun σ' H12 => ∃ ea ev, σ' = stt sc (some (.int (0 + i))) (some (.ref f)) (some va) (some vb) (some (.ref m)) y6 y7 y8 (some (.ref e)) (some (.ref ea)) (some (.ref ev)) x12 ∧ Same H7 H12 ∧ ErD H12 ea (ga K "NotAsked") [("key", va)] ∧ ErD H12 ev (ga K "NoVersion") [("number", vb)], ?_, ?_⟩
    · exact ⟨va, rfl, va, rfl, fun e1 Ga i1 j1 t1 => ⟨vb, rfl, vb, rfl, fun e2 Gb i2 j2 t2 => ⟨.ref e1, .ref e2, rfl, e1, e2, rfl, (s11.trans j1).trans j2, t1.same j2, t2⟩⟩⟩
    rintro _ H12 ⟨ea, ev, rfl, s12, ra, rv⟩
    refine ⟨fun σ' H13 => σ' = stt sc (some (.int (0 + i))) (some (.ref f)) (some va) (some vb) (some (.ref m)) y6 y7 y8 (some (.ref e)) (some (.ref ea)) (some (.ref ev)) x12 ∧ Same H12 H13, ?_, ?_⟩
    · refine ⟨.ref ea, rfl, ea, ga K "NotAsked", .ty "KeyError", .type "KeyError", true, rfl, .inr ⟨_, ra⟩, cA.xc, .ty _, X.n1, true, rfl, iteF ?_⟩
      refine ⟨.ref ev, rfl, ev, ga K "NoVersion", .ty "IndexError", .type "IndexError", true, rfl, .inr ⟨_, rv⟩, cV.xc, .ty _, X.n2, true, rfl, iteF ?_⟩
      exact ⟨.ref ev, rfl, ev, ga K "NoVersion", .ref (ga K "BuildError"), .ref (ga K "BuildError"), false, rfl, .inr ⟨_, rv⟩, cV.xc, .own _, X.n3, false, rfl, iteF ⟨rfl, Same.refl _⟩⟩
    rintro _ H13 ⟨rfl, s13⟩
    have ra3 := ra.same s13
    have rv3 := rv.same s13
    have s13' := s12.trans s13
    refine ⟨fun σ' H14 => σ' = stt sc (some (.int (0 + i))) (some (.ref f)) (some va) (some vb) (some (.ref m)) y6 y7 y8 (some (.ref e)) (some (.ref ea)) (some (.ref ev)) x12 ∧ Same H13 H14, ?_, ?_⟩
    · refine ⟨.ref ea, rfl, ea, _, _, va, rfl, ra3, cA.xc, cA.no, rfl, .ref ev, rfl, ev, _, _, vb, rfl, rv3, cV.xc, cV.no, rfl, (by show 2 ≤ sizeLine; decide), fun p Hp np mp up => ?_⟩
      refine ⟨va, rfl, vb, rfl, (by show 2 ≤ sizeLine; decide), fun p2 Hp2 np2 mp2 up2 => ?_⟩
      have t2 := (s13'.trans mp).trans mp2
      refine ⟨.ref p, .ref p2, rfl, svList (mp2 _ _ up) up2 (by show 2 ≤ 1000; decide) (valTwo (wa7.same t2) (wb7.same t2)), fun H' s' => ⟨true, rfl, iteF ?_⟩⟩
      exact ⟨.ref ea, rfl, ea, ga K "NotAsked", .ref (ga K "BuildError"), .ref (ga K "BuildError"), false, rfl, .inr ⟨_, ra3.same ((mp.trans mp2).trans s')⟩, cA.xc, .own _, X.n4, false, rfl, iteF ⟨rfl, (mp.trans mp2).trans s'⟩⟩
    rintro _ H14 ⟨rfl, s14⟩
    have ra4 := ra3.same s14
    have rv4 := rv3.same s14
    have s14' := s13'.trans s14
    refine ⟨fun σ' H15 => σ' = stt sc (some (.int (0 + i))) (some (.ref f)) (some va) (some vb) (some (.ref m)) y6 y7 y8 (some (.ref e)) (some (.ref ea)) (some (.ref ev)) x12 ∧ Same H7 H15, ?_, ?_⟩
    · refine ⟨.ref ea, rfl, ea, "NotAsked", rfl, (by decide +kernel), .inr ⟨_, ra4⟩, fun p3 Hp3 sp3 hp3 => ⟨(by show 1 ≤ sizeLine; decide), fun p4 np4 => ?_⟩⟩
      rw [i24] at hp3
      refine neInt (sameUpd np4 _ _ hp3) upd_same ⟨false, rfl, iteF ?_⟩
      have u4 := sp3.trans (sameUpd (o := .lst [.int 24]) np4)
      refine ⟨.ref ev, rfl, ev, "NoVersion", rfl, (by decide +kernel), .inr ⟨_, rv4.same u4⟩, fun p5 Hp5 sp5 hp5 => ⟨(by show 1 ≤ sizeLine; decide), fun p6 np6 => ?_⟩⟩
      rw [i25] at hp5
      refine neInt (sameUpd np6 _ _ hp5) upd_same ⟨false, rfl, iteF ?_⟩
      have u6 := (u4.trans sp5).trans (sameUpd (o := .lst [.int 25]) np6)
      refine fun h nh => ⟨h, "Halted", rfl, (by decide +kernel), .inl upd_same, fun p7 Hp7 sp7 hp7 => ⟨(by show 1 ≤ sizeLine; decide), fun p8 np8 => ?_⟩⟩
      rw [i22] at hp7
      exact neInt (sameUpd np8 _ _ hp7) upd_same ⟨false, rfl, iteF ⟨rfl, (((s14'.trans u6).trans (sameUpd nh)).trans sp7).trans (sameUpd np8)⟩⟩
    rintro _ H15 ⟨rfl, s15⟩
    -- raised
    refine ⟨4, rfl, by decide, by decide, fun D hD => ?_⟩
    refine lc_range (lo := 0) (n := 4) (fun j H16 => Same H15 H16 ∧ ∃ rs : List V, rs.length = j ∧ H16 D = some (.lst rs) ∧ ∀ (l : Nat) (r : V), rs[l]? = some r → RaisedAs H16 va l r) ⟨sameUpd hD, [], rfl, upd_same, fun l r h => by simp at h⟩ (fun j H16 lj h => ?_) (fun H16 h => ?_)
    · obtain ⟨s16, rs, lr, eD, hrs⟩ := h
      refine ⟨rfl, .int (0 + j), rfl, va, rfl, 0 + j, va, rfl, by omega, by omega, fun r H17 s17b hr => ⟨rs, s17b _ _ eD, ?_, fun b o hb => ?_, rs ++ [r], ?_, upd_same, fun l r' hl => ?_⟩⟩
      · rw [lr]
        exact small1000 (by omega)
      · rw [upd_ne (ne_of_none hb hD)]
        exact s17b _ _ (s16 _ _ hb)
      · rw [List.length_append, lr]
        rfl
      · have kp : Kp D H17 (upd H17 D (.lst (rs ++ [r]))) := Kp.put
        by_cases ll : l < j
        · rw [List.getElem?_append_left (by omega)] at hl
          exact ((hrs l r' hl).same s17b).kp kp ⟨_, s17b _ _ eD⟩
        · have hlj : l = j := by
            have h1 := (List.getElem?_eq_some_iff.mp hl).1
            rw [List.length_append, lr] at h1
            have h2 : l < j + 1 := h1
            omega
          subst hlj
          rw [List.getElem?_append_right (by omega), lr, Nat.sub_self] at hl
          cases hl
          rw [Int.zero_add] at hr
          exact hr.kp kp ⟨_, s17b _ _ eD⟩
    · obtain ⟨s16, rs, lr, eD, hrs⟩ := h
      refine ⟨va, rfl, (by show 2 ≤ sizeLine; decide), fun p0 G0 n0 m0 u0 => ⟨(by show 1 ≤ sizeLine; decide), fun p1 G1 n1 m1 u1 => ⟨(by show 2 ≤ sizeLine; decide), fun p2 G2 n2 m2 u2 => ⟨(by show 4 ≤ sizeLine; decide), fun pl Gl nl ml ul => ?_⟩⟩⟩⟩
      have z0 := (m1.trans m2).trans ml
      have zz := m0.trans z0
      obtain ⟨d, hd, can, deep⟩ := (wa7.same ((s15.trans s16).trans zz)).dp (K := K)
      have c0 := dRaised_can can
      have sh : SeqAt.shaped (dRaised d) = true := by
        unfold SeqAt.shaped
        rw [c0, decide_eq_true (dRaised_deep deep)]
        rfl
      refine ⟨dRaised d, dRaised d, .lst (.inl (.inl (zz _ _ eD))) (raised4 hd lr fun l r hl => (hrs l r hl).same zz), .lst (.inl (.inl ul)) ?_, sh, sh, ?_⟩
      · exact .cons (.tup (.inl (.inl (z0 _ _ u0))) (.cons (.str _) (.cons hd .nil))) (.cons (.tup (.inl (.inl ((m2.trans ml) _ _ u1))) (.cons (.str _) .nil)) (.cons (.tup (.inl (.inl (ml _ _ u2))) (.cons (.str _) (.cons (.bl true) .nil))) (.cons (.str _) .nil)))
      · rw [SeqAt.eqv_refl _ c0]
        exact ⟨false, rfl, iteF ⟨⟨_, _, _, _, _, _, _, _, _, _, _, _, rfl⟩, (((s17.trans s15).trans s16).trans zz).seq hT⟩⟩
end
end K1

set_option Elab.async false
set_option linter.all false
set_option maxRecDepth 100000
set_option maxHeartbeats 0
namespace K1
open PySem PySem.Spec PyProof.Rows L2 KX
open He (ga ma)
abbrev R : PySem.W.OpenRow := PySem.W.OpenLaw.row PySem.Challenge.rw_farenough_k01_errors_and_their_values
def dOf (x : Str) (i : Nat) : He.DefD := ⟨(x, none), x, x, defArgs (top i), defBody (top i), defScope (top i), [], []⟩
def dIni (x q : Str) (i : Nat) : He.DefD := ⟨(x, some "__init__"), "__init__", q, defArgs (inClass (top i) 0), defBody (inClass (top i) 0), defScope (inClass (top i) 0), [], []⟩
def fn : List He.DefD := [
  dOf "_law_feed_of" 29,
  dOf "_law_draw" 30,
  dOf "_law_pick" 31,
  dOf "_law_calls" 32,
  dOf "_law_some_text" 33,
  dOf "_law_same" 34,
  dOf "_law_any_value" 35,
  dOf "_law_with_places" 36,
  dOf "_law_with_others" 37,
  dOf "_law_names_of" 38,
  dOf "_law_caught" 39,
  dOf "_law_raised" 40,
  dOf "_law_named_right" 41,
  dOf "law" 42,
  dIni "Clash" "Clash.__init__" 7,
  dIni "Gap" "Gap.__init__" 8,
  dIni "Rewritten" "Rewritten.__init__" 9,
  dIni "NoPlace" "NoPlace.__init__" 10,
  dIni "NotNeeded" "NotNeeded.__init__" 12,
  dIni "NotPart" "NotPart.__init__" 19,
  dIni "BadTree" "BadTree.__init__" 2,
  dIni "NotSettled" "NotSettled.__init__" 11,
  dIni "NotOpen" "NotOpen.__init__" 16,
  dIni "NotCause" "NotCause.__init__" 17,
  dIni "NoTarget" "NoTarget.__init__" 4,
  dIni "NotSource" "NotSource.__init__" 5,
  dIni "Mismatch" "Mismatch.__init__" 20,
  dIni "Taken" "Taken.__init__" 25,
  dIni "Stuck" "Stuck.__init__" 6,
  dIni "BadLine" "BadLine.__init__" 13,
  dIni "BadKind" "BadKind.__init__" 15,
  dIni "NotFresh" "NotFresh.__init__" 18,
  dIni "Conflict" "Conflict.__init__" 21,
  dIni "Failed" "Failed.__init__" 22,
  dIni "BadEntry" "BadEntry.__init__" 23,
  dIni "NotAsked" "NotAsked.__init__" 26,
  dIni "NoVersion" "NoVersion.__init__" 27,
  dIni "BadName" "BadName.__init__" 14]
def frees : List Str := ["isinstance", "len", "zip", "all", "list", "tuple", "bool", "int", "str", "range", "enumerate", "max", "min", "KeyError", "ValueError", "IndexError", "LookupError"]
def glos : List Str := ["BuildError", "_law_feed_of", "_law_draw", "_law_pick", "_law_calls", "_law_some_text", "_law_same", "_law_any_value", "_law_with_places", "_law_with_others", "_law_names_of", "_law_caught", "_law_raised", "_law_named_right", "law"]
def fields : List (Str × Str) := [("Clash", "spot"), ("Gap", "spot"), ("Rewritten", "spot"), ("NoPlace", "spot"), ("NotNeeded", "spot"), ("NotPart", "spot"), ("BadTree", "path"), ("NotSettled", "key"), ("NotOpen", "key"), ("NotCause", "cause"), ("NoTarget", "name"), ("NotSource", "name"), ("Mismatch", "name"), ("Taken", "name"), ("Stuck", "ring"), ("BadLine", "line"), ("BadKind", "line"), ("NotFresh", "words"), ("Conflict", "conflicts"), ("Failed", "path"), ("BadEntry", "entry"), ("NotAsked", "key"), ("NoVersion", "number"), ("BadName", "line"), ("BadName", "name")]
def fa : List He.Fa := (cn ++ glos).map He.Fa.glo ++ frees.map He.Fa.free
def newOf (x : Str) : List Value × String := if x == "NotAsked" then (keB, "LookupError.__new__") else if x == "NoVersion" then (ieB, "IndexError.__new__") else (veB, "ValueError.__new__")
/-- the other facts, as one Bool -/
def exB (K : PySem.W.Frag) : Bool :=
  (cn.all fun x => xcB K (ga K x) (newOf x).1 (newOf x).2) && ((cn.all fun x => cn.all fun y => decide (PySem.W.kitOne K (.ref (ga K x)) (.ref (ga K y)) = some (y == x)))
  && (((cn.take 24).all fun x => decide (PySem.W.kitOne K (.ref (ga K x)) (.ref (ga K "BuildError")) = some true) && (decide (PySem.W.kitOne K (.ref (ga K x)) (.type "ValueError") = some true) && decide (PySem.W.kitOne K (.ref (ga K x)) (.type "LookupError") = some false)))
  && ((fields.all fun q => decide (PySem.W.findIn K (.ref (ga K q.1)) q.2 = some none) && (decide (PySem.W.findIn K (.ref (ga K q.1)) "__init__" = some (some (.ref (ma K (ga K q.1) "__init__")))) && decide (PySem.W.typeIn K (.ref (ma K (ga K q.1) "__init__")) = some (.type "function"))))
  && (PySem.W.excIn K (ga K "Halted") veB "ValueError.__new__" && (PySem.W.excIn K (ga K "NoRow") veB "ValueError.__new__"
  && (decide (PySem.W.exmOne K (.ref (ga K "Stuck")) (.ref (ga K "Stuck")) = some true) && (decide (PySem.W.exmOne K (.ref (ga K "NotAsked")) (.ref (ga K "Stuck")) = some false) && (decide (PySem.W.exmOne K (.ref (ga K "NotAsked")) (.ref (ga K "BuildError")) = some false)
  && (decide (PySem.W.exmOne K (.ref (ga K "NotAsked")) (.type "KeyError") = some true) && (decide (PySem.W.exmOne K (.ref (ga K "Halted")) (.ref (ga K "Stuck")) = some false) && (decide (PySem.W.exmOne K (.ref (ga K "Halted")) (.ref (ga K "BuildError")) = some true)
  && (decide (PySem.W.kitOne K (.ref (ga K "NotAsked")) (.type "KeyError") = some true) && (decide (PySem.W.kitOne K (.ref (ga K "NoVersion")) (.type "IndexError") = some true) && (decide (PySem.W.kitOne K (.ref (ga K "NoVersion")) (.ref (ga K "BuildError")) = some false)
  && decide (PySem.W.kitOne K (.ref (ga K "NotAsked")) (.ref (ga K "BuildError")) = some false)))))))))))))))
/-- the head's look: defs, names, and these -/
abbrev Al : Type := He.AlD × Bool
def obsM (n : Nat) (g : Addr → Option Obj) : Al := (He.obsD fa fn (He.frG g (He.asD g n)), exB (He.frG g (He.asD g n)))
def hk : PySem.W.Hook where
  α := Al
  obs := fun s => obsM 5 s.heap.get?
  val := fun _ => (He.valD fn, true)
  says := fun _ h => ∃ K : PySem.W.Frag, K.In h ∧ He.SaysD fa fn K ∧ exB K = true
  of := fun _ _ e => ⟨_, He.frG_in, congrArg (fun z : Al => z.1) e, congrArg (fun z : Al => z.2) e⟩
  keeps := fun _ _ _ ⟨K, hK, c⟩ k => ⟨K, PySem.W.Frag.In.keeps hK k, c⟩
def ob (s : PySem.W.SharedT) : Al := obsM 5 (HandSHeadRun.getT s)
theorem ob_eq (s : PySem.W.SharedT) : ob s = hk.obs s.abs := by
  have e : HandSHeadRun.getT s = s.abs.heap.get? := funext (HandSHeadRun.getT_eq s)
  unfold ob
  rw [e] <;> rfl
def l1 : List Str := ["BuildError", "BadTree", "Halted", "NoTarget", "NotSource", "Stuck", "Clash", "Gap", "Rewritten", "NoPlace", "NotSettled", "NotNeeded", "BadLine", "BadName", "BadKind", "NotOpen", "NotCause", "NotFresh", "NotPart", "Mismatch"]
def l2 : List Str := ["Conflict", "Failed", "BadEntry", "NoRow", "Taken", "NotAsked", "NoVersion", "_law_feed_of", "_law_draw", "_law_pick", "_law_calls", "_law_some_text", "_law_same", "_law_any_value", "_law_with_places", "_law_with_others", "_law_names_of", "_law_caught", "_law_raised", "_law_named_right"]
def loose : List Str := l1 ++ l2
theorem run (w : World) : HandSHeadRun.RunEq R (PySem.W.view R.prog [42]) hk ob 20000 loose w := by
  intro os
  kernel_rfl
end K1

set_option Elab.async false
set_option linter.all false
set_option maxRecDepth 100000
set_option maxHeartbeats 0
namespace K1
open PySem PySem.Spec PyProof.Rows L2 KX
open He (ga ma)
theorem valsRev : ∀ {vs : List V} {us : List Value}, Vals vs us → Vals vs.reverse us.reverse
  | [], [], .nil => .nil
  | v :: vs, u :: us, .cons r t => by
    rw [List.reverse_cons, List.reverse_cons]
    exact (valsRev t).append (.cons r .nil)
section
variable {P : Program} {w : World} {K : PySem.W.Frag} {mg : Str → Option Value} {base h : Heap}
theorem kbnOf {x q : Str} {params : Arguments} {body : List Stmt} {scope : Scope} {f : Addr} {fd : FuncData} {ps ks : List Str} {n : Nat} {g : List Value → List Value → List Value} {gV : List V → List V → List V} (F : FunD K x q params body scope [] [] f fd)
    (hto : ∀ (kV doc pm : Value) (an : Option Addr) (cdv ct : Value) (us ws : List Value), us.length = n → ws.length = ks.length → bindArgs (PySem.W.fnOf x q params body scope .none kV doc pm an cdv ct) ⟨us, ks.zip ws⟩ = pure (ps.zip (g us ws)))
    (hrel : ∀ {vs : List V} {us : List Value} {zs : List V} {ws : List Value}, Vals vs us → Vals zs ws → Vals (gV vs zs) (g us ws)) : KBn K fd ps n ks g gV := by
  obtain ⟨oc, od, dV, kV, doc, pm, an, cdv, ct, osl, rfl, lk, hcd, hD, _⟩ := F.ex
  rcases hD with ⟨_, rfl⟩ | ⟨e, _⟩
  · exact ⟨fun s us ws _ h1 h2 => .of_eq (hto kV doc pm an cdv ct us ws h1 h2), hrel⟩
  · exact absurd rfl e
/-- what an __init__ with one field is worth -/
def Ini (P : Program) (w : World) (K : PySem.W.Frag) (mg : Str → Option Value) (base : Heap) (x f : Str) : Prop := ∃ fd, FnOk P w K mg base CX0 1 (ma K (ga K x) "__init__") fd ["self", f] (spIni K f) ∧
  KBn K fd ["self", f] 2 [] (fun us _ => us) (fun vs _ => vs) ∧ KBn K fd ["self", f] 1 [f] (fun us ws => us ++ ws) (fun vs zs => vs ++ zs)
theorem iniClash (c : He.SaysD fa fn K) : Ini P w K mg base "Clash" "spot" := by
  obtain ⟨fd, F⟩ := c.def_ 14 (d := dIni "Clash" "Clash.__init__" 7) rfl
  exact ⟨fd, okIni F ⟨rfl, rfl, rfl, by decide +kernel, rfl, by decide +kernel, by decide +kernel⟩ rfl rfl (by decide) (by decide), kbnOf F (fun _ _ _ _ _ _ us ws h1 h2 => match us, h1, ws, h2 with | [_, _], _, [], _ => rfl) (fun r _ => r), kbnOf F (fun _ _ _ _ _ _ us ws h1 h2 => match us, h1, ws, h2 with | [_], _, [_], _ => rfl) (fun r t => r.append t)⟩
theorem iniGap (c : He.SaysD fa fn K) : Ini P w K mg base "Gap" "spot" := by
  obtain ⟨fd, F⟩ := c.def_ 15 (d := dIni "Gap" "Gap.__init__" 8) rfl
  exact ⟨fd, okIni F ⟨rfl, rfl, rfl, by decide +kernel, rfl, by decide +kernel, by decide +kernel⟩ rfl rfl (by decide) (by decide), kbnOf F (fun _ _ _ _ _ _ us ws h1 h2 => match us, h1, ws, h2 with | [_, _], _, [], _ => rfl) (fun r _ => r), kbnOf F (fun _ _ _ _ _ _ us ws h1 h2 => match us, h1, ws, h2 with | [_], _, [_], _ => rfl) (fun r t => r.append t)⟩
theorem iniRewritten (c : He.SaysD fa fn K) : Ini P w K mg base "Rewritten" "spot" := by
  obtain ⟨fd, F⟩ := c.def_ 16 (d := dIni "Rewritten" "Rewritten.__init__" 9) rfl
  exact ⟨fd, okIni F ⟨rfl, rfl, rfl, by decide +kernel, rfl, by decide +kernel, by decide +kernel⟩ rfl rfl (by decide) (by decide), kbnOf F (fun _ _ _ _ _ _ us ws h1 h2 => match us, h1, ws, h2 with | [_, _], _, [], _ => rfl) (fun r _ => r), kbnOf F (fun _ _ _ _ _ _ us ws h1 h2 => match us, h1, ws, h2 with | [_], _, [_], _ => rfl) (fun r t => r.append t)⟩
theorem iniNoPlace (c : He.SaysD fa fn K) : Ini P w K mg base "NoPlace" "spot" := by
  obtain ⟨fd, F⟩ := c.def_ 17 (d := dIni "NoPlace" "NoPlace.__init__" 10) rfl
  exact ⟨fd, okIni F ⟨rfl, rfl, rfl, by decide +kernel, rfl, by decide +kernel, by decide +kernel⟩ rfl rfl (by decide) (by decide), kbnOf F (fun _ _ _ _ _ _ us ws h1 h2 => match us, h1, ws, h2 with | [_, _], _, [], _ => rfl) (fun r _ => r), kbnOf F (fun _ _ _ _ _ _ us ws h1 h2 => match us, h1, ws, h2 with | [_], _, [_], _ => rfl) (fun r t => r.append t)⟩
theorem iniNotNeeded (c : He.SaysD fa fn K) : Ini P w K mg base "NotNeeded" "spot" := by
  obtain ⟨fd, F⟩ := c.def_ 18 (d := dIni "NotNeeded" "NotNeeded.__init__" 12) rfl
  exact ⟨fd, okIni F ⟨rfl, rfl, rfl, by decide +kernel, rfl, by decide +kernel, by decide +kernel⟩ rfl rfl (by decide) (by decide), kbnOf F (fun _ _ _ _ _ _ us ws h1 h2 => match us, h1, ws, h2 with | [_, _], _, [], _ => rfl) (fun r _ => r), kbnOf F (fun _ _ _ _ _ _ us ws h1 h2 => match us, h1, ws, h2 with | [_], _, [_], _ => rfl) (fun r t => r.append t)⟩
theorem iniNotPart (c : He.SaysD fa fn K) : Ini P w K mg base "NotPart" "spot" := by
  obtain ⟨fd, F⟩ := c.def_ 19 (d := dIni "NotPart" "NotPart.__init__" 19) rfl
  exact ⟨fd, okIni F ⟨rfl, rfl, rfl, by decide +kernel, rfl, by decide +kernel, by decide +kernel⟩ rfl rfl (by decide) (by decide), kbnOf F (fun _ _ _ _ _ _ us ws h1 h2 => match us, h1, ws, h2 with | [_, _], _, [], _ => rfl) (fun r _ => r), kbnOf F (fun _ _ _ _ _ _ us ws h1 h2 => match us, h1, ws, h2 with | [_], _, [_], _ => rfl) (fun r t => r.append t)⟩
theorem iniBadTree (c : He.SaysD fa fn K) : Ini P w K mg base "BadTree" "path" := by
  obtain ⟨fd, F⟩ := c.def_ 20 (d := dIni "BadTree" "BadTree.__init__" 2) rfl
  exact ⟨fd, okIni F ⟨rfl, rfl, rfl, by decide +kernel, rfl, by decide +kernel, by decide +kernel⟩ rfl rfl (by decide) (by decide), kbnOf F (fun _ _ _ _ _ _ us ws h1 h2 => match us, h1, ws, h2 with | [_, _], _, [], _ => rfl) (fun r _ => r), kbnOf F (fun _ _ _ _ _ _ us ws h1 h2 => match us, h1, ws, h2 with | [_], _, [_], _ => rfl) (fun r t => r.append t)⟩
theorem iniNotSettled (c : He.SaysD fa fn K) : Ini P w K mg base "NotSettled" "key" := by
  obtain ⟨fd, F⟩ := c.def_ 21 (d := dIni "NotSettled" "NotSettled.__init__" 11) rfl
  exact ⟨fd, okIni F ⟨rfl, rfl, rfl, by decide +kernel, rfl, by decide +kernel, by decide +kernel⟩ rfl rfl (by decide) (by decide), kbnOf F (fun _ _ _ _ _ _ us ws h1 h2 => match us, h1, ws, h2 with | [_, _], _, [], _ => rfl) (fun r _ => r), kbnOf F (fun _ _ _ _ _ _ us ws h1 h2 => match us, h1, ws, h2 with | [_], _, [_], _ => rfl) (fun r t => r.append t)⟩
theorem iniNotOpen (c : He.SaysD fa fn K) : Ini P w K mg base "NotOpen" "key" := by
  obtain ⟨fd, F⟩ := c.def_ 22 (d := dIni "NotOpen" "NotOpen.__init__" 16) rfl
  exact ⟨fd, okIni F ⟨rfl, rfl, rfl, by decide +kernel, rfl, by decide +kernel, by decide +kernel⟩ rfl rfl (by decide) (by decide), kbnOf F (fun _ _ _ _ _ _ us ws h1 h2 => match us, h1, ws, h2 with | [_, _], _, [], _ => rfl) (fun r _ => r), kbnOf F (fun _ _ _ _ _ _ us ws h1 h2 => match us, h1, ws, h2 with | [_], _, [_], _ => rfl) (fun r t => r.append t)⟩
theorem iniNotCause (c : He.SaysD fa fn K) : Ini P w K mg base "NotCause" "cause" := by
  obtain ⟨fd, F⟩ := c.def_ 23 (d := dIni "NotCause" "NotCause.__init__" 17) rfl
  exact ⟨fd, okIni F ⟨rfl, rfl, rfl, by decide +kernel, rfl, by decide +kernel, by decide +kernel⟩ rfl rfl (by decide) (by decide), kbnOf F (fun _ _ _ _ _ _ us ws h1 h2 => match us, h1, ws, h2 with | [_, _], _, [], _ => rfl) (fun r _ => r), kbnOf F (fun _ _ _ _ _ _ us ws h1 h2 => match us, h1, ws, h2 with | [_], _, [_], _ => rfl) (fun r t => r.append t)⟩
theorem iniNoTarget (c : He.SaysD fa fn K) : Ini P w K mg base "NoTarget" "name" := by
  obtain ⟨fd, F⟩ := c.def_ 24 (d := dIni "NoTarget" "NoTarget.__init__" 4) rfl
  exact ⟨fd, okIni F ⟨rfl, rfl, rfl, by decide +kernel, rfl, by decide +kernel, by decide +kernel⟩ rfl rfl (by decide) (by decide), kbnOf F (fun _ _ _ _ _ _ us ws h1 h2 => match us, h1, ws, h2 with | [_, _], _, [], _ => rfl) (fun r _ => r), kbnOf F (fun _ _ _ _ _ _ us ws h1 h2 => match us, h1, ws, h2 with | [_], _, [_], _ => rfl) (fun r t => r.append t)⟩
theorem iniNotSource (c : He.SaysD fa fn K) : Ini P w K mg base "NotSource" "name" := by
  obtain ⟨fd, F⟩ := c.def_ 25 (d := dIni "NotSource" "NotSource.__init__" 5) rfl
  exact ⟨fd, okIni F ⟨rfl, rfl, rfl, by decide +kernel, rfl, by decide +kernel, by decide +kernel⟩ rfl rfl (by decide) (by decide), kbnOf F (fun _ _ _ _ _ _ us ws h1 h2 => match us, h1, ws, h2 with | [_, _], _, [], _ => rfl) (fun r _ => r), kbnOf F (fun _ _ _ _ _ _ us ws h1 h2 => match us, h1, ws, h2 with | [_], _, [_], _ => rfl) (fun r t => r.append t)⟩
theorem iniMismatch (c : He.SaysD fa fn K) : Ini P w K mg base "Mismatch" "name" := by
  obtain ⟨fd, F⟩ := c.def_ 26 (d := dIni "Mismatch" "Mismatch.__init__" 20) rfl
  exact ⟨fd, okIni F ⟨rfl, rfl, rfl, by decide +kernel, rfl, by decide +kernel, by decide +kernel⟩ rfl rfl (by decide) (by decide), kbnOf F (fun _ _ _ _ _ _ us ws h1 h2 => match us, h1, ws, h2 with | [_, _], _, [], _ => rfl) (fun r _ => r), kbnOf F (fun _ _ _ _ _ _ us ws h1 h2 => match us, h1, ws, h2 with | [_], _, [_], _ => rfl) (fun r t => r.append t)⟩
theorem iniTaken (c : He.SaysD fa fn K) : Ini P w K mg base "Taken" "name" := by
  obtain ⟨fd, F⟩ := c.def_ 27 (d := dIni "Taken" "Taken.__init__" 25) rfl
  exact ⟨fd, okIni F ⟨rfl, rfl, rfl, by decide +kernel, rfl, by decide +kernel, by decide +kernel⟩ rfl rfl (by decide) (by decide), kbnOf F (fun _ _ _ _ _ _ us ws h1 h2 => match us, h1, ws, h2 with | [_, _], _, [], _ => rfl) (fun r _ => r), kbnOf F (fun _ _ _ _ _ _ us ws h1 h2 => match us, h1, ws, h2 with | [_], _, [_], _ => rfl) (fun r t => r.append t)⟩
theorem iniStuck (c : He.SaysD fa fn K) : Ini P w K mg base "Stuck" "ring" := by
  obtain ⟨fd, F⟩ := c.def_ 28 (d := dIni "Stuck" "Stuck.__init__" 6) rfl
  exact ⟨fd, okIni F ⟨rfl, rfl, rfl, by decide +kernel, rfl, by decide +kernel, by decide +kernel⟩ rfl rfl (by decide) (by decide), kbnOf F (fun _ _ _ _ _ _ us ws h1 h2 => match us, h1, ws, h2 with | [_, _], _, [], _ => rfl) (fun r _ => r), kbnOf F (fun _ _ _ _ _ _ us ws h1 h2 => match us, h1, ws, h2 with | [_], _, [_], _ => rfl) (fun r t => r.append t)⟩
theorem iniBadLine (c : He.SaysD fa fn K) : Ini P w K mg base "BadLine" "line" := by
  obtain ⟨fd, F⟩ := c.def_ 29 (d := dIni "BadLine" "BadLine.__init__" 13) rfl
  exact ⟨fd, okIni F ⟨rfl, rfl, rfl, by decide +kernel, rfl, by decide +kernel, by decide +kernel⟩ rfl rfl (by decide) (by decide), kbnOf F (fun _ _ _ _ _ _ us ws h1 h2 => match us, h1, ws, h2 with | [_, _], _, [], _ => rfl) (fun r _ => r), kbnOf F (fun _ _ _ _ _ _ us ws h1 h2 => match us, h1, ws, h2 with | [_], _, [_], _ => rfl) (fun r t => r.append t)⟩
theorem iniBadKind (c : He.SaysD fa fn K) : Ini P w K mg base "BadKind" "line" := by
  obtain ⟨fd, F⟩ := c.def_ 30 (d := dIni "BadKind" "BadKind.__init__" 15) rfl
  exact ⟨fd, okIni F ⟨rfl, rfl, rfl, by decide +kernel, rfl, by decide +kernel, by decide +kernel⟩ rfl rfl (by decide) (by decide), kbnOf F (fun _ _ _ _ _ _ us ws h1 h2 => match us, h1, ws, h2 with | [_, _], _, [], _ => rfl) (fun r _ => r), kbnOf F (fun _ _ _ _ _ _ us ws h1 h2 => match us, h1, ws, h2 with | [_], _, [_], _ => rfl) (fun r t => r.append t)⟩
theorem iniNotFresh (c : He.SaysD fa fn K) : Ini P w K mg base "NotFresh" "words" := by
  obtain ⟨fd, F⟩ := c.def_ 31 (d := dIni "NotFresh" "NotFresh.__init__" 18) rfl
  exact ⟨fd, okIni F ⟨rfl, rfl, rfl, by decide +kernel, rfl, by decide +kernel, by decide +kernel⟩ rfl rfl (by decide) (by decide), kbnOf F (fun _ _ _ _ _ _ us ws h1 h2 => match us, h1, ws, h2 with | [_, _], _, [], _ => rfl) (fun r _ => r), kbnOf F (fun _ _ _ _ _ _ us ws h1 h2 => match us, h1, ws, h2 with | [_], _, [_], _ => rfl) (fun r t => r.append t)⟩
theorem iniConflict (c : He.SaysD fa fn K) : Ini P w K mg base "Conflict" "conflicts" := by
  obtain ⟨fd, F⟩ := c.def_ 32 (d := dIni "Conflict" "Conflict.__init__" 21) rfl
  exact ⟨fd, okIni F ⟨rfl, rfl, rfl, by decide +kernel, rfl, by decide +kernel, by decide +kernel⟩ rfl rfl (by decide) (by decide), kbnOf F (fun _ _ _ _ _ _ us ws h1 h2 => match us, h1, ws, h2 with | [_, _], _, [], _ => rfl) (fun r _ => r), kbnOf F (fun _ _ _ _ _ _ us ws h1 h2 => match us, h1, ws, h2 with | [_], _, [_], _ => rfl) (fun r t => r.append t)⟩
theorem iniFailed (c : He.SaysD fa fn K) : Ini P w K mg base "Failed" "path" := by
  obtain ⟨fd, F⟩ := c.def_ 33 (d := dIni "Failed" "Failed.__init__" 22) rfl
  exact ⟨fd, okIni F ⟨rfl, rfl, rfl, by decide +kernel, rfl, by decide +kernel, by decide +kernel⟩ rfl rfl (by decide) (by decide), kbnOf F (fun _ _ _ _ _ _ us ws h1 h2 => match us, h1, ws, h2 with | [_, _], _, [], _ => rfl) (fun r _ => r), kbnOf F (fun _ _ _ _ _ _ us ws h1 h2 => match us, h1, ws, h2 with | [_], _, [_], _ => rfl) (fun r t => r.append t)⟩
theorem iniBadEntry (c : He.SaysD fa fn K) : Ini P w K mg base "BadEntry" "entry" := by
  obtain ⟨fd, F⟩ := c.def_ 34 (d := dIni "BadEntry" "BadEntry.__init__" 23) rfl
  exact ⟨fd, okIni F ⟨rfl, rfl, rfl, by decide +kernel, rfl, by decide +kernel, by decide +kernel⟩ rfl rfl (by decide) (by decide), kbnOf F (fun _ _ _ _ _ _ us ws h1 h2 => match us, h1, ws, h2 with | [_, _], _, [], _ => rfl) (fun r _ => r), kbnOf F (fun _ _ _ _ _ _ us ws h1 h2 => match us, h1, ws, h2 with | [_], _, [_], _ => rfl) (fun r t => r.append t)⟩
theorem iniNotAsked (c : He.SaysD fa fn K) : Ini P w K mg base "NotAsked" "key" := by
  obtain ⟨fd, F⟩ := c.def_ 35 (d := dIni "NotAsked" "NotAsked.__init__" 26) rfl
  exact ⟨fd, okIni F ⟨rfl, rfl, rfl, by decide +kernel, rfl, by decide +kernel, by decide +kernel⟩ rfl rfl (by decide) (by decide), kbnOf F (fun _ _ _ _ _ _ us ws h1 h2 => match us, h1, ws, h2 with | [_, _], _, [], _ => rfl) (fun r _ => r), kbnOf F (fun _ _ _ _ _ _ us ws h1 h2 => match us, h1, ws, h2 with | [_], _, [_], _ => rfl) (fun r t => r.append t)⟩
theorem iniNoVersion (c : He.SaysD fa fn K) : Ini P w K mg base "NoVersion" "number" := by
  obtain ⟨fd, F⟩ := c.def_ 36 (d := dIni "NoVersion" "NoVersion.__init__" 27) rfl
  exact ⟨fd, okIni F ⟨rfl, rfl, rfl, by decide +kernel, rfl, by decide +kernel, by decide +kernel⟩ rfl rfl (by decide) (by decide), kbnOf F (fun _ _ _ _ _ _ us ws h1 h2 => match us, h1, ws, h2 with | [_, _], _, [], _ => rfl) (fun r _ => r), kbnOf F (fun _ _ _ _ _ _ us ws h1 h2 => match us, h1, ws, h2 with | [_], _, [_], _ => rfl) (fun r t => r.append t)⟩
theorem ini2 (c : He.SaysD fa fn K) : ∃ fd, FnOk P w K mg base CX0 1 (ma K (ga K "BadName") "__init__") fd ["self", "line", "name"] (spIni2 K "line" "name") ∧
    KBn K fd ["self", "line", "name"] 3 [] (fun us _ => us) (fun vs _ => vs) ∧ KBn K fd ["self", "line", "name"] 1 ["name", "line"] (fun us ws => us ++ ws.reverse) (fun vs zs => vs ++ zs.reverse) := by
  obtain ⟨fd, F⟩ := c.def_ 37 (d := dIni "BadName" "BadName.__init__" 14) rfl
  exact ⟨fd, okIni2 F ⟨rfl, rfl, rfl, by decide +kernel, rfl, by decide +kernel, by decide +kernel⟩ rfl rfl rfl (by decide) (by decide) (by decide) (by decide), kbnOf F (fun _ _ _ _ _ _ us ws h1 h2 => match us, h1, ws, h2 with | [_, _, _], _, [], _ => rfl) (fun r _ => r),
    kbnOf F (fun _ _ _ _ _ _ us ws h1 h2 => match us, h1, ws, h2 with | [_], _, [_, _], _ => rfl) (fun r t => r.append (valsRev t))⟩
/-- all that the Bool tells -/
theorem exB_parts (e : exB K = true) : (∀ x ∈ cn, xcB K (ga K x) (newOf x).1 (newOf x).2 = true) ∧ (∀ x ∈ cn, ∀ y ∈ cn, PySem.W.kitOne K (.ref (ga K x)) (.ref (ga K y)) = some (y == x)) ∧
    (∀ x ∈ cn.take 24, PySem.W.kitOne K (.ref (ga K x)) (.ref (ga K "BuildError")) = some true ∧ PySem.W.kitOne K (.ref (ga K x)) (.type "ValueError") = some true ∧ PySem.W.kitOne K (.ref (ga K x)) (.type "LookupError") = some false) ∧
    (∀ q ∈ fields, PySem.W.findIn K (.ref (ga K q.1)) q.2 = some none ∧ PySem.W.findIn K (.ref (ga K q.1)) "__init__" = some (some (.ref (ma K (ga K q.1) "__init__"))) ∧ PySem.W.typeIn K (.ref (ma K (ga K q.1) "__init__")) = some (.type "function")) ∧
    PySem.W.excIn K (ga K "Halted") veB "ValueError.__new__" = true ∧ PySem.W.excIn K (ga K "NoRow") veB "ValueError.__new__" = true ∧
    PySem.W.exmOne K (.ref (ga K "Stuck")) (.ref (ga K "Stuck")) = some true ∧ PySem.W.exmOne K (.ref (ga K "NotAsked")) (.ref (ga K "Stuck")) = some false ∧ PySem.W.exmOne K (.ref (ga K "NotAsked")) (.ref (ga K "BuildError")) = some false ∧
    PySem.W.exmOne K (.ref (ga K "NotAsked")) (.type "KeyError") = some true ∧ PySem.W.exmOne K (.ref (ga K "Halted")) (.ref (ga K "Stuck")) = some false ∧ PySem.W.exmOne K (.ref (ga K "Halted")) (.ref (ga K "BuildError")) = some true ∧
    PySem.W.kitOne K (.ref (ga K "NotAsked")) (.type "KeyError") = some true ∧ PySem.W.kitOne K (.ref (ga K "NoVersion")) (.type "IndexError") = some true ∧ PySem.W.kitOne K (.ref (ga K "NoVersion")) (.ref (ga K "BuildError")) = some false ∧
    PySem.W.kitOne K (.ref (ga K "NotAsked")) (.ref (ga K "BuildError")) = some false := by
  unfold exB at e
  simp only [Bool.and_eq_true, decide_eq_true_eq, List.all_eq_true] at e
  exact e
theorem kdOf (x : Str) : Kd (newOf x).1 (newOf x).2 := by
  unfold newOf
  split
  · exact kdKe
  · split
    · exact kdIe
    · exact kdVe
theorem At.mono {j k : Nat} {x : Str} {ps : List Str} {sp : Sp} (A : At P w K mg base j x ps sp) (h : j ≤ k) : At P w K mg base k x ps sp := by
  obtain ⟨f, fd, a, b, c, F⟩ := A.ex
  exact ⟨f, fd, a, b, c, F.mono h⟩
theorem factM (c : He.SaysD fa fn K) {f : He.Fa} (hm : f ∈ fa) : f.ok K = true := by
  obtain ⟨i, hi, e⟩ := List.mem_iff_getElem.mp hm
  exact c.fact i (f := f) (by rw [List.getElem?_eq_getElem hi, e])
theorem facts {f : Addr} (X : K.In h) (G : h.Ns mainGlobals mg) (hfa : mg ("law" : Str) = some (.ref f)) (c : He.SaysD fa fn K) (e : exB K = true) :
    ∃ fd : FuncData, (∀ (s : Shared) (v : Value), BindsTo s fd ⟨[v], []⟩ [("_law_script", v)]) ∧ ∀ base : Heap, K.In base → base.Ns mainGlobals mg → FnOk P w K mg base CX0 6 f fd ["_law_script"] (spLaw K) := by
  obtain ⟨p1, p2, p3, p4, p5, p6, p7, p8, p9, p10, p11, p12, p13, p14, p15, p16⟩ := exB_parts e
  have glo : ∀ x ∈ cn ++ glos, mg x = some (.ref (ga K x)) := fun x hx => He.glo_ok X G (factM c (f := .glo x) (List.mem_append_left _ (List.mem_map_of_mem hx)))
  have fre : ∀ x ∈ frees, mg x = none := fun x hx => He.free_ok X G (factM c (f := .free x) (List.mem_append_right _ (List.mem_map_of_mem hx)))
  have B : Bn mg := ⟨fre _ (by decide +kernel), fre _ (by decide +kernel), fre _ (by decide +kernel), fre _ (by decide +kernel), fre _ (by decide +kernel), fre _ (by decide +kernel), fre _ (by decide +kernel), fre _ (by decide +kernel), fre _ (by decide +kernel), fre _ (by decide +kernel), fre _ (by decide +kernel), fre _ (by decide +kernel), fre _ (by decide +kernel)⟩
  have KS : Ks K mg := ⟨fun x hx => glo x (List.mem_append_left _ hx), fun x hx => xcB_ok (kdOf x) (p1 x hx), p2⟩
  have KX : Kx K mg := ⟨glo _ (by decide +kernel), fre _ (by decide +kernel), fre _ (by decide +kernel), fre _ (by decide +kernel), fre _ (by decide +kernel), p3, p7, p8, p9, p10, p11, p12, p13, p14, p15, p16⟩
  have H0 : Cl0 K mg "Halted" (ga K "Halted") := ⟨KS.xc _ (by decide +kernel), glo _ (by decide +kernel), p5⟩
  have N0 : Cl0 K mg "NoRow" (ga K "NoRow") := ⟨KS.xc _ (by decide +kernel), glo _ (by decide +kernel), p6⟩
  obtain ⟨fd, F⟩ := c.def_ 13 (d := dOf "law" 42) rfl
  have ef := hfa.symm.trans (glo "law" (by decide +kernel))
  cases ef
  have b := FunD.bindsA (ps := ["_law_script"]) F fun _ _ _ _ _ _ us hl => match us, hl with | [_], _ => rfl
  refine ⟨fd, fun s v => b s [v] rfl, fun base hb hg => ?_⟩
  have one : ∀ {x f : Str}, x ∈ cn → (x, f) ∈ fields → Ini P w K mg base x f → Cl1 P w K mg base x (ga K x) f := fun hx hq ⟨fd, a, b, d⟩ => by
    obtain ⟨q1, q2, q3⟩ := p4 _ hq
    exact ⟨KS.xc _ hx, KS.gm _ hx, q1, _, fd, q2, q3, a, b, d⟩
  have C : C1s P w K mg base := ⟨fun q hq => by
    rcases List.mem_cons.mp hq with rfl | hq
    · exact one (by decide +kernel) (by decide +kernel) (iniClash c)
    rcases List.mem_cons.mp hq with rfl | hq
    · exact one (by decide +kernel) (by decide +kernel) (iniGap c)
    rcases List.mem_cons.mp hq with rfl | hq
    · exact one (by decide +kernel) (by decide +kernel) (iniRewritten c)
    rcases List.mem_cons.mp hq with rfl | hq
    · exact one (by decide +kernel) (by decide +kernel) (iniNoPlace c)
    rcases List.mem_cons.mp hq with rfl | hq
    · exact one (by decide +kernel) (by decide +kernel) (iniNotNeeded c)
    rcases List.mem_cons.mp hq with rfl | hq
    · exact one (by decide +kernel) (by decide +kernel) (iniNotPart c)
    rcases List.mem_cons.mp hq with rfl | hq
    · exact one (by decide +kernel) (by decide +kernel) (iniBadTree c)
    rcases List.mem_cons.mp hq with rfl | hq
    · exact one (by decide +kernel) (by decide +kernel) (iniNotSettled c)
    rcases List.mem_cons.mp hq with rfl | hq
    · exact one (by decide +kernel) (by decide +kernel) (iniNotOpen c)
    rcases List.mem_cons.mp hq with rfl | hq
    · exact one (by decide +kernel) (by decide +kernel) (iniNotCause c)
    rcases List.mem_cons.mp hq with rfl | hq
    · exact one (by decide +kernel) (by decide +kernel) (iniNoTarget c)
    rcases List.mem_cons.mp hq with rfl | hq
    · exact one (by decide +kernel) (by decide +kernel) (iniNotSource c)
    rcases List.mem_cons.mp hq with rfl | hq
    · exact one (by decide +kernel) (by decide +kernel) (iniMismatch c)
    rcases List.mem_cons.mp hq with rfl | hq
    · exact one (by decide +kernel) (by decide +kernel) (iniTaken c)
    rcases List.mem_cons.mp hq with rfl | hq
    · exact one (by decide +kernel) (by decide +kernel) (iniStuck c)
    rcases List.mem_cons.mp hq with rfl | hq
    · exact one (by decide +kernel) (by decide +kernel) (iniBadLine c)
    rcases List.mem_cons.mp hq with rfl | hq
    · exact one (by decide +kernel) (by decide +kernel) (iniBadKind c)
    rcases List.mem_cons.mp hq with rfl | hq
    · exact one (by decide +kernel) (by decide +kernel) (iniNotFresh c)
    rcases List.mem_cons.mp hq with rfl | hq
    · exact one (by decide +kernel) (by decide +kernel) (iniConflict c)
    rcases List.mem_cons.mp hq with rfl | hq
    · exact one (by decide +kernel) (by decide +kernel) (iniFailed c)
    rcases List.mem_cons.mp hq with rfl | hq
    · exact one (by decide +kernel) (by decide +kernel) (iniBadEntry c)
    rcases List.mem_cons.mp hq with rfl | hq
    · exact one (by decide +kernel) (by decide +kernel) (iniNotAsked c)
    rcases List.mem_cons.mp hq with rfl | hq
    · exact one (by decide +kernel) (by decide +kernel) (iniNoVersion c)
    cases hq⟩
  have C2 : Cl2 P w K mg base "BadName" (ga K "BadName") "line" "name" := by
    obtain ⟨q1, q2, q3⟩ := p4 ("BadName", "line") (by decide +kernel)
    obtain ⟨r1, _, _⟩ := p4 ("BadName", "name") (by decide +kernel)
    obtain ⟨fd, a, b, d⟩ := ini2 (P := P) (w := w) (mg := mg) (base := base) c
    exact ⟨KS.xc _ (by decide +kernel), KS.gm _ (by decide +kernel), q1, r1, _, fd, q2, q3, a, b, d⟩
  obtain ⟨d0, F0⟩ := c.def_ 0 (d := dOf "_law_feed_of" 29) rfl
  have A0 : At P w K mg base 1 "_law_feed_of" ["_law_script", "_law_k"] (spFeed K) := ⟨_, d0, glo _ (by decide +kernel), F0.kp, F0.bindsN (fun _ _ _ _ _ _ us hl => match us, hl with | [_, _], _ => rfl), okFeed (k := 0) F0 B.len⟩
  obtain ⟨d1, F1⟩ := c.def_ 1 (d := dOf "_law_draw" 30) rfl
  have A1 : At P w K mg base 1 "_law_draw" ["_law_feed", "_law_many"] (spDraw) := ⟨_, d1, glo _ (by decide +kernel), F1.kp, F1.bindsN (fun _ _ _ _ _ _ us hl => match us, hl with | [_, _], _ => rfl), okDraw (k := 0) F1⟩
  obtain ⟨d2, F2⟩ := c.def_ 2 (d := dOf "_law_pick" 31) rfl
  have A2 : At P w K mg base 2 "_law_pick" ["_law_feed", "_law_items"] (spPick K) := ⟨_, d2, glo _ (by decide +kernel), F2.kp, F2.bindsN (fun _ _ _ _ _ _ us hl => match us, hl with | [_, _], _ => rfl), okPick (k := 0) F2 B.len A1⟩
  obtain ⟨d3, F3⟩ := c.def_ 3 (d := dOf "_law_calls" 32) rfl
  have A3 : At P w K mg base 1 "_law_calls" [] (spCalls) := ⟨_, d3, glo _ (by decide +kernel), F3.kp, F3.bindsN (fun _ _ _ _ _ _ us hl => match us, hl with | [], _ => rfl), okCalls (k := 0) F3⟩
  obtain ⟨d4, F4⟩ := c.def_ 4 (d := dOf "_law_some_text" 33) rfl
  have A4 : At P w K mg base 3 "_law_some_text" ["_law_feed"] (spText) := ⟨_, d4, glo _ (by decide +kernel), F4.kp, F4.bindsN (fun _ _ _ _ _ _ us hl => match us, hl with | [_], _ => rfl), okText (k := 0) F4 A1 A2 A3⟩
  obtain ⟨d5, F5⟩ := c.def_ 5 (d := dOf "_law_same" 34) rfl
  have A5 : At P w K mg base 4 "_law_same" ["_law_found", "_law_due"] (spSame K 3) := ⟨_, d5, glo _ (by decide +kernel), F5.kp, F5.bindsN (fun _ _ _ _ _ _ us hl => match us, hl with | [_, _], _ => rfl), okSame F5 (glo _ (by decide +kernel)) B 3 0⟩
  obtain ⟨d6, F6⟩ := c.def_ 6 (d := dOf "_law_any_value" 35) rfl
  have A6 : At P w K mg base 4 "_law_any_value" ["_law_feed"] (spAny) := ⟨_, d6, glo _ (by decide +kernel), F6.kp, F6.bindsN (fun _ _ _ _ _ _ us hl => match us, hl with | [_], _ => rfl), okAny (k := 0) F6 A1 A4⟩
  obtain ⟨d7, F7⟩ := c.def_ 7 (d := dOf "_law_with_places" 36) rfl
  have A7 : At P w K mg base 3 "_law_with_places" ["_law_a"] (spMany K 0 10) := ⟨_, d7, glo _ (by decide +kernel), F7.kp, F7.bindsN (fun _ _ _ _ _ _ us hl => match us, hl with | [_], _ => rfl), okPlaces (k := 0) F7 C⟩
  obtain ⟨d8, F8⟩ := c.def_ 8 (d := dOf "_law_with_others" 37) rfl
  have A8 : At P w K mg base 3 "_law_with_others" ["_law_a"] (spMany K 10 11) := ⟨_, d8, glo _ (by decide +kernel), F8.kp, F8.bindsN (fun _ _ _ _ _ _ us hl => match us, hl with | [_], _ => rfl), okOthers (k := 0) F8 C⟩
  obtain ⟨d9, F9⟩ := c.def_ 9 (d := dOf "_law_names_of" 38) rfl
  have A9 : At P w K mg base 1 "_law_names_of" ["_law_e"] (spNames K) := ⟨_, d9, glo _ (by decide +kernel), F9.kp, F9.bindsN (fun _ _ _ _ _ _ us hl => match us, hl with | [_], _ => rfl), okNames (k := 0) F9 KS B⟩
  obtain ⟨d10, F10⟩ := c.def_ 10 (d := dOf "_law_caught" 39) rfl
  have A10 : At P w K mg base 1 "_law_caught" ["_law_e"] (spCaught K) := ⟨_, d10, glo _ (by decide +kernel), F10.kp, F10.bindsN (fun _ _ _ _ _ _ us hl => match us, hl with | [_], _ => rfl), okCaught (k := 0) F10 KS KX B⟩
  obtain ⟨d11, F11⟩ := c.def_ 11 (d := dOf "_law_raised" 40) rfl
  have A11 : At P w K mg base 3 "_law_raised" ["_law_form", "_law_a"] (spRaised) := ⟨_, d11, glo _ (by decide +kernel), F11.kp, F11.bindsN (fun _ _ _ _ _ _ us hl => match us, hl with | [_, _], _ => rfl), okRaised (k := 0) F11 KS KX B C H0⟩
  obtain ⟨d12, F12⟩ := c.def_ 12 (d := dOf "_law_named_right" 41) rfl
  have A12 : At P w K mg base 5 "_law_named_right" ["_law_a", "_law_b"] (spRight) := ⟨_, d12, glo _ (by decide +kernel), F12.kp, F12.bindsN (fun _ _ _ _ _ _ us hl => match us, hl with | [_, _], _ => rfl), okRight (k := 0) F12 B C C2 A5⟩
  exact okLaw F B KS KX C C2 H0 N0 (A0.mono (by decide)) (A6.mono (by decide)) (A7.mono (by decide)) (A8.mono (by decide)) (A5.mono (by decide)) (A9.mono (by decide)) (A10.mono (by decide)) (A12.mono (by decide)) (A11.mono (by decide))
end
end K1

set_option Elab.async false
set_option linter.all false
set_option maxRecDepth 100000
set_option maxHeartbeats 0
open PySem PySem.W PySem.Calls PyProof.Rows
theorem PySem.Challenge.cw_farenough_k01_errors_and_their_values_holds : PySem.Challenge.rw_farenough_k01_errors_and_their_values.Holds := by
  w_on; o_law
  refine HandSHeadRun.head_any (r := OpenLaw.row PySem.Challenge.rw_farenough_k01_errors_and_their_values) (q := view (OpenLaw.row PySem.Challenge.rw_farenough_k01_errors_and_their_values).prog [42]) (H := K1.hk) (ob := K1.ob) (M := 20000) (loose := K1.loose)
    (d := HandSHeadRun.topDef (OpenLaw.row PySem.Challenge.rw_farenough_k01_errors_and_their_values).prog 42) (kwd := []) K1.ob_eq
    (by kernel_rfl) (fun s => by kernel_rfl) K1.run (by kernel_rfl) (by kernel_rfl) (by kernel_rfl) (by rfl) (by first | assumption | decide +kernel) (by decide +kernel) ⟨rfl, rfl, rfl, rfl, rfl, by decide +kernel⟩ ?hw ?hc
  case hw => w_witness2
  case hc =>
    refine L2.walk_ofE (l := PySem.Challenge.rw_farenough_k01_errors_and_their_values) (n := 63) (k := 6) (x := "_law_script") (CX := L2.CX0) rfl (by decide) (by kernel_rfl) ⟨rfl, by decide, by decide⟩ ?F (fun _ _ _ _ z => z)
    intro w mg fa h Y G hmg0
    obtain ⟨K, KX, c, e⟩ := Y
    have hmg : mg ("law" : PySem.Str) = some (.ref fa) := by
      have e : (HandSHeadRun.topDef (OpenLaw.row PySem.Challenge.rw_farenough_k01_errors_and_their_values).prog 42).name = ("law" : PySem.Str) := by kernel_rfl
      rw [← e]
      exact hmg0
    obtain ⟨fd, hb, hF⟩ := K1.facts (P := (PySem.Challenge.rw_farenough_k01_errors_and_their_values).prog) (w := w) KX G hmg c e
    exact ⟨K, fd, K1.spLaw K, KX, hb, fun H a ns hl _ hS => ⟨a, ns, rfl, hS, hl, fun _ => rfl⟩, hF⟩


import PyProof.Rows.All
import HandS.TupSets
import HandS.Strs
import HandS.Dict
import HandS.Codes
import PyProof.MeetsSeq2
import HandS.ForMost
import HandS.Style
import HandS.IsInst
import HandS.Zip
import HandS.TupAny
import HandS.Words
import HandS.Defaults
import PySem.Challenge.RW_farenough_k04_steps_of_trees
import HandS.StrMore
import PyProof.Rows.StrJoinRep
import Wide.All
import OpenK.AllK
import Wide.FinOn
import HandS.Base
import HandS.Call
import HandS.List
import HandS.Comp
import HandS.DictComp
import HandS.More
import KE.KDictKeyed
import KE.KDictWalk
import KE.KDictSum
import KE.SortData
import KE.SortKeyHeap
import KE.KSortKey
import HandS.SortKw
import HandS.ExcOwn
import KE.SortLaws
import HandS.Star
import HandS.Flow
import HandS.Text
import HandS.Deep
import HandS.RevRange
import HandS.Conv
import HandS.TupMul
import HandS.OwnEq
import HandS.New
import HandS.Property
import KE.KStateDown
import HandS.Head0
import HandS.Head1
import HandS.Head2
import HandS.HeadEnd
import HandS.HeadHook2
set_option Elab.async false
set_option linter.all false
set_option maxRecDepth 100000
/-! the table of a set with at most four tuples of texts -/
namespace S4
open PySem PySem.Spec PyProof.Rows L2

abbrev Tx (P : Program) (w : World) (h : Heap) (k : List Str) (a : Addr) : Prop := IsTupleKey (PySem.strKind P w) h k a
abbrev hx (P : Program) (w : World) (k : List Str) : Int := tupleKeyHash (PySem.strKind P w) k

/-- the c-th state of the way of a hash -/
def N (t : SetTable) (g : Int) (c : Nat) : SetTable.Probe := nth t.mask (runAt t.mask (SetTable.bits g % (t.mask + 1)) (SetTable.bits g)) c
theorem N_add (t : SetTable) (g : Int) (c q : Nat) : nth t.mask (N t g c) q = N t g (c + q) := (nth_add t.mask c _ q).symm
theorem N_j (t : SetTable) (g : Int) (c : Nat) : (N t g c).j = way t.mask g c := rfl
theorem N_none (t : SetTable) (g : Int) : ∀ c, (N t g c).dummy = none
  | 0 => rfl
  | c + 1 => by
    have e : N t g (c + 1) = adv t.mask (N t g c) := nth_succ _ _ _
    have ih := N_none t g c
    rw [e]
    unfold adv
    split <;> exact ih

structure Tab (P : Program) (w : World) (h : Heap) (a : Addr) (L : List (Addr × List Str)) (es : Array (Int × Value)) (ep : Nat) (t : SetTable) : Prop where
  obj : ∃ o, h.get? a = some o ∧ o.ExactSet ∧ o.data = .set es ep t
  ents : es.toList = L.map fun q => (hx P w q.2, Value.ref q.1)
  ok : TabOk t (L.map fun q => hx P w q.2)
  diff : (L.map (·.2)).Nodup
  mem : ∀ q ∈ L, Tx P w h q.2 q.1
  m7 : t.mask = 7
  four : L.length ≤ 4

section
variable {P : Program} {w : World} {A : Around} {E : Value → Shared → Prop} {s : Shared}
variable {a : Addr} {L : List (Addr × List Str)} {es : Array (Int × Value)} {ep : Nat} {t : SetTable}

theorem Tab.size {h : Heap} (R : Tab P w h a L es ep t) : es.size = L.length := by
  rw [← Array.length_toList, R.ents, List.length_map]
theorem Tab.place {h : Heap} (R : Tab P w h a L es ep t) : t.place.size = L.length := by
  rw [R.ok.sz, List.length_map]
theorem Tab.fits {h : Heap} (R : Tab P w h a L es ep t) : t.fits es.size = true := by
  have h1 := R.place
  have h2 := R.size
  have h3 := R.four
  have h4 := R.m7
  unfold SetTable.fits SetTable.fill
  rw [R.ok.dm, Bool.and_eq_true, beq_iff_eq, decide_eq_true_eq]
  refine ⟨h1.trans h2.symm, ?_⟩
  show t.place.size + 0 ≤ t.mask
  omega
theorem Tab.ent {h : Heap} (R : Tab P w h a L es ep t) {i : Nat} {q : Addr × List Str} (e : L[i]? = some q) : es[i]? = some (hx P w q.2, Value.ref q.1) := by
  rw [← Array.getElem?_toList, R.ents, List.getElem?_map, e]
  rfl
theorem Tab.at {h : Heap} (R : Tab P w h a L es ep t) {i j : Nat} (e : t.place.toList[i]? = some j) : ∃ q, L[i]? = some q := by
  have h1 : i < t.place.toList.length := (List.getElem?_eq_some_iff.mp e).1
  rw [Array.length_toList, R.place] at h1
  exact ⟨_, List.getElem?_eq_getElem h1⟩

/-- what a probe from the c-th state meets -/
theorem Tab.meets {h : Heap} (R : Tab P w h a L es ep t) (k : List Str) {K : Nat} (kf : K < 10 * SetTable.turns t.mask)
    (ke : way t.mask (hx P w k) K ∉ t.place.toList) (kb : ∀ c, c < K → way t.mask (hx P w k) c ∈ t.place.toList) {c : Nat} (hc : c ≤ K) :
    (∃ (d i : Nat) (q : Addr × List Str), c ≤ d ∧ d < K ∧ t.place.toList[i]? = some (way t.mask (hx P w k) d) ∧ L[i]? = some q ∧
      (∀ (d' i' : Nat) (q' : Addr × List Str), c ≤ d' → d' < d → t.place.toList[i']? = some (way t.mask (hx P w k) d') → L[i']? = some q' → q'.2 ≠ k) ∧
      t.probe (fun i : Nat => (es[i]?.map (·.1)).getD 0) (hx P w k) (N t (hx P w k) c) = some (.candidate (way t.mask (hx P w k) d) i (N t (hx P w k) (d + 1)))) ∨
    ((∀ (d' i' : Nat) (q' : Addr × List Str), c ≤ d' → d' < K → t.place.toList[i']? = some (way t.mask (hx P w k) d') → L[i']? = some q' → q'.2 ≠ k) ∧
      t.probe (fun i : Nat => (es[i]?.map (·.1)).getD 0) (hx P w k) (N t (hx P w k) c) = some (.empty (way t.mask (hx P w k) K) none)) := by
  have wj : ∀ q, (nth t.mask (N t (hx P w k) c) q).j = way t.mask (hx P w k) (c + q) := fun q => congrArg SetTable.Probe.j (N_add t (hx P w k) c q)
  have hat : ∀ (i : Nat) (q : Addr × List Str), L[i]? = some q → (fun i : Nat => (es[i]?.map (·.1)).getD 0) i = hx P w q.2 := fun i q e => by
    show (es[i]?.map (·.1)).getD 0 = _
    rw [R.ent e]
    rfl
  have ck : c + (K - c) = K := by omega
  have apart : ∀ (d i' : Nat) (q' : Addr × List Str), (∀ k' i', k' < d → t.place.toList[i']? = some (nth t.mask (N t (hx P w k) c) k').j → (fun i : Nat => (es[i]?.map (·.1)).getD 0) i' ≠ hx P w k) →
      ∀ d', c ≤ d' → d' < c + d → t.place.toList[i']? = some (way t.mask (hx P w k) d') → L[i']? = some q' → q'.2 ≠ k := fun d i' q' hno d' h1 h2 h3 h4 e => by
    refine hno (d' - c) i' (by omega) ?_ ?_
    · rw [wj, show c + (d' - c) = d' by omega]
      exact h3
    · rw [hat i' q' h4, e]
  rcases go_spec t R.ok.ris R.ok.dm (fun i : Nat => (es[i]?.map (·.1)).getD 0) (hx P w k) (10 * SetTable.turns t.mask) (K - c) (N t (hx P w k) c) (N_none _ _ _) (by omega)
    (fun q hq => by rw [wj]; exact kb _ (by omega)) (by rw [wj, ck]; exact ke) with ⟨q, i, h1, h2, h3, h4, h5⟩ | ⟨h1, h2⟩
  · refine .inl ?_
    obtain ⟨z, hz⟩ := R.at h2
    refine ⟨c + q, i, z, Nat.le_add_right _ _, by omega, by rw [← wj]; exact h2, hz, fun d' i' q' => (fun a b c d => apart q i' q' h4 d' a b c d), ?_⟩
    rw [← wj]
    have e : N t (hx P w k) (c + q + 1) = nth t.mask (N t (hx P w k) c) (q + 1) := (N_add t (hx P w k) c (q + 1)).symm
    rw [e]
    exact h5
  · refine .inr ⟨fun d' i' q' a b => apart (K - c) i' q' h1 d' a (by omega), ?_⟩
    have e : way t.mask (hx P w k) K = (nth t.mask (N t (hx P w k) c) (K - c)).j := by rw [wj, ck]
    rw [e]
    exact h2

/-! questions asked of tuples of texts -/
theorem all_str {k : List Str} {vs : List Value} (h : ItemsAre (PySem.strKind P w) k vs) : ∀ v ∈ vs, ∃ x y, v = Value.str x y := by
  induction h with
  | nil => exact fun v hv => absurd hv (by simp)
  | @cons k0 v' ks vs h1 _ ih =>
    intro v hv
    rcases List.mem_cons.mp hv with e | hv
    · obtain ⟨y, e2⟩ := Value.isStrOf_shape h1
      exact ⟨k0, y, e.trans e2⟩
    · exact ih v hv
theorem stm_str (n : Nat) (x : Str) (y : Tok) : ofAClassStatement n (.str x y) = pure false := by
  cases n <;> rfl
theorem hbv_str (n : Nat) (x : Str) (y : Tok) : hashByValue n (.str x y) = pure false := by
  cases n <;> rfl
theorem stm_tx {k : List Str} {b : Addr} {Q : Bool → Shared → Prop} (hk : Tx P w s.heap k b) (h : Q false s) : wpAny (model P w) A (ofAClassStatement 8 (.ref b)) Q E s := by
  have hT := hk.typeIs
  obtain ⟨o, items, n, ho, _, hd, hi⟩ := hk
  unfold ofAClassStatement
  refine wpAny_bind (wpAny_typeOf hT ?_)
  dsimp only
  have e : (("tuple" : String) == "tuple") = true := by decide
  simp only [e, if_true, Bool.not_true, Bool.false_eq_true, if_false]
  try refine wpAny_bind (wpAny_pure ?_)
  try simp only [Bool.not_true, Bool.false_eq_true, if_false]
  show wpAny _ _ (seqItems? (.ref b) >>= _) _ _ s
  refine wpAny_bind (wpAny_seqItems ho hd ?_)
  dsimp only
  refine wpAny_bind ?_
  show wpAny _ _ (forIn items _ _) _ _ s
  rw [← Array.forIn_toList]
  refine wpAny_forIn_list _ (fun rest r s' => r.1 = none ∧ s' = s ∧ ∀ v ∈ rest, ∃ x y, v = Value.str x y) _ (fun v rest r s' z => ?_) (fun r s' z => ?_) _ _ ⟨rfl, rfl, all_str hi⟩
  · obtain ⟨z1, rfl, z3⟩ := z
    obtain ⟨x, y, rfl⟩ := z3 v List.mem_cons_self
    rw [stm_str]
    refine wpAny_bind (wpAny_pure ?_)
    simp only [Bool.false_eq_true, if_false]
    exact wpAny_pure ⟨rfl, rfl, fun u hu => z3 u (List.mem_cons_of_mem _ hu)⟩
  · obtain ⟨r1, r2⟩ := r
    obtain ⟨z1, rfl, _⟩ := z
    simp only at z1
    subst z1
    exact wpAny_pure h
theorem hbv_tx {k : List Str} {b : Addr} {Q : Bool → Shared → Prop} (hk : Tx P w s.heap k b) (h : ∀ v, Q v s) : wpAny (model P w) A (hashByValue 8 (.ref b)) Q E s := by
  have hT := hk.typeIs
  obtain ⟨o, items, n, ho, _, hd, hi⟩ := hk
  unfold hashByValue
  refine wpAny_bind (wpAny_specialOf hT F.slot_tuple_hash.lookup ?_)
  show wpAny _ _ (seqItems? (.ref b) >>= _) _ _ s
  refine wpAny_bind (wpAny_seqItems ho hd ?_)
  refine wpAny_bind ?_
  show wpAny _ _ (forIn items _ _) _ _ s
  rw [← Array.forIn_toList]
  refine wpAny_forIn_list _ (fun rest r s' => r.1 = none ∧ s' = s ∧ ∀ v ∈ rest, ∃ x y, v = Value.str x y) _ (fun v rest r s' z => ?_) (fun r s' z => ?_) _ _ ⟨rfl, rfl, all_str hi⟩
  · obtain ⟨z1, rfl, z3⟩ := z
    obtain ⟨x, y, rfl⟩ := z3 v List.mem_cons_self
    rw [hbv_str]
    refine wpAny_bind (wpAny_pure ?_)
    simp only [Bool.not_false, if_true]
    exact wpAny_pure (wpAny_pure (h false))
  · obtain ⟨r1, r2⟩ := r
    obtain ⟨z1, rfl, _⟩ := z
    simp only at z1
    subst z1
    exact wpAny_pure (h true)
theorem unseen {k : List Str} {b : Addr} {Q : Bool → Shared → Prop} (hk : Tx P w s.heap k b) {ys : List Value} (hy : ∀ y ∈ ys, ∃ q : Addr × List Str, y = Value.ref q.1 ∧ Tx P w s.heap q.2 q.1) (h : Q false s) :
    wpAny (model P w) A (searchCouldBeSeen (.ref b) ys) Q E s := by
  unfold searchCouldBeSeen
  refine wpAny_bind (wpAny_forIn_list _ (fun rest r s' => r.1 = none ∧ s' = s ∧ ∀ y ∈ rest, ∃ q : Addr × List Str, y = Value.ref q.1 ∧ Tx P w s.heap q.2 q.1) _ (fun v rest r s' z => ?_) (fun r s' z => ?_) _ _ ⟨rfl, rfl, hy⟩)
  · obtain ⟨z1, rfl, z3⟩ := z
    obtain ⟨q, rfl, hc⟩ := z3 v List.mem_cons_self
    have more : ∀ y ∈ rest, ∃ q : Addr × List Str, y = Value.ref q.1 ∧ Tx P w s'.heap q.2 q.1 := fun u hu => z3 u (List.mem_cons_of_mem _ hu)
    dsimp only
    by_cases hv : (b == q.1 || (carriedByValue (.ref b) && carriedByValue (.ref q.1))) = true
    · exact wp_if_pos hv (wpAny_pure ⟨rfl, rfl, more⟩)
    · refine wp_if_neg hv ?_
      refine wpAny_bind (wpAny_eqIsQuiet_tuple hk ?_)
      simp only [Bool.not_true, Bool.false_eq_true, if_false]
      refine wpAny_bind (wpAny_eqIsQuiet_tuple hc ?_)
      simp only [Bool.not_true, Bool.false_eq_true, if_false]
      refine wpAny_bind (stm_tx hk ?_)
      simp only [Bool.false_eq_true, if_false]
      refine wpAny_bind (stm_tx hc ?_)
      simp only [Bool.false_eq_true, if_false]
      exact wpAny_pure ⟨rfl, rfl, more⟩
  · obtain ⟨r1, r2⟩ := r
    obtain ⟨z1, rfl, _⟩ := z
    simp only at z1
    subst z1
    exact wpAny_pure h

/-- the search, from the c-th state on -/
theorem Tab.look (R : Tab P w s.heap a L es ep t) {x : Addr} {k : List Str} (hk : Tx P w s.heap k x) (hu : A.units < cLine) {K : Nat} (kf : K < 10 * SetTable.turns t.mask)
    (ke : way t.mask (hx P w k) K ∉ t.place.toList) (kb : ∀ c, c < K → way t.mask (hx P w k) c ∈ t.place.toList) {Q : SetFound → Shared → Prop}
    (yes : k ∈ L.map (·.2) → Q (.there none) s) (no : k ∉ L.map (·.2) → Q (.free (way t.mask (hx P w k) K) false) s) :
    ∀ (f c : Nat) (stand : Option SetTable.Probe), stand.getD (t.probeStart (hx P w k)) = N t (hx P w k) c → c ≤ K → K - c < f →
      (∀ (i : Nat) (q : Addr × List Str), L[i]? = some q → q.2 = k → ∃ c', c ≤ c' ∧ c' < K ∧ t.place.toList[i]? = some (way t.mask (hx P w k) c')) →
      wpAny (model P w) A (setSearchFrom a (.ref x) (hx P w k) true f stand) Q E s
  | 0, c, stand, _, _, hf, _ => absurd hf (Nat.not_lt_zero _)
  | f + 1, c, stand, hst, hc, hf, hre => by
    obtain ⟨o, ho, hex, hd⟩ := R.obj
    have live : ∀ {i j : Nat}, t.place.toList[i]? = some j → t.slot j = .live i := fun e => slot_live R.ok.ris e
    have gw : ¬ t.gaveWay = true := by
      unfold SetTable.gaveWay
      rw [R.m7]
      decide
    rw [setSearchFrom_succ]
    refine wpAny_bind (wpAny_setState_of ho hd R.fits ?_)
    dsimp only
    refine wp_if_neg gw ?_
    try refine wpAny_bind (wpAny_pure ?_)
    rw [hst]
    rcases R.meets k kf ke kb hc with ⟨d, i, q, d1, d2, d3, d4, d5, d6⟩ | ⟨d5, d6⟩
    · rw [d6]
      dsimp only
      have hq := R.mem q (List.mem_of_getElem? d4)
      have tail : wpAny (model P w) A (searchRest a (.ref x) (hx P w k) true f es t (way t.mask (hx P w k) d) i (N t (hx P w k) (d + 1))) Q E s := by
        unfold searchRest
        rw [R.ent d4]
        dsimp only
        refine wpAny_bind (wpAny_holding (wpAny_eqBool_tuple hu hq hk ?_))
        refine wpAny_bind (wpAny_setState_of ho hd R.fits ?_)
        dsimp only
        by_cases e : q.2 = k
        · exact wp_if_pos (by simp [e]) (wpAny_pure (yes (List.mem_map.mpr ⟨q, List.mem_of_getElem? d4, e⟩)))
        · refine wp_if_neg (by simp [e]) ?_
          try refine wpAny_bind (wpAny_pure ?_)
          rw [sameMem]
          dsimp only
          simp only [if_true, live d3, R.ent d4]
          refine wpAny_bind (wpAny_isSame_ref_self (wpAny_bind (wpAny_pure ?_)))
          simp only [if_true]
          refine wp_if_neg (by simp [e]) ?_
          refine Tab.look R hk hu kf ke kb yes no f (d + 1) _ rfl (by omega) (by omega) fun i0 q0 h0 e0 => ?_
          obtain ⟨c', a1, a2, a3⟩ := hre i0 q0 h0 e0
          refine ⟨c', ?_, a2, a3⟩
          rcases Nat.lt_trichotomy c' d with z | z | z
          · exact absurd e0 (d5 c' i0 q0 a1 z a3 h0)
          · rw [z] at a3
            have s0 := (live a3).symm.trans (live d3)
            injection s0 with s0
            rw [s0, d4] at h0
            exact absurd ((congrArg Prod.snd (Option.some.inj h0)).trans e0) e
          · exact z
      by_cases hl : t.led = true
      · refine wp_if_neg (by simp [hl]) ?_
        try refine wpAny_bind (wpAny_pure ?_)
        exact tail
      · refine wp_if_pos (by simp [hl]) ?_
        refine wpAny_bind (unseen hk (fun y hy => ?_) ?_)
        · obtain ⟨e, he, ee⟩ := List.mem_map.mp hy
          have he1 : e ∈ es.toList := by
            have z : e ∈ es ∧ e.1 = hx P w k := by simpa using he
            simpa using z.1
          rw [R.ents] at he1
          obtain ⟨q2, hq2, e2⟩ := List.mem_map.mp he1
          exact ⟨q2, by rw [← ee, ← e2], R.mem q2 hq2⟩
        · refine wp_if_neg (by decide) ?_
          try refine wpAny_bind (wpAny_pure ?_)
          exact tail
    · rw [d6]
      dsimp only
      refine wpAny_pure (no fun hm => ?_)
      obtain ⟨q0, h0, e0⟩ := List.mem_map.mp hm
      obtain ⟨i0, l0, g0⟩ := List.getElem_of_mem h0
      have h00 : L[i0]? = some q0 := by rw [List.getElem?_eq_getElem l0, g0]
      obtain ⟨c', a1, a2, a3⟩ := hre i0 q0 h00 e0
      exact d5 c' i0 q0 a1 a2 a3 h00 e0
end
end S4

set_option Elab.async false
set_option linter.all false
set_option maxRecDepth 100000
/-! at most four put in -/
namespace S4
open PySem PySem.Spec PyProof.Rows L2
section
variable {P : Program} {w : World} {A : Around} {E : Value → Shared → Prop} {s : Shared}
variable {a : Addr} {L : List (Addr × List Str)} {es : Array (Int × Value)} {ep : Nat} {t : SetTable}

theorem Tx.old {h h' : Heap} {k : List Str} {b : Addr} (x : Tx P w h k b) (hk : ∀ o, h.get? b = some o → h'.get? b = some o) : Tx P w h' k b := by
  obtain ⟨o, items, n, ho, r⟩ := x
  exact ⟨o, items, n, hk o ho, r⟩
theorem Tx.but {h h' : Heap} {k : List Str} {a b : Addr} {o : Obj} {es : Array (Int × Value)} {ep : Nat} {t : SetTable} (x : Tx P w h k b) (ho : h.get? a = some o) (hd : o.data = .set es ep t) (hs : Heap.SameBut a h h') : Tx P w h' k b := by
  refine x.old fun o' e => (hs.2 b fun z => ?_).trans e
  obtain ⟨o2, items, n, h2, _, d2, _⟩ := x
  rw [z, ho] at h2
  rw [← Option.some.inj h2, hd] at d2
  exact nomatch d2

/-- SetState after a search for adding -/
theorem Tab.seek (R : Tab P w s.heap a L es ep t) {x : Addr} {k : List Str} (hk : Tx P w s.heap k x) (hu : A.units < cLine) {Q : SetFound → Shared → Prop}
    (yes : k ∈ L.map (·.2) → Q (.there none) s)
    (no : ∀ K, k ∉ L.map (·.2) → way t.mask (hx P w k) K ∉ t.place.toList → (∀ c, c < K → way t.mask (hx P w k) c ∈ t.place.toList) → Q (.free (way t.mask (hx P w k) K) false) s) :
    wpAny (model P w) A (setSearch a (.ref x) (hx P w k) true) Q E s := by
  have h4 := R.four
  have h7 := R.m7
  obtain ⟨K, kf, ke, kb⟩ := R.ok.first (by rw [List.length_map]; omega) (hx P w k)
  have hK : K < 100000 := by
    have : 10 * SetTable.turns t.mask ≤ 1000 := by
      unfold SetTable.turns
      omega
    omega
  unfold setSearch
  refine R.look hk hu kf ke kb yes (fun z => no K z ke kb) 100000 0 none rfl (Nat.zero_le _) (by omega) fun i q e0 e1 => ?_
  have hi : (L.map fun q => hx P w q.2)[i]? = some (hx P w k) := by rw [List.getElem?_map, e0, ← e1] <;> rfl
  have hl : i < t.place.toList.length := by
    have h1 : i < L.length := (List.getElem?_eq_some_iff.mp e0).1
    rw [Array.length_toList, R.place]
    exact h1
  have hj := List.getElem?_eq_getElem hl
  obtain ⟨c, hc, e⟩ := R.ok.before ke hi hj
  exact ⟨c, Nat.zero_le _, hc, by rw [hj, e]⟩

/-- one more, while there is room for four -/
theorem Tab.add (R : Tab P w s.heap a L es ep t) {x : Addr} {k : List Str} (hk : Tx P w s.heap k x) (hu : A.units < cLine) (few : L.length < 4) {Q : Bool → Shared → Prop}
    (hQ : ∀ b h' L' es' ep' t', Heap.SameBut a s.heap h' → Tab P w h' a L' es' ep' t' → (k ∈ L.map (·.2) → L' = L) → (k ∉ L.map (·.2) → L'.Perm ((x, k) :: L)) → Q b { s with heap := h' }) :
    wpAny (model P w) A (setAddHashed a (.ref x) (hx P w k)) Q E s := by
  obtain ⟨o, ho, hex, hd⟩ := R.obj
  have h7 := R.m7
  unfold setAddHashed
  refine wpAny_holding ?_
  rw [show (100000 : Nat) = 99999 + 1 from rfl, setAddHashedIn_succ]
  refine wpAny_bind (wpAny_setState_of ho hd R.fits ?_)
  dsimp only
  refine wp_if_neg (by simp [byScan, Value.scannable]) ?_
  try refine wpAny_bind (wpAny_pure ?_)
  refine wpAny_bind (R.seek hk hu (fun hm => ?_) fun K hm ke kb => ?_)
  · dsimp only
    exact wpAny_pure (hQ false s.heap L es ep t (Heap.SameBut.refl a s.heap) R (fun _ => rfl) fun z => absurd hm z)
  dsimp only
  refine wpAny_bind (wpAny_setState_of ho hd R.fits ?_)
  dsimp only
  obtain ⟨q1, q2, q3, q4, q5, q6, q7, q8, q9⟩ := R.ok.put ke kb
  generalize hpt : t.put (way t.mask (hx P w k) K) = pt at q1 q3 q4 q5 q6 q7 q8 q9 ⊢
  obtain ⟨t1, p⟩ := pt
  dsimp only at q1 q3 q4 q5 q6 q7 q8 q9 ⊢
  subst q1
  generalize hpp : SetTable.below t.place (way t.mask (hx P w k) K) = p at q2 q3 ⊢
  rw [List.length_map] at q2 q9
  have pm : (L.take p ++ (x, k) :: L.drop p).Perm ((x, k) :: L) := put_perm L p (x, k)
  have hlen : (L.take p ++ (x, k) :: L.drop p).length = L.length + 1 := pm.length_eq
  have hents : (SetTable.insertAt es p (hx P w k, Value.ref x)).toList = (L.take p ++ (x, k) :: L.drop p).map fun q => (hx P w q.2, Value.ref q.1) := by
    rw [SetTable.toList_insertAt, R.ents, List.map_append, List.map_cons, List.map_take, List.map_drop]
  have hhs : (L.take p ++ (x, k) :: L.drop p).map (fun q => hx P w q.2) = (L.map fun q => hx P w q.2).take p ++ hx P w k :: (L.map fun q => hx P w q.2).drop p := by
    rw [List.map_append, List.map_cons, List.map_take, List.map_drop]
  rw [← hhs] at q3
  have nd1 : ((L.take p ++ (x, k) :: L.drop p).map (·.2)).Nodup := by
    refine (pm.map (·.2)).nodup_iff.mpr ?_
    rw [List.map_cons]
    exact List.nodup_cons.mpr ⟨hm, R.diff⟩
  have hes : (SetTable.insertAt es p (hx P w k, Value.ref x)).size = L.length + 1 := by
    rw [← Array.length_toList, hents, List.length_map, hlen]
  generalize SetTable.insertAt es p (hx P w k, Value.ref x) = es1 at hents hes ⊢
  generalize L.take p ++ (x, k) :: L.drop p = L1 at pm hlen q3 nd1 hents
  have fin : ∀ t2 : SetTable, t2.place = t1.place → t2.dummies = t1.dummies → t2.mask = t1.mask →
      wpAny (model P w) A (do
        storeSet a es1 t2
        if (!false && t2.tooFull) = true then setRelay a (SetTable.grown (es.size + 1))
        return true) Q E s := fun t2 e1 e2 e3 => by
    refine wpAny_bind (wpAny_storeSet_of ho hd ?_ (by rw [hes, sizeLine_eq]; omega))
    have sb : Heap.SameBut a s.heap (s.heap.update a (Obj.putSet es1 t2)) := Heap.SameBut.update ..
    have ho1 := store_at (es' := es1) (t' := t2) ho hd
    generalize s.heap.update a (Obj.putSet es1 t2) = h1 at sb ho1 ⊢
    have full : ¬ t2.tooFull = true := by
      unfold SetTable.tooFull
      rw [decide_eq_true_eq]
      have e4 : t2.fill = t1.fill := by
        unfold SetTable.fill
        rw [e1, e2]
      rw [e4, q9, e3, q4, h7]
      omega
    have okT : TabOk t2 (L1.map fun q => hx P w q.2) := by
      obtain ⟨b1, b2, b3, b4, b5, b6⟩ := q3
      exact ⟨by rw [e1]; exact b1, by rw [e2]; exact b2, by rw [e1]; exact b3, by rw [e3]; exact b4, by rw [e1, e3]; exact b5, by rw [e1, e3]; exact b6⟩
    have T1 : Tab P w h1 a L1 es1 (ep + 1) t2 := by
      refine ⟨⟨_, ho1, ⟨hex.1, hex.2.1, hex.2.2⟩, rfl⟩, hents, okT, nd1, fun q hq => ?_, by rw [e3, q4]; exact h7, by rw [hlen]; omega⟩
      rcases List.mem_cons.mp (pm.mem_iff.mp hq) with e | hq
      · rw [e]; exact hk.but ho hd sb
      · exact (R.mem q hq).but ho hd sb
    first
      | refine wp_if_neg (by simp [full]) ?_
      | (refine wpAny_bind ?_; refine wp_if_neg (by simp [full]) ?_; refine wpAny_pure ?_)
    exact wpAny_pure (hQ true h1 L1 es1 (ep + 1) t2 sb T1 (fun z => absurd z hm) fun _ => pm)
  by_cases hp : t1.plain = true
  · first
      | (refine wpAny_bind ?_; refine wp_if_pos hp ?_; refine hbv_tx hk fun v => ?_)
      | refine wp_if_pos hp (wpAny_bind (hbv_tx hk fun v => ?_))
    cases v with
    | true => exact fin t1 rfl rfl rfl
    | false => exact fin { t1 with plain := false } rfl rfl rfl
  · first
      | (refine wpAny_bind ?_; refine wp_if_neg hp ?_; refine wpAny_pure ?_)
      | refine wp_if_neg hp (wpAny_bind (wpAny_pure ?_))
    exact fin t1 rfl rfl rfl
end
end S4

set_option Elab.async false
set_option linter.all false
set_option maxRecDepth 100000
/-! set(t) and len(set(t)), t a tuple of at most four tuples of texts -/
namespace S4
open PySem PySem.Spec PyProof.Rows L2

/-- what is in the set of the first i rows -/
structure Has (ks : List (Addr × List Str)) (i : Nat) (L : List (Addr × List Str)) : Prop where
  sub : ∀ q ∈ L, q ∈ ks.take i
  all : ∀ q ∈ ks.take i, q.2 ∈ L.map (·.2)
  len : L.length ≤ i
  cnt : L.length = i ↔ ((ks.take i).map (·.2)).Nodup
theorem Has.none (ks : List (Addr × List Str)) : Has ks 0 [] :=
  ⟨fun q h => absurd h (by simp), fun q h => absurd h (by simp), Nat.le_refl _, ⟨fun _ => by simp, fun _ => rfl⟩⟩
theorem nodup_snoc {α : Type} {l : List α} {x : α} : (l ++ [x]).Nodup ↔ l.Nodup ∧ x ∉ l := by
  rw [List.nodup_append]
  constructor
  · intro ⟨h1, _, h3⟩
    exact ⟨h1, fun hx => h3 x hx x (List.mem_singleton.mpr rfl) rfl⟩
  · intro ⟨h1, h2⟩
    refine ⟨h1, by simp, fun a ha b hb e => ?_⟩
    rw [List.mem_singleton.mp hb] at e
    rw [e] at ha
    exact h2 ha
theorem Has.skip {ks L : List (Addr × List Str)} {i : Nat} {x : Addr × List Str} (g : Has ks i L) (h : ks[i]? = some x) (hm : x.2 ∈ L.map (·.2)) : Has ks (i + 1) L := by
  have e : ks.take (i + 1) = ks.take i ++ [x] := L2.take_next h
  refine ⟨fun q hq => by rw [e]; exact List.mem_append_left _ (g.sub q hq), fun q hq => ?_, Nat.le_succ_of_le g.len, ⟨fun z => ?_, fun z => ?_⟩⟩
  · rw [e] at hq
    rcases List.mem_append.mp hq with y | y
    · exact g.all q y
    · rw [List.mem_singleton.mp y]; exact hm
  · have := g.len
    omega
  · rw [e, List.map_append] at z
    obtain ⟨q, hq, eq⟩ := List.mem_map.mp hm
    exact absurd (List.mem_map.mpr ⟨q, g.sub q hq, eq⟩) (nodup_snoc.mp z).2
theorem Has.more {ks L L' : List (Addr × List Str)} {i : Nat} {x : Addr × List Str} (g : Has ks i L) (h : ks[i]? = some x) (hm : x.2 ∉ L.map (·.2)) (pm : L'.Perm (x :: L)) : Has ks (i + 1) L' := by
  have e : ks.take (i + 1) = ks.take i ++ [x] := L2.take_next h
  have el : L'.length = L.length + 1 := pm.length_eq
  refine ⟨fun q hq => ?_, fun q hq => ?_, by have := g.len; omega, ?_⟩
  · rw [e]
    rcases List.mem_cons.mp (pm.mem_iff.mp hq) with y | y
    · rw [y]; exact List.mem_append_right _ (List.mem_singleton.mpr rfl)
    · exact List.mem_append_left _ (g.sub q y)
  · rw [(pm.map (·.2)).mem_iff, List.map_cons]
    rw [e] at hq
    rcases List.mem_append.mp hq with y | y
    · exact List.mem_cons_of_mem _ (g.all q y)
    · rw [List.mem_singleton.mp y]; exact List.mem_cons_self
  · have hn : x.2 ∉ (ks.take i).map (·.2) := fun z => by
      obtain ⟨q, hq, eq⟩ := List.mem_map.mp z
      exact hm (eq ▸ g.all q hq)
    rw [e, List.map_append, el]
    show L.length + 1 = i + 1 ↔ (_ ++ [x.2]).Nodup
    rw [nodup_snoc, ← g.cnt]
    constructor
    · intro z
      exact ⟨by omega, hn⟩
    · intro z
      rw [z.1]

section
variable {P : Program} {w : World} {A : Around} {E : Value → Shared → Prop} {s : Shared}
theorem Tab.old {h h' : Heap} {a : Addr} {L : List (Addr × List Str)} {es : Array (Int × Value)} {ep : Nat} {t : SetTable} (R : Tab P w h a L es ep t) (ha : ∀ o, h.get? a = some o → h'.get? a = some o) (hm : ∀ q ∈ L, Tx P w h' q.2 q.1) : Tab P w h' a L es ep t := by
  obtain ⟨o, ho, r⟩ := R.obj
  exact ⟨⟨o, ha o ho, r⟩, R.ents, R.ok, R.diff, hm, R.m7, R.four⟩
theorem Tab.fresh {h : Heap} {a : Addr} (led : Bool) (ho : h.get? a = some { cls := .type "set", dict := none, data := .set #[] 0 (.fresh 0 0 led) }) : Tab P w h a [] #[] 0 (.fresh 0 0 led) :=
  ⟨⟨_, ho, ⟨rfl, rfl, rfl⟩, rfl⟩, rfl, ⟨List.Pairwise.nil, rfl, rfl, .inl rfl, fun x hx => absurd hx (by intro z; cases z), fun i h j hi => absurd hi (by simp)⟩, List.nodup_nil, fun q hq => absurd hq (by simp), rfl, Nat.zero_le _⟩

/-- the loop that fills it -/
theorem fill {I : Addr} {fp wr : List Addr} {G : Array GenState → Array GenState → Prop} {n : Nat} {Pv : Nat → Value → Prop} {St : Nat → Shared → Prop} {R : Result → Shared → Prop}
    (W : WalksS P w A.in1 I fp wr G n Pv St) (S : Addr) (hSf : S ∉ fp) (ks : List (Addr × List Str)) (hn : n = ks.length) (few : ks.length ≤ 4) (hval : ∀ i v, Pv i v → ∃ q, ks[i]? = some q ∧ v = .ref q.1)
    (h0 : Heap) (hk : ∀ q ∈ ks, Tx P w h0 q.2 q.1) (hS0 : h0.get? S = none) (hw0 : ∀ b ∈ wr, h0.get? b = none) (hu : A.in1.units < cLine) :
    ∀ (m i : Nat) (s : Shared), n - i = m → i ≤ n → St i s → (∀ b o, h0.get? b = some o → s.heap.get? b = some o) → (∃ L es ep t, Tab P w s.heap S L es ep t ∧ Has ks i L) →
      (∀ s' L es ep t, Moved (S :: wr) G s s' → Tab P w s'.heap S L es ep t → Has ks n L → (∀ b o, h0.get? b = some o → s'.heap.get? b = some o) → R (.ok (.ret .none)) s') →
      codeAny (model P w) A (.builtin "set.update.loop" ⟨[.ref S, .ref I], []⟩) R s := by
  have hSw : S ∉ wr := fun h => hSf (W.sub _ h)
  have wide : ∀ b ∈ wr, b ∈ S :: wr := fun b hb => List.mem_cons_of_mem _ hb
  have stay : ∀ {s s' : Shared}, Moved wr G s s' → (∀ b o, h0.get? b = some o → s.heap.get? b = some o) → ∀ b o, h0.get? b = some o → s'.heap.get? b = some o := fun hm z b o e =>
    hm.heap b o (fun hb => by rw [hw0 b hb] at e; cases e) (z b o e)
  intro m
  induction m with
  | zero =>
    intro i s hk' hi hst hkp ⟨L, es, ep, t, T, g⟩ hR
    obtain rfl : i = n := by omega
    refine codeAny_builtin F.entry_set_update_loop ?_
    rw [Around.under_plainId F.plain_set_update_loop _]
    show wpAny _ A.in1 (pyNext (.ref I) >>= _) _ _ s
    refine wpAny_bind (W.done s _ _ hst fun s' hm => ?_)
    show wpAny _ A.in1 (ret Value.none) _ _ s'
    have z := stay hm hkp
    exact wpAny_pure (hR s' L es ep t (hm.mono wide) (T.old (fun o e => hm.heap S o hSw e) fun q hq => (hk q (List.mem_of_mem_take (g.sub q hq))).old (z _)) g z)
  | succ m ih =>
    intro i s hk' hi hst hkp ⟨L, es, ep, t, T, g⟩ hR
    have hlt : i < n := by omega
    refine codeAny_builtin F.entry_set_update_loop ?_
    rw [Around.under_plainId F.plain_set_update_loop _]
    show wpAny _ A.in1 (pyNext (.ref I) >>= _) _ _ s
    refine wpAny_bind (W.item i s _ _ hlt hst fun v s' hP hst' hm => ?_)
    obtain ⟨q, hq, rfl⟩ := hval i v hP
    have z := stay hm hkp
    have T' : Tab P w s'.heap S L es ep t := T.old (fun o e => hm.heap S o hSw e) fun q hq => (hk q (List.mem_of_mem_take (g.sub q hq))).old (z _)
    have hx' : Tx P w s'.heap q.2 q.1 := (hk q (List.mem_of_getElem? hq)).old (z _)
    show wpAny _ A.in1 (holding [Value.ref q.1] (setAdd S (.ref q.1)) >>= _) _ _ s'
    refine wpAny_bind (wpAny_holding ?_)
    unfold setAdd
    refine wpAny_holding ?_
    refine wpAny_bind (wpAny_pyHash_tuple hu hx' ?_)
    refine Tab.add (s := { s' with toks := s'.toks + (q.2.length + 1) }) T' hx' hu (by have := g.len; omega) fun b h' L' es' ep' t' sb T2 c1 c2 => ?_
    have g' : Has ks (i + 1) L' := by
      by_cases c : q.2 ∈ L.map (·.2)
      · rw [c1 c]; exact g.skip hq c
      · exact g.more hq c (c2 c)
    have z2 : ∀ b o, h0.get? b = some o → h'.get? b = some o := fun b o e => (sb.2 b (fun y => by rw [y, hS0] at e; cases e)).trans (z b o e)
    refine wpAny_pure ⟨plainId_quiet F.plain_set_update_loop _, ih (i + 1) _ (by omega) hlt (W.frame _ s' _ _ hst' (Nat.le_add_right _ _) fun b hb o e => ?_) z2 ⟨L', es', ep', t', T2, g'⟩ fun s2 L2 es2 ep2 t2 hm2 T3 g3 z3 => ?_⟩
    · rw [sb.2 b (fun h : b = S => hSf (by rw [← h]; exact hb))]; exact e
    · refine hR s2 L2 es2 ep2 t2 (Moved.trans W.gtrans ((hm.mono wide).then_heap (Nat.le_add_right _ _) fun b o hb e => ?_) hm2) T3 g3 z3
      rw [sb.2 b (fun h : b = S => hb (by rw [h]; exact List.mem_cons_self))]; exact e

abbrev newSet (led : Bool) : Obj := { cls := .type "set", dict := none, data := .set #[] 0 (.fresh 0 0 led) }
set_option maxHeartbeats 3200000 in
theorem call_set {l : Addr} {items : Array Value} (ks : List (Addr × List Str)) {Q : Value → Shared → Prop} (hh : A.handled = none) (hl : s.heap.IsTuple l items) (hit : items.toList = ks.map fun q => Value.ref q.1)
    (hk : ∀ q ∈ ks, Tx P w s.heap q.2 q.1) (few : ks.length ≤ 4) (hu : A.units + 3 < cLine)
    (h : ∀ (h' : Heap) (tk : Nat) L es ep t, Tab P w h' s.heap.objs.size L es ep t → Has ks ks.length L → (∀ b o, s.heap.get? b = some o → h'.get? b = some o) → Q (.ref s.heap.objs.size) { s with heap := h', toks := tk }) :
    wpAny (model P w) A (call (.type "set") [.ref l]) Q E s := by
  have hsz : items.size = ks.length := by rw [← Array.length_toList, hit, List.length_map]
  obtain ⟨c, tl, hmro⟩ := F.called_set.mro
  have hmade := F.called_set.made
  have hsub := F.called_set.sub
  refine wpAny_call (codeAny_of_tree ?_)
  show wpAny _ _ (callAny (.type "set") _) _ _ _
  refine wpAny_pure ⟨Code.quiet_builtin _ (by decide +kernel), codeAny_builtin F.entry_type_call ?_⟩
  rw [Around.under_plain (weight_type_call_type "set" [.ref l] []) rfl]
  have h1 := F.called_set.notType
  have h2 := F.called_set.canCreate
  have hct := F.typeCall_set_1 (.ref l)
  repeat (any_goals (first | assumption | wp_step))
  refine codeAny_mono (code_set_new_1 (.ref l) (E := E) (Q₁ := fun obj s₁ => ∃ led : Bool, obj = .ref s.heap.objs.size ∧ s₁ = { s with heap := s.heap.push (newSet led) }) fun led => ⟨led, rfl, rfl⟩) fun r s₁ hr => ?_
  rcases r with e | fl
  · exact hr
  cases fl with
  | ret obj =>
    obtain ⟨led, rfl, rfl⟩ := hr
    have hS : (s.heap.push (newSet led)).get? s.heap.objs.size = some (newSet led) := Heap.get?_push_size _ rfl
    have hT : Shared.TypeIs { s with heap := s.heap.push (newSet led) } (.ref s.heap.objs.size) "set" := ⟨_, hS, rfl⟩
    have hli := F.called_set.init.lookup
    have hbi := F.called_set.init.bind (.ref s.heap.objs.size)
    repeat (any_goals (first | assumption | wp_step))
    refine codeAny_mono (codeAny_call_builtin (R := wants (fun r s₂ => r = .none ∧ ∃ h' tk L es ep t, s₂ = { s with heap := h', toks := tk } ∧ Tab P w h' s.heap.objs.size L es ep t ∧ Has ks ks.length L ∧
        (∀ b o, s.heap.get? b = some o → h'.get? b = some o)) E) F.called_set.init.plain F.entry_set_init (check_set_init_1 hT ?_)) fun r₂ s₂ hr₂ => ?_
    · obtain ⟨ol, hol, hcl, nl, hdl⟩ := hl
      obtain ⟨ocls, odict, odata, oslots⟩ := ol
      simp only at hcl hdl
      subst hcl; subst hdl
      have hol' : (s.heap.push (newSet led)).get? l = some { cls := .type "tuple", dict := odict, data := .seq items nl, slots := oslots } := Heap.get?_push_of_some _ hol
      have hsls := F.sub_tuple_set
      have hslf := F.sub_tuple_frozenset
      have hne : (Value.type "tuple" == Value.type "dict") = false := by decide
      have hl1 : (s.heap.push (newSet led)).IsTuple l items := ⟨_, hol', rfl, nl, rfl⟩
      unfold Builtin.«set.__init__» noKeywords Builtin.Frozenset.updateFrom
      generalize hPI : pyIter = PI
      wp_walk
      subst hPI
      refine wpAny_pyIter_tuple hl1 ?_
      refine wpAny_bind (wpAny_runValue ?_)
      have hlS : l < s.heap.objs.size := Heap.lt_size hol
      have hh3 : A.in1.in1.in1.handled = none := by simp [hh]
      have hsize : (s.heap.push (newSet led)).objs.size = s.heap.objs.size + 1 := Heap.size_push ..
      have hneI : l ≠ (s.heap.push (newSet led)).objs.size := by rw [hsize]; exact Nat.ne_of_lt (Nat.lt_succ_of_lt hlS)
      have hSf : s.heap.objs.size ∉ [(s.heap.push (newSet led)).objs.size, l] := by
        rw [hsize]
        simp only [List.mem_cons, List.not_mem_nil, or_false, not_or]
        exact ⟨Nat.ne_of_lt (Nat.lt_succ_self _), Nat.ne_of_gt hlS⟩
      have hval : ∀ (i : Nat) (v : Value), items[i]? = some v → ∃ q, ks[i]? = some q ∧ v = .ref q.1 := fun i v hv => by
        rw [← Array.getElem?_toList, hit, List.getElem?_map] at hv
        obtain ⟨q, e1, e2⟩ := Option.map_eq_some_iff.mp hv
        exact ⟨q, e1, e2.symm⟩
      have off : ∀ b, s.heap.objs.size ≤ b → s.heap.get? b = none := fun b hb => by
        cases z : s.heap.get? b with
        | none => rfl
        | some o => exact absurd (Nat.lt_of_lt_of_le (Heap.lt_size z) hb) (Nat.lt_irrefl _)
      refine fill ((Walks.tuple hh3 _ l hneI items).toS) s.heap.objs.size hSf ks hsz few hval s.heap hk (off _ (Nat.le_refl _)) (fun b hb => off b (by rw [List.mem_singleton.mp hb, hsize]; exact Nat.le_succ _)) hu (items.size - 0) 0 _ (by omega) (Nat.zero_le _)
        ⟨⟨_, Heap.get?_push_size _ rfl, rfl, rfl⟩, (hl1.push _)⟩ (fun b o e => Heap.get?_push_of_some _ (Heap.get?_push_of_some _ e)) ⟨[], #[], 0, _, Tab.fresh led (Heap.get?_push_of_some _ hS), Has.none ks⟩ fun s' L es ep t hm T g z => ?_
      obtain ⟨h', g2, d', tk', os'⟩ := s'
      obtain rfl : g2 = s.gens := hm.gens
      obtain rfl : d' = s.drawn := hm.drawn
      obtain rfl : os' = s.os := hm.os
      show wpAny _ _ _ _ _ _
      refine wpAny_pure ?_
      show wpAny _ _ (ret Value.none) _ _ _
      rw [hsz] at g
      exact wpAny_pure ⟨rfl, h', tk', L, es, ep, t, rfl, T, g, z⟩
    · rcases r₂ with e | fl₂
      · exact hr₂
      cases fl₂ with
      | ret r =>
        obtain ⟨rfl, h', tk, L, es, ep, t, rfl, T, g, z⟩ := hr₂
        repeat (any_goals (first | assumption | wp_step))
        exact h _ _ _ _ _ _ T g z
      | _ => exact hr₂.elim
  | _ => exact hr.elim
end

/-- a row of tuples of texts, as values and as texts -/
inductive TxRow (K : PySem.W.Frag) (H : Hp) : List V → List (List Str) → Prop
  | nil : TxRow K H [] []
  | cons {t : Addr} {k : List Str} {vs : List V} {ks : List (List Str)} : SqT K H t (k.map V.str) → TxRow K H vs ks → TxRow K H (.ref t :: vs) (k :: ks)
theorem items_of {P : Program} {w : World} : ∀ {ys : List Str} {us : List Value}, StrsAre us ys → ItemsAre (PySem.strKind P w) ys us
  | _, _, .nil => .nil
  | _, _, .cons y t r => .cons (strKind_is _ _ _ _) (items_of r)
section
variable {X : Cx} {pins : List (Addr × Obj)} {σ : L2.St} {H : Hp} {s : Shared}
theorem tx_of (I : Inv X pins σ H s) {t : Addr} {k : List Str} (h : SqT X.K H t (k.map V.str)) : Tx X.prog X.w s.heap k t := by
  obtain ⟨its, rv, ⟨o, ho, hc, n, hd⟩, _⟩ := I.tuple h
  exact ⟨o, its.toArray, n, ho, hc, hd, items_of (by simpa using strsAre_of rv)⟩
theorem rows_of (I : Inv X pins σ H s) : ∀ {vs : List V} {ks : List (List Str)} {us : List Value}, TxRow X.K H vs ks → Vals vs us →
    ∃ L : List (Addr × List Str), us = (L.map fun q => Value.ref q.1) ∧ L.map (·.2) = ks ∧ ∀ q ∈ L, Tx X.prog X.w s.heap q.2 q.1
  | _, _, _, .nil, .nil => ⟨[], rfl, rfl, fun q hq => absurd hq (by simp)⟩
  | _, _, _, .cons (t := t) (k := k) h r, .cons rv rvs => by
    obtain ⟨L, e1, e2, e3⟩ := rows_of I r rvs
    cases rv
    refine ⟨(t, k) :: L, by rw [e1] <;> rfl, by rw [← e2] <;> rfl, fun q hq => ?_⟩
    rcases List.mem_cons.mp hq with e | hq
    · rw [e]; exact tx_of I h
    · exact e3 q hq
end
section
variable {X : Cx}
/-- len(set(t)): as many as there are, exactly if all differ -/
def tLenSetT (K : PySem.W.Frag) (ta : TE) : TE := fun σ H Q => ta σ H fun x H1 => ∃ (l : Addr) (vs : List V) (ks : List (List Str)), x = V.ref l ∧ SqT K H1 l vs ∧ TxRow K H1 vs ks ∧ ks.length ≤ 4 ∧
  ∀ m : Nat, m ≤ ks.length → (m = ks.length ↔ ks.Nodup) → Q (.int m) H1
theorem pe_lenSetT {a : Expr} {ta : TE} {p p2 q pos : Pos} (hu : X.A.units + 64 < cLine) (hc : X.calm = true) (hg : Gl X "len") (hm : X.mg "len" = none) (hg2 : Gl X "set") (hm2 : X.mg "set" = none) (ha : PE X a ta)
    (na : starEach [a] X.env = (false, eval a X.env) :: starEach [] X.env := by rfl) : PE X (.Call (.Name "len" p) [.Call (.Name "set" p2) [a] [] q] [] pos) (tLenSetT X.K ta) := by
  refine ⟨fun pins s σ H Q I h => ?_⟩
  refine Call_ (ld_blt I hg hm PySem.boot_len ?_)
  refine PyProof.Rows.callWith_builtin1 (PyProof.Rows.args_cons ?_ rfl) rfl rfl
  refine Call_ (ld_blt I hg2 hm2 PyProof.Rows.boot_set ?_)
  refine PyProof.Rows.callWith_type1 (PyProof.Rows.args_cons (thn (ha.run pins s σ H _ I h) fun v s1 ⟨x, H1, I1, r1, q1⟩ => PyProof.Rows.args_nil ?_) na) na rfl
  obtain ⟨l, vs, ks, rfl, hq, hr, h4, q1⟩ := q1
  cases r1
  obtain ⟨its, rv, hT, hz⟩ := I1.tuple hq
  obtain ⟨L, e1, e2, e3⟩ := rows_of I1 hr rv
  have hL : L.length = ks.length := by rw [← e2, List.length_map]
  refine call_set L (I1.ok.hd hc) hT (by simpa using e1) e3 (by omega) (by omega) fun h' tk L2 es ep t T g z => ?_
  refine PyProof.Rows.args_nil ?_
  have I2 : Inv X pins σ H1 { s1 with heap := h', toks := tk } := I1.kept z
  obtain ⟨o, ho, hex, hd⟩ := T.obj
  have hn := T.size
  refine call_len_set ho hex hd T.fits (by rw [hn]; have := T.four; omega) ⟨.int L2.length, H1, I2.tok _, ⟨_, by rw [hn]⟩, q1 L2.length (by rw [← hL]; exact g.len) ?_⟩
  rw [← hL, g.cnt, List.take_length, e2]
end
end S4

set_option Elab.async false
set_option linter.all false
set_option maxRecDepth 100000
set_option maxHeartbeats 4000000
/-! z.translate({n: None}): a line of plain signs, without those of one number -/
namespace TD
open PySem PySem.Spec PyProof.Rows L2 PySem.Builtin PySem.Builtin.Str
/-- what becomes of a sign -/
def left1 (n c : Nat) : Option Nat := if c = n then none else some c
/-- a line without the signs of a number -/
def gone (n : Nat) (l : List Nat) : List Nat := l.filter fun c => decide (c ≠ n)
theorem goneLen (n : Nat) (l : List Nat) : (gone n l).length = l.length ↔ l.all (fun c => decide (c ≠ n)) = true := by
  unfold gone
  rw [List.length_filter_eq_length_iff, List.all_eq_true]
/-- the dict, as the machine knows it -/
structure Drops (P : Program) (w : World) (h : Heap) (d : Addr) (n : Nat) : Prop where
  low : (d == sysModules) = false
  has : ∃ f : Key → Option Value, h.MapOf (mixKind P w) d f ∧ f (Sum.inl (n : Int)) = some .none ∧ ∀ c : Nat, c ≠ n → f (Sum.inl (c : Int)) = none
theorem Drops.on {P : Program} {w : World} {h h' : Heap} {d : Addr} {n : Nat} (D : Drops P w h d n) (k : ∀ b o, h.get? b = some o → h'.get? b = some o) : Drops P w h' d n := by
  obtain ⟨lo, f, ⟨o, es, ep, ho, r⟩, q⟩ := D
  exact ⟨lo, f, ⟨o, es, ep, k _ _ ho, r⟩, q⟩
theorem keyLookup : isSubtype (.type "KeyError") (.type "LookupError") = pure true := by first | rfl | kernel_rfl
section
variable {P : Program} {w : World} {A : Around} {E : Value → Shared → Prop} {s : Shared} {d : Addr} {n c : Nat}
/-- one sign looked up -/
theorem oneSign {Q : Mapped → Shared → Prop} (hh : A.handled = none) (D : Drops P w s.heap d n)
    (y1 : c = n → ∀ h' k, (∀ b o, s.heap.get? b = some o → h'.get? b = some o) → Q .drop { s with heap := h', toks := k })
    (y2 : c ≠ n → ∀ h' k, (∀ b o, s.heap.get? b = some o → h'.get? b = some o) → Q .keep { s with heap := h', toks := k }) : wpAny (model P w) A (tableLookup (.ref d) c) Q E s := by
  obtain ⟨lo, f, M, f1, f2⟩ := D
  unfold tableLookup
  refine wpAny_bind (wpAny_attempt (wpAny_bind (wpAny_mkInt ?_)))
  by_cases e : c = n
  · refine wpAny_getItem_of (knd := mixKind P w) (k := Sum.inl (c : Int)) (kV_is ⟨_, rfl⟩) M (by rw [e]; exact f1) ?_
    exact wpAny_pure (y1 e s.heap _ fun _ _ z => z)
  · refine wpAny_getItem_missing_of (knd := mixKind P w) (k := Sum.inl (c : Int)) (kV_is ⟨_, rfl⟩) lo hh M (f2 c e) fun h' x hx => ?_
    obtain ⟨ob, t, ho, hc, _⟩ := hx.there
    refine wpAny_bind (wpAny_isInstance (T := "KeyError") (b := true) ⟨ob, ho, hc⟩ keyLookup ?_)
    simp only [if_true]
    exact wpAny_bind (wpAny_rule (wpAny_pure (y2 e h' _ hx.keeps)))
/-- the walk over the signs: where it stands -/
def At (n : Nat) (x : List Nat) (s : Shared) (rest : List Nat) (st : List Str × Nat × Bool × List (Nat × Option Nat) × Bool) (s2 : Shared) : Prop :=
  ∃ (past : List Nat) (ps : List Str) (tot : Nat) (kn : List (Nat × Option Nat)) (h' : Heap) (k : Nat), x = past ++ rest ∧ st = (ps, tot, true, kn, false) ∧ ps.reverse = (gone n past).map (fun c => (⟨#[c]⟩ : Str)) ∧
    tot ≤ past.length ∧ (∀ c a, List.lookup c kn = some a → a = left1 n c) ∧ s2 = { s with heap := h', toks := k } ∧ ∀ b o, s.heap.get? b = some o → h'.get? b = some o
theorem At.stay {x : List Nat} {rest past : List Nat} {ps : List Str} {tot : Nat} {kn : List (Nat × Option Nat)} {h' : Heap} {k : Nat} (h1 : x = past ++ c :: rest) (hc : c ≠ n) (h3 : ps.reverse = (gone n past).map (fun c => (⟨#[c]⟩ : Str)))
    (h5 : tot ≤ past.length) (h4 : ∀ c a, List.lookup c kn = some a → a = left1 n c) (h6 : ∀ b o, s.heap.get? b = some o → h'.get? b = some o) : At n x s rest (⟨#[c]⟩ :: ps, tot + 1, true, kn, false) { s with heap := h', toks := k } := by
  refine ⟨past ++ [c], ⟨#[c]⟩ :: ps, tot + 1, kn, h', k, by rw [h1]; simp, rfl, ?_, by simp; omega, h4, rfl, h6⟩
  unfold gone at h3 ⊢
  rw [List.reverse_cons, h3, List.filter_append, List.map_append, List.filter_cons, if_pos (decide_eq_true hc)]
  rfl
theorem At.skip {x : List Nat} {rest past : List Nat} {ps : List Str} {tot : Nat} {kn : List (Nat × Option Nat)} {h' : Heap} {k : Nat} (h1 : x = past ++ c :: rest) (hc : c = n) (h3 : ps.reverse = (gone n past).map (fun c => (⟨#[c]⟩ : Str)))
    (h5 : tot ≤ past.length) (h4 : ∀ c a, List.lookup c kn = some a → a = left1 n c) (h6 : ∀ b o, s.heap.get? b = some o → h'.get? b = some o) : At n x s rest (ps, tot, true, kn, false) { s with heap := h', toks := k } := by
  refine ⟨past ++ [c], ps, tot, kn, h', k, by rw [h1]; simp, rfl, ?_, by simp; omega, h4, rfl, h6⟩
  unfold gone at h3 ⊢
  rw [h3, List.filter_append, List.filter_cons, if_neg (by simp [hc])]
  simp
theorem glued : ∀ (l : List Nat) (a : Array Nat), (l.map fun c => (⟨#[c]⟩ : Str)).foldl (fun b p => b ++ p.cps) a = a ++ l.toArray
  | [], a => by simp
  | c :: l, a => by
    rw [List.map_cons, List.foldl_cons, glued l]
    apply Array.toList_inj.mp
    simp
theorem known2 {x y : Nat} {a b : Option Nat} {kn : List (Nat × Option Nat)} (h : List.lookup y ((x, a) :: kn) = some b) : (y = x ∧ b = a) ∨ List.lookup y kn = some b := by
  rw [List.lookup_cons] at h
  by_cases e : y = x
  · subst e
    rw [beq_self_eq_true] at h
    exact .inl ⟨rfl, (Option.some.inj h).symm⟩
  · rw [beq_eq_false_iff_ne.mpr e] at h
    exact .inr h
theorem meets (z : Str) (t : Tok) (hz : z.length ≤ 16000000) (ha : z.cps.all (fun c => decide (c < 128)) = true) : MeetsIn P w («str.translate» ⟨[.str z t, .ref d], []⟩) (fun A R s =>
    A.handled = none ∧ Drops P w s.heap d n ∧ ∀ (v : Value) (h' : Heap) (k : Nat), (∀ b o, s.heap.get? b = some o → h'.get? b = some o) → (∃ u, v = .str ⟨(gone n z.cps.toList).toArray⟩ u) → R (.ok (.ret v)) { s with heap := h', toks := k }) := by
  refine .of_wp fun A R s h => ?_
  obtain ⟨hh, D, h⟩ := h
  have hh1 : A.in1.handled = none := hh
  show wpAny _ _ (if (z.length == 0) = true then (do rule "str.translate.empty"; ret (.str z t)) else (do
    let st ← forIn z.cps (([], 0, z.cps.all fun c => decide (c < 128), [], false) : List Str × Nat × Bool × List (Nat × Option Nat) × Bool) _
    _)) _ _ s
  rw [ha]
  have hL : z.cps.toList.length = z.length := rfl
  cases h0 : (z.length == 0) with
  | true =>
    rw [if_pos rfl]
    have hx : z.cps.toList = [] := List.eq_nil_of_length_eq_zero (by rw [hL]; exact beq_iff_eq.mp h0)
    refine wpAny_bind (wpAny_rule (wpAny_pure ⟨_, rfl, h _ s.heap s.toks (fun _ _ e => e) ⟨t, ?_⟩⟩))
    have : z = ⟨(gone n z.cps.toList).toArray⟩ := by
      rw [hx]
      cases z with
      | mk a =>
        have : a.toList = [] := hx
        rw [show a = #[] from Array.toList_inj.mp this]
        rfl
    rw [← this]
  | false =>
    rw [if_neg Bool.false_ne_true]
    refine wpAny_bind (MeetsSeq2.wpAny_forIn_array _ (At n z.cps.toList s) _ (fun c rest st s2 hI => ?turn) (fun st s2 hI => ?fin) z.cps ([], 0, true, [], false) ?start)
    case start => exact ⟨[], [], 0, [], s.heap, s.toks, rfl, rfl, rfl, Nat.le_refl _, (fun c a y => by cases y), rfl, fun _ _ e => e⟩
    case turn =>
      obtain ⟨past, ps, tot, kn, h', k, e1, rfl, e3, e4, e5, rfl, e7⟩ := hI
      have hp : tot ≤ 16777216 := by
        have q := congrArg List.length e1
        rw [List.length_append, hL] at q
        omega
      show wpAny _ _ (if tooLong tot = true then _ else (if true = true then _ else _)) _ _ _
      rw [short24 hp, if_neg Bool.false_ne_true, if_pos rfl]
      have D' : Drops P w ({ s with heap := h', toks := k } : Shared).heap d n := D.on e7
      cases hl : List.lookup c kn with
      | some a =>
        have q := e5 c a hl
        subst q
        refine wpAny_bind (wpAny_pure ?_)
        by_cases ec : c = n
        · rw [show left1 n c = none from if_pos ec]
          exact wpAny_pure (At.skip e1 ec e3 e4 e5 e7)
        · rw [show left1 n c = some c from if_neg ec]
          exact wpAny_pure (At.stay e1 ec e3 e4 e5 e7)
      | none =>
        have more : ∀ b, b = left1 n c → ∀ y a, List.lookup y ((c, b) :: kn) = some a → a = left1 n y := fun b hb y a q => by
          rcases known2 q with ⟨q1, q2⟩ | q
          · rw [q2, hb, q1]
          · exact e5 y a q
        refine wpAny_bind (oneSign hh1 D' (fun ec h2 k2 k3 => ?_) (fun ec h2 k2 k3 => ?_))
        · refine wpAny_bind (wpAny_pure (wpAny_pure ?_))
          exact At.skip e1 ec e3 e4 (more none (if_pos ec).symm) (fun b o y => k3 b o (e7 b o y))
        · refine wpAny_bind (wpAny_pure (wpAny_pure ?_))
          exact At.stay e1 ec e3 e4 (more (some c) (if_neg ec).symm) (fun b o y => k3 b o (e7 b o y))
    case fin =>
      obtain ⟨past, ps, tot, kn, h', k, e1, rfl, e3, e4, e5, rfl, e7⟩ := hI
      rw [List.append_nil] at e1
      subst e1
      show wpAny _ _ (if tooLong tot = true then _ else retStr ⟨ps.reverse.foldl (fun b (p : Str) => b ++ p.cps) #[]⟩) _ _ _
      rw [short24 (by rw [hL] at e4; omega), if_neg Bool.false_ne_true, e3, glued, Array.empty_append]
      have le : (gone n z.cps.toList).length ≤ z.length := by
        unfold gone
        exact hL ▸ List.length_filter_le _ _
      exact wpAny_bind (wpAny_mkStr (wpAny_pure ⟨_, rfl, h _ h' _ e7 ⟨_, rfl⟩⟩) (by show (gone n z.cps.toList).toArray.size ≤ _; rw [List.size_toArray, sizeLine_eq]; omega))
end
section
variable {X : Cx}
/-- z.translate(d), where d is {n: None} -/
theorem mt_drop {n : Nat} (hc : X.calm = true) : MtR X "str.translate" (fun x xs H Q => ∃ (z : Str) (d : Addr), x = .str z ∧ xs = [.ref d] ∧ H d = some (.dK [(Sum.inl (n : Int), .non)]) ∧ z.cps.all (fun c => decide (c < 128)) = true ∧ z.length ≤ 16000000 ∧
    Q (.str ⟨(gone n z.cps.toList).toArray⟩) H) := by
  intro pins s σ H x xs v us Q I rx rs h
  obtain ⟨z, d, rfl, rfl, hd, ha, hz, h⟩ := h
  obtain ⟨t, rfl⟩ := rx
  cases rs with
  | cons r1 rs =>
    cases rs
    cases r1
    obtain ⟨_, lo, vs, rel, dd⟩ := dk_of I.hok hd
    have D : Drops X.prog X.w s.heap d n := by
      refine ⟨lo, _, dd.mapOf, ?_, fun c hcn => ?_⟩
      · have := rel.val (Sum.inl (n : Int))
        rw [show valV [((Sum.inl (n : Int) : Key), V.non)] (Sum.inl (n : Int)) = some .non from valV_pos rfl] at this
        obtain ⟨u, hu, ru⟩ := RelO.some_of this
        rw [hu]
        cases ru
        rfl
      · have := rel.val (Sum.inl (c : Int))
        rw [show valV [((Sum.inl (n : Int) : Key), V.non)] (Sum.inl (c : Int)) = none from by
          rw [valV_neg (fun e => by have := Sum.inl.inj e; omega)]
          rfl] at this
        revert this
        cases valueAt vs (Sum.inl (c : Int)) with
        | none => exact fun _ => rfl
        | some _ => exact fun e => e.elim
    refine call_meetsIn F.slot_str_translate (typeIs_str _ _ _) F.entry_str_translate (F.args_str_translate_2 _ _) (meets (n := n) z t hz ha) ⟨I.ok.hd hc, D, fun v h' k hk y => ?_⟩
    obtain ⟨u, rfl⟩ := y
    exact ⟨.str _, H, I.kept (t' := k) hk, ⟨u, rfl⟩, h⟩
end
end TD

set_option Elab.async false
set_option linter.all false
set_option maxRecDepth 100000
set_option maxHeartbeats 4000000
namespace KS
open PySem PySem.Spec PyProof.Rows L2
def top (i : Nat) : Stmt := PySem.Challenge.pw_farenough_k04_steps_of_trees.main.body.getD i (.Pass ⟨0, 0, 0, 0⟩)
abbrev FnP (K : PySem.W.Frag) (x : Str) (st : Stmt) (f : Addr) (fd : FuncData) : Prop := FunD K x x (defArgs st) (defBody st) (defScope st) [] [] f fd

abbrev sInteger : Stmt := top 8
abbrev sIsText : Stmt := top 9
abbrev sIsName : Stmt := top 10
abbrev sIsKey : Stmt := top 11
abbrev sAreKeys : Stmt := top 12
abbrev sAreAnswers : Stmt := top 13
abbrev lFeed : Stmt := top 28
abbrev lDraw : Stmt := top 29
abbrev lPick : Stmt := top 31
abbrev lCalls : Stmt := top 33
abbrev lText : Stmt := top 35
abbrev lAnswer : Stmt := top 36
abbrev lSame : Stmt := top 45
abbrev sCheck : Stmt := top 20
abbrev sInner : Stmt := top 21
abbrev sIsNode : Stmt := top 22
abbrev sParts : Stmt := top 23
abbrev sPair : Stmt := top 24
abbrev sCases : Stmt := top 25
abbrev sCase : Stmt := top 26
abbrev sStepOf : Stmt := top 18
abbrev sPiece : Stmt := top 19
abbrev lPartText : Stmt := top 43
abbrev lStepAt : Stmt := top 44
end KS

set_option Elab.async false
set_option linter.all false
set_option maxRecDepth 100000
set_option maxHeartbeats 4000000
namespace KS
open PySem PySem.Spec PyProof.Rows L2
theorem sameUpd {H : Hp} {p : Addr} {o : HO} (h : H p = none) : Same H (upd H p o) := fun b u e => by
  rw [upd_ne (ne_of_none e h)]
  exact e
theorem sameTup {K : PySem.W.Frag} {H H' : Hp} {a : Addr} {xs : List V} (e : Same H H') (h : SqT K H a xs) : SqT K H' a xs := by
  rcases h with (h | ⟨o, h⟩) | h
  · exact .inl (.inl (e _ _ h))
  · exact .inl (.inr ⟨o, e _ _ h⟩)
  · exact .inr h
mutual
theorem dpSame {K : PySem.W.Frag} {H H' : Hp} (e : Same H H') : ∀ (d : PyData) (v : V), Dp K H v d → Dp K H' v d
  | .none, _, h => by cases h; exact .non
  | .bool b, _, h => by cases h; exact .bl b
  | .int i, _, h => by cases h; exact .int i
  | .str x, _, h => by cases h; exact .str x
  | .list ds, _, h => by
    cases h with
    | lst ha hd => exact .lst (e.seq ha) (dpAllSame e ds _ hd)
  | .tuple ds, _, h => by
    cases h with
    | tup ha hd => exact .tup (sameTup e ha) (dpAllSame e ds _ hd)
  | .dict _, _, h => nomatch h
theorem dpAllSame {K : PySem.W.Frag} {H H' : Hp} (e : Same H H') : ∀ (ds : List PyData) (vs : List V), DpAll K H vs ds → DpAll K H' vs ds
  | [], _, h => by cases h; exact .nil
  | d :: ds, _, h => by
    cases h with
    | cons h1 h2 => exact .cons (dpSame e d _ h1) (dpAllSame e ds _ h2)
end
theorem dpLen {K : PySem.W.Frag} {H : Hp} : ∀ {vs : List V} {ds : List PyData}, DpAll K H vs ds → vs.length = ds.length
  | _, _, .nil => rfl
  | _, _, .cons _ r => by rw [List.length_cons, List.length_cons, dpLen r]
theorem dpAt {K : PySem.W.Frag} {H : Hp} : ∀ {vs : List V} {ds : List PyData}, DpAll K H vs ds → ∀ {i : Nat} {d : PyData}, ds[i]? = some d → ∃ v, vs[i]? = some v ∧ Dp K H v d
  | _, _, .nil, _, _, h => by simp at h
  | _, _, .cons h1 r, 0, _, h => by
    cases h
    exact ⟨_, rfl, h1⟩
  | _, _, .cons h1 r, i + 1, _, h => dpAt r (by simpa using h)
def SOk (z : Str) : Prop := z.cps.all (· < 0x110000) = true
/-- data down to the depth n: texts not too long, tuples not too wide, no lists -/
inductive Od : Nat → PyData → Prop
  | non (n : Nat) : Od n .none
  | bl (n : Nat) (b : Bool) : Od n (.bool b)
  | int (n : Nat) (i : Int) : Od n (.int i)
  | str (n : Nat) {z : Str} (h : SOk z) (h2 : z.length ≤ 2000) : Od n (.str z)
  | tup {n : Nat} {ds : List PyData} (h : ds.length ≤ 100) (h2 : ∀ d ∈ ds, Od n d) : Od (n + 1) (.tuple ds)
theorem Od.up {n : Nat} {d : PyData} (h : Od n d) : ∀ {m : Nat}, n ≤ m → Od m d := by
  induction h with
  | non n => exact fun _ => .non _
  | bl n b => exact fun _ => .bl _ b
  | int n i => exact fun _ => .int _ i
  | str n h h2 => exact fun _ => .str _ h h2
  | @tup n ds h h2 ih =>
    intro m hm
    obtain ⟨k, rfl⟩ : ∃ k, m = k + 1 := ⟨m - 1, by omega⟩
    exact .tup h fun d hd => ih d hd (by omega)
theorem allLay : ∀ {ds : List PyData} {n : Nat}, (∀ d ∈ ds, d.canLay0 = true ∧ d.depth ≤ n) → PyData.canLayAll0 ds = true ∧ PyData.depthAll ds ≤ n
  | [], n, _ => ⟨rfl, Nat.zero_le _⟩
  | d :: ds, n, h => by
    obtain ⟨h1, h2⟩ := h d List.mem_cons_self
    obtain ⟨h3, h4⟩ := allLay (n := n) fun x hx => h x (List.mem_cons_of_mem _ hx)
    constructor
    · simp only [PyData.canLayAll0, h1, h3, Bool.and_self]
    · simp only [PyData.depthAll]
      exact Nat.max_le.mpr ⟨h2, h4⟩
theorem Od.lay {n : Nat} {d : PyData} (h : Od n d) : d.canLay0 = true ∧ d.depth ≤ n := by
  induction h with
  | non n => exact ⟨rfl, Nat.zero_le _⟩
  | bl n b => exact ⟨rfl, Nat.zero_le _⟩
  | int n i => exact ⟨rfl, Nat.zero_le _⟩
  | str n h h2 => exact ⟨h, Nat.zero_le _⟩
  | @tup n ds h h2 ih =>
    obtain ⟨a, b⟩ := allLay (n := n) ih
    refine ⟨a, ?_⟩
    simp only [PyData.depth]
    omega
theorem Od.shaped {n : Nat} {d : PyData} (h : Od n d) (hn : n ≤ 64) : SeqAt.shaped d = true := by
  obtain ⟨a, b⟩ := h.lay
  unfold SeqAt.shaped
  rw [a, Bool.true_and]
  exact decide_eq_true (by omega)
/-! kinds -/
def tyD : PyData → String
  | .none => "NoneType" | .bool _ => "bool" | .int _ => "int" | .str _ => "str" | .list _ => "list" | .tuple _ => "tuple" | .dict _ => "dict"
def isT (t c : String) : Bool := t == c || (t == "bool" && c == "int")
def isD (d : PyData) (c : String) : Bool := isT (tyD d) c
theorem kitAll : ∀ t ∈ ["NoneType", "bool", "int", "str", "list", "tuple"], ∀ c ∈ ["tuple", "str", "int", "bool", "list"], kitB t c = some (isT t c) := by decide +kernel
theorem dpTy {K : PySem.W.Frag} {H : Hp} {v : V} {d : PyData} (h : Dp K H v d) : TyX K H v (.type (tyD d)) := by
  cases h with
  | non => exact .base .non
  | bl b => exact .base (.bl b)
  | int i => exact .base (.int i)
  | str x => exact .base (.str x)
  | lst h _ =>
    rcases h with (h | ⟨o, h⟩) | ⟨o, its, n, h, c, _⟩
    · exact .base (.lst h)
    · exact .base (.frz h)
    · exact .kList h c
  | tup h _ =>
    rcases h with (h | ⟨o, h⟩) | ⟨o, its, n, h, c, _⟩
    · exact .base (.tup h)
    · exact .fTuple h
    · exact .kTuple h c
theorem dpKit {K : PySem.W.Frag} {H : Hp} {v : V} {d : PyData} (h : Dp K H v d) {c : String} (hc : c = "tuple" ∨ c = "str" ∨ c = "int" ∨ c = "bool" ∨ c = "list") : PySem.W.kitOne K (.type (tyD d)) (.type c) = some (isD d c) := by
  have hc' : c ∈ ["tuple", "str", "int", "bool", "list"] := by rcases hc with rfl | rfl | rfl | rfl | rfl <;> simp
  refine kit_ty (kitAll _ ?_ _ hc')
  cases h <;> simp [tyD]
theorem isi {K : PySem.W.Frag} {H : Hp} {v : V} {d : PyData} (h : Dp K H v d) {c : String} (hc : c = "tuple" ∨ c = "str" ∨ c = "int" ∨ c = "bool" ∨ c = "list") {Q : VK} (q : Q (.bl (isD d c)) H) : rIsi K [v, .ty c] H Q :=
  ⟨v, .ty c, _, _, _, rfl, .ty c, dpTy h, dpKit h hc, q⟩
/-- the built-in names that are read -/
structure Bn (mg : Str → Option Value) : Prop where
  isi : mg "isinstance" = none
  len : mg "len" = none
  zip : mg "zip" = none
  all : mg "all" = none
  list : mg "list" = none
  tuple : mg "tuple" = none
  bool : mg "bool" = none
  int : mg "int" = none
  str : mg "str" = none
  range : mg "range" = none
  ord : mg "ord" = none
  set : mg "set" = none
  max : mg "max" = none
  min : mg "min" = none
/-! comprehensions with one name -/
theorem lcJ {J : It} {n : Nat} {g : TG} {tt : TT} {te : TE} {vs : List Nat} {σ : L2.St} {H1 : Hp} {D : Addr} {Qd : Hp → Prop} (Pv : Nat → Hp → Prop) (h0 : Pv 0 (upd H1 D (.lst [])))
    (hgo : ∀ i H, i < n → Pv i H → J.go i H) (hst : ∀ H, Pv n H → J.stop n H)
    (hs : ∀ i H x H', i < n → Pv i H → J.yld i H x H' → g x (wipe σ vs) H' fun σ2 H2 => wipe σ2 vs = wipe σ vs ∧ tt σ2 H2 fun b H3 =>
      if b = true then te σ2 H3 fun y H4 => ∃ acc, H4 D = some (.lst acc) ∧ acc.length < sizeLine ∧ Pv (i + 1) (upd H4 D (.lst (acc ++ [y]))) else Pv (i + 1) H3)
    (hd : ∀ H, Pv n H → Qd H) :
    ∃ W : Nat → Nat → Hp → Prop, (∃ m, W 0 m (upd H1 D (.lst []))) ∧ ∀ i m H, W i m H →
      (J.stop i H ∧ Qd H) ∨ (J.go i H ∧ ∃ Nx : Hp → Prop, (∀ H', Nx H' → ∃ m', m' < m ∧ W (i + 1) m' H') ∧ ∀ x H', J.yld i H x H' → g x (wipe σ vs) H' fun σ2 H2 => wipe σ2 vs = wipe σ vs ∧ tt σ2 H2 fun b H3 =>
        if b = true then te σ2 H3 fun y H4 => ∃ acc, H4 D = some (.lst acc) ∧ acc.length < sizeLine ∧ Nx (upd H4 D (.lst (acc ++ [y]))) else Nx H3) := by
  refine ⟨fun i m H => m = n - i ∧ i ≤ n ∧ Pv i H, ⟨n, by simp, Nat.zero_le _, h0⟩, fun i m H hW => ?_⟩
  obtain ⟨rfl, hi, p⟩ := hW
  by_cases lt : i < n
  · refine .inr ⟨hgo i H lt p, Pv (i + 1), fun H' p' => ⟨n - (i + 1), by omega, rfl, lt, p'⟩, fun x H' y => ?_⟩
    exact hs i H x H' lt p y
  · have e : i = n := by omega
    subst e
    exact .inl ⟨hst H p, hd H p⟩
/-- the list at D, all else as it was -/
def At (H1 : Hp) (D : Addr) (xs : List V) (H : Hp) : Prop := Same H1 H ∧ H D = some (.lst xs)
theorem At.put {H1 H H' : Hp} {D : Addr} {xs ys : List V} (hD : H1 D = none) (h : At H1 D xs H) (s : Same H H') : H' D = some (.lst xs) ∧ At H1 D ys (upd H' D (.lst ys)) := by
  obtain ⟨a, b⟩ := h
  refine ⟨s _ _ b, fun c o e => ?_, upd_same⟩
  rw [upd_ne (ne_of_none e hD)]
  exact s _ _ (a _ _ e)
theorem dpSnoc {K : PySem.W.Frag} {H : Hp} {y : V} {e : PyData} (hy : Dp K H y e) : ∀ {xs : List V} {ds : List PyData}, DpAll K H xs ds → DpAll K H (xs ++ [y]) (ds ++ [e])
  | _, _, .nil => .cons hy .nil
  | _, _, .cons h r => .cons h (dpSnoc hy r)
/-- every item answers a Bool -/
theorem lcAll {J : It} {n j : Nat} {te : TE} {σ : L2.St} {H1 : Hp} {D : Addr} {Qd : Hp → Prop} (b : Nat → Bool) (hD : H1 D = none) (hn : n ≤ 1000000) (hw : ∀ v, wipe ((wipe σ [j]).set j (some v)) [j] = wipe σ [j])
    (hgo : ∀ i H, i < n → Same H1 H → J.go i H) (hst : ∀ H, Same H1 H → J.stop n H)
    (hs : ∀ i H x H', i < n → Same H1 H → J.yld i H x H' → Same H H' ∧ ∀ (R : VK), (∀ H2, Same H' H2 → R (.bl (b i)) H2) → te ((wipe σ [j]).set j (some x)) H' R)
    (hd : ∀ H, Same H1 H → H D = some (.lst (((List.range n).map b).map V.bl)) → Qd H) :
    ∃ W : Nat → Nat → Hp → Prop, (∃ m, W 0 m (upd H1 D (.lst []))) ∧ ∀ i m H, W i m H →
      (J.stop i H ∧ Qd H) ∨ (J.go i H ∧ ∃ Nx : Hp → Prop, (∀ H', Nx H' → ∃ m', m' < m ∧ W (i + 1) m' H') ∧ ∀ x H', J.yld i H x H' → gName j x (wipe σ [j]) H' fun σ2 H2 => wipe σ2 [j] = wipe σ [j] ∧ tYes σ2 H2 fun b H3 =>
        if b = true then te σ2 H3 fun y H4 => ∃ acc, H4 D = some (.lst acc) ∧ acc.length < sizeLine ∧ Nx (upd H4 D (.lst (acc ++ [y]))) else Nx H3) := by
  refine lcJ (n := n) (fun i H => At H1 D (((List.range i).map b).map V.bl) H) ⟨sameUpd hD, upd_same⟩ (fun i H lt h => hgo i H lt h.1) (fun H h => hst H h.1) (fun i H x H' lt h y => ?_) (fun H h => hd H h.1 h.2)
  obtain ⟨s1, s2⟩ := hs i H x H' lt h.1 y
  refine ⟨hw x, ?_⟩
  unfold tYes
  dsimp only
  rw [if_pos rfl]
  refine s2 _ fun H2 s3 => ?_
  obtain ⟨e1, e2⟩ := h.put (ys := ((List.range (i + 1)).map b).map V.bl) hD (s1.trans s3)
  refine ⟨_, e1, ?_, ?_⟩
  · rw [List.length_map, List.length_map, List.length_range, sizeLine_eq]
    omega
  · have e3 : ((List.range (i + 1)).map b).map V.bl = ((List.range i).map b).map V.bl ++ [V.bl (b i)] := by
      rw [List.range_succ, List.map_append, List.map_append]
      rfl
    rw [← e3]
    exact e2
/-- the ones that answer true are kept -/
theorem lcSome {K : PySem.W.Frag} {J : It} {n j : Nat} {tt : TT} {te : TE} {σ : L2.St} {H1 : Hp} {D : Addr} {Qd : Hp → Prop} (b : Nat → Bool) (hD : H1 D = none) (hn : n ≤ 1000000) (hw : ∀ v, wipe ((wipe σ [j]).set j (some v)) [j] = wipe σ [j])
    (hgo : ∀ i H, i < n → Same H1 H → J.go i H) (hst : ∀ H, Same H1 H → J.stop n H)
    (hs : ∀ i H x H', i < n → Same H1 H → J.yld i H x H' → Same H H' ∧ (∀ (F : Bool → Hp → Prop), (∀ H2, Same H' H2 → F (b i) H2) → tt ((wipe σ [j]).set j (some x)) H' F) ∧ ∃ y d, (∀ H, Dp K H y d) ∧ Od 0 d ∧ ∀ (R : VK) H2, R y H2 → te ((wipe σ [j]).set j (some x)) H2 R)
    (hd : ∀ H xs, Same H1 H → H D = some (.lst xs) → (xs = [] ↔ ∀ i, i < n → b i = false) → (∃ ds, (∀ H, DpAll K H xs ds) ∧ (∀ d ∈ ds, Od 0 d) ∧ ds.length ≤ n) → Qd H) :
    ∃ W : Nat → Nat → Hp → Prop, (∃ m, W 0 m (upd H1 D (.lst []))) ∧ ∀ i m H, W i m H →
      (J.stop i H ∧ Qd H) ∨ (J.go i H ∧ ∃ Nx : Hp → Prop, (∀ H', Nx H' → ∃ m', m' < m ∧ W (i + 1) m' H') ∧ ∀ x H', J.yld i H x H' → gName j x (wipe σ [j]) H' fun σ2 H2 => wipe σ2 [j] = wipe σ [j] ∧ tt σ2 H2 fun b H3 =>
        if b = true then te σ2 H3 fun y H4 => ∃ acc, H4 D = some (.lst acc) ∧ acc.length < sizeLine ∧ Nx (upd H4 D (.lst (acc ++ [y]))) else Nx H3) := by
  refine lcJ (n := n) (fun i H => ∃ xs, At H1 D xs H ∧ (xs = [] ↔ ∀ k, k < i → b k = false) ∧ xs.length ≤ i ∧ ∃ ds, (∀ H, DpAll K H xs ds) ∧ ∀ d ∈ ds, Od 0 d) ⟨[], ⟨sameUpd hD, upd_same⟩, ⟨fun _ k hk => absurd hk (Nat.not_lt_zero _), fun _ => rfl⟩, Nat.le_refl _, [], fun _ => .nil, fun d hd => absurd hd (by simp)⟩ (fun i H lt h => hgo i H lt h.choose_spec.1.1) (fun H h => hst H h.choose_spec.1.1) (fun i H x H' lt h y => ?_)
    (fun H h => by obtain ⟨xs, h1, h2, h3, h4⟩ := h; obtain ⟨ds, g1, g2⟩ := h4; exact hd H xs h1.1 h1.2 h2 ⟨ds, g1, g2, by have := dpLen (g1 H); omega⟩)
  obtain ⟨xs, h, e0, hl, ds, hda, hod⟩ := h
  obtain ⟨s1, s2, z, zd, z1, z2, s4⟩ := hs i H x H' lt h.1 y
  refine ⟨hw x, s2 _ fun H2 s3 => ?_⟩
  cases hb : b i with
  | true =>
    refine iteT (s4 _ _ ?_)
    obtain ⟨e1, e2⟩ := h.put (ys := xs ++ [z]) hD (s1.trans s3)
    refine ⟨_, e1, by rw [sizeLine_eq]; omega, _, e2, ⟨fun q => absurd q (by simp), fun q => ?_⟩, by rw [List.length_append]; exact Nat.succ_le_succ hl, ds ++ [zd], fun H => dpSnoc (z1 H) (hda H), fun d hd => ?_⟩
    · rw [q i (Nat.lt_succ_self _)] at hb
      cases hb
    · rcases List.mem_append.mp hd with y | y
      · exact hod d y
      · rw [List.mem_singleton.mp y]
        exact z2
  | false =>
    refine iteF ⟨xs, ⟨(h.1.trans s1).trans s3, s3 _ _ (s1 _ _ h.2)⟩, ⟨fun q k hk => ?_, fun q => e0.mpr fun k hk => q k (by omega)⟩, by omega, ds, hda, hod⟩
    rcases Nat.lt_succ_iff_lt_or_eq.mp hk with c | c
    · exact e0.mp q k c
    · rw [c]
      exact hb
/-- all(..) over a tuple -/
theorem lcAllT {K : PySem.W.Frag} {a : Addr} {xs : List V} {ds : List PyData} {j : Nat} {te : TE} {σ : L2.St} {H1 : Hp} {D : Addr} {Qd : Hp → Prop} (p : PyData → Bool) (ha : SqT K H1 a xs) (hx : DpAll K H1 xs ds) (hn : ds.length ≤ 1000) (hD : H1 D = none) (hw : ∀ v, wipe ((wipe σ [j]).set j (some v)) [j] = wipe σ [j])
    (hs : ∀ v d H, d ∈ ds → Same H1 H → Dp K H v d → ∀ (R : VK), (∀ H2, Same H H2 → R (.bl (p d)) H2) → te ((wipe σ [j]).set j (some v)) H R)
    (hd : ∀ H, Same H1 H → H D = some (.lst ((ds.map p).map V.bl)) → Qd H) :
    ∃ W : Nat → Nat → Hp → Prop, (∃ m, W 0 m (upd H1 D (.lst []))) ∧ ∀ i m H, W i m H →
      ((Itt K a).stop i H ∧ Qd H) ∨ ((Itt K a).go i H ∧ ∃ Nx : Hp → Prop, (∀ H', Nx H' → ∃ m', m' < m ∧ W (i + 1) m' H') ∧ ∀ x H', (Itt K a).yld i H x H' → gName j x (wipe σ [j]) H' fun σ2 H2 => wipe σ2 [j] = wipe σ [j] ∧ tYes σ2 H2 fun b H3 =>
        if b = true then te σ2 H3 fun y H4 => ∃ acc, H4 D = some (.lst acc) ∧ acc.length < sizeLine ∧ Nx (upd H4 D (.lst (acc ++ [y]))) else Nx H3) := by
  have hl := dpLen hx
  refine lcAll (n := ds.length) (fun i => p (ds.getD i .none)) hD (by omega) hw (fun i H lt s => ?_) (fun H s => ⟨xs, sameTup s ha, by omega⟩) (fun i H x H' lt s y => ?_) (fun H s e => hd H s ?_)
  · exact ⟨xs, xs[i], sameTup s ha, List.getElem?_eq_getElem (by omega)⟩
  · obtain ⟨rfl, y⟩ := y
    refine ⟨Same.refl _, fun R hR => ?_⟩
    have e := y xs (sameTup s ha)
    have e2 : ds[i]? = some ds[i] := List.getElem?_eq_getElem lt
    obtain ⟨v, h1, h2⟩ := dpAt hx e2
    obtain rfl : v = x := Option.some.inj (h1.symm.trans e)
    rw [List.getD_eq_getElem?_getD, e2] at hR
    exact hs v ds[i] _ (List.getElem_mem lt) s (dpSame s _ _ h2) R hR
  · rw [e]
    have : (List.range ds.length).map (fun i => p (ds.getD i .none)) = ds.map p := by
      refine List.ext_getElem (by simp) fun i h1 h2 => ?_
      simp only [List.getElem_map, List.getElem_range]
      rw [List.getD_eq_getElem?_getD, List.getElem?_eq_getElem (by simpa using h1)]
      rfl
    rw [this]
/-- the kept ones of a tuple -/
theorem lcSomeT {K : PySem.W.Frag} {a : Addr} {xs : List V} {ds : List PyData} {j : Nat} {tt : TT} {te : TE} {σ : L2.St} {H1 : Hp} {D : Addr} {Qd : Hp → Prop} (p : PyData → Bool) (ha : SqT K H1 a xs) (hx : DpAll K H1 xs ds) (hn : ds.length ≤ 1000) (hD : H1 D = none) (hw : ∀ v, wipe ((wipe σ [j]).set j (some v)) [j] = wipe σ [j])
    (hs : ∀ v d H, d ∈ ds → Same H1 H → Dp K H v d → (∀ (F : Bool → Hp → Prop), (∀ H2, Same H H2 → F (p d) H2) → tt ((wipe σ [j]).set j (some v)) H F) ∧ ∃ y d, (∀ H, Dp K H y d) ∧ Od 0 d ∧ ∀ (R : VK) H2, R y H2 → te ((wipe σ [j]).set j (some v)) H2 R)
    (hd : ∀ H zs, Same H1 H → H D = some (.lst zs) → (zs = [] ↔ ∀ d ∈ ds, p d = false) → (∃ es, (∀ H, DpAll K H zs es) ∧ (∀ d ∈ es, Od 0 d) ∧ es.length ≤ ds.length) → Qd H) :
    ∃ W : Nat → Nat → Hp → Prop, (∃ m, W 0 m (upd H1 D (.lst []))) ∧ ∀ i m H, W i m H →
      ((Itt K a).stop i H ∧ Qd H) ∨ ((Itt K a).go i H ∧ ∃ Nx : Hp → Prop, (∀ H', Nx H' → ∃ m', m' < m ∧ W (i + 1) m' H') ∧ ∀ x H', (Itt K a).yld i H x H' → gName j x (wipe σ [j]) H' fun σ2 H2 => wipe σ2 [j] = wipe σ [j] ∧ tt σ2 H2 fun b H3 =>
        if b = true then te σ2 H3 fun y H4 => ∃ acc, H4 D = some (.lst acc) ∧ acc.length < sizeLine ∧ Nx (upd H4 D (.lst (acc ++ [y]))) else Nx H3) := by
  have hl := dpLen hx
  refine lcSome (K := K) (n := ds.length) (fun i => p (ds.getD i .none)) hD (by omega) hw (fun i H lt s => ?_) (fun H s => ⟨xs, sameTup s ha, by omega⟩) (fun i H x H' lt s y => ?_) (fun H zs s e e0 es => hd H zs s e (e0.trans ?_) es)
  · exact ⟨xs, xs[i], sameTup s ha, List.getElem?_eq_getElem (by omega)⟩
  · obtain ⟨rfl, y⟩ := y
    have e := y xs (sameTup s ha)
    have e2 : ds[i]? = some ds[i] := List.getElem?_eq_getElem lt
    obtain ⟨v, h1, h2⟩ := dpAt hx e2
    obtain rfl : v = x := Option.some.inj (h1.symm.trans e)
    rw [List.getD_eq_getElem?_getD, e2]
    exact ⟨Same.refl _, hs v ds[i] _ (List.getElem_mem lt) s (dpSame s _ _ h2)⟩
  · constructor
    · intro h d hd
      obtain ⟨i, hi, e⟩ := List.getElem_of_mem hd
      have := h i hi
      rw [List.getD_eq_getElem?_getD, List.getElem?_eq_getElem hi] at this
      rw [← e]
      exact this
    · intro h i hi
      rw [List.getD_eq_getElem?_getD, List.getElem?_eq_getElem hi]
      exact h _ (List.getElem_mem hi)
/-- a kept list against [] -/
theorem eqNil {K : PySem.W.Frag} {H : Hp} {D e : Addr} {zs : List V} {Q : VK} {n : Nat} (hD : H D = some (.lst zs)) (he : H e = some (.lst [])) (es : ∃ es, (∀ H, DpAll K H zs es) ∧ (∀ d ∈ es, Od 0 d) ∧ es.length ≤ n) (h : Q (.bl (decide (zs = []))) H) : rEqD K (.ref D) (.ref e) H Q := by
  obtain ⟨ds, h1, h2, _⟩ := es
  refine ⟨.list ds, .list [], .lst (.inl (.inl hD)) (h1 H), .lst (.inl (.inl he)) .nil, ?_, rfl, ?_⟩
  · obtain ⟨a, b⟩ := allLay (ds := ds) (n := 0) fun d hd => (h2 d hd).lay
    have e1 : (PyData.list ds).canLay0 = true := a
    unfold SeqAt.shaped
    rw [e1, Bool.true_and]
    refine decide_eq_true ?_
    simp only [PyData.depth]
    omega
  · have hl := dpLen (h1 H)
    cases ds with
    | nil =>
      have : zs = [] := List.eq_nil_of_length_eq_zero hl
      subst this
      exact h
    | cons d ds =>
      have : ¬ zs = [] := fun z => by rw [z] at hl; cases hl
      rw [decide_eq_false this] at h
      exact h
theorem neNil {K : PySem.W.Frag} {H : Hp} {D e : Addr} {zs : List V} {Q : VK} {n : Nat} (hD : H D = some (.lst zs)) (he : H e = some (.lst [])) (es : ∃ es, (∀ H, DpAll K H zs es) ∧ (∀ d ∈ es, Od 0 d) ∧ es.length ≤ n) (h : Q (.bl (!decide (zs = []))) H) : rNeD K (.ref D) (.ref e) H Q := by
  obtain ⟨d, e, h1, h2, h3, h4, h5⟩ := eqNil (Q := fun x H => Q (match x with | .bl b => .bl (!b) | _ => x) H) hD he es h
  exact ⟨d, e, h1, h2, h3, h4, h5⟩
end KS

set_option Elab.async false
set_option linter.all false
set_option maxRecDepth 100000
set_option maxHeartbeats 4000000
namespace KS
open PySem PySem.Spec PyProof.Rows L2
/-! ### what the words mean -/
def signOk (c : Nat) : Bool := decide (32 ≤ c) && (decide (c ≤ 126) && decide (c ≠ 37))
def okT (z : Str) : Bool := decide (z.length ≤ 400) && z.cps.toList.all signOk
def letter (c : Nat) : Bool := decide (97 ≤ c) && decide (c ≤ 122)
def nameSign (c : Nat) : Bool := letter c || (decide (48 ≤ c) && decide (c ≤ 57))
def okN (z : Str) : Bool := decide (1 ≤ z.length) && (decide (z.length ≤ 8) && (letter (z.cps.getD 0 0) && z.cps.toList.all nameSign))
def isTx : PyData → Bool
  | .str z => okT z
  | _ => false
def isNm : PyData → Bool
  | .str z => okN z
  | _ => false
def isKy : PyData → Bool
  | .tuple [a, b] => isNm a && isNm b
  | _ => false
/-- a promise: the answer to a question about one value -/
def spIs (K : PySem.W.Frag) (n : Nat) (p : PyData → Bool) : Sp := fun vs H Q _ => ∃ v d, vs = [v] ∧ Dp K H v d ∧ Od n d ∧ ∀ H', Same H H' → Q (.bl (p d)) H'
/-- a def's bundle -/
structure Has (P : Program) (w : World) (K : PySem.W.Frag) (mg : Str → Option Value) (base : Heap) (k : Nat) (x : Str) (ps : List Str) (sp : Sp) : Prop where
  ex : ∃ (f : Addr) (fd : FuncData), mg x = some (.ref f) ∧ PySem.W.keepIn K (.ref f) = true ∧ Binds K fd ps [] ∧ FnOk P w K mg base CX0 k f fd ps sp
abbrev IntG (mg : Str → Option Value) (x : Str) (i : Int) : Prop := ∃ t, mg x = some (.int i t)
theorem IntG.gc {mg : Str → Option Value} {x : Str} {i : Int} (h : IntG mg x i) : ∃ u, mg x = some u ∧ RelV (.int i) u := let ⟨t, e⟩ := h; ⟨_, e, t, rfl⟩
section
variable {P : Program} {w : World} {K : PySem.W.Frag} {mg : Str → Option Value} {base : Heap} {f : Addr} {fd : FuncData}
theorem leOne (a c : Nat) : (!decide ([c] < [a])) = decide (a ≤ c) := by
  have e : ([c] < [a]) ↔ c < a := by
    rw [List.cons_lt_cons_iff]
    constructor
    · rintro (h | ⟨_, h⟩)
      · exact h
      · exact absurd h (by simp)
    · exact fun h => .inl h
  by_cases h : a ≤ c
  · rw [decide_eq_true h, decide_eq_false (fun z => absurd (e.mp z) (by omega))]
    rfl
  · rw [decide_eq_false h, decide_eq_true (e.mpr (by omega))]
    rfl
theorem scText : FnScope ["value"] ["value"] (defScope sIsText) := ⟨rfl, rfl, rfl, by decide +kernel, rfl, by decide +kernel, by decide +kernel⟩
theorem allRange (l : List Nat) (p : Nat → Bool) : (((List.range l.length).map fun i => p (l.getD i 0)).all id) = l.all p := by
  rw [Bool.eq_iff_iff, List.all_eq_true, List.all_eq_true]
  constructor
  · intro h x hx
    obtain ⟨i, hi, e⟩ := List.getElem_of_mem hx
    have := h (p (l.getD i 0)) (List.mem_map.mpr ⟨i, List.mem_range.mpr hi, rfl⟩)
    rw [List.getD_eq_getElem?_getD, List.getElem?_eq_getElem hi] at this
    rw [← e]
    exact this
  · intro h b hb
    obtain ⟨i, hi, e⟩ := List.mem_map.mp hb
    rw [← e]
    have hi' := List.mem_range.mp hi
    rw [List.getD_eq_getElem?_getD, List.getElem?_eq_getElem hi']
    exact h _ (List.getElem_mem hi')
theorem plainTil : (List.range 128).all (fun c => decide (c ≠ 37) && Unicode.isPrintable c == signOk c || decide (c = 37)) = true := by decide +kernel
theorem plainSign {c : Nat} (h : c < 128) (h2 : c ≠ 37) : Unicode.isPrintable c = signOk c := by
  have := List.all_eq_true.mp plainTil c (List.mem_range.mpr h)
  rw [decide_eq_true h2, decide_eq_false h2, Bool.true_and, Bool.or_false] at this
  exact eq_of_beq this
theorem signAscii {c : Nat} (h : signOk c = true) : c < 128 ∧ c ≠ 37 := by
  unfold signOk at h
  rw [Bool.and_eq_true, Bool.and_eq_true, decide_eq_true_eq, decide_eq_true_eq, decide_eq_true_eq] at h
  omega
theorem okT_as (z : Str) : z.cps.toList.all signOk = (Txt.isascii z && (Txt.isprintable z && decide ((TD.gone 37 z.cps.toList).length = z.cps.toList.length))) := by
  have e1 : Txt.isascii z = z.cps.toList.all (fun c => decide (c < 128)) := by
    show z.cps.all _ = _
    rw [Array.all_toList]
  have e2 : Txt.isprintable z = z.cps.toList.all Unicode.isPrintable := by
    show z.cps.all _ = _
    rw [Array.all_toList]
  rw [e1, e2, Bool.eq_iff_iff, Bool.and_eq_true, Bool.and_eq_true, decide_eq_true_eq, TD.goneLen]
  simp only [List.all_eq_true, decide_eq_true_eq]
  constructor
  · intro h
    refine ⟨fun c hc => (signAscii (h c hc)).1, fun c hc => ?_, fun c hc => (signAscii (h c hc)).2⟩
    rw [plainSign (signAscii (h c hc)).1 (signAscii (h c hc)).2]
    exact h c hc
  · intro ⟨h1, h2, h3⟩ c hc
    rw [← plainSign (h1 c hc) (h3 c hc)]
    exact h2 c hc
theorem okText {k n : Nat} (F : FnP K "is_text" sIsText f fd) (B : Bn mg) (g1 : IntG mg "LONGEST_TEXT" 400) : FnOk P w K mg base CX0 (k + 1) f fd ["value"] (spIs K n isTx) := by
  refine F.ok scText (fun vs H Q E h => ?_) (fun cdv A outer s H vs Q E hr h => ?_)
  · obtain ⟨v, d, rfl, _⟩ := h
    rfl
  · obtain ⟨v, d, rfl, hd, od, q⟩ := h
    refine ⟨_, PSs.nox (pss_cons (ps_if (PW.pt (pw_or (pt_not (pt_val (pe_callB call_isi (by rfl) B.isi (by decide +kernel) (pa_cons (pv 0) (pa_cons (pe_bltn (v := .ty "str") (by rfl) B.str (by decide +kernel) rfl) pa_nil)))))
        (pw_or (pt_cmpR op_gt (pe_callB call_len_str (by rfl) B.len PySem.boot_len (pa_cons (pv 0) pa_nil)) (C8.pe_gc (by rfl) g1.gc) (nomark _))
        (pw_or (pt_not (pt_val (pe_bm0 PySem.F.plainAttrs_str PySem.F.slot_str_isascii PySem.F.type_str_isascii mt_isascii (pv 0))))
        (pw_or1 (pt_not (pt_val (pe_bm0 PySem.F.plainAttrs_str PySem.F.slot_str_isprintable PySem.F.type_str_isprintable mt_isprintable (pv 0))))))))) (pss_one (ps_ret pe_bl)) pss_nil) (pss_one (ps_ret (pe_cmpR op_eq (pe_callB call_len_str (by rfl) B.len PySem.boot_len (pa_cons (pe_bm PySem.F.plainAttrs_str PySem.F.slot_str_translate PySem.F.type_str_translate (TD.mt_drop (n := 37) rfl) (pv 0)
          (pa_cons (pe_disp (pps_cons pe_int pe_non pps_nil) (by rfl) (by rfl) (fun z => by cases z) (by decide)) pa_nil)) pa_nil))
        (pe_callB call_len_str (by rfl) B.len PySem.boot_len (pa_cons (pv 0) pa_nil)) (nomark _))))), ?_⟩
    refine ⟨v, rfl, v, .ty "str", _, _, _, rfl, .ty _, dpTy hd, dpKit hd (.inr (.inl rfl)), _, rfl, ?_⟩
    cases od with
    | @str _ z sok len =>
      cases hd
      have hq : ∀ H', Same H H' → ∀ b, okT z = b → Q (.bl b) H' := fun H' s' b e => e ▸ q H' s'
      refine iteF ⟨.str z, rfl, z, rfl, by rw [sizeLine_eq]; omega, _, _, rfl, rfl, _, rfl, ite2 (fun e => ?_) (fun e => ?_)⟩
      · have e1 : (400 : Int) < (z.length : Int) := of_decide_eq_true e
        exact hq H (Same.refl H) _ (by unfold okT; rw [decide_eq_false (by omega), Bool.false_and])
      · have e1 : ¬ (400 : Int) < (z.length : Int) := fun y => e (decide_eq_true y)
        have e2 : okT z = (Txt.isascii z && (Txt.isprintable z && decide ((TD.gone 37 z.cps.toList).length = z.cps.toList.length))) := by
          rw [← okT_as]
          unfold okT
          rw [decide_eq_true (by omega), Bool.true_and]
        refine ⟨.str z, rfl, rfl, z, rfl, rfl, trivial, _, rfl, ?_⟩
        cases ha : Txt.isascii z with
        | false => exact iteT (hq H (Same.refl H) _ (by rw [e2, ha, Bool.false_and]))
        | true =>
          refine iteF ⟨.str z, rfl, rfl, z, rfl, rfl, trivial, _, rfl, ?_⟩
          cases hp : Txt.isprintable z with
          | false => exact iteT (hq H (Same.refl H) _ (by rw [e2, hp, Bool.false_and, Bool.and_false]))
          | true =>
            rw [ha, hp, Bool.true_and, Bool.true_and] at e2
            refine iteF ⟨.str z, rfl, rfl, fun D hD => ⟨upd_same .., [(Sum.inl 37, V.non)], rfl, by decide, z, D, rfl, rfl, upd_same .., ha, by omega, _, rfl, ?_, .str z, rfl, z, rfl, by rw [sizeLine_eq]; omega, ?_⟩⟩
            · have := List.length_filter_le (fun c => decide (c ≠ 37)) z.cps.toList
              have e3 : z.cps.toList.length = z.length := rfl
              show (TD.gone 37 z.cps.toList).toArray.size ≤ _
              rw [List.size_toArray, sizeLine_eq]
              unfold TD.gone
              omega
            · refine ⟨rfl, ?_⟩
              have e3 : decide (V.int (((⟨(TD.gone 37 z.cps.toList).toArray⟩ : Str).length : Nat) : Int) = V.int (z.length : Int)) = decide ((TD.gone 37 z.cps.toList).length = z.cps.toList.length) := by
                rw [decide_eq_decide]
                have e4 : (⟨(TD.gone 37 z.cps.toList).toArray⟩ : Str).length = (TD.gone 37 z.cps.toList).length := List.size_toArray
                have e5 : z.cps.toList.length = z.length := rfl
                rw [e4, e5]
                constructor
                · intro y
                  have : ((TD.gone 37 z.cps.toList).length : Int) = (z.length : Int) := by injection y
                  omega
                · intro y
                  rw [y]
              rw [e3]
              exact hq _ (fun b o hb => by
                have ne : b ≠ D := fun e => by rw [e, hD] at hb; cases hb
                rw [upd_ne ne, upd_ne ne]
                exact hb) _ e2
    | non => exact iteT (q H (Same.refl H))
    | bl => exact iteT (q H (Same.refl H))
    | int => exact iteT (q H (Same.refl H))
    | tup => exact iteT (q H (Same.refl H))
end
end KS

set_option Elab.async false
set_option linter.all false
set_option maxRecDepth 100000
set_option maxHeartbeats 4000000
namespace KS
open PySem PySem.Spec PyProof.Rows L2
section
variable {P : Program} {w : World} {K : PySem.W.Frag} {mg : Str → Option Value} {base : Heap} {f : Addr} {fd : FuncData}
theorem nameTil : (List.range 128).all (fun c => (Unicode.isAlnum c && !(Unicode.isUpper c || Unicode.isTitle c)) == nameSign c) = true := by decide +kernel
theorem lowTil : (List.range 128).all (fun c => !letter c || Unicode.isLower c) = true := by decide +kernel
theorem nameIs {c : Nat} (h : c < 128) : (Unicode.isAlnum c && !(Unicode.isUpper c || Unicode.isTitle c)) = nameSign c :=
  eq_of_beq (List.all_eq_true.mp nameTil c (List.mem_range.mpr h))
theorem nameLow {c : Nat} (h : nameSign c = true) : c < 128 := by
  unfold nameSign letter at h
  simp only [Bool.or_eq_true, Bool.and_eq_true, decide_eq_true_eq] at h
  omega
theorem lowIs {c : Nat} (h : letter c = true) : Unicode.isLower c = true := by
  have hc : c < 128 := nameLow (by unfold nameSign; rw [h, Bool.true_or])
  have := List.all_eq_true.mp lowTil c (List.mem_range.mpr hc)
  rw [h] at this
  exact this
theorem okN_as (z : Str) {c0 : Nat} (h0 : z.cps[0]? = some c0) (hl : letter c0 = true) : z.cps.toList.all nameSign = (Txt.isascii z && (Txt.isalnum z && Txt.islower z)) := by
  have m0 : c0 ∈ z.cps.toList := List.mem_of_getElem? (i := 0) (by rw [Array.getElem?_toList]; exact h0)
  have e1 : Txt.isascii z = z.cps.toList.all (fun c => decide (c < 128)) := by
    show z.cps.all _ = _
    rw [Array.all_toList]
  have e2 : Txt.isalnum z = z.cps.toList.all Unicode.isAlnum := by
    show (decide (z.length > 0) && z.cps.all _) = _
    rw [Array.all_toList, decide_eq_true (by show z.cps.toList.length > 0; exact List.length_pos_of_mem m0), Bool.true_and]
  have e3 : Txt.islower z = !z.cps.toList.any (fun c => Unicode.isUpper c || Unicode.isTitle c) := by
    show (z.cps.any _ && !z.cps.any _) = _
    rw [← Array.any_toList, ← Array.any_toList, List.any_eq_true.mpr ⟨c0, m0, lowIs hl⟩, Bool.true_and]
  rw [e1, e2, e3, Bool.eq_iff_iff, Bool.and_eq_true, Bool.and_eq_true, Bool.not_eq_true', List.any_eq_false]
  simp only [List.all_eq_true, decide_eq_true_eq]
  constructor
  · intro h
    refine ⟨fun c hc => nameLow (h c hc), fun c hc => ?_, fun c hc => ?_⟩
    · have := h c hc
      rw [← nameIs (nameLow this), Bool.and_eq_true] at this
      exact this.1
    · have := h c hc
      rw [← nameIs (nameLow this), Bool.and_eq_true, Bool.not_eq_true'] at this
      rw [this.2]
      exact Bool.false_ne_true
  · intro ⟨h1, h2, h3⟩ c hc
    rw [← nameIs (h1 c hc), h2 c hc, Bool.eq_false_iff.mpr (h3 c hc)]
    rfl
theorem scName : FnScope ["value"] ["value"] (defScope sIsName) := ⟨rfl, rfl, rfl, by decide +kernel, rfl, by decide +kernel, by decide +kernel⟩
theorem okName {k n : Nat} (F : FnP K "is_name" sIsName f fd) (B : Bn mg) (g1 : IntG mg "LONGEST_NAME" 8) : FnOk P w K mg base CX0 (k + 1) f fd ["value"] (spIs K n isNm) := by
  refine F.ok scName (fun vs H Q E h => ?_) (fun cdv A outer s H vs Q E hr h => ?_)
  · obtain ⟨v, d, rfl, _⟩ := h
    rfl
  · obtain ⟨v, d, rfl, hd, od, q⟩ := h
    refine ⟨_, PSs.nox (pss_cons (ps_if (PW.pt (pw_or (pt_not (pt_val (pe_callB call_isi (by rfl) B.isi (by decide +kernel) (pa_cons (pv 0) (pa_cons (pe_bltn (v := .ty "str") (by rfl) B.str (by decide +kernel) rfl) pa_nil)))))
        (pw_or1 (pt_not (pt_chain op_le op_le pe_int (pe_callB call_len_str (by rfl) B.len PySem.boot_len (pa_cons (pv 0) pa_nil)) (C8.pe_gc (by rfl) g1.gc)))))) (pss_one (ps_ret pe_bl)) pss_nil) (pss_one (ps_ret (pe_and (pe_chain op_le_str op_le_str pe_str (pe_ix ix_str (pv 0) pe_int (fun _ _ => rfl)) pe_str)
        (pe_and (pe_bm0 PySem.F.plainAttrs_str PySem.F.slot_str_isascii PySem.F.type_str_isascii mt_isascii (pv 0))
        (pe_and (pe_bm0 PySem.F.plainAttrs_str PySem.F.slot_str_isalnum PySem.F.type_str_isalnum mt_isalnum (pv 0))
        (pe_one (pe_bm0 PySem.F.plainAttrs_str PySem.F.slot_str_islower PySem.F.type_str_islower mt_islower (pv 0))))))))), ?_⟩
    refine ⟨v, rfl, v, .ty "str", _, _, _, rfl, .ty _, dpTy hd, dpKit hd (.inr (.inl rfl)), _, rfl, ?_⟩
    cases od with
    | @str _ z sok len =>
      cases hd
      have hq : ∀ H', Same H H' → ∀ b, okN z = b → Q (.bl b) H' := fun H' s' b e => e ▸ q H' s'
      refine iteF ⟨.str z, rfl, z, rfl, by rw [sizeLine_eq]; omega, _, _, rfl, rfl, _, rfl, ?_⟩
      by_cases h1 : 1 ≤ z.length
      · rw [if_pos (decide_eq_true (by omega : (1 : Int) ≤ (z.length : Int)))]
        refine ⟨_, _, rfl, rfl, _, rfl, ?_⟩
        by_cases h2 : z.length ≤ 8
        · rw [decide_eq_true (by omega : (z.length : Int) ≤ 8)]
          refine iteF ?_
          have hz : ∃ c, z.cps[0]? = some c := ⟨z.cps[0]'h1, Array.getElem?_eq_getElem h1⟩
          obtain ⟨c, hc⟩ := hz
          have e1 : okN z = (letter c && z.cps.toList.all nameSign) := by
            unfold okN
            rw [decide_eq_true h1, decide_eq_true h2, Bool.true_and, Bool.true_and, Array.getD_eq_getD_getElem?, hc]
            rfl
          have k1 : (!decide ((⟨#[c]⟩ : Str).cps.toList < ("a" : Str).cps.toList)) = decide (97 ≤ c) := leOne 97 c
          have k2 : (!decide (("z" : Str).cps.toList < (⟨#[c]⟩ : Str).cps.toList)) = decide (c ≤ 122) := leOne c 122
          refine ⟨.str z, rfl, z, 0, c, rfl, rfl, by rw [sizeLine_eq]; omega, atI_nat (j := 0) (by rw [Array.getElem?_toList]; exact hc), _, _, rfl, rfl, _, rfl, ?_⟩
          rw [k1]
          by_cases h3 : 97 ≤ c
          · rw [if_pos (decide_eq_true h3)]
            refine ⟨_, _, rfl, rfl, _, rfl, ?_⟩
            rw [k2]
            by_cases h4 : c ≤ 122
            · have hl : letter c = true := by unfold letter; rw [decide_eq_true h3, decide_eq_true h4]; rfl
              have e2 : okN z = (Txt.isascii z && (Txt.isalnum z && Txt.islower z)) := by rw [e1, hl, Bool.true_and, okN_as z hc hl]
              rw [if_pos (decide_eq_true h4)]
              refine ⟨.str z, rfl, rfl, z, rfl, rfl, trivial, _, rfl, ?_⟩
              cases ha : Txt.isascii z with
              | false => exact hq H (Same.refl H) _ (by rw [e2, ha, Bool.false_and])
              | true =>
                refine iteT ⟨.str z, rfl, rfl, z, rfl, rfl, trivial, _, rfl, ?_⟩
                cases hp : Txt.isalnum z with
                | false => exact hq H (Same.refl H) _ (by rw [e2, hp, Bool.false_and, Bool.and_false])
                | true => exact iteT ⟨.str z, rfl, rfl, z, rfl, rfl, trivial, hq H (Same.refl H) _ (by rw [e2, ha, hp, Bool.true_and, Bool.true_and])⟩
            · rw [if_neg (by simp [h4])]
              have : decide (c ≤ 122) = false := decide_eq_false h4
              exact hq H (Same.refl H) _ (by rw [e1]; unfold letter; rw [this, Bool.and_false, Bool.false_and])
          · rw [if_neg (by simp [h3])]
            have : decide (97 ≤ c) = false := decide_eq_false h3
            exact ⟨_, rfl, hq H (Same.refl H) _ (by rw [e1]; unfold letter; rw [this, Bool.false_and, Bool.false_and])⟩
        · rw [decide_eq_false (by omega : ¬ (z.length : Int) ≤ 8)]
          exact iteT (hq H (Same.refl H) _ (by unfold okN; rw [decide_eq_false h2, Bool.false_and, Bool.and_false]))
      · rw [if_neg (by rw [decide_eq_true_eq]; omega)]
        exact ⟨_, rfl, iteT (hq H (Same.refl H) _ (by unfold okN; rw [decide_eq_false h1, Bool.false_and]))⟩
    | non => exact iteT (q H (Same.refl H))
    | bl => exact iteT (q H (Same.refl H))
    | int => exact iteT (q H (Same.refl H))
    | tup => exact iteT (q H (Same.refl H))
theorem scKey : FnScope ["value"] ["value"] (defScope sIsKey) := ⟨rfl, rfl, rfl, by decide +kernel, rfl, by decide +kernel, by decide +kernel⟩
theorem dInt {i j : Int} : decide (V.int i = V.int j) = decide (i = j) := by
  rw [decide_eq_decide]
  exact ⟨fun h => by injection h, fun h => by rw [h]⟩
theorem okKey {k n : Nat} (F : FnP K "is_key" sIsKey f fd) (B : Bn mg) (Nm : Has P w K mg base (k + 2) "is_name" ["value"] (spIs K n isNm)) : FnOk P w K mg base CX0 (k + 3) f fd ["value"] (spIs K n isKy) := by
  obtain ⟨fN, fdN, gN, kN, bN, GN⟩ := Nm.ex
  refine F.ok scKey (fun vs H Q E h => ?_) (fun cdv A outer s H vs Q E hr h => ?_)
  · obtain ⟨v, d, rfl, _⟩ := h
    rfl
  · obtain ⟨v, d, rfl, hd, od, q⟩ := h
    refine ⟨_, PSs.nox (pss_one (ps_ret (pe_and (pe_callB call_isi (by rfl) B.isi (by decide +kernel) (pa_cons (pv 0) (pa_cons (pe_bltn (v := .ty "tuple") (by rfl) B.tuple (by decide +kernel) rfl) pa_nil)))
      (pe_and (pe_cmpR op_eq (pe_callB call_len_seq (by rfl) B.len PySem.boot_len (pa_cons (pv 0) pa_nil)) pe_int (nomark _))
      (pe_and (pe_call GN hr (by rfl) gN kN bN .nil pass0 (pa_cons (pe_ix ix_tup (pv 0) pe_int (fun _ _ => rfl)) pa_nil)) (pe_one (pe_call GN hr (by rfl) gN kN bN .nil pass0 (pa_cons (pe_ix ix_tup (pv 0) pe_int (fun _ _ => rfl)) pa_nil)))))))), ?_⟩
    refine ⟨v, rfl, v, .ty "tuple", _, _, _, rfl, .ty _, dpTy hd, dpKit hd (.inl rfl), _, rfl, ?_⟩
    cases od with
    | @tup n ds hl hod =>
      cases hd with
      | @tup a xs _ hx hds =>
        have el := dpLen hds
        refine iteT ⟨.ref a, rfl, a, xs, rfl, .inr hx, rfl, _, rfl, ?_⟩
        rw [dInt]
        refine ite2 (fun e => ?_) (fun e => ?_)
        · have e2 : xs.length = 2 := by have := of_decide_eq_true e; omega
          match xs, ds, hds, el, e2 with
          | [x0, x1], [d0, d1], .cons h0 (.cons h1 .nil), _, _ =>
            have o0 := (hod d0 (by simp)).up (m := n + 1) (by omega)
            have o1 := (hod d1 (by simp)).up (m := n + 1) (by omega)
            refine ⟨.ref a, rfl, a, _, 0, x0, rfl, rfl, hx, atI_nat (j := 0) rfl, x0, d0, rfl, h0, o0, fun H1 s1 => ⟨_, rfl, ite2 (fun e => ?_) (fun e => ?_)⟩⟩
            · refine ⟨.ref a, rfl, a, _, 1, x1, rfl, rfl, sameTup s1 hx, atI_nat (j := 1) rfl, x1, d1, rfl, dpSame s1 _ _ h1, o1, fun H2 s2 => ?_⟩
              have := q H2 (s1.trans s2)
              rw [show isKy (.tuple [d0, d1]) = (isNm d0 && isNm d1) from rfl, e, Bool.true_and] at this
              exact this
            · have := q H1 s1
              rw [show isKy (.tuple [d0, d1]) = (isNm d0 && isNm d1) from rfl, Bool.eq_false_iff.mpr e, Bool.false_and] at this
              exact this
        · have e2 : xs.length ≠ 2 := fun z => e (by rw [z]; rfl)
          have e3 : isKy (.tuple ds) = false := by
            match ds, el with
            | [], _ => rfl
            | [_], _ => rfl
            | [_, _], el => exact absurd el e2
            | _ :: _ :: _ :: _, _ => rfl
          rw [e3] at q
          exact q H (Same.refl H)
    | non => exact iteF (q H (Same.refl H))
    | bl => exact iteF (q H (Same.refl H))
    | int => exact iteF (q H (Same.refl H))
    | str => exact iteF (q H (Same.refl H))
end
end KS

set_option Elab.async false
set_option linter.all false
set_option maxRecDepth 100000
set_option maxHeartbeats 4000000
namespace KS
open PySem PySem.Spec PyProof.Rows L2
def namesOf : PyData → List Str
  | .tuple [.str a, .str b] => [a, b]
  | _ => []
def areKy : PyData → Bool
  | .tuple ds => decide (1 ≤ ds.length) && (decide (ds.length ≤ 4) && (ds.all isKy && decide ((ds.map namesOf).Nodup)))
  | _ => false
def orNone : PyData → Bool
  | .none => true
  | d => isTx d
def areAn : PyData → Bool
  | .tuple ds => decide (1 ≤ ds.length) && (decide (ds.length ≤ 4) && ds.all orNone)
  | _ => false
def areAr : PyData → Bool
  | .tuple ds => decide (ds.length ≤ 4) && ds.all isTx
  | _ => false
def isIn : PyData → Bool
  | .int _ => true
  | _ => false
def isWord (z : Str) (d : PyData) : Bool := PyData.eqv d (.str z)
def isSt : PyData → Bool
  | .tuple [a, b] => isWord "read" a && areKy b
  | .tuple [a, b, c] => isWord "write" a && (isNm b && isTx c)
  | .tuple ds => PyData.eqv (.tuple ds) (.tuple [.str "stop"])
  | _ => false
def rowsOk : PyData → Bool
  | .tuple ds => ds.all areAn
  | _ => false
def posI : PyData → Bool
  | .int i => decide (0 ≤ i)
  | _ => false
def isPl : PyData → Bool
  | .tuple [r, a, s, c] => isTx r && (areAr a && (rowsOk s && posI c))
  | _ => false
theorem kyShape {d : PyData} (h : isKy d = true) : ∃ a b : Str, d = .tuple [.str a, .str b] := by
  unfold isKy at h
  split at h
  · rename_i a b
    rw [Bool.and_eq_true] at h
    cases a <;> simp [isNm] at h
    cases b <;> simp [isNm] at h
    exact ⟨_, _, rfl⟩
  · cases h
theorem txRow {K : PySem.W.Frag} {H : Hp} : ∀ {ds : List PyData} {xs : List V}, DpAll K H xs ds → ds.all isKy = true → S4.TxRow K H xs (ds.map namesOf)
  | _, _, .nil, _ => .nil
  | _, _, .cons h r, e => by
    rw [List.all_cons, Bool.and_eq_true] at e
    obtain ⟨a, b, rfl⟩ := kyShape e.1
    cases h with
    | tup hx hd =>
      cases hd with
      | cons h1 r1 =>
        cases r1 with
        | cons h2 r2 =>
          cases r2
          cases h1
          cases h2
          exact .cons (k := [a, b]) hx (txRow r e.2)
section
variable {P : Program} {w : World} {K : PySem.W.Frag} {mg : Str → Option Value} {base : Heap} {f : Addr} {fd : FuncData}
theorem scKeys : FnScope ["value", "key"] ["value"] (defScope sAreKeys) := ⟨rfl, rfl, rfl, by decide +kernel, rfl, by decide +kernel, by decide +kernel⟩
theorem okKeys {k n : Nat} (F : FnP K "are_keys" sAreKeys f fd) (B : Bn mg) (g1 : IntG mg "MOST_KEYS" 4) (Ky : Has P w K mg base (k + 3) "is_key" ["value"] (spIs K n isKy)) : FnOk P w K mg base CX0 (k + 4) f fd ["value"] (spIs K n areKy) := by
  obtain ⟨fN, fdN, gN, kN, bN, GN⟩ := Ky.ex
  refine F.ok scKeys (fun vs H Q E h => ?_) (fun cdv A outer s H vs Q E hr h => ?_)
  · obtain ⟨v, d, rfl, _⟩ := h
    rfl
  · obtain ⟨v, d, rfl, hd, od, q⟩ := h
    refine ⟨_, PSs.nox (pss_cons (ps_if (PW.pt (pw_or (pt_not (pt_val (pe_callB call_isi (by rfl) B.isi (by decide +kernel) (pa_cons (pv 0) (pa_cons (pe_bltn (v := .ty "tuple") (by rfl) B.tuple (by decide +kernel) rfl) pa_nil)))))
        (pw_or1 (pt_not (pt_chain op_le op_le pe_int (pe_callB call_len_seq (by rfl) B.len PySem.boot_len (pa_cons (pv 0) pa_nil)) (C8.pe_gc (by rfl) g1.gc)))))) (pss_one (ps_ret pe_bl)) pss_nil) (pss_one (ps_ret (pe_and (pe_callB (cr_all rfl) (by rfl) B.all (by decide +kernel) (pa_cons (pe_lc (own := [("key", 1)]) (g := gName 1) rfl scKeys.nd (pi_tup (pv 0)) (blkOk_by (N := ["value", "key"]) (sc := defScope sAreKeys) (by decide +kernel))
        (fun _ _ _ _ _ => pg_name (i := 1) scKeys.nd rfl (.inl rfl) (hf := .inr rfl)) (fun _ _ _ _ _ => pts_nil)
        (fun _ _ _ _ _ => pe_call GN hr (by rfl) gN kN bN .nil pass0 (pa_cons (pv 1) pa_nil))) pa_nil))
        (pe_one (pe_cmpR op_eq (S4.pe_lenSetT hr.units rfl (by rfl) B.len (by rfl) B.set (pv 0)) (pe_callB call_len_seq (by rfl) B.len PySem.boot_len (pa_cons (pv 0) pa_nil)) (nomark _))))))), ?_⟩
    refine ⟨v, rfl, v, .ty "tuple", _, _, _, rfl, .ty _, dpTy hd, dpKit hd (.inl rfl), _, rfl, ?_⟩
    cases od with
    | @tup n ds hl hod =>
      cases hd with
      | @tup a xs _ hx hds =>
        have el := dpLen hds
        have hq : ∀ H', Same H H' → ∀ b, areKy (.tuple ds) = b → Q (.bl b) H' := fun H' s' b e => e ▸ q H' s'
        refine iteF ⟨.ref a, rfl, a, xs, rfl, .inr hx, _, _, rfl, rfl, _, rfl, ?_⟩
        by_cases h1 : 1 ≤ ds.length
        · rw [if_pos (decide_eq_true (by omega : (1 : Int) ≤ (xs.length : Int)))]
          refine ⟨_, _, rfl, rfl, _, rfl, ?_⟩
          by_cases h2 : ds.length ≤ 4
          · rw [decide_eq_true (by omega : (xs.length : Int) ≤ 4)]
            refine iteF ?_
            have e1 : areKy (.tuple ds) = (ds.all isKy && decide ((ds.map namesOf).Nodup)) := by
              show (decide (1 ≤ ds.length) && (decide (ds.length ≤ 4) && (ds.all isKy && decide ((ds.map namesOf).Nodup)))) = _
              rw [decide_eq_true h1, decide_eq_true h2, Bool.true_and, Bool.true_and]
            refine ⟨.ref a, rfl, a, rfl, ⟨xs, hx⟩, fun D hD => ?_⟩
            refine lcAllT isKy hx hds (by omega) hD (fun v => rfl) (fun v d H1 hm s1 hd R hR => ?_) (fun H1 s1 e3 => ?_)
            · exact ⟨v, rfl, v, d, rfl, hd, (hod d hm).up (by omega), fun H2 s2 => hR H2 s2⟩
            · refine ⟨D, ds.map isKy, rfl, .inl (.inl e3), _, rfl, ?_⟩
              rw [show (ds.map isKy).all id = ds.all isKy by rw [List.all_map]; rfl]
              refine ite2 (fun e => ?_) (fun e => ?_)
              · refine ⟨.ref a, rfl, a, xs, _, rfl, sameTup s1 hx, txRow (dpAllSame s1 _ _ hds) e, by rw [List.length_map]; exact h2, fun m m1 m2 => ?_⟩
                refine ⟨.ref a, rfl, a, xs, rfl, .inr (sameTup s1 hx), rfl, ?_⟩
                rw [dInt]
                refine hq H1 s1 _ ?_
                rw [e1, e, Bool.true_and, decide_eq_decide, ← m2, List.length_map]
                omega
              · exact hq H1 s1 _ (by rw [e1, Bool.eq_false_iff.mpr e, Bool.false_and])
          · rw [decide_eq_false (by omega : ¬ (xs.length : Int) ≤ 4)]
            exact iteT (hq H (Same.refl H) _ (by show (decide (1 ≤ ds.length) && (decide (ds.length ≤ 4) && _)) = _; rw [decide_eq_false h2, Bool.false_and, Bool.and_false]))
        · rw [if_neg (by rw [decide_eq_true_eq]; omega)]
          exact ⟨_, rfl, iteT (hq H (Same.refl H) _ (by show (decide (1 ≤ ds.length) && _) = _; rw [decide_eq_false h1, Bool.false_and]))⟩
    | non => exact iteT (q H (Same.refl H))
    | bl => exact iteT (q H (Same.refl H))
    | int => exact iteT (q H (Same.refl H))
    | str => exact iteT (q H (Same.refl H))
theorem scAns : FnScope ["value", "answer"] ["value"] (defScope sAreAnswers) := ⟨rfl, rfl, rfl, by decide +kernel, rfl, by decide +kernel, by decide +kernel⟩
theorem okAns {k n : Nat} (F : FnP K "are_answers" sAreAnswers f fd) (B : Bn mg) (g1 : IntG mg "MOST_KEYS" 4) (Tx : Has P w K mg base (k + 1) "is_text" ["value"] (spIs K n isTx)) : FnOk P w K mg base CX0 (k + 2) f fd ["value"] (spIs K n areAn) := by
  obtain ⟨fN, fdN, gN, kN, bN, GN⟩ := Tx.ex
  refine F.ok scAns (fun vs H Q E h => ?_) (fun cdv A outer s H vs Q E hr h => ?_)
  · obtain ⟨v, d, rfl, _⟩ := h
    rfl
  · obtain ⟨v, d, rfl, hd, od, q⟩ := h
    refine ⟨_, PSs.nox (pss_cons (ps_if (PW.pt (pw_or (pt_not (pt_val (pe_callB call_isi (by rfl) B.isi (by decide +kernel) (pa_cons (pv 0) (pa_cons (pe_bltn (v := .ty "tuple") (by rfl) B.tuple (by decide +kernel) rfl) pa_nil)))))
        (pw_or1 (pt_not (pt_chain op_le op_le pe_int (pe_callB call_len_seq (by rfl) B.len PySem.boot_len (pa_cons (pv 0) pa_nil)) (C8.pe_gc (by rfl) g1.gc)))))) (pss_one (ps_ret pe_bl)) pss_nil) (pss_one (ps_ret (pe_callB (cr_all rfl) (by rfl) B.all (by decide +kernel) (pa_cons (pe_lc (own := [("answer", 1)]) (g := gName 1) rfl scAns.nd (pi_tup (pv 0)) (blkOk_by (N := ["value", "answer"]) (sc := defScope sAreAnswers) (by decide +kernel))
        (fun _ _ _ _ _ => pg_name (i := 1) scAns.nd rfl (.inl rfl) (hf := .inr rfl)) (fun _ _ _ _ _ => pts_nil)
        (fun _ _ _ _ _ => pe_or (pe_cmpR op_isN (pv 1) pe_non (nomark _)) (pe_one (pe_call GN hr (by rfl) gN kN bN .nil pass0 (pa_cons (pv 1) pa_nil))))) pa_nil))))), ?_⟩
    refine ⟨v, rfl, v, .ty "tuple", _, _, _, rfl, .ty _, dpTy hd, dpKit hd (.inl rfl), _, rfl, ?_⟩
    cases od with
    | @tup n ds hl hod =>
      cases hd with
      | @tup a xs _ hx hds =>
        have el := dpLen hds
        have hq : ∀ H', Same H H' → ∀ b, areAn (.tuple ds) = b → Q (.bl b) H' := fun H' s' b e => e ▸ q H' s'
        refine iteF ⟨.ref a, rfl, a, xs, rfl, .inr hx, _, _, rfl, rfl, _, rfl, ?_⟩
        by_cases h1 : 1 ≤ ds.length
        · rw [if_pos (decide_eq_true (by omega : (1 : Int) ≤ (xs.length : Int)))]
          refine ⟨_, _, rfl, rfl, _, rfl, ?_⟩
          by_cases h2 : ds.length ≤ 4
          · rw [decide_eq_true (by omega : (xs.length : Int) ≤ 4)]
            refine iteF ?_
            refine ⟨.ref a, rfl, a, rfl, ⟨xs, hx⟩, fun D hD => ?_⟩
            refine lcAllT orNone hx hds (by omega) hD (fun v => rfl) (fun v d H1 hm s1 hd R hR => ?_) (fun H1 s1 e3 => ?_)
            · refine ⟨v, rfl, rfl, _, rfl, ?_⟩
              have od2 : Od (n + 1) d := (hod d hm).up (by omega)
              by_cases hn : v = .non
              · subst hn
                cases hd
                exact iteT (hR H1 (Same.refl _))
              · rw [decide_eq_false hn]
                refine iteF ⟨v, rfl, v, d, rfl, hd, od2, fun H2 s2 => ?_⟩
                have := hR H2 s2
                cases hd with
                | non => exact absurd rfl hn
                | _ => exact this
            · refine ⟨D, ds.map orNone, rfl, .inl (.inl e3), ?_⟩
              rw [show (ds.map orNone).all id = ds.all orNone by rw [List.all_map]; rfl]
              refine hq H1 s1 _ ?_
              show (decide (1 ≤ ds.length) && (decide (ds.length ≤ 4) && ds.all orNone)) = _
              rw [decide_eq_true h1, decide_eq_true h2, Bool.true_and, Bool.true_and]
          · rw [decide_eq_false (by omega : ¬ (xs.length : Int) ≤ 4)]
            exact iteT (hq H (Same.refl H) _ (by show (decide (1 ≤ ds.length) && (decide (ds.length ≤ 4) && _)) = _; rw [decide_eq_false h2, Bool.false_and, Bool.and_false]))
        · rw [if_neg (by rw [decide_eq_true_eq]; omega)]
          exact ⟨_, rfl, iteT (hq H (Same.refl H) _ (by show (decide (1 ≤ ds.length) && _) = _; rw [decide_eq_false h1, Bool.false_and]))⟩
    | non => exact iteT (q H (Same.refl H))
    | bl => exact iteT (q H (Same.refl H))
    | int => exact iteT (q H (Same.refl H))
    | str => exact iteT (q H (Same.refl H))
theorem scInt : FnScope ["value"] ["value"] (defScope sInteger) := ⟨rfl, rfl, rfl, by decide +kernel, rfl, by decide +kernel, by decide +kernel⟩
theorem okInt {k n : Nat} (F : FnP K "is_integer" sInteger f fd) (B : Bn mg) : FnOk P w K mg base CX0 (k + 1) f fd ["value"] (spIs K n isIn) := by
  refine F.ok scInt (fun vs H Q E h => ?_) (fun cdv A outer s H vs Q E hr h => ?_)
  · obtain ⟨v, d, rfl, _⟩ := h
    rfl
  · obtain ⟨v, d, rfl, hd, od, q⟩ := h
    refine ⟨_, PSs.nox (pss_one (ps_ret (pe_and (pe_callB call_isi (by rfl) B.isi (by decide +kernel) (pa_cons (pv 0) (pa_cons (pe_bltn (v := .ty "int") (by rfl) B.int (by decide +kernel) rfl) pa_nil)))
      (pe_one (pe_not (pe_callB call_isi (by rfl) B.isi (by decide +kernel) (pa_cons (pv 0) (pa_cons (pe_bltn (v := .ty "bool") (by rfl) B.bool (by decide +kernel) rfl) pa_nil)))))))), ?_⟩
    refine ⟨v, rfl, v, .ty "int", _, _, _, rfl, .ty _, dpTy hd, dpKit hd (.inr (.inr (.inl rfl))), _, rfl, ?_⟩
    have k2 := @dpKit K H v d hd "bool" (.inr (.inr (.inr (.inl rfl))))
    have t2 := dpTy hd
    cases od with
    | int => exact iteT ⟨v, rfl, v, .ty "bool", _, _, _, rfl, .ty _, t2, k2, _, rfl, q H (Same.refl H)⟩
    | bl => exact iteT ⟨v, rfl, v, .ty "bool", _, _, _, rfl, .ty _, t2, k2, _, rfl, q H (Same.refl H)⟩
    | non => exact iteF (q H (Same.refl H))
    | str => exact iteF (q H (Same.refl H))
    | tup => exact iteF (q H (Same.refl H))
end
end KS

set_option Elab.async false
set_option linter.all false
set_option maxRecDepth 100000
set_option maxHeartbeats 4000000
namespace KS.La
open PySem PySem.Spec PyProof.Rows L2
/-! ### the feed -/
/-- all but the list at f stands -/
def Kp (f : Addr) (H H' : Hp) : Prop := ∀ b o, b ≠ f → H b = some o → H' b = some o
def Fd (H : Hp) (f : Addr) : Prop := ∃ x y : Int, H f = some (.lst [.int x, .int y]) ∧ 0 ≤ x ∧ 0 ≤ y
theorem Kp.refl (f : Addr) (H : Hp) : Kp f H H := fun _ _ _ h => h
theorem Kp.trans {f : Addr} {H H1 H2 : Hp} (a : Kp f H H1) (b : Kp f H1 H2) : Kp f H H2 := fun c o n h => b c o n (a c o n h)
theorem Kp.put {f : Addr} {H : Hp} {o : HO} : Kp f H (upd H f o) := fun b u n h => by
  rw [upd_ne n]
  exact h
theorem Kp.new {f p : Addr} {H : Hp} {o : HO} (h : H p = none) : Kp f H (upd H p o) := fun b u _ e => by
  rw [upd_ne (ne_of_none e h)]
  exact e
theorem Kp.same {f : Addr} {H H' : Hp} (s : Same H H') : Kp f H H' := fun b o _ h => s b o h
theorem Fd.same {f : Addr} {H H' : Hp} (s : Same H H') : Fd H f → Fd H' f := fun ⟨x, y, h, a, b⟩ => ⟨x, y, s _ _ h, a, b⟩
theorem Fd.new {f p : Addr} {H : Hp} {o : HO} (h : H p = none) (e : Fd H f) : Fd (upd H p o) f := e.same (sameUpd h)
theorem Fd.put {f : Addr} {H : Hp} {x y : Int} (hx : 0 ≤ x) (hy : 0 ≤ y) : Fd (upd H f (.lst [.int x, .int y])) f := ⟨x, y, upd_same, hx, hy⟩
/-! ### promises -/
def spFeed (K : PySem.W.Frag) : Sp := fun vs H Q _ => ∃ (a : Addr) (ns : List Int) (k : Int), vs = [.ref a, .int k] ∧ SqL K H a (ns.map V.int) ∧ ns.length ≤ 63 ∧ 0 ≤ k ∧ k < 1000 ∧ ∀ p H', Same H H' → H p = none → Fd H' p → Q (.ref p) H'
def spDraw : Sp := fun vs H Q _ => ∃ (f : Addr) (n : Int), vs = [.ref f, .int n] ∧ Fd H f ∧ 0 < n ∧ n < 1000000 ∧ ∀ (r : Int) H', 0 ≤ r → r < n → Kp f H H' → Fd H' f → Q (.int r) H'
def spPick (K : PySem.W.Frag) : Sp := fun vs H Q _ => ∃ (f l : Addr) (xs : List V), vs = [.ref f, .ref l] ∧ Fd H f ∧ SqL K H l xs ∧ l ≠ f ∧ 0 < xs.length ∧ xs.length < 1000 ∧ ∀ (i : Nat) (v : V) H', xs[i]? = some v → Kp f H H' → Fd H' f → Q v H'
def spCalls : Sp := fun vs H Q _ => vs = [] ∧ ∀ p, H p = none → Q (.ref p) (upd H p (.lst [.str "make", .str "", .str "r 2", .str "Mend!", .str "m"]))
/-- what the law calls a line -/
def lineOk (z : Str) : Bool := decide (z.length ≤ 400) && !decide (10 ∈ z.cps.toList)
/-- drawn texts are texts -/
def TOk (z : Str) : Prop := SOk z ∧ z.length ≤ 1000 ∧ okT z = true
instance (z : Str) : Decidable (TOk z) := by unfold TOk SOk; infer_instance
theorem lineOfT {z : Str} (h : okT z = true) : lineOk z = true := by
  unfold okT at h
  unfold lineOk
  rw [Bool.and_eq_true] at h ⊢
  refine ⟨h.1, ?_⟩
  rw [Bool.not_eq_true', decide_eq_false_iff_not]
  intro hm
  have := List.all_eq_true.mp h.2 10 hm
  exact absurd this (by decide)
theorem sokFold : ∀ (l : List (Array Nat)) (a : Array Nat), a.all (· < 0x110000) = true → (∀ b ∈ l, b.all (· < 0x110000) = true) → (l.foldl (· ++ ·) a).all (· < 0x110000) = true
  | [], _, h, _ => h
  | b :: l, a, h, k => sokFold l (a ++ b) (by rw [Array.all_append, h, k b (List.mem_cons_self ..)]; rfl) fun c hc => k c (List.mem_cons_of_mem _ hc)
theorem sokMul {z : Str} {n : Int} (h : SOk z) : SOk (Txt.mul z n) := by
  unfold Txt.mul
  split
  · (show Str.empty.cps.all (· < 0x110000) = true; decide +kernel)
  · split
    · exact h
    · exact sokFold _ #[] (by simp) fun b hb => by rw [List.eq_of_mem_replicate hb]; exact h
theorem allFold (p : Nat → Bool) : ∀ (l : List (Array Nat)) (a : Array Nat), a.all p = true → (∀ b ∈ l, b.all p = true) → (l.foldl (· ++ ·) a).all p = true
  | [], _, h, _ => h
  | b :: l, a, h, k => allFold p l (a ++ b) (by rw [Array.all_append, h, k b (List.mem_cons_self ..)]; rfl) fun c hc => k c (List.mem_cons_of_mem _ hc)
theorem allMul (p : Nat → Bool) {z : Str} {n : Int} (h : z.cps.all p = true) : (Txt.mul z n).cps.all p = true := by
  unfold Txt.mul
  split
  · show (#[] : Array Nat).all p = true
    simp
  · split
    · exact h
    · exact allFold p _ #[] (by simp) fun b hb => by rw [List.eq_of_mem_replicate hb]; exact h
theorem tokMul {z : Str} {n : Int} {c : Nat} (h : SOk z) (e : z = ⟨#[c]⟩) (m : n ≤ 400) (hc : signOk c = true) : TOk (Txt.mul z n) := by
  have hl := len_mul_one (N := 400) e m
  have ht : okT (Txt.mul z n) = true := by
    unfold okT
    rw [Bool.and_eq_true]
    refine ⟨decide_eq_true hl, ?_⟩
    have := allMul signOk (z := z) (n := n) (by rw [e]; simpa using hc)
    rw [← Array.all_toList] at this
    exact this
  exact ⟨sokMul h, by omega, ht⟩
def spText : Sp := fun vs H Q _ => ∃ f : Addr, vs = [.ref f] ∧ Fd H f ∧ ∀ (z : Str) H', TOk z → Kp f H H' → Fd H' f → Q (.str z) H'
section
variable {P : Program} {w : World} {K : PySem.W.Frag} {mg : Str → Option Value} {base : Heap} {f : Addr} {fd : FuncData}
theorem scFeed : FnScope ["_law_script", "_law_k", "_law_cell", "_law_great"] ["_law_script", "_law_k"] (defScope lFeed) := ⟨rfl, rfl, rfl, by decide +kernel, rfl, by decide +kernel, by decide +kernel⟩
theorem seqNat {ns : List Int} {k : Int} (h0 : 0 ≤ k) (h : k < (ns.length : Int)) : ∃ n : Int, atI (ns.map V.int) k = some (.int n) := by
  obtain ⟨j, rfl⟩ : ∃ j : Nat, k = (j : Int) := ⟨k.toNat, by omega⟩
  have hj : j < ns.length := by omega
  refine ⟨ns[j], atI_nat ?_⟩
  rw [List.getElem?_map, List.getElem?_eq_getElem hj]
  rfl
theorem okFeed {k : Nat} (F : FnP K "_law_feed_of" lFeed f fd) (ml : mg "len" = none) : FnOk P w K mg base CX0 (k + 1) f fd ["_law_script", "_law_k"] (spFeed K) := by
  refine F.ok scFeed (fun vs H Q E h => ?_) (fun cdv A outer s H vs Q E hr h => ?_)
  · obtain ⟨a, ns, k, rfl, _⟩ := h
    rfl
  · obtain ⟨a, ns, n, rfl, hS, hlen, hn0, hn1, q⟩ := h
    refine ⟨_, PSs.nox (pss_cons (ps_set (i := 2) scFeed.nd rfl (.inl rfl) (pe_op op_add (pe_op op_mul pe_int (pv 1)) pe_int))
      (C8.pss_cut (ps_if (pt_cmpR op_lt (pv 1) (pe_callB call_len_seq (by rfl) ml PySem.boot_len (pa_cons (pv 0) pa_nil)) (nomark _)) (pss_one (ps_set (i := 2) scFeed.nd rfl (.inl rfl) (pe_ix ix_list (pv 0) (pv 1) (fun _ _ => rfl)))) pss_nil)
      (C8.pss_cut (ps_if (pt_cmpR op_lt (pv 2) pe_int (nomark _)) (pss_one (ps_set (i := 2) scFeed.nd rfl (.inl rfl) (pe_op op_sub pe_int (pe_op op_mul pe_int (pv 2))))) pss_nil)
      (C8.pss_cut (ps_set (i := 3) scFeed.nd rfl (.inl rfl) (pe_ifExp (pt_cmpR op_ge (pv 2) (pe_op op_pow pe_int pe_int) (nomark _)) (pv 2) pe_int))
      (pss_one (ps_ret (pe_lst (pa_cons (pv 3) (pa_cons (pe_op op_add (pe_op op_add (pe_op op_mod (pv 2) pe_int) (pe_op op_mul pe_int (pv 1))) pe_int) pa_nil))))))))), ?_⟩
    refine ⟨.int n, rfl, 9029, n, rfl, rfl, .inl ⟨by decide, by decide⟩, 9029 * n, 31, rfl, rfl, ?_⟩
    refine ⟨fun σ' H' => H' = H ∧ ∃ c : Int, σ' = [some (.ref a), some (.int n), some (.int c), none], ?_, ?_⟩
    · refine ⟨.int n, rfl, .ref a, rfl, a, _, rfl, .inl hS, n, _, rfl, rfl, _, rfl, ite2 (fun e => ?_) (fun _ => ?_)⟩
      · have e1 : n < ((ns.map V.int).length : Int) := of_decide_eq_true e
        rw [List.length_map] at e1
        obtain ⟨c, hc⟩ := seqNat hn0 e1
        exact ⟨.ref a, rfl, .int n, rfl, a, _, n, _, rfl, rfl, hS, hc, rfl, c, rfl⟩
      · exact ⟨rfl, _, rfl⟩
    rintro σ' H' ⟨rfl, c, rfl⟩
    refine ⟨fun σ' H2 => H2 = H' ∧ ∃ c : Int, 0 ≤ c ∧ σ' = [some (.ref a), some (.int n), some (.int c), none], ?_, ?_⟩
    · refine ⟨.int c, rfl, c, 0, rfl, rfl, _, rfl, ite2 (fun e => ?_) (fun e => ?_)⟩
      · have e1 : c < 0 := of_decide_eq_true e
        exact ⟨.int c, rfl, 7, c, rfl, rfl, .inl ⟨by decide, by decide⟩, 5, 7 * c, rfl, rfl, rfl, 5 - 7 * c, by omega, rfl⟩
      · have e1 : ¬ c < 0 := fun z => e (decide_eq_true z)
        exact ⟨rfl, c, by omega, rfl⟩
    rintro σ' H2 ⟨rfl, d, hd, rfl⟩
    refine ⟨fun σ' H3 => H3 = H2 ∧ ∃ g : Int, 0 ≤ g ∧ σ' = [some (.ref a), some (.int n), some (.int d), some (.int g)], ?_, ?_⟩
    · refine ⟨.int d, rfl, 10, 18, rfl, rfl, ⟨by decide, by decide, by decide⟩, d, _, rfl, rfl, _, rfl, ite2 (fun _ => ?_) (fun _ => ?_)⟩
      · exact ⟨.int d, rfl, rfl, d, hd, rfl⟩
      · exact ⟨rfl, 0, by decide, rfl⟩
    rintro σ' H3 ⟨rfl, g, hg, rfl⟩
    refine ⟨.int g, rfl, .int d, rfl, d, 1000003, rfl, rfl, (by show (0 : Int) < 1000003; decide), .int n, rfl, 11, n, rfl, rfl, .inl ⟨by decide, by decide⟩, _, _, rfl, rfl, _, _, rfl, rfl, (by show 2 ≤ sizeLine; decide), fun p hp => ?_⟩
    refine q p _ (sameUpd hp) hp ⟨_, _, upd_same, hg, ?_⟩
    have := Int.emod_nonneg d (show (1000003 : Int) ≠ 0 by decide)
    omega
theorem scDraw : FnScope ["_law_feed", "_law_many", "_law_digit"] ["_law_feed", "_law_many"] (defScope lDraw) := ⟨rfl, rfl, rfl, by decide +kernel, rfl, by decide +kernel, by decide +kernel⟩
theorem okDraw {k : Nat} (F : FnP K "_law_draw" lDraw f fd) : FnOk P w K mg base CX0 (k + 1) f fd ["_law_feed", "_law_many"] spDraw := by
  refine F.ok scDraw (fun vs H Q E h => ?_) (fun cdv A outer s H vs Q E hr h => ?_)
  · obtain ⟨a, n, rfl, _⟩ := h
    rfl
  · obtain ⟨a, n, rfl, ⟨x, y, hf, hx, hy⟩, hn0, hn1, q⟩ := h
    have hS : ∀ {x y : Int} {H : Hp}, H a = some (.lst [.int x, .int y]) → SqL K H a [.int x, .int y] := fun h => .inl (.inl h)
    refine ⟨_, PSs.nox (pss_cons (ps_if (pt_cmpR op_gt (pe_ix ix_list (pv 0) pe_int (fun _ _ => rfl)) pe_int (nomark _))
        (pss_cons (ps_set (i := 2) scDraw.nd rfl (.inl rfl) (pe_op op_modN (pe_ix ix_list (pv 0) pe_int (fun _ _ => rfl)) (pv 1)))
        (pss_cons (ps_asg (pe_op op_fdivN (pe_ix ix_list (pv 0) pe_int (fun _ _ => rfl)) (pv 1)) (pg_sub (pv 0) pe_int set_list))
        (pss_one (ps_ret (pv 2))))) pss_nil)
      (pss_cons (ps_asg (pe_op op_mod (pe_op op_add (pe_op op_mul (pe_ix ix_list (pv 0) pe_int (fun _ _ => rfl)) pe_int) pe_int) pe_int) (pg_sub (pv 0) pe_int set_list))
      (pss_one (ps_ret (pe_op op_modN (pe_op op_fdiv (pe_ix ix_list (pv 0) pe_int (fun _ _ => rfl)) pe_int) (pv 1)))))), ?_⟩
    refine ⟨.ref a, rfl, a, _, 0, .int x, rfl, rfl, hS hf, atI_nat (j := 0) rfl, x, 0, rfl, rfl, _, rfl, ite2 (fun e => ?_) (fun e => ?_)⟩
    · refine ⟨.ref a, rfl, a, _, 0, .int x, rfl, rfl, hS hf, atI_nat (j := 0) rfl, .int n, rfl, x, n, rfl, rfl, (by show n ≠ 0; omega), ?_⟩
      refine ⟨.ref a, rfl, a, _, 0, .int x, rfl, rfl, hS hf, atI_nat (j := 0) rfl, .int n, rfl, x, n, rfl, rfl, ⟨(by omega), (by omega)⟩, ?_⟩
      refine ⟨.ref a, rfl, a, _, _, 0, rfl, rfl, hf, rfl, ?_⟩
      refine ⟨_, rfl, ?_⟩
      show Q (.int (x.fmod n)) (upd H a (.lst [.int (x.fdiv n), .int y]))
      rw [Int.fmod_eq_emod_of_nonneg x (by omega), Int.fdiv_eq_ediv_of_nonneg x (by omega)]
      exact q (x % n) _ (Int.emod_nonneg x (by omega)) (Int.emod_lt_of_pos x hn0) Kp.put (Fd.put (Int.ediv_nonneg hx (by omega)) hy)
    · refine ⟨.ref a, rfl, a, _, 1, .int y, rfl, rfl, hS hf, atI_nat (j := 1) rfl, y, 48271, rfl, rfl, .inr ⟨by decide, by decide⟩, _, 11, rfl, rfl, _, 2147483647, rfl, rfl, (by show (0 : Int) < 2147483647; decide), ?_⟩
      refine ⟨.ref a, rfl, a, _, _, 1, rfl, rfl, hf, rfl, ?_⟩
      have hm := Int.emod_nonneg (y * 48271 + 11) (show (2147483647 : Int) ≠ 0 by decide)
      refine ⟨.ref a, rfl, a, [.int x, .int ((y * 48271 + 11) % 2147483647)], 1, .int ((y * 48271 + 11) % 2147483647), rfl, rfl, hS upd_same, atI_nat (j := 1) rfl, (y * 48271 + 11) % 2147483647, 127, rfl, rfl, ⟨by decide, by decide⟩, ?_⟩
      refine ⟨.int n, rfl, _, n, rfl, rfl, (by show n ≠ 0; omega), ?_⟩
      show Q (.int (((y * 48271 + 11) % 2147483647 / 127).fmod n)) (upd H a (.lst [.int x, .int ((y * 48271 + 11) % 2147483647)]))
      rw [Int.fmod_eq_emod_of_nonneg _ (by omega)]
      exact q _ _ (Int.emod_nonneg _ (by omega)) (Int.emod_lt_of_pos _ hn0) Kp.put (Fd.put hx hm)
theorem scPick : FnScope ["_law_feed", "_law_items"] ["_law_feed", "_law_items"] (defScope lPick) := ⟨rfl, rfl, rfl, by decide +kernel, rfl, by decide +kernel, by decide +kernel⟩
theorem okPick {k : Nat} (F : FnP K "_law_pick" lPick f fd) (ml : mg "len" = none) (D : Has P w K mg base (k + 1) "_law_draw" ["_law_feed", "_law_many"] spDraw) : FnOk P w K mg base CX0 (k + 2) f fd ["_law_feed", "_law_items"] (spPick K) := by
  obtain ⟨fD, fdD, gD, kD, bD, GD⟩ := D.ex
  refine F.ok scPick (fun vs H Q E h => ?_) (fun cdv A outer s H vs Q E hr h => ?_)
  · obtain ⟨a, l, xs, rfl, _⟩ := h
    rfl
  · obtain ⟨a, l, xs, rfl, hF, hL, ne, h0, h1, q⟩ := h
    refine ⟨_, PSs.nox (pss_one (ps_ret (pe_ix ix_list (pv 1) (pe_call GD hr (by rfl) gD kD bD .nil pass0 (pa_cons (pv 0) (pa_cons (pe_callB call_len_seq (by rfl) ml PySem.boot_len (pa_cons (pv 1) pa_nil)) pa_nil))) (fun _ _ => rfl)))), ?_⟩
    refine ⟨.ref l, rfl, .ref a, rfl, .ref l, rfl, l, xs, rfl, .inl hL, ?_⟩
    refine ⟨a, (xs.length : Int), rfl, hF, by omega, by omega, fun r H' r0 r1 kp fd' => ?_⟩
    obtain ⟨j, rfl⟩ : ∃ j : Nat, r = (j : Int) := ⟨r.toNat, by omega⟩
    have hj : j < xs.length := by omega
    have hv : xs[j]? = some xs[j] := List.getElem?_eq_getElem hj
    have hL' : SqL K H' l xs := by
      rcases hL with (h | ⟨o, h⟩) | h
      · exact .inl (.inl (kp _ _ ne h))
      · exact .inl (.inr ⟨o, kp _ _ ne h⟩)
      · exact .inr h
    exact ⟨l, xs, _, _, rfl, rfl, hL', atI_nat hv, q j _ H' hv kp fd'⟩
theorem scCalls : FnScope [] [] (defScope lCalls) := ⟨rfl, rfl, rfl, by decide +kernel, rfl, by decide +kernel, by decide +kernel⟩
theorem okCalls {k : Nat} (F : FnP K "_law_calls" lCalls f fd) : FnOk P w K mg base CX0 (k + 1) f fd [] spCalls := by
  refine F.ok scCalls (fun vs H Q E h => ?_) (fun cdv A outer s H vs Q E hr h => ?_)
  · obtain ⟨rfl, _⟩ := h
    rfl
  · obtain ⟨rfl, q⟩ := h
    refine ⟨_, PSs.nox (pss_one (ps_ret (pe_lst (pa_cons pe_str (pa_cons pe_str (pa_cons pe_str (pa_cons pe_str (pa_cons pe_str pa_nil)))))))), ?_⟩
    exact ⟨(by show 5 ≤ sizeLine; decide), fun p hp => q p hp⟩
/-- z * n, z one sign -/
def rRepX : R2 := fun x y H Q => ∃ (z : Str) (n : Int), x = .str z ∧ y = .int n ∧ z.length = 1 ∧ 0 ≤ n ∧ n ≤ 1000 ∧ Q (.str (Txt.mul z n)) H
theorem opRepX {X : Cx} : OpR X (binaryOp .Mult) rRepX := by
  intro pins s σ H x y v u Q I rx ry h
  obtain ⟨z, n, rfl, rfl, hz, h0, h1, q⟩ := h
  obtain ⟨t, rfl⟩ := rx
  obtain ⟨t', rfl⟩ := ry
  refine SB.mul ⟨?_, fun g _ => ?_, fun _ _ => ?_⟩ fun t2 k => ⟨.str (Txt.mul z n), H, I.tok k, ⟨t2, rfl⟩, q⟩
  · simp
    omega
  · rw [hz]
    have hn : 0 < n := by omega
    have hle : (1 : Int) ≤ (2 ^ 63 - 1) / n := by
      rw [Int.le_ediv_iff_mul_le hn]
      omega
    show ¬ ((1 : Nat) : Int) > (2 ^ 63 - 1) / n
    omega
  · rw [hz]
    unfold Builtin.Str.tooLong
    rw [decide_eq_false_iff_not, sizeLine_eq]
    omega
theorem scTxt : FnScope ["_law_feed", "_law_form", "_law_many"] ["_law_feed"] (defScope lText) := ⟨rfl, rfl, rfl, by decide +kernel, rfl, by decide +kernel, by decide +kernel⟩
theorem okTxt {k : Nat} (F : FnP K "_law_some_text" lText f fd) (D : Has P w K mg base (k + 1) "_law_draw" ["_law_feed", "_law_many"] spDraw) (Pk : Has P w K mg base (k + 2) "_law_pick" ["_law_feed", "_law_items"] (spPick K))
    (Ca : Has P w K mg base (k + 1) "_law_calls" [] spCalls) : FnOk P w K mg base CX0 (k + 3) f fd ["_law_feed"] spText := by
  obtain ⟨fD, fdD, gD, kD, bD, GD⟩ := D.ex
  obtain ⟨fP, fdP, gP, kP, bP, GP⟩ := Pk.ex
  obtain ⟨fC, fdC, gC, kC, bC, GC⟩ := Ca.ex
  refine F.ok scTxt (fun vs H Q E h => ?_) (fun cdv A outer s H vs Q E hr h => ?_)
  · obtain ⟨a, rfl, _⟩ := h
    rfl
  · obtain ⟨a, rfl, hF, q⟩ := h
    have hr1 : Room (k + 1) _ := hr.mono (by omega)
    refine ⟨_, PSs.nox (pss_cons (ps_set (i := 1) scTxt.nd rfl (.inl rfl) (pe_call GD hr1 (by rfl) gD kD bD .nil pass0 (pa_cons (pv 0) (pa_cons (pe_int) pa_nil)))) (pss_cons (ps_if (pt_cmpR op_eq (pv 1) pe_int (nomark _)) (pss_one (ps_ret (pe_call GP hr (by rfl) gP kP bP .nil pass0 (pa_cons (pv 0) (pa_cons (pe_call0 GC hr1 (by rfl) gC kC bC .nil pass0) pa_nil))))) pss_nil) (pss_cons (ps_if (pt_cmpR op_eq (pv 1) pe_int (nomark _))
        (pss_cons (ps_set (i := 2) scTxt.nd rfl (.inl rfl) (pe_ix ix_list (pe_lst (pa_cons (pe_op op_add pe_int (pe_call GD hr1 (by rfl) gD kD bD .nil pass0 (pa_cons (pv 0) (pa_cons (pe_int) pa_nil)))) (pa_cons (pe_int) pa_nil)))
          (pe_op op_fdiv (pe_call GD hr1 (by rfl) gD kD bD .nil pass0 (pa_cons (pv 0) (pa_cons (pe_int) pa_nil))) pe_int) (fun _ _ => rfl))) (pss_one (ps_ret (pe_call GP hr (by rfl) gP kP bP .nil pass0 (pa_cons (pv 0) (pa_cons (pe_lst (pa_cons (pe_str) (pa_cons (pe_str) (pa_cons (pe_str) (pa_cons (pe_str) (pa_cons (pe_str) (pa_cons (pe_op opRepX pe_str (pv 2)) (pa_cons (pe_str) (pa_cons (pe_str) (pa_cons (pe_str) (pa_cons (pe_str) pa_nil))))))))))) pa_nil)))))) pss_nil) (pss_one (ps_ret (pe_ix ix_list (pe_lst (pa_cons (pe_str) (pa_cons (pe_str) (pa_cons (pe_str) (pa_cons (pe_str) (pa_cons (pe_str) (pa_cons (pe_str) pa_nil))))))) (pv 1) (fun _ _ => rfl))))))), ?_⟩
    have neF : ∀ {H : Hp} {p : Addr}, Fd H a → H p = none → p ≠ a := fun ⟨x, y, e, _⟩ hp z => by
      rw [z, e] at hp
      cases hp
    refine ⟨.ref a, rfl, a, 8, rfl, hF, by decide, by decide, fun r H1 r0 r1 k1 F1 => ?_⟩
    refine ⟨.int r, rfl, rfl, _, rfl, ite2 (fun e => ?_) (fun e7 => ?_)⟩
    · -- the names of calls
      refine ⟨.ref a, rfl, rfl, fun p hp => ?_⟩
      refine ⟨a, p, _, rfl, F1.new hp, .inl (.inl upd_same), neF F1 hp, by decide, by decide, fun i v H2 hv k2 F2 => ?_⟩
      have kk : Kp a H H2 := (k1.trans (Kp.new hp)).trans k2
      match i, hv with
      | 0, hv => cases hv; exact q _ H2 (by decide +kernel) kk F2
      | 1, hv => cases hv; exact q _ H2 (by decide +kernel) kk F2
      | 2, hv => cases hv; exact q _ H2 (by decide +kernel) kk F2
      | 3, hv => cases hv; exact q _ H2 (by decide +kernel) kk F2
      | 4, hv => cases hv; exact q _ H2 (by decide +kernel) kk F2
    refine ⟨.int r, rfl, rfl, _, rfl, ite2 (fun e => ?_) (fun e6 => ?_)⟩
    · -- one of ten
      refine ⟨.ref a, rfl, a, 90, rfl, F1, by decide, by decide, fun r2 H2 r20 r21 k2 F2 => ⟨1, r2, rfl, rfl, ?_⟩⟩
      refine ⟨(by show 2 ≤ sizeLine; decide), fun p hp => ?_⟩
      refine ⟨.ref a, rfl, a, 7, rfl, F2.new hp, by decide, by decide, fun r3 H3 r30 r31 k3 F3 => ⟨r3, 6, rfl, rfl, ⟨by decide, by decide⟩, ?_⟩⟩
      have hp3 : H3 p = some (.lst [.int (1 + r2), .int 400]) := k3 _ _ (neF F2 hp) upd_same
      obtain ⟨m, hm, m0, m1⟩ : ∃ m : Int, atI [V.int (1 + r2), .int 400] (r3 / 6) = some (.int m) ∧ 0 ≤ m ∧ m ≤ 400 := by
        by_cases hz : r3 < 6
        · have e0 : r3 / 6 = 0 := by omega
          rw [e0]
          exact ⟨1 + r2, rfl, by omega, by omega⟩
        · have e0 : r3 / 6 = 1 := by omega
          rw [e0]
          exact ⟨400, rfl, by decide, by decide⟩
      refine ⟨p, _, _, .int m, rfl, rfl, .inl (.inl hp3), hm, ?_⟩
      refine ⟨.ref a, rfl, .int m, rfl, _, m, rfl, rfl, rfl, m0, (by omega), (by show 10 ≤ sizeLine; decide), fun p2 hp2 => ?_⟩
      refine ⟨a, p2, _, rfl, F3.new hp2, .inl (.inl upd_same), neF F3 hp2, (by show 0 < 10; decide), (by show 10 < 1000; decide), fun i v H4 hv k4 F4 => ?_⟩
      have kk : Kp a H H4 := ((((k1.trans k2).trans (Kp.new hp)).trans k3).trans (Kp.new hp2)).trans k4
      match i, hv with
      | 0, hv => cases hv; exact q _ H4 (by decide +kernel) kk F4
      | 1, hv => cases hv; exact q _ H4 (by decide +kernel) kk F4
      | 2, hv => cases hv; exact q _ H4 (by decide +kernel) kk F4
      | 3, hv => cases hv; exact q _ H4 (by decide +kernel) kk F4
      | 4, hv => cases hv; exact q _ H4 (by decide +kernel) kk F4
      | 5, hv => cases hv; exact q _ H4 (tokMul (c := 120) (by unfold SOk; decide +kernel) (by decide +kernel) m1 (by decide +kernel)) kk F4
      | 6, hv => cases hv; exact q _ H4 (by decide +kernel) kk F4
      | 7, hv => cases hv; exact q _ H4 (by decide +kernel) kk F4
      | 8, hv => cases hv; exact q _ H4 (by decide +kernel) kk F4
      | 9, hv => cases hv; exact q _ H4 (by decide +kernel) kk F4
    · have n7 : r ≠ 7 := fun z => e7 (by rw [z]; rfl)
      have n6 : r ≠ 6 := fun z => e6 (by rw [z]; rfl)
      refine ⟨(by show 6 ≤ sizeLine; decide), fun p hp => ?_⟩
      obtain ⟨z, sz, hz⟩ : ∃ z : Str, TOk z ∧ atI [V.str "0", .str "1", .str "0", .str "1", .str "", .str "10"] r = some (.str z) := by
        have hc : r = 0 ∨ r = 1 ∨ r = 2 ∨ r = 3 ∨ r = 4 ∨ r = 5 := by omega
        rcases hc with h | h | h | h | h | h <;> (rw [h]; first | exact ⟨"0", by decide +kernel, rfl⟩ | exact ⟨"1", by decide +kernel, rfl⟩ | exact ⟨"", by decide +kernel, rfl⟩ | exact ⟨"10", by decide +kernel, rfl⟩)
      exact ⟨.int r, rfl, p, _, _, .str z, rfl, rfl, .inl (.inl upd_same), hz, q z _ sz (k1.trans (Kp.new hp)) (F1.new hp)⟩
end
/-! ### values that are alike -/
inductive Fl : V → String → Prop
  | non : Fl .non "NoneType"
  | bl (b : Bool) : Fl (.bl b) "bool"
  | int (i : Int) : Fl (.int i) "int"
  | str (z : Str) : Fl (.str z) "str"
section
variable {K : PySem.W.Frag} {H : Hp}
theorem Fl.tyX {v : V} {t : String} (h : Fl v t) : TyX K H v (.type t) := by
  cases h
  · exact .base .non
  · exact .base (.bl _)
  · exact .base (.int _)
  · exact .base (.str _)
theorem Fl.noSeq {v : V} {t : String} (h : Fl v t) : PySem.W.kitAny K (.type t) [.type "list", .type "tuple"] = some false := by
  cases h <;> exact kitAny_cons (b := false) (kit_ty (by decide +kernel)) (fun _ => kitAny_cons (b := false) (kit_ty (by decide +kernel)) (fun _ => kitAny_nil) (fun z => z)) (fun z => z)
theorem Fl.kit {v : V} {t : String} (h : Fl v t) (c : String) (hc : c = "bool" ∨ c = "int" ∨ c = "str") : ∃ b, PySem.W.kitOne K (.type t) (.type c) = some b := by
  rcases hc with rfl | rfl | rfl <;> cases h <;> first | exact ⟨true, kit_ty (by decide +kernel)⟩ | exact ⟨false, kit_ty (by decide +kernel)⟩
theorem Fl.scal {v : V} {t : String} (h : Fl v t) : L2.scal v v = true := by
  cases h <;> rfl
theorem kitSeqL : PySem.W.kitAny K (.type "list") [.type "list", .type "tuple"] = some true := kitAny_cons (b := true) (kit_ty (by decide +kernel)) (fun z => by cases z) (fun _ => rfl)
theorem kitSeqT : PySem.W.kitAny K (.type "tuple") [.type "list", .type "tuple"] = some true := kitAny_cons (b := false) (kit_ty (by decide +kernel)) (fun _ => kitAny_cons (b := true) (kit_ty (by decide +kernel)) (fun z => by cases z) (fun _ => rfl)) (fun _ => rfl)
theorem SqL.tyX {a : Addr} {xs : List V} (h : SqL K H a xs) : TyX K H (.ref a) (.type "list") := by
  rcases h with (h | ⟨o, h⟩) | ⟨o, its, n, h, c, _⟩
  · exact .base (.lst h)
  · exact .base (.frz h)
  · exact .kList h c
theorem SqT.tyX {a : Addr} {xs : List V} (h : SqT K H a xs) : TyX K H (.ref a) (.type "tuple") := by
  rcases h with (h | ⟨o, h⟩) | ⟨o, its, n, h, c, _⟩
  · exact .base (.tup h)
  · exact .fTuple h
  · exact .kTuple h c
end
/-- alike down to the depth n -/
inductive Sv (K : PySem.W.Frag) (H : Hp) : Nat → V → V → Prop
  | flat {n : Nat} {v : V} {t : String} (h : Fl v t) : Sv K H n v v
  | lst {n : Nat} {a b : Addr} {xs ys : List V} (ha : SqL K H a xs) (hb : SqL K H b ys) (hl : xs.length = ys.length) (hz : xs.length ≤ 1000) (h : ∀ (i : Nat) v w, xs[i]? = some v → ys[i]? = some w → Sv K H n v w) : Sv K H (n + 1) (.ref a) (.ref b)
  | tup {n : Nat} {a b : Addr} {xs ys : List V} (ha : SqT K H a xs) (hb : SqT K H b ys) (hl : xs.length = ys.length) (hz : xs.length ≤ 1000) (h : ∀ (i : Nat) v w, xs[i]? = some v → ys[i]? = some w → Sv K H n v w) : Sv K H (n + 1) (.ref a) (.ref b)
theorem Sv.same {K : PySem.W.Frag} {H H' : Hp} (e : Same H H') {n : Nat} {v w : V} (h : Sv K H n v w) : Sv K H' n v w := by
  induction h with
  | flat h => exact .flat h
  | lst ha hb hl hz _ ih => exact .lst (e.seq ha) (e.seq hb) hl hz ih
  | tup ha hb hl hz _ ih => exact .tup (sameTup e ha) (sameTup e hb) hl hz ih
def spSame (K : PySem.W.Frag) (n : Nat) : Sp := fun vs H Q _ => ∃ v w : V, vs = [v, w] ∧ Sv K H n v w ∧ ∀ H', Same H H' → Q (.bl true) H'
section
variable {P : Program} {w : World} {K : PySem.W.Frag} {mg : Str → Option Value} {base : Heap} {f : Addr} {fd : FuncData}
theorem scSame : FnScope ["_law_found", "_law_due", "_law_a", "_law_b"] ["_law_found", "_law_due"] (defScope lSame) := ⟨rfl, rfl, rfl, by decide +kernel, rfl, by decide +kernel, by decide +kernel⟩
theorem okSame (F : FnP K "_law_same" lSame f fd) (gS : mg "_law_same" = some (.ref f)) (B : Bn mg) : ∀ (n k : Nat), FnOk P w K mg base CX0 (k + n + 1) f fd ["_law_found", "_law_due"] (spSame K n) := by
  have bS : Binds K fd ["_law_found", "_law_due"] [] := F.bindsN fun _ _ _ _ _ _ us hl => match us, hl with | [_, _], _ => rfl
  intro n
  induction n with
  | zero =>
    intro k
    refine F.ok scSame (fun vs H Q E h => ?_) (fun cdv A outer s H vs Q E hr h => ?_)
    · obtain ⟨v, w, rfl, _⟩ := h
      rfl
    · obtain ⟨v, w', rfl, hv, q⟩ := h
      obtain ⟨t, hf, rfl⟩ : ∃ t, Fl v t ∧ v = w' := by
        cases hv with
        | flat h => exact ⟨_, h, rfl⟩
      refine ⟨_, PSs.nox (pss_cons (ps_if (pt_val (pe_callB call_isiT (by rfl) B.isi (by decide +kernel) (pa_cons (pv 1) (pa_cons (pe_tup (pa_cons (pe_bltn (v := .ty "list") (by rfl) B.list (by decide +kernel) rfl) (pa_cons (pe_bltn (v := .ty "tuple") (by rfl) B.tuple (by decide +kernel) rfl) pa_nil))) pa_nil))))
        (pss_cons (ps_never) (pss_one (ps_never))) pss_nil) (pss_cons (ps_if (PW.pt (pw_or (pt_cmpR op_ne (pe_callB call_isi (by rfl) B.isi (by decide +kernel) (pa_cons (pv 0) (pa_cons (pe_bltn (v := .ty "bool") (by rfl) B.bool (by decide +kernel) rfl) pa_nil))) (pe_callB call_isi (by rfl) B.isi (by decide +kernel) (pa_cons (pv 1) (pa_cons (pe_bltn (v := .ty "bool") (by rfl) B.bool (by decide +kernel) rfl) pa_nil))) (nomark _))
            (pw_or1 (pt_cmpR op_ne (pe_callB call_isi (by rfl) B.isi (by decide +kernel) (pa_cons (pv 0) (pa_cons (pe_bltn (v := .ty "int") (by rfl) B.int (by decide +kernel) rfl) pa_nil))) (pe_callB call_isi (by rfl) B.isi (by decide +kernel) (pa_cons (pv 1) (pa_cons (pe_bltn (v := .ty "int") (by rfl) B.int (by decide +kernel) rfl) pa_nil))) (nomark _)))))
          (pss_one (ps_ret pe_bl)) pss_nil) (pss_one (ps_ret (pe_and (pe_cmpR op_eq (pe_callB call_isi (by rfl) B.isi (by decide +kernel) (pa_cons (pv 0) (pa_cons (pe_bltn (v := .ty "str") (by rfl) B.str (by decide +kernel) rfl) pa_nil))) (pe_callB call_isi (by rfl) B.isi (by decide +kernel) (pa_cons (pv 1) (pa_cons (pe_bltn (v := .ty "str") (by rfl) B.str (by decide +kernel) rfl) pa_nil))) (nomark _))
          (pe_one (pe_cmpR op_eq (pv 0) (pv 1) (nomark _)))))))), ?_⟩
      obtain ⟨b1, e1⟩ := hf.kit (K := K) "bool" (.inl rfl)
      obtain ⟨b2, e2⟩ := hf.kit (K := K) "int" (.inr (.inl rfl))
      obtain ⟨b3, e3⟩ := hf.kit (K := K) "str" (.inr (.inr rfl))
      refine ⟨v, rfl, (by show 2 ≤ sizeLine; decide), fun p hp => ⟨v, p, [.ty "list", .ty "tuple"], .type t, [.type "list", .type "tuple"], false, rfl, upd_same, .cons (.ty _) (.cons (.ty _) .nil), hf.tyX, hf.noSeq, false, rfl, iteF ?_⟩⟩
      refine ⟨v, rfl, v, .ty "bool", .type t, .type "bool", b1, rfl, .ty _, hf.tyX, e1, v, rfl, v, .ty "bool", .type t, .type "bool", b1, rfl, .ty _, hf.tyX, e1, rfl, _, rfl, iteNS rfl ?_⟩
      refine ⟨v, rfl, v, .ty "int", .type t, .type "int", b2, rfl, .ty _, hf.tyX, e2, v, rfl, v, .ty "int", .type t, .type "int", b2, rfl, .ty _, hf.tyX, e2, rfl, _, rfl, iteNS rfl ?_⟩
      refine ⟨v, rfl, v, .ty "str", .type t, .type "str", b3, rfl, .ty _, hf.tyX, e3, v, rfl, v, .ty "str", .type t, .type "str", b3, rfl, .ty _, hf.tyX, e3, rfl, _, rfl, ?_⟩
      rw [if_pos (decide_eq_true rfl)]
      refine ⟨v, rfl, v, rfl, hf.scal, ?_⟩
      rw [decide_eq_true (rfl : v = v)]
      exact q _ (sameUpd hp)
  | succ n ih =>
    intro k
    have G := ih k
    refine F.ok scSame (fun vs H Q E h => ?_) (fun cdv A outer s H vs Q E hr h => ?_)
    · obtain ⟨v, w, rfl, _⟩ := h
      rfl
    · have hr1 : Room (k + n + 1) _ := hr.mono (by omega)
      refine ⟨_, PSs.nox (pss_cons (ps_if (pt_val (pe_callB call_isiT (by rfl) B.isi (by decide +kernel) (pa_cons (pv 1) (pa_cons (pe_tup (pa_cons (pe_bltn (v := .ty "list") (by rfl) B.list (by decide +kernel) rfl) (pa_cons (pe_bltn (v := .ty "tuple") (by rfl) B.tuple (by decide +kernel) rfl) pa_nil))) pa_nil))))
        (pss_cons (ps_if (PW.pt (pw_or (pt_cmpR op_ne (pe_callB call_isi (by rfl) B.isi (by decide +kernel) (pa_cons (pv 0) (pa_cons (pe_bltn (v := .ty "list") (by rfl) B.list (by decide +kernel) rfl) pa_nil))) (pe_callB call_isi (by rfl) B.isi (by decide +kernel) (pa_cons (pv 1) (pa_cons (pe_bltn (v := .ty "list") (by rfl) B.list (by decide +kernel) rfl) pa_nil))) (nomark _))
            (pw_or1 (pt_not (pt_val (pe_callB call_isiT (by rfl) B.isi (by decide +kernel) (pa_cons (pv 0) (pa_cons (pe_tup (pa_cons (pe_bltn (v := .ty "list") (by rfl) B.list (by decide +kernel) rfl) (pa_cons (pe_bltn (v := .ty "tuple") (by rfl) B.tuple (by decide +kernel) rfl) pa_nil))) pa_nil))))))))
            (pss_one (ps_ret pe_bl)) pss_nil) (pss_one (ps_ret (pe_and (pe_cmpR op_eq (pe_callB call_len_seq (by rfl) B.len PySem.boot_len (pa_cons (pv 0) pa_nil)) (pe_callB call_len_seq (by rfl) B.len PySem.boot_len (pa_cons (pv 1) pa_nil)) (nomark _))
            (pe_one (pe_callB (cr_all rfl) (by rfl) B.all (by decide +kernel) (pa_cons (pe_lc (own := [("_law_a", 2), ("_law_b", 3)]) (g := gTup K 2 (gCons (gName 2) (gCons (gName 3) gNil))) rfl scSame.nd (RZ.pi_zipA (by rfl) B.zip (pa_cons (pv 0) (pa_cons (pv 1) pa_nil))) (blkOk_by (N := ["_law_found", "_law_due", "_law_a", "_law_b"]) (sc := defScope lSame) (by decide +kernel))
              (fun _ _ _ _ _ => pg_tup rfl (pgs_cons (pg_name (i := 2) scSame.nd rfl (.inl rfl) (hf := .inr rfl)) (pgs_cons (pg_name (i := 3) scSame.nd rfl (.inl rfl) (hf := .inr rfl)) pgs_nil))) (fun _ _ _ _ _ => pts_nil)
              (fun _ _ _ _ _ => pe_call G hr1 (by rfl) gS F.kp bS .nil pass0 (pa_cons (pv 2) (pa_cons (pv 3) pa_nil)))) pa_nil))))))) pss_nil) (pss_cons (ps_if (PW.pt (pw_or (pt_cmpR op_ne (pe_callB call_isi (by rfl) B.isi (by decide +kernel) (pa_cons (pv 0) (pa_cons (pe_bltn (v := .ty "bool") (by rfl) B.bool (by decide +kernel) rfl) pa_nil))) (pe_callB call_isi (by rfl) B.isi (by decide +kernel) (pa_cons (pv 1) (pa_cons (pe_bltn (v := .ty "bool") (by rfl) B.bool (by decide +kernel) rfl) pa_nil))) (nomark _))
            (pw_or1 (pt_cmpR op_ne (pe_callB call_isi (by rfl) B.isi (by decide +kernel) (pa_cons (pv 0) (pa_cons (pe_bltn (v := .ty "int") (by rfl) B.int (by decide +kernel) rfl) pa_nil))) (pe_callB call_isi (by rfl) B.isi (by decide +kernel) (pa_cons (pv 1) (pa_cons (pe_bltn (v := .ty "int") (by rfl) B.int (by decide +kernel) rfl) pa_nil))) (nomark _)))))
          (pss_one (ps_ret pe_bl)) pss_nil) (pss_one (ps_ret (pe_and (pe_cmpR op_eq (pe_callB call_isi (by rfl) B.isi (by decide +kernel) (pa_cons (pv 0) (pa_cons (pe_bltn (v := .ty "str") (by rfl) B.str (by decide +kernel) rfl) pa_nil))) (pe_callB call_isi (by rfl) B.isi (by decide +kernel) (pa_cons (pv 1) (pa_cons (pe_bltn (v := .ty "str") (by rfl) B.str (by decide +kernel) rfl) pa_nil))) (nomark _))
          (pe_one (pe_cmpR op_eq (pv 0) (pv 1) (nomark _)))))))), ?_⟩
      obtain ⟨v, w, rfl, hv, q⟩ := h
      cases hv with
      | @flat _ _ t hf =>
        obtain ⟨b1, e1⟩ := hf.kit (K := K) "bool" (.inl rfl)
        obtain ⟨b2, e2⟩ := hf.kit (K := K) "int" (.inr (.inl rfl))
        obtain ⟨b3, e3⟩ := hf.kit (K := K) "str" (.inr (.inr rfl))
        refine ⟨v, rfl, (by show 2 ≤ sizeLine; decide), fun p hp => ⟨v, p, [.ty "list", .ty "tuple"], .type t, [.type "list", .type "tuple"], false, rfl, upd_same, .cons (.ty _) (.cons (.ty _) .nil), hf.tyX, hf.noSeq, false, rfl, iteF ?_⟩⟩
        refine ⟨v, rfl, v, .ty "bool", .type t, .type "bool", b1, rfl, .ty _, hf.tyX, e1, v, rfl, v, .ty "bool", .type t, .type "bool", b1, rfl, .ty _, hf.tyX, e1, rfl, _, rfl, iteNS rfl ?_⟩
        refine ⟨v, rfl, v, .ty "int", .type t, .type "int", b2, rfl, .ty _, hf.tyX, e2, v, rfl, v, .ty "int", .type t, .type "int", b2, rfl, .ty _, hf.tyX, e2, rfl, _, rfl, iteNS rfl ?_⟩
        refine ⟨v, rfl, v, .ty "str", .type t, .type "str", b3, rfl, .ty _, hf.tyX, e3, v, rfl, v, .ty "str", .type t, .type "str", b3, rfl, .ty _, hf.tyX, e3, rfl, _, rfl, ?_⟩
        rw [if_pos (decide_eq_true rfl)]
        refine ⟨v, rfl, v, rfl, hf.scal, ?_⟩
        rw [decide_eq_true (rfl : v = v)]
        exact q _ (sameUpd hp)
      | @lst _ a b xs ys ha hb hl hz hh =>
        refine ⟨.ref b, rfl, (by show 2 ≤ sizeLine; decide), fun p hp => ?_⟩
        have s1 : Same H (upd H p (.tup [.ty "list", .ty "tuple"])) := sameUpd hp
        have ha1 := (s1).seq ha
        have hb1 := (s1).seq hb
        refine ⟨.ref b, p, [.ty "list", .ty "tuple"], .type "list", [.type "list", .type "tuple"], true, rfl, upd_same, .cons (.ty _) (.cons (.ty _) .nil), SqL.tyX hb1, kitSeqL, true, rfl, iteT ?_⟩
        refine ⟨.ref a, rfl, .ref a, .ty "list", .type "list", .type "list", true, rfl, .ty _, SqL.tyX ha1, kit_ty (by decide +kernel), .ref b, rfl, .ref b, .ty "list", .type "list", .type "list", true, rfl, .ty _, SqL.tyX hb1, kit_ty (by decide +kernel), rfl, _, rfl, iteNS rfl ?_⟩
        refine ⟨.ref a, rfl, (by show 2 ≤ sizeLine; decide), fun p2 hp2 => ?_⟩
        have s2 : Same _ (upd (upd H p (.tup [.ty "list", .ty "tuple"])) p2 (.tup [.ty "list", .ty "tuple"])) := s1.trans (sameUpd hp2)
        have ha2 := (s2).seq ha
        have hb2 := (s2).seq hb
        refine ⟨.ref a, p2, [.ty "list", .ty "tuple"], .type "list", [.type "list", .type "tuple"], true, rfl, upd_same, .cons (.ty _) (.cons (.ty _) .nil), SqL.tyX ha2, kitSeqL, true, rfl, iteF ?_⟩
        refine ⟨.ref a, rfl, a, xs, rfl, .inl ha2, .ref b, rfl, b, ys, rfl, .inl hb2, rfl, _, rfl, ?_⟩
        rw [if_pos (decide_eq_true (by rw [hl]))]
        refine ⟨.ref a, rfl, .ref b, rfl, a, b, xs, ys, rfl, .inl ⟨ha2, hb2, fun D hD => ?_⟩⟩
        generalize upd (upd H p (.tup [.ty "list", .ty "tuple"])) p2 (.tup [.ty "list", .ty "tuple"]) = H2 at *
        refine lcJ (n := xs.length) (fun i H3 => Same H2 H3 ∧ H3 D = some (.lst ((List.replicate i true).map V.bl)) ∧ i ≤ xs.length) ⟨sameUpd hD, upd_same, Nat.zero_le _⟩ (fun i H3 lt h3 => ?_) (fun H3 h3 => ?_) (fun i H3 x H4 lt h3 y => ?_) (fun H3 h3 => ?_)
        · exact ⟨xs, ys, xs[i], ys[i], (h3.1).seq ha2, (h3.1).seq hb2, List.getElem?_eq_getElem lt, List.getElem?_eq_getElem (by omega)⟩
        · exact ⟨xs, ys, (h3.1).seq ha2, (h3.1).seq hb2, .inl (Nat.le_refl _)⟩
        · obtain ⟨s3, eD, _⟩ := h3
          obtain ⟨T, x1, y1, rfl, nT, rfl, fx, fy⟩ := y
          have e1 := fx _ ((s3).seq ha2)
          have e2 := fy _ ((s3).seq hb2)
          refine ⟨T, [x1, y1], rfl, .inl (.inl upd_same), rfl, x1, [y1], rfl, y1, [], rfl, rfl, rfl, ?_⟩
          refine ⟨x1, rfl, y1, rfl, x1, y1, rfl, (hh i _ _ e1 e2).same (s2.trans (s3.trans (sameUpd nT))), fun H5 s5 => ?_⟩
          have s4 : Same H2 H5 := s3.trans ((sameUpd nT).trans s5)
          have eD5 : H5 D = some (.lst ((List.replicate i true).map V.bl)) := s5 _ _ (sameUpd nT _ _ eD)
          refine ⟨_, eD5, ?_, fun b o hb => ?_, ?_, lt⟩
          · rw [List.length_map, List.length_replicate]
            exact small1000 (by omega)
          · rw [upd_ne (ne_of_none hb hD)]
            exact s4 _ _ hb
          · rw [upd_same, List.replicate_succ', List.map_append]
            rfl
        · obtain ⟨s3, eD, _⟩ := h3
          refine ⟨D, List.replicate xs.length true, rfl, .inl (.inl eD), ?_⟩
          rw [show (List.replicate xs.length true).all id = true by simp]
          exact q _ (s2.trans s3)
      | @tup _ a b xs ys ha hb hl hz hh =>
        refine ⟨.ref b, rfl, (by show 2 ≤ sizeLine; decide), fun p hp => ?_⟩
        have s1 : Same H (upd H p (.tup [.ty "list", .ty "tuple"])) := sameUpd hp
        have ha1 := sameTup (s1) ha
        have hb1 := sameTup (s1) hb
        refine ⟨.ref b, p, [.ty "list", .ty "tuple"], .type "tuple", [.type "list", .type "tuple"], true, rfl, upd_same, .cons (.ty _) (.cons (.ty _) .nil), SqT.tyX hb1, kitSeqT, true, rfl, iteT ?_⟩
        refine ⟨.ref a, rfl, .ref a, .ty "list", .type "tuple", .type "list", false, rfl, .ty _, SqT.tyX ha1, kit_ty (by decide +kernel), .ref b, rfl, .ref b, .ty "list", .type "tuple", .type "list", false, rfl, .ty _, SqT.tyX hb1, kit_ty (by decide +kernel), rfl, _, rfl, iteNS rfl ?_⟩
        refine ⟨.ref a, rfl, (by show 2 ≤ sizeLine; decide), fun p2 hp2 => ?_⟩
        have s2 : Same _ (upd (upd H p (.tup [.ty "list", .ty "tuple"])) p2 (.tup [.ty "list", .ty "tuple"])) := s1.trans (sameUpd hp2)
        have ha2 := sameTup (s2) ha
        have hb2 := sameTup (s2) hb
        refine ⟨.ref a, p2, [.ty "list", .ty "tuple"], .type "tuple", [.type "list", .type "tuple"], true, rfl, upd_same, .cons (.ty _) (.cons (.ty _) .nil), SqT.tyX ha2, kitSeqT, true, rfl, iteF ?_⟩
        refine ⟨.ref a, rfl, a, xs, rfl, .inr ha2, .ref b, rfl, b, ys, rfl, .inr hb2, rfl, _, rfl, ?_⟩
        rw [if_pos (decide_eq_true (by rw [hl]))]
        refine ⟨.ref a, rfl, .ref b, rfl, a, b, xs, ys, rfl, .inr ⟨ha2, hb2, fun D hD => ?_⟩⟩
        generalize upd (upd H p (.tup [.ty "list", .ty "tuple"])) p2 (.tup [.ty "list", .ty "tuple"]) = H2 at *
        refine lcJ (n := xs.length) (fun i H3 => Same H2 H3 ∧ H3 D = some (.lst ((List.replicate i true).map V.bl)) ∧ i ≤ xs.length) ⟨sameUpd hD, upd_same, Nat.zero_le _⟩ (fun i H3 lt h3 => ?_) (fun H3 h3 => ?_) (fun i H3 x H4 lt h3 y => ?_) (fun H3 h3 => ?_)
        · exact ⟨xs, ys, xs[i], ys[i], sameTup (h3.1) ha2, sameTup (h3.1) hb2, List.getElem?_eq_getElem lt, List.getElem?_eq_getElem (by omega)⟩
        · exact ⟨xs, ys, sameTup (h3.1) ha2, sameTup (h3.1) hb2, .inl (Nat.le_refl _)⟩
        · obtain ⟨s3, eD, _⟩ := h3
          obtain ⟨T, x1, y1, rfl, nT, rfl, fx, fy⟩ := y
          have e1 := fx _ (sameTup (s3) ha2)
          have e2 := fy _ (sameTup (s3) hb2)
          refine ⟨T, [x1, y1], rfl, .inl (.inl upd_same), rfl, x1, [y1], rfl, y1, [], rfl, rfl, rfl, ?_⟩
          refine ⟨x1, rfl, y1, rfl, x1, y1, rfl, (hh i _ _ e1 e2).same (s2.trans (s3.trans (sameUpd nT))), fun H5 s5 => ?_⟩
          have s4 : Same H2 H5 := s3.trans ((sameUpd nT).trans s5)
          have eD5 : H5 D = some (.lst ((List.replicate i true).map V.bl)) := s5 _ _ (sameUpd nT _ _ eD)
          refine ⟨_, eD5, ?_, fun b o hb => ?_, ?_, lt⟩
          · rw [List.length_map, List.length_replicate]
            exact small1000 (by omega)
          · rw [upd_ne (ne_of_none hb hD)]
            exact s4 _ _ hb
          · rw [upd_same, List.replicate_succ', List.map_append]
            rfl
        · obtain ⟨s3, eD, _⟩ := h3
          refine ⟨D, List.replicate xs.length true, rfl, .inl (.inl eD), ?_⟩
          rw [show (List.replicate xs.length true).all id = true by simp]
          exact q _ (s2.trans s3)
end
end KS.La

set_option Elab.async false
set_option linter.all false
set_option maxRecDepth 100000
set_option maxHeartbeats 4000000
namespace KS.La
open PySem PySem.Spec PyProof.Rows L2
/-- all but lists stand -/
def KT (H H' : Hp) : Prop := ∀ a o, H a = some o → (∀ xs, o ≠ .lst xs) → H' a = some o
theorem KT.refl (H : Hp) : KT H H := fun _ _ e _ => e
theorem KT.trans {H H1 H2 : Hp} (a : KT H H1) (b : KT H1 H2) : KT H H2 := fun c o e n => b c o (a c o e n) n
theorem KT.same {H H' : Hp} (s : Same H H') : KT H H' := fun a o e _ => s a o e
theorem KT.kp {f : Addr} {H H' : Hp} (hf : Fd H f) (k : Kp f H H') : KT H H' := fun a o e n => by
  refine k a o (fun z => ?_) e
  obtain ⟨x, y, h, _⟩ := hf
  rw [z, h] at e
  exact n _ (Option.some.inj e).symm
theorem KT.put {H : Hp} {D : Addr} {xs ys : List V} (h : H D = some (.lst xs)) : KT H (upd H D (.lst ys)) := fun a o e n => by
  rw [upd_ne fun z => ?_]
  · exact e
  · rw [z, h] at e
    exact n _ (Option.some.inj e).symm
theorem KT.tup {K : PySem.W.Frag} {H H' : Hp} (k : KT H H') {a : Addr} {xs : List V} (h : SqT K H a xs) : SqT K H' a xs := by
  rcases h with (h | ⟨o, h⟩) | h
  · exact .inl (.inl (k _ _ h fun xs z => nomatch z))
  · exact .inl (.inr ⟨o, k _ _ h fun xs z => nomatch z⟩)
  · exact .inr h
/-- data to the depth n, tuples of at most w items -/
inductive Ow (w : Nat) : Nat → PyData → Prop
  | non (n : Nat) : Ow w n .none
  | bl (n : Nat) (b : Bool) : Ow w n (.bool b)
  | int (n : Nat) (i : Int) : Ow w n (.int i)
  | str (n : Nat) {z : Str} (h : TOk z) : Ow w n (.str z)
  | tup {n : Nat} {ds : List PyData} (h : ds.length ≤ w) (h2 : ∀ d ∈ ds, Ow w n d) : Ow w (n + 1) (.tuple ds)
theorem Ow.od {w n : Nat} {d : PyData} (hw : w ≤ 100) (h : Ow w n d) : Od n d := by
  induction h with
  | non n => exact .non _
  | bl n b => exact .bl _ b
  | int n i => exact .int _ i
  | str n h => exact .str _ h.1 (by have := h.2.1; omega)
  | tup h h2 ih => exact .tup (by omega) ih
theorem Ow.up {w n : Nat} {d : PyData} (h : Ow w n d) : ∀ {w' m : Nat}, w ≤ w' → n ≤ m → Ow w' m d := by
  induction h with
  | non n => exact fun _ _ => .non _
  | bl n b => exact fun _ _ => .bl _ b
  | int n i => exact fun _ _ => .int _ i
  | str n h => exact fun _ _ => .str _ h
  | @tup n ds h h2 ih =>
    intro w' m hw hm
    obtain ⟨k, rfl⟩ : ∃ k, m = k + 1 := ⟨m - 1, by omega⟩
    exact .tup (by omega) fun d hd => ih d hd hw (by omega)
theorem allKT {K : PySem.W.Frag} {H H' : Hp} : ∀ {ds : List PyData} {xs : List V}, (∀ d ∈ ds, ∀ v, Dp K H v d → Dp K H' v d) → DpAll K H xs ds → DpAll K H' xs ds
  | _, _, _, .nil => .nil
  | _, _, k, .cons h r => .cons (k _ List.mem_cons_self _ h) (allKT (fun d hd => k d (List.mem_cons_of_mem _ hd)) r)
theorem dpKT {K : PySem.W.Frag} {H H' : Hp} (k : KT H H') {w n : Nat} {d : PyData} (o : Ow w n d) : ∀ v, Dp K H v d → Dp K H' v d := by
  induction o with
  | non n => exact fun v h => by cases h; exact .non
  | bl n b => exact fun v h => by cases h; exact .bl _
  | int n i => exact fun v h => by cases h; exact .int _
  | str n h => exact fun v h => by cases h; exact .str _
  | tup h h2 ih =>
    intro v hv
    cases hv with
    | tup hx hd => exact .tup (k.tup hx) (allKT ih hd)
/-- v is such data -/
def Vw (K : PySem.W.Frag) (w n : Nat) (H : Hp) (v : V) : Prop := ∃ d, Dp K H v d ∧ Ow w n d
theorem Vw.kt {K : PySem.W.Frag} {w n : Nat} {H H' : Hp} {v : V} (k : KT H H') (h : Vw K w n H v) : Vw K w n H' v := let ⟨d, a, b⟩ := h; ⟨d, dpKT k b _ a, b⟩
theorem Vw.up {K : PySem.W.Frag} {w n w' n' : Nat} {H : Hp} {v : V} (h : Vw K w n H v) (a : w ≤ w') (b : n ≤ n') : Vw K w' n' H v := let ⟨d, x, y⟩ := h; ⟨d, x, y.up a b⟩
theorem vwAll {K : PySem.W.Frag} {w n : Nat} {H : Hp} : ∀ {xs : List V}, (∀ v ∈ xs, Vw K w n H v) → ∃ ds, DpAll K H xs ds ∧ ∀ d ∈ ds, Ow w n d
  | [], _ => ⟨[], .nil, fun d hd => absurd hd (by simp)⟩
  | x :: xs, h => by
    obtain ⟨d, a, b⟩ := h x List.mem_cons_self
    obtain ⟨ds, c, e⟩ := vwAll fun v hv => h v (List.mem_cons_of_mem _ hv)
    refine ⟨d :: ds, .cons a c, fun y hy => ?_⟩
    rcases List.mem_cons.mp hy with z | z
    · rw [z]; exact b
    · exact e y z
theorem Vw.tup {K : PySem.W.Frag} {w n : Nat} {H : Hp} {a : Addr} {xs : List V} (ha : SqT K H a xs) (hl : xs.length ≤ w) (h : ∀ v ∈ xs, Vw K w n H v) : Vw K w (n + 1) H (.ref a) := by
  obtain ⟨ds, c, e⟩ := vwAll h
  exact ⟨.tuple ds, .tup ha c, .tup (by have := dpLen c; omega) e⟩
theorem Vw.str {K : PySem.W.Frag} {w n : Nat} {H : Hp} {z : Str} (h : TOk z) : Vw K w n H (.str z) := ⟨.str z, .str z, .str _ h⟩
theorem Vw.int {K : PySem.W.Frag} {w n : Nat} {H : Hp} {i : Int} : Vw K w n H (.int i) := ⟨.int i, .int i, .int _ i⟩
theorem Vw.non {K : PySem.W.Frag} {w n : Nat} {H : Hp} : Vw K w n H .non := ⟨.none, .non, .non _⟩
theorem Vw.bl {K : PySem.W.Frag} {w n : Nat} {H : Hp} {b : Bool} : Vw K w n H (.bl b) := ⟨.bool b, .bl b, .bl _ b⟩
theorem forJ {J : It} {n : Nat} {g : TG} {tb : TS} {D : Ends} {σ : L2.St} {H : Hp} (Pv : Nat → L2.St → Hp → Prop) (h0 : Pv 0 σ H) (hgo : ∀ i σ H, i < n → Pv i σ H → J.go i H) (hst : ∀ σ H, Pv n σ H → J.stop n H)
    (hs : ∀ i σ H x H', i < n → Pv i σ H → J.yld i H x H' → g x σ H' fun σ2 H2 => tb { D with nx := Pv (i + 1), ct := Pv (i + 1), bk := D.nx } σ2 H2) (hd : ∀ σ H, Pv n σ H → D.nx σ H) :
    ∃ W : Nat → Nat → L2.St → Hp → Prop, (∃ m, W 0 m σ H) ∧ ∀ i m σ H, W i m σ H →
      (J.stop i H ∧ D.nx σ H) ∨ (J.go i H ∧ ∃ N : L2.St → Hp → Prop, (∀ σ' H', N σ' H' → ∃ m', m' < m ∧ W (i + 1) m' σ' H') ∧ ∀ x H', J.yld i H x H' → g x σ H' fun σ2 H2 => tb { D with nx := N, ct := N, bk := D.nx } σ2 H2) := by
  refine ⟨fun i m σ H => m = n - i ∧ i ≤ n ∧ Pv i σ H, ⟨n, by simp, Nat.zero_le _, h0⟩, fun i m σ H hW => ?_⟩
  obtain ⟨rfl, hi, p⟩ := hW
  by_cases lt : i < n
  · exact .inr ⟨hgo i σ H lt p, Pv (i + 1), fun σ' H' p' => ⟨n - (i + 1), by omega, rfl, lt, p'⟩, fun x H' y => hs i σ H x H' lt p y⟩
  · have e : i = n := by omega
    subst e
    exact .inl ⟨hst σ H p, hd σ H p⟩
def spAns : Sp := fun vs H Q _ => ∃ f : Addr, vs = [.ref f] ∧ Fd H f ∧ ∀ (v : V) H', (v = .non ∨ ∃ z, v = .str z ∧ TOk z) → Kp f H H' → Fd H' f → Q v H'
def spPickS : Sp := fun vs H Q _ => ∃ (f : Addr) (z : Str), vs = [.ref f, .str z] ∧ Fd H f ∧ 0 < z.length ∧ z.length < 1000 ∧ ∀ (c : Nat) H', c ∈ z.cps.toList → Kp f H H' → Fd H' f → Q (.str ⟨#[c]⟩) H'
/-- a text as words are -/
def spWord : Sp := fun vs H Q _ => ∃ f : Addr, vs = [.ref f] ∧ Fd H f ∧ ∀ (z : Str) H', TOk z → Kp f H H' → Fd H' f → Q (.str z) H'
theorem sokCut {z : Str} (h : SOk z) (lo hi : Option Int) : SOk (cutS z lo hi) := by
  unfold SOk cutS
  rw [List.all_toArray, List.all_eq_true]
  intro x hx
  have h1 := List.mem_of_mem_drop (List.mem_of_mem_take hx)
  exact Array.all_eq_true'.mp h x (by simpa using h1)
theorem lenCut (z : Str) (lo hi : Option Int) : (cutS z lo hi).length ≤ z.length := by
  show ((z.cps.toList.drop _).take _).toArray.size ≤ z.cps.size
  rw [List.size_toArray, List.length_take, List.length_drop, Array.length_toList]
  omega
theorem sokCat {a b : Str} (h : SOk a) (k : SOk b) : SOk (a ++ b) := by
  show (a.cps ++ b.cps).all _ = true
  rw [Array.all_append, Bool.and_eq_true]
  exact ⟨h, k⟩
theorem lenCat (a b : Str) : (a ++ b).length = a.length + b.length := by
  show (a.cps ++ b.cps).size = _
  rw [Array.size_append]
  rfl
theorem sokMem {z : Str} (h : SOk z) {c : Nat} (hc : c ∈ z.cps.toList) : SOk ⟨#[c]⟩ := by
  have h1 := Array.all_eq_true'.mp h c (by simpa using hc)
  unfold SOk
  simpa using h1
section
variable {P : Program} {w : World} {K : PySem.W.Frag} {mg : Str → Option Value} {base : Heap} {f : Addr} {fd : FuncData}
theorem scAns : FnScope ["_law_feed"] ["_law_feed"] (defScope lAnswer) := ⟨rfl, rfl, rfl, by decide +kernel, rfl, by decide +kernel, by decide +kernel⟩
theorem okAns {k : Nat} (F : FnP K "_law_some_answer" lAnswer f fd) (D : Has P w K mg base (k + 1) "_law_draw" ["_law_feed", "_law_many"] spDraw) (T : Has P w K mg base (k + 3) "_law_some_text" ["_law_feed"] spText) : FnOk P w K mg base CX0 (k + 4) f fd ["_law_feed"] spAns := by
  obtain ⟨fD, fdD, gD, kD, bD, GD⟩ := D.ex
  obtain ⟨fT, fdT, gT, kT, bT, GT⟩ := T.ex
  refine F.ok scAns (fun vs H Q E h => ?_) (fun cdv A outer s H vs Q E hr h => ?_)
  · obtain ⟨a, rfl, _⟩ := h
    rfl
  · obtain ⟨a, rfl, hF, q⟩ := h
    have hr1 : Room (k + 1) _ := hr.mono (by omega)
    refine ⟨_, PSs.nox (pss_one (ps_ret (pe_ifExp (pt_cmpR op_eq (pe_call GD hr1 (by rfl) gD kD bD .nil pass0 (pa_cons (pv 0) (pa_cons (pe_int) pa_nil))) pe_int (nomark _)) pe_non (pe_call GT hr (by rfl) gT kT bT .nil pass0 (pa_cons (pv 0) pa_nil))))), ?_⟩
    refine ⟨.ref a, rfl, a, 5, rfl, hF, by decide, by decide, fun r H1 r0 r1 k1 F1 => ⟨rfl, _, rfl, ite2 (fun e => ?_) (fun e => ?_)⟩⟩
    · exact q .non H1 (.inl rfl) k1 F1
    · exact ⟨.ref a, rfl, a, rfl, F1, fun z H2 tz k2 F2 => q _ H2 (.inr ⟨z, rfl, tz⟩) (k1.trans k2) F2⟩
theorem okPickS {k : Nat} (F : FnP K "_law_pick" lPick f fd) (ml : mg "len" = none) (D : Has P w K mg base (k + 1) "_law_draw" ["_law_feed", "_law_many"] spDraw) : FnOk P w K mg base CX0 (k + 2) f fd ["_law_feed", "_law_items"] spPickS := by
  obtain ⟨fD, fdD, gD, kD, bD, GD⟩ := D.ex
  refine F.ok scPick (fun vs H Q E h => ?_) (fun cdv A outer s H vs Q E hr h => ?_)
  · obtain ⟨a, z, rfl, _⟩ := h
    rfl
  · obtain ⟨a, z, rfl, hF, h0, h1, q⟩ := h
    refine ⟨_, PSs.nox (pss_one (ps_ret (pe_ix ix_str (pv 1) (pe_call GD hr (by rfl) gD kD bD .nil pass0 (pa_cons (pv 0) (pa_cons (pe_callB call_len_str (by rfl) ml PySem.boot_len (pa_cons (pv 1) pa_nil)) pa_nil))) (fun _ _ => rfl)))), ?_⟩
    refine ⟨.str z, rfl, .ref a, rfl, .str z, rfl, z, rfl, by rw [sizeLine_eq]; omega, ?_⟩
    refine ⟨a, (z.length : Int), rfl, hF, by omega, by omega, fun r H' r0 r1 kp fd' => ?_⟩
    obtain ⟨j, rfl⟩ : ∃ j : Nat, r = (j : Int) := ⟨r.toNat, by omega⟩
    have hj : j < z.cps.toList.length := by show j < z.length; omega
    exact ⟨z, _, _, rfl, rfl, by rw [sizeLine_eq]; omega, atI_nat (List.getElem?_eq_getElem hj), q _ H' (List.getElem_mem hj) kp fd'⟩
end
end KS.La

set_option Elab.async false
set_option linter.all false
set_option maxRecDepth 100000
set_option maxHeartbeats 4000000
/-! dicts whose keys are data (tuples of None, numbers, texts and such tuples), over the layer: the dict is a thing told by its one object, the keys' tuples stand in the layer's heap -/
namespace ND
open PySem PySem.Spec PyProof.Rows L2
/-- None, numbers, texts, tuples of such, n deep -/
inductive Pl : Nat → PyData → Prop
  | non (n : Nat) : Pl n .none
  | int (n : Nat) (i : Int) : Pl n (.int i)
  | str (n : Nat) (z : Str) : Pl n (.str z)
  | tup {n : Nat} {ds : List PyData} (h : ∀ d ∈ ds, Pl n d) : Pl (n + 1) (.tuple ds)
theorem Pl.up {n : Nat} {d : PyData} (h : Pl n d) : ∀ {m : Nat}, n ≤ m → Pl m d := by
  induction h with
  | non => exact fun _ => .non _
  | int n i => exact fun _ => .int _ i
  | str n z => exact fun _ => .str _ z
  | tup h ih =>
    intro m hm
    obtain ⟨k, rfl⟩ : ∃ k, m = k + 1 := ⟨m - 1, by omega⟩
    exact .tup fun d hd => ih d hd (by omega)
mutual
def keyD : PyData → NestedKey
  | .int i => .num i
  | .str x => .text x
  | .tuple ds => .tup (keyDs ds)
  | .bool b => .num (if b = true then 1 else 0)
  | .none => .none
  | .list _ => .none
  | .dict _ => .none
def keyDs : List PyData → List NestedKey
  | [] => []
  | d :: ds => keyD d :: keyDs ds
end
theorem keyDepth {n : Nat} {d : PyData} (h : Pl n d) : (keyD d).depth ≤ n := by
  induction h with
  | non => simp [keyD, NestedKey.depth]
  | int => simp [keyD, NestedKey.depth]
  | str => simp [keyD, NestedKey.depth]
  | @tup n ds h ih =>
    have all : ∀ l : List PyData, (∀ d ∈ l, (keyD d).depth ≤ n) → NestedKey.depthAll (keyDs l) ≤ n := by
      intro l
      induction l with
      | nil => intro _; simp [keyDs, NestedKey.depthAll]
      | cons x l il =>
        intro hl
        have h1 := hl x List.mem_cons_self
        have h2 := il fun d hd => hl d (List.mem_cons_of_mem _ hd)
        simp only [keyDs, NestedKey.depthAll]
        omega
    have := all ds ih
    simp only [keyD, NestedKey.depth]
    omega
theorem keyInj {n : Nat} {d : PyData} (h : Pl n d) : ∀ {m : Nat} {e : PyData}, Pl m e → keyD d = keyD e → d = e := by
  induction h with
  | non => intro m e he q; cases he <;> simp [keyD] at q; rfl
  | int n i => intro m e he q; cases he <;> simp [keyD] at q; rw [q]
  | str n z => intro m e he q; cases he <;> simp [keyD] at q; rw [q]
  | @tup n ds h ih =>
    intro m e he q
    cases he with
    | @tup m es he =>
      have all : ∀ (l r : List PyData), (∀ d ∈ l, ∀ {m : Nat} {e : PyData}, Pl m e → keyD d = keyD e → d = e) → (∀ e ∈ r, Pl m e) → keyDs l = keyDs r → l = r := by
        intro l
        induction l with
        | nil =>
          intro r _ _ q
          cases r with
          | nil => rfl
          | cons => simp [keyDs] at q
        | cons x l il =>
          intro r hl hr q
          cases r with
          | nil => simp [keyDs] at q
          | cons y r =>
            simp only [keyDs, List.cons.injEq] at q
            rw [hl x List.mem_cons_self (hr y List.mem_cons_self) q.1, il r (fun d hd => hl d (List.mem_cons_of_mem _ hd)) (fun e he => hr e (List.mem_cons_of_mem _ he)) q.2]
      have q2 : keyDs ds = keyDs es := by simpa [keyD] using q
      rw [all ds es ih he q2]
    | non => simp [keyD] at q
    | int => simp [keyD] at q
    | str => simp [keyD] at q
/-- what stands in the layer's heap as data is such a key -/
theorem nestedIs {X : Cx} {pins : List (Addr × Obj)} {σ : L2.St} {H : Hp} {s : Shared} (I : Inv X pins σ H s) {n : Nat} {d : PyData} (h : Pl n d) : ∀ (v : V) (u : Value), Dp X.K H v d → RelV v u → NestedIs s.heap (keyD d) u := by
  induction h with
  | non => intro v u hd r; cases hd; cases r; exact .none
  | int n i => intro v u hd r; cases hd; obtain ⟨t, rfl⟩ := r; exact .int i t
  | str n z => intro v u hd r; cases hd; obtain ⟨t, rfl⟩ := r; exact .text z t
  | @tup n ds h ih =>
    intro v u hd r
    cases hd with
    | tup hs ha =>
      cases r
      obtain ⟨its, rv, ⟨o, ho, hc, n', hdt⟩, _⟩ := I.tuple hs
      have all : ∀ (l : List PyData) (vs : List V) (us : List Value), (∀ d ∈ l, ∀ (v : V) (u : Value), Dp X.K H v d → RelV v u → NestedIs s.heap (keyD d) u) → DpAll X.K H vs l → Vals vs us → NestedAll s.heap (keyDs l) us := by
        intro l
        induction l with
        | nil => intro vs us _ ha r; cases ha; cases r; exact .nil
        | cons x l il =>
          intro vs us hl ha r
          cases ha with
          | cons h1 h2 =>
            cases r with
            | cons r1 r2 => exact .cons (hl x List.mem_cons_self _ _ h1 r1) (il _ _ (fun d hd => hl d (List.mem_cons_of_mem _ hd)) h2 r2)
      exact .tup ho hc hdt (by simpa using all ds _ its ih ha rv)
/-! ### the dict -/
abbrev KvN := NestedKey × Addr × V
abbrev KvD := PyData × Addr × V
def kn (q : KvD) : KvN := (keyD q.1, q.2.1, q.2.2)
abbrev rKv (p : KvN) (q : NestedKey × Addr × Value) : Prop := p.1 = q.1 ∧ p.2.1 = q.2.1 ∧ RelV p.2.2 q.2.2
def NdR (P : Program) (w : World) (d : Addr) (ks : List KvN) (h : Heap) : Prop := ks.length ≤ sizeLine ∧ (d == sysModules) = false ∧ ∃ xs : List (NestedKey × Addr × Value), Paired rKv ks xs ∧
  ∃ o es ep, h.get? d = some o ∧ o.ExactDict ∧ o.data = .dict es ep ∧ es.toList = xs.map (entryOfKey (nestedKind P w)) ∧ (xs.map (·.1)).Nodup
def ndO (P : Program) (w : World) (d : Addr) (ks : List KvN) : HO := .ext (NdR P w d ks)
structure Nd (P : Program) (w : World) (K : PySem.W.Frag) (H : Hp) (d : Addr) (kvs : List KvD) : Prop where
  o : H d = some (ndO P w d (kvs.map kn))
  k : ∀ q ∈ kvs, Pl 8 q.1 ∧ Dp K H (.ref q.2.1) q.1
theorem ndOk {P : Program} {w : World} {H : Hp} {h : Heap} {d : Addr} {ks : List KvN} (r : NdR P w d ks h) : ObjOk P w H h d (ndO P w d ks) := by
  obtain ⟨z, hs, xs, pr, o, es, ep, ho, rest⟩ := r
  refine ⟨⟨z, hs, xs, pr, o, es, ep, ho, rest⟩, ⟨o, ho⟩, fun h1 h2 q keep => ?_⟩
  obtain ⟨z, hs, xs, pr, o, es, ep, ho, rest⟩ := q
  exact ⟨z, hs, xs, pr, o, es, ep, keep o ho, rest⟩
theorem ndNew {P : Program} {w : World} {H : Hp} (h : Heap) (hb : sysModules < h.objs.size) : ObjOk P w H (h.push { cls := .type "dict", data := .dict #[] }) h.objs.size (ndO P w h.objs.size []) := by
  refine ndOk ⟨Nat.zero_le _, ?_, [], .nil, ?_⟩
  · exact beq_eq_false_iff_ne.mpr (Nat.ne_of_gt hb)
  · obtain ⟨o, es, ep, h1, h2, h3, h4, _, h6⟩ := Heap.DictOfH.new (knd := nestedKind P w) h
    exact ⟨o, es, ep, h1, h2, h3, h4, h6⟩
section
variable {X : Cx} {pins : List (Addr × Obj)} {σ : L2.St} {H : Hp} {s : Shared}
theorem keyIs (I : Inv X pins σ H s) {a : Addr} {e : PyData} (he : Dp X.K H (.ref a) e) (pl : Pl 8 e) : (nestedKind X.prog X.w).is s.heap (keyD e) a := ⟨nestedIs I pl _ _ he rfl, keyDepth pl⟩
theorem pairedMem {α β : Type} {F : α → β → Prop} : ∀ {l : List α} {r : List β}, Paired F l r → ∀ y ∈ r, ∃ x ∈ l, F x y
  | _, _, .nil, y, hy => absurd hy (by simp)
  | _, _, .cons h t, y, hy => by
    rcases List.mem_cons.mp hy with z | z
    · subst z; exact ⟨_, List.mem_cons_self, h⟩
    · obtain ⟨x, hx, f⟩ := pairedMem t y z
      exact ⟨x, List.mem_cons_of_mem _ hx, f⟩
theorem pairedLen {α β : Type} {F : α → β → Prop} : ∀ {l : List α} {r : List β}, Paired F l r → l.length = r.length
  | _, _, .nil => rfl
  | _, _, .cons _ t => by simp [pairedLen t]
theorem Nd.heap {d : Addr} {kvs : List KvD} (n : Nd X.prog X.w X.K H d kvs) (I : Inv X pins σ H s) : kvs.length ≤ sizeLine ∧ (d == sysModules) = false ∧ ∃ xs, Paired rKv (kvs.map kn) xs ∧ s.heap.DictOfH (nestedKind X.prog X.w) d xs := by
  have ok : ObjOk X.prog X.w H s.heap d (ndO X.prog X.w d (kvs.map kn)) := I.hok d _ n.o
  obtain ⟨⟨z, hs, xs, pr, o, es, ep, ho, hx, hd, he, nd⟩, _⟩ := ok
  refine ⟨by simpa using z, hs, xs, pr, o, es, ep, ho, hx, hd, he, fun y hy => ?_, nd⟩
  obtain ⟨x, hx, e1, e2, _⟩ := pairedMem pr y hy
  obtain ⟨q, hq, rfl⟩ := List.mem_map.mp hx
  obtain ⟨pl, dp⟩ := n.k q hq
  have := keyIs I dp pl
  rw [← e1, ← e2]
  exact this
end
end ND

set_option Elab.async false
set_option linter.all false
set_option maxRecDepth 100000
set_option maxHeartbeats 4000000
namespace ND
open PySem PySem.Spec PyProof.Rows L2
/-- tuples stand -/
def TS (H H' : Hp) : Prop := ∀ a o, H a = some o → ((∃ xs, o = .tup xs) ∨ ∃ p xs, o = .frz p (.tup xs)) → H' a = some o
theorem TS.refl (H : Hp) : TS H H := fun _ _ e _ => e
theorem TS.trans {H H1 H2 : Hp} (a : TS H H1) (b : TS H1 H2) : TS H H2 := fun x o e t => b x o (a x o e t) t
theorem TS.same {H H' : Hp} (s : ∀ a o, H a = some o → H' a = some o) : TS H H' := fun a o e _ => s a o e
theorem TS.put {P : Program} {w : World} {H : Hp} {d : Addr} {ks : List KvN} {o : HO} (h : H d = some (ndO P w d ks)) : TS H (upd H d o) := fun a u e t => by
  rw [upd_ne fun z => ?_]
  · exact e
  · rw [z, h] at e
    have e2 := Option.some.inj e
    rcases t with ⟨xs, rfl⟩ | ⟨p, xs, rfl⟩ <;> cases e2
theorem TS.tup {K : PySem.W.Frag} {H H' : Hp} (k : TS H H') {a : Addr} {xs : List V} (h : SqT K H a xs) : SqT K H' a xs := by
  rcases h with (h | ⟨o, h⟩) | h
  · exact .inl (.inl (k _ _ h (.inl ⟨_, rfl⟩)))
  · exact .inl (.inr ⟨o, k _ _ h (.inr ⟨_, _, rfl⟩)⟩)
  · exact .inr h
theorem allTS {K : PySem.W.Frag} {H H' : Hp} : ∀ {ds : List PyData} {xs : List V}, (∀ d ∈ ds, ∀ v, Dp K H v d → Dp K H' v d) → DpAll K H xs ds → DpAll K H' xs ds
  | _, _, _, .nil => .nil
  | _, _, k, .cons h r => .cons (k _ List.mem_cons_self _ h) (allTS (fun d hd => k d (List.mem_cons_of_mem _ hd)) r)
theorem dpTS {K : PySem.W.Frag} {H H' : Hp} (k : TS H H') {n : Nat} {d : PyData} (o : Pl n d) : ∀ v, Dp K H v d → Dp K H' v d := by
  induction o with
  | non n => intro v h; cases h; exact .non
  | int n i => intro v h; cases h; exact .int _
  | str n z => intro v h; cases h; exact .str _
  | tup h ih =>
    intro v hv
    cases hv with
    | tup hx hd => exact .tup (k.tup hx) (allTS ih hd)
/-! ### storing -/
def storeN (ks : List KvN) (k : NestedKey) (a : Addr) (v : V) : List KvN := if (ks.any fun q => decide (q.1 = k)) = true then ks.map (fun q => if q.1 = k then (q.1, q.2.1, v) else q) else ks ++ [(k, a, v)]
def storeD (kvs : List KvD) (e : PyData) (a : Addr) (v : V) : List KvD := if (kvs.any fun q => decide (keyD q.1 = keyD e)) = true then kvs.map (fun q => if keyD q.1 = keyD e then (q.1, q.2.1, v) else q) else kvs ++ [(e, a, v)]
theorem store_kn (kvs : List KvD) (e : PyData) (a : Addr) (v : V) : (storeD kvs e a v).map kn = storeN (kvs.map kn) (keyD e) a v := by
  have h : ((kvs.map kn).any fun q => decide (q.1 = keyD e)) = kvs.any fun q => decide (keyD q.1 = keyD e) := by
    rw [List.any_map]
    rfl
  unfold storeD storeN
  rw [h]
  split
  · rw [List.map_map, List.map_map]
    refine List.map_congr_left fun q _ => ?_
    show kn (if keyD q.1 = keyD e then (q.1, q.2.1, v) else q) = if keyD q.1 = keyD e then (keyD q.1, q.2.1, v) else kn q
    split <;> rfl
  · rw [List.map_append]
    rfl
theorem storeLen (kvs : List KvD) (e : PyData) (a : Addr) (v : V) : (storeD kvs e a v).length ≤ kvs.length + 1 := by
  unfold storeD
  split
  · rw [List.length_map]; omega
  · rw [List.length_append]; exact Nat.le_refl _
theorem storeKeys {kvs : List KvD} {e : PyData} {a : Addr} {v : V} {q : KvD} (h : q ∈ storeD kvs e a v) : (∃ p ∈ kvs, p.1 = q.1 ∧ p.2.1 = q.2.1) ∨ (q.1 = e ∧ q.2.1 = a) := by
  unfold storeD at h
  split at h
  · obtain ⟨p, hp, rfl⟩ := List.mem_map.mp h
    refine .inl ⟨p, hp, ?_⟩
    split <;> exact ⟨rfl, rfl⟩
  · rcases List.mem_append.mp h with z | z
    · exact .inl ⟨q, z, rfl, rfl⟩
    · rw [List.mem_singleton.mp z]
      exact .inr ⟨rfl, rfl⟩
theorem atSome {ks : List KvN} {xs : List (NestedKey × Addr × Value)} (p : Paired rKv ks xs) (k : NestedKey) : (atKey xs k).isSome = ks.any fun q => decide (q.1 = k) := by
  induction p with
  | nil => rfl
  | @cons x y l r h t ih =>
    unfold atKey at ih ⊢
    rw [List.any_cons, List.find?_cons, ← h.1]
    cases hd : decide (x.1 = k) with
    | true => rfl
    | false => simpa using ih
theorem pairedStore {ks : List KvN} {xs : List (NestedKey × Addr × Value)} (p : Paired rKv ks xs) (k : NestedKey) (a : Addr) {v : V} {u : Value} (r : RelV v u) : Paired rKv (storeN ks k a v) (storedH xs k a u) := by
  have e := atSome p k
  unfold storeN storedH
  rw [e]
  split
  · have all : ∀ {ks : List KvN} {xs : List (NestedKey × Addr × Value)}, Paired rKv ks xs → Paired rKv (ks.map fun q => if q.1 = k then (q.1, q.2.1, v) else q) (xs.map (putAt k u)) := by
      intro ks xs p
      induction p with
      | nil => exact .nil
      | @cons x y l r' h t ih =>
        refine .cons ?_ ih
        show rKv (if x.1 = k then (x.1, x.2.1, v) else x) (if y.1 = k then (y.1, y.2.1, u) else y)
        rw [← h.1]
        split
        · exact ⟨rfl, h.2.1, r⟩
        · exact h
    exact all p
  · exact p.snoc ⟨rfl, rfl, r⟩
section
variable {X : Cx} {pins : List (Addr × Obj)} {σ : L2.St} {H : Hp} {s : Shared}
theorem ndStored {kvs : List KvD} {d a : Addr} {e : PyData} {v : V} {u : Value} {h' : Heap} {t' : Nat} (I : Inv X pins σ H s) (n : Nd X.prog X.w X.K H d kvs) (rv : RelV v u) (hl : kvs.length < sizeLine) {xs : List (NestedKey × Addr × Value)} (pr : Paired rKv (kvs.map kn) xs) (hs : (d == sysModules) = false)
    (dd : h'.DictOfH (nestedKind X.prog X.w) d (storedH xs (keyD e) a u)) (sb : Heap.SameBut d s.heap h') : Inv X pins σ (upd H d (ndO X.prog X.w d ((storeD kvs e a v).map kn))) { s with heap := h', toks := t' } := by
  obtain ⟨o, es, ep, h1, h2, h3, h4, _, h6⟩ := dd
  refine d_write I (by rw [n.o]; exact True.intro) sb ⟨o, h1⟩ (ndOk ⟨?_, hs, _, ?_, o, es, ep, h1, h2, h3, h4, h6⟩)
  · rw [List.length_map]
    have := storeLen kvs e a v
    omega
  · rw [store_kn]
    exact pairedStore pr _ _ rv
/-- d[k] = v within a comprehension -/
theorem nd_dictSet {E : Value → Shared → Prop} {kvs : List KvD} {d a : Addr} {e : PyData} {v : V} {u : Value} {Q : Unit → Shared → Prop} (hu : X.A.units + 8 < cLine) (I : Inv X pins σ H s) (n : Nd X.prog X.w X.K H d kvs) (he : Dp X.K H (.ref a) e) (pl : Pl 8 e) (rv : RelV v u) (hl : kvs.length < sizeLine)
    (h : ∀ s', Inv X pins σ (upd H d (ndO X.prog X.w d ((storeD kvs e a v).map kn))) s' → Q () s') : wpAny (model X.prog X.w) X.A (dictSet d (.ref a) u) Q E s := by
  obtain ⟨hz, hs, xs, pr, dd⟩ := n.heap I
  have hxl : xs.length ≤ sizeLine := by
    rw [← pairedLen pr, List.length_map]
    exact hz
  refine wpAny_dictSet_heap (knd := nestedKind X.prog X.w) hu (keyIs I he pl) dd (fun h' dd' sb => h _ (ndStored I n rv hl pr hs dd' sb)) hxl
/-- d[k] = v -/
def rSetN (P : Program) (w : World) (K : PySem.W.Frag) : TSet := fun o i v H Q => ∃ (d a : Addr) (e : PyData) (kvs : List KvD), o = .ref d ∧ i = .ref a ∧ Nd P w K H d kvs ∧ Dp K H (.ref a) e ∧ Pl 8 e ∧ kvs.length < sizeLine ∧ Q (upd H d (ndO P w d ((storeD kvs e a v).map kn)))
theorem set_nd (hu : X.A.units + 9 < cLine) : PSet X (rSetN X.prog X.w X.K) := by
  intro pins s σ H o i v ov iv u Q I ro ri rv h
  obtain ⟨d, a, e, kvs, rfl, rfl, n, he, pl, hl, q⟩ := h
  cases ro
  cases ri
  obtain ⟨hz, hs, xs, pr, dd⟩ := n.heap I
  have hxl : xs.length ≤ sizeLine := by
    rw [← pairedLen pr, List.length_map]
    exact hz
  refine wpAny_setItem_heap (knd := nestedKind X.prog X.w) (by show X.A.in1.units + 8 < cLine; rw [Around.in1_units]; omega) (keyIs I he pl) dd (fun h' dd' sb => ⟨_, ndStored I n rv hl pr hs dd' sb, q⟩) hxl
/-! ### looking up -/
def valN (ks : List KvN) (k : NestedKey) : Option V := (ks.find? fun q => decide (q.1 = k)).map fun q => q.2.2
theorem pairedFind {ks : List KvN} {xs : List (NestedKey × Addr × Value)} (p : Paired rKv ks xs) (k : NestedKey) {v : V} (h : valN ks k = some v) : ∃ q u, atKey xs k = some (q, u) ∧ RelV v u := by
  induction p with
  | nil => cases h
  | @cons x y l r hxy t ih =>
    unfold valN at h ih
    unfold atKey at ih ⊢
    rw [List.find?_cons] at h ⊢
    rw [← hxy.1]
    cases hd : decide (x.1 = k) with
    | true =>
      rw [hd] at h
      have h2 : some x.2.2 = some v := h
      rw [← Option.some.inj h2]
      exact ⟨y.2.1, y.2.2, rfl, hxy.2.2⟩
    | false =>
      rw [hd] at h
      exact ih h
def rIxN (P : Program) (w : World) (K : PySem.W.Frag) : R2 := fun x y H Q => ∃ (d a : Addr) (e : PyData) (kvs : List KvD) (v : V), x = .ref d ∧ y = .ref a ∧ Nd P w K H d kvs ∧ Dp K H (.ref a) e ∧ Pl 8 e ∧ valN (kvs.map kn) (keyD e) = some v ∧ Q v H
theorem ix_nd (hu : X.A.units + 9 < cLine) : IxR X (rIxN X.prog X.w X.K) := by
  intro value slice pins s σ H x y v u Q I rx ry h hs
  obtain ⟨d, a, e, kvs, z, rfl, rfl, n, he, pl, hv, q⟩ := h
  cases rx
  cases ry
  obtain ⟨_, _, xs, pr, dd⟩ := n.heap I
  obtain ⟨b, t, e1, r1⟩ := pairedFind pr _ hv
  have fin : ∀ tk, EP X pins σ Q t { s with toks := tk } := fun tk => ⟨z, H, I.tok tk, r1, q⟩
  exact subscriptTail_builtinR (x := t) (Q := fun r s' => EP X pins σ Q r s') dd.typeIs PySem.slot_dict_getitem.lookup (wpAny_getItem_heap (knd := nestedKind X.prog X.w) (by show X.A.in1.units + 8 < cLine; rw [Around.in1_units]; omega) (keyIs I he pl) dd e1 ⟨rfl, fin _⟩) hs
/-- {} -/
def tDNewN (P : Program) (w : World) : TE := fun _ H Q => ∀ p, H p = none → Q (.ref p) (upd H p (ndO P w p []))
theorem pe_dnewN {pos : Pos} : PE X (.Dict [] [] pos) (tDNewN X.prog X.w) := ⟨fun pins s σ H Q I h =>
  wpAny_Dict_empty ⟨.ref s.heap.objs.size, _, I.laid (a := s.heap.objs.size) (o := ndO X.prog X.w s.heap.objs.size []) (t' := s.toks) (fun _ _ q => Heap.get?_push_of_some _ q) (Nat.le_refl _) (ndNew s.heap I.big), rfl, h _ (I.hok.fresh (Nat.le_refl _))⟩⟩
end
end ND

set_option Elab.async false
set_option linter.all false
set_option maxRecDepth 100000
set_option maxHeartbeats 4000000
/-! {k: v for x in xs}, the keys data -/
namespace ND
open PySem PySem.Spec PyProof.Rows L2
/-- a promise that holds in each block of such a scope -/
def InBlk (X : Cx) (sc : Scope) (F : Cx → Prop) : Prop := ∀ (t : Shared) (G : Hp) (E : Addr) (ces : List (Str × Addr)) (ps : List Addr), F (X.blk t G sc (compEnvC sc ces E X.env) ps)
/-- one turn: what comes of it stands for the next one -/
def turnN (P : Program) (w : World) (K : PySem.W.Frag) (D : Addr) (g : TG) (tk tv : TE) (vs : List Nat) (σ : L2.St) (x : V) (Nx : Hp → Prop) : Hp → Prop := fun G => g x (wipe σ vs) G fun ρ G2 => wipe ρ vs = wipe σ vs ∧ tk ρ G2 fun y G3 => tv ρ G3 fun z G4 =>
  ∃ (kvs : List KvD) (a : Addr) (e : PyData), y = .ref a ∧ Nd P w K G4 D kvs ∧ Dp K G4 (.ref a) e ∧ Pl 8 e ∧ kvs.length < sizeLine ∧ Nx (upd G4 D (ndO P w D ((storeD kvs e a z).map kn)))
def tNdc (P : Program) (w : World) (K : PySem.W.Frag) (wi : TI) (g : TG) (tk tv : TE) (vs : List Nat) : TE := fun σ H Q => wi σ H fun J G => ∀ D, G D = none → ∃ W : Nat → Nat → Hp → Prop, (∃ m, W 0 m (upd G D (ndO P w D []))) ∧ ∀ i m T, W i m T →
  (J.stop i T ∧ Q (.ref D) T) ∨ (J.go i T ∧ ∃ Nx : Hp → Prop, (∀ T', Nx T' → ∃ m', m' < m ∧ W (i + 1) m' T') ∧ ∀ x T', J.yld i T x T' → turnN P w K D g tk tv vs σ x Nx T')
section
variable {X : Cx}
theorem ndc_core {pins : List (Addr × Obj)} {s : Shared} {σ : L2.St} {H : Hp} {Q : VK} {kx vx tg iter : Expr} {sc : Scope} {own : List (Str × Nat)} {pos pos' : Pos} {wi : TI} {g : TG} {tk tv : TE} {use : Option (Value → Sem Unit)} {Qf : Value → Shared → Prop}
    (hu : X.A.units + 8 < cLine) (calm : X.calm = true) (nd : X.N.Nodup) (I : Inv X pins σ H s) (it0 : PI X tg iter wi) (bk : BlkOk X.N X.env.scope sc own) (pG : InBlk X sc fun Y => PG Y tg g) (pK : InBlk X sc fun Y => PE Y kx tk) (pV : InBlk X sc fun Y => PE Y vx tv)
    (fold : ∀ x, foldedSetIterable iter X.env x = pure x) (hq : tNdc X.prog X.w X.K wi g tk tv (own.map (·.2)) σ H Q)
    (out : ∀ D C t m G, Inv X pins σ G t → Q (.ref D) G → t.heap.Ns C m → FpOk X pins G C → compPost (model X.prog X.w) X.A X.xe use Qf (.ref D) C (.ok .next) t) :
    wpAny (model X.prog X.w) X.A (comprehension (.DictComp kx vx [⟨tg, iter, [], 0⟩] sc pos) sc X.env pos' newDict false (eval iter X.env) use) Qf X.xe s := by
  have cells : ∀ y ∈ sc.names, y.2 = .free → ∃ c, X.env.cells.lookup y.1 = some c := by
    intro y hy e
    exact (bk.free y hy e).elim (fun z => I.ok.has _ (.inl z)) fun z => I.ok.has _ (.inr z)
  refine wpAny_comprehension_free (use := use) rfl fold (closure_ok cells) bk.kind (fun y hy e => by rw [bk.uniq y hy, e]) ?_
  refine thn (it0.run pins s σ H _ I hq) fun xv s1 hx => thn hx fun itv s2 ⟨it, fp, tn, J, G, eit, I2, T, st2, f2, q⟩ => ?_
  subst eit
  refine wpAny_newObj_type (newEnv_comp ?_)
  obtain ⟨D, hD⟩ : ∃ D, D = s2.heap.objs.size := ⟨_, rfl⟩
  rw [← hD]
  have free : G D = none := I2.hok.fresh (Nat.le_of_eq hD.symm)
  obtain ⟨W, ⟨m0, w0⟩, turn⟩ := q D free
  obtain ⟨s3, hs3⟩ : ∃ t : Shared, t = { s2 with heap := s2.heap.push { cls := .type "dict", data := .dict #[] } } := ⟨_, rfl⟩
  rw [← hs3]
  have I3 : Inv X pins σ (upd G D (ndO X.prog X.w D [])) s3 := by
    rw [hs3, hD]
    exact I2.laid (t' := s2.toks) (fun b o e => Heap.get?_push_of_some _ e) (Nat.le_refl _) (ndNew s2.heap I2.big)
  have grow : s3.heap = s2.heap.push { cls := .type "dict", data := .dict #[] } := by rw [hs3]
  have below : ∀ b ∈ fp, b < s2.heap.objs.size := fun b hb => (T.obj _ _ st2 b hb).elim fun o e => Heap.lt_size e.1
  have f3 : ∀ b ∈ fp, FpOk X pins (upd G D (ndO X.prog X.w D [])) b ∧ b < s3.heap.objs.size := by
    intro b hb
    have lt := below b hb
    constructor
    · exact ⟨by rw [upd_ne (by rw [hD]; exact Nat.ne_of_lt lt)]; exact (f2 b hb).1, (f2 b hb).2⟩
    · rw [grow, Heap.size_push]
      exact Nat.lt_succ_of_lt lt
  have st3 : tn 0 s3.heap := by
    refine T.keep _ _ _ st2 fun b _ o e => ?_
    rw [grow]
    exact Heap.get?_push_of_some _ e
  have I4 := block_start I3 bk nd f3
  obtain ⟨ce, hce⟩ : ∃ c, c = compEnvC sc (cellsFrom (s3.heap.objs.size + 1) sc.names (cloFrom X.env.cells sc.names [])) s3.heap.objs.size X.env := ⟨_, rfl⟩
  obtain ⟨G3, hG3⟩ : ∃ G3, G3 = upd G D (ndO X.prog X.w D []) := ⟨_, rfl⟩
  have qG : PG (X.blk s3 G3 sc ce fp) tg g := by rw [hce]; exact pG _ _ _ _ _
  have qK : PE (X.blk s3 G3 sc ce fp) kx tk := by rw [hce]; exact pK _ _ _ _ _
  have qV : PE (X.blk s3 G3 sc ce fp) vx tv := by rw [hce]; exact pV _ _ _ _ _
  have loc : ce.locals = s3.heap.objs.size := by rw [hce]; rfl
  obtain ⟨s4, hs4⟩ : ∃ t : Shared, t = { s3 with heap := pushCells (s3.heap.push { cls := .type "dict", data := .dict #[] }) sc.names } := ⟨_, rfl⟩
  rw [← hce, ← hG3, ← hs4] at I4
  rw [← hG3] at I3 w0 f3
  show codeAny _ _ (.compStart (.DictComp kx vx [⟨tg, iter, [], 0⟩] sc pos) 0 (.ref it) (.ref D) (compEnvC sc (cellsFrom (s3.heap.objs.size + 1) sc.names (cloFrom X.env.cells sc.names [])) s3.heap.objs.size X.env)) _ _
  rw [← hce, ← hs4]
  have none3 : ∀ b ∈ fp, G3 b = none := fun b hb => (f3 b hb).1.1
  have st4 : tn 0 s4.heap := by
    refine T.keep _ _ _ st3 fun b _ o e => ?_
    rw [hs4]
    exact pushCells_keeps _ _ _ _ (Heap.get?_push_of_some _ e)
  have fps : ∀ {ρ : L2.St} {G' : Hp} {t : Shared}, Inv (X.blk s3 G3 sc ce fp) [] ρ G' t → (∀ b ∈ fp, G' b = none) → ∀ b ∈ fp, FpOk (X.blk s3 G3 sc ce fp) [] G' b := by
    intro ρ G' t J' hn b hb
    refine ⟨hn b hb, (J'.ok.exf b hb).1, J'.ok.exfs b hb, .inl hb, fun x c e => (J'.ok.exf b hb).2 x c e, fun p hp => ?_⟩
    exact absurd (show p ∈ ([] : List (Addr × Obj)) ++ [] from hp) (by simp)
  suffices loop : codeAny (model X.prog X.w) X.A (.compLoop (.DictComp kx vx [⟨tg, iter, [], 0⟩] sc pos) 0 (.ref it) (.ref D) ce) (compPost (model X.prog X.w) X.A X.xe use Qf (.ref D) s3.heap.objs.size) s4 from codeAny_compStart_dict loop (T.self X.A 0 _ _ _ st4 loop)
  refine compLoop_anyD (fun n t => ∃ i G', Inv (X.blk s3 G3 sc ce fp) [] (wipe σ (own.map (·.2))) G' t ∧ tn i t.heap ∧ (∀ b ∈ fp, G' b = none) ∧ W i n G') (fun n s5 ⟨i, G5, I5, st5, n5, w5⟩ => ?_) m0 ⟨0, G3, I4, st4, none3, w0⟩
  rcases turn i n G5 w5 with ⟨stop, qq⟩ | ⟨go, Nx, hNx, step⟩
  · refine thnF (T.done (X.blk s3 G3 sc ce fp) rfl rfl rfl calm i [] s5 _ G5 (fun _ _ => False) I5 (fps I5 n5) st5 stop) fun r s6 ⟨er, I6⟩ => ?_
    subst er
    have I7 : Inv X pins σ G5 s6 := I3.call' (ch := fp) I6.os I6.base I6.hok I6.bare fun b hb => by
      obtain ⟨⟨_, a1, a2, a3, a4, a5⟩, _⟩ := f3 b hb
      exact ⟨a3, a1, a4, a5⟩
    have nC : G5 s3.heap.objs.size = none := by
      rw [← loc]
      exact I6.free
    obtain ⟨m, hm, _⟩ := I6.loc
    have hm : s6.heap.Ns ce.locals m := hm
    rw [loc] at hm
    exact out D _ s6 m G5 I7 qq hm (I3.fpOk (Nat.le_refl _) nC)
  · refine thnF (T.item (X.blk s3 G3 sc ce fp) rfl rfl rfl calm i [] s5 _ G5 (fun _ _ => False) I5 (fps I5 n5) st5 go) fun r s6 ⟨u, er, h6⟩ => ?_
    subst er
    refine thnF h6 fun _ s7 ⟨x, G7, I7, r7, y7, st7, n7⟩ => ?_
    refine thnF (qG.run _ s7 _ G7 x u _ (I7.pinned (fps I7 n7) (T.obj _ _ st7)) r7 (step x G7 y7)) fun _ s8 ⟨ρ, G8, I8, hw8, q8⟩ => ?_
    refine wpAny_pure ?_
    show wpAny _ _ _ _ _ _
    refine thnF (qK.run _ s8 ρ G8 _ I8 q8) fun kv s9 ⟨y, G9, I9, r9, q9⟩ => ?_
    refine thnF (qV.run _ s9 ρ G9 _ I9 q9) fun vv s10 h10 => ?_
    obtain ⟨z, G10, I10, r10, kvs, a, e, rfl, nN, he, pl, hl, nx⟩ := h10
    cases r9
    refine nd_dictSet (X := X.blk s3 G3 sc ce fp) hu I10 nN he pl r10 hl fun s11 I11 => ?_
    obtain ⟨m', hm, w'⟩ := hNx _ nx
    have pin' : ∀ b ∈ fp, ∀ o, s7.heap.get? b = some o → s11.heap.get? b = some o ∧ upd G10 D (ndO X.prog X.w D ((storeD kvs e a z).map kn)) b = none := fun b hb o e =>
      let c := I11.pin (b, o) (List.mem_append_right _ (List.mem_append_right _ (mem_pinsAt hb e)))
      ⟨c.1, c.2.1⟩
    refine ⟨m', hm, i + 1, _, (I11.unpinned (pins := [])).weak (by rw [← hw8, wipe_length]) (fun j v e => ?_), T.keep _ _ _ st7 fun b hb o e => (pin' b hb o e).1, fun b hb => ?_, w'⟩
    · rw [← hw8] at e
      exact (wipe_some e).1
    · obtain ⟨o, e, _⟩ := T.obj _ _ st7 b hb
      exact (pin' b hb o e).2
theorem pe_ndc {kx vx tg iter : Expr} {sc : Scope} {own : List (Str × Nat)} {pos : Pos} {wi : TI} {g : TG} {tk tv : TE} (hu : X.A.units + 8 < cLine) (calm : X.calm = true) (nd : X.N.Nodup) (it0 : PI X tg iter wi) (bk : BlkOk X.N X.env.scope sc own)
    (pG : InBlk X sc fun Y => PG Y tg g) (pK : InBlk X sc fun Y => PE Y kx tk) (pV : InBlk X sc fun Y => PE Y vx tv) (fold : ∀ x, foldedSetIterable iter X.env x = pure x := by intro _; rfl) :
    PE X (.DictComp kx vx [⟨tg, iter, [], 0⟩] sc pos) (tNdc X.prog X.w X.K wi g tk tv (own.map (·.2))) := by
  refine ⟨fun pins s σ H Q I h => ?_⟩
  rw [arm_eval_DictComp]
  refine ndc_core hu calm nd I it0 bk pG pK pV fold h fun D C t m G I' q hm f => ⟨m, hm, fun h2 sb => ?_⟩
  obtain ⟨f0, f1, f2, f3, f4, f5⟩ := f
  exact ⟨.ref D, G, I'.turned (t' := t.toks) (fun b o hb e => (sb.2 b hb).trans e) f0 f1 f3 f4 f5, rfl, q⟩
end
end ND

set_option Elab.async false
set_option linter.all false
set_option maxRecDepth 100000
set_option maxHeartbeats 4000000
/-! list(d), sorted(xs) of data -/
namespace ND
open PySem PySem.Spec PyProof.Rows L2
theorem rawSrc {prog : Program} {w : World} {d : Addr} {es : Array DictEntry} {ep : Nat} (lo : (d == sysModules) = false) : PySem.W.KdlSrc prog w "dict" d d es.size (fun i v => ∃ hi : i < es.size, v = es[i].key) (fun h => h.DictRaw d es ep) where
  type := fun _ m => m.typeIs
  there := fun h m => by
    obtain ⟨o, ho, _⟩ := m
    exact ⟨Heap.lt_size ho, Heap.lt_size ho⟩
  keep := fun h h' m k => m.at fun o e => k d (.inl rfl) o e
  notList := by decide
  notTuple := by decide
  hint := fun A E s Q m q => PySem.W.kdl_hint_dict m.typeIs q
  iter := fun A s hh m => by
    have lt : d < s.heap.objs.size := by
      obtain ⟨o, ho, _⟩ := m
      exact Heap.lt_size ho
    refine ⟨_, _, fun E Q q => wpAny_pyIter_dict_raw lo m q, Walks.rawKeys hh s.heap.objs.size d (Nat.ne_of_lt lt) es ep, ?_⟩
    exact ⟨⟨_, Heap.get?_push_size _ rfl, rfl, rfl⟩, m.at fun o e => Heap.get?_push_of_some _ e⟩
theorem refsVals : ∀ {l : List Addr} {us : List Value}, us.length = l.length → (∀ (j : Nat) (v : Value), us[j]? = some v → ∃ a, l[j]? = some a ∧ v = .ref a) → Vals (l.map V.ref) us
  | [], [], _, _ => .nil
  | a :: l, u :: us, hl, h => by
    obtain ⟨b, e, rfl⟩ := h 0 u rfl
    cases e
    exact .cons rfl (refsVals (by simpa using hl) fun j v e => by simpa using h (j + 1) v (by simpa using e))
  | [], _ :: _, hl, _ => by simp at hl
  | _ :: _, [], hl, _ => by simp at hl
section
variable {X : Cx}
/-- the keys that a walk over the dict gives -/
theorem keyVals {P : Program} {w : World} {kvs : List KvD} {h : Heap} {xs : List (NestedKey × Addr × Value)} {es : Array DictEntry} {acc : List Value} (pr : Paired rKv (kvs.map kn) xs) (hsz : es.size = xs.length) (hx : ∀ i (hi : i < es.size), ∃ y, xs[i]? = some y ∧ es[i].key = .ref y.2.1 ∧ es[i].val = y.2.2 ∧ (nestedKind P w).is h y.1 y.2.1)
    (hl : acc.length = es.size) (ha : ∀ (j : Nat) (v : Value), acc[j]? = some v → ∃ hi : j < es.size, v = es[j].key) : Vals (kvs.map fun q => V.ref q.2.1) acc := by
  have at1 : ∀ {ks : List KvN} {xs : List (NestedKey × Addr × Value)}, Paired rKv ks xs → ∀ (j : Nat) (y : NestedKey × Addr × Value), xs[j]? = some y → ∃ q, ks[j]? = some q ∧ q.2.1 = y.2.1 := by
    intro ks xs p
    induction p with
    | nil => intro j y e; cases j <;> cases e
    | cons h t ih =>
      intro j y e
      cases j with
      | zero => cases e; exact ⟨_, rfl, h.2.1⟩
      | succ j => exact ih j y (by simpa using e)
  have e : (kvs.map fun q => V.ref q.2.1) = (kvs.map fun q => q.2.1).map V.ref := by rw [List.map_map]; rfl
  rw [e]
  refine refsVals ?_ fun j v hv => ?_
  · have := pairedLen pr
    rw [List.length_map] at this ⊢
    omega
  · obtain ⟨hi, rfl⟩ := ha j v hv
    obtain ⟨y, e1, e2, _, _⟩ := hx j hi
    obtain ⟨q, e3, e4⟩ := at1 pr j y e1
    rw [List.getElem?_map] at e3
    cases e5 : kvs[j]? with
    | none => rw [e5] at e3; cases e3
    | some p =>
      rw [e5] at e3
      have e6 : kn p = q := Option.some.inj e3
      refine ⟨p.2.1, by rw [List.getElem?_map, e5]; rfl, ?_⟩
      rw [e2, ← e4, ← e6]
      rfl
theorem call_listN (calm : X.calm = true) : CallR X (.type "list") (fun xs H Q => ∃ (a : Addr) (kvs : List KvD), xs = [.ref a] ∧ Nd X.prog X.w X.K H a kvs ∧ ∀ p, H p = none → Q (.ref p) (upd H p (.lst (kvs.map fun q => .ref q.2.1)))) := by
  intro pins s σ H xs us Q I r q
  obtain ⟨a, kvs, rfl, n, q⟩ := q
  obtain ⟨u, rfl, rx⟩ := vals1 r
  cases rx
  obtain ⟨hz, lo, ys, pr, dd⟩ := n.heap I
  obtain ⟨es, ep, raw, hsz, hx⟩ := dd.raw
  have hy : ys.length = kvs.length := by
    have := pairedLen pr
    rw [List.length_map] at this
    omega
  refine PySem.W.kdl_call (rawSrc (es := es) (ep := ep) lo) (I.ok.hd calm) raw (by omega) fun h' tk acc c' hk hD hacc => ?_
  have hv := keyVals (acc := acc.toList) pr hsz hx (by rw [Array.length_toList]; exact hacc.1) fun j v e => hacc.2 j v (by rw [← Array.getElem?_toList]; exact e)
  refine ⟨.ref s.heap.objs.size, upd H s.heap.objs.size (.lst (kvs.map fun q => .ref q.2.1)), I.laid (t' := tk) hk (Nat.le_refl _) ?_, rfl, q _ (I.hok.fresh (Nat.le_refl _))⟩
  exact ⟨by rw [List.length_map]; exact hz, acc.toList, c', hv, by rw [Array.toArray_toList]; exact hD⟩
/-! ### sorted(xs), xs data -/
abbrev Bd := V × PyData
theorem valsEach : ∀ {bs : List Bd} {us : List Value}, Vals (bs.map (·.1)) us → PySem.W.EachIs (fun u (b : Bd) => RelV b.1 u) us bs
  | [], [], _ => .nil
  | b :: bs, u :: us, .cons r t => .cons r (valsEach t)
theorem eachVals : ∀ {bs : List Bd} {us : List Value}, PySem.W.EachIs (fun u (b : Bd) => RelV b.1 u) us bs → Vals (bs.map (·.1)) us
  | [], [], _ => .nil
  | b :: bs, u :: us, .cons r t => .cons r (eachVals t)
theorem eachReads {pins : List (Addr × Obj)} {σ : L2.St} {H : Hp} {s : Shared} (I : Inv X pins σ H s) : ∀ {bs : List Bd} {us : List Value}, (∀ b ∈ bs, Dp X.K H b.1 b.2) → Vals (bs.map (·.1)) us → PySem.W.EachIs (fun u (b : Bd) => ∃ as, Reads s.heap u b.2 as) us bs
  | [], [], _, _ => .nil
  | b :: bs, u :: us, h, .cons r t => .cons (Dp.reads I b.2 b.1 u (h b List.mem_cons_self) r) (eachReads I (fun c hc => h c (List.mem_cons_of_mem _ hc)) t)
def sortB (bs : List Bd) : List Bd := bs.mergeSort (PySem.W.dataLe false fun b : Bd => b.2)
def rSortedDt (K : PySem.W.Frag) : List V → Hp → VK → Prop := fun vs H Q => ∃ (a : Addr) (bs : List Bd), vs = [.ref a] ∧ SqL K H a (bs.map (·.1)) ∧ (∀ b ∈ bs, Dp K H b.1 b.2) ∧ PySem.W.AllAlike (bs.map (·.2)) ∧ PySem.W.Sortable (bs.map (·.2)) ∧ (∀ b ∈ bs, b.2.depth ≤ 8) ∧
  ∀ p, H p = none → Q (.ref p) (upd H p (.lst ((sortB bs).map (·.1))))
theorem cr_sortedDt (hu : X.A.units + 12 < cLine) : CallR X (.builtin "sorted") (rSortedDt X.K) := by
  intro pins s σ H vs us Q I r h
  obtain ⟨a, bs, rfl, hs, hd, al, so, dp, q⟩ := h
  obtain rfl := Vals.ref1 r
  obtain ⟨its, rv, hl, hz⟩ := I.list hs
  rw [List.length_map] at hz
  refine PySem.W.sorted_data (enc := fun b : Bd => b.2) (R := fun u (b : Bd) => RelV b.1 u) hl.isList (valsEach rv) (eachReads I hd rv) al so hz (fun b hb => by have := dp b hb; omega) fun out ol oe => ?_
  obtain ⟨ep, he⟩ := PyProof.Rows.sortedAll_at s.heap its (List.toArray out)
  refine ⟨.ref _, upd H (s.heap.objs.size + 1) (.lst ((sortB bs).map (·.1))), I.laid (t' := s.toks) (fun _ _ => PyProof.Rows.sortedAll_old) (Nat.le_succ _) ⟨?_, out, ep, eachVals oe, he⟩, rfl, q _ (I.hok.fresh (Nat.le_succ _))⟩
  rw [List.length_map]
  unfold sortB
  rw [List.length_mergeSort]
  exact hz
end
end ND

set_option Elab.async false
set_option linter.all false
set_option maxRecDepth 100000
set_option maxHeartbeats 4000000
/-! sorted(.., key=f), f a def of one's own: its calls may touch the slots of the frames that wait -/
namespace ND
open PySem PySem.W PySem.Calls PyProof.Rows
/-- all but a stands, of the frames fs all but the slots -/
def SkB (fs : List Addr) (a : Addr) (h h' : Heap) : Prop := ∀ b o, b ≠ a → h.get? b = some o → (b ∉ fs → h'.get? b = some o) ∧ ∃ sl, h'.get? b = some { o with slots := sl }
def Sk (fs : List Addr) (h h' : Heap) : Prop := ∀ b o, h.get? b = some o → (b ∉ fs → h'.get? b = some o) ∧ ∃ sl, h'.get? b = some { o with slots := sl }
theorem Sk.of {fs : List Addr} {h h' : Heap} (k : ∀ b o, h.get? b = some o → h'.get? b = some o) : Sk fs h h' := fun b o e => ⟨fun _ => k b o e, o.slots, k b o e⟩
theorem SkB.of {fs : List Addr} {a : Addr} {h h' : Heap} (k : ∀ b o, b ≠ a → h.get? b = some o → h'.get? b = some o) : SkB fs a h h' := fun b o n e => ⟨fun _ => k b o n e, o.slots, k b o n e⟩
theorem Sk.trans {fs : List Addr} {h h1 h2 : Heap} (x : Sk fs h h1) (y : Sk fs h1 h2) : Sk fs h h2 := fun b o e => by
  obtain ⟨k, sl, e1⟩ := x b o e
  obtain ⟨_, sl2, e2⟩ := y b _ e1
  exact ⟨fun nb => (y b o (k nb)).1 nb, sl2, e2⟩
theorem SkB.trans {fs : List Addr} {a : Addr} {h h1 h2 : Heap} (x : SkB fs a h h1) (y : Sk fs h1 h2) : SkB fs a h h2 := fun b o n e => by
  obtain ⟨k, sl, e1⟩ := x b o n e
  obtain ⟨_, sl2, e2⟩ := y b _ e1
  exact ⟨fun nb => (y b o (k nb)).1 nb, sl2, e2⟩
theorem SkB.but {fs : List Addr} {a c : Addr} {h h1 h2 : Heap} (x : SkB fs a h h1) (y : ∀ b o, b ≠ c → h1.get? b = some o → h2.get? b = some o) (hc : h.get? c = none ∨ c = a) : SkB fs a h h2 := fun b o n e => by
  have bc : b ≠ c := fun z => by
    rcases hc with hc | hc
    · rw [z, hc] at e; cases e
    · exact n (z.trans hc)
  obtain ⟨k, sl, e1⟩ := x b o n e
  exact ⟨fun nb => y b o bc (k nb), sl, y b _ bc e1⟩
/-- data without lists reads on while the tuples stand but for slots -/
theorem readsMv {h h' : Heap} (k : ∀ b o, h.get? b = some o → o.cls = .type "tuple" → ∃ sl, h'.get? b = some { o with slots := sl }) {n : Nat} {d : PyData} (pl : Pl n d) : ∀ (v : Value) (as : List Addr), Reads h v d as → Reads h' v d as := by
  induction pl with
  | non => intro v as r; cases r; exact .none
  | int => intro v as r; cases r; exact .int _ _
  | str => intro v as r; cases r; exact .str _ _
  | @tup n ds hd ih =>
    intro v as r
    cases r with
    | @tuple a o vs m xs as h1 h2 h3 h4 =>
      obtain ⟨sl, e⟩ := k _ _ h1 h2
      have all : ∀ (l : List PyData) (us : List Value) (as : List Addr), (∀ d ∈ l, ∀ (v : Value) (as : List Addr), Reads h v d as → Reads h' v d as) → ReadsAll h us l as → ReadsAll h' us l as := by
        intro l
        induction l with
        | nil => intro us as _ r; cases r; exact .nil
        | cons x l il =>
          intro us as hl r
          cases r with
          | cons r1 r2 => exact .cons (hl x List.mem_cons_self _ _ r1) (il _ _ (fun d hd => hl d (List.mem_cons_of_mem _ hd)) r2)
      exact .tuple e h2 h3 (all ds _ _ ih h4)
/-- a heap without the object at k -/
def gone (h : Heap) (k : Addr) : Heap := { h with objs := h.objs.setIfInBounds k { cls := .none, data := .freed } }
theorem gone_self (h : Heap) (k : Addr) : (gone h k).get? k = none := by
  unfold gone Heap.get?
  by_cases hk : k < h.objs.size
  · simp [hk]
  · simp [hk]
theorem gone_ne (h : Heap) {k b : Addr} (n : b ≠ k) : (gone h k).get? b = h.get? b := by
  unfold gone Heap.get?
  simp [Array.getElem?_setIfInBounds, Ne.symm n]
section
variable {prog : Program} {w : World} {A : Around} {E : Value → Shared → Prop} {s : Shared} {a kS : Addr} {vs : List Value} {kz : List PyData} {b : Bool} {f : Value} {e1 : Nat} {P : PySem.Fin → Shared → Prop} {fs : List Addr}
/-- what a call of f at k gives -/
def KeyAt (fs : List Addr) (s s0 : Shared) (k : PyData) (r : Value) (s1 : Shared) : Prop := s1.os = s.os ∧ AllBare s1.gens ∧ Sk fs s0.heap s1.heap ∧ Reads s1.heap r k []
theorem keyFold {h1 : Heap} (bare : AllBare s.gens) (sk : SkB fs a h1 s.heap) (hkS : h1.get? kS = none) (nk : s.heap.get? kS = some (seqObj "list" #[] 0)) (na : s.heap.get? a = some (seqObj "list" #[] e1)) (hka : kS ≠ a) (afs : a ∉ fs) (kfs : kS ∉ fs)
    (hlen : kz.length = vs.length) (hZ : vs.length ≤ sizeLine) (hal : AllAlike kz) (hsk : Sortable kz) (hpl : ∀ k ∈ kz, ∃ n, Pl n k) (hu : ∀ d, d ∈ kz → A.units + d.depth < cLine)
    (turn : ∀ (i : Nat) (v : Value) (k : PyData), vs[i]? = some v → kz[i]? = some k → ∀ s0 : Shared, s0.os = s.os → AllBare s0.gens → SkB fs a h1 s0.heap → wpAny (model prog w) A (call f [v]) (KeyAt fs s s0 k) (fun _ _ => False) s0)
    (fin : ∀ (s1 : Shared) (out : List Value) (c : Nat), s1.os = s.os → AllBare s1.gens → SkB fs a h1 s1.heap → s1.heap.get? a = some (seqObj "list" (List.toArray out) c) → KeyedOut b kz vs out → P (.done (.ret .none)) s1) :
    wpAny (model prog w) A (ksk_rest a f b vs.toArray e1 (.ref kS)) P E s := by
  unfold ksk_rest
  refine wpAny_bind (wpAny_rule ?_)
  first
    | rw [List.forIn_toArray]
    | (rw [← Array.forIn_toList]; simp only [List.toList_toArray])
  refine wpAny_bind (ksk_fold (fun i t => t.os = s.os ∧ AllBare t.gens ∧ SkB fs a h1 t.heap ∧ ∃ kA e, t.heap.get? kS = some (seqObj "list" kA e) ∧ t.heap.get? a = some (seqObj "list" #[] e1) ∧ EachIs (fun v k => Reads t.heap v k []) kA.toList (kz.take i)) vs 0 s
    ⟨rfl, bare, sk, #[], 0, nk, na, by rw [List.take_zero]; exact EachIs.nil⟩ (fun j x t hx inv => ?_) fun t inv => ?_)
  · obtain ⟨os, bg, kp, kA, e, nk', na', hk⟩ := inv
    simp only [Nat.zero_add] at hk ⊢
    have hj : j < vs.length := (List.getElem?_eq_some_iff.mp hx).1
    have hj2 : j < kz.length := by omega
    have hkj : kz[j]? = some kz[j] := List.getElem?_eq_getElem hj2
    have hz : kA.size ≤ vs.length := by
      have h1 := hk.length
      rw [Array.length_toList, List.length_take] at h1
      omega
    refine wpAny_bind (wpAny_attempt (wpAny_mono (turn j x kz[j] hx hkj t os bg kp) (fun v t2 he => ?_) fun _ _ hF => hF.elim))
    obtain ⟨os2, bg2, sk2, hr⟩ := he
    try dsimp only
    have nk2 : t2.heap.get? kS = some (seqObj "list" kA e) := (sk2 _ _ nk').1 kfs
    have na2 : t2.heap.get? a = some (seqObj "list" #[] e1) := (sk2 _ _ na').1 afs
    have sb := Heap.SameBut.update t2.heap kS (Obj.mapSeq (·.push v))
    obtain ⟨c2, hc2⟩ : ∃ c2, (t2.heap.update kS (Obj.mapSeq (·.push v))).get? kS = some (seqObj "list" (kA.push v) c2) := ⟨_, get?_update_seq nk2 (·.push v)⟩
    refine wpAny_bind (listUpdate_at nk2 rfl ?_ (Nat.le_trans hz hZ) (Nat.le_trans (Nat.le_of_eq (Array.size_push ..)) (Nat.succ_le_succ (Nat.le_trans hz hZ))))
    have stay : ∀ b o, b ≠ kS → t2.heap.get? b = some o → (t2.heap.update kS (Obj.mapSeq (·.push v))).get? b = some o := fun b o nb e => (sb.2 b nb).trans e
    have tupS : ∀ b o, t2.heap.get? b = some o → o.cls = .type "tuple" → ∃ sl, (t2.heap.update kS (Obj.mapSeq (·.push v))).get? b = some { o with slots := sl } := fun b o e ct => by
      refine ⟨o.slots, stay b o (fun z => ?_) e⟩
      rw [z, nk2] at e
      rw [← Option.some.inj e] at ct
      have c2 : Value.type "list" = Value.type "tuple" := ct
      injection c2 with c3
      exact absurd c3 (by decide)
    have all : ∀ k ∈ kz, ∀ u, Reads t2.heap u k [] → Reads (t2.heap.update kS (Obj.mapSeq (·.push v))) u k [] := fun k hk u r => (hpl k hk).elim fun n pl => readsMv tupS pl u [] r
    refine wpAny_pure ⟨rfl, os2, bg2, (kp.trans sk2).but stay (.inl hkS), kA.push v, c2, hc2, stay _ _ hka.symm na2, ?_⟩
    have ek : kz.take (j + 1) = kz.take j ++ [kz[j]] := by rw [List.take_add_one, hkj]; simp
    have ea : (kA.push v).toList = kA.toList ++ [v] := by simp
    rw [ea, ek]
    have old : ∀ {us : List Value} {ks : List PyData}, (∀ k ∈ ks, k ∈ kz) → EachIs (fun v k => Reads t.heap v k []) us ks → EachIs (fun u k => Reads (t2.heap.update kS (Obj.mapSeq (·.push v))) u k []) us ks := by
      intro us ks hm h
      induction h with
      | nil => exact .nil
      | cons r _ ih =>
        refine .cons ?_ (ih fun k hk => hm k (List.mem_cons_of_mem _ hk))
        have mk := hm _ List.mem_cons_self
        refine all _ mk _ ?_
        obtain ⟨n, pl⟩ := hpl _ mk
        exact readsMv (fun b o e _ => (sk2 b o e).2) pl _ [] r
    exact each_snoc (R := fun (u : Value) (d : PyData) => Reads (t2.heap.update kS (Obj.mapSeq (·.push v))) u d []) (all _ (List.getElem_mem hj2) _ hr) (old (fun k hk => List.mem_of_mem_take hk) hk)
  · obtain ⟨os, bg, kp, kA, e, nk', na', hk⟩ := inv
    have e3 : kz.take (0 + vs.length) = kz := List.take_of_length_le (by omega)
    rw [e3] at hk
    have hk2 : EachIs (fun v k => ∃ as, Reads t.heap v k as) kA.toList kz := hk.mono fun v k q => ⟨[], q⟩
    have hsz : kA.size = vs.length := by
      have h1 := hk2.length
      rw [Array.length_toList] at h1
      omega
    try dsimp only
    refine wpAny_bind (listItems_at nk' rfl ?_)
    refine keyH_end (s := t) (κ := dataKind t.heap kz) (h₁ := gone t.heap kS) (fun b o nb q => ?_) (gone_self _ _) nk' na' hka (SortsAt.data (s := t) hk2 hal hsk hu) hsz hZ fun h3 tk3 c k3 n3 => ?_
    · by_cases z : b = kS
      · rw [z, gone_self] at q; cases q
      · rw [gone_ne _ z] at q; exact q
    · refine fin { t with heap := h3, toks := tk3 } _ c os bg ?_ n3 ⟨t.heap, kA.toList, hal, rfl, hk2⟩
      intro b o nb q
      have nbk : b ≠ kS := fun z => by rw [z, hkS] at q; cases q
      obtain ⟨k, sl, q1⟩ := kp b o nb q
      refine ⟨fun nf => k3 b o nb (by rw [gone_ne _ nbk]; exact k nf), sl, k3 b _ nb (by rw [gone_ne _ nbk]; exact q1)⟩
theorem keyTree {n : Nat} (bare : AllBare s.gens) (ho : s.heap.get? a = some (seqObj "list" vs.toArray n)) (afs : a ∉ fs) (old : ∀ b ∈ fs, b < s.heap.objs.size) (hlen : kz.length = vs.length) (hZ : vs.length ≤ sizeLine) (hal : AllAlike kz) (hsk : Sortable kz) (hpl : ∀ k ∈ kz, ∃ n, Pl n k)
    (hu : ∀ d, d ∈ kz → A.units + d.depth < cLine)
    (turn : ∀ (i : Nat) (v : Value) (k : PyData), vs[i]? = some v → kz[i]? = some k → ∀ s0 : Shared, s0.os = s.os → AllBare s0.gens → SkB fs a s.heap s0.heap → wpAny (model prog w) A (call f [v]) (KeyAt fs s s0 k) (fun _ _ => False) s0)
    (fin : ∀ (s1 : Shared) (out : List Value) (c : Nat), s1.os = s.os → AllBare s1.gens → SkB fs a s.heap s1.heap → s1.heap.get? a = some (seqObj "list" (List.toArray out) c) → KeyedOut b kz vs out → P (.done (.ret .none)) s1) :
    wpAny (model prog w) A (ksk_tree a f b) P E s := by
  have lt : a < s.heap.objs.size := Heap.lt_size ho
  obtain ⟨e1, ho1⟩ : ∃ e1, (s.heap.update a (Obj.mapSeq fun _ => (#[] : Array Value))).get? a = some (seqObj "list" #[] e1) := ⟨_, get?_update_seq ho fun _ => #[]⟩
  have big : ((s.heap.update a (Obj.mapSeq fun _ => (#[] : Array Value))).push (seqObj "tuple" vs.toArray 0)).objs.size = s.heap.objs.size + 1 := by rw [size_push', Heap.size_update]
  unfold ksk_tree
  refine wpAny_bind (listItems_at ho rfl (wpAny_bind (listUpdate_at ho rfl ?_ (by rw [List.size_toArray]; exact hZ) (Nat.zero_le _))))
  refine wpAny_bind (seqEpoch_at ho1 rfl (wpAny_bind (wpAny_newTuple ?_ (by show vs.length ≤ _; exact hZ))))
  refine wpAny_bind (wpAny_newList (wpAny_holding ?_) (Nat.zero_le _))
  refine keyFold (s := { s with heap := sortingHeap s.heap a vs }) (h1 := s.heap) bare (SkB.of fun b o nb q => sortingHeap_old nb q) ?_ (Heap.get?_push_size _ rfl) (Heap.get?_push_of_some _ (Heap.get?_push_of_some _ ho1)) ?_ afs ?_ hlen hZ hal hsk hpl hu turn fin
  · exact Heap.get?_none_of_le (by rw [big]; exact Nat.le_succ _)
  · rw [big]; exact Nat.ne_of_gt (Nat.lt_succ_of_lt lt)
  · intro z
    have := old _ z
    rw [big] at this
    exact absurd (Nat.lt_of_succ_lt this) (Nat.lt_irrefl _)
end
end ND

set_option Elab.async false
set_option linter.all false
set_option maxRecDepth 100000
set_option maxHeartbeats 4000000
/-! sorted(d, key=f) over the layer: d a dict whose keys are data, f a def of one's own that looks at a key and gives data -/
namespace ND
open PySem PySem.Spec PyProof.Rows L2
/-- the tuples of H as they stand, all else unknown -/
def frzT (H : Hp) (h : Heap) : Hp := fun b => match H b with
  | some (.tup xs) => (h.get? b).map fun o => .frz o (.tup xs)
  | some (.frz o (.tup xs)) => some (.frz o (.tup xs))
  | _ => none
theorem frzT_some {H : Hp} {h : Heap} {b : Addr} {u : HO} (e : frzT H h b = some u) : ∃ o xs, u = .frz o (.tup xs) ∧ ((H b = some (.tup xs) ∧ h.get? b = some o) ∨ H b = some (.frz o (.tup xs))) := by
  unfold frzT at e
  split at e
  · next xs hb =>
    cases hg : h.get? b with
    | none => rw [hg] at e; cases e
    | some o =>
      rw [hg] at e
      exact ⟨o, xs, (Option.some.inj e).symm, .inl ⟨hb, rfl⟩⟩
  · next o xs hb => exact ⟨o, xs, (Option.some.inj e).symm, .inr hb⟩
  · cases e
theorem frzT_none {H : Hp} {h : Heap} {b : Addr} (e : H b = none) : frzT H h b = none := by
  unfold frzT
  rw [e]
section
variable {P : Program} {w : World} {H : Hp} {h : Heap}
theorem frzT_ok (hok : HOk P w H h) : HOk P w (frzT H h) h := fun b u e => by
  obtain ⟨o, xs, rfl, ⟨e1, e2⟩ | e1⟩ := frzT_some e
  · exact ⟨e2, hok b _ e1⟩
  · obtain ⟨q1, q2⟩ := hok b _ e1
    exact ⟨q1, q2⟩
theorem frzT_sq {K : PySem.W.Frag} (hok : HOk P w H h) {a : Addr} {xs : List V} (q : SqT K H a xs) : SqT K (frzT H h) a xs := by
  rcases q with (q | ⟨o, q⟩) | q
  · obtain ⟨_, _, _, o, ho, _⟩ := hok a _ q
    refine .inl (.inr ⟨o, ?_⟩)
    unfold frzT
    rw [q, ho]
    rfl
  · refine .inl (.inr ⟨o, ?_⟩)
    unfold frzT
    rw [q]
  · exact .inr q
end
theorem allSq {K : PySem.W.Frag} {H H' : Hp} : ∀ {ds : List PyData} {xs : List V}, (∀ d ∈ ds, ∀ v, Dp K H v d → Dp K H' v d) → DpAll K H xs ds → DpAll K H' xs ds
  | _, _, _, .nil => .nil
  | _, _, k, .cons h r => .cons (k _ List.mem_cons_self _ h) (allSq (fun d hd => k d (List.mem_cons_of_mem _ hd)) r)
theorem dpSq {K : PySem.W.Frag} {H H' : Hp} (k : ∀ a xs, SqT K H a xs → SqT K H' a xs) {n : Nat} {d : PyData} (o : Pl n d) : ∀ v, Dp K H v d → Dp K H' v d := by
  induction o with
  | non n => intro v h; cases h; exact .non
  | int n i => intro v h; cases h; exact .int _
  | str n z => intro v h; cases h; exact .str _
  | tup h ih =>
    intro v hv
    cases hv with
    | tup hx hd => exact .tup (k _ _ hx) (allSq ih hd)
/-- data of the layer reads, without an Inv -/
theorem readsOf {P : Program} {w : World} {K : PySem.W.Frag} {H : Hp} {h : Heap} (kin : K.In h) (hok : HOk P w H h) {n : Nat} {d : PyData} (pl : Pl n d) : ∀ (v : V) (u : Value), Dp K H v d → RelV v u → Reads h u d [] := by
  induction pl with
  | non => intro v u hd r; cases hd; cases r; exact .none
  | int n i => intro v u hd r; cases hd; obtain ⟨t, rfl⟩ := r; exact .int i t
  | str n z => intro v u hd r; cases hd; obtain ⟨t, rfl⟩ := r; exact .str z t
  | @tup n ds hl ih =>
    intro v u hd r
    cases hd with
    | @tup a xs _ hs ha =>
      cases r
      have tup : ∃ its : List Value, Vals xs its ∧ ∃ o n, h.get? a = some o ∧ o.cls = .type "tuple" ∧ o.data = .seq its.toArray n := by
        rcases hs with q | ⟨o, its, n, hk, hc, hs, hz, r⟩
        · obtain ⟨z, its, r, o, ho, hc, n, hd⟩ := q.ok hok
          exact ⟨its, r, o, n, ho, hc, hd⟩
        · exact ⟨its.toList, r, o, n, kin a o hk, hc, by simpa using hs⟩
      obtain ⟨its, rv, o, m, ho, hc, hdt⟩ := tup
      have all : ∀ (l : List PyData) (vs : List V) (us : List Value), (∀ d ∈ l, ∀ (v : V) (u : Value), Dp K H v d → RelV v u → Reads h u d []) → DpAll K H vs l → Vals vs us → ReadsAll h us l [] := by
        intro l
        induction l with
        | nil => intro vs us _ ha r; cases ha; cases r; exact .nil
        | cons x l il =>
          intro vs us hl ha r
          cases ha with
          | cons h1 h2 =>
            cases r with
            | cons r1 r2 => exact ReadsAll.cons (as := []) (bs := []) (hl x List.mem_cons_self _ _ h1 r1) (il _ _ (fun d hd => hl d (List.mem_cons_of_mem _ hd)) h2 r2)
      exact .tuple ho hc hdt (by simpa using all ds _ its ih ha rv)
/-- a look at data that gives data -/
def spKey (K : PySem.W.Frag) (p : PyData → Prop) (k : PyData → PyData) : Sp := fun vs H Q _ => ∃ v d, vs = [v] ∧ Dp K H v d ∧ p d ∧ ∀ r H', (∀ a o, H a = some o → H' a = some o) → Dp K H' r (k d) → Q r H'
section
variable {X : Cx} {pins : List (Addr × Obj)} {σ : L2.St} {H : Hp} {s : Shared}
/-- the frames that wait are no part of the base, the layer's heap -/
theorem baseFree (I : Inv X pins σ H s) {b : Addr} {o : Obj} (e : X.base.get? b = some o) : b ∉ frs X.stack := fun hb => by
  have := (I.stack.mem hb).1
  rw [e] at this
  cases this
theorem invAt (I : Inv X pins σ H s) {s0 : Shared} (os : s0.os = s.os) (bare : AllBare s0.gens) (sk : Sk (frs X.stack) s.heap s0.heap) : Inv X pins σ H s0 := by
  refine I.call' (ch := []) os ⟨fun b o e n nf _ => (sk b o e).1 nf, fun b o e n hf _ => (sk b o e).2, fun b o e n _ => n, fun b o e _ => ?_, fun _ _ e => e, fun _ _ _ e => e, fun b ps e => ⟨#[], by rw [Array.append_empty]; exact e⟩⟩ (fun a u e => ?_) bare (fun b z => absurd z (by simp))
  · obtain ⟨sl, q⟩ := (sk b o e).2
    exact ⟨_, q⟩
  · refine (I.hok a u e).stay (fun b q hb eb => (sk b q eb).1 fun z => ?_) (fun _ q => q) fun _ _ q => q
    have nb := I.stkFree b z
    rcases hb with rfl | hb
    · rw [e] at nb; cases nb
    · rw [hb] at nb; cases nb
theorem keyCall {P0 : Shared} {n m : Nat} {f : Addr} {fd : FuncData} {x : Str} {p : PyData → Prop} {k : PyData → PyData} (F : FnOk X.prog X.w X.K X.mg X.base CX0 n f fd [x] (spKey X.K p k)) (hr : Room n X.A.in1.in1) (hb : Binds X.K fd [x] []) (I : Inv X pins σ H s) (os : s.os = P0.os)
    {v : V} {u : Value} {d : PyData} (dp : Dp X.K H v d) (pl : Pl 8 d) (hp : p d) (pk : Pl m (k d)) (r : RelV v u) : wpAny (model X.prog X.w) X.A.in1.in1 (call (.ref f) [u]) (KeyAt (frs X.stack) P0 s (k d)) (fun _ _ => False) s := by
  have e0 := I.env0
  have ok := frzT_ok I.hok
  have env : Env0 X.prog X.w X.K X.mg X.base X.A.in1.in1 X.stack s (frzT H s.heap) := ⟨e0.frames, e0.mod, fun b o e => ⟨(e0.bs b o e).1, frzT_none (e0.bs b o e).2⟩, e0.bsz, e0.funs, fun b hb => frzT_none (e0.frf b hb), ok, e0.bare⟩
  have dp2 := dpSq (fun a xs q => frzT_sq (K := X.K) I.hok q) pl _ dp
  have run := F.run X.A.in1.in1 X.stack s (frzT H s.heap) ⟨[u], []⟩ [u] [v] (fun r H' => (∀ a o, frzT H s.heap a = some o → H' a = some o) ∧ Dp X.K H' r (k d)) (fun _ _ _ => False) hr env (hb s [u] I.kIn rfl) (.cons r .nil) ⟨v, d, rfl, dp2, hp, fun r H' same dr => ⟨same, dr⟩⟩
  refine wpAny_call (codeAny_mono run fun res s1 hq => ?_)
  cases res with
  | error e => exact False.elim hq
  | ok fl =>
    cases fl with
    | ret y =>
      obtain ⟨z, H', os1, bare, un, hok, rz, same, dz⟩ := hq
      have sk : Sk (frs X.stack) s.heap s1.heap := fun b o e => by
        cases hf : frzT H s.heap b with
        | none =>
          refine ⟨fun nf => un.keep b o e hf nf (by simp), ?_⟩
          by_cases hb : b ∈ frs X.stack
          · exact un.slot b o e hf hb (by simp)
          · exact ⟨o.slots, un.keep b o e hf hb (by simp)⟩
        | some q =>
          obtain ⟨o', xs, rfl, _⟩ := frzT_some hf
          have e1 := (hok b _ (un.frzs _ _ _ hf)).1
          have e2 := (ok b _ hf).1
          rw [e] at e2
          have e3 := Option.some.inj e2
          subst e3
          exact ⟨fun _ => e1, o.slots, e1⟩
      have kin : X.K.In s1.heap := fun a o hk => by
        have hbase := I.ok.mod.kin a o hk
        exact (sk a o (I.kIn a o hk)).1 (baseFree I hbase)
      exact ⟨os1.trans os, bare, sk, readsOf kin hok pk z y dz rz⟩
    | next => exact False.elim hq
    | brk => exact False.elim hq
    | cont => exact False.elim hq
end
end ND

set_option Elab.async false
set_option linter.all false
set_option maxRecDepth 100000
set_option maxHeartbeats 4000000
namespace ND
open PySem PySem.Spec PyProof.Rows L2
def sortK (k : PyData → PyData) (kvs : List KvD) : List KvD := kvs.mergeSort (PySem.W.dataLe false fun q : KvD => k q.1)
def rSortNK (P : Program) (w : World) (K : PySem.W.Frag) (f : Addr) (p : PyData → Prop) (k : PyData → PyData) : List V → List V → Hp → VK → Prop := fun vs zs H Q => ∃ (d : Addr) (kvs : List KvD), vs = [.ref d] ∧ zs = [.ref f] ∧ Nd P w K H d kvs ∧ (∀ q ∈ kvs, p q.1) ∧ (∀ q ∈ kvs, Pl 8 (k q.1)) ∧
  PySem.W.AllAlike (kvs.map fun q => k q.1) ∧ PySem.W.Sortable (kvs.map fun q => k q.1) ∧ ∀ l, H l = none → Q (.ref l) (upd H l (.lst ((sortK k kvs).map fun q => .ref q.2.1)))
theorem plDepth {n : Nat} {d : PyData} (h : Pl n d) : d.depth ≤ n := by
  induction h with
  | non => simp [PyData.depth]
  | int => simp [PyData.depth]
  | str => simp [PyData.depth]
  | @tup n ds h ih =>
    have all : ∀ l : List PyData, (∀ d ∈ l, d.depth ≤ n) → PyData.depthAll l ≤ n := by
      intro l
      induction l with
      | nil => intro _; simp [PyData.depthAll]
      | cons x l il =>
        intro hl
        have h1 := hl x List.mem_cons_self
        have h2 := il fun d hd => hl d (List.mem_cons_of_mem _ hd)
        simp only [PyData.depthAll]
        omega
    have := all ds ih
    simp only [PyData.depth]
    omega
theorem eachKv : ∀ {kvs : List KvD} {us : List Value}, Vals (kvs.map fun q => V.ref q.2.1) us → PySem.W.EachIs (fun u (q : KvD) => RelV (.ref q.2.1) u) us kvs
  | [], [], _ => .nil
  | q :: kvs, u :: us, .cons r t => .cons r (eachKv t)
theorem kvEach : ∀ {kvs : List KvD} {us : List Value}, PySem.W.EachIs (fun u (q : KvD) => RelV (.ref q.2.1) u) us kvs → Vals (kvs.map fun q => V.ref q.2.1) us
  | [], [], _ => .nil
  | q :: kvs, u :: us, .cons r t => .cons r (kvEach t)
theorem valsAt {α : Type} {g : α → V} : ∀ {l : List α} {us : List Value}, Vals (l.map g) us → ∀ (i : Nat) (v : Value), us[i]? = some v → ∃ q, l[i]? = some q ∧ RelV (g q) v
  | [], [], _, i, v, e => by cases i <;> cases e
  | q :: l, u :: us, .cons r t, 0, v, e => by cases e; exact ⟨q, rfl, r⟩
  | q :: l, u :: us, .cons r t, i + 1, v, e => valsAt t i v (by simpa using e)
theorem HOk_get {P : Program} {w : World} {H : Hp} {h : Heap} (hok : HOk P w H h) {a : Addr} {u : HO} (e : H a = some u) : ∃ o, h.get? a = some o := by
  have lt := hok.lt e
  by_cases hn : h.get? a = none
  · exact absurd (L2.HOk.gone hok hn) (by rw [e]; simp)
  · exact Option.ne_none_iff_exists'.mp hn
section
variable {X : Cx}
/-- a thing that came to be while all else stood -/
theorem layAt {pins : List (Addr × Obj)} {σ : L2.St} {H : Hp} {s s1 : Shared} {L : Addr} {o : HO} (I : Inv X pins σ H s) (os : s1.os = s.os) (bare : AllBare s1.gens) (sk : Sk (frs X.stack) s.heap s1.heap) (hn : s.heap.get? L = none) (Hn : H L = none) (new : ObjOk X.prog X.w (upd H L o) s1.heap L o) :
    Inv X pins σ (upd H L o) s1 := by
  have I1 := invAt I os bare sk
  have ne : ∀ {b : Addr} {u : HO}, H b = some u → b ≠ L := fun e z => by rw [z, Hn] at e; cases e
  refine I.call' (ch := []) os ⟨fun b q e n nf _ => (sk b q e).1 nf, fun b q e n hf _ => (sk b q e).2, fun b q e n _ => ?_, fun b q e _ => ?_, fun b xs e => by rw [upd_ne (ne e)]; exact e, fun b q u e => by rw [upd_ne (ne e)]; exact e, fun b ps e => ⟨#[], by rw [upd_ne (ne e), Array.append_empty]; exact e⟩⟩ (fun a u e => ?_) bare (fun b z => absurd z (by simp))
  · rw [upd_ne fun z => by rw [z, hn] at e; cases e]
    exact n
  · obtain ⟨sl, q1⟩ := (sk b q e).2
    exact ⟨_, q1⟩
  · by_cases z : a = L
    · subst z
      rw [upd_same] at e
      rw [← Option.some.inj e]
      exact new
    · rw [upd_ne z] at e
      exact (I1.hok a u e).stay (fun _ _ _ q => q) (fun b q => by rw [upd_ne (ne q)]; exact q) fun b xs q => by rw [upd_ne (ne q)]; exact q
theorem cr_sortedNK {n : Nat} {f : Addr} {fd : FuncData} {x : Str} {p : PyData → Prop} {k : PyData → PyData} (F : FnOk X.prog X.w X.K X.mg X.base CX0 n f fd [x] (spKey X.K p k)) (hr : Room (n + 2) X.A) (hb : Binds X.K fd [x] []) (hu : X.A.units + 12 < cLine) (calm : X.calm = true) :
    CallRK X (.builtin "sorted") [Str.ofString "key"] (rSortNK X.prog X.w X.K f p k) := by
  intro pins s σ H vs zs us ws Q I r rz h
  obtain ⟨d, kvs, rfl, rfl, nn, hp, pk, al, so, q⟩ := h
  obtain rfl := Vals.ref1 r
  obtain rfl := Vals.ref1 rz
  obtain ⟨hz, lo, ys, pr, dd⟩ := nn.heap I
  obtain ⟨es, ep, raw, hsz, hx⟩ := dd.raw
  have hy : ys.length = kvs.length := by
    have := pairedLen pr
    rw [List.length_map] at this
    omega
  show wpAny _ _ (call (.builtin "sorted") [.ref d] [(Str.ofString "key", .ref f)]) _ _ s
  refine PyProof.Rows.call_function_entry_kw PyProof.Rows.kind_sorted PyProof.Rows.plain_sorted PyProof.Rows.entry_sorted (PyProof.Rows.ksk_s1 _ _) ?_
  unfold Builtin.«sorted»
  refine wpAny_bind (m := checkCount "sorted" 1 1 _) (wpAny_pure ?_)
  refine wpAny_bind (PySem.W.kdu_collect (A := X.A.in1) (rawSrc (es := es) (ep := ep) lo) (I.ok.hd calm) raw (by omega) fun h' tk acc hk hacc => ?_)
  have hv := keyVals (acc := acc.toList) pr hsz hx (by rw [Array.length_toList]; exact hacc.1) fun j v e => hacc.2 j v (by rw [← Array.getElem?_toList]; exact e)
  have hal : acc.toList.length = kvs.length := by
    have := hv.length
    rw [List.length_map] at this
    exact this.symm
  refine wpAny_bind (wpAny_newList ?_ (by rw [hal]; exact hz))
  obtain ⟨L, hL⟩ : ∃ L, L = h'.objs.size := ⟨_, rfl⟩
  have hoL : (h'.push (seqObj "list" acc.toList.toArray 0)).get? L = some (seqObj "list" acc.toList.toArray 0) := by
    rw [hL]
    exact Heap.get?_push_size _ rfl
  have hLn : s.heap.get? L = none := by
    cases e : s.heap.get? L with
    | none => rfl
    | some o =>
      have := Heap.lt_size (hk _ _ e)
      exact absurd this (by rw [hL]; exact Nat.lt_irrefl _)
  have old : ∀ b ∈ frs X.stack, ∃ o, s.heap.get? b = some o := fun b hb => by
    obtain ⟨_, o, ho, _⟩ := I.stack.mem hb
    exact ⟨o, ho⟩
  have keepL : ∀ b o, s.heap.get? b = some o → (h'.push (seqObj "list" acc.toList.toArray 0)).get? b = some o := fun b o e => Heap.get?_push_of_some _ (hk b o e)
  show wpAny _ _ _ _ _ { s with heap := h'.push (seqObj "list" acc.toList.toArray 0), toks := tk }
  rw [← hL]
  refine wpAny_bind (wpAny_holding (PyProof.Rows.wpAny_call_entry_kw PyProof.Rows.slot_list_sort ⟨_, hoL, rfl⟩ PyProof.Rows.entry_list_sort ?_ (PyProof.Rows.ksk_l1 _ _)))
  show wpAny (model X.prog X.w) X.A.in1.in1 (Builtin.«list.sort» ⟨[.ref L], [(Str.ofString "key", .ref f)]⟩) _ _ _
  rw [PyProof.Rows.ksk_t1]
  refine keyTree (fs := frs X.stack) (kz := kvs.map fun q => k q.1) (s := { s with heap := h'.push (seqObj "list" acc.toList.toArray 0), toks := tk }) I.bare hoL (fun z => ?_) (fun b hb => ?_) (by rw [List.length_map]; exact hal.symm) (by rw [hal]; exact hz) al so (fun y hy => ?_) (fun y hy => ?_)
    (fun i v y hv1 hy1 s0 os bare sk => ?_) fun s1 out c os bare sk ho ko => ?_
  · obtain ⟨o, ho⟩ := old _ z
    rw [hLn] at ho
    cases ho
  · obtain ⟨o, ho⟩ := old _ hb
    exact Heap.lt_size (keepL _ _ ho)
  · obtain ⟨z, hz, rfl⟩ := List.mem_map.mp hy
    exact ⟨8, pk z hz⟩
  · obtain ⟨z, hz, rfl⟩ := List.mem_map.mp hy
    have := plDepth (pk z hz)
    show X.A.units + 1 + 1 + _ < _
    omega
  · obtain ⟨z, e1, rv⟩ := valsAt hv i v hv1
    rw [List.getElem?_map, e1] at hy1
    obtain rfl := Option.some.inj hy1
    have hm := List.mem_of_getElem? e1
    obtain ⟨pl, dp⟩ := nn.k z hm
    have I0 : Inv X pins σ H s0 := invAt I os bare fun b o e => sk b o (fun y => by rw [y, hLn] at e; cases e) (keepL b o e)
    exact keyCall F hr.in1.in1 hb I0 os dp pl (hp z hm) (pk z hm) rv
  · refine ⟨.none, rfl, wpAny_pure ⟨_, rfl, ?_⟩⟩
    have sk2 : Sk (frs X.stack) s.heap s1.heap := fun b o e => sk b o (fun y => by rw [y, hLn] at e; cases e) (keepL b o e)
    have I1 : Inv X pins σ H s1 := invAt I os bare sk2
    have each := PySem.W.keyedOut_each (bs := kvs) (R := fun u (q : KvD) => RelV (.ref q.2.1) u) (fun q => k q.1) ko (eachKv hv)
    have hv2 := kvEach each
    have HLn : H L = none := by
      cases e : H L with
      | none => rfl
      | some o =>
        obtain ⟨u, hu⟩ := HOk_get I.hok e
        rw [hLn] at hu
        cases hu
    refine ⟨.ref L, upd H L (.lst ((sortK k kvs).map fun q => .ref q.2.1)), layAt I os bare sk2 hLn HLn ⟨?_, out, c, hv2, ho⟩, rfl, q L HLn⟩
    rw [List.length_map]
    unfold sortK
    rw [List.length_mergeSort]
    exact hz
end
end ND

set_option Elab.async false
set_option linter.all false
set_option maxRecDepth 100000
set_option maxHeartbeats 4000000
/-! name = {k: v for ..} on one row -/
namespace ND
open PySem PySem.Spec PyProof.Rows L2
theorem swD {kx vx : Expr} {gs : List Comprehension} {sc : Scope} {pos py : Pos} {y : Str} {l : Nat} {env : Env} (h1 : env.scope.kind = .function) (h2 : env.scope.names.lookup y = some .local) (h3 : (py.line == pos.line) = true) (h4 : (sc.names.any fun (n, k) => n == y && (k == .local || k == .cell)) = false) :
    swapsWith (.DictComp kx vx gs sc pos) (some (.Name y py)) l env = pure true := by
  have b : env.blockKind = .function := by
    unfold Env.blockKind
    rw [h1] <;> rfl
  have c : env.kindOf y = some .local := h2
  unfold swapsWith
  simp only [b, c, h4, Expr.pos, h3]
  rfl
section
variable {X : Cx}
theorem ps_setNdc {i : Nat} {y : Str} {py : Pos} {kx vx tg iter : Expr} {sc : Scope} {own : List (Str × Nat)} {pos spos : Pos} {wi : TI} {g : TG} {tk tv : TE} (hu : X.A.units + 8 < cLine) (calm : X.calm = true) (nd : X.N.Nodup) (hy : X.N[i]? = some y) (loc : X.env.scope.names.lookup y = some .local)
    (sw : swapsWith (.DictComp kx vx [⟨tg, iter, [], 0⟩] sc pos) (some (.Name y py)) spos.line X.env = pure true) (it0 : PI X tg iter wi) (bk : BlkOk X.N X.env.scope sc own) (pG : InBlk X sc fun Y => PG Y tg g) (pK : InBlk X sc fun Y => PE Y kx tk) (pV : InBlk X sc fun Y => PE Y vx tv)
    (fold : ∀ x, foldedSetIterable iter X.env x = pure x := by intro _; rfl) : PS X (.Assign [.Name y py] (.DictComp kx vx [⟨tg, iter, [], 0⟩] sc pos) spos) (tAsg (tNdc X.prog X.w X.K wi g tk tv (own.map (·.2))) (gName i)) := by
  refine ⟨fun pins s σ H D I h => ?_⟩
  rw [exec_Assign_Name_used _ _ _ _ sw]
  refine wpAny_bind (wpAny_standAt (wpAny_bind ?_))
  show wpAny _ X.A (comprehension (.DictComp kx vx [⟨tg, iter, [], 0⟩] sc pos) sc X.env (firstIterPos [⟨tg, iter, [], 0⟩] pos) newDict false (eval iter X.env) (some (assign (.Name y py) X.env)) >>= fun _ => pure ()) _ _ s
  have q : tNdc X.prog X.w X.K wi g tk tv (own.map (·.2)) σ H (fun x T => gName i x σ T D.nx) := h
  refine wpAny_bind (thn (ndc_core (Qf := fun _ t => SP X pins D .next t) hu calm nd I it0 bk pG pK pV fold q fun L C t m G I' r hm f => ?_) fun _ t ht => wpAny_pure (wpAny_pure ht))
  show wpAny _ _ (assign (.Name y py) X.env (.ref L)) _ _ _
  refine wpAny_assign_Name (store_ok2 (v := V.ref L) I' nd hy (.inl loc) rfl (fun t2 I2 ⟨a, sb, ha⟩ => ?_) (.inr loc))
  obtain ⟨f0, f1, f2, f3, f4, f5⟩ := f
  have ne : C ≠ a := by
    rcases ha with z | z
    · exact fun e => f1 (e.trans z)
    · exact fun e => f4 y a z e.symm
  exact ⟨m, hm.sameBut sb ne, fun t3 sb3 => ⟨_, G, I2.turned (t' := t2.toks) (fun b o hb e => (sb3.2 b hb).trans e) f0 f1 f3 f4 f5, r⟩⟩
end
end ND

set_option Elab.async false
set_option linter.all false
set_option maxRecDepth 100000
set_option maxHeartbeats 4000000
/-! places: the record, its data, its two ranks -/
namespace PLC
open PySem PySem.Spec PyProof.Rows L2 ND
open PySem.W (dataLt dataLe alike alikeAll keyToksAll)
structure Pc where
  c : Str
  as : List Str
  rs : List (List (Option Str))
  n : Int
def ansD : Option Str → PyData
  | none => .none
  | some z => .str z
def rowD (r : List (Option Str)) : PyData := .tuple (r.map ansD)
def argsD (as : List Str) : PyData := .tuple (as.map .str)
def rowsD (rs : List (List (Option Str))) : PyData := .tuple (rs.map rowD)
def pcD (p : Pc) : PyData := .tuple [.str p.c, argsD p.as, rowsD p.rs, .int p.n]
def dot (z : Str) : Str := ("." : Str) ++ z
def rankA : Option Str → PyData
  | none => .str ""
  | some z => .str (dot z)
def lkA : Option Str → PyData
  | none => .tuple [.int 0, .str ""]
  | some z => .tuple [.int 1, .str z]
def rankRow (r : List (Option Str)) : PyData := .tuple (r.map rankA)
def lkRow (r : List (Option Str)) : PyData := .tuple (r.map lkA)
def rankP (p : Pc) : PyData := .tuple [.str p.c, argsD p.as, .tuple (p.rs.map rankRow), .int p.n]
def lkP (p : Pc) : PyData := .tuple [.str p.c, argsD p.as, .tuple (p.rs.map lkRow), .int p.n]
/-- the rank of data -/
def aRank : PyData → PyData
  | .none => .str ""
  | .str z => .str (dot z)
  | d => d
def rRank : PyData → PyData
  | .tuple xs => .tuple (xs.map aRank)
  | d => d
def rankD : PyData → PyData
  | .tuple [c, a, .tuple rs, n] => .tuple [c, a, .tuple (rs.map rRank), n]
  | d => d
theorem aRank_eq (a : Option Str) : aRank (ansD a) = rankA a := by cases a <;> rfl
theorem rRank_eq (r : List (Option Str)) : rRank (rowD r) = rankRow r := by
  show PyData.tuple ((r.map ansD).map aRank) = .tuple (r.map rankA)
  rw [List.map_map]
  congr 1
  exact List.map_congr_left fun a _ => aRank_eq a
theorem rankD_eq (p : Pc) : rankD (pcD p) = rankP p := by
  show PyData.tuple [.str p.c, argsD p.as, .tuple ((p.rs.map rowD).map rRank), .int p.n] = _
  rw [List.map_map]
  have e : p.rs.map (rRank ∘ rowD) = p.rs.map rankRow := List.map_congr_left fun r _ => rRank_eq r
  rw [e]
  rfl
/-! ### they are told apart by what they are -/
theorem ansD_inj {a b : Option Str} (h : ansD a = ansD b) : a = b := by
  cases a <;> cases b <;> simp [ansD] at h ⊢
  exact h
theorem mapInj {α β : Type} {f : α → β} (hf : ∀ {x y}, f x = f y → x = y) : ∀ {l r : List α}, l.map f = r.map f → l = r
  | [], [], _ => rfl
  | [], _ :: _, h => by simp at h
  | _ :: _, [], h => by simp at h
  | x :: l, y :: r, h => by
    simp only [List.map_cons, List.cons.injEq] at h
    rw [hf h.1, mapInj hf h.2]
theorem rowD_inj {a b : List (Option Str)} (h : rowD a = rowD b) : a = b := mapInj ansD_inj (PyData.tuple.inj h)
theorem lkA_inj {a b : Option Str} (h : lkA a = lkA b) : a = b := by
  cases a <;> cases b <;> simp [lkA] at h ⊢
  exact h
theorem lkRow_inj {a b : List (Option Str)} (h : lkRow a = lkRow b) : a = b := mapInj lkA_inj (PyData.tuple.inj h)
theorem argsD_inj {a b : List Str} (h : argsD a = argsD b) : a = b := mapInj (fun h => PyData.str.inj h) (PyData.tuple.inj h)
theorem pcD_inj {p q : Pc} (h : pcD p = pcD q) : p = q := by
  have h2 := PyData.tuple.inj h
  simp only [List.cons.injEq, and_true] at h2
  obtain ⟨h3, h4, h5, h6⟩ := h2
  cases p; cases q
  have a := PyData.str.inj h3
  have b := argsD_inj h4
  have c := mapInj rowD_inj (PyData.tuple.inj h5)
  have d := PyData.int.inj h6
  simp only at a b c d
  subst a b c d
  rfl
theorem lkP_inj {p q : Pc} (h : lkP p = lkP q) : p = q := by
  have h2 := PyData.tuple.inj h
  simp only [List.cons.injEq, and_true] at h2
  obtain ⟨h3, h4, h5, h6⟩ := h2
  cases p; cases q
  have a := PyData.str.inj h3
  have b := argsD_inj h4
  have c := mapInj lkRow_inj (PyData.tuple.inj h5)
  have d := PyData.int.inj h6
  simp only at a b c d
  subst a b c d
  rfl
/-! ### plain -/
theorem plAns (a : Option Str) : Pl 1 (ansD a) := by cases a; exact .non _; exact .str _ _
theorem plRow (r : List (Option Str)) : Pl 2 (rowD r) := .tup fun d hd => by obtain ⟨a, _, rfl⟩ := List.mem_map.mp hd; exact plAns a
theorem plArgs (as : List Str) : Pl 1 (argsD as) := .tup fun d hd => by obtain ⟨a, _, rfl⟩ := List.mem_map.mp hd; exact .str _ _
theorem plRows (rs : List (List (Option Str))) : Pl 3 (rowsD rs) := .tup fun d hd => by obtain ⟨a, _, rfl⟩ := List.mem_map.mp hd; exact plRow a
theorem plPc (p : Pc) : Pl 4 (pcD p) := .tup fun d hd => by
  simp only [List.mem_cons, List.not_mem_nil, or_false] at hd
  rcases hd with rfl | rfl | rfl | rfl
  · exact .str _ _
  · exact (plArgs _).up (by omega)
  · exact plRows _
  · exact .int _ _
theorem plRankA (a : Option Str) : Pl 1 (rankA a) := by
  cases a <;> exact .str _ _
theorem plRank (p : Pc) : Pl 4 (rankP p) := .tup fun d hd => by
  simp only [List.mem_cons, List.not_mem_nil, or_false] at hd
  rcases hd with rfl | rfl | rfl | rfl
  · exact .str _ _
  · exact (plArgs _).up (by omega)
  · exact .tup fun d hd => by
      obtain ⟨r, _, rfl⟩ := List.mem_map.mp hd
      exact .tup fun d hd => by obtain ⟨a, _, rfl⟩ := List.mem_map.mp hd; exact plRankA a
  · exact .int _ _
theorem plLkA (a : Option Str) : Pl 1 (lkA a) := by
  cases a <;> exact .tup fun d hd => by
    simp only [List.mem_cons, List.not_mem_nil, or_false] at hd
    rcases hd with rfl | rfl
    · exact .int _ _
    · exact .str _ _
theorem plLk (p : Pc) : Pl 4 (lkP p) := .tup fun d hd => by
  simp only [List.mem_cons, List.not_mem_nil, or_false] at hd
  rcases hd with rfl | rfl | rfl | rfl
  · exact .str _ _
  · exact (plArgs _).up (by omega)
  · exact .tup fun d hd => by
      obtain ⟨r, _, rfl⟩ := List.mem_map.mp hd
      exact .tup fun d hd => by obtain ⟨a, _, rfl⟩ := List.mem_map.mp hd; exact plLkA a
  · exact .int _ _
/-! ### the two orders are one -/
section
variable {α : Type} {f g : α → PyData}
theorem alikeMap (h : ∀ x y, alike (f x) (f y) = true) : ∀ xs ys : List α, alikeAll (xs.map f) (ys.map f) = true
  | [], _ => by simp [alikeAll]
  | _ :: _, [] => by simp [alikeAll]
  | x :: xs, y :: ys => by
    show alikeAll (f x :: xs.map f) (f y :: ys.map f) = true
    rw [alikeAll, h x y, alikeMap h xs ys]
    rfl
theorem eqvMap (h : ∀ x y, PyData.eqv (f x) (f y) = PyData.eqv (g x) (g y)) : ∀ xs ys : List α, PyData.eqvAll (xs.map f) (ys.map f) = PyData.eqvAll (xs.map g) (ys.map g)
  | [], [] => rfl
  | [], _ :: _ => by simp [PyData.eqvAll]
  | _ :: _, [] => by simp [PyData.eqvAll]
  | x :: xs, y :: ys => by
    show PyData.eqvAll (f x :: xs.map f) (f y :: ys.map f) = PyData.eqvAll (g x :: xs.map g) (g y :: ys.map g)
    rw [PySem.W.eqv_all_cons, PySem.W.eqv_all_cons, h x y, eqvMap h xs ys]
theorem ltMap (h1 : ∀ x y, alike (f x) (f y) = true) (h2 : ∀ x y, alike (g x) (g y) = true) (he : ∀ x y, PyData.eqv (f x) (f y) = PyData.eqv (g x) (g y)) (hl : ∀ x y, dataLt (f x) (f y) = dataLt (g x) (g y)) :
    ∀ xs ys : List α, PyProof.Rows.lexLt itemOrd (keyToksAll (xs.map f)) (keyToksAll (ys.map f)) = PyProof.Rows.lexLt itemOrd (keyToksAll (xs.map g)) (keyToksAll (ys.map g))
  | [], [] => rfl
  | [], y :: ys => by
    show PyProof.Rows.lexLt itemOrd (keyToksAll []) (keyToksAll (f y :: ys.map f)) = PyProof.Rows.lexLt itemOrd (keyToksAll []) (keyToksAll (g y :: ys.map g))
    simp only [keyToksAll]
    exact (PySem.W.lex_atom (by decide) _ _).trans (PySem.W.lex_atom (by decide) _ _).symm
  | x :: xs, [] => by
    show PyProof.Rows.lexLt itemOrd (keyToksAll (f x :: xs.map f)) (keyToksAll []) = PyProof.Rows.lexLt itemOrd (keyToksAll (g x :: xs.map g)) (keyToksAll [])
    simp only [keyToksAll]
    exact (PySem.W.lex_atom (by decide) _ _).trans (PySem.W.lex_atom (by decide) _ _).symm
  | x :: xs, y :: ys => by
    show PyProof.Rows.lexLt itemOrd (keyToksAll (f x :: xs.map f)) (keyToksAll (f y :: ys.map f)) = PyProof.Rows.lexLt itemOrd (keyToksAll (g x :: xs.map g)) (keyToksAll (g y :: ys.map g))
    rw [PySem.W.dataLt_cons (h1 x y), PySem.W.dataLt_cons (h2 x y), he x y, hl x y, ltMap h1 h2 he hl xs ys]
end
theorem irr (l : List PyData) : PyProof.Rows.lexLt itemOrd (keyToksAll l) (keyToksAll l) = false := PyProof.Rows.lex_irrefl _
theorem alRank (x y : Option Str) : alike (rankA x) (rankA y) = true := by cases x <;> cases y <;> simp [rankA, alike]
theorem dotL (z : Str) : (dot z).cps.toList = 46 :: z.cps.toList := by
  show ((#[46] : Array Nat) ++ z.cps).toList = _
  simp
theorem strIff (a b : Str) : a = b ↔ a.cps.toList = b.cps.toList := ⟨fun e => by rw [e], fun e => PySem.W.str_of_cps e⟩
theorem dotInj (a b : Str) : dot a = dot b ↔ a = b := by
  rw [strIff, strIff, dotL, dotL]
  simp
theorem dotNot (a : Str) : ("" : Str) ≠ dot a := fun e => by
  have := congrArg (fun z : Str => z.cps.toList) e
  rw [dotL] at this
  cases this
theorem alLk (x y : Option Str) : alike (lkA x) (lkA y) = true := by cases x <;> cases y <;> simp [lkA, alike, alikeAll]
theorem eqS (a b : Str) : PyData.eqv (.str a) (.str b) = decide (a = b) := by
  rw [PyData.eqv, Bool.eq_iff_iff, beq_iff_eq, decide_eq_true_eq]
theorem ltSelf (a b : Str) : (if PyData.eqv (.str a) (.str b) = true then false else dataLt (.str a) (.str b)) = dataLt (.str a) (.str b) := by
  rw [eqS]
  by_cases e : a = b
  · subst e
    rw [if_pos (decide_eq_true rfl), PySem.W.dataLt_str]
    exact (decide_eq_false (List.lt_irrefl _)).symm
  · rw [if_neg (by simp [e])]
theorem eqA (x y : Option Str) : PyData.eqv (rankA x) (rankA y) = PyData.eqv (lkA x) (lkA y) := by
  cases x <;> cases y
  · show PyData.eqv (.str "") (.str "") = PyData.eqv (.tuple [.int 0, .str ""]) (.tuple [.int 0, .str ""])
    simp [PyData.eqv, PyData.eqvAll]
  · next b =>
    show PyData.eqv (.str "") (.str (dot b)) = PyData.eqv (.tuple [.int 0, .str ""]) (.tuple [.int 1, .str b])
    rw [eqS, decide_eq_false (dotNot b)]
    simp [PyData.eqv, PyData.eqvAll]
  · next a =>
    show PyData.eqv (.str (dot a)) (.str "") = PyData.eqv (.tuple [.int 1, .str a]) (.tuple [.int 0, .str ""])
    rw [eqS, decide_eq_false (fun e => dotNot a e.symm)]
    simp [PyData.eqv, PyData.eqvAll]
  · next a b =>
    show PyData.eqv (.str (dot a)) (.str (dot b)) = PyData.eqv (.tuple [.int 1, .str a]) (.tuple [.int 1, .str b])
    rw [eqS, show decide (dot a = dot b) = decide (a = b) from decide_eq_decide.mpr (dotInj a b), ← eqS]
    simp [PyData.eqv, PyData.eqvAll]
theorem ltA (x y : Option Str) : dataLt (rankA x) (rankA y) = dataLt (lkA x) (lkA y) := by
  have e0 : alike (.int 0) (.int 0) = true := by simp [alike]
  have e1 : alike (.int 0) (.int 1) = true := by simp [alike]
  have e2 : alike (.int 1) (.int 0) = true := by simp [alike]
  have e3 : alike (.int 1) (.int 1) = true := by simp [alike]
  have es : ∀ a b : Str, alike (.str a) (.str b) = true := fun a b => by simp [alike]
  have n0 : (("" : Str).cps.toList) = [] := rfl
  cases x with
  | none =>
    cases y with
    | none =>
      show dataLt (.str "") (.str "") = dataLt (.tuple [.int 0, .str ""]) (.tuple [.int 0, .str ""])
      rw [PySem.W.dataLt_tuple, irr, PySem.W.dataLt_str, n0]
      rfl
    | some b =>
      show dataLt (.str "") (.str (dot b)) = dataLt (.tuple [.int 0, .str ""]) (.tuple [.int 1, .str b])
      rw [PySem.W.dataLt_pair e1 (es _ _), if_neg (by simp [PyData.eqv]), PySem.W.dataLt_int, PySem.W.dataLt_str, n0, dotL]
      rfl
  | some a =>
    cases y with
    | none =>
      show dataLt (.str (dot a)) (.str "") = dataLt (.tuple [.int 1, .str a]) (.tuple [.int 0, .str ""])
      rw [PySem.W.dataLt_pair e2 (es _ _), if_neg (by simp [PyData.eqv]), PySem.W.dataLt_int, PySem.W.dataLt_str, n0, dotL]
      rfl
    | some b =>
      show dataLt (.str (dot a)) (.str (dot b)) = dataLt (.tuple [.int 1, .str a]) (.tuple [.int 1, .str b])
      rw [PySem.W.dataLt_pair e3 (es _ _), if_pos (by simp [PyData.eqv]), ltSelf, PySem.W.dataLt_str, PySem.W.dataLt_str, dotL, dotL]
      refine decide_eq_decide.mpr ?_
      rw [List.cons_lt_cons_iff]
      simp
theorem lt4 {α : Type} {f g : α → PyData} (al1 : ∀ x y, alike (f x) (f y) = true) (al2 : ∀ x y, alike (g x) (g y) = true) (er : ∀ x y, PyData.eqv (f x) (f y) = PyData.eqv (g x) (g y)) (lr : ∀ x y, dataLt (f x) (f y) = dataLt (g x) (g y))
    (c d : Str) (as bs : List Str) (m n : Int) (xs ys : List α) : dataLt (.tuple [.str c, argsD as, .tuple (xs.map f), .int m]) (.tuple [.str d, argsD bs, .tuple (ys.map f), .int n]) = dataLt (.tuple [.str c, argsD as, .tuple (xs.map g), .int m]) (.tuple [.str d, argsD bs, .tuple (ys.map g), .int n]) := by
  have es : ∀ a b : Str, alike (.str a) (.str b) = true := fun a b => by simp [alike]
  have aa : alike (argsD as) (argsD bs) = true := by unfold argsD; rw [alike]; exact alikeMap es _ _
  have r1 : alike (.tuple (xs.map f)) (.tuple (ys.map f)) = true := by rw [alike]; exact alikeMap al1 _ _
  have r2 : alike (.tuple (xs.map g)) (.tuple (ys.map g)) = true := by rw [alike]; exact alikeMap al2 _ _
  have r3 : PyData.eqv (.tuple (xs.map f)) (.tuple (ys.map f)) = PyData.eqv (.tuple (xs.map g)) (.tuple (ys.map g)) := by rw [PyData.eqv, PyData.eqv]; exact eqvMap er _ _
  have r4 : dataLt (.tuple (xs.map f)) (.tuple (ys.map f)) = dataLt (.tuple (xs.map g)) (.tuple (ys.map g)) := by rw [PySem.W.dataLt_tuple, PySem.W.dataLt_tuple]; exact ltMap al1 al2 er lr _ _
  rw [PySem.W.dataLt_tuple, PySem.W.dataLt_tuple, PySem.W.dataLt_cons (es _ _), PySem.W.dataLt_cons (es _ _), PySem.W.dataLt_cons aa, PySem.W.dataLt_cons aa, PySem.W.dataLt_cons r1, PySem.W.dataLt_cons r2, r3, r4]
theorem ltP (p q : Pc) : dataLt (rankP p) (rankP q) = dataLt (lkP p) (lkP q) :=
  lt4 (fun x y => by unfold rankRow; rw [alike]; exact alikeMap alRank x y) (fun x y => by unfold lkRow; rw [alike]; exact alikeMap alLk x y) (fun x y => by unfold rankRow lkRow; rw [PyData.eqv, PyData.eqv]; exact eqvMap eqA x y)
    (fun x y => by unfold rankRow lkRow; rw [PySem.W.dataLt_tuple, PySem.W.dataLt_tuple]; exact ltMap alRank alLk eqA ltA x y) _ _ _ _ _ _ _ _
/-! ### where None is nowhere among the answers, the places themselves are compared -/
def noN (p : Pc) : Prop := ∀ r ∈ p.rs, none ∉ r
def sRow (r : List Str) : PyData := .tuple (r.map .str)
def lkS (z : Str) : PyData := .tuple [.int 1, .str z]
def lkSRow (r : List Str) : PyData := .tuple (r.map lkS)
theorem noneFree : ∀ {r : List (Option Str)}, none ∉ r → ∃ r' : List Str, r = r'.map some
  | [], _ => ⟨[], rfl⟩
  | none :: _, h => absurd List.mem_cons_self h
  | some z :: r, h => by
    obtain ⟨r', e⟩ := noneFree (r := r) fun y => h (List.mem_cons_of_mem _ y)
    exact ⟨z :: r', by rw [e]; rfl⟩
theorem noneFrees : ∀ {rs : List (List (Option Str))}, (∀ r ∈ rs, none ∉ r) → ∃ rs' : List (List Str), rs = rs'.map fun r => r.map some
  | [], _ => ⟨[], rfl⟩
  | r :: rs, h => by
    obtain ⟨r', e1⟩ := noneFree (h r List.mem_cons_self)
    obtain ⟨rs', e2⟩ := noneFrees (rs := rs) fun y hy => h y (List.mem_cons_of_mem _ hy)
    exact ⟨r' :: rs', by rw [e1, e2]; rfl⟩
theorem noNForm {p : Pc} (h : noN p) : ∃ rs' : List (List Str), pcD p = .tuple [.str p.c, argsD p.as, .tuple (rs'.map sRow), .int p.n] ∧ lkP p = .tuple [.str p.c, argsD p.as, .tuple (rs'.map lkSRow), .int p.n] := by
  obtain ⟨rs', e⟩ := noneFrees h
  refine ⟨rs', ?_, ?_⟩
  · have : p.rs.map rowD = rs'.map sRow := by
      rw [e, List.map_map]
      refine List.map_congr_left fun r _ => ?_
      show PyData.tuple ((r.map some).map ansD) = .tuple (r.map .str)
      rw [List.map_map]
      rfl
    show PyData.tuple [.str p.c, argsD p.as, .tuple (p.rs.map rowD), .int p.n] = _
    rw [this]
  · have : p.rs.map lkRow = rs'.map lkSRow := by
      rw [e, List.map_map]
      refine List.map_congr_left fun r _ => ?_
      show PyData.tuple ((r.map some).map lkA) = .tuple (r.map lkS)
      rw [List.map_map]
      rfl
    show PyData.tuple [.str p.c, argsD p.as, .tuple (p.rs.map lkRow), .int p.n] = _
    rw [this]
theorem alStr (x y : Str) : alike (.str x) (.str y) = true := by simp [alike]
theorem alLkS (x y : Str) : alike (lkS x) (lkS y) = true := by simp [lkS, alike, alikeAll]
theorem alSRow (x y : List Str) : alike (sRow x) (sRow y) = true := by unfold sRow; rw [alike]; exact alikeMap alStr x y
theorem eqLkS (x y : Str) : PyData.eqv (.str x) (.str y) = PyData.eqv (lkS x) (lkS y) := by simp [lkS, PyData.eqv, PyData.eqvAll]
theorem ltLkS (x y : Str) : dataLt (.str x) (.str y) = dataLt (lkS x) (lkS y) := by
  unfold lkS
  rw [PySem.W.dataLt_pair (by simp [alike]) (alStr _ _), if_pos (by simp [PyData.eqv]), ltSelf]
theorem ltN {p q : Pc} (hp : noN p) (hq : noN q) : dataLt (pcD p) (pcD q) = dataLt (lkP p) (lkP q) := by
  obtain ⟨r1, e1, e2⟩ := noNForm hp
  obtain ⟨r2, e3, e4⟩ := noNForm hq
  rw [e1, e2, e3, e4]
  exact lt4 alSRow (fun x y => by unfold lkSRow; rw [alike]; exact alikeMap alLkS x y) (fun x y => by unfold sRow lkSRow; rw [PyData.eqv, PyData.eqv]; exact eqvMap eqLkS x y)
    (fun x y => by unfold sRow lkSRow; rw [PySem.W.dataLt_tuple, PySem.W.dataLt_tuple]; exact ltMap alStr alLkS eqLkS ltLkS x y) _ _ _ _ _ _ _ _
theorem alN {p q : Pc} (hp : noN p) (hq : noN q) : alike (pcD p) (pcD q) = true := by
  obtain ⟨r1, e1, _⟩ := noNForm hp
  obtain ⟨r2, e3, _⟩ := noNForm hq
  have aa : alike (argsD p.as) (argsD q.as) = true := by unfold argsD; rw [alike]; exact alikeMap alStr _ _
  have a1 : alike (.tuple (r1.map sRow)) (.tuple (r2.map sRow)) = true := by rw [alike]; exact alikeMap alSRow _ _
  rw [e1, e3]
  simp only [alike, alikeAll, Bool.and_true, Bool.true_and]
  simp only [alike] at aa a1
  rw [Bool.and_eq_true]
  exact ⟨aa, a1⟩
theorem leP : dataLe false rankP = dataLe false lkP := by
  rw [PySem.W.dataLe_eq, PySem.W.dataLe_eq]
  funext a b
  show (!dataLt (rankP b) (rankP a)) = !dataLt (lkP b) (lkP a)
  rw [ltP]
theorem alRankP (p q : Pc) : alike (rankP p) (rankP q) = true := by
  have es : ∀ a b : Str, alike (.str a) (.str b) = true := fun a b => by simp [alike]
  have al1 : ∀ x y, alike (rankRow x) (rankRow y) = true := fun x y => by unfold rankRow; rw [alike]; exact alikeMap alRank x y
  have aa : alike (argsD p.as) (argsD q.as) = true := by unfold argsD; rw [alike]; exact alikeMap es _ _
  have r1 : alike (.tuple (p.rs.map rankRow)) (.tuple (q.rs.map rankRow)) = true := by rw [alike]; exact alikeMap al1 _ _
  unfold rankP
  simp only [alike, alikeAll, Bool.and_true, Bool.true_and]
  simp only [alike] at aa r1
  rw [Bool.and_eq_true]
  exact ⟨aa, r1⟩
theorem alLkP (p q : Pc) : alike (lkP p) (lkP q) = true := by
  have es : ∀ a b : Str, alike (.str a) (.str b) = true := fun a b => by simp [alike]
  have al1 : ∀ x y, alike (lkRow x) (lkRow y) = true := fun x y => by unfold lkRow; rw [alike]; exact alikeMap alLk x y
  have aa : alike (argsD p.as) (argsD q.as) = true := by unfold argsD; rw [alike]; exact alikeMap es _ _
  have r1 : alike (.tuple (p.rs.map lkRow)) (.tuple (q.rs.map lkRow)) = true := by rw [alike]; exact alikeMap al1 _ _
  unfold lkP
  simp only [alike, alikeAll, Bool.and_true, Bool.true_and]
  simp only [alike] at aa r1
  rw [Bool.and_eq_true]
  exact ⟨aa, r1⟩
/-- the places in order -/
def srt (D : List Pc) : List Pc := D.mergeSort (dataLe false lkP)
theorem sortOf {α : Type} {l : List α} {g : α → PyData} {D : List Pc} {k : Pc → PyData} {e : Pc → PyData} {r : PyData → PyData} (hg : l.map g = D.map e) (hr : ∀ p, r (e p) = k p) (hk : dataLe false k = dataLe false lkP) :
    (l.mergeSort (dataLe false fun x => r (g x))).map g = (srt D).map e := by
  have h1 : (l.mergeSort (dataLe false fun x => r (g x))).map g = (l.map g).mergeSort (dataLe false r) := List.map_mergeSort fun a _ b _ => by
    rw [PySem.W.dataLe_eq, PySem.W.dataLe_eq]
  have h2 : (D.mergeSort (dataLe false k)).map e = (D.map e).mergeSort (dataLe false r) := List.map_mergeSort fun a _ b _ => by
    rw [PySem.W.dataLe_eq, PySem.W.dataLe_eq]
    show cond false _ (!dataLt (k b) (k a)) = cond false _ (!dataLt (r (e b)) (r (e a)))
    rw [hr, hr]
  rw [h1, hg, ← h2, hk]
  rfl
theorem sortOfN {α : Type} {l : List α} {g : α → PyData} {D : List Pc} (hg : l.map g = D.map pcD) (hn : ∀ p ∈ D, noN p) : (l.mergeSort (dataLe false g)).map g = (srt D).map pcD := by
  have h1 : (l.mergeSort (dataLe false g)).map g = (l.map g).mergeSort (dataLe false id) := List.map_mergeSort fun a _ b _ => by
    rw [PySem.W.dataLe_eq, PySem.W.dataLe_eq]
    rfl
  have h2 : (srt D).map pcD = (D.map pcD).mergeSort (dataLe false id) := List.map_mergeSort fun a ha b hb => by
    rw [PySem.W.dataLe_eq, PySem.W.dataLe_eq]
    show (!dataLt (lkP b) (lkP a)) = !dataLt (pcD b) (pcD a)
    rw [ltN (hn b hb) (hn a ha)]
  rw [h1, hg, h2]
end PLC

set_option Elab.async false
set_option linter.all false
set_option maxRecDepth 100000
set_option maxHeartbeats 4000000
/-! places in the layer's heap -/
namespace PLC
open PySem PySem.Spec PyProof.Rows L2 ND KS KS.La
structure Ok (p : Pc) : Prop where
  c : TOk p.c
  as : ∀ a ∈ p.as, TOk a
  al : p.as.length ≤ 4
  rs : ∀ r ∈ p.rs, r.length ≤ 4 ∧ ∀ z, some z ∈ r → TOk z
  rl : p.rs.length ≤ 100
theorem TOk.odS {z : Str} (h : TOk z) : SOk z ∧ z.length ≤ 2000 := ⟨h.1, by have := h.2.1; omega⟩
theorem odAns {a : Option Str} (h : ∀ z, a = some z → TOk z) : Od 0 (ansD a) := by
  cases a with
  | none => exact .non _
  | some z => exact .str _ (TOk.odS (h z rfl)).1 (TOk.odS (h z rfl)).2
theorem odRow {r : List (Option Str)} (h : r.length ≤ 4 ∧ ∀ z, some z ∈ r → TOk z) : Od 1 (rowD r) := .tup (by rw [List.length_map]; omega) fun d hd => by
  obtain ⟨a, ha, rfl⟩ := List.mem_map.mp hd
  exact odAns fun z e => h.2 z (by rw [← e]; exact ha)
theorem odArgs {as : List Str} (h : ∀ a ∈ as, TOk a) (hl : as.length ≤ 100) : Od 1 (argsD as) := .tup (by rw [List.length_map]; exact hl) fun d hd => by
  obtain ⟨a, ha, rfl⟩ := List.mem_map.mp hd
  exact .str _ (TOk.odS (h a ha)).1 (TOk.odS (h a ha)).2
theorem odRows {rs : List (List (Option Str))} (h : ∀ r ∈ rs, r.length ≤ 4 ∧ ∀ z, some z ∈ r → TOk z) (hl : rs.length ≤ 100) : Od 2 (rowsD rs) := .tup (by rw [List.length_map]; exact hl) fun d hd => by
  obtain ⟨r, hr, rfl⟩ := List.mem_map.mp hd
  exact odRow (h r hr)
theorem odPc {p : Pc} (h : Ok p) : Od 3 (pcD p) := .tup (by show 4 ≤ 100; omega) fun d hd => by
  simp only [List.mem_cons, List.not_mem_nil, or_false] at hd
  rcases hd with rfl | rfl | rfl | rfl
  · exact .str _ (TOk.odS h.c).1 (TOk.odS h.c).2
  · exact (odArgs h.as (by have := h.al; omega)).up (by omega)
  · exact odRows h.rs h.rl
  · exact .int _ _
/-! ### == of plain data is being the same -/
theorem eqvPl {n : Nat} {d : PyData} (h : Pl n d) : ∀ {m : Nat} {e : PyData}, Pl m e → (PyData.eqv d e = true ↔ d = e) := by
  induction h with
  | non => intro m e he; cases he <;> simp [PyData.eqv]
  | int n i => intro m e he; cases he <;> simp [PyData.eqv]
  | str n z => intro m e he; cases he <;> simp [PyData.eqv]
  | @tup n ds h ih =>
    intro m e he
    cases he with
    | @tup m es he =>
      have all : ∀ (l r : List PyData), (∀ d ∈ l, ∀ {m : Nat} {e : PyData}, Pl m e → (PyData.eqv d e = true ↔ d = e)) → (∀ e ∈ r, Pl m e) → (PyData.eqvAll l r = true ↔ l = r) := by
        intro l
        induction l with
        | nil => intro r _ _; cases r <;> simp [PyData.eqvAll]
        | cons x l il =>
          intro r hl hr
          cases r with
          | nil => simp [PyData.eqvAll]
          | cons y r =>
            rw [PySem.W.eqv_all_cons, Bool.and_eq_true, hl x List.mem_cons_self (hr y List.mem_cons_self), il r (fun d hd => hl d (List.mem_cons_of_mem _ hd)) (fun e he => hr e (List.mem_cons_of_mem _ he)), List.cons.injEq]
      rw [PyData.eqv, all ds es ih he, PyData.tuple.injEq]
    | non => simp [PyData.eqv]
    | int => simp [PyData.eqv]
    | str => simp [PyData.eqv]
theorem eqArgs (a b : List Str) : PyData.eqv (argsD a) (argsD b) = decide (a = b) := by
  rw [Bool.eq_iff_iff, eqvPl (plArgs a) (plArgs b), decide_eq_true_eq]
  exact ⟨argsD_inj, fun h => by rw [h]⟩
theorem eqRows (a b : List (List (Option Str))) : PyData.eqv (rowsD a) (rowsD b) = decide (a = b) := by
  rw [Bool.eq_iff_iff, eqvPl (plRows a) (plRows b), decide_eq_true_eq]
  exact ⟨fun h => mapInj rowD_inj (PyData.tuple.inj h), fun h => by rw [h]⟩
theorem eqPc (a b : Pc) : PyData.eqv (pcD a) (pcD b) = true ↔ a = b := by
  rw [eqvPl (plPc a) (plPc b)]
  exact ⟨pcD_inj, fun h => by rw [h]⟩
/-! ### taking a place apart -/
section
variable {K : PySem.W.Frag} {H : Hp}
theorem dpStrs : ∀ {as : List Str} {xs : List V}, DpAll K H xs (as.map .str) → xs = as.map V.str
  | [], _, h => by cases h; rfl
  | a :: as, _, h => by
    cases h with
    | cons h1 h2 =>
      cases h1
      rw [dpStrs h2]
      rfl
theorem strsDp : ∀ (as : List Str), DpAll K H (as.map V.str) (as.map .str)
  | [] => .nil
  | a :: as => .cons (.str a) (strsDp as)
def vA : Option Str → V
  | none => .non
  | some z => .str z
theorem dpAns {a : Option Str} {v : V} (h : Dp K H v (ansD a)) : v = vA a := by
  cases a <;> cases h <;> rfl
theorem ansDp (a : Option Str) : Dp K H (vA a) (ansD a) := by
  cases a
  · exact .non
  · exact .str _
theorem dpRowA : ∀ {r : List (Option Str)} {xs : List V}, DpAll K H xs (r.map ansD) → xs = r.map vA
  | [], _, h => by cases h; rfl
  | a :: r, _, h => by
    cases h with
    | cons h1 h2 =>
      rw [dpAns h1, dpRowA h2]
      rfl
theorem rowADp : ∀ (r : List (Option Str)), DpAll K H (r.map vA) (r.map ansD)
  | [] => .nil
  | a :: r => .cons (ansDp a) (rowADp r)
theorem argsAt {v : V} {as : List Str} (h : Dp K H v (argsD as)) : ∃ b, v = .ref b ∧ SqT K H b (as.map V.str) := by
  cases h with
  | tup hs ha => exact ⟨_, rfl, by rw [← dpStrs ha]; exact hs⟩
theorem argsDp {b : Addr} {as : List Str} (h : SqT K H b (as.map V.str)) : Dp K H (.ref b) (argsD as) := .tup h (strsDp as)
theorem rowAt {v : V} {r : List (Option Str)} (h : Dp K H v (rowD r)) : ∃ b, v = .ref b ∧ SqT K H b (r.map vA) := by
  cases h with
  | tup hs ha => exact ⟨_, rfl, by rw [← dpRowA ha]; exact hs⟩
theorem rowDp {b : Addr} {r : List (Option Str)} (h : SqT K H b (r.map vA)) : Dp K H (.ref b) (rowD r) := .tup h (rowADp r)
theorem rowsAt {v : V} {rs : List (List (Option Str))} (h : Dp K H v (rowsD rs)) : ∃ b xs, v = .ref b ∧ SqT K H b xs ∧ DpAll K H xs (rs.map rowD) := by
  cases h with
  | tup hs ha => exact ⟨_, _, rfl, hs, ha⟩
theorem pcAt {v : V} {p : Pc} (h : Dp K H v (pcD p)) : ∃ a va vr, v = .ref a ∧ SqT K H a [.str p.c, va, vr, .int p.n] ∧ Dp K H va (argsD p.as) ∧ Dp K H vr (rowsD p.rs) := by
  cases h with
  | tup hs ha =>
    cases ha with
    | cons h1 r =>
      cases r with
      | cons h2 r =>
        cases r with
        | cons h3 r =>
          cases r with
          | cons h4 r =>
            cases r
            cases h1
            cases h4
            exact ⟨_, _, _, rfl, hs, h2, h3⟩
theorem pcMk {a : Addr} {p : Pc} {va vr : V} (hs : SqT K H a [.str p.c, va, vr, .int p.n]) (ha : Dp K H va (argsD p.as)) (hr : Dp K H vr (rowsD p.rs)) : Dp K H (.ref a) (pcD p) := .tup hs (.cons (.str _) (.cons ha (.cons hr (.cons (.int _) .nil))))
end
theorem TS.lst {H : Hp} {D : Addr} {xs : List V} {o : HO} (h : H D = some (.lst xs)) : TS H (upd H D o) := fun a u e t => by
  rw [upd_ne fun z => ?_]
  · exact e
  · rw [z, h] at e
    have e2 := Option.some.inj e
    rcases t with ⟨xs, rfl⟩ | ⟨p, xs, rfl⟩ <;> cases e2
theorem allPl {K : PySem.W.Frag} {H H' : Hp} {n : Nat} {ds : List PyData} {xs : List V} (pl : ∀ d ∈ ds, Pl n d) (k : TS H H') (h : DpAll K H xs ds) : DpAll K H' xs ds := allTS (fun d hd => dpTS k (pl d hd)) h
/-- [e for x in t], t a tuple: each item gives new data -/
theorem lcMapN {K : PySem.W.Frag} {a : Addr} {xs : List V} {ds : List PyData} {j n : Nat} {te : TE} {σ : L2.St} {H1 : Hp} {D : Addr} {Qd : Hp → Prop} (g : PyData → PyData) (ha : SqT K H1 a xs) (hx : DpAll K H1 xs ds) (pl : ∀ d ∈ ds, Pl n (g d)) (hn : ds.length ≤ 1000) (hD : H1 D = none) (hw : ∀ v, wipe ((wipe σ [j]).set j (some v)) [j] = wipe σ [j])
    (hs : ∀ v d H, d ∈ ds → Same H1 H → Dp K H v d → ∀ (R : VK), (∀ y H2, Same H H2 → Dp K H2 y (g d) → R y H2) → te ((wipe σ [j]).set j (some v)) H R)
    (hd : ∀ H ys, Same H1 H → H D = some (.lst ys) → DpAll K H ys (ds.map g) → Qd H) :
    ∃ W : Nat → Nat → Hp → Prop, (∃ m, W 0 m (upd H1 D (.lst []))) ∧ ∀ i m H, W i m H →
      ((Itt K a).stop i H ∧ Qd H) ∨ ((Itt K a).go i H ∧ ∃ Nx : Hp → Prop, (∀ H', Nx H' → ∃ m', m' < m ∧ W (i + 1) m' H') ∧ ∀ x H', (Itt K a).yld i H x H' → gName j x (wipe σ [j]) H' fun σ2 H2 => wipe σ2 [j] = wipe σ [j] ∧ tYes σ2 H2 fun b H3 =>
        if b = true then te σ2 H3 fun y H4 => ∃ acc, H4 D = some (.lst acc) ∧ acc.length < sizeLine ∧ Nx (upd H4 D (.lst (acc ++ [y]))) else Nx H3) := by
  have hl := dpLen hx
  refine lcJ (n := ds.length) (fun i H => ∃ ys, At H1 D ys H ∧ DpAll K H ys ((ds.take i).map g)) ⟨[], ⟨sameUpd hD, upd_same⟩, .nil⟩ (fun i H lt h => ⟨xs, xs[i], sameTup h.choose_spec.1.1 ha, List.getElem?_eq_getElem (by omega)⟩)
    (fun H h => ⟨xs, sameTup h.choose_spec.1.1 ha, by omega⟩) (fun i H x H' lt h y => ?_) (fun H h => ?_)
  · obtain ⟨ys, hat, hys⟩ := h
    obtain ⟨rfl, y⟩ := y
    have e := y xs (sameTup hat.1 ha)
    obtain ⟨v, h1, h2⟩ := dpAt hx (List.getElem?_eq_getElem lt)
    obtain rfl : v = x := Option.some.inj (h1.symm.trans e)
    refine ⟨hw v, ?_⟩
    unfold tYes
    dsimp only
    rw [if_pos rfl]
    refine hs v ds[i] _ (List.getElem_mem lt) hat.1 (dpSame hat.1 _ _ h2) _ fun z H2 s2 hz => ?_
    obtain ⟨e3, e4⟩ := hat.put (ys := ys ++ [z]) hD s2
    have hly := dpLen hys
    refine ⟨_, e3, ?_, _, e4, ?_⟩
    · rw [hly, List.length_map, List.length_take, sizeLine_eq]
      omega
    · rw [List.take_succ_eq_append_getElem lt, List.map_append]
      have t := TS.lst (o := .lst (ys ++ [z])) e3
      refine dpSnoc (dpTS t (pl _ (List.getElem_mem lt)) _ hz) (allPl (n := n) (fun d hd => ?_) t (dpAllSame s2 _ _ hys))
      obtain ⟨c, hc, rfl⟩ := List.mem_map.mp hd
      exact pl c (List.mem_of_mem_take hc)
  · obtain ⟨ys, hat, hys⟩ := h
    rw [List.take_length] at hys
    exact hd H ys hat.1 hat.2 hys
end PLC

set_option Elab.async false
set_option linter.all false
set_option maxRecDepth 100000
set_option maxHeartbeats 4000000
/-! trees as data, and what stands at a place of a run -/
namespace TRE
open PySem PySem.Spec PyProof.Rows L2 ND KS KS.La PLC
/-- a part of a text: a text, or an item of a row -/
inductive Pt
  | txt (z : Str)
  | itm (r i : Int)
inductive Tr
  | stop
  | wr (o : Str) (ps : List Pt) (next : Tr)
  | rd (ks : List (Str × Str)) (cs : List (List (Option Str) × Tr)) (last : Tr)
def ptD : Pt → PyData
  | .txt z => .str z
  | .itm r i => .tuple [.int r, .int i]
def kyD (k : Str × Str) : PyData := .tuple [.str k.1, .str k.2]
mutual
def trD : Tr → PyData
  | .stop => .tuple [.str "stop"]
  | .wr o ps n => .tuple [.str "write", .str o, .tuple (ps.map ptD), trD n]
  | .rd ks cs l => .tuple [.str "read", .tuple (ks.map kyD), .tuple (csD cs), trD l]
def csD : List (List (Option Str) × Tr) → List PyData
  | [] => []
  | (r, t) :: cs => .tuple [rowD r, trD t] :: csD cs
end
theorem csD_map : ∀ cs, csD cs = cs.map fun c => .tuple [rowD c.1, trD c.2]
  | [] => by rw [csD]; rfl
  | (r, t) :: cs => by rw [csD, csD_map cs]; rfl
/-- past the writes -/
def nextRead : Tr → Tr
  | .wr _ _ n => nextRead n
  | t => t
def wrs : Tr → Nat
  | .wr _ _ n => wrs n + 1
  | _ => 0
def pickC (r : List (Option Str)) : List (List (Option Str) × Tr) → Tr → Tr
  | [], l => l
  | (g, t) :: cs, l => if g = r then t else pickC r cs l
/-- the node behind a read -/
def after (r : List (Option Str)) : Tr → Tr
  | .rd _ cs l => pickC r cs l
  | t => t
/-- an item of a row, or nothing -/
def itemS (rows : List (List (Option Str))) (r i : Int) : Str :=
  if 0 ≤ r ∧ r < (rows.length : Int) then
    (if 0 ≤ i ∧ i < ((rows.getD r.toNat []).length : Int) then ((rows.getD r.toNat []).getD i.toNat none).getD "" else "")
  else ""
def pieceS (rows : List (List (Option Str))) : Pt → Str
  | .txt z => z
  | .itm r i => itemS rows r i
theorem argsRow (as : List Str) : argsD as = rowD (as.map some) := by
  show PyData.tuple (as.map .str) = .tuple ((as.map some).map ansD)
  rw [List.map_map]
  rfl
section
variable {K : PySem.W.Frag} {H : Hp}
theorem dpTup {v : V} {ds : List PyData} (h : Dp K H v (.tuple ds)) : ∃ a xs, v = .ref a ∧ SqT K H a xs ∧ DpAll K H xs ds := by
  cases h with
  | tup a b => exact ⟨_, _, rfl, a, b⟩
theorem dpOne {xs : List V} {d : PyData} (h : DpAll K H xs [d]) : ∃ y, xs = [y] ∧ Dp K H y d := by
  cases h with
  | cons a b => cases b; exact ⟨_, rfl, a⟩
theorem dpTwo {xs : List V} {d e : PyData} (h : DpAll K H xs [d, e]) : ∃ y z, xs = [y, z] ∧ Dp K H y d ∧ Dp K H z e := by
  cases h with
  | cons a b =>
    obtain ⟨z, rfl, c⟩ := dpOne b
    exact ⟨_, _, rfl, a, c⟩
theorem dpFour {xs : List V} {a b c d : PyData} (h : DpAll K H xs [a, b, c, d]) : ∃ x y z u, xs = [x, y, z, u] ∧ Dp K H x a ∧ Dp K H y b ∧ Dp K H z c ∧ Dp K H u d := by
  cases h with
  | cons h1 h2 =>
    cases h2 with
    | cons h2 h3 =>
      obtain ⟨z, u, rfl, h4, h5⟩ := dpTwo h3
      exact ⟨_, _, _, _, rfl, h1, h2, h4, h5⟩
theorem dpStr {v : V} {z : Str} (h : Dp K H v (.str z)) : v = .str z := by
  cases h
  rfl
theorem dpInt {v : V} {i : Int} (h : Dp K H v (.int i)) : v = .int i := by
  cases h
  rfl
theorem stopAt {v : V} (h : Dp K H v (trD .stop)) : ∃ a, v = .ref a ∧ SqT K H a [.str "stop"] := by
  rw [trD] at h
  obtain ⟨a, xs, rfl, hs, hx⟩ := dpTup h
  obtain ⟨y, rfl, hy⟩ := dpOne hx
  rw [dpStr hy] at hs
  exact ⟨a, rfl, hs⟩
theorem wrAt {v : V} {o : Str} {ps : List Pt} {n : Tr} (h : Dp K H v (trD (.wr o ps n))) : ∃ a vp vn, v = .ref a ∧ SqT K H a [.str "write", .str o, vp, vn] ∧ Dp K H vp (.tuple (ps.map ptD)) ∧ Dp K H vn (trD n) := by
  rw [trD] at h
  obtain ⟨a, xs, rfl, hs, hx⟩ := dpTup h
  obtain ⟨x, y, z, u, rfl, h1, h2, h3, h4⟩ := dpFour hx
  rw [dpStr h1, dpStr h2] at hs
  exact ⟨a, z, u, rfl, hs, h3, h4⟩
theorem rdAt {v : V} {ks : List (Str × Str)} {cs : List (List (Option Str) × Tr)} {l : Tr} (h : Dp K H v (trD (.rd ks cs l))) : ∃ a vk vc vl, v = .ref a ∧ SqT K H a [.str "read", vk, vc, vl] ∧ Dp K H vk (.tuple (ks.map kyD)) ∧ Dp K H vc (.tuple (csD cs)) ∧ Dp K H vl (trD l) := by
  rw [trD] at h
  obtain ⟨a, xs, rfl, hs, hx⟩ := dpTup h
  obtain ⟨x, y, z, u, rfl, h1, h2, h3, h4⟩ := dpFour hx
  rw [dpStr h1] at hs
  exact ⟨a, y, z, u, rfl, hs, h2, h3, h4⟩
/-- the node's word -/
def word : Tr → Str
  | .stop => "stop"
  | .wr _ _ _ => "write"
  | .rd _ _ _ => "read"
theorem headAt {v : V} {t : Tr} (h : Dp K H v (trD t)) : ∃ a xs, v = .ref a ∧ SqT K H a xs ∧ atI xs 0 = some (.str (word t)) := by
  cases t with
  | stop => obtain ⟨a, e, hs⟩ := stopAt h; exact ⟨a, _, e, hs, atI_nat (j := 0) rfl⟩
  | wr o ps n => obtain ⟨a, _, _, e, hs, _⟩ := wrAt h; exact ⟨a, _, e, hs, atI_nat (j := 0) rfl⟩
  | rd ks cs l => obtain ⟨a, _, _, _, e, hs, _⟩ := rdAt h; exact ⟨a, _, e, hs, atI_nat (j := 0) rfl⟩
end
theorem wordEq (s t : Str) : decide (V.str s = V.str t) = decide (s = t) := by
  by_cases h : s = t
  · rw [h, decide_eq_true rfl, decide_eq_true rfl]
  · rw [decide_eq_false h, decide_eq_false fun z => h (V.str.inj z)]
theorem ww : (decide (("write" : Str) = "write")) = true := by decide +kernel
theorem sw : (decide (("stop" : Str) = "write")) = false := by decide +kernel
theorem rw' : (decide (("read" : Str) = "write")) = false := by decide +kernel
theorem wr' : (decide (("write" : Str) = "read")) = false := by decide +kernel
theorem sr : (decide (("stop" : Str) = "read")) = false := by decide +kernel
theorem rr : (decide (("read" : Str) = "read")) = true := by decide +kernel
theorem ws : (decide (("write" : Str) = "stop")) = false := by decide +kernel
theorem ss : (decide (("stop" : Str) = "stop")) = true := by decide +kernel
section
variable {P : Program} {w : World} {K : PySem.W.Frag} {mg : Str → Option Value} {base : Heap} {f : Addr} {fd : FuncData}
theorem eqRow (a b : List (Option Str)) : PyData.eqv (rowD a) (rowD b) = decide (a = b) := by
  rw [Bool.eq_iff_iff, eqvPl (plRow a) (plRow b), decide_eq_true_eq]
  exact ⟨rowD_inj, fun h => by rw [h]⟩
end
end TRE

set_option Elab.async false
set_option linter.all false
set_option maxRecDepth 100000
set_option maxHeartbeats 4000000
namespace TRE
open PySem PySem.Spec PyProof.Rows L2 ND KS KS.La PLC
/-- the step at a node -/
def stepD (rows : List (List (Option Str))) : Tr → PyData
  | .stop => .tuple [.str "stop"]
  | .rd ks _ _ => .tuple [.str "read", .tuple (ks.map kyD)]
  | .wr o ps _ => if (Txt.join "" (ps.map (pieceS rows))).length ≤ 400 then .tuple [.str "write", .str o, .str (Txt.join "" (ps.map (pieceS rows)))] else .tuple [.str "stop"]
def PtOk : Pt → Prop
  | .txt z => TOk z
  | .itm _ _ => True
/-- the rows that parts are taken from -/
def RowsOk (rows : List (List (Option Str))) : Prop := ∀ r ∈ rows, ∀ z, some z ∈ r → TOk z
theorem tokEmpty : TOk "" := by decide +kernel
theorem itemTok {rows : List (List (Option Str))} (h : RowsOk rows) (r i : Int) : TOk (itemS rows r i) := by
  unfold itemS
  split
  · rename_i h1
    split
    · rename_i h2
      have l1 : r.toNat < rows.length := by omega
      have e1 : rows.getD r.toNat [] = rows[r.toNat] := by rw [List.getD_eq_getElem?_getD, List.getElem?_eq_getElem l1]; rfl
      rw [e1] at h2 ⊢
      have l2 : i.toNat < rows[r.toNat].length := by omega
      rw [List.getD_eq_getElem?_getD, List.getElem?_eq_getElem l2]
      show TOk ((rows[r.toNat][i.toNat]).getD "")
      cases e : rows[r.toNat][i.toNat] with
      | none => exact tokEmpty
      | some z => exact h _ (List.getElem_mem l1) z (by rw [← e]; exact List.getElem_mem l2)
    · exact tokEmpty
  · exact tokEmpty
theorem pieceTok {rows : List (List (Option Str))} (h : RowsOk rows) {p : Pt} (hp : PtOk p) : TOk (pieceS rows p) := by
  cases p with
  | txt z => exact hp
  | itm r i => exact itemTok h r i
section
variable {P : Program} {w : World} {K : PySem.W.Frag} {mg : Str → Option Value} {base : Heap} {f : Addr} {fd : FuncData}
def spPiece (K : PySem.W.Frag) : Sp := fun vs H Q _ => ∃ v u p rows, vs = [v, u] ∧ Dp K H v (ptD p) ∧ Dp K H u (.tuple (rows.map rowD)) ∧ RowsOk rows ∧ Q (.str (pieceS rows p)) H
abbrev nPiece : List Str := ["part", "rows", "row", "item"]
theorem scPiece : FnScope nPiece ["part", "rows"] (defScope sPiece) := ⟨rfl, rfl, rfl, by decide +kernel, rfl, by decide +kernel, by decide +kernel⟩
theorem okPiece {k : Nat} (F : FnP K "_piece" sPiece f fd) (B : Bn mg) : FnOk P w K mg base CX0 (k + 1) f fd ["part", "rows"] (spPiece K) := by
  refine F.ok scPiece (fun vs H Q E h => ?_) (fun cdv A outer s H vs Q E hr h => ?_)
  · obtain ⟨v, u, p, rows, rfl, _⟩ := h
    rfl
  · obtain ⟨v, u, p, rows, rfl, hd, hu, hok, q⟩ := h
    obtain ⟨b, xs, rfl, hb, hx⟩ := dpTup hu
    have lx := dpLen hx
    rw [List.length_map] at lx
    refine ⟨_, PSs.nox (pss_cons (ps_if (pt_val (pe_callB call_isi (by rfl) B.isi (by decide +kernel) (pa_cons (pv 0) (pa_cons (pe_bltn (v := .ty "str") (by rfl) B.str (by decide +kernel) rfl) pa_nil)))) (pss_one (ps_ret (pv 0))) pss_nil) (C8.pss_cut (ps_asg (pv 0) (pg_tup rfl (pgs_cons (pg_name (i := 2) scPiece.nd rfl (.inl rfl)) (pgs_cons (pg_name (i := 3) scPiece.nd rfl (.inl rfl)) pgs_nil)))) (pss_cons (ps_if (PW.pt (pw_or (pt_not (pt_chain op_le op_lt pe_int (pv 2) (pe_callB call_len_seq (by rfl) B.len PySem.boot_len (pa_cons (pv 1) pa_nil))))
        (pw_or1 (pt_not (pt_chain op_le op_lt pe_int (pv 3) (pe_callB call_len_seq (by rfl) B.len PySem.boot_len (pa_cons (pe_ix ix_tup (pv 1) (pv 2) (fun _ _ => rfl)) pa_nil))))))) (pss_one (ps_ret pe_str)) pss_nil) (pss_one (ps_ret (pe_orT (pe_ix ix_tup (pe_ix ix_tup (pv 1) (pv 2) (fun _ _ => rfl)) (pv 3) (fun _ _ => rfl)) (pe_one pe_str))))))), ?_⟩
    refine ⟨v, rfl, v, .ty "str", _, _, _, rfl, .ty _, dpTy hd, dpKit hd (.inr (.inl rfl)), _, rfl, ?_⟩
    cases p with
    | txt z =>
      cases hd
      exact iteT ⟨_, rfl, q⟩
    | itm r i =>
      have q' : Q (.str (itemS rows r i)) H := q
      refine iteF ?_
      obtain ⟨a, ys, rfl, ha, hy⟩ := dpTup hd
      obtain ⟨y, z, rfl, h1, h2⟩ := dpTwo hy
      obtain rfl := dpInt h1
      obtain rfl := dpInt h2
      refine ⟨fun σ' H' => σ' = [some (.ref a), some (.ref b), some (.int r), some (.int i)] ∧ H = H', ?_, ?_⟩
      · exact ⟨.ref a, rfl, a, _, rfl, ha, rfl, _, _, rfl, _, _, rfl, rfl, rfl, rfl⟩
      rintro _ _ ⟨rfl, rfl⟩
      refine ⟨.int r, rfl, 0, r, rfl, rfl, _, rfl, ?_⟩
      by_cases h0 : 0 ≤ r
      · rw [if_pos (decide_eq_true h0)]
        refine ⟨.ref b, rfl, b, xs, rfl, .inr hb, r, (xs.length : Int), rfl, rfl, _, rfl, ?_⟩
        by_cases h3 : r < (xs.length : Int)
        · rw [decide_eq_true h3]
          obtain ⟨j, rfl⟩ : ∃ j : Nat, r = (j : Int) := ⟨r.toNat, by omega⟩
          have hj : j < rows.length := by omega
          have er : (rows.map rowD)[j]? = some (rowD rows[j]) := by rw [List.getElem?_map, List.getElem?_eq_getElem hj]; rfl
          obtain ⟨v', e1, e2⟩ := dpAt hx er
          obtain ⟨c, rfl, hc⟩ := rowAt e2
          have ad : rows.getD j [] = rows[j] := by rw [List.getD_eq_getElem?_getD, List.getElem?_eq_getElem hj]; rfl
          refine iteF ⟨.int i, rfl, 0, i, rfl, rfl, _, rfl, ?_⟩
          by_cases h4 : 0 ≤ i
          · rw [if_pos (decide_eq_true h4)]
            refine ⟨.ref b, rfl, .int (j : Int), rfl, b, xs, (j : Int), .ref c, rfl, rfl, hb, atI_nat e1, c, _, rfl, .inr hc, i, _, rfl, rfl, _, rfl, ?_⟩
            rw [List.length_map]
            by_cases h5 : i < (rows[j].length : Int)
            · rw [decide_eq_true h5]
              obtain ⟨m, rfl⟩ : ∃ m : Nat, i = (m : Int) := ⟨i.toNat, by omega⟩
              have hm : m < rows[j].length := by omega
              have ei : (rows[j].map vA)[m]? = some (vA (rows[j][m])) := by rw [List.getElem?_map, List.getElem?_eq_getElem hm]; rfl
              refine iteF ⟨.ref b, rfl, .int (j : Int), rfl, b, xs, (j : Int), .ref c, rfl, rfl, hb, atI_nat e1, .int (m : Int), rfl, c, _, (m : Int), _, rfl, rfl, hc, atI_nat ei, ?_⟩
              have eS : itemS rows (j : Int) (m : Int) = (rows[j][m]).getD "" := by
                unfold itemS
                rw [if_pos ⟨h0, by omega⟩, Int.toNat_natCast, ad, if_pos ⟨h4, h5⟩, Int.toNat_natCast, List.getD_eq_getElem?_getD, List.getElem?_eq_getElem hm]
                rfl
              rw [eS] at q'
              cases eo : rows[j][m] with
              | none =>
                rw [eo] at q'
                exact ⟨false, rfl, iteF q'⟩
              | some z =>
                rw [eo] at q'
                have tz : TOk z := hok _ (List.getElem_mem hj) z (by rw [← eo]; exact List.getElem_mem hm)
                have tl : z.length ≤ 1000 := tz.2.1
                refine ⟨_, ⟨by rw [sizeLine_eq]; omega, rfl⟩, ?_⟩
                by_cases hz : (z.length : Int) = 0
                · have : ((z.length : Int) != 0) = false := by rw [hz]; rfl
                  rw [this]
                  have ez : z = "" := by
                    have h6 : z.cps.size = 0 := by
                      have : z.length = 0 := by omega
                      exact this
                    cases z with
                    | mk cps =>
                      have : cps = #[] := Array.eq_empty_of_size_eq_zero h6
                      rw [this]
                      rfl
                  rw [ez] at q'
                  exact iteF q'
                · have : ((z.length : Int) != 0) = true := by simpa using hz
                  rw [this]
                  exact iteT q'
            · rw [decide_eq_false h5]
              have eS : itemS rows (j : Int) i = "" := by
                unfold itemS
                rw [if_pos ⟨h0, by omega⟩, Int.toNat_natCast, ad, if_neg fun z => h5 z.2]
              rw [eS] at q'
              exact iteT q'
          · rw [if_neg (by rw [decide_eq_true_eq]; exact h4)]
            have eS : itemS rows (j : Int) i = "" := by
              unfold itemS
              rw [if_pos ⟨h0, by omega⟩, if_neg fun z => h4 z.1]
            rw [eS] at q'
            exact ⟨_, rfl, iteT q'⟩
        · rw [decide_eq_false h3]
          have eS : itemS rows r i = "" := by
            unfold itemS
            rw [if_neg fun z => h3 (by omega)]
          rw [eS] at q'
          exact iteT q'
      · rw [if_neg (by rw [decide_eq_true_eq]; exact h0)]
        have eS : itemS rows r i = "" := by
          unfold itemS
          rw [if_neg fun z => h0 z.1]
        rw [eS] at q'
        exact ⟨_, rfl, iteT q'⟩
def spStepOf (K : PySem.W.Frag) : Sp := fun vs H Q _ => ∃ v u t rows, vs = [v, u] ∧ Dp K H v (trD t) ∧ Dp K H u (.tuple (rows.map rowD)) ∧ RowsOk rows ∧ (∀ o ps n, t = .wr o ps n → ps.length ≤ 100 ∧ ∀ p ∈ ps, PtOk p) ∧ ∀ r H', Same H H' → Dp K H' r (stepD rows t) → Q r H'
abbrev nStepOf : List Str := ["node", "rows", "text", "part"]
theorem scStepOf : FnScope nStepOf ["node", "rows"] (defScope sStepOf) := ⟨rfl, rfl, rfl, by decide +kernel, rfl, by decide +kernel, by decide +kernel⟩
theorem okStepOf {k : Nat} {S : Addr} (F : FnP K "_step_of" sStepOf f fd) (B : Bn mg) (gT : IntG mg "LONGEST_TEXT" 400) (gS : mg "STOP" = some (.ref S)) (hS : ∀ H, SqT K H S [.str "stop"]) (Pc : Has P w K mg base (k + 1) "_piece" ["part", "rows"] (spPiece K)) : FnOk P w K mg base CX0 (k + 2) f fd ["node", "rows"] (spStepOf K) := by
  obtain ⟨fP, fdP, gP, kP, bP, GP⟩ := Pc.ex
  refine F.ok scStepOf (fun vs H Q E h => ?_) (fun cdv A outer s H vs Q E hr h => ?_)
  · obtain ⟨v, u, t, rows, rfl, _⟩ := h
    rfl
  · obtain ⟨v, u, t, rows, rfl, hd, hu, hok, hps, q⟩ := h
    refine ⟨_, PSs.nox (pss_cons (ps_if (pt_cmpR op_eq (pe_ix ix_tup (pv 0) pe_int (fun _ _ => rfl)) pe_str (nomark _)) (pss_one (ps_ret (pe_tup (pa_cons (pe_str) (pa_cons (pe_ix ix_tup (pv 0) pe_int (fun _ _ => rfl)) pa_nil))))) pss_nil) (pss_cons (ps_if (pt_cmpR op_eq (pe_ix ix_tup (pv 0) pe_int (fun _ _ => rfl)) pe_str (nomark _)) (pss_one (ps_ret (pe_glob (v := .ref S) (by rfl) gS rfl))) pss_nil) (pss_cons (ps_set (i := 2) scStepOf.nd rfl (.inl rfl) (pe_join pe_str (pe_lc (own := [("part", 3)]) (g := gName 3) rfl scStepOf.nd (pi_tup (pe_ix ix_tup (pv 0) pe_int (fun _ _ => rfl))) (blkOk_by (N := nStepOf) (sc := defScope sStepOf) (by decide +kernel))
        (fun _ _ _ _ _ => pg_name (i := 3) scStepOf.nd rfl (.inl rfl) (hf := .inr rfl)) (fun _ _ _ _ _ => pts_nil) (fun _ _ _ _ _ => pe_call GP hr (by rfl) gP kP bP .nil pass0 (pa_cons (pv 3) (pa_cons (pv 1) pa_nil)))))) (pss_cons (ps_if (pt_cmpR op_gt (pe_callB call_len_str (by rfl) B.len PySem.boot_len (pa_cons (pv 2) pa_nil)) (C8.pe_gc (by rfl) gT.gc) (nomark _)) (pss_one (ps_ret (pe_glob (v := .ref S) (by rfl) gS rfl))) pss_nil) (pss_one (ps_ret (pe_tup (pa_cons (pe_str) (pa_cons (pe_ix ix_tup (pv 0) pe_int (fun _ _ => rfl)) (pa_cons (pv 2) pa_nil)))))))))), ?_⟩
    have stp : ∀ H', Dp K H' (.ref S) (.tuple [.str "stop"]) := fun H' => .tup (hS H') (.cons (.str _) .nil)
    obtain ⟨a0, xs0, ev, hs0, h0⟩ := headAt hd
    subst ev
    refine ⟨.ref a0, rfl, a0, xs0, 0, .str (word t), rfl, rfl, hs0, h0, rfl, _, rfl, ?_⟩
    rw [wordEq]
    cases t with
    | stop =>
      rw [show word .stop = "stop" from rfl, sr]
      refine iteF ⟨.ref a0, rfl, a0, xs0, 0, .str "stop", rfl, rfl, hs0, h0, rfl, _, rfl, ?_⟩
      rw [wordEq, ss]
      exact iteT (q _ H (Same.refl H) (stp H))
    | rd ks cs l =>
      rw [show word (.rd ks cs l) = "read" from rfl, rr]
      obtain ⟨a2, vk, vc, vl, ea, hs2, hk, _⟩ := rdAt hd
      cases ea
      refine iteT ⟨.ref a0, rfl, a0, _, 1, vk, rfl, rfl, hs2, atI_nat (j := 1) rfl, (by show 2 ≤ sizeLine; decide), fun p hp => ?_⟩
      exact q _ _ (sameUpd hp) (.tup (.inl (.inl upd_same)) (.cons (.str _) (.cons (dpSame (sameUpd hp) _ _ hk) .nil)))
    | wr o ps n =>
      rw [show word (.wr o ps n) = "write" from rfl, wr']
      obtain ⟨a2, vp, vn, ea, hs2, hp2, _⟩ := wrAt hd
      cases ea
      obtain ⟨hl, hpt⟩ := hps o ps n rfl
      obtain ⟨b, xs, rfl, hb, hx⟩ := dpTup hp2
      have lx := dpLen hx
      rw [List.length_map] at lx
      refine iteF ⟨.ref a0, rfl, a0, xs0, 0, .str "write", rfl, rfl, hs0, h0, rfl, _, rfl, ?_⟩
      rw [wordEq, ws]
      refine iteF ⟨⟨_, rfl⟩, .ref a0, rfl, a0, _, 2, .ref b, rfl, rfl, hs2, atI_nat (j := 2) rfl, b, rfl, ⟨xs, hb⟩, fun D hD => ?_⟩
      refine lcJ (n := ps.length) (vs := [3]) (fun i H' => At H D ((ps.take i).map fun p => .str (pieceS rows p)) H') ⟨sameUpd hD, upd_same⟩ (fun i H' lt h => ⟨xs, xs[i], sameTup h.1 hb, List.getElem?_eq_getElem (by omega)⟩) (fun H' h => ⟨xs, sameTup h.1 hb, by omega⟩) (fun i H' x H2 lt h y => ?_) (fun H' h => ?_)
      · obtain ⟨rfl, y⟩ := y
        have ex := y xs (sameTup h.1 hb)
        have ep : (ps.map ptD)[i]? = some (ptD ps[i]) := by rw [List.getElem?_map, List.getElem?_eq_getElem lt]; rfl
        obtain ⟨v', e1, e2⟩ := dpAt hx ep
        obtain rfl : v' = x := Option.some.inj (e1.symm.trans ex)
        refine ⟨rfl, ?_⟩
        unfold tYes
        dsimp only
        rw [if_pos rfl]
        refine ⟨v', rfl, u, rfl, v', u, ps[i], rows, rfl, dpSame h.1 _ _ e2, dpSame h.1 _ _ hu, hok, ?_⟩
        obtain ⟨e3, e4⟩ := h.put (ys := (ps.take i).map (fun p => .str (pieceS rows p)) ++ [.str (pieceS rows ps[i])]) hD (Same.refl _)
        refine ⟨_, e3, by rw [List.length_map, List.length_take, sizeLine_eq]; omega, ?_⟩
        rw [List.take_succ_eq_append_getElem lt, List.map_append]
        exact e4
      · rw [List.take_length] at h
        have em : (ps.map fun p => V.str (pieceS rows p)) = (ps.map (pieceS rows)).map V.str := by rw [List.map_map]; rfl
        have hD2 := h.2
        rw [em] at hD2
        have tks : ∀ z ∈ ps.map (pieceS rows), TOk z := fun z hz => by
          obtain ⟨p, hp, rfl⟩ := List.mem_map.mp hz
          exact pieceTok hok (hpt p hp)
        have sum : ∀ l : List Str, (∀ z ∈ l, TOk z) → (l.map (·.length)).sum ≤ 1000 * l.length := by
          intro l
          induction l with
          | nil => intro _; exact Nat.zero_le _
          | cons z l ih =>
            intro hl
            have h1 := ih fun y hy => hl y (List.mem_cons_of_mem _ hy)
            have h2 : z.length ≤ 1000 := (hl z List.mem_cons_self).2.1
            rw [List.map_cons, List.sum_cons, List.length_cons]
            omega
        have hsum := sum _ tks
        have hlen : (ps.map (pieceS rows)).length ≤ 100 := by rw [List.length_map]; exact hl
        refine ⟨"", D, ps.map (pieceS rows), rfl, rfl, .inl (.inl (.inl hD2)), ?_, ?_⟩
        · have e0 : ("" : Str).length = 0 := by decide +kernel
          rw [e0]
          omega
        have hT : (Txt.join "" (ps.map (pieceS rows))).length ≤ sizeLine := by
          have h3 := StrLaws.join_length_le "" (ps.map (pieceS rows))
          have e0 : ("" : Str).length = 0 := by decide +kernel
          rw [e0] at h3
          rw [sizeLine_eq]
          have h4 : (Txt.join "" (ps.map (pieceS rows))).length ≤ ((ps.map (pieceS rows)).map (·.length)).sum + (ps.map (pieceS rows)).length * 0 := by
            rw [← StrLaws.glued_eq_join] at h3
            exact h3
          omega
        have hq : stepD rows (.wr o ps n) = if (Txt.join "" (ps.map (pieceS rows))).length ≤ 400 then .tuple [.str "write", .str o, .str (Txt.join "" (ps.map (pieceS rows)))] else .tuple [.str "stop"] := rfl
        rw [hq] at q
        generalize Txt.join "" (ps.map (pieceS rows)) = T at *
        refine ⟨.str T, rfl, T, rfl, hT, _, _, rfl, rfl, _, rfl, ite2 (fun e => ?_) (fun e => ?_)⟩
        · have e1 : (400 : Int) < (T.length : Int) := of_decide_eq_true e
          rw [if_neg (by omega)] at q
          exact q _ H' h.1 (stp H')
        · have e1 : ¬ (400 : Int) < (T.length : Int) := fun y => e (decide_eq_true y)
          rw [if_pos (by omega)] at q
          refine ⟨.ref a0, rfl, a0, _, 1, .str o, rfl, rfl, sameTup h.1 hs2, atI_nat (j := 1) rfl, .str T, rfl, (by show 3 ≤ sizeLine; decide), fun p hp => ?_⟩
          exact q _ _ (h.1.trans (sameUpd hp)) (.tup (.inl (.inl upd_same)) (.cons (.str _) (.cons (.str _) (.cons (.str _) .nil))))
end
end TRE

set_option Elab.async false
set_option linter.all false
set_option maxRecDepth 100000
set_option maxHeartbeats 4000000
namespace TRE
open PySem PySem.Spec PyProof.Rows L2 ND KS KS.La PLC
section
variable {P : Program} {w : World} {K : PySem.W.Frag} {mg : Str → Option Value} {base : Heap} {f : Addr} {fd : FuncData}
def spPieceL (K : PySem.W.Frag) : Sp := fun vs H Q _ => ∃ v b xs p rows, vs = [v, .ref b] ∧ Dp K H v (ptD p) ∧ SqL K H b xs ∧ DpAll K H xs (rows.map rowD) ∧ RowsOk rows ∧ Q (.str (pieceS rows p)) H
abbrev nPT : List Str := ["_law_part", "_law_rows", "_law_there"]
theorem scPT : FnScope nPT ["_law_part", "_law_rows"] (defScope lPartText) := ⟨rfl, rfl, rfl, by decide +kernel, rfl, by decide +kernel, by decide +kernel⟩
theorem okPartText {k : Nat} (F : FnP K "_law_part_text" lPartText f fd) (B : Bn mg) : FnOk P w K mg base CX0 (k + 1) f fd ["_law_part", "_law_rows"] (spPieceL K) := by
  refine F.ok scPT (fun vs H Q E h => ?_) (fun cdv A outer s H vs Q E hr h => ?_)
  · obtain ⟨v, b, xs, p, rows, rfl, _⟩ := h
    rfl
  · obtain ⟨v, b, xs, p, rows, rfl, hd, hb, hx, hok, q⟩ := h
    have lx := dpLen hx
    rw [List.length_map] at lx
    refine ⟨_, PSs.nox (pss_cons (ps_if (pt_val (pe_callB call_isi (by rfl) B.isi (by decide +kernel) (pa_cons (pv 0) (pa_cons (pe_bltn (v := .ty "str") (by rfl) B.str (by decide +kernel) rfl) pa_nil)))) (pss_one (ps_ret (pv 0))) pss_nil) (C8.pss_cut (ps_set (i := 2) scPT.nd rfl (.inl rfl) (pe_and (pe_chain op_le op_lt pe_int (pe_ix ix_tup (pv 0) pe_int (fun _ _ => rfl)) (pe_callB call_len_seq (by rfl) B.len PySem.boot_len (pa_cons (pv 1) pa_nil)))
        (pe_one (pe_chain op_le op_lt pe_int (pe_ix ix_tup (pv 0) pe_int (fun _ _ => rfl)) (pe_callB call_len_seq (by rfl) B.len PySem.boot_len (pa_cons (pe_ix ix_list (pv 1) (pe_ix ix_tup (pv 0) pe_int (fun _ _ => rfl)) (fun _ _ => rfl)) pa_nil)))))) (pss_one (ps_ret (pe_ifExp (pt_val (pv 2)) (pe_orT (pe_ix ix_tup (pe_ix ix_list (pv 1) (pe_ix ix_tup (pv 0) pe_int (fun _ _ => rfl)) (fun _ _ => rfl)) (pe_ix ix_tup (pv 0) pe_int (fun _ _ => rfl)) (fun _ _ => rfl)) (pe_one pe_str)) pe_str))))), ?_⟩
    refine ⟨v, rfl, v, .ty "str", _, _, _, rfl, .ty _, dpTy hd, dpKit hd (.inr (.inl rfl)), _, rfl, ?_⟩
    cases p with
    | txt z =>
      cases hd
      exact iteT ⟨_, rfl, q⟩
    | itm r i =>
      have q' : Q (.str (itemS rows r i)) H := q
      refine iteF ?_
      obtain ⟨a, ys, rfl, ha, hy⟩ := dpTup hd
      obtain ⟨y, z, rfl, h1, h2⟩ := dpTwo hy
      obtain rfl := dpInt h1
      obtain rfl := dpInt h2
      have at0 : atI [V.int r, V.int i] 0 = some (.int r) := atI_nat (j := 0) rfl
      have at1 : atI [V.int r, V.int i] 1 = some (.int i) := atI_nat (j := 1) rfl
      refine ⟨fun σ' H' => ∃ t : Bool, σ' = [some (.ref a), some (.ref b), some (.bl t)] ∧ H = H' ∧ (t = true ↔ (0 ≤ r ∧ r < (rows.length : Int)) ∧ 0 ≤ i ∧ i < ((rows.getD r.toNat []).length : Int)), ?_, ?_⟩
      · refine ⟨.ref a, rfl, a, _, 0, .int r, rfl, rfl, ha, at0, 0, r, rfl, rfl, _, rfl, ?_⟩
        by_cases h0 : 0 ≤ r
        · rw [if_pos (decide_eq_true h0)]
          refine ⟨.ref b, rfl, b, xs, rfl, .inl hb, r, (xs.length : Int), rfl, rfl, _, rfl, ?_⟩
          by_cases h3 : r < (xs.length : Int)
          · rw [decide_eq_true h3]
            obtain ⟨j, rfl⟩ : ∃ j : Nat, r = (j : Int) := ⟨r.toNat, by omega⟩
            have hj : j < rows.length := by omega
            have er : (rows.map rowD)[j]? = some (rowD rows[j]) := by rw [List.getElem?_map, List.getElem?_eq_getElem hj]; rfl
            obtain ⟨v', e1, e2⟩ := dpAt hx er
            obtain ⟨c, rfl, hc⟩ := rowAt e2
            have ad : rows.getD (j : Int).toNat [] = rows[j] := by rw [Int.toNat_natCast, List.getD_eq_getElem?_getD, List.getElem?_eq_getElem hj]; rfl
            rw [ad]
            refine iteT ⟨.ref a, rfl, a, _, 1, .int i, rfl, rfl, ha, at1, 0, i, rfl, rfl, _, rfl, ?_⟩
            by_cases h4 : 0 ≤ i
            · rw [if_pos (decide_eq_true h4)]
              refine ⟨.ref b, rfl, .ref a, rfl, a, _, 0, .int (j : Int), rfl, rfl, ha, at0, b, xs, (j : Int), .ref c, rfl, rfl, hb, atI_nat e1, c, _, rfl, .inr hc, i, _, rfl, rfl, _, rfl, rfl, ?_⟩
              rw [List.length_map, decide_eq_true_eq]
              exact ⟨fun h5 => ⟨⟨h0, by omega⟩, h4, h5⟩, fun h5 => h5.2.2⟩
            · rw [if_neg (by rw [decide_eq_true_eq]; exact h4)]
              exact ⟨_, rfl, rfl, ⟨fun z => absurd z Bool.false_ne_true, fun z => absurd z.2.1 h4⟩⟩
          · rw [decide_eq_false h3]
            exact iteF ⟨_, rfl, rfl, ⟨fun z => absurd z Bool.false_ne_true, fun z => absurd z.1.2 (by omega)⟩⟩
        · rw [if_neg (by rw [decide_eq_true_eq]; exact h0)]
          exact ⟨_, rfl, iteF ⟨_, rfl, rfl, ⟨fun z => absurd z Bool.false_ne_true, fun z => absurd z.1.1 h0⟩⟩⟩
      rintro _ _ ⟨t, rfl, rfl, ht⟩
      refine ⟨.bl t, rfl, _, rfl, ?_⟩
      cases t with
      | false =>
        have eS : itemS rows r i = "" := by
          have no := fun z => Bool.false_ne_true (ht.mpr z)
          unfold itemS
          by_cases h1 : 0 ≤ r ∧ r < (rows.length : Int)
          · rw [if_pos h1]
            by_cases h2 : 0 ≤ i ∧ i < ((rows.getD r.toNat []).length : Int)
            · exact absurd ⟨h1, h2⟩ no
            · rw [if_neg h2]
          · rw [if_neg h1]
        rw [eS] at q'
        exact iteF q'
      | true =>
        obtain ⟨⟨h0, h3⟩, h4, h5⟩ := ht.mp rfl
        obtain ⟨j, rfl⟩ : ∃ j : Nat, r = (j : Int) := ⟨r.toNat, by omega⟩
        have hj : j < rows.length := by omega
        have er : (rows.map rowD)[j]? = some (rowD rows[j]) := by rw [List.getElem?_map, List.getElem?_eq_getElem hj]; rfl
        obtain ⟨v', e1, e2⟩ := dpAt hx er
        obtain ⟨c, rfl, hc⟩ := rowAt e2
        have ad : rows.getD (j : Int).toNat [] = rows[j] := by rw [Int.toNat_natCast, List.getD_eq_getElem?_getD, List.getElem?_eq_getElem hj]; rfl
        rw [ad] at h5
        obtain ⟨m, rfl⟩ : ∃ m : Nat, i = (m : Int) := ⟨i.toNat, by omega⟩
        have hm : m < rows[j].length := by omega
        have ei : (rows[j].map vA)[m]? = some (vA (rows[j][m])) := by rw [List.getElem?_map, List.getElem?_eq_getElem hm]; rfl
        refine iteT ⟨.ref b, rfl, .ref a, rfl, a, _, 0, .int (j : Int), rfl, rfl, ha, at0, b, xs, (j : Int), .ref c, rfl, rfl, hb, atI_nat e1, .ref a, rfl, a, _, 1, .int (m : Int), rfl, rfl, ha, at1, c, _, (m : Int), _, rfl, rfl, hc, atI_nat ei, ?_⟩
        have eS : itemS rows (j : Int) (m : Int) = (rows[j][m]).getD "" := by
          unfold itemS
          rw [if_pos ⟨h0, h3⟩, ad, if_pos ⟨h4, h5⟩, Int.toNat_natCast, List.getD_eq_getElem?_getD, List.getElem?_eq_getElem hm]
          rfl
        rw [eS] at q'
        cases eo : rows[j][m] with
        | none =>
          rw [eo] at q'
          exact ⟨false, rfl, iteF q'⟩
        | some z =>
          rw [eo] at q'
          have tz : TOk z := hok _ (List.getElem_mem hj) z (by rw [← eo]; exact List.getElem_mem hm)
          have tl : z.length ≤ 1000 := tz.2.1
          refine ⟨_, ⟨by rw [sizeLine_eq]; omega, rfl⟩, ?_⟩
          by_cases hz : (z.length : Int) = 0
          · have : ((z.length : Int) != 0) = false := by rw [hz]; rfl
            rw [this]
            have ez : z = "" := by
              have h6 : z.cps.size = 0 := by
                have : z.length = 0 := by omega
                exact this
              cases z with
              | mk cps =>
                have : cps = #[] := Array.eq_empty_of_size_eq_zero h6
                rw [this]
                rfl
            rw [ez] at q'
            exact iteF q'
          · have : ((z.length : Int) != 0) = true := by simpa using hz
            rw [this]
            exact iteT q'
end
end TRE

set_option Elab.async false
set_option linter.all false
set_option maxRecDepth 100000
set_option maxHeartbeats 4000000
namespace TRE
open PySem PySem.Spec PyProof.Rows L2 ND KS KS.La PLC
def RowOk (r : List (Option Str)) : Prop := r.length ≤ 4 ∧ ∀ z, some z ∈ r → TOk z
mutual
/-- sizes, all the way down -/
def TrOk : Tr → Prop
  | .stop => True
  | .wr _ ps n => (ps.length ≤ 100 ∧ ∀ p ∈ ps, PtOk p) ∧ TrOk n
  | .rd _ cs l => (cs.length ≤ 100 ∧ CsOk cs) ∧ TrOk l
def CsOk : List (List (Option Str) × Tr) → Prop
  | [] => True
  | (r, t) :: cs => (RowOk r ∧ TrOk t) ∧ CsOk cs
end
theorem csOk_mem : ∀ {cs : List (List (Option Str) × Tr)}, CsOk cs → ∀ c ∈ cs, RowOk c.1 ∧ TrOk c.2
  | [], _, c, h => absurd h (by simp)
  | (r, t) :: cs, h, c, hc => by
    rw [CsOk] at h
    rcases List.mem_cons.mp hc with rfl | hc
    · exact h.1
    · exact csOk_mem h.2 c hc
theorem okNextT : ∀ {t : Tr}, TrOk t → TrOk (nextRead t)
  | .stop, h => h
  | .rd _ _ _, h => h
  | .wr o ps n, h => by
    rw [TrOk] at h
    rw [nextRead]
    exact okNextT h.2
theorem okPick {r : List (Option Str)} : ∀ {cs : List (List (Option Str) × Tr)} {l : Tr}, CsOk cs → TrOk l → TrOk (pickC r cs l)
  | [], l, _, h => h
  | (g, t) :: cs, l, hc, h => by
    rw [CsOk] at hc
    show TrOk (if g = r then t else pickC r cs l)
    split
    · exact hc.1.2
    · exact okPick hc.2 h
theorem okAfterT {r : List (Option Str)} {t : Tr} (h : TrOk t) : TrOk (after r t) := by
  cases t with
  | stop => exact h
  | wr o ps n => exact h
  | rd ks cs l =>
    rw [TrOk] at h
    exact okPick h.1.2 h.2
/-- behind all rows -/
def walk : Tr → List (List (Option Str)) → Tr
  | t, [] => t
  | t, r :: rs => walk (after r (nextRead t)) rs
/-- each row is read -/
def CanW : Tr → List (List (Option Str)) → Prop
  | _, [] => True
  | t, r :: rs => (∃ ks cs l, nextRead t = .rd ks cs l) ∧ CanW (after r (nextRead t)) rs
def down : Tr → Nat → Tr
  | t, 0 => t
  | .wr _ _ n, k + 1 => down n k
  | t, _ + 1 => t
/-- so many writes -/
def CanD : Tr → Nat → Prop
  | _, 0 => True
  | .wr _ _ n, k + 1 => CanD n k
  | _, _ + 1 => False
theorem okWalk : ∀ {rs : List (List (Option Str))} {t : Tr}, TrOk t → TrOk (walk t rs)
  | [], t, h => h
  | r :: rs, t, h => okWalk (rs := rs) (okAfterT (okNextT h))
theorem okDown : ∀ {k : Nat} {t : Tr}, TrOk t → TrOk (down t k)
  | 0, t, h => by cases t <;> exact h
  | k + 1, .stop, h => h
  | k + 1, .rd _ _ _, h => h
  | k + 1, .wr o ps n, h => by
    rw [TrOk] at h
    exact okDown (k := k) h.2
theorem walkSnoc (t : Tr) (r : List (Option Str)) : ∀ rs, walk t (rs ++ [r]) = after r (nextRead (walk t rs)) := by
  intro rs
  induction rs generalizing t with
  | nil => rfl
  | cons x rs ih => exact ih (after x (nextRead t))
theorem canW_at : ∀ {rs : List (List (Option Str))} {t : Tr} {i : Nat}, CanW t rs → i < rs.length → ∃ ks cs l, nextRead (walk t (rs.take i)) = .rd ks cs l
  | [], _, _, _, h => absurd h (Nat.not_lt_zero _)
  | r :: rs, t, 0, h, _ => h.1
  | r :: rs, t, i + 1, h, lt => canW_at (rs := rs) (i := i) h.2 (Nat.lt_of_succ_lt_succ lt)
theorem downSnoc : ∀ (k : Nat) (t : Tr), CanD t (k + 1) → ∃ o ps n, down t k = .wr o ps n ∧ down t (k + 1) = n
  | 0, .wr o ps n, _ => ⟨o, ps, n, rfl, by cases n <;> rfl⟩
  | k + 1, .wr o ps n, h => downSnoc k n h
  | k, .stop, h => h.elim
  | k, .rd _ _ _, h => h.elim
theorem canD_le : ∀ {k j : Nat} {t : Tr}, j ≤ k → CanD t k → CanD t j
  | _, 0, t, _, _ => by cases t <;> trivial
  | 0, j + 1, _, h, _ => absurd h (by omega)
  | k + 1, j + 1, .wr o ps n, h, c => canD_le (k := k) (j := j) (t := n) (by omega) c
  | k + 1, j + 1, .stop, _, c => c.elim
  | k + 1, j + 1, .rd _ _ _, _, c => c.elim
theorem rowShaped {r : List (Option Str)} (h : RowOk r) : SeqAt.shaped (rowD r) = true := (odRow h).shaped (by omega)
abbrev sStepAt : Stmt := inClass (top 17) 3
section
variable {P : Program} {w : World} {K : PySem.W.Frag} {mg : Str → Option Value} {base : Heap} {f : Addr} {fd : FuncData}
def spStepAt (K : PySem.W.Frag) (C : Addr) : Sp := fun vs H Q _ => ∃ x dx v va vr t as rs, ∃ c : Nat, vs = [.ref x, va, vr, .int c] ∧ H x = some (.ins C dx [("_node", v)]) ∧ Dp K H v (trD t) ∧ TrOk t ∧ Dp K H va (argsD as) ∧ (∀ z ∈ as, TOk z) ∧ Dp K H vr (rowsD rs) ∧ (∀ r ∈ rs, RowOk r) ∧ rs.length ≤ 1000 ∧
  CanW t rs ∧ CanD (walk t rs) c ∧ c ≤ 1000 ∧ ∀ r H', Same H H' → Dp K H' r (stepD (as.map some :: rs) (down (walk t rs) c)) → Q r H'
abbrev nSA : List Str := ["self", "arguments", "answers", "count", "node", "row", "_", "cases", "given", "inner"]
theorem scSA : FnScope nSA ["self", "arguments", "answers", "count"] (defScope sStepAt) := ⟨rfl, rfl, rfl, by decide +kernel, rfl, by decide +kernel, by decide +kernel⟩
theorem okStepAt {k : Nat} {C : Addr} (F : FunD K "step_at" "TreeRecipe.step_at" (defArgs sStepAt) (defBody sStepAt) (defScope sStepAt) [] [] f fd) (B : Bn mg) (cl : Cls K C) (nf : NoAttr K C "_node")
    (So : Has P w K mg base (k + 2) "_step_of" ["node", "rows"] (spStepOf K)) : FnOk P w K mg base CX0 (k + 3) f fd ["self", "arguments", "answers", "count"] (spStepAt K C) := by
  obtain ⟨fS, fdS, gS, kS, bS, GS⟩ := So.ex
  refine F.ok scSA (fun vs H Q E h => ?_) (fun cdv A outer s H vs Q E hr h => ?_)
  · obtain ⟨x, dx, v, va, vr, t, as, rs, c, rfl, _⟩ := h
    rfl
  · obtain ⟨x, dx, v, va, vr, t, as, rs, c, rfl, hx, hv, ht, ha, hta, hrs, hrok, hlen, hw, hd, hc, q⟩ := h
    obtain ⟨b, xs, rfl, hb, hxs⟩ := rowsAt hrs
    have lx := dpLen hxs
    rw [List.length_map] at lx
    refine ⟨_, PSs.nox (C8.pss_cut (ps_set (i := 4) scSA.nd rfl (.inl rfl) (pe_fld (pv 0) rfl)) (C8.pss_cut (ps_for PassesOwn.never rfl (pi_tup (pv 2)) (pg_name (i := 5) scSA.nd rfl (.inl rfl))
        (C8.pss_cut (ps_while PassesOwn.never (pt_cmpR op_eq (pe_ix ix_tup (pv 4) pe_int (fun _ _ => rfl)) pe_str (nomark _)) (pss_one (ps_set (i := 4) scSA.nd rfl (.inl rfl) (pe_ix ix_tup (pv 4) pe_int (fun _ _ => rfl))))) (C8.pss_cut (ps_asg (pv 4) (pg_tup rfl (pgs_cons (pg_name (i := 6) scSA.nd rfl (.inl rfl)) (pgs_cons (pg_name (i := 6) scSA.nd rfl (.inl rfl)) (pgs_cons (pg_name (i := 7) scSA.nd rfl (.inl rfl)) (pgs_cons (pg_name (i := 4) scSA.nd rfl (.inl rfl)) pgs_nil)))))) (pss_one (ps_for PassesOwn.never rfl (pi_tup (pv 7)) (pg_tup rfl (pgs_cons (pg_name (i := 8) scSA.nd rfl (.inl rfl)) (pgs_cons (pg_name (i := 9) scSA.nd rfl (.inl rfl)) pgs_nil)))
            (pss_one (ps_if (pt_cmpR (r := rEqD K) (op_eqD hr.units) (pv 8) (pv 5) (nomark _)) (pss_cons (ps_set (i := 4) scSA.nd rfl (.inl rfl) (pv 9)) (pss_one (ps_break))) pss_nil))))))) (C8.pss_cut (ps_for PassesOwn.never rfl (pi_range1 (by rfl) B.range (pa_cons (pv 3) pa_nil)) (pg_name (i := 6) scSA.nd rfl (.inl rfl))
        (pss_one (ps_set (i := 4) scSA.nd rfl (.inl rfl) (pe_ix ix_tup (pv 4) pe_int (fun _ _ => rfl))))) (pss_one (ps_ret (pe_call GS hr (by rfl) gS kS bS .nil pass0 (pa_cons (pv 4) (pa_cons (pe_tup (pa_cons (pv 1) (StX.pa_star (pv 2) pa_nil))) pa_nil)))))))), ?_⟩
    refine ⟨fun σ' H' => σ' = [some (.ref x), some va, some (.ref b), some (.int c), some v, none, none, none, none, none] ∧ H = H', ?_, ?_⟩
    · exact ⟨.ref x, rfl, x, C, dx, _, v, rfl, hx, cl, nf, rfl, rfl, rfl⟩
    rintro _ _ ⟨rfl, rfl⟩
    refine ⟨fun σ' H' => (∃ v' x5 x6 x7 x8 x9, σ' = [some (.ref x), some va, some (.ref b), some (.int c), some v', x5, x6, x7, x8, x9] ∧ Dp K H v' (trD (walk t rs))) ∧ H = H', ?_, ?_⟩
    · refine ⟨.ref b, rfl, b, rfl, ⟨xs, hb⟩, ?_⟩
      refine forJ (n := rs.length) (fun i σ' H' => (∃ v' x5 x6 x7 x8 x9, σ' = [some (.ref x), some va, some (.ref b), some (.int c), some v', x5, x6, x7, x8, x9] ∧ Dp K H v' (trD (walk t (rs.take i)))) ∧ H = H') ⟨⟨v, none, none, none, none, none, rfl, hv⟩, rfl⟩
        (fun i σ' H' lt h => by obtain ⟨_, rfl⟩ := h; exact ⟨xs, xs[i], hb, List.getElem?_eq_getElem (by omega)⟩) (fun σ' H' h => by obtain ⟨_, rfl⟩ := h; exact ⟨xs, hb, by omega⟩) (fun i σ' H1 u H2 lt h y => ?_) (fun σ' H' h => ?_)
      · obtain ⟨⟨v', x5, x6, x7, x8, x9, rfl, hv'⟩, eH⟩ := h
        subst eH
        obtain ⟨eH2, y⟩ := y
        have eH3 := eH2.symm
        subst eH3
        have eu := y xs hb
        have er : (rs.map rowD)[i]? = some (rowD rs[i]) := by rw [List.getElem?_map, List.getElem?_eq_getElem lt]; rfl
        obtain ⟨u', e1, e2⟩ := dpAt hxs er
        obtain rfl : u' = u := Option.some.inj (e1.symm.trans eu)
        obtain ⟨ks, cs, l, e3⟩ := canW_at hw lt
        have ok1 : TrOk (nextRead (walk t (rs.take i))) := okNextT (okWalk ht)
        rw [e3, TrOk] at ok1
        refine ⟨fun σ' H' => (∃ v2, σ' = [some (.ref x), some va, some (.ref b), some (.int c), some v2, some u', x6, x7, x8, x9] ∧ Dp K H v2 (trD (nextRead (walk t (rs.take i))))) ∧ H = H', ?_, ?_⟩
        · refine ⟨fun m σ' H' => H = H' ∧ ∃ v2 t', σ' = [some (.ref x), some va, some (.ref b), some (.int c), some v2, some u', x6, x7, x8, x9] ∧ m = wrs t' ∧ Dp K H v2 (trD t') ∧ nextRead t' = nextRead (walk t (rs.take i)), ⟨_, rfl, v', _, rfl, rfl, hv', rfl⟩, fun m σ' H' hw => ?_⟩
          obtain ⟨rfl, v2, t', rfl, rfl, hd', e⟩ := hw
          obtain ⟨a, xs2, rfl, hs, h0⟩ := headAt hd'
          refine ⟨.ref a, rfl, a, xs2, 0, .str (word t'), rfl, rfl, hs, h0, rfl, _, rfl, ?_⟩
          rw [wordEq]
          cases t' with
          | stop =>
            rw [show word .stop = "stop" from rfl, sw]
            exact iteF ⟨⟨_, rfl, by rw [← e]; exact hd'⟩, rfl⟩
          | rd ks cs l =>
            rw [show word (.rd ks cs l) = "read" from rfl, rw']
            exact iteF ⟨⟨_, rfl, by rw [← e]; exact hd'⟩, rfl⟩
          | wr o ps n =>
            rw [show word (.wr o ps n) = "write" from rfl, ww]
            obtain ⟨a2, vp, vn, ea, hs2, _, hn⟩ := wrAt hd'
            cases ea
            refine iteT ⟨fun σ2 H4 => ∃ m', m' < wrs (.wr o ps n) ∧ H = H4 ∧ ∃ v2 t', σ2 = [some (.ref x), some va, some (.ref b), some (.int c), some v2, some u', x6, x7, x8, x9] ∧ m' = wrs t' ∧ Dp K H v2 (trD t') ∧ nextRead t' = nextRead (walk t (rs.take i)), fun _ _ z => z, ?_⟩
            exact ⟨.ref a, rfl, a, _, 3, vn, rfl, rfl, hs2, atI_nat (j := 3) rfl, wrs n, by show wrs n < wrs n + 1; omega, rfl, vn, n, rfl, rfl, hn, e⟩
        rintro _ _ ⟨⟨v2, rfl, hv2⟩, rfl⟩
        rw [e3] at hv2
        obtain ⟨a, vk, vc, vl, rfl, hs, _, hcs, hl⟩ := rdAt hv2
        obtain ⟨d, ys, rfl, hdd, hy⟩ := dpTup hcs
        have ly := dpLen hy
        rw [csD_map, List.length_map] at ly
        refine ⟨fun σ' H' => σ' = [some (.ref x), some va, some (.ref b), some (.int c), some vl, some u', some vk, some (.ref d), x8, x9] ∧ H = H', ?_, ?_⟩
        · exact ⟨.ref a, rfl, a, _, rfl, hs, rfl, _, _, rfl, _, _, rfl, _, _, rfl, _, _, rfl, rfl, rfl, rfl⟩
        rintro _ _ ⟨rfl, rfl⟩
        have last : walk t (rs.take (i + 1)) = pickC rs[i] cs l := by
          rw [List.take_succ_eq_append_getElem lt, walkSnoc, e3]
          rfl
        refine ⟨.ref d, rfl, d, rfl, ⟨ys, hdd⟩, ?_⟩
        refine forJ (n := cs.length) (fun j σ' H' => H = H' ∧ (∃ y8 y9, σ' = [some (.ref x), some va, some (.ref b), some (.int c), some vl, some u', some vk, some (.ref d), y8, y9]) ∧ pickC rs[i] (cs.drop j) l = pickC rs[i] cs l) ⟨rfl, ⟨x8, x9, rfl⟩, rfl⟩
          (fun j σ' H' lt h => by obtain ⟨rfl, _⟩ := h; exact ⟨ys, ys[j], hdd, List.getElem?_eq_getElem (by omega)⟩) (fun σ' H' h => by obtain ⟨rfl, _⟩ := h; exact ⟨ys, hdd, by omega⟩) (fun j σ' H1 z H2 ltj h y2 => ?_) (fun σ' H' h => ?_)
        · obtain ⟨eH4, ⟨y8, y9, rfl⟩, e⟩ := h
          subst eH4
          obtain ⟨eH5, y2⟩ := y2
          have eH6 := eH5.symm
          subst eH6
          have ez := y2 ys hdd
          rw [csD_map] at hy
          have ec : (cs.map fun c => PyData.tuple [rowD c.1, trD c.2])[j]? = some (.tuple [rowD (cs[j]).1, trD (cs[j]).2]) := by rw [List.getElem?_map, List.getElem?_eq_getElem ltj]; rfl
          obtain ⟨z', h1, h2⟩ := dpAt hy ec
          obtain rfl : z' = z := Option.some.inj (h1.symm.trans ez)
          obtain ⟨cc, zs, rfl, hcs2, hz⟩ := dpTup h2
          obtain ⟨g, tv, rfl, hg, htv⟩ := dpTwo hz
          refine ⟨cc, _, rfl, hcs2, rfl, _, _, rfl, _, _, rfl, rfl, ?_⟩
          refine ⟨g, rfl, u', rfl, _, _, hg, e2, rowShaped (csOk_mem ok1.1.2 _ (List.getElem_mem ltj)).1, rowShaped (hrok _ (List.getElem_mem lt)), _, rfl, ?_⟩
          rw [eqRow]
          have ed : cs.drop j = cs[j] :: cs.drop (j + 1) := List.drop_eq_getElem_cons ltj
          by_cases hr2 : (cs[j]).1 = rs[i]
          · rw [decide_eq_true hr2]
            refine iteT ⟨tv, rfl, ⟨tv, _, _, _, _, _, rfl, ?_⟩, rfl⟩
            rw [last, ← e, ed]
            show Dp K _ tv (trD (if (cs[j]).1 = rs[i] then (cs[j]).2 else _))
            rw [if_pos hr2]
            exact htv
          · rw [decide_eq_false hr2]
            refine iteF ⟨rfl, ⟨_, _, rfl⟩, ?_⟩
            rw [← e, ed]
            show _ = (if (cs[j]).1 = rs[i] then (cs[j]).2 else _)
            rw [if_neg hr2]
        · obtain ⟨rfl, ⟨y8, y9, rfl⟩, e⟩ := h
          rw [List.drop_length] at e
          refine ⟨⟨vl, _, _, _, _, _, rfl, ?_⟩, rfl⟩
          rw [last, ← e]
          exact hl
      · obtain ⟨⟨v', x5, x6, x7, x8, x9, rfl, hv'⟩, rfl⟩ := h
        rw [List.take_length] at hv'
        exact ⟨⟨v', x5, x6, x7, x8, x9, rfl, hv'⟩, rfl⟩
    rintro _ _ ⟨⟨v1, x5, x6, x7, x8, x9, rfl, hv1⟩, rfl⟩
    refine ⟨fun σ' H' => (∃ v' y6, σ' = [some (.ref x), some va, some (.ref b), some (.int c), some v', x5, y6, x7, x8, x9] ∧ Dp K H v' (trD (down (walk t rs) c))) ∧ H = H', ?_, ?_⟩
    · refine ⟨.int c, rfl, c, rfl, by omega, by omega, ?_⟩
      rw [Int.toNat_natCast]
      refine forJ (n := c) (fun i σ' H' => (∃ v' y6, σ' = [some (.ref x), some va, some (.ref b), some (.int c), some v', x5, y6, x7, x8, x9] ∧ Dp K H v' (trD (down (walk t rs) i))) ∧ H = H') ⟨⟨v1, x6, rfl, by have e : down (walk t rs) 0 = walk t rs := (by cases walk t rs <;> rfl); rw [e]; exact hv1⟩, rfl⟩
        (fun i σ' H' lt _ => lt) (fun σ' H' _ => Nat.le_refl _) (fun i σ' H1 u H2 lt h y => ?_) (fun σ' H' h => h)
      obtain ⟨⟨v', y6, rfl, hv'⟩, rfl⟩ := h
      obtain ⟨rfl, rfl⟩ := y
      obtain ⟨o, ps, n, e1, e2⟩ := downSnoc i (walk t rs) (canD_le (by omega) hd)
      rw [e1] at hv'
      obtain ⟨a, vp, vn, rfl, hs, _, hn⟩ := wrAt hv'
      exact ⟨.ref a, rfl, a, _, 3, vn, rfl, rfl, hs, atI_nat (j := 3) rfl, ⟨vn, _, rfl, by rw [e2]; exact hn⟩, rfl⟩
    rintro _ _ ⟨⟨v2, y6, rfl, hv2⟩, rfl⟩
    refine ⟨v2, rfl, va, rfl, .ref b, rfl, b, xs, rfl, .inl hb, by show (va :: (xs ++ [])).length ≤ sizeLine; rw [List.length_cons, List.append_nil, sizeLine_eq]; omega, fun T hT => ?_⟩
    have s1 := sameUpd (o := .tup (va :: (xs ++ []))) hT
    have ok2 : TrOk (down (walk t rs) c) := okDown (okWalk ht)
    have dT : Dp K (upd H T (.tup (va :: (xs ++ [])))) (.ref T) (.tuple ((as.map some :: rs).map rowD)) := by
      refine .tup (.inl (.inl upd_same)) ?_
      rw [List.map_cons, ← argsRow]
      refine .cons (dpSame s1 _ _ ha) ?_
      have h2 := dpAllSame s1 _ _ hxs
      have e2 : xs ++ [] = xs := List.append_nil xs
      exact e2.symm ▸ h2
    refine ⟨v2, .ref T, down (walk t rs) c, as.map some :: rs, rfl, dpSame s1 _ _ hv2, dT, fun r hr z hz => ?_, fun o ps n e => ?_, fun r H' s2 h2 => q r H' (s1.trans s2) h2⟩
    · rcases List.mem_cons.mp hr with rfl | hr
      · obtain ⟨y, hy, e⟩ := List.mem_map.mp hz
        rw [← Option.some.inj e]
        exact hta y hy
      · exact (hrok r hr).2 z hz
    · rw [e, TrOk] at ok2
      exact ok2.1
end
end TRE

set_option Elab.async false
set_option linter.all false
set_option maxRecDepth 100000
set_option maxHeartbeats 8000000
namespace TRE
open PySem PySem.Spec PyProof.Rows L2 ND KS KS.La PLC
theorem joinSum {rows : List (List (Option Str))} {ps : List Pt} (h : RowsOk rows) (hl : ps.length ≤ 100) (hp : ∀ p ∈ ps, PtOk p) : ((ps.map (pieceS rows)).map (·.length)).sum ≤ 100000 := by
  have sum : ∀ l : List Pt, (∀ p ∈ l, PtOk p) → ((l.map (pieceS rows)).map (·.length)).sum ≤ 1000 * l.length := by
    intro l
    induction l with
    | nil => intro _; exact Nat.zero_le _
    | cons z l ih =>
      intro hl
      have h1 := ih fun y hy => hl y (List.mem_cons_of_mem _ hy)
      have h2 : (pieceS rows z).length ≤ 1000 := (pieceTok h (hl z List.mem_cons_self)).2.1
      rw [List.map_cons, List.map_cons, List.sum_cons, List.length_cons]
      omega
  have := sum ps hp
  omega
theorem joinLen {rows : List (List (Option Str))} {ps : List Pt} (h : RowsOk rows) (hl : ps.length ≤ 100) (hp : ∀ p ∈ ps, PtOk p) : (Txt.join "" (ps.map (pieceS rows))).length ≤ sizeLine := by
  have h2 := joinSum h hl hp
  have h3 := StrLaws.join_length_le "" (ps.map (pieceS rows))
  have e0 : ("" : Str).length = 0 := by decide +kernel
  rw [e0] at h3
  rw [sizeLine_eq]
  have h4 : (Txt.join "" (ps.map (pieceS rows))).length ≤ ((ps.map (pieceS rows)).map (·.length)).sum + (ps.map (pieceS rows)).length * 0 := by
    rw [← StrLaws.glued_eq_join] at h3
    exact h3
  omega
theorem odWr {n : Nat} {o : Str} {ps : List Pt} {t : Tr} (h : Od n (trD (.wr o ps t))) : Od n (trD t) := by
  rw [trD] at h
  cases h with
  | tup h h2 => exact (h2 (trD t) (by simp)).up (by omega)
theorem odNext {n : Nat} : ∀ {t : Tr}, Od n (trD t) → Od n (trD (nextRead t))
  | .stop, h => h
  | .rd _ _ _, h => h
  | .wr o ps t, h => by rw [nextRead]; exact odNext (odWr h)
theorem odRd {n : Nat} {ks : List (Str × Str)} {cs : List (List (Option Str) × Tr)} {l : Tr} (h : Od n (trD (.rd ks cs l))) : Od n (trD l) ∧ ∀ c ∈ cs, Od n (trD c.2) := by
  rw [trD] at h
  cases h with
  | tup h h2 =>
    refine ⟨(h2 (trD l) (by simp)).up (by omega), fun c hc => ?_⟩
    have h3 := h2 (.tuple (csD cs)) (by simp)
    rw [csD_map] at h3
    cases h3 with
    | tup _ h4 =>
      have h5 := h4 (.tuple [rowD c.1, trD c.2]) (List.mem_map.mpr ⟨c, hc, rfl⟩)
      cases h5 with
      | tup _ h6 => exact (h6 (trD c.2) (by simp)).up (by omega)
/-- the inner nodes of the cases with this row -/
def hits (r : List (Option Str)) (cs : List (List (Option Str) × Tr)) : List Tr := (cs.filter fun c => decide (c.1 = r)).map (·.2)
theorem pickHits (r : List (Option Str)) (l : Tr) : ∀ cs, pickC r cs l = (hits r cs).headD l
  | [] => rfl
  | (g, t) :: cs => by
    show (if g = r then t else pickC r cs l) = _
    unfold hits
    rw [List.filter_cons]
    by_cases h : g = r
    · rw [if_pos h, if_pos (decide_eq_true h)]
      rfl
    · rw [if_neg h, if_neg (by rw [decide_eq_true_eq]; exact h), pickHits r l cs]
      rfl
theorem hitsSnoc (r : List (Option Str)) (cs : List (List (Option Str) × Tr)) (c : List (Option Str) × Tr) : hits r (cs ++ [c]) = if c.1 = r then hits r cs ++ [c.2] else hits r cs := by
  unfold hits
  rw [List.filter_append, List.map_append]
  by_cases h : c.1 = r
  · rw [if_pos h, List.filter_cons, if_pos (decide_eq_true h)]
    rfl
  · rw [if_neg h, List.filter_cons, if_neg (by rw [decide_eq_true_eq]; exact h)]
    simp
theorem hitsLen (r : List (Option Str)) (cs : List (List (Option Str) × Tr)) : (hits r cs).length ≤ cs.length := by
  unfold hits
  rw [List.length_map]
  exact List.length_filter_le _ _
theorem hitsMem {r : List (Option Str)} {cs : List (List (Option Str) × Tr)} {t : Tr} (h : t ∈ hits r cs) : ∃ c ∈ cs, c.2 = t := by
  unfold hits at h
  obtain ⟨c, hc, e⟩ := List.mem_map.mp h
  exact ⟨c, (List.mem_filter.mp hc).1, e⟩
mutual
theorem plTr : ∀ t : Tr, ∃ n, Pl n (trD t)
  | .stop => ⟨1, by rw [trD]; exact .tup fun d hd => by rw [List.mem_singleton.mp hd]; exact .str _ _⟩
  | .wr o ps n => by
    obtain ⟨m, h⟩ := plTr n
    refine ⟨m + 3, ?_⟩
    rw [trD]
    refine .tup fun d hd => ?_
    simp only [List.mem_cons, List.not_mem_nil, or_false] at hd
    rcases hd with rfl | rfl | rfl | rfl
    · exact .str _ _
    · exact .str _ _
    · refine Pl.up (n := 2) (.tup fun d hd => ?_) (by omega)
      obtain ⟨p, _, rfl⟩ := List.mem_map.mp hd
      cases p with
      | txt z => exact .str _ _
      | itm r i =>
        refine .tup fun d hd => ?_
        simp only [List.mem_cons, List.not_mem_nil, or_false] at hd
        rcases hd with rfl | rfl <;> exact .int _ _
    · exact h.up (by omega)
  | .rd ks cs l => by
    obtain ⟨m, h⟩ := plTr l
    obtain ⟨m2, h2⟩ := plCs cs
    refine ⟨m + m2 + 4, ?_⟩
    rw [trD]
    refine .tup fun d hd => ?_
    simp only [List.mem_cons, List.not_mem_nil, or_false] at hd
    rcases hd with rfl | rfl | rfl | rfl
    · exact .str _ _
    · refine Pl.up (n := 2) (.tup fun d hd => ?_) (by omega)
      obtain ⟨k, _, rfl⟩ := List.mem_map.mp hd
      exact .tup fun d hd => by
        simp only [List.mem_cons, List.not_mem_nil, or_false] at hd
        rcases hd with rfl | rfl <;> exact .str _ _
    · exact Pl.up (n := m2 + 1) (.tup h2) (by omega)
    · exact h.up (by omega)
theorem plCs : ∀ cs : List (List (Option Str) × Tr), ∃ n, ∀ d ∈ csD cs, Pl n d
  | [] => ⟨0, fun d hd => by rw [csD] at hd; exact absurd hd (by simp)⟩
  | (r, t) :: cs => by
    obtain ⟨m, h⟩ := plTr t
    obtain ⟨m2, h2⟩ := plCs cs
    refine ⟨m + m2 + 3, fun d hd => ?_⟩
    rw [csD] at hd
    rcases List.mem_cons.mp hd with rfl | hd
    · refine Pl.up (n := m + 3) (.tup fun d hd => ?_) (by omega)
      simp only [List.mem_cons, List.not_mem_nil, or_false] at hd
      rcases hd with rfl | rfl
      · exact (plRow r).up (by omega)
      · exact h.up (by omega)
    · exact (h2 d hd).up (by omega)
end
theorem trTS {K : PySem.W.Frag} {H H' : Hp} (k : TS H H') (t : Tr) (v : V) (h : Dp K H v (trD t)) : Dp K H' v (trD t) := let ⟨_, p⟩ := plTr t; dpTS k p v h
theorem trsTS {K : PySem.W.Frag} {H H' : Hp} (k : TS H H') (ts : List Tr) {xs : List V} (h : DpAll K H xs (ts.map trD)) : DpAll K H' xs (ts.map trD) := allTS (fun d hd v h => by
  obtain ⟨t, _, rfl⟩ := List.mem_map.mp hd
  exact trTS k t v h) h
theorem rowsTS {K : PySem.W.Frag} {H H' : Hp} (k : TS H H') (rs : List (List (Option Str))) {xs : List V} (h : DpAll K H xs (rs.map rowD)) : DpAll K H' xs (rs.map rowD) := allPl (n := 2) (fun d hd => by
  obtain ⟨r, _, rfl⟩ := List.mem_map.mp hd
  exact plRow r) k h
theorem odPick {n : Nat} {r : List (Option Str)} : ∀ {cs : List (List (Option Str) × Tr)} {l : Tr}, (∀ c ∈ cs, Od n (trD c.2)) → Od n (trD l) → Od n (trD (pickC r cs l))
  | [], l, _, h => h
  | (g, t) :: cs, l, hc, h => by
    show Od n (trD (if g = r then t else pickC r cs l))
    split
    · exact hc _ List.mem_cons_self
    · exact odPick (fun c hc2 => hc c (List.mem_cons_of_mem _ hc2)) h
theorem odWalk {n : Nat} : ∀ {rs : List (List (Option Str))} {t : Tr}, Od n (trD t) → Od n (trD (walk t rs))
  | [], t, h => h
  | r :: rs, t, h => by
    refine odWalk (rs := rs) (t := after r (nextRead t)) ?_
    have h2 := odNext h
    cases e : nextRead t with
    | stop => rw [e] at h2; exact h2
    | wr o ps m => rw [e] at h2; exact h2
    | rd ks cs l =>
      rw [e] at h2
      exact odPick (odRd h2).2 (odRd h2).1
section
variable {P : Program} {w : World} {K : PySem.W.Frag} {mg : Str → Option Value} {base : Heap} {f : Addr} {fd : FuncData}
theorem cutAny {K : PySem.W.Frag} {H : Hp} {a : Addr} {xs : List V} {lo hi : Option Int} {Q : VK} (ha : SqT K H a xs) (q : ∀ p H', SqT K H' p (cutV xs lo hi) → Same H H' → Q (.ref p) H') : rSlA K (.ref a) lo hi H Q := by
  refine ⟨a, xs, rfl, ha, fun h => ?_, fun _ p hp => q p _ (.inl (.inl upd_same)) (sameUpd hp)⟩
  refine q a H ?_ (Same.refl H)
  unfold cutV
  rw [h.1, h.2, List.drop_zero, Nat.sub_zero, List.take_length]
  exact ha
/-- a list of trees against [] -/
theorem neTrees {H : Hp} {D e : Addr} {zs : List V} {ts : List Tr} {n : Nat} {Q : VK} (hn : n ≤ 60) (hD : H D = some (.lst zs)) (he : H e = some (.lst [])) (hz : DpAll K H zs (ts.map trD)) (od : ∀ t ∈ ts, Od n (trD t)) (h : Q (.bl (!decide (ts = []))) H) : rNeD K (.ref D) (.ref e) H Q := by
  obtain ⟨a, b⟩ := allLay (ds := ts.map trD) (n := n) fun d hd => by
    obtain ⟨t, ht, rfl⟩ := List.mem_map.mp hd
    exact (od t ht).lay
  refine ⟨.list (ts.map trD), .list [], .lst (.inl (.inl hD)) hz, .lst (.inl (.inl he)) .nil, ?_, rfl, ?_⟩
  · have e1 : (PyData.list (ts.map trD)).canLay0 = true := a
    unfold SeqAt.shaped
    rw [e1, Bool.true_and]
    refine decide_eq_true ?_
    simp only [PyData.depth]
    omega
  · cases ts with
    | nil => exact h
    | cons t ts => exact h
def spLStep (K : PySem.W.Frag) : Sp := fun vs H Q _ => ∃ d kvs pl p t, vs = [.ref d, pl] ∧ H d = some (.dK kvs) ∧ Dp K H pl (pcD p) ∧ Ok p ∧ ((∃ v, valV kvs (.inr p.c) = some v ∧ Dp K H v (trD t)) ∨ (valV kvs (.inr p.c) = none ∧ t = .stop)) ∧ TrOk t ∧ Od 58 (trD t) ∧ CanW t p.rs ∧
  ∃ c : Nat, p.n = (c : Int) ∧ CanD (walk t p.rs) c ∧ c ≤ 1000 ∧ ∀ r H', Same H H' → Dp K H' r (stepD (p.as.map some :: p.rs) (down (walk t p.rs) c)) → Q r H'
abbrev nLS : List Str := ["_law_recipes", "_law_place", "_law_node", "_law_rows", "_law_row", "_law_found", "_law_case", "_law_inner", "_law_turn", "_law_words", "_law_part"]
theorem scLS : FnScope nLS ["_law_recipes", "_law_place"] (defScope lStepAt) := ⟨rfl, rfl, rfl, by decide +kernel, rfl, by decide +kernel, by decide +kernel⟩
theorem okLStep {k : Nat} (F : FnP K "_law_step_at" lStepAt f fd) (B : Bn mg) (Pt : Has P w K mg base (k + 1) "_law_part_text" ["_law_part", "_law_rows"] (spPieceL K)) : FnOk P w K mg base CX0 (k + 2) f fd ["_law_recipes", "_law_place"] (spLStep K) := by
  obtain ⟨fP, fdP, gP, kP, bP, GP⟩ := Pt.ex
  refine F.ok scLS (fun vs H Q E h => ?_) (fun cdv A outer s H vs Q E hr h => ?_)
  · obtain ⟨d, kvs, pl, p, t, rfl, _⟩ := h
    rfl
  · obtain ⟨d, kvs, pl, p, t, rfl, ed, hp, okp, hget, ht, hod, hw, c, ec, hd, hc, q⟩ := h
    obtain ⟨a, va, vr, rfl, hs, ha, hv⟩ := pcAt hp
    obtain ⟨b, xs, rfl, hb, hxs⟩ := rowsAt hv
    have lx := dpLen hxs
    rw [List.length_map] at lx
    refine ⟨_, PSs.nox (C8.pss_cut (ps_asg (pe_tup (pa_cons (pe_dget2 (Nat.lt_of_le_of_lt (Nat.add_le_add_left (by decide) _) hr.units) (pv 0) (pe_ix ix_tup (pv 1) pe_int (fun _ _ => rfl)) (pe_tup (pa_cons (pe_str) pa_nil)) ⟨rfl, rfl, rfl, rfl⟩) (pa_cons (pe_lst (pa_cons (pe_ix ix_tup (pv 1) pe_int (fun _ _ => rfl)) pa_nil)) pa_nil)))
        (pg_tup rfl (pgs_cons (pg_name (i := 2) scLS.nd rfl (.inl rfl)) (pgs_cons (pg_name (i := 3) scLS.nd rfl (.inr rfl)) pgs_nil)))) (C8.pss_cut (ps_for PassesOwn.never rfl (pi_tup (pe_ix ix_tup (pv 1) pe_int (fun _ _ => rfl))) (pg_name (i := 4) scLS.nd rfl (.inr rfl))
        (C8.pss_cut (ps_while PassesOwn.never (pt_cmpR op_eq (pe_ix ix_tup (pv 2) pe_int (fun _ _ => rfl)) pe_str (nomark _)) (pss_one (ps_set (i := 2) scLS.nd rfl (.inl rfl) (pe_ix ix_tup (pv 2) pe_int (fun _ _ => rfl))))) (C8.pss_cut (ps_setLc (i := 5) (own := [("_law_case", 6), ("_law_inner", 7)]) (g := gTup K 2 (gCons (gName 6) (gCons (gName 7) gNil))) (by rfl) scLS.nd rfl rfl (sw_true rfl rfl (by decide +kernel) (by decide +kernel)) (pi_tup (pe_ix ix_tup (pv 2) pe_int (fun _ _ => rfl))) (blkOk_by (N := nLS) (sc := defScope lStepAt) (by decide +kernel))
            (fun _ _ _ _ _ => pg_tup rfl (pgs_cons (pg_name (i := 6) scLS.nd rfl (.inl rfl) (hf := .inr rfl)) (pgs_cons (pg_name (i := 7) scLS.nd rfl (.inl rfl) (hf := .inr rfl)) pgs_nil))) (fun _ _ _ _ _ => pts_one (pt_cmpR (r := rEqD K) (op_eqD hr.units) (pv 6) (pv 4) (nomark _))) (fun _ _ _ _ _ => pv 7)) (C8.pss_cut (ps_set (i := 2) scLS.nd rfl (.inl rfl) (pe_ifExp (pt_cmpR (r := rNeD K) (op_neD hr.units) (pv 5) (pe_lst pa_nil) (nomark _)) (pe_ix ix_list (pv 5) pe_int (fun _ _ => rfl)) (pe_ix ix_tup (pv 2) pe_int (fun _ _ => rfl)))) (pss_one (ps_expr (pe_bm PySem.F.plainAttrs_list PySem.F.slot_list_append PySem.F.type_list_append mt_append (pv 3) (pa_cons (pv 4) pa_nil)))))))) (C8.pss_cut (ps_for PassesOwn.never rfl (pi_range1 (by rfl) B.range (pa_cons (pe_ix ix_tup (pv 1) pe_int (fun _ _ => rfl)) pa_nil)) (pg_name (i := 8) scLS.nd rfl (.inl rfl))
        (pss_one (ps_set (i := 2) scLS.nd rfl (.inl rfl) (pe_ix ix_tup (pv 2) pe_int (fun _ _ => rfl))))) (pss_cons (ps_if (pt_cmpR op_ne (pe_ix ix_tup (pv 2) pe_int (fun _ _ => rfl)) pe_str (nomark _)) (pss_one (ps_ret (pe_slice sl_tupA (pv 2) po_none (po_some pe_int)))) pss_nil) (C8.pss_cut (ps_set (i := 9) scLS.nd rfl (.inl rfl) (pe_join pe_str (pe_lc (own := [("_law_part", 10)]) (g := gName 10) rfl scLS.nd (pi_tup (pe_ix ix_tup (pv 2) pe_int (fun _ _ => rfl))) (blkOk_by (N := nLS) (sc := defScope lStepAt) (by decide +kernel))
        (fun _ _ _ _ _ => pg_name (i := 10) scLS.nd rfl (.inl rfl) (hf := .inr rfl)) (fun _ _ _ _ _ => pts_nil) (fun _ _ _ _ _ => pe_call GP hr (by rfl) gP kP bP .nil pass0 (pa_cons (pv 10) (pa_cons (pv 3) pa_nil)))))) (pss_one (ps_ret (pe_ifExp (pt_cmpR op_le (pe_callB call_len_str (by rfl) B.len PySem.boot_len (pa_cons (pv 9) pa_nil)) pe_int (nomark _)) (pe_tup (pa_cons (pe_str) (pa_cons (pe_ix ix_tup (pv 2) pe_int (fun _ _ => rfl)) (pa_cons (pv 9) pa_nil)))) (pe_tup (pa_cons (pe_str) pa_nil)))))))))), ?_⟩
    have SR : ∀ (v : V) (R : Addr) (x4 x5 x8 : Option V), L2.St := fun v R x4 x5 x8 => [some (.ref d), some (.ref a), some v, some (.ref R), x4, x5, none, none, x8, none, none]
    refine ⟨fun σ' H' => ∃ v R, σ' = [some (.ref d), some (.ref a), some v, some (.ref R), none, none, none, none, none, none, none] ∧ Same H H' ∧ Dp K H' v (trD t) ∧ H' R = some (.lst [va]) ∧ H R = none, ?_, ?_⟩
    · refine ⟨.ref d, rfl, d, rfl, .inl ⟨kvs, .inl ed⟩, .ref a, rfl, a, _, 0, .str p.c, rfl, rfl, hs, atI_nat (j := 0) rfl, (by show 1 ≤ sizeLine; decide), fun T hT => ?_⟩
      have s1 := sameUpd (o := .tup [.str "stop"]) hT
      refine ⟨_, DGet.k (k := .inr p.c) (s1 _ _ ed), .ref a, rfl, a, _, 1, va, rfl, rfl, sameTup s1 hs, atI_nat (j := 1) rfl, (by show 1 ≤ sizeLine; decide), fun R hR => ⟨(by show 2 ≤ sizeLine; decide), fun T2 hT2 => ?_⟩⟩
      have s2 := sameUpd (o := .lst [va]) hR
      have eR : upd (upd H T (.tup [.str "stop"])) R (.lst [va]) R = some (.lst [va]) := upd_same
      have dv : Dp K (upd H T (.tup [.str "stop"])) ((valV kvs (.inr p.c)).getD (.ref T)) (trD t) := by
        rcases hget with ⟨v, e1, e2⟩ | ⟨e1, rfl⟩
        · rw [e1]
          exact dpSame s1 _ _ e2
        · rw [e1, trD]
          exact .tup (.inl (.inl upd_same)) (.cons (.str _) .nil)
      have hR0 : H R = none := by
        cases e : H R with
        | none => rfl
        | some o => rw [s1 _ _ e] at hR; cases hR
      generalize (valV kvs (.inr p.c)).getD (.ref T) = v at *
      have s3 := sameUpd (o := .tup [v, .ref R]) hT2
      refine ⟨T2, _, rfl, .inl (.inl upd_same), rfl, _, _, rfl, _, _, rfl, rfl, v, R, rfl, (s1.trans s2).trans s3, dpSame (s2.trans s3) _ _ dv, s3 _ _ eR, hR0⟩
    rintro _ H1 ⟨v, R, rfl, s1, dv, eR, hR0⟩
    -- the rows
    refine ⟨fun σ' H' => ∃ v x4 x5 ys, σ' = [some (.ref d), some (.ref a), some v, some (.ref R), x4, x5, none, none, none, none, none] ∧ Same H H' ∧ Dp K H' v (trD (walk t p.rs)) ∧ H' R = some (.lst ys) ∧ DpAll K H' ys ((p.as.map some :: p.rs).map rowD), ?_, ?_⟩
    · refine ⟨.ref a, rfl, a, _, 2, .ref b, rfl, rfl, sameTup s1 hs, atI_nat (j := 2) rfl, b, rfl, ⟨xs, sameTup s1 hb⟩, ?_⟩
      refine forJ (n := p.rs.length) (fun i σ' H' => ∃ v x4 x5 ys, σ' = [some (.ref d), some (.ref a), some v, some (.ref R), x4, x5, none, none, none, none, none] ∧ Same H H' ∧ Dp K H' v (trD (walk t (p.rs.take i))) ∧ H' R = some (.lst ys) ∧ DpAll K H' ys ((p.as.map some :: p.rs.take i).map rowD))
        ⟨v, none, none, [va], rfl, s1, dv, eR, .cons (by rw [← argsRow]; exact dpSame s1 _ _ ha) .nil⟩
        (fun i σ' H' lt h => by obtain ⟨_, _, _, _, _, s, _⟩ := h; exact ⟨xs, xs[i], sameTup s hb, List.getElem?_eq_getElem (by omega)⟩) (fun σ' H' h => by obtain ⟨_, _, _, _, _, s, _⟩ := h; exact ⟨xs, sameTup s hb, by omega⟩) (fun i σ' H2 u H3 lt h y => ?_) (fun σ' H' h => ?_)
      · obtain ⟨rfl, y⟩ := y
        obtain ⟨v, x4, x5, ys, rfl, s3, dv, eR, hys⟩ := h
        have eu := y xs (sameTup s3 hb)
        have er : (p.rs.map rowD)[i]? = some (rowD p.rs[i]) := by rw [List.getElem?_map, List.getElem?_eq_getElem lt]; rfl
        obtain ⟨u', e1, e2⟩ := dpAt hxs er
        obtain rfl : u' = u := Option.some.inj (e1.symm.trans eu)
        obtain ⟨ks, cs, l, e3⟩ := canW_at hw lt
        have ok1 : TrOk (nextRead (walk t (p.rs.take i))) := okNextT (okWalk ht)
        have od1 : Od 58 (trD (nextRead (walk t (p.rs.take i)))) := odNext (odWalk hod)
        rw [e3] at od1
        rw [e3, TrOk] at ok1
        have rok := okp.rs _ (List.getElem_mem lt)
        -- past the writes
        refine ⟨fun σ' H' => ∃ v, σ' = [some (.ref d), some (.ref a), some v, some (.ref R), some u', x5, none, none, none, none, none] ∧ H3 = H' ∧ Dp K H3 v (trD (.rd ks cs l)), ?_, ?_⟩
        · refine ⟨fun m σ' H' => H3 = H' ∧ ∃ v' t', σ' = [some (.ref d), some (.ref a), some v', some (.ref R), some u', x5, none, none, none, none, none] ∧ m = wrs t' ∧ Dp K H3 v' (trD t') ∧ nextRead t' = .rd ks cs l, ⟨_, rfl, v, _, rfl, rfl, dv, e3⟩, fun m σ' H' hw => ?_⟩
          obtain ⟨rfl, v', t', rfl, rfl, hd', e⟩ := hw
          obtain ⟨a', xs', rfl, hs', h0⟩ := headAt hd'
          refine ⟨.ref a', rfl, a', xs', 0, .str (word t'), rfl, rfl, hs', h0, rfl, _, rfl, ?_⟩
          rw [wordEq]
          cases t' with
          | stop => cases e
          | rd ks' cs' l' =>
            rw [show word (.rd ks' cs' l') = "read" from rfl, rw']
            exact iteF ⟨_, rfl, rfl, by rw [← e]; exact hd'⟩
          | wr o ps n =>
            rw [show word (.wr o ps n) = "write" from rfl, ww]
            obtain ⟨a2, vp, vn, ea, hs2, _, hn⟩ := wrAt hd'
            cases ea
            refine iteT ⟨fun σ2 H4 => ∃ m', m' < wrs (.wr o ps n) ∧ H3 = H4 ∧ ∃ v' t', σ2 = [some (.ref d), some (.ref a), some v', some (.ref R), some u', x5, none, none, none, none, none] ∧ m' = wrs t' ∧ Dp K H3 v' (trD t') ∧ nextRead t' = .rd ks cs l, fun _ _ z => z, ?_⟩
            exact ⟨.ref a', rfl, a', _, 3, vn, rfl, rfl, hs2, atI_nat (j := 3) rfl, wrs n, by show wrs n < wrs n + 1; omega, rfl, vn, n, rfl, rfl, hn, e⟩
        rintro _ _ ⟨v, rfl, rfl, dv⟩
        obtain ⟨a4, vk, vc, vl, rfl, hs4, _, hc4, hl4⟩ := rdAt dv
        obtain ⟨b4, zs4, rfl, hb4, hz4⟩ := dpTup hc4
        have l4 := dpLen hz4
        rw [csD_map] at hz4
        rw [csD_map, List.length_map] at l4
        have lcs := ok1.1.1
        -- the cases with this row
        refine ⟨fun σ' H' => ∃ D zs, σ' = [some (.ref d), some (.ref a), some (.ref a4), some (.ref R), some u', some (.ref D), none, none, none, none, none] ∧ Same H3 H' ∧ H' D = some (.lst zs) ∧ DpAll K H' zs ((hits p.rs[i] cs).map trD), ?_, ?_⟩
        · refine ⟨.ref a4, rfl, a4, _, 2, .ref b4, rfl, rfl, hs4, atI_nat (j := 2) rfl, b4, rfl, ⟨zs4, hb4⟩, fun D hD => ?_⟩
          refine lcJ (n := cs.length) (vs := [6, 7]) (fun m H' => ∃ zs, At H3 D zs H' ∧ DpAll K H' zs ((hits p.rs[i] (cs.take m)).map trD)) ⟨[], ⟨sameUpd hD, upd_same⟩, .nil⟩
            (fun m H' lt h => ⟨zs4, zs4[m], sameTup h.choose_spec.1.1 hb4, List.getElem?_eq_getElem (by omega)⟩) (fun H' h => ⟨zs4, sameTup h.choose_spec.1.1 hb4, by omega⟩) (fun m H' x H5 ltm h y => ?_) (fun H' h => ?_)
          · obtain ⟨rfl, y⟩ := y
            obtain ⟨zs, hat, hzs⟩ := h
            have ex := y zs4 (sameTup hat.1 hb4)
            have em : (cs.map fun c => PyData.tuple [rowD c.1, trD c.2])[m]? = some (.tuple [rowD (cs[m]).1, trD (cs[m]).2]) := by rw [List.getElem?_map, List.getElem?_eq_getElem ltm]; rfl
            obtain ⟨x', g1, g2⟩ := dpAt hz4 em
            obtain rfl : x' = x := Option.some.inj (g1.symm.trans ex)
            obtain ⟨c4, ws4, rfl, hc5, hw5⟩ := dpTup (dpSame hat.1 _ _ g2)
            obtain ⟨g, t4, rfl, hg, ht4⟩ := dpTwo hw5
            refine ⟨c4, _, rfl, hc5, rfl, _, _, rfl, _, _, rfl, rfl, rfl, ?_⟩
            refine ⟨g, rfl, u', rfl, _, _, hg, dpSame (s3.trans hat.1) _ _ e2, rowShaped (csOk_mem ok1.1.2 _ (List.getElem_mem ltm)).1, rowShaped rok, _, rfl, ?_⟩
            rw [eqRow]
            have ek : hits p.rs[i] (cs.take (m + 1)) = if (cs[m]).1 = p.rs[i] then hits p.rs[i] (cs.take m) ++ [(cs[m]).2] else hits p.rs[i] (cs.take m) := by
              rw [List.take_succ_eq_append_getElem ltm, hitsSnoc]
            by_cases hr2 : (cs[m]).1 = p.rs[i]
            · rw [if_pos hr2] at ek
              rw [decide_eq_true hr2, ek]
              obtain ⟨e6, e7⟩ := hat.put (ys := zs ++ [t4]) hD (Same.refl _)
              have lz := dpLen hzs
              rw [List.length_map] at lz
              have lh := hitsLen p.rs[i] (cs.take m)
              rw [List.length_take] at lh
              refine iteT ⟨t4, rfl, zs, e6, by rw [sizeLine_eq]; omega, zs ++ [t4], e7, ?_⟩
              have t6 := TS.lst (o := .lst (zs ++ [t4])) e6
              rw [List.map_append]
              exact dpSnoc (trTS t6 _ _ ht4) (trsTS t6 _ hzs)
            · rw [if_neg hr2] at ek
              rw [decide_eq_false hr2, ek]
              exact iteF ⟨zs, hat, hzs⟩
          · obtain ⟨zs, hat, hzs⟩ := h
            rw [List.take_length] at hzs
            exact ⟨D, zs, rfl, hat.1, hat.2, hzs⟩
        rintro _ H4 ⟨D, zs, rfl, s4, eD, hzs⟩
        -- the node behind it
        refine ⟨fun σ' H' => ∃ v', σ' = [some (.ref d), some (.ref a), some v', some (.ref R), some u', some (.ref D), none, none, none, none, none] ∧ Same H4 H' ∧ Dp K H' v' (trD (pickC p.rs[i] cs l)), ?_, ?_⟩
        · refine ⟨.ref D, rfl, Nat.zero_le _, fun p' hp' => ?_⟩
          have s5 := sameUpd (o := .lst []) hp'
          refine neTrees (n := 58) (by omega) (s5 _ _ eD) upd_same (dpAllSame s5 _ _ hzs) (fun t' ht' => by
            obtain ⟨c', hc', rfl⟩ := hitsMem ht'
            exact (odRd od1).2 c' hc') ⟨_, rfl, ?_⟩
          rw [pickHits]
          cases hh : hits p.rs[i] cs with
          | nil =>
            rw [decide_eq_true rfl]
            exact iteF ⟨.ref a4, rfl, a4, _, 3, vl, rfl, rfl, sameTup (s4.trans s5) hs4, atI_nat (j := 3) rfl, vl, rfl, s5, dpSame (s4.trans s5) _ _ hl4⟩
          | cons t0 ts =>
            rw [decide_eq_false (by simp)]
            rw [hh] at hzs
            cases hzs with
            | cons hz0 hzr =>
              exact iteT ⟨.ref D, rfl, D, _, 0, _, rfl, rfl, .inl (.inl (s5 _ _ eD)), atI_nat (j := 0) rfl, _, rfl, s5, dpSame s5 _ _ hz0⟩
        rintro _ H5 ⟨v', rfl, s5, dv'⟩
        have eR5 := s5 _ _ (s4 _ _ eR)
        have ly := dpLen hys
        rw [List.length_map, List.length_cons, List.length_take] at ly
        have lrs := okp.rl
        have t7 := TS.lst (o := .lst (ys ++ [u'])) eR5
        refine ⟨.ref R, rfl, .inl ⟨rfl, _, .inl (.inl eR5)⟩, u', rfl, R, ys, u', rfl, rfl, eR5, by rw [sizeLine_eq]; omega, v', _, _, ys ++ [u'], rfl, fun b' o hb' => ?_, ?_, upd_same, ?_⟩
        · rw [upd_ne (ne_of_none hb' hR0)]
          exact s5 _ _ (s4 _ _ (s3 _ _ hb'))
        · rw [List.take_succ_eq_append_getElem lt, walkSnoc, e3]
          exact trTS t7 _ _ dv'
        · have e9 : p.as.map some :: p.rs.take (i + 1) = (p.as.map some :: p.rs.take i) ++ [p.rs[i]] := by
            rw [List.take_succ_eq_append_getElem lt]
            rfl
          rw [e9, List.map_append]
          exact dpSnoc (dpTS t7 (plRow _) _ (dpSame ((s3.trans s4).trans s5) _ _ e2)) (rowsTS t7 _ (dpAllSame (s4.trans s5) _ _ hys))
      · obtain ⟨v, x4, x5, ys, rfl, s3, dv, eR, hys⟩ := h
        rw [List.take_length] at dv hys
        exact ⟨v, x4, x5, ys, rfl, s3, dv, eR, hys⟩
    rintro _ H2 ⟨v, x4, x5, ys, rfl, s2, dv, eR, hys⟩
    refine ⟨fun σ' H' => (∃ v x8, σ' = [some (.ref d), some (.ref a), some v, some (.ref R), x4, x5, none, none, x8, none, none] ∧ Dp K H2 v (trD (down (walk t p.rs) c))) ∧ H2 = H', ?_, ?_⟩
    · refine ⟨.ref a, rfl, a, _, 3, .int p.n, rfl, rfl, sameTup s2 hs, atI_nat (j := 3) rfl, p.n, rfl, by omega, by omega, ?_⟩
      rw [ec, Int.toNat_natCast]
      refine forJ (n := c) (fun i σ' H' => (∃ v x8, σ' = [some (.ref d), some (.ref a), some v, some (.ref R), x4, x5, none, none, x8, none, none] ∧ Dp K H2 v (trD (down (walk t p.rs) i))) ∧ H2 = H') ⟨⟨v, none, rfl, by have e : down (walk t p.rs) 0 = walk t p.rs := (by cases walk t p.rs <;> rfl); rw [e]; exact dv⟩, rfl⟩
        (fun i σ' H' lt _ => lt) (fun σ' H' _ => Nat.le_refl _) (fun i σ' H3 u H4 lt h y => ?_) (fun σ' H' h => h)
      obtain ⟨⟨v', x8, rfl, hv'⟩, rfl⟩ := h
      obtain ⟨rfl, rfl⟩ := y
      obtain ⟨o, ps, n, e1, e2⟩ := downSnoc i (walk t p.rs) (canD_le (by omega) hd)
      rw [e1] at hv'
      obtain ⟨a', vp, vn, rfl, hs', _, hn⟩ := wrAt hv'
      exact ⟨.ref a', rfl, a', _, 3, vn, rfl, rfl, hs', atI_nat (j := 3) rfl, ⟨vn, _, rfl, by rw [e2]; exact hn⟩, rfl⟩
    rintro _ _ ⟨⟨v2, x8, rfl, dv2⟩, rfl⟩
    have ok2 : TrOk (down (walk t p.rs) c) := okDown (okWalk ht)
    have rowsOk : RowsOk (p.as.map some :: p.rs) := fun r hr z hz => by
      rcases List.mem_cons.mp hr with rfl | hr
      · obtain ⟨y, hy, e⟩ := List.mem_map.mp hz
        rw [← Option.some.inj e]
        exact okp.as y hy
      · exact (okp.rs r hr).2 z hz
    generalize down (walk t p.rs) c = T at *
    obtain ⟨a0, xs0, ev, hs0, h0⟩ := headAt dv2
    subst ev
    refine ⟨.ref a0, rfl, a0, xs0, 0, .str (word T), rfl, rfl, hs0, h0, rfl, _, rfl, ?_⟩
    show (if (!decide (V.str (word T) = V.str "write")) = true then _ else _)
    rw [wordEq]
    cases T with
    | stop =>
      rw [show word .stop = "stop" from rfl, sw]
      obtain ⟨a2, ea, hs2⟩ := stopAt dv2
      cases ea
      refine iteT ⟨.ref a0, rfl, 2, rfl, cutAny hs2 fun p' H' h' s' => q _ _ (s2.trans s') ?_⟩
      exact .tup h' (.cons (.str _) .nil)
    | rd ks cs l =>
      rw [show word (.rd ks cs l) = "read" from rfl, rw']
      obtain ⟨a2, vk, vc, vl, ea, hs2, hk, _⟩ := rdAt dv2
      cases ea
      refine iteT ⟨.ref a0, rfl, 2, rfl, cutAny hs2 fun p' H' h' s' => q _ _ (s2.trans s') ?_⟩
      exact .tup h' (.cons (.str _) (.cons (dpSame s' _ _ hk) .nil))
    | wr o ps n =>
      rw [show word (.wr o ps n) = "write" from rfl, ww]
      obtain ⟨a2, vp, vn, ea, hs2, hp2, _⟩ := wrAt dv2
      cases ea
      rw [TrOk] at ok2
      obtain ⟨⟨hl, hpt⟩, _⟩ := ok2
      obtain ⟨b5, xs5, rfl, hb5, hx5⟩ := dpTup hp2
      have l5 := dpLen hx5
      rw [List.length_map] at l5
      have hq : stepD (p.as.map some :: p.rs) (.wr o ps n) = if (Txt.join "" (ps.map (pieceS (p.as.map some :: p.rs)))).length ≤ 400 then .tuple [.str "write", .str o, .str (Txt.join "" (ps.map (pieceS (p.as.map some :: p.rs))))] else .tuple [.str "stop"] := rfl
      rw [hq] at q
      refine iteF ⟨fun σ' H' => σ' = [some (.ref d), some (.ref a), some (.ref a0), some (.ref R), x4, x5, none, none, x8, some (.str (Txt.join "" (ps.map (pieceS (p.as.map some :: p.rs))))), none] ∧ Same H2 H', ?_, ?_⟩
      · refine ⟨⟨_, rfl⟩, .ref a0, rfl, a0, _, 2, .ref b5, rfl, rfl, hs2, atI_nat (j := 2) rfl, b5, rfl, ⟨xs5, hb5⟩, fun D hD => ?_⟩
        refine lcJ (n := ps.length) (vs := [10]) (fun i H' => At H2 D ((ps.take i).map fun x => .str (pieceS (p.as.map some :: p.rs) x)) H') ⟨sameUpd hD, upd_same⟩ (fun i H' lt h => ⟨xs5, xs5[i], sameTup h.1 hb5, List.getElem?_eq_getElem (by omega)⟩) (fun H' h => ⟨xs5, sameTup h.1 hb5, by omega⟩) (fun i H' x H3 lt h y => ?_) (fun H' h => ?_)
        · obtain ⟨rfl, y⟩ := y
          have ex := y xs5 (sameTup h.1 hb5)
          have ep : (ps.map ptD)[i]? = some (ptD ps[i]) := by rw [List.getElem?_map, List.getElem?_eq_getElem lt]; rfl
          obtain ⟨v', e1, e2⟩ := dpAt hx5 ep
          obtain rfl : v' = x := Option.some.inj (e1.symm.trans ex)
          refine ⟨rfl, ?_⟩
          unfold tYes
          dsimp only
          rw [if_pos rfl]
          refine ⟨v', rfl, .ref R, rfl, v', R, ys, ps[i], p.as.map some :: p.rs, rfl, dpSame h.1 _ _ e2, .inl (.inl (h.1 _ _ eR)), dpAllSame h.1 _ _ hys, rowsOk, ?_⟩
          obtain ⟨e3, e4⟩ := h.put (ys := (ps.take i).map (fun x => .str (pieceS (p.as.map some :: p.rs) x)) ++ [.str (pieceS (p.as.map some :: p.rs) ps[i])]) hD (Same.refl _)
          refine ⟨_, e3, by rw [List.length_map, List.length_take, sizeLine_eq]; omega, ?_⟩
          rw [List.take_succ_eq_append_getElem lt, List.map_append]
          exact e4
        · rw [List.take_length] at h
          have em : (ps.map fun x => V.str (pieceS (p.as.map some :: p.rs) x)) = (ps.map (pieceS (p.as.map some :: p.rs))).map V.str := by rw [List.map_map]; rfl
          have hD2 := h.2
          rw [em] at hD2
          refine ⟨"", D, ps.map (pieceS (p.as.map some :: p.rs)), rfl, rfl, .inl (.inl (.inl hD2)), ?_, rfl, h.1⟩
          have e0 : ("" : Str).length = 0 := by decide +kernel
          rw [e0]
          have := joinSum rowsOk hl hpt
          have hlen : (ps.map (pieceS (p.as.map some :: p.rs))).length ≤ 100 := by rw [List.length_map]; exact hl
          omega
      rintro _ H3 ⟨rfl, s3⟩
      have hT := joinLen rowsOk hl hpt
      generalize Txt.join "" (ps.map (pieceS (p.as.map some :: p.rs))) = T at *
      refine ⟨.str T, rfl, T, rfl, hT, _, _, rfl, rfl, _, rfl, ite2 (fun e => ?_) (fun e => ?_)⟩
      · have e1 : (T.length : Int) ≤ 400 := of_decide_eq_true e
        rw [if_pos (by omega)] at q
        refine ⟨.ref a0, rfl, a0, _, 1, .str o, rfl, rfl, sameTup s3 hs2, atI_nat (j := 1) rfl, .str T, rfl, (by show 3 ≤ sizeLine; decide), fun p' hp' => ?_⟩
        exact q _ _ ((s2.trans s3).trans (sameUpd hp')) (.tup (.inl (.inl upd_same)) (.cons (.str _) (.cons (.str _) (.cons (.str _) .nil))))
      · have e1 : ¬ (T.length : Int) ≤ 400 := fun y => e (decide_eq_true y)
        rw [if_neg (by omega)] at q
        refine ⟨(by show 1 ≤ sizeLine; decide), fun p' hp' => ?_⟩
        exact q _ _ ((s2.trans s3).trans (sameUpd hp')) (.tup (.inl (.inl upd_same)) (.cons (.str _) .nil))
end
end TRE

set_option Elab.async false
set_option linter.all false
set_option maxRecDepth 100000
set_option maxHeartbeats 8000000
namespace TRE
open PySem PySem.Spec PyProof.Rows L2 ND KS KS.La PLC
abbrev lNodeAt : Stmt := top 47
section
variable {P : Program} {w : World} {K : PySem.W.Frag} {mg : Str → Option Value} {base : Heap} {f : Addr} {fd : FuncData}
/-- a node that reads, or None -/
def rdOr (t : Tr) : PyData := match t with
  | .rd _ _ _ => trD t
  | _ => .none
def spNodeAt (K : PySem.W.Frag) : Sp := fun vs H Q _ => ∃ v u t rs, vs = [v, u] ∧ Dp K H v (trD t) ∧ TrOk t ∧ Od 58 (trD t) ∧ Dp K H u (rowsD rs) ∧ (∀ r ∈ rs, RowOk r) ∧ CanW t rs ∧ ∀ r H', Same H H' → Dp K H' r (rdOr (nextRead (walk t rs))) → Q r H'
abbrev nNA : List Str := ["_law_node", "_law_rows", "_law_row", "_law_found", "_law_case", "_law_inner"]
theorem scNA : FnScope nNA ["_law_node", "_law_rows"] (defScope lNodeAt) := ⟨rfl, rfl, rfl, by decide +kernel, rfl, by decide +kernel, by decide +kernel⟩
theorem okNodeAt {k : Nat} (F : FnP K "_law_node_at" lNodeAt f fd) (B : Bn mg) : FnOk P w K mg base CX0 (k + 1) f fd ["_law_node", "_law_rows"] (spNodeAt K) := by
  refine F.ok scNA (fun vs H Q E h => ?_) (fun cdv A outer s H vs Q E hr h => ?_)
  · obtain ⟨v, u, t, rs, rfl, _⟩ := h
    rfl
  · obtain ⟨v, u, t, rs, rfl, dv, ht, hod, hv, hrok, hw, q⟩ := h
    obtain ⟨b, xs, rfl, hb, hxs⟩ := rowsAt hv
    have lx := dpLen hxs
    rw [List.length_map] at lx
    refine ⟨_, PSs.nox (C8.pss_cut (ps_for PassesOwn.never rfl (pi_tup (pv 1)) (pg_name (i := 2) scNA.nd rfl (.inr rfl))
        (C8.pss_cut (ps_while PassesOwn.never (pt_cmpR op_eq (pe_ix ix_tup (pv 0) pe_int (fun _ _ => rfl)) pe_str (nomark _)) (pss_one (ps_set (i := 0) scNA.nd rfl (.inl rfl) (pe_ix ix_tup (pv 0) pe_int (fun _ _ => rfl))))) (C8.pss_cut (ps_setLc (i := 3) (own := [("_law_case", 4), ("_law_inner", 5)]) (g := gTup K 2 (gCons (gName 4) (gCons (gName 5) gNil))) (by rfl) scNA.nd rfl rfl (sw_true rfl rfl (by decide +kernel) (by decide +kernel)) (pi_tup (pe_ix ix_tup (pv 0) pe_int (fun _ _ => rfl))) (blkOk_by (N := nNA) (sc := defScope lNodeAt) (by decide +kernel))
            (fun _ _ _ _ _ => pg_tup rfl (pgs_cons (pg_name (i := 4) scNA.nd rfl (.inl rfl) (hf := .inr rfl)) (pgs_cons (pg_name (i := 5) scNA.nd rfl (.inl rfl) (hf := .inr rfl)) pgs_nil))) (fun _ _ _ _ _ => pts_one (pt_cmpR (r := rEqD K) (op_eqD hr.units) (pv 4) (pv 2) (nomark _))) (fun _ _ _ _ _ => pv 5)) (pss_one (ps_set (i := 0) scNA.nd rfl (.inl rfl) (pe_ifExp (pt_cmpR (r := rNeD K) (op_neD hr.units) (pv 3) (pe_lst pa_nil) (nomark _)) (pe_ix ix_list (pv 3) pe_int (fun _ _ => rfl)) (pe_ix ix_tup (pv 0) pe_int (fun _ _ => rfl)))))))) (C8.pss_cut (ps_while PassesOwn.never (pt_cmpR op_eq (pe_ix ix_tup (pv 0) pe_int (fun _ _ => rfl)) pe_str (nomark _)) (pss_one (ps_set (i := 0) scNA.nd rfl (.inl rfl) (pe_ix ix_tup (pv 0) pe_int (fun _ _ => rfl))))) (pss_one (ps_ret (pe_ifExp (pt_cmpR op_eq (pe_ix ix_tup (pv 0) pe_int (fun _ _ => rfl)) pe_str (nomark _)) (pv 0) pe_non))))), ?_⟩
    refine ⟨fun σ' H' => ∃ v x2 x3, σ' = [some v, some (.ref b), x2, x3, none, none] ∧ Same H H' ∧ Dp K H' v (trD (walk t rs)), ?_, ?_⟩
    · refine ⟨.ref b, rfl, b, rfl, ⟨xs, hb⟩, ?_⟩
      refine forJ (n := rs.length) (fun i σ' H' => ∃ v x2 x3, σ' = [some v, some (.ref b), x2, x3, none, none] ∧ Same H H' ∧ Dp K H' v (trD (walk t (rs.take i)))) ⟨v, none, none, rfl, Same.refl _, dv⟩
        (fun i σ' H' lt h => by obtain ⟨_, _, _, _, s, _⟩ := h; exact ⟨xs, xs[i], sameTup s hb, List.getElem?_eq_getElem (by omega)⟩) (fun σ' H' h => by obtain ⟨_, _, _, _, s, _⟩ := h; exact ⟨xs, sameTup s hb, by omega⟩) (fun i σ' H2 u H3 lt h y => ?_) (fun σ' H' h => ?_)
      · obtain ⟨rfl, y⟩ := y
        obtain ⟨v, x2, x3, rfl, s3, dv⟩ := h
        have eu := y xs (sameTup s3 hb)
        have er : (rs.map rowD)[i]? = some (rowD rs[i]) := by rw [List.getElem?_map, List.getElem?_eq_getElem lt]; rfl
        obtain ⟨u', e1, e2⟩ := dpAt hxs er
        obtain rfl : u' = u := Option.some.inj (e1.symm.trans eu)
        obtain ⟨ks, cs, l, e3⟩ := canW_at hw lt
        have ok1 : TrOk (nextRead (walk t (rs.take i))) := okNextT (okWalk ht)
        have od1 : Od 58 (trD (nextRead (walk t (rs.take i)))) := odNext (odWalk hod)
        rw [e3] at od1
        rw [e3, TrOk] at ok1
        have rok := hrok _ (List.getElem_mem lt)
        -- past the writes
        refine ⟨fun σ' H' => ∃ v, σ' = [some v, some (.ref b), some u', x3, none, none] ∧ H3 = H' ∧ Dp K H3 v (trD (.rd ks cs l)), ?_, ?_⟩
        · refine ⟨fun m σ' H' => H3 = H' ∧ ∃ v' t', σ' = [some v', some (.ref b), some u', x3, none, none] ∧ m = wrs t' ∧ Dp K H3 v' (trD t') ∧ nextRead t' = .rd ks cs l, ⟨_, rfl, v, _, rfl, rfl, dv, e3⟩, fun m σ' H' hw => ?_⟩
          obtain ⟨rfl, v', t', rfl, rfl, hd', e⟩ := hw
          obtain ⟨a', xs', rfl, hs', h0⟩ := headAt hd'
          refine ⟨.ref a', rfl, a', xs', 0, .str (word t'), rfl, rfl, hs', h0, rfl, _, rfl, ?_⟩
          rw [wordEq]
          cases t' with
          | stop => cases e
          | rd ks' cs' l' =>
            rw [show word (.rd ks' cs' l') = "read" from rfl, rw']
            exact iteF ⟨_, rfl, rfl, by rw [← e]; exact hd'⟩
          | wr o ps n =>
            rw [show word (.wr o ps n) = "write" from rfl, ww]
            obtain ⟨a2, vp, vn, ea, hs2, _, hn⟩ := wrAt hd'
            cases ea
            refine iteT ⟨fun σ2 H4 => ∃ m', m' < wrs (.wr o ps n) ∧ H3 = H4 ∧ ∃ v' t', σ2 = [some v', some (.ref b), some u', x3, none, none] ∧ m' = wrs t' ∧ Dp K H3 v' (trD t') ∧ nextRead t' = .rd ks cs l, fun _ _ z => z, ?_⟩
            exact ⟨.ref a', rfl, a', _, 3, vn, rfl, rfl, hs2, atI_nat (j := 3) rfl, wrs n, by show wrs n < wrs n + 1; omega, rfl, vn, n, rfl, rfl, hn, e⟩
        rintro _ _ ⟨v, rfl, rfl, dv⟩
        obtain ⟨a4, vk, vc, vl, rfl, hs4, _, hc4, hl4⟩ := rdAt dv
        obtain ⟨b4, zs4, rfl, hb4, hz4⟩ := dpTup hc4
        have l4 := dpLen hz4
        rw [csD_map] at hz4
        rw [csD_map, List.length_map] at l4
        have lcs := ok1.1.1
        -- the cases with this row
        refine ⟨fun σ' H' => ∃ D zs, σ' = [some (.ref a4), some (.ref b), some u', some (.ref D), none, none] ∧ Same H3 H' ∧ H' D = some (.lst zs) ∧ DpAll K H' zs ((hits rs[i] cs).map trD), ?_, ?_⟩
        · refine ⟨.ref a4, rfl, a4, _, 2, .ref b4, rfl, rfl, hs4, atI_nat (j := 2) rfl, b4, rfl, ⟨zs4, hb4⟩, fun D hD => ?_⟩
          refine lcJ (n := cs.length) (vs := [4, 5]) (fun m H' => ∃ zs, At H3 D zs H' ∧ DpAll K H' zs ((hits rs[i] (cs.take m)).map trD)) ⟨[], ⟨sameUpd hD, upd_same⟩, .nil⟩
            (fun m H' lt h => ⟨zs4, zs4[m], sameTup h.choose_spec.1.1 hb4, List.getElem?_eq_getElem (by omega)⟩) (fun H' h => ⟨zs4, sameTup h.choose_spec.1.1 hb4, by omega⟩) (fun m H' x H5 ltm h y => ?_) (fun H' h => ?_)
          · obtain ⟨rfl, y⟩ := y
            obtain ⟨zs, hat, hzs⟩ := h
            have ex := y zs4 (sameTup hat.1 hb4)
            have em : (cs.map fun c => PyData.tuple [rowD c.1, trD c.2])[m]? = some (.tuple [rowD (cs[m]).1, trD (cs[m]).2]) := by rw [List.getElem?_map, List.getElem?_eq_getElem ltm]; rfl
            obtain ⟨x', g1, g2⟩ := dpAt hz4 em
            obtain rfl : x' = x := Option.some.inj (g1.symm.trans ex)
            obtain ⟨c4, ws4, rfl, hc5, hw5⟩ := dpTup (dpSame hat.1 _ _ g2)
            obtain ⟨g, t4, rfl, hg, ht4⟩ := dpTwo hw5
            refine ⟨c4, _, rfl, hc5, rfl, _, _, rfl, _, _, rfl, rfl, rfl, ?_⟩
            refine ⟨g, rfl, u', rfl, _, _, hg, dpSame (s3.trans hat.1) _ _ e2, rowShaped (csOk_mem ok1.1.2 _ (List.getElem_mem ltm)).1, rowShaped rok, _, rfl, ?_⟩
            rw [eqRow]
            have ek : hits rs[i] (cs.take (m + 1)) = if (cs[m]).1 = rs[i] then hits rs[i] (cs.take m) ++ [(cs[m]).2] else hits rs[i] (cs.take m) := by
              rw [List.take_succ_eq_append_getElem ltm, hitsSnoc]
            by_cases hr2 : (cs[m]).1 = rs[i]
            · rw [if_pos hr2] at ek
              rw [decide_eq_true hr2, ek]
              obtain ⟨e6, e7⟩ := hat.put (ys := zs ++ [t4]) hD (Same.refl _)
              have lz := dpLen hzs
              rw [List.length_map] at lz
              have lh := hitsLen rs[i] (cs.take m)
              rw [List.length_take] at lh
              refine iteT ⟨t4, rfl, zs, e6, by rw [sizeLine_eq]; omega, zs ++ [t4], e7, ?_⟩
              have t6 := TS.lst (o := .lst (zs ++ [t4])) e6
              rw [List.map_append]
              exact dpSnoc (trTS t6 _ _ ht4) (trsTS t6 _ hzs)
            · rw [if_neg hr2] at ek
              rw [decide_eq_false hr2, ek]
              exact iteF ⟨zs, hat, hzs⟩
          · obtain ⟨zs, hat, hzs⟩ := h
            rw [List.take_length] at hzs
            exact ⟨D, zs, rfl, hat.1, hat.2, hzs⟩
        rintro _ H4 ⟨D, zs, rfl, s4, eD, hzs⟩
        -- the node behind it
        have fin : ∀ (v' : V) H5, Same H4 H5 → Dp K H5 v' (trD (pickC rs[i] cs l)) → ∃ v x2 x3, [some v', some (.ref b), some u', some (.ref D), none, none] = ([some v, some (.ref b), x2, x3, none, none] : L2.St) ∧ Same H H5 ∧ Dp K H5 v (trD (walk t (rs.take (i + 1)))) := fun v' H5 s5 dv' => by
          refine ⟨v', _, _, rfl, (s3.trans s4).trans s5, ?_⟩
          rw [List.take_succ_eq_append_getElem lt, walkSnoc, e3]
          exact dv'
        refine ⟨.ref D, rfl, Nat.zero_le _, fun p' hp' => ?_⟩
        have s5 := sameUpd (o := .lst []) hp'
        refine neTrees (n := 58) (by omega) (s5 _ _ eD) upd_same (dpAllSame s5 _ _ hzs) (fun t' ht' => by
          obtain ⟨c', hc', rfl⟩ := hitsMem ht'
          exact (odRd od1).2 c' hc') ⟨_, rfl, ?_⟩
        rw [pickHits] at fin
        cases hh : hits rs[i] cs with
        | nil =>
          rw [hh] at fin
          rw [decide_eq_true rfl]
          exact iteF ⟨.ref a4, rfl, a4, _, 3, vl, rfl, rfl, sameTup (s4.trans s5) hs4, atI_nat (j := 3) rfl, fin vl _ s5 (dpSame (s4.trans s5) _ _ hl4)⟩
        | cons t0 ts =>
          rw [hh] at fin
          rw [decide_eq_false (by simp)]
          rw [hh] at hzs
          cases hzs with
          | cons hz0 hzr =>
            exact iteT ⟨.ref D, rfl, D, _, 0, _, rfl, rfl, .inl (.inl (s5 _ _ eD)), atI_nat (j := 0) rfl, fin _ _ s5 (dpSame s5 _ _ hz0)⟩
      · obtain ⟨v, x2, x3, rfl, s3, dv⟩ := h
        rw [List.take_length] at dv
        exact ⟨v, x2, x3, rfl, s3, dv⟩
    rintro _ H2 ⟨v, x2, x3, rfl, s2, dv⟩
    refine ⟨fun σ' H' => ∃ v, σ' = [some v, some (.ref b), x2, x3, none, none] ∧ H2 = H' ∧ Dp K H2 v (trD (nextRead (walk t rs))), ?_, ?_⟩
    · refine ⟨fun m σ' H' => H2 = H' ∧ ∃ v' t', σ' = [some v', some (.ref b), x2, x3, none, none] ∧ m = wrs t' ∧ Dp K H2 v' (trD t') ∧ nextRead t' = nextRead (walk t rs), ⟨_, rfl, v, _, rfl, rfl, dv, rfl⟩, fun m σ' H' hw => ?_⟩
      obtain ⟨rfl, v', t', rfl, rfl, hd', e⟩ := hw
      obtain ⟨a', xs', rfl, hs', h0⟩ := headAt hd'
      refine ⟨.ref a', rfl, a', xs', 0, .str (word t'), rfl, rfl, hs', h0, rfl, _, rfl, ?_⟩
      rw [wordEq]
      cases t' with
      | stop =>
        rw [show word .stop = "stop" from rfl, sw]
        exact iteF ⟨_, rfl, rfl, by rw [← e]; exact hd'⟩
      | rd ks' cs' l' =>
        rw [show word (.rd ks' cs' l') = "read" from rfl, rw']
        exact iteF ⟨_, rfl, rfl, by rw [← e]; exact hd'⟩
      | wr o ps n =>
        rw [show word (.wr o ps n) = "write" from rfl, ww]
        obtain ⟨a2, vp, vn, ea, hs2, _, hn⟩ := wrAt hd'
        cases ea
        refine iteT ⟨fun σ2 H4 => ∃ m', m' < wrs (.wr o ps n) ∧ H2 = H4 ∧ ∃ v' t', σ2 = [some v', some (.ref b), x2, x3, none, none] ∧ m' = wrs t' ∧ Dp K H2 v' (trD t') ∧ nextRead t' = nextRead (walk t rs), fun _ _ z => z, ?_⟩
        exact ⟨.ref a', rfl, a', _, 3, vn, rfl, rfl, hs2, atI_nat (j := 3) rfl, wrs n, by show wrs n < wrs n + 1; omega, rfl, vn, n, rfl, rfl, hn, e⟩
    rintro _ _ ⟨v, rfl, rfl, dv⟩
    generalize nextRead (walk t rs) = T at *
    obtain ⟨a0, xs0, ev, hs0, h0⟩ := headAt dv
    subst ev
    refine ⟨.ref a0, rfl, a0, xs0, 0, .str (word T), rfl, rfl, hs0, h0, rfl, _, rfl, ?_⟩
    rw [wordEq]
    cases T with
    | stop =>
      rw [show word .stop = "stop" from rfl, sr]
      exact iteF (q _ _ s2 .non)
    | wr o ps n =>
      rw [show word (.wr o ps n) = "write" from rfl, wr']
      exact iteF (q _ _ s2 .non)
    | rd ks cs l =>
      rw [show word (.rd ks cs l) = "read" from rfl, rr]
      exact iteT ⟨_, rfl, q _ _ s2 dv⟩
end
end TRE

set_option Elab.async false
set_option linter.all false
set_option maxRecDepth 100000
set_option maxHeartbeats 8000000
namespace TRE
open PySem PySem.Spec PyProof.Rows L2 ND KS KS.La PLC
abbrev lNear : Stmt := top 46
/-- tuple(a list or a tuple) -/
def rTup (K : PySem.W.Frag) : List V → Hp → VK → Prop := fun xs H Q => ∃ p ys, xs = [V.ref p] ∧ ((SqL K H p ys ∧ ∀ (l : Addr), H l = none → Q (V.ref l) (upd H l (HO.tup ys))) ∨ SqT K H p ys ∧ Q (V.ref p) H)
theorem fdNe {H : Hp} {f p : Addr} (h : Fd H f) (hp : H p = none) : p ≠ f := fun z => by
  obtain ⟨x, y, e, _⟩ := h
  rw [z, e] at hp
  cases hp
theorem fdOther {H : Hp} {f p : Addr} {o : HO} (h : Fd H f) (n : p ≠ f) : Fd (upd H p o) f := by
  obtain ⟨x, y, e, a, b⟩ := h
  exact ⟨x, y, by rw [upd_ne (Ne.symm n)]; exact e, a, b⟩
theorem tsKp {f : Addr} {H H' : Hp} (hf : Fd H f) (k : Kp f H H') : TS H H' := fun a o e t => by
  by_cases n : a = f
  · obtain ⟨x, y, h, _⟩ := hf
    rw [n, h] at e
    have e2 := Option.some.inj e
    rcases t with ⟨xs, rfl⟩ | ⟨p, xs, rfl⟩ <;> cases e2
  · exact k a o n e
/-- answers or texts, drawn, over whatever -/
theorem lcFeedX {J : It} {f D : Addr} {j m : Nat} {te : TE} {σ : L2.St} {H1 : Hp} {Qd : Hp → Prop} (pr : Option Str → Prop) (hD : H1 D = none) (hF : Fd H1 f) (hm : m ≤ 100) (hw : ∀ v, wipe ((wipe σ [j]).set j (some v)) [j] = wipe σ [j])
    (hgo : ∀ i H, i < m → Kp f H1 H → J.go i H) (hst : ∀ H, Kp f H1 H → J.stop m H)
    (hs : ∀ i x H H', i < m → Kp f H1 H → Fd H f → J.yld i H x H' → H' = H ∧ ∀ R : VK, (∀ a H2, pr a → Kp f H H2 → Fd H2 f → R (vA a) H2) → te ((wipe σ [j]).set j (some x)) H R)
    (hd : ∀ H (r : List (Option Str)), H D = some (.lst (r.map vA)) → r.length = m → (∀ a ∈ r, pr a) → Kp f H1 H → Fd H f → Qd H) :
    ∃ W : Nat → Nat → Hp → Prop, (∃ m, W 0 m (upd H1 D (.lst []))) ∧ ∀ i k H, W i k H →
      (J.stop i H ∧ Qd H) ∨ (J.go i H ∧ ∃ Nx : Hp → Prop, (∀ H', Nx H' → ∃ m', m' < k ∧ W (i + 1) m' H') ∧ ∀ x H', J.yld i H x H' → gName j x (wipe σ [j]) H' fun σ2 H2 => wipe σ2 [j] = wipe σ [j] ∧ tYes σ2 H2 fun b H3 =>
        if b = true then te σ2 H3 fun y H4 => ∃ acc, H4 D = some (.lst acc) ∧ acc.length < sizeLine ∧ Nx (upd H4 D (.lst (acc ++ [y]))) else Nx H3) := by
  have nD := fdNe hF hD
  refine lcJ (n := m) (fun i H => ∃ r : List (Option Str), H D = some (.lst (r.map vA)) ∧ r.length = i ∧ (∀ a ∈ r, pr a) ∧ Kp f H1 H ∧ Fd H f) ⟨[], upd_same, rfl, fun v hv => absurd hv (by simp), Kp.new hD, fdOther hF nD⟩ (fun i H lt h => hgo i H lt h.choose_spec.2.2.2.1) (fun H h => hst H h.choose_spec.2.2.2.1) (fun i H x H' lt h y => ?_) (fun H h => ?_)
  · obtain ⟨r, e, el, hv, kp, fd⟩ := h
    obtain ⟨rfl, hs2⟩ := hs i x H H' lt kp fd y
    refine ⟨hw _, ?_⟩
    unfold tYes
    dsimp only
    rw [if_pos rfl]
    refine hs2 _ fun a H2 ha k2 f2 => ?_
    have e2 := k2 D _ nD e
    refine ⟨_, e2, by rw [sizeLine_eq, List.length_map]; omega, r ++ [a], ?_, by rw [List.length_append, el]; rfl, fun u hu => ?_, fun b o nb hb => ?_, fdOther f2 nD⟩
    · rw [List.map_append]
      exact upd_same
    · rcases List.mem_append.mp hu with z | z
      · exact hv u z
      · rw [List.mem_singleton.mp z]
        exact ha
    · rw [upd_ne (ne_of_none hb hD)]
      exact k2 _ _ nb (kp _ _ nb hb)
  · obtain ⟨r, e, el, hv, kp, fd⟩ := h
    exact hd H r e el hv kp fd
section
variable {P : Program} {w : World} {K : PySem.W.Frag} {mg : Str → Option Value} {base : Heap} {f : Addr} {fd : FuncData}
theorem neRows {H : Hp} {D e : Addr} {zs : List V} {rs : List (List (Option Str))} {Q : VK} (hD : H D = some (.lst zs)) (he : H e = some (.lst [])) (hz : DpAll K H zs (rs.map rowD)) (ok : ∀ r ∈ rs, RowOk r) (h : Q (.bl (!decide (rs = []))) H) : rNeD K (.ref D) (.ref e) H Q := by
  obtain ⟨a, b⟩ := allLay (ds := rs.map rowD) (n := 1) fun d hd => by
    obtain ⟨r, hr, rfl⟩ := List.mem_map.mp hd
    exact (odRow (ok r hr)).lay
  refine ⟨.list (rs.map rowD), .list [], .lst (.inl (.inl hD)) hz, .lst (.inl (.inl he)) .nil, ?_, rfl, ?_⟩
  · have e1 : (PyData.list (rs.map rowD)).canLay0 = true := a
    unfold SeqAt.shaped
    rw [e1, Bool.true_and]
    refine decide_eq_true ?_
    simp only [PyData.depth]
    omega
  · cases rs with
    | nil => exact h
    | cons t ts => exact h
def spNearR (K : PySem.W.Frag) : Sp := fun vs H Q _ => ∃ f v ks cs l, vs = [.ref f, v] ∧ Fd H f ∧ Dp K H v (trD (.rd ks cs l)) ∧ TrOk (.rd ks cs l) ∧ ks.length ≤ 4 ∧ ∀ u r H', RowOk r → Dp K H' u (rowD r) → Kp f H H' → Fd H' f → Q u H'
abbrev nNR : List Str := ["_law_feed", "_law_node", "_law_cases", "_law_case", "_law_inner", "_law_key"]
theorem scNR : FnScope nNR ["_law_feed", "_law_node"] (defScope lNear) := ⟨rfl, rfl, rfl, by decide +kernel, rfl, by decide +kernel, by decide +kernel⟩
theorem okNearR {k : Nat} (F : FnP K "_law_rows_near" lNear f fd) (B : Bn mg) (D : Has P w K mg base (k + 1) "_law_draw" ["_law_feed", "_law_many"] spDraw) (Pk : Has P w K mg base (k + 2) "_law_pick" ["_law_feed", "_law_items"] (spPick K)) (An : Has P w K mg base (k + 4) "_law_some_answer" ["_law_feed"] spAns) :
    FnOk P w K mg base CX0 (k + 5) f fd ["_law_feed", "_law_node"] (spNearR K) := by
  obtain ⟨fD, fdD, gD, kD, bD, GD⟩ := D.ex
  obtain ⟨fP, fdP, gP, kP, bP, GP⟩ := Pk.ex
  obtain ⟨fA, fdA, gA, kA, bA, GA⟩ := An.ex
  refine F.ok scNR (fun vs H Q E h => ?_) (fun cdv A outer s H vs Q E hr h => ?_)
  · obtain ⟨a, v, ks, cs, l, rfl, _⟩ := h
    rfl
  · obtain ⟨a, v, ks, cs, l, rfl, hF, hd, ok, hk4, q⟩ := h
    have hr1 : Room (k + 1) _ := hr.mono (by omega)
    have hr2 : Room (k + 2) _ := hr.mono (by omega)
    rw [TrOk] at ok
    have lcs := ok.1.1
    obtain ⟨a4, vk, vc, vl, rfl, hs4, hk, hc4, hl4⟩ := rdAt hd
    obtain ⟨b4, zs4, rfl, hb4, hz4⟩ := dpTup hc4
    obtain ⟨bk, kz, rfl, hbk, hkz⟩ := dpTup hk
    have l4 := dpLen hz4
    have lk := dpLen hkz
    rw [List.length_map] at lk
    rw [csD_map] at hz4
    rw [csD_map, List.length_map] at l4
    refine ⟨_, PSs.nox (C8.pss_cut (ps_setLc (i := 2) (own := [("_law_case", 3), ("_law_inner", 4)]) (g := gTup K 2 (gCons (gName 3) (gCons (gName 4) gNil))) (by rfl) scNR.nd rfl rfl (sw_true rfl rfl (by decide +kernel) (by decide +kernel)) (pi_tup (pe_ix ix_tup (pv 1) pe_int (fun _ _ => rfl))) (blkOk_by (N := nNR) (sc := defScope lNear) (by decide +kernel))
        (fun _ _ _ _ _ => pg_tup rfl (pgs_cons (pg_name (i := 3) scNR.nd rfl (.inl rfl) (hf := .inr rfl)) (pgs_cons (pg_name (i := 4) scNR.nd rfl (.inl rfl) (hf := .inr rfl)) pgs_nil))) (fun _ _ _ _ _ => pts_nil) (fun _ _ _ _ _ => pv 3)) (C8.pss_cut (ps_if (PW.pt (pw_and (pt_cmpR (r := rNeD K) (op_neD hr.units) (pv 2) (pe_lst pa_nil) (nomark _)) (pw_and1 (pt_cmpR op_eq (pe_call GD hr1 (by rfl) gD kD bD .nil pass0 (pa_cons (pv 0) (pa_cons (pe_int) pa_nil))) pe_int (nomark _)))))
        (pss_one (ps_ret (pe_call GP hr2 (by rfl) gP kP bP .nil pass0 (pa_cons (pv 0) (pa_cons (pv 2) pa_nil))))) pss_nil) (pss_one (ps_ret (pe_callTy (r := rTup K) (T := "tuple") call_tuple_of (by rfl) B.tuple (by decide +kernel) (pa_cons (pe_lc (own := [("_law_key", 5)]) (g := gName 5) rfl scNR.nd (pi_tup (pe_ix ix_tup (pv 1) pe_int (fun _ _ => rfl))) (blkOk_by (N := nNR) (sc := defScope lNear) (by decide +kernel))
        (fun _ _ _ _ _ => pg_name (i := 5) scNR.nd rfl (.inl rfl) (hf := .inr rfl)) (fun _ _ _ _ _ => pts_nil) (fun _ _ _ _ _ => pe_call GA hr (by rfl) gA kA bA .nil pass0 (pa_cons (pv 0) pa_nil))) pa_nil)))))), ?_⟩
    have nz : ∀ {p : Addr} {H' : Hp}, Kp a H H' → Fd H' a → H' p = none → H p = none := fun {p H'} k f' h => by
      cases e : H p with
      | none => rfl
      | some o => rw [k p o (fdNe f' h) e] at h; cases h
    refine ⟨fun σ' H' => ∃ D zs, σ' = [some (.ref a), some (.ref a4), some (.ref D), none, none, none] ∧ Same H H' ∧ H D = none ∧ H' D = some (.lst zs) ∧ DpAll K H' zs ((cs.map (·.1)).map rowD), ?_, ?_⟩
    · refine ⟨.ref a4, rfl, a4, _, 2, .ref b4, rfl, rfl, hs4, atI_nat (j := 2) rfl, b4, rfl, ⟨zs4, hb4⟩, fun D hD => ?_⟩
      refine lcJ (n := cs.length) (vs := [3, 4]) (fun m H' => ∃ zs, At H D zs H' ∧ DpAll K H' zs (((cs.take m).map (·.1)).map rowD)) ⟨[], ⟨sameUpd hD, upd_same⟩, .nil⟩
        (fun m H' lt h => ⟨zs4, zs4[m], sameTup h.choose_spec.1.1 hb4, List.getElem?_eq_getElem (by omega)⟩) (fun H' h => ⟨zs4, sameTup h.choose_spec.1.1 hb4, by omega⟩) (fun m H' x H5 ltm h y => ?_) (fun H' h => ?_)
      · obtain ⟨rfl, y⟩ := y
        obtain ⟨zs, hat, hzs⟩ := h
        have ex := y zs4 (sameTup hat.1 hb4)
        have em : (cs.map fun c => PyData.tuple [rowD c.1, trD c.2])[m]? = some (.tuple [rowD (cs[m]).1, trD (cs[m]).2]) := by rw [List.getElem?_map, List.getElem?_eq_getElem ltm]; rfl
        obtain ⟨x', g1, g2⟩ := dpAt hz4 em
        obtain rfl : x' = x := Option.some.inj (g1.symm.trans ex)
        obtain ⟨c4, ws4, rfl, hc5, hw5⟩ := dpTup (dpSame hat.1 _ _ g2)
        obtain ⟨g, t4, rfl, hg, ht4⟩ := dpTwo hw5
        refine ⟨c4, _, rfl, hc5, rfl, _, _, rfl, _, _, rfl, rfl, rfl, ?_⟩
        unfold tYes
        dsimp only
        rw [if_pos rfl]
        obtain ⟨e6, e7⟩ := hat.put (ys := zs ++ [g]) hD (Same.refl _)
        have lz := dpLen hzs
        rw [List.length_map, List.length_map, List.length_take] at lz
        refine ⟨g, rfl, zs, e6, by rw [sizeLine_eq]; omega, zs ++ [g], e7, ?_⟩
        have t6 := TS.lst (o := .lst (zs ++ [g])) e6
        rw [List.take_succ_eq_append_getElem ltm, List.map_append, List.map_append]
        exact dpSnoc (dpTS t6 (plRow _) _ hg) (rowsTS t6 _ hzs)
      · obtain ⟨zs, hat, hzs⟩ := h
        rw [List.take_length] at hzs
        exact ⟨D, zs, rfl, hat.1, hD, hat.2, hzs⟩
    rintro _ H4 ⟨D, zs, rfl, s4, hD0, eD, hzs⟩
    have F4 := hF.same s4
    have nD : D ≠ a := fdNe hF hD0
    have lz := dpLen hzs
    rw [List.length_map, List.length_map] at lz
    have rok : ∀ r ∈ cs.map (·.1), RowOk r := fun r hr => by
      obtain ⟨c, hc, rfl⟩ := List.mem_map.mp hr
      exact (csOk_mem ok.1.2 c hc).1
    refine ⟨fun σ' H' => σ' = [some (.ref a), some (.ref a4), some (.ref D), none, none, none] ∧ Kp a H H' ∧ Fd H' a, ?_, ?_⟩
    · refine ⟨.ref D, rfl, Nat.zero_le _, fun p' hp' => ?_⟩
      have s5 := sameUpd (o := .lst []) hp'
      have F5 := F4.same s5
      have k5 : Kp a H (upd H4 p' (.lst [])) := Kp.same (s4.trans s5)
      have eD5 := s5 _ _ eD
      have hzs5 := dpAllSame s5 _ _ hzs
      refine neRows eD5 upd_same hzs5 rok ⟨_, rfl, ?_⟩
      generalize upd H4 p' (.lst []) = H5 at *
      by_cases e0 : cs.map (·.1) = []
      · rw [decide_eq_true e0]
        exact iteF ⟨rfl, k5, F5⟩
      · rw [decide_eq_false e0]
        refine iteT ⟨.ref a, rfl, a, 2, rfl, F5, by decide, by decide, fun r H6 r0 r1 k6 F6 => ⟨rfl, _, rfl, ite2 (fun _ => ?_) (fun _ => ?_)⟩⟩
        · have pos : 0 < zs.length := by
            rw [lz]
            rw [← List.length_map (f := (·.1))]
            exact List.length_pos_iff.mpr e0
          refine ⟨.ref a, rfl, .ref D, rfl, a, D, zs, rfl, F6, .inl (.inl (k6 _ _ nD eD5)), nD, pos, by omega, fun i u H7 eu k7 F7 => ?_⟩
          have li : i < cs.length := by
            have := (List.getElem?_eq_some_iff.mp eu).1
            omega
          have ei : ((cs.map (·.1)).map rowD)[i]? = some (rowD (cs[i]).1) := by rw [List.getElem?_map, List.getElem?_map, List.getElem?_eq_getElem li]; rfl
          obtain ⟨u', g1, g2⟩ := dpAt hzs5 ei
          obtain rfl : u' = u := Option.some.inj (g1.symm.trans eu)
          exact q _ _ H7 (csOk_mem ok.1.2 _ (List.getElem_mem li)).1 (dpTS (tsKp F5 (k6.trans k7)) (plRow _) _ g2) ((k5.trans k6).trans k7) F7
        · exact ⟨rfl, k5.trans k6, F6⟩
    rintro _ H5 ⟨rfl, k5, F5⟩
    have t5 := tsKp hF k5
    refine ⟨.ref a4, rfl, a4, _, 1, .ref bk, rfl, rfl, TS.tup t5 hs4, atI_nat (j := 1) rfl, bk, rfl, ⟨kz, TS.tup t5 hbk⟩, fun D2 hD2 => ?_⟩
    refine lcFeedX (m := ks.length) (fun o => ∀ z, o = some z → TOk z) hD2 F5 (by omega) (fun v => rfl) (fun i H' lt k => ⟨kz, kz[i], TS.tup (tsKp F5 k) (TS.tup t5 hbk), List.getElem?_eq_getElem (by omega)⟩) (fun H' k => ⟨kz, TS.tup (tsKp F5 k) (TS.tup t5 hbk), by omega⟩) (fun i x H6 H7 lt k6 F6 y => ?_) (fun H6 r e6 el hpr k6 F6 => ?_)
    · obtain ⟨rfl, y⟩ := y
      refine ⟨rfl, fun R hR => ⟨.ref a, rfl, a, rfl, F6, fun v H8 hv8 k8 F8 => ?_⟩⟩
      rcases hv8 with rfl | ⟨z, rfl, hz⟩
      · exact hR none H8 (fun z e => by cases e) k8 F8
      · exact hR (some z) H8 (fun z' e => by cases e; exact hz) k8 F8
    · refine ⟨D2, r.map vA, rfl, .inl ⟨.inl (.inl e6), fun U hU => ?_⟩⟩
      have s9 := sameUpd (o := .tup (r.map vA)) hU
      exact q _ r _ ⟨by omega, fun z hz => hpr _ hz z rfl⟩ (rowDp (.inl (.inl upd_same))) ((k5.trans k6).trans (Kp.same s9)) (F6.same s9)
end
end TRE

set_option Elab.async false
set_option linter.all false
set_option maxRecDepth 100000
set_option maxHeartbeats 8000000
namespace TRE
open PySem PySem.Spec PyProof.Rows L2 ND KS KS.La PLC
abbrev lRun : Stmt := top 48
theorem dpAppend {K : PySem.W.Frag} {H : Hp} {ys : List V} {es : List PyData} (hy : DpAll K H ys es) : ∀ {xs : List V} {ds : List PyData}, DpAll K H xs ds → DpAll K H (xs ++ ys) (ds ++ es)
  | _, _, .nil => hy
  | _, _, .cons h r => .cons h (dpAppend hy r)
theorem catD {K : PySem.W.Frag} {H : Hp} {v u : V} {ds es : List PyData} {Q : VK} (hv : Dp K H v (.tuple ds)) (hu : Dp K H u (.tuple es)) (hl : ds.length + es.length ≤ 1000) (q : ∀ y H', Same H H' → Dp K H' y (.tuple (ds ++ es)) → Q y H') : rCatA K v u H Q := by
  cases hv with
  | @tup a xs _ ha hx =>
    cases hu with
    | @tup b ys _ hb hy =>
      have l1 := dpLen hx
      have l2 := dpLen hy
      refine ⟨a, b, xs, ys, rfl, rfl, ha, hb, by rw [sizeLine_eq]; omega, fun e => ?_, fun _ e => ?_, fun _ _ p hp => ?_⟩
      · subst e
        have : ds = [] := List.eq_nil_of_length_eq_zero l1.symm
        subst this
        exact q _ H (Same.refl H) (.tup hb hy)
      · subst e
        have : es = [] := List.eq_nil_of_length_eq_zero l2.symm
        subst this
        rw [List.append_nil] at q
        exact q _ H (Same.refl H) (.tup ha hx)
      · have s1 := sameUpd (o := .tup (xs ++ ys)) hp
        exact q _ _ s1 (.tup (.inl (.inl upd_same)) (dpAppend (dpAllSame s1 _ _ hy) (dpAllSame s1 _ _ hx)))
/-- a place of a run of the tree t, called c with as -/
def AtRun (t : Tr) (c : Str) (as : List Str) (q : Pc) : Prop := q.c = c ∧ q.as = as ∧ CanW t q.rs ∧ (∀ r ∈ q.rs, RowOk r) ∧ ∃ n : Nat, q.n = (n : Int) ∧ CanD (walk t q.rs) n
theorem canDSnoc : ∀ {n : Nat} {t : Tr} {o ps m}, CanD t n → down t n = .wr o ps m → CanD t (n + 1)
  | 0, .wr _ _ _, _, _, _, _, e => by
    cases e
    show CanD _ 0
    cases ‹Tr› <;> trivial
  | 0, .stop, _, _, _, _, e => by cases e
  | 0, .rd _ _ _, _, _, _, _, e => by cases e
  | n + 1, .wr _ _ s, o, ps, m, h, e => canDSnoc (n := n) (t := s) (o := o) (ps := ps) (m := m) h e
  | n + 1, .stop, _, _, _, h, _ => h.elim
  | n + 1, .rd _ _ _, _, _, _, h, _ => h.elim
theorem nextDown : ∀ {n : Nat} {t : Tr} {ks cs l}, CanD t n → down t n = .rd ks cs l → nextRead t = .rd ks cs l
  | 0, .wr _ _ _, _, _, _, _, e => by cases e
  | 0, .stop, _, _, _, _, e => by cases e
  | 0, .rd _ _ _, _, _, _, _, e => e
  | n + 1, .wr _ _ s, ks, cs, l, h, e => nextDown (n := n) (t := s) (ks := ks) (cs := cs) (l := l) h e
  | n + 1, .stop, _, _, _, h, _ => h.elim
  | n + 1, .rd _ _ _, _, _, _, h, _ => h.elim
theorem canWSnoc : ∀ {rs : List (List (Option Str))} {t : Tr} {r : List (Option Str)}, CanW t rs → (∃ ks cs l, nextRead (walk t rs) = .rd ks cs l) → CanW t (rs ++ [r])
  | [], t, r, _, h => ⟨h, trivial⟩
  | x :: rs, t, r, h, h2 => ⟨h.1, canWSnoc (rs := rs) h.2 h2⟩
section
variable {P : Program} {w : World} {K : PySem.W.Frag} {mg : Str → Option Value} {base : Heap} {f : Addr} {fd : FuncData}
def spRun (K : PySem.W.Frag) : Sp := fun vs H Q _ => ∃ f d kvs c va v t as, vs = [.ref f, .ref d, .str c, va] ∧ Fd H f ∧ H d = some (.dK kvs) ∧ d ≠ f ∧ valV kvs (.inr c) = some v ∧ Dp K H v (trD t) ∧ TrOk t ∧ Od 58 (trD t) ∧ (∀ rs ks cs l, nextRead (walk t rs) = .rd ks cs l → ks.length ≤ 4) ∧
  TOk c ∧ Dp K H va (argsD as) ∧ (∀ z ∈ as, TOk z) ∧ as.length ≤ 4 ∧ ∀ (R : Addr) (ys : List V) (ds : List Pc) (H' : Hp), H R = none → H' R = some (.lst ys) → DpAll K H' ys (ds.map pcD) → ds.length ≤ 40 → (∀ q ∈ ds, AtRun t c as q ∧ q.rs.length ≤ 40) → Kp f H H' → Fd H' f → Q (.ref R) H'
abbrev nRun : List Str := ["_law_feed", "_law_recipes", "_law_call", "_law_arguments", "_law_place", "_law_found", "_law_turn", "_law_step", "_law_rows", "_law_row"]
theorem scRun : FnScope nRun ["_law_feed", "_law_recipes", "_law_call", "_law_arguments"] (defScope lRun) := ⟨rfl, rfl, rfl, by decide +kernel, rfl, by decide +kernel, by decide +kernel⟩
theorem atOk {t : Tr} {c : Str} {as : List Str} {q : Pc} (h : AtRun t c as q) (hc : TOk c) (ha : ∀ z ∈ as, TOk z) (hl : as.length ≤ 4) (hr : q.rs.length ≤ 100) : Ok q := by
  obtain ⟨rfl, rfl, _, h4, _⟩ := h
  exact ⟨hc, ha, hl, h4, hr⟩
theorem okRun {k : Nat} (F : FnP K "_law_run" lRun f fd) (B : Bn mg) (St : Has P w K mg base (k + 5) "_law_step_at" ["_law_recipes", "_law_place"] (spLStep K)) (Nr : Has P w K mg base (k + 5) "_law_rows_near" ["_law_feed", "_law_node"] (spNearR K)) (Na : Has P w K mg base (k + 5) "_law_node_at" ["_law_node", "_law_rows"] (spNodeAt K)) :
    FnOk P w K mg base CX0 (k + 6) f fd ["_law_feed", "_law_recipes", "_law_call", "_law_arguments"] (spRun K) := by
  obtain ⟨fS, fdS, gS, kS, bS, GS⟩ := St.ex
  obtain ⟨fN, fdN, gN, kN, bN, GN⟩ := Nr.ex
  obtain ⟨fA, fdA, gA, kA, bA, GA⟩ := Na.ex
  refine F.ok scRun (fun vs H Q E h => ?_) (fun cdv A outer s H vs Q E hr h => ?_)
  · obtain ⟨a, d, kvs, c, va, v, t, as, rfl, _⟩ := h
    rfl
  · obtain ⟨a, d, kvs, c, va, v, t, as, rfl, hF, ed, nd, ev, hv, ht, hod, hks, tc, hva, tas, las, q⟩ := h
    refine ⟨_, PSs.nox (C8.pss_cut (ps_par (i := 4) (j := 5) (by rfl) scRun.nd rfl rfl (by decide) rfl rfl (pa_cons (pe_tup (pa_cons (pv 2) (pa_cons (pv 3) (pa_cons (pe_tup pa_nil) (pa_cons (pe_int) pa_nil))))) (pa_cons (pe_lst pa_nil) pa_nil)) (by rfl)) (pss_cons (ps_for PassesOwn.never rfl (pi_range1 (by rfl) B.range (pa_cons (pe_int) pa_nil)) (pg_name (i := 6) scRun.nd rfl (.inl rfl))
        (C8.pss_cut (ps_expr (pe_bm PySem.F.plainAttrs_list PySem.F.slot_list_append PySem.F.type_list_append mt_append (pv 5) (pa_cons (pv 4) pa_nil))) (C8.pss_cut (ps_set (i := 7) scRun.nd rfl (.inl rfl) (pe_call GS hr (by rfl) gS kS bS .nil pass0 (pa_cons (pv 1) (pa_cons (pv 4) pa_nil)))) (pss_cons (ps_if (pt_cmpR op_eq (pe_ix ix_tup (pv 7) pe_int (fun _ _ => rfl)) pe_str (nomark _)) (pss_one (ps_ret (pv 5))) pss_nil) (pss_cons (ps_set (i := 8) scRun.nd rfl (.inl rfl) (pe_ix ix_tup (pv 4) pe_int (fun _ _ => rfl))) (pss_one (ps_if (pt_cmpR op_eq (pe_ix ix_tup (pv 7) pe_int (fun _ _ => rfl)) pe_str (nomark _)) (pss_one (ps_set (i := 4) scRun.nd rfl (.inl rfl) (pe_tup (pa_cons (pv 2) (pa_cons (pv 3) (pa_cons (pv 8) (pa_cons (pe_op op_add (pe_ix ix_tup (pv 4) pe_int (fun _ _ => rfl)) pe_int) pa_nil)))))))
            (pss_cons (ps_set (i := 9) scRun.nd rfl (.inl rfl) (pe_call GN hr (by rfl) gN kN bN .nil pass0 (pa_cons (pv 0) (pa_cons (pe_call GA hr (by rfl) gA kA bA .nil pass0 (pa_cons (pe_dget (Nat.lt_of_le_of_lt (Nat.add_le_add_left (by decide) _) hr.units) (pv 1) (pv 2) (fun _ _ => rfl)) (pa_cons (pv 8) pa_nil))) pa_nil)))) (pss_one (ps_set (i := 4) scRun.nd rfl (.inl rfl) (pe_tup (pa_cons (pv 2) (pa_cons (pv 3) (pa_cons (pe_op op_catA (pv 8) (pe_tup (pa_cons (pv 9) pa_nil))) (pa_cons (pe_int) pa_nil))))))))))))))) (pss_one (ps_ret (pv 5))))), ?_⟩
    refine ⟨fun σ' H' => ∃ pl R, σ' = [some (.ref a), some (.ref d), some (.str c), some va, some pl, some (.ref R), none, none, none, none] ∧ Same H H' ∧ Dp K H' pl (pcD ⟨c, as, [], 0⟩) ∧ H' R = some (.lst []) ∧ H R = none, ?_, ?_⟩
    · refine ⟨.str c, rfl, va, rfl, Nat.zero_le _, fun p1 h1 => ⟨(by show 4 ≤ sizeLine; decide), fun p2 h2 => ⟨Nat.zero_le _, fun R hR => ⟨_, _, rfl, .ref p2, R, rfl, ?_, ?_, upd_same, ?_⟩⟩⟩⟩
      · exact ((sameUpd h1).trans (sameUpd h2)).trans (sameUpd hR)
      · have s1 := sameUpd (o := .tup []) h1
        have s2 := sameUpd (o := .tup [.str c, va, .ref p1, .int 0]) h2
        have s3 := sameUpd (o := .lst []) hR
        exact dpSame s3 _ _ (pcMk (p := ⟨c, as, [], 0⟩) (.inl (.inl upd_same)) (dpSame (s1.trans s2) _ _ hva) (.tup (sameTup s2 (.inl (.inl upd_same))) .nil))
      · cases e : H R with
        | none => rfl
        | some o =>
          have := ((sameUpd (o := .tup []) h1).trans (sameUpd (o := .tup [.str c, va, .ref p1, .int 0]) h2)) _ _ e
          rw [this] at hR
          cases hR
    rintro _ H1 ⟨pl, R, rfl, s1, dpl, eR, hR0⟩
    have nR : R ≠ a := fdNe hF hR0
    have F1 := hF.same s1
    refine ⟨40, rfl, by omega, by omega, ?_⟩
    refine forJ (n := 40) (fun i σ' H' => ∃ pl p x6 x7 x8 x9 ys ds, σ' = [some (.ref a), some (.ref d), some (.str c), some va, some pl, some (.ref R), x6, x7, x8, x9] ∧ Dp K H' pl (pcD p) ∧ AtRun t c as p ∧ p.rs.length ≤ i ∧ (∃ n : Nat, p.n = (n : Int) ∧ n ≤ i) ∧ H' R = some (.lst ys) ∧ DpAll K H' ys (List.map pcD ds) ∧ ds.length = i ∧ (∀ q ∈ ds, AtRun t c as q ∧ q.rs.length ≤ 40) ∧ Kp a H H' ∧ Fd H' a)
      ⟨pl, ⟨c, as, [], 0⟩, none, none, none, none, [], [], rfl, dpl, ⟨rfl, rfl, trivial, fun r hr => absurd hr (by simp), 0, rfl, by cases t <;> trivial⟩, Nat.le_refl _, ⟨0, rfl, Nat.le_refl _⟩, eR, .nil, rfl, fun q hq => absurd hq (by simp), Kp.same s1, F1⟩
      (fun i σ' H' lt _ => lt) (fun σ' H' _ => Nat.le_refl _) (fun i σ' H2 x H3 lt h y => ?_) (fun σ' H' h => ?_)
    · obtain ⟨rfl, rfl⟩ := y
      obtain ⟨pl, p, x6, x7, x8, x9, ys, ds, rfl, dpl, hat, lrs, ⟨n, en, ln⟩, eR, hys, lds, hall, k3, F3⟩ := h
      have ly := dpLen hys
      rw [List.length_map] at ly
      have okp : Ok p := atOk hat tc tas las (by omega)
      have pls : ∀ {ds : List Pc} {H H' : Hp} {xs : List V}, TS H H' → DpAll K H xs (ds.map pcD) → DpAll K H' xs (ds.map pcD) := fun t h => allPl (n := 4) (fun d hd => by
        obtain ⟨p', _, rfl⟩ := List.mem_map.mp hd
        exact plPc p') t h
      -- the place is kept
      refine ⟨fun σ' H' => σ' = [some (.ref a), some (.ref d), some (.str c), some va, some pl, some (.ref R), some (.int (0 + i)), x7, x8, x9] ∧ Dp K H' pl (pcD p) ∧ H' R = some (.lst (ys ++ [pl])) ∧ DpAll K H' (ys ++ [pl]) (List.map pcD (ds ++ [p])) ∧ Kp a H H' ∧ Fd H' a, ?_, ?_⟩
      · have t4 := TS.lst (o := .lst (ys ++ [pl])) eR
        refine ⟨.ref R, rfl, .inl ⟨rfl, _, .inl (.inl eR)⟩, pl, rfl, R, ys, pl, rfl, rfl, eR, by rw [sizeLine_eq]; omega, rfl, dpTS t4 (plPc _) _ dpl, upd_same, ?_, fun b o nb hb => ?_, fdOther F3 nR⟩
        · rw [List.map_append]
          exact dpSnoc (dpTS t4 (plPc _) _ dpl) (pls t4 hys)
        · rw [upd_ne (ne_of_none hb hR0)]
          exact k3 _ _ nb hb
      rintro _ H4 ⟨rfl, dpl, eR, hys, k4, F4⟩
      have hall2 : ∀ q ∈ ds ++ [p], AtRun t c as q ∧ q.rs.length ≤ 40 := fun q hq => by
        rcases List.mem_append.mp hq with z | z
        · exact hall q z
        · rw [List.mem_singleton.mp z]
          exact ⟨hat, by omega⟩
      have ed4 := k4 _ _ nd ed
      have dv4 : Dp K H4 v (trD t) := trTS (tsKp hF k4) _ _ hv
      obtain ⟨hc1, hc2, hw, hrok, n', en', hcd⟩ := hat
      obtain rfl : n' = n := by omega
      -- the step
      refine ⟨fun σ' H' => ∃ st, σ' = [some (.ref a), some (.ref d), some (.str c), some va, some pl, some (.ref R), some (.int (0 + i)), some st, x8, x9] ∧ Same H4 H' ∧ Dp K H' st (stepD (p.as.map some :: p.rs) (down (walk t p.rs) n')), ?_, ?_⟩
      · exact ⟨.ref d, rfl, pl, rfl, d, kvs, pl, p, t, rfl, ed4, dpl, okp, .inl ⟨v, by rw [hc1]; exact ev, dv4⟩, ht, hod, hw, n', en, hcd, by omega, fun r H' s' hd' => ⟨r, rfl, s', hd'⟩⟩
      rintro _ H5 ⟨st, rfl, s5, dst⟩
      have dpl5 := dpSame s5 _ _ dpl
      have eR5 := s5 _ _ eR
      have hys5 := dpAllSame s5 _ _ hys
      have k5 : Kp a H H5 := k4.trans (Kp.same s5)
      have F5 := F4.same s5
      obtain ⟨ap, va', vr, rfl, hsp, hap, hvr⟩ := pcAt dpl5
      have hva5 : Dp K H5 va (argsD as) := dpTS (tsKp hF k5) (plArgs _) _ hva
      have ldp : (ds ++ [p]).length = i + 1 := by rw [List.length_append, lds]; rfl
      generalize eT : down (walk t p.rs) n' = T at *
      have head : ∃ a9 xs9 z, st = .ref a9 ∧ SqT K H5 a9 xs9 ∧ atI xs9 0 = some (.str z) ∧ (z = "stop" ∨ (z = "write" ∧ ∃ o ps m, T = .wr o ps m) ∨ (z = "read" ∧ ∃ ks cs l, T = .rd ks cs l)) := by
        have hd1 : ∀ {z : Str} {r : List PyData}, Dp K H5 st (.tuple (.str z :: r)) → ∃ a9 xs9, st = .ref a9 ∧ SqT K H5 a9 xs9 ∧ atI xs9 0 = some (.str z) := fun h => by
          obtain ⟨a9, xs9, rfl, hs9, hx9⟩ := dpTup h
          cases hx9 with
          | cons h1 h2 =>
            cases h1
            exact ⟨a9, _, rfl, hs9, atI_nat (j := 0) rfl⟩
        cases T with
        | stop => obtain ⟨x, y, e, g1, g2⟩ := hd1 dst; exact ⟨x, y, _, e, g1, g2, .inl rfl⟩
        | rd ks cs l => obtain ⟨x, y, e, g1, g2⟩ := hd1 dst; exact ⟨x, y, _, e, g1, g2, .inr (.inr ⟨rfl, _, _, _, rfl⟩)⟩
        | wr o ps m =>
          have dst2 : Dp K H5 st (if (Txt.join "" (ps.map (pieceS (p.as.map some :: p.rs)))).length ≤ 400 then .tuple [.str "write", .str o, .str (Txt.join "" (ps.map (pieceS (p.as.map some :: p.rs))))] else .tuple [.str "stop"]) := dst
          split at dst2
          · obtain ⟨x, y, e, g1, g2⟩ := hd1 dst2; exact ⟨x, y, _, e, g1, g2, .inr (.inl ⟨rfl, _, _, _, rfl⟩)⟩
          · obtain ⟨x, y, e, g1, g2⟩ := hd1 dst2; exact ⟨x, y, _, e, g1, g2, .inl rfl⟩
      obtain ⟨a9, xs9, z, rfl, hs9, h90, hz⟩ := head
      refine ⟨.ref a9, rfl, a9, xs9, 0, .str z, rfl, rfl, hs9, h90, rfl, _, rfl, ?_⟩
      rw [wordEq]
      rcases hz with rfl | ⟨rfl, o, ps, m, rfl⟩ | ⟨rfl, ks, cs, l, rfl⟩
      · rw [ss]
        exact iteT ⟨.ref R, rfl, q R _ (ds ++ [p]) H5 hR0 eR5 hys5 (by omega) hall2 k5 F5⟩
      · rw [ws]
        refine iteF ⟨.ref ap, rfl, ap, _, 2, vr, rfl, rfl, hsp, atI_nat (j := 2) rfl, ?_⟩
        refine ⟨.ref a9, rfl, a9, xs9, 0, .str "write", rfl, rfl, hs9, h90, rfl, _, rfl, ?_⟩
        rw [wordEq, ww]
        refine iteT ⟨.str c, rfl, va, rfl, vr, rfl, .ref ap, rfl, ap, _, 3, .int p.n, rfl, rfl, hsp, atI_nat (j := 3) rfl, p.n, 1, rfl, rfl, (by show 4 ≤ sizeLine; decide), fun U hU => ?_⟩
        have sU := sameUpd (o := .tup [.str c, va, vr, .int (p.n + 1)]) hU
        refine ⟨.ref U, ⟨c, as, p.rs, p.n + 1⟩, _, _, _, _, _, ds ++ [p], rfl, pcMk (p := ⟨c, as, p.rs, p.n + 1⟩) (.inl (.inl upd_same)) (dpSame sU _ _ hva5) (dpSame sU _ _ hvr), ⟨rfl, rfl, hw, hrok, n' + 1, by show p.n + 1 = _; omega, canDSnoc hcd eT⟩, by show p.rs.length ≤ i + 1; omega, ⟨n' + 1, by show p.n + 1 = _; omega, by omega⟩, sU _ _ eR5, dpAllSame sU _ _ hys5, ldp, hall2, k5.trans (Kp.same sU), F5.same sU⟩
      · have rs' : (decide (("read" : Str) = "stop")) = false := by decide +kernel
        rw [rs']
        refine iteF ⟨.ref ap, rfl, ap, _, 2, vr, rfl, rfl, hsp, atI_nat (j := 2) rfl, ?_⟩
        refine ⟨.ref a9, rfl, a9, xs9, 0, .str "read", rfl, rfl, hs9, h90, rfl, _, rfl, ?_⟩
        rw [wordEq, rw']
        have nx : nextRead (walk t p.rs) = .rd ks cs l := nextDown hcd eT
        have ed5 := k5 _ _ nd ed
        have dv5 : Dp K H5 v (trD t) := trTS (tsKp hF k5) _ _ hv
        have okT : TrOk (.rd ks cs l) := by rw [← nx]; exact okNextT (okWalk ht)
        refine iteF ⟨.ref a, rfl, .ref d, rfl, .str c, rfl, d, v, rfl, DGet.k (k := .inr c) ed5 |> fun g => (by rw [ev] at g; exact g), vr, rfl, ?_⟩
        refine ⟨v, vr, t, p.rs, rfl, dv5, ht, hod, hvr, hrok, hw, fun nd6 H6 s6 dn6 => ?_⟩
        rw [nx] at dn6
        refine ⟨a, nd6, ks, cs, l, rfl, F5.same s6, dn6, okT, hks _ _ _ _ nx, fun u r H7 rok du k7 F7 => ?_⟩
        have k57 : Kp a H5 H7 := (Kp.same s6).trans k7
        have t57 := tsKp F5 k57
        refine ⟨.str c, rfl, va, rfl, vr, rfl, u, rfl, (by show 1 ≤ sizeLine; decide), fun T1 hT1 => ?_⟩
        have s8 := sameUpd (o := .tup [u]) hT1
        have d1 : Dp K (upd H7 T1 (.tup [u])) (.ref T1) (.tuple [rowD r]) := .tup (.inl (.inl upd_same)) (.cons (dpSame s8 _ _ du) .nil)
        have dr7 : Dp K (upd H7 T1 (.tup [u])) vr (.tuple (p.rs.map rowD)) := dpSame s8 _ _ (dpTS t57 (plRows _) _ hvr)
        refine catD dr7 d1 (by rw [List.length_map]; show p.rs.length + 1 ≤ 1000; omega) fun y H9 s9 dz => ⟨(by show 4 ≤ sizeLine; decide), fun U hU => ?_⟩
        have sU := sameUpd (o := .tup [.str c, va, y, .int 0]) hU
        have dz2 : Dp K H9 y (rowsD (p.rs ++ [r])) := by
          unfold rowsD
          rw [List.map_append]
          exact dz
        have kA : Kp a H5 (upd H9 U (.tup [.str c, va, y, .int 0])) := k57.trans (Kp.same ((s8.trans s9).trans sU))
        have tA := tsKp F5 kA
        have FA := F7.same ((s8.trans s9).trans sU)
        refine ⟨.ref U, ⟨c, as, p.rs ++ [r], 0⟩, _, _, _, _, _, ds ++ [p], rfl, pcMk (p := ⟨c, as, p.rs ++ [r], 0⟩) (.inl (.inl upd_same)) (dpTS tA (plArgs _) _ hva5) (dpSame sU _ _ dz2), ⟨rfl, rfl, canWSnoc hw ⟨_, _, _, nx⟩, fun r' hr' => ?_, 0, rfl, ?_⟩, by show (p.rs ++ [r]).length ≤ i + 1; rw [List.length_append]; show p.rs.length + 1 ≤ i + 1; omega, ⟨0, rfl, Nat.zero_le _⟩, kA _ _ nR eR5, ?_, ldp, hall2, k5.trans kA, FA⟩
        · rcases List.mem_append.mp hr' with z | z
          · exact hrok r' z
          · rw [List.mem_singleton.mp z]; exact rok
        · show CanD (walk t (p.rs ++ [r])) 0
          cases walk t (p.rs ++ [r]) <;> trivial
        · exact pls tA hys5
    · obtain ⟨pl, p, x6, x7, x8, x9, ys, ds, rfl, dpl, hat, lrs, _, eR, hys, lds, hall, k3, F3⟩ := h
      exact ⟨.ref R, rfl, q R ys ds H' hR0 eR hys (by omega) hall k3 F3⟩
end
end TRE

set_option Elab.async false
set_option linter.all false
set_option maxRecDepth 100000
set_option maxHeartbeats 8000000
namespace TRE
open PySem PySem.Spec PyProof.Rows L2 ND KS KS.La PLC
abbrev lParts : Stmt := top 37
theorem plPt (p : Pt) : Pl 1 (ptD p) := by
  cases p with
  | txt z => exact .str _ _
  | itm r i =>
    refine .tup fun d hd => ?_
    simp only [List.mem_cons, List.not_mem_nil, or_false] at hd
    rcases hd with rfl | rfl <;> exact .int _ _
section
variable {P : Program} {w : World} {K : PySem.W.Frag} {mg : Str → Option Value} {base : Heap} {f : Addr} {fd : FuncData}
def spParts (K : PySem.W.Frag) : Sp := fun vs H Q _ => ∃ f : Addr, vs = [.ref f] ∧ Fd H f ∧ ∀ v ps H', ps.length ≤ 3 → (∀ p ∈ ps, PtOk p) → Dp K H' v (.tuple (List.map ptD ps)) → Kp f H H' → Fd H' f → Q v H'
abbrev nParts : List Str := ["_law_feed", "_law_found", "_law_turn", "_law_pair"]
theorem scParts : FnScope nParts ["_law_feed"] (defScope lParts) := ⟨rfl, rfl, rfl, by decide +kernel, rfl, by decide +kernel, by decide +kernel⟩
theorem okSomeParts {k : Nat} (F : FnP K "_law_some_parts" lParts f fd) (B : Bn mg) (D : Has P w K mg base (k + 1) "_law_draw" ["_law_feed", "_law_many"] spDraw) (T : Has P w K mg base (k + 3) "_law_some_text" ["_law_feed"] spText) : FnOk P w K mg base CX0 (k + 4) f fd ["_law_feed"] (spParts K) := by
  obtain ⟨fD, fdD, gD, kD, bD, GD⟩ := D.ex
  obtain ⟨fT, fdT, gT, kT, bT, GT⟩ := T.ex
  refine F.ok scParts (fun vs H Q E h => ?_) (fun cdv A outer s H vs Q E hr h => ?_)
  · obtain ⟨a, rfl, _⟩ := h
    rfl
  · obtain ⟨a, rfl, hF, q⟩ := h
    have hr1 : Room (k + 1) _ := hr.mono (by omega)
    refine ⟨_, PSs.nox (pss_cons (ps_set (i := 1) scParts.nd rfl (.inl rfl) (pe_lst pa_nil)) (pss_cons (ps_for PassesOwn.never rfl (pi_range1 (by rfl) B.range (pa_cons (pe_call GD hr1 (by rfl) gD kD bD .nil pass0 (pa_cons (pv 0) (pa_cons (pe_int) pa_nil))) pa_nil)) (pg_name (i := 2) scParts.nd rfl (.inl rfl))
        (pss_cons (ps_set (i := 3) scParts.nd rfl (.inl rfl) (pe_tup (pa_cons (pe_op op_sub (pe_call GD hr1 (by rfl) gD kD bD .nil pass0 (pa_cons (pv 0) (pa_cons (pe_int) pa_nil))) pe_int) (pa_cons (pe_op op_sub (pe_call GD hr1 (by rfl) gD kD bD .nil pass0 (pa_cons (pv 0) (pa_cons (pe_int) pa_nil))) pe_int) pa_nil)))) (pss_one (ps_expr (pe_bm PySem.F.plainAttrs_list PySem.F.slot_list_append PySem.F.type_list_append mt_append (pv 1) (pa_cons (pe_ifExp (pt_cmpR op_gt (pe_call GD hr1 (by rfl) gD kD bD .nil pass0 (pa_cons (pv 0) (pa_cons (pe_int) pa_nil))) pe_int (nomark _)) (pv 3) (pe_call GT hr (by rfl) gT kT bT .nil pass0 (pa_cons (pv 0) pa_nil))) pa_nil)))))) (pss_one (ps_ret (pe_callTy call_tuple_of (by rfl) B.tuple (by decide +kernel) (pa_cons (pv 1) pa_nil)))))), ?_⟩
    refine ⟨Nat.zero_le _, fun R hR => ?_⟩
    have nR := fdNe hF hR
    have F1 := hF.new (o := .lst []) hR
    have pls : ∀ {ps : List Pt} {H H' : Hp} {xs : List V}, TS H H' → DpAll K H xs (ps.map ptD) → DpAll K H' xs (ps.map ptD) := fun t h => allPl (n := 1) (fun d hd => by
      obtain ⟨p', _, rfl⟩ := List.mem_map.mp hd
      exact plPt p') t h
    refine ⟨.ref a, rfl, a, 4, rfl, F1, by decide, by decide, fun r H2 r0 r1 k2 F2 => ⟨r, rfl, by omega, by omega, ?_⟩⟩
    obtain ⟨m, rfl⟩ : ∃ m : Nat, r = (m : Int) := ⟨r.toNat, by omega⟩
    rw [Int.toNat_natCast]
    refine forJ (n := m) (fun i σ' H' => ∃ t u rs ps, σ' = [some (.ref a), some (.ref R), t, u] ∧ H' R = some (.lst rs) ∧ DpAll K H' rs (List.map ptD ps) ∧ ps.length = i ∧ (∀ p ∈ ps, PtOk p) ∧ Kp a H H' ∧ Fd H' a) ⟨none, none, [], [], rfl, k2 _ _ nR upd_same, .nil, rfl, fun v hv => absurd hv (by simp), (Kp.new hR).trans k2, F2⟩ (fun i σ' H' lt _ => lt) (fun σ' H' _ => Nat.le_refl _)
      (fun i σ' H3 x H4 lt h y => ?_) (fun σ' H' h => ?_)
    · obtain ⟨rfl, rfl⟩ := y
      obtain ⟨t, u, rs, ps, rfl, eR, hrs, lR, hv, k3, F3⟩ := h
      have lrs := dpLen hrs
      rw [List.length_map] at lrs
      refine ⟨.ref a, rfl, a, 5, rfl, F3, by decide, by decide, fun x1 H5 a0 a1 k5 F5 => ⟨x1, 1, rfl, rfl, .ref a, rfl, a, 6, rfl, F5, by decide, by decide, fun x2 H6 b0 b1 k6 F6 => ⟨x2, 1, rfl, rfl, (by show 2 ≤ sizeLine; decide), fun p hp => ?_⟩⟩⟩
      have F7 := F6.new (o := .tup [.int (x1 - 1), .int (x2 - 1)]) hp
      have k7 : Kp a H4 (upd H6 p (.tup [.int (x1 - 1), .int (x2 - 1)])) := (k5.trans k6).trans (Kp.new hp)
      have v7 : Dp K (upd H6 p (.tup [.int (x1 - 1), .int (x2 - 1)])) (.ref p) (ptD (.itm (x1 - 1) (x2 - 1))) := .tup (.inl (.inl upd_same)) (.cons (.int _) (.cons (.int _) .nil))
      generalize upd H6 p (.tup [.int (x1 - 1), .int (x2 - 1)]) = H7 at *
      have eR7 := k7 _ _ nR eR
      have fin : ∀ (v : V) (pt : Pt) H8, PtOk pt → Dp K H8 v (ptD pt) → Kp a H7 H8 → Fd H8 a → ∃ rs' ps', upd H8 R (.lst (rs ++ [v])) R = some (.lst rs') ∧ DpAll K (upd H8 R (.lst (rs ++ [v]))) rs' (List.map ptD ps') ∧ ps'.length = i + 1 ∧ (∀ u ∈ ps', PtOk u) ∧ Kp a H (upd H8 R (.lst (rs ++ [v]))) ∧ Fd (upd H8 R (.lst (rs ++ [v]))) a := fun v pt H8 ok8 hv8 k8 F8 => by
        have eR8 := k8 _ _ nR eR7
        have t9 := TS.lst (o := .lst (rs ++ [v])) eR8
        refine ⟨rs ++ [v], ps ++ [pt], upd_same, ?_, by rw [List.length_append, lR]; rfl, fun u hu => ?_, fun b o nb hb => ?_, fdOther F8 nR⟩
        · rw [List.map_append]
          exact dpSnoc (dpTS t9 (plPt _) _ hv8) (pls ((tsKp F3 (k7.trans k8)).trans t9) hrs)
        · rcases List.mem_append.mp hu with z | z
          · exact hv u z
          · rw [List.mem_singleton.mp z]
            exact ok8
        · rw [upd_ne (ne_of_none hb hR)]
          exact k8 _ _ nb (k7 _ _ nb (k3 _ _ nb hb))
      refine ⟨.ref R, rfl, .inl ⟨rfl, _, .inl (.inl eR7)⟩, .ref a, rfl, a, 3, rfl, F7, by decide, by decide, fun x3 H8 c0 c1 k8 F8 => ⟨_, _, rfl, rfl, _, rfl, ite2 (fun _ => ?_) (fun _ => ?_)⟩⟩
      · refine ⟨.ref p, rfl, R, rs, .ref p, rfl, rfl, k8 _ _ nR eR7, by rw [sizeLine_eq]; omega, ?_⟩
        obtain ⟨rs', ps', e1, e2, e3, e4, e5, e6⟩ := fin (.ref p) (.itm (x1 - 1) (x2 - 1)) H8 trivial (dpTS (tsKp F7 k8) (plPt _) _ v7) k8 F8
        exact ⟨_, _, rs', ps', rfl, e1, e2, e3, e4, e5, e6⟩
      · refine ⟨.ref a, rfl, a, rfl, F8, fun z H9 tz k9 F9 => ?_⟩
        refine ⟨R, rs, .str z, rfl, rfl, k9 _ _ nR (k8 _ _ nR eR7), by rw [sizeLine_eq]; omega, ?_⟩
        obtain ⟨rs', ps', e1, e2, e3, e4, e5, e6⟩ := fin (.str z) (.txt z) H9 tz (.str z) (k8.trans k9) F9
        exact ⟨_, _, rs', ps', rfl, e1, e2, e3, e4, e5, e6⟩
    · obtain ⟨t, u, rs, ps, rfl, eR, hrs, lR, hv, k3, F3⟩ := h
      refine ⟨.ref R, rfl, R, rs, rfl, .inl ⟨.inl (.inl eR), fun T hT => ?_⟩⟩
      exact q _ ps _ (by omega) hv (.tup (.inl (.inl upd_same)) (dpAllSame (sameUpd hT) _ _ hrs)) (k3.trans (Kp.new hT)) (F3.new hT)
end
end TRE

set_option Elab.async false
set_option linter.all false
set_option maxRecDepth 100000
set_option maxHeartbeats 8000000
namespace TRE
open PySem PySem.Spec PyProof.Rows L2 ND KS KS.La PLC
theorem sokEmpty : SOk "" := by unfold SOk; decide +kernel
theorem sokJoin : ∀ l : List Str, (∀ z ∈ l, SOk z) → SOk (Str.join "" l)
  | [], _ => by
    show SOk Str.empty
    unfold SOk
    decide +kernel
  | [x], h => h x List.mem_cons_self
  | x :: y :: l, h => by
    show SOk (x ++ "" ++ Str.join "" (y :: l))
    exact sokCat (sokCat (h x List.mem_cons_self) sokEmpty) (sokJoin (y :: l) fun z hz => h z (List.mem_cons_of_mem _ hz))
theorem sokTxt (l : List Str) (h : ∀ z ∈ l, SOk z) : SOk (Txt.join "" l) := by
  have e : Txt.join "" l = Str.join "" l := StrLaws.glued_eq_join "" l
  rw [e]
  exact sokJoin l h
/-- a step's depth and sizes -/
theorem odStep {n : Nat} {rows : List (List (Option Str))} {t : Tr} (h : Od (n + 1) (trD t)) (ok : TrOk t) (hr : RowsOk rows) : Od (n + 1) (stepD rows t) := by
  have stp : Od (n + 1) (.tuple [.str "stop"]) := .tup (by show 1 ≤ 100; omega) fun d hd => by
    rw [List.mem_singleton.mp hd]
    exact .str _ (by unfold SOk; decide +kernel) (by decide +kernel)
  cases t with
  | stop => exact stp
  | rd ks cs l =>
    rw [trD] at h
    cases h with
    | tup h1 h2 =>
      refine .tup (by show 2 ≤ 100; omega) fun d hd => ?_
      simp only [List.mem_cons, List.not_mem_nil, or_false] at hd
      rcases hd with rfl | rfl
      · exact h2 _ (by simp)
      · exact h2 _ (by simp)
  | wr o ps m =>
    rw [TrOk] at ok
    rw [trD] at h
    show Od (n + 1) (if (Txt.join "" (ps.map (pieceS rows))).length ≤ 400 then .tuple [.str "write", .str o, .str (Txt.join "" (ps.map (pieceS rows)))] else .tuple [.str "stop"])
    split
    · rename_i hl
      cases h with
      | tup h1 h2 =>
        refine .tup (by show 3 ≤ 100; omega) fun d hd => ?_
        simp only [List.mem_cons, List.not_mem_nil, or_false] at hd
        rcases hd with rfl | rfl | rfl
        · exact h2 _ (by simp)
        · exact h2 _ (by simp)
        · refine .str _ (sokTxt _ fun z hz => ?_) (by omega)
          obtain ⟨p, hp, rfl⟩ := List.mem_map.mp hz
          exact (pieceTok hr (ok.1.2 p hp)).1
    · exact stp
theorem dpAtV {K : PySem.W.Frag} {H : Hp} : ∀ {vs : List V} {ds : List PyData}, DpAll K H vs ds → ∀ {i : Nat} {v : V}, vs[i]? = some v → ∃ d, ds[i]? = some d ∧ Dp K H v d
  | _, _, .nil, i, v, e => by simp at e
  | _, _, .cons h r, 0, v, e => ⟨_, rfl, by obtain rfl := Option.some.inj e; exact h⟩
  | _, _, .cons h r, i + 1, v, e => dpAtV r e
theorem svDp {K : PySem.W.Frag} {H : Hp} {n : Nat} {d : PyData} (o : Od n d) : ∀ {v w : V}, Dp K H v d → Dp K H w d → Sv K H n v w := by
  induction o with
  | non n => intro v w a b; cases a; cases b; exact .flat .non
  | bl n b => intro v w a b; cases a; cases b; exact .flat (.bl _)
  | int n i => intro v w a b; cases a; cases b; exact .flat (.int _)
  | str n h h2 => intro v w a b; cases a; cases b; exact .flat (.str _)
  | @tup n ds h h2 ih =>
    intro v w a b
    cases a with
    | @tup a1 xs _ ha hx =>
      cases b with
      | @tup b1 ys _ hb hy =>
        have l1 := dpLen hx
        have l2 := dpLen hy
        refine .tup ha hb (by omega) (by omega) fun i v w e1 e2 => ?_
        obtain ⟨d, hd, h3⟩ := dpAtV hx e1
        obtain ⟨d', hd', h4⟩ := dpAtV hy e2
        obtain rfl := Option.some.inj (hd.symm.trans hd')
        exact ih d (List.mem_of_getElem? hd) h3 h4
theorem svLst {K : PySem.W.Frag} {H : Hp} {n : Nat} {ds : List PyData} {a b : Addr} {xs ys : List V} (o : ∀ d ∈ ds, Od n d) (hl : ds.length ≤ 1000) (ha : H a = some (.lst xs)) (hb : H b = some (.lst ys)) (hx : DpAll K H xs ds) (hy : DpAll K H ys ds) : Sv K H (n + 1) (.ref a) (.ref b) := by
  have l1 := dpLen hx
  have l2 := dpLen hy
  refine .lst (.inl (.inl ha)) (.inl (.inl hb)) (by omega) (by omega) fun i v w e1 e2 => ?_
  obtain ⟨d, hd, h3⟩ := dpAtV hx e1
  obtain ⟨d', hd', h4⟩ := dpAtV hy e2
  obtain rfl := Option.some.inj (hd.symm.trans hd')
  exact svDp (o d (List.mem_of_getElem? hd)) h3 h4
end TRE

set_option Elab.async false
set_option linter.all false
set_option maxRecDepth 100000
set_option maxHeartbeats 8000000
namespace TRE
open PySem PySem.Spec PyProof.Rows L2 ND KS KS.La PLC
abbrev lMixed : Stmt := top 30
/-- data put into another order -/
def spMixG {α : Type} (K : PySem.W.Frag) (e : α → PyData) : Sp := fun vs H Q _ => ∃ (f l : Addr) (xs : List V) (ds : List α), vs = [.ref f, .ref l] ∧ Fd H f ∧ SqL K H l xs ∧ ds.length ≤ 50 ∧ DpAll K H xs (ds.map e) ∧ (∀ d ∈ ds, Od 50 (e d)) ∧
  ∀ (p : Addr) (ys : List V) (es : List α) (H' : Hp), H p = none → Kp f H H' → Fd H' f → H' p = some (.lst ys) → DpAll K H' ys (es.map e) → es.Perm ds → Q (.ref p) H'
theorem dpErase {K : PySem.W.Frag} {H : Hp} : ∀ {j : Nat} {xs : List V} {ds : List PyData}, DpAll K H xs ds → DpAll K H (xs.eraseIdx j) (ds.eraseIdx j)
  | _, _, _, .nil => .nil
  | 0, _, _, .cons _ r => r
  | j + 1, _, _, .cons h r => .cons h (dpErase (j := j) r)
theorem mapErase {α β : Type} (g : α → β) : ∀ (l : List α) (j : Nat), (l.eraseIdx j).map g = (l.map g).eraseIdx j
  | [], _ => rfl
  | _ :: _, 0 => rfl
  | x :: l, j + 1 => by
    show g x :: (l.eraseIdx j).map g = g x :: (l.map g).eraseIdx j
    rw [mapErase g l j]
theorem permErase {α : Type} : ∀ (l : List α) (j : Nat) (h : j < l.length), (l[j] :: l.eraseIdx j).Perm l
  | _ :: _, 0, _ => List.Perm.refl _
  | x :: l, j + 1, h => by
    have h2 : j < l.length := Nat.lt_of_succ_lt_succ h
    exact (List.Perm.swap x l[j] (l.eraseIdx j)).trans ((permErase l j h2).cons x)
section
variable {P : Program} {w : World} {K : PySem.W.Frag} {mg : Str → Option Value} {base : Heap} {f : Addr} {fd : FuncData} {α : Type}
theorem neG {e : α → PyData} {H : Hp} {D p : Addr} {zs : List V} {ds : List α} {Q : VK} (hD : H D = some (.lst zs)) (he : H p = some (.lst [])) (hz : DpAll K H zs (ds.map e)) (od : ∀ d ∈ ds, Od 50 (e d)) (h : Q (.bl (!decide (zs.length = 0))) H) : rNeD K (.ref D) (.ref p) H Q := by
  have l := dpLen hz
  obtain ⟨a, b⟩ := allLay (ds := ds.map e) (n := 50) fun d hd => by
    obtain ⟨t, ht, rfl⟩ := List.mem_map.mp hd
    exact (od t ht).lay
  refine ⟨.list (ds.map e), .list [], .lst (.inl (.inl hD)) hz, .lst (.inl (.inl he)) .nil, ?_, rfl, ?_⟩
  · have e1 : (PyData.list (ds.map e)).canLay0 = true := a
    unfold SeqAt.shaped
    rw [e1, Bool.true_and]
    refine decide_eq_true ?_
    simp only [PyData.depth]
    omega
  · cases ds with
    | nil =>
      rw [decide_eq_true (by simpa using l)] at h
      exact h
    | cons t ts =>
      rw [decide_eq_false (by rw [l]; simp)] at h
      exact h
theorem scMixed : FnScope ["_law_feed", "_law_items", "_law_left", "_law_found"] ["_law_feed", "_law_items"] (defScope lMixed) := ⟨rfl, rfl, rfl, by decide +kernel, rfl, by decide +kernel, by decide +kernel⟩
theorem okMixG {k : Nat} (e : α → PyData) (pl : ∀ d, ∃ n, Pl n (e d)) (F : FnP K "_law_mixed" lMixed f fd) (B : Bn mg) (D : Has P w K mg base (k + 1) "_law_draw" ["_law_feed", "_law_many"] spDraw) : FnOk P w K mg base CX0 (k + 2) f fd ["_law_feed", "_law_items"] (spMixG K e) := by
  obtain ⟨fD, fdD, gD, kD, bD, GD⟩ := D.ex
  refine F.ok scMixed (fun vs H Q E h => ?_) (fun cdv A outer s H vs Q E hr h => ?_)
  · obtain ⟨a, l, xs, ds, rfl, _⟩ := h
    rfl
  · obtain ⟨a, l, xs, ds, rfl, hF, hL, hlen, hv, hod, q⟩ := h
    have eG : ∀ {ds : List α} {H H' : Hp} {xs : List V}, TS H H' → DpAll K H xs (ds.map e) → DpAll K H' xs (ds.map e) := fun t h => allTS (fun d hd v h => by
      obtain ⟨x, _, rfl⟩ := List.mem_map.mp hd
      obtain ⟨n, p⟩ := pl x
      exact dpTS t p v h) h
    have lx := dpLen hv
    rw [List.length_map] at lx
    refine ⟨_, PSs.nox (pss_cons (ps_par (i := 2) (j := 3) (by rfl) scMixed.nd rfl rfl (by decide) rfl rfl (pa_cons (pe_callTy call_list_of (by rfl) B.list (by decide +kernel) (pa_cons (pv 1) pa_nil)) (pa_cons (pe_lst pa_nil) pa_nil)) (by rfl)) (pss_cons (ps_while PassesOwn.never (pt_cmpR (r := rNeD K) (op_neD hr.units) (pv 2) (pe_lst pa_nil) (nomark _))
        (pss_one (ps_expr (pe_bm PySem.F.plainAttrs_list PySem.F.slot_list_append PySem.F.type_list_append mt_append (pv 3) (pa_cons (pe_bm PySem.F.plainAttrs_list PySem.F.slot_list_pop PySem.F.type_list_pop mt_popAt (pv 2) (pa_cons (pe_call GD hr (by rfl) gD kD bD .nil pass0 (pa_cons (pv 0) (pa_cons (pe_callB call_len_seq (by rfl) B.len PySem.boot_len (pa_cons (pv 2) pa_nil)) pa_nil))) pa_nil)) pa_nil))))) (pss_one (ps_ret (pv 3))))), ?_⟩
    refine ⟨.ref l, rfl, l, xs, rfl, .inl hL, fun L hLn => ⟨(by show 0 ≤ sizeLine; exact Nat.zero_le _), fun M hMn => ⟨_, _, rfl, ?_⟩⟩⟩
    have s1 := sameUpd (o := .lst xs) hLn
    have s2 := sameUpd (o := .lst []) hMn
    have neLM : L ≠ M := fun z => by rw [z] at hMn; rw [upd_same] at hMn; cases hMn
    have hMn0 : H M = none := by
      cases e9 : H M with
      | none => rfl
      | some o => rw [s1 _ _ e9] at hMn; cases hMn
    have neLa := fdNe hF hLn
    have neMa := fdNe hF hMn0
    have eL : upd (upd H L (.lst xs)) M (.lst []) L = some (.lst xs) := s2 _ _ upd_same
    have eM : upd (upd H L (.lst xs)) M (.lst []) M = some (.lst []) := upd_same
    have F2 := (hF.same s1).same s2
    have k2 : Kp a H (upd (upd H L (.lst xs)) M (.lst [])) := Kp.same (s1.trans s2)
    generalize upd (upd H L (.lst xs)) M (.lst []) = H2 at *
    refine ⟨fun m σ' H' => ∃ zs ys, σ' = [some (.ref a), some (.ref l), some (.ref L), some (.ref M)] ∧ m = zs.length ∧ zs.length + ys.length = xs.length ∧ H' L = some (.lst zs) ∧ H' M = some (.lst ys) ∧ (∃ ls fs : List α, DpAll K H' zs (ls.map e) ∧ DpAll K H' ys (fs.map e) ∧ (ls ++ fs).Perm ds) ∧ Kp a H H' ∧ Fd H' a,
      ⟨_, xs, [], rfl, rfl, by simp, eL, eM, ⟨ds, [], eG (tsKp hF k2) hv, .nil, by rw [List.append_nil]⟩, k2, F2⟩, fun m σ' H' hw => ?_⟩
    obtain ⟨zs, ys, rfl, rfl, hl, eL', eM', ⟨ls, fs, hz, hy, pm⟩, k', F'⟩ := hw
    refine ⟨.ref L, rfl, Nat.zero_le _, fun p hp => ?_⟩
    have sp := sameUpd (o := .lst []) hp
    have oz : ∀ d ∈ ls, Od 50 (e d) := fun d hd => hod d (pm.subset (List.mem_append_left _ hd))
    refine neG (sp _ _ eL') upd_same (dpAllSame sp _ _ hz) oz ⟨_, rfl, ?_⟩
    have kp' : Kp a H (upd H' p (.lst [])) := k'.trans (Kp.same sp)
    have F3 := F'.same sp
    have eL3 := sp _ _ eL'
    have eM3 := sp _ _ eM'
    have hz3 := dpAllSame sp _ _ hz
    have hy3 := dpAllSame sp _ _ hy
    have lz := dpLen hz
    have lyy := dpLen hy
    rw [List.length_map] at lz lyy
    generalize upd H' p (.lst []) = H3 at *
    by_cases e0 : zs.length = 0
    · rw [decide_eq_true e0]
      refine iteF ?_
      have l0 : ls = [] := List.eq_nil_of_length_eq_zero (by omega)
      rw [l0, List.nil_append] at pm
      exact ⟨.ref M, rfl, q M ys fs H3 hMn0 kp' F3 eM3 hy3 pm⟩
    · rw [decide_eq_false e0]
      refine iteT ⟨fun σ2 H4 => ∃ m', m' < zs.length ∧ ∃ zs ys, σ2 = [some (.ref a), some (.ref l), some (.ref L), some (.ref M)] ∧ m' = zs.length ∧ zs.length + ys.length = xs.length ∧ H4 L = some (.lst zs) ∧ H4 M = some (.lst ys) ∧ (∃ ls fs : List α, DpAll K H4 zs (ls.map e) ∧ DpAll K H4 ys (fs.map e) ∧ (ls ++ fs).Perm ds) ∧ Kp a H H4 ∧ Fd H4 a, fun _ _ z => z, ?_⟩
      have pos : 0 < zs.length := by omega
      refine ⟨.ref M, rfl, .inl ⟨rfl, _, .inl (.inl eM3)⟩, .ref L, rfl, .inl ⟨rfl, _, .inl (.inl eL3)⟩, .ref a, rfl, .ref L, rfl, L, zs, rfl, .inl (.inl (.inl eL3)), a, (zs.length : Int), rfl, F3, by omega, by omega, fun r H4 r0 r1 k4 F4 => ?_⟩
      obtain ⟨j, rfl⟩ : ∃ j : Nat, r = (j : Int) := ⟨r.toNat, by omega⟩
      have hj : j < zs.length := by omega
      have eL4 := k4 _ _ neLa eL3
      have eM4 := k4 _ _ neMa eM3
      have hsi : seqIndex? (j : Int) zs.length = some j := by
        unfold seqIndex?
        rw [if_neg (show ¬ ((j : Int) < 0) by omega)]
        show (if (decide ((0 : Int) ≤ (j : Int)) && decide ((j : Int) < (zs.length : Int))) = true then some ((j : Int).toNat) else none) = some j
        rw [if_pos (by rw [Bool.and_eq_true, decide_eq_true_eq, decide_eq_true_eq]; omega)]
        rfl
      refine ⟨L, zs, (j : Int), j, zs[j], rfl, rfl, eL4, by omega, by omega, hsi, List.getElem?_eq_getElem hj, ?_⟩
      have kt4 : TS H3 H4 := tsKp F3 k4
      have kt5 : TS H4 (upd H4 L (.lst (zs.eraseIdx j))) := TS.lst eL4
      have eM5 : upd H4 L (.lst (zs.eraseIdx j)) M = some (.lst ys) := by rw [upd_ne (Ne.symm neLM)]; exact eM4
      refine ⟨M, ys, zs[j], rfl, rfl, eM5, by rw [sizeLine_eq]; omega, ?_⟩
      have kt6 := TS.lst (o := .lst (ys ++ [zs[j]])) eM5
      have ktA := (kt4.trans kt5).trans kt6
      refine ⟨(zs.eraseIdx j).length, by rw [List.length_eraseIdx_of_lt hj]; omega, zs.eraseIdx j, ys ++ [zs[j]], rfl, rfl, by rw [List.length_eraseIdx_of_lt hj, List.length_append]; show zs.length - 1 + (ys.length + 1) = _; omega, ?_, upd_same, ⟨ls.eraseIdx j, fs ++ [ls[j]'(by omega)], ?_, ?_, ?_⟩, fun b o nb hb => ?_, fdOther (fdOther F4 neLa) neMa⟩
      · rw [upd_ne neLM]
        exact upd_same
      · have h1 := dpErase (j := j) hz3
        rw [← mapErase] at h1
        exact eG ktA h1
      · rw [List.map_append]
        refine dpSnoc ?_ (eG ktA hy3)
        have hj2 : j < ls.length := by omega
        have ee : (ls.map e)[j]? = some (e (ls[j]'hj2)) := by rw [List.getElem?_map, List.getElem?_eq_getElem hj2]; rfl
        obtain ⟨v', g1, g2⟩ := dpAt hz3 ee
        rw [List.getElem?_eq_getElem hj] at g1
        obtain ⟨n, p⟩ := pl (ls[j]'hj2)
        have g3 := dpTS ktA p _ g2
        rw [← Option.some.inj g1] at g3
        exact g3
      · have hj2 : j < ls.length := by omega
        refine List.Perm.trans ?_ pm
        rw [← List.append_assoc]
        exact (List.perm_append_comm.trans (List.Perm.append_right fs (permErase ls j hj2)))
      · rw [upd_ne (ne_of_none hb hMn0), upd_ne (ne_of_none hb hLn)]
        exact k4 _ _ nb (kp' _ _ nb hb)
end
end TRE

set_option Elab.async false
set_option linter.all false
set_option maxRecDepth 100000
set_option maxHeartbeats 8000000
namespace TRE
open PySem PySem.Spec PyProof.Rows L2 ND KS KS.La PLC
abbrev lKeys : Stmt := top 39
abbrev lOuts : Stmt := top 32
def outsL : List Str := ["o", "read", "write", "z9z9z9z9"]
theorem outsNd : outsL.Nodup := by unfold outsL; decide +kernel
theorem notTake {α : Type} {l : List α} (h : l.Nodup) {i : Nat} (lt : i < l.length) : l[i] ∉ l.take i := fun hm => by
  have h2 : (l.take (i + 1)).Nodup := h.sublist (List.take_sublist _ _)
  rw [List.take_succ_eq_append_getElem lt] at h2
  exact (List.nodup_append.mp h2).2.2 _ hm _ (List.mem_singleton.mpr rfl) rfl
theorem plKy (k : Str × Str) : Pl 1 (kyD k) := .tup fun d hd => by
  simp only [List.mem_cons, List.not_mem_nil, or_false] at hd
  rcases hd with rfl | rfl <;> exact .str _ _
section
variable {P : Program} {w : World} {K : PySem.W.Frag} {mg : Str → Option Value} {base : Heap} {f : Addr} {fd : FuncData}
theorem cutTake (xs : List V) (j : Nat) : cutV xs none (some (j : Int)) = xs.take j := by
  unfold cutV
  rw [HT.sIx_nat, HT.sIx_none, List.drop_zero, Nat.sub_zero]
  rcases Nat.le_total j xs.length with h | h
  · rw [Nat.min_eq_left h]
  · rw [Nat.min_eq_right h, List.take_of_length_le h, List.take_of_length_le (Nat.le_refl _)]
def spOutsT : Sp := fun vs H Q _ => vs = [] ∧ ∀ p, H p = none → Q (.ref p) (upd H p (.lst (outsL.map V.str)))
theorem scOuts : FnScope [] [] (defScope lOuts) := ⟨rfl, rfl, rfl, by decide +kernel, rfl, by decide +kernel, by decide +kernel⟩
theorem okOutsT {k : Nat} (F : FnP K "_law_outs" lOuts f fd) : FnOk P w K mg base CX0 (k + 1) f fd [] spOutsT := by
  refine F.ok scOuts (fun vs H Q E h => ?_) (fun cdv A outer s H vs Q E hr h => ?_)
  · obtain ⟨rfl, _⟩ := h
    rfl
  · obtain ⟨rfl, q⟩ := h
    exact ⟨_, PSs.nox (pss_one (ps_ret (pe_lst (pa_cons (pe_str) (pa_cons (pe_str) (pa_cons (pe_str) (pa_cons (pe_str) pa_nil))))))), (by show 4 ≤ sizeLine; decide), fun p hp => q p hp⟩
def spKeys : Sp := fun vs H Q _ => ∃ (f l : Addr) (nms : List Str), vs = [.ref f, .ref l] ∧ Fd H f ∧ H l = some (.lst (nms.map V.str)) ∧ l ≠ f ∧ nms.length ≤ 12 ∧ nms.Nodup ∧
  ∀ (R : Addr) (ys : List V) (ks : List (Str × Str)) (H' : Hp), H R = none → H' R = some (.lst ys) → (∀ K, DpAll K H' ys (ks.map kyD)) → ks.Nodup → (∀ k ∈ ks, k.1 ∈ nms ∧ k.2 ∈ outsL) → ks.length ≤ 4 * nms.length ∧ nms.length ≤ ks.length → Kp f H H' → Fd H' f → Q (.ref R) H'
abbrev nKeys : List Str := ["_law_feed", "_law_names", "_law_found", "_law_name", "_law_out"]
theorem scKeys : FnScope nKeys ["_law_feed", "_law_names"] (defScope lKeys) := ⟨rfl, rfl, rfl, by decide +kernel, rfl, by decide +kernel, by decide +kernel⟩
theorem okSomeKeys {k : Nat} (F : FnP K "_law_some_keys" lKeys f fd) (B : Bn mg) (D : Has P w K mg base (k + 1) "_law_draw" ["_law_feed", "_law_many"] spDraw) (O : Has P w K mg base (k + 1) "_law_outs" [] spOutsT) : FnOk P w K mg base CX0 (k + 2) f fd ["_law_feed", "_law_names"] spKeys := by
  obtain ⟨fD, fdD, gD, kD, bD, GD⟩ := D.ex
  obtain ⟨fO, fdO, gO, kO, bO, GO⟩ := O.ex
  refine F.ok scKeys (fun vs H Q E h => ?_) (fun cdv A outer s H vs Q E hr h => ?_)
  · obtain ⟨a, l, nms, rfl, _⟩ := h
    rfl
  · obtain ⟨a, l, nms, rfl, hF, el, nl, ln, nd, q⟩ := h
    refine ⟨_, PSs.nox (pss_cons (ps_set (i := 2) scKeys.nd rfl (.inl rfl) (pe_lst pa_nil)) (pss_cons (ps_for PassesOwn.never rfl (pi_list (pv 1)) (pg_name (i := 3) scKeys.nd rfl (.inl rfl))
        (pss_one (ps_for PassesOwn.never rfl (pi_list (pe_slice sl_list (pe_call0 GO hr (by rfl) gO kO bO .nil pass0) po_none (po_some (pe_op op_add pe_int (pe_call GD hr (by rfl) gD kD bD .nil pass0 (pa_cons (pv 0) (pa_cons (pe_int) pa_nil))))))) (pg_name (i := 4) scKeys.nd rfl (.inl rfl))
          (pss_one (ps_expr (pe_bm PySem.F.plainAttrs_list PySem.F.slot_list_append PySem.F.type_list_append mt_append (pv 2) (pa_cons (pe_tup (pa_cons (pv 3) (pa_cons (pv 4) pa_nil))) pa_nil))))))) (pss_one (ps_ret (pv 2))))), ?_⟩
    refine ⟨Nat.zero_le _, fun R hR => ?_⟩
    have nR := fdNe hF hR
    have F1 := hF.new (o := .lst []) hR
    have nRl : R ≠ l := fun z => by rw [z, el] at hR; cases hR
    have el1 := sameUpd (o := .lst []) hR _ _ el
    refine ⟨.ref l, rfl, l, rfl, ⟨_, .inl (.inl el1)⟩, ?_⟩
    refine forJ (n := nms.length) (fun i σ' H' => ∃ x3 x4 ys ks, σ' = [some (.ref a), some (.ref l), some (.ref R), x3, x4] ∧ H' R = some (.lst ys) ∧ (∀ K, DpAll K H' ys (List.map kyD ks)) ∧ ks.Nodup ∧ (∀ k ∈ ks, k.1 ∈ nms.take i ∧ k.2 ∈ outsL) ∧ (ks.length ≤ 4 * i ∧ i ≤ ks.length) ∧ Kp a H H' ∧ Fd H' a)
      ⟨none, none, [], [], rfl, upd_same, fun _ => .nil, List.nodup_nil, fun k hk => absurd hk (by simp), ⟨Nat.zero_le _, Nat.zero_le _⟩, Kp.new hR, F1⟩
      (fun i σ' H' lt h => by obtain ⟨_, _, _, _, _, _, _, _, _, _, k, _⟩ := h; exact ⟨nms.map V.str, V.str nms[i], .inl (.inl (k _ _ nl el)), by rw [List.getElem?_map, List.getElem?_eq_getElem lt]; rfl⟩)
      (fun σ' H' h => by obtain ⟨_, _, _, _, _, _, _, _, _, _, k, _⟩ := h; exact ⟨nms.map V.str, .inl (.inl (k _ _ nl el)), by rw [List.length_map]; exact Nat.le_refl _⟩) (fun i σ' H2 x H3 lt h y => ?_) (fun σ' H' h => ?_)
    · obtain ⟨rfl, y⟩ := y
      obtain ⟨x3, x4, ys, ks, rfl, eR, hys, hnd, hmem, hlen, k3, F3⟩ := h
      have ex := y _ (.inl (.inl (k3 _ _ nl el)))
      rw [List.getElem?_map, List.getElem?_eq_getElem lt] at ex
      obtain rfl : V.str nms[i] = x := Option.some.inj ex
      refine ⟨rfl, fun O hO => ?_⟩
      have sO := sameUpd (o := .lst (outsL.map V.str)) hO
      have F4 := F3.same sO
      have nO := fdNe F3 hO
      refine ⟨.ref a, rfl, a, 4, rfl, F4, by decide, by decide, fun r H5 r0 r1 k5 F5 => ⟨1, r, rfl, rfl, _, rfl, O, outsL.map V.str, rfl, .inl (.inl (k5 _ _ nO upd_same)), fun p hp => ?_⟩⟩
      obtain ⟨m, em⟩ : ∃ m : Nat, 1 + r = (m : Int) := ⟨(1 + r).toNat, by omega⟩
      rw [em, cutTake, ← List.map_take]
      have sp := sameUpd (o := .lst ((outsL.take m).map V.str)) hp
      have kA := ((Kp.same sO : Kp a _ _).trans k5).trans (Kp.same sp)
      have k6 := k3.trans kA
      have F6 := F5.same sp
      have np := fdNe F5 hp
      have ep : upd H5 p (.lst ((outsL.take m).map V.str)) p = some (.lst ((outsL.take m).map V.str)) := upd_same
      have eR6 := kA _ _ nR eR
      have pls : ∀ {ks : List (Str × Str)} {H H' : Hp} {xs : List V} (K : PySem.W.Frag), TS H H' → DpAll K H xs (ks.map kyD) → DpAll K H' xs (ks.map kyD) := fun K t h => allPl (n := 1) (fun d hd => by
        obtain ⟨p', _, rfl⟩ := List.mem_map.mp hd
        exact plKy p') t h
      have hys6 : ∀ K, DpAll K (upd H5 p (.lst ((outsL.take m).map V.str))) ys (List.map kyD ks) := fun K => pls K (tsKp F3 kA) (hys K)
      have lm : (outsL.take m).length ≤ 4 := by rw [List.length_take]; show min m 4 ≤ 4; omega
      have lm1 : 1 ≤ (outsL.take m).length := by rw [List.length_take]; show 1 ≤ min m 4; omega
      have ndo : (outsL.take m).Nodup := outsNd.sublist (List.take_sublist _ _)
      have sub : ∀ z ∈ outsL.take m, z ∈ outsL := fun z hz => List.mem_of_mem_take hz
      have npR : p ≠ R := fun z => by rw [z] at hp; rw [k5 _ _ nR (sO _ _ eR)] at hp; cases hp
      generalize upd H5 p (.lst ((outsL.take m).map V.str)) = H6 at *
      generalize outsL.take m = ol at *
      refine ⟨p, rfl, ⟨_, .inl (.inl ep)⟩, ?_⟩
      refine forJ (n := ol.length) (fun j σ' H' => ∃ x4 ys ks, σ' = [some (.ref a), some (.ref l), some (.ref R), some (.str nms[i]), x4] ∧ H' R = some (.lst ys) ∧ H' p = some (.lst (ol.map V.str)) ∧ (∀ K, DpAll K H' ys (List.map kyD ks)) ∧ ks.Nodup ∧ (∀ k ∈ ks, (k.1 ∈ nms.take i ∨ (k.1 = nms[i] ∧ k.2 ∈ ol.take j)) ∧ k.2 ∈ outsL) ∧ (ks.length ≤ 4 * i + j ∧ i + j ≤ ks.length) ∧ Kp a H H' ∧ Fd H' a)
        ⟨_, ys, ks, rfl, eR6, ep, hys6, hnd, fun k hk => ⟨.inl (hmem k hk).1, (hmem k hk).2⟩, ⟨by omega, by omega⟩, k6, F6⟩
        (fun j σ' H' lt h => by obtain ⟨_, _, _, _, _, e, _⟩ := h; exact ⟨ol.map V.str, V.str ol[j], .inl (.inl e), by rw [List.getElem?_map, List.getElem?_eq_getElem lt]; rfl⟩)
        (fun σ' H' h => by obtain ⟨_, _, _, _, _, e, _⟩ := h; exact ⟨ol.map V.str, .inl (.inl e), by rw [List.length_map]; exact Nat.le_refl _⟩) (fun j σ' H7 x H8 ltj h y => ?_) (fun σ' H' h => ?_)
      · obtain ⟨rfl, y⟩ := y
        obtain ⟨x4, ys, ks, rfl, eR, ep, hys, hnd, hmem, hlen, k7, F7⟩ := h
        have ex := y _ (.inl (.inl ep))
        rw [List.getElem?_map, List.getElem?_eq_getElem ltj] at ex
        obtain rfl : V.str ol[j] = x := Option.some.inj ex
        have ly := dpLen (hys K)
        rw [List.length_map] at ly
        refine ⟨.ref R, rfl, .inl ⟨rfl, _, .inl (.inl eR)⟩, .str nms[i], rfl, .str ol[j], rfl, (by show 2 ≤ sizeLine; decide), fun U hU => ?_⟩
        have sU := sameUpd (o := .tup [.str nms[i], .str ol[j]]) hU
        have eU : ∀ K, Dp K (upd H8 U (.tup [.str nms[i], .str ol[j]])) (.ref U) (kyD (nms[i], ol[j])) := fun K => .tup (.inl (.inl upd_same)) (.cons (.str _) (.cons (.str _) .nil))
        have eR9 := sU _ _ eR
        have ep9 := sU _ _ ep
        have F9 := F7.same sU
        have k9 := k7.trans (Kp.same sU)
        have hys9 : ∀ K, DpAll K (upd H8 U (.tup [.str nms[i], .str ol[j]])) ys (List.map kyD ks) := fun K => dpAllSame sU _ _ (hys K)
        generalize upd H8 U (.tup [.str nms[i], .str ol[j]]) = H9 at *
        have t9 := TS.lst (o := .lst (ys ++ [.ref U])) eR9
        refine ⟨R, ys, .ref U, rfl, rfl, eR9, by rw [sizeLine_eq]; omega, _, ys ++ [.ref U], ks ++ [(nms[i], ol[j])], rfl, upd_same, by rw [upd_ne npR]; exact ep9, fun K => ?_, ?_, fun k hk => ?_, ⟨by rw [List.length_append]; show ks.length + 1 ≤ _; omega, by rw [List.length_append]; show _ ≤ ks.length + 1; omega⟩, fun b o nb hb => ?_, fdOther F9 nR⟩
        · rw [List.map_append]
          exact dpSnoc (dpTS t9 (plKy _) _ (eU K)) (pls K t9 (hys9 K))
        · refine List.nodup_append.mpr ⟨hnd, by simp, fun u hu v hv e => ?_⟩
          rw [List.mem_singleton.mp hv] at e
          rw [e] at hu
          rcases (hmem _ hu).1 with z | ⟨_, z⟩
          · exact notTake nd lt z
          · exact notTake ndo ltj z
        · rcases List.mem_append.mp hk with z | z
          · obtain ⟨h1, h2⟩ := hmem k z
            refine ⟨?_, h2⟩
            rcases h1 with h1 | ⟨h1, h3⟩
            · exact .inl h1
            · exact .inr ⟨h1, by rw [List.take_succ_eq_append_getElem ltj]; exact List.mem_append_left _ h3⟩
          · rw [List.mem_singleton.mp z]
            exact ⟨.inr ⟨rfl, by rw [List.take_succ_eq_append_getElem ltj]; exact List.mem_append_right _ (List.mem_singleton.mpr rfl)⟩, sub _ (List.getElem_mem ltj)⟩
        · rw [upd_ne (ne_of_none hb hR)]
          exact k9 _ _ nb hb
      · obtain ⟨x4, ys, ks, rfl, eR, ep, hys, hnd, hmem, hlen, k7, F7⟩ := h
        refine ⟨_, _, ys, ks, rfl, eR, hys, hnd, fun k hk => ⟨?_, (hmem k hk).2⟩, ⟨by omega, by omega⟩, k7, F7⟩
        rw [List.take_succ_eq_append_getElem lt]
        rcases (hmem k hk).1 with z | ⟨z, _⟩
        · exact List.mem_append_left _ z
        · exact List.mem_append_right _ (List.mem_singleton.mpr z)
    · obtain ⟨x3, x4, ys, ks, rfl, eR, hys, hnd, hmem, hlen, k3, F3⟩ := h
      rw [List.take_length] at hmem
      exact ⟨.ref R, rfl, q R ys ks H' hR eR hys hnd hmem hlen k3 F3⟩
end
end TRE

set_option Elab.async false
set_option linter.all false
set_option maxRecDepth 100000
set_option maxHeartbeats 8000000
namespace TRE
open PySem PySem.Spec PyProof.Rows L2 ND KS KS.La PLC
abbrev lNames : Stmt := top 34
def hsg (k : Nat) : Str := ⟨#[("hbtqkaxzmeyg" : Str).cps.toList.getD k 0]⟩
def dsg (k : Nat) : Str := ⟨#[("0123456789ab" : Str).cps.toList.getD k 0]⟩
def hopt (k : Nat) : List Str := (["", "1", "x2", "zz0zz0z"] : List Str).map (hsg k ++ ·)
def opt (k : Nat) : List Str := hopt k ++ ["hyy0yy0" ++ dsg k]
theorem apartB : ∀ i ∈ List.range 12, ∀ j ∈ List.range 12, i ≠ j → ∀ x ∈ opt i, x ∉ opt j := by decide +kernel
theorem namesApart {i j : Nat} (hi : i < 12) (hj : j < 12) (n : i ≠ j) {x : Str} (h : x ∈ opt i) : x ∉ opt j := apartB i (List.mem_range.mpr hi) j (List.mem_range.mpr hj) n x h
theorem okB : ∀ i ∈ List.range 12, ∀ x ∈ opt i, okN x = true ∧ TOk x ∧ x.length ≤ 8 := by decide +kernel
theorem namesOk {i : Nat} (hi : i < 12) {x : Str} (h : x ∈ opt i) : okN x = true ∧ TOk x ∧ x.length ≤ 8 := okB i (List.mem_range.mpr hi) x h
theorem namesNd : ∀ {n : Nat} {l : List Str}, l.length ≤ 12 → (∀ i (h : i < l.length), l[i] ∈ opt (n + i)) → n + l.length ≤ 12 → l.Nodup
  | n, [], _, _, _ => List.nodup_nil
  | n, x :: l, hl, h, hn => by
    rw [List.length_cons] at hl hn
    refine List.nodup_cons.mpr ⟨fun hm => ?_, namesNd (n := n + 1) (by omega) (fun i hi => ?_) (by omega)⟩
    · obtain ⟨i, hi, e⟩ := List.getElem_of_mem hm
      have h0 := h 0 (by show 0 < l.length + 1; omega)
      have h1 := h (i + 1) (by show i + 1 < l.length + 1; omega)
      have e1 : (x :: l)[i + 1]'(by show i + 1 < l.length + 1; omega) = x := e
      rw [e1] at h1
      exact namesApart (i := n + 0) (j := n + (i + 1)) (by omega) (by omega) (by omega) h0 h1
    · have h1 := h (i + 1) (by show i + 1 < l.length + 1; omega)
      have e2 : n + (i + 1) = n + 1 + i := by omega
      rw [e2] at h1
      exact h1
section
variable {P : Program} {w : World} {K : PySem.W.Frag} {mg : Str → Option Value} {base : Heap} {f : Addr} {fd : FuncData}
def spNames : Sp := fun vs H Q _ => ∃ (f : Addr) (m : Nat), vs = [.ref f, .int m] ∧ m ≤ 12 ∧ Fd H f ∧ ∀ (R : Addr) (nms : List Str) (H' : Hp), H R = none → H' R = some (.lst (nms.map V.str)) → nms.length = m → (∀ i (h : i < nms.length), nms[i] ∈ opt i) → Kp f H H' → Fd H' f → Q (.ref R) H'
/-- texts, one for each turn, out of what is told of it -/
theorem lcTexts {J : It} {f D : Addr} {j m : Nat} {te : TE} {σ : L2.St} {H1 : Hp} {Qd : Hp → Prop} (op : Nat → List Str) (hD : H1 D = none) (hF : Fd H1 f) (hm : m ≤ 100) (hw : ∀ v, wipe ((wipe σ [j]).set j (some v)) [j] = wipe σ [j])
    (hgo : ∀ i H, i < m → Kp f H1 H → J.go i H) (hst : ∀ H, Kp f H1 H → J.stop m H)
    (hs : ∀ i x H H', i < m → Kp f H1 H → Fd H f → J.yld i H x H' → H' = H ∧ ∀ R : VK, (∀ z H2, z ∈ op i → Kp f H H2 → Fd H2 f → R (.str z) H2) → te ((wipe σ [j]).set j (some x)) H R)
    (hd : ∀ H (r : List Str), H D = some (.lst (r.map V.str)) → r.length = m → (∀ i (h : i < r.length), r[i] ∈ op i) → Kp f H1 H → Fd H f → Qd H) :
    ∃ W : Nat → Nat → Hp → Prop, (∃ m, W 0 m (upd H1 D (.lst []))) ∧ ∀ i k H, W i k H →
      (J.stop i H ∧ Qd H) ∨ (J.go i H ∧ ∃ Nx : Hp → Prop, (∀ H', Nx H' → ∃ m', m' < k ∧ W (i + 1) m' H') ∧ ∀ x H', J.yld i H x H' → gName j x (wipe σ [j]) H' fun σ2 H2 => wipe σ2 [j] = wipe σ [j] ∧ tYes σ2 H2 fun b H3 =>
        if b = true then te σ2 H3 fun y H4 => ∃ acc, H4 D = some (.lst acc) ∧ acc.length < sizeLine ∧ Nx (upd H4 D (.lst (acc ++ [y]))) else Nx H3) := by
  have nD := fdNe hF hD
  refine lcJ (n := m) (fun i H => ∃ r : List Str, H D = some (.lst (r.map V.str)) ∧ r.length = i ∧ (∀ i (h : i < r.length), r[i] ∈ op i) ∧ Kp f H1 H ∧ Fd H f) ⟨[], upd_same, rfl, fun i h => absurd h (Nat.not_lt_zero _), Kp.new hD, fdOther hF nD⟩ (fun i H lt h => hgo i H lt h.choose_spec.2.2.2.1) (fun H h => hst H h.choose_spec.2.2.2.1) (fun i H x H' lt h y => ?_) (fun H h => ?_)
  · obtain ⟨r, e, el, hv, kp, fd⟩ := h
    obtain ⟨rfl, hs2⟩ := hs i x H H' lt kp fd y
    refine ⟨hw _, ?_⟩
    unfold tYes
    dsimp only
    rw [if_pos rfl]
    refine hs2 _ fun z H2 ha k2 f2 => ?_
    have e2 := k2 D _ nD e
    refine ⟨_, e2, by rw [sizeLine_eq, List.length_map]; omega, r ++ [z], ?_, by rw [List.length_append, el]; rfl, fun u hu => ?_, fun b o nb hb => ?_, fdOther f2 nD⟩
    · rw [List.map_append]
      exact upd_same
    · by_cases h9 : u < r.length
      · rw [List.getElem_append_left h9]
        exact hv u h9
      · rw [List.length_append] at hu
        have h10 : u < r.length + 1 := hu
        have : u = r.length := by omega
        subst this
        have e3 : (r ++ [z])[r.length]'(by rw [List.length_append]; exact h10) = z := by simp
        rw [e3, el]
        exact ha
    · rw [upd_ne (ne_of_none hb hD)]
      exact k2 _ _ nb (kp _ _ nb hb)
  · obtain ⟨r, e, el, hv, kp, fd⟩ := h
    exact hd H r e el hv kp fd
abbrev nNames : List Str := ["_law_feed", "_law_many", "_law_heads", "_law_k"]
theorem scNames : FnScope nNames ["_law_feed", "_law_many"] (defScope lNames) := ⟨rfl, rfl, rfl, by decide +kernel, rfl, by decide +kernel, by decide +kernel⟩
theorem okNames {k : Nat} (F : FnP K "_law_some_names" lNames f fd) (B : Bn mg) (D : Has P w K mg base (k + 1) "_law_draw" ["_law_feed", "_law_many"] spDraw) : FnOk P w K mg base CX0 (k + 2) f fd ["_law_feed", "_law_many"] spNames := by
  obtain ⟨fD, fdD, gD, kD, bD, GD⟩ := D.ex
  refine F.ok scNames (fun vs H Q E h => ?_) (fun cdv A outer s H vs Q E hr h => ?_)
  · obtain ⟨a, m, rfl, _⟩ := h
    rfl
  · obtain ⟨a, m, rfl, hm, hF, q⟩ := h
    refine ⟨_, PSs.nox (C8.pss_cut (ps_set (i := 2) scNames.nd rfl (.inr rfl) (pe_lc (own := [("_law_k", 3)]) (g := gName 3) rfl scNames.nd (pi_range1 (by rfl) B.range (pa_cons (pv 1) pa_nil)) (blkOk_by (N := nNames) (sc := defScope lNames) (by decide +kernel))
        (fun _ _ _ _ _ => pg_name (i := 3) scNames.nd rfl (.inl rfl) (hf := .inr rfl)) (fun _ _ _ _ _ => pts_nil)
        (fun _ _ _ _ _ => pe_op op_add_str (pe_ix ix_str pe_str (pv 3) (fun _ _ => rfl)) (pe_ix (r := rIxL K) ix_list (pe_lst (pa_cons (pe_str) (pa_cons (pe_str) (pa_cons (pe_str) (pa_cons (pe_str) pa_nil))))) (pe_call GD hr (by rfl) gD kD bD .nil pass0 (pa_cons (pv 0) (pa_cons (pe_int) pa_nil))) (fun _ _ => rfl))))) (pss_one (ps_ret (pe_lc (own := [("_law_k", 3)]) (g := gName 3) rfl scNames.nd (pi_range1 (by rfl) B.range (pa_cons (pv 1) pa_nil)) (blkOk_by (N := nNames) (sc := defScope lNames) (by decide +kernel))
        (fun _ _ _ _ _ => pg_name (i := 3) scNames.nd rfl (.inl rfl) (hf := .inr rfl)) (fun _ _ _ _ _ => pts_nil)
        (fun _ _ _ _ _ => pe_ix (r := rIxL K) ix_list (pe_lst (pa_cons (pe_ix (r := rIxL K) ix_list (pv 2) (pv 3) (fun _ _ => rfl)) (pa_cons (pe_op op_add_str pe_str (pe_ix ix_str pe_str (pv 3) (fun _ _ => rfl))) pa_nil))) (pe_op op_fdiv (pe_call GD hr (by rfl) gD kD bD .nil pass0 (pa_cons (pv 0) (pa_cons (pe_int) pa_nil))) pe_int) (fun _ _ => rfl)))))), ?_⟩
    have l12 : ("hbtqkaxzmeyg" : Str).cps.toList.length = 12 := by decide +kernel
    have l12d : ("0123456789ab" : Str).cps.toList.length = 12 := by decide +kernel
    refine ⟨fun σ' H' => ∃ D hs, σ' = [some (.ref a), some (.int m), some (.ref D), none] ∧ H D = none ∧ H' D = some (.lst (List.map V.str hs)) ∧ hs.length = m ∧ (∀ i (h : i < hs.length), hs[i] ∈ hopt i) ∧ Kp a H H' ∧ Fd H' a, ?_, ?_⟩
    · refine ⟨.int m, rfl, m, rfl, by omega, by omega, ?_⟩
      rw [Int.toNat_natCast]
      intro D hD
      refine lcTexts (m := m) hopt hD hF (by omega) (fun v => rfl) (fun i H' lt _ => lt) (fun H' _ => Nat.le_refl _) (fun i x H1 H2 lt k1 F1 y => ?_) (fun H' r e el hr k F' => ⟨D, r, rfl, hD, e, el, hr, k, F'⟩)
      obtain ⟨rfl, rfl⟩ := y
      refine ⟨rfl, fun R hR => ?_⟩
      have hi : i < ("hbtqkaxzmeyg" : Str).cps.toList.length := by omega
      have eh : hsg i = ⟨#[("hbtqkaxzmeyg" : Str).cps.toList[i]]⟩ := by
        unfold hsg
        rw [List.getD_eq_getElem?_getD, List.getElem?_eq_getElem hi]
        rfl
      refine ⟨.int (0 + i), rfl, "hbtqkaxzmeyg", (i : Int), _, rfl, by rw [Int.zero_add], by rw [sizeLine_eq]; decide +kernel, atI_nat (List.getElem?_eq_getElem hi), (by show 4 ≤ sizeLine; decide), fun L hL => ⟨.ref a, rfl, a, 4, rfl, F1.new hL, by decide, by decide, fun r H5 r0 r1 k5 F5 => ?_⟩⟩
      obtain ⟨j, rfl⟩ : ∃ j : Nat, r = (j : Int) := ⟨r.toNat, by omega⟩
      have hj : j < (["", "1", "x2", "zz0zz0z"] : List Str).length := by show j < 4; omega
      have ev : ((["", "1", "x2", "zz0zz0z"] : List Str).map V.str)[j]? = some (.str ((["", "1", "x2", "zz0zz0z"] : List Str)[j])) := by rw [List.getElem?_map, List.getElem?_eq_getElem hj]; rfl
      have sl : ∀ z ∈ (["", "1", "x2", "zz0zz0z"] : List Str), z.length ≤ 7 := by decide +kernel
      have nL := fdNe F1 hL
      refine ⟨L, _, (j : Int), _, rfl, rfl, .inl (.inl (k5 _ _ nL upd_same)), atI_nat ev, _, _, rfl, rfl, ?_, ?_⟩
      · have h7 := sl _ (List.getElem_mem hj)
        rw [sizeLine_eq]
        show 1 + _ ≤ _
        omega
      · rw [← eh]
        exact hR _ H5 (List.mem_map.mpr ⟨_, List.getElem_mem hj, rfl⟩) ((Kp.new hL).trans k5) F5
    rintro _ H3 ⟨Dh, hs, rfl, hDh, eDh, lh, hh, k3, F3⟩
    have nDh := fdNe hF hDh
    refine ⟨.int m, rfl, m, rfl, by omega, by omega, ?_⟩
    rw [Int.toNat_natCast]
    intro D hD
    have hD0 : H D = none := by
      cases e : H D with
      | none => rfl
      | some o => rw [k3 D o (fdNe F3 hD) e] at hD; cases hD
    refine lcTexts (m := m) opt hD F3 (by omega) (fun v => rfl) (fun i H' lt _ => lt) (fun H' _ => Nat.le_refl _) (fun i x H1 H2 lt k1 F1 y => ?_) (fun H' r e el hr k F' => q D r H' hD0 e el hr (k3.trans k) F')
    obtain ⟨rfl, rfl⟩ := y
    refine ⟨rfl, fun R hR => ?_⟩
    have hi : i < ("0123456789ab" : Str).cps.toList.length := by omega
    have hi2 : i < hs.length := by omega
    have eh : dsg i = ⟨#[("0123456789ab" : Str).cps.toList[i]]⟩ := by
      unfold dsg
      rw [List.getD_eq_getElem?_getD, List.getElem?_eq_getElem hi]
      rfl
    have e8 : (hs.map V.str)[i]? = some (.str hs[i]) := by rw [List.getElem?_map, List.getElem?_eq_getElem hi2]; rfl
    refine ⟨.ref Dh, rfl, .int (0 + i), rfl, Dh, _, (i : Int), _, rfl, by rw [Int.zero_add], .inl (.inl (k1 _ _ nDh eDh)), atI_nat e8, ?_⟩
    refine ⟨.int (0 + i), rfl, "0123456789ab", (i : Int), _, rfl, by rw [Int.zero_add], by rw [sizeLine_eq]; decide +kernel, atI_nat (List.getElem?_eq_getElem hi), _, _, rfl, rfl, ?_, (by show 2 ≤ sizeLine; decide), fun L hL => ?_⟩
    · have h7 : ("hyy0yy0" : Str).length = 7 := by decide +kernel
      rw [sizeLine_eq, h7]
      show 7 + 1 ≤ _
      omega
    refine ⟨.ref a, rfl, a, 5, rfl, F1.new hL, by decide, by decide, fun r H5 r0 r1 k5 F5 => ⟨r, 4, rfl, rfl, ⟨by decide, by decide⟩, ?_⟩⟩
    have nL := fdNe F1 hL
    have kk := (Kp.new (o := .lst [.str hs[i], .str ("hyy0yy0" ++ ⟨#[("0123456789ab" : Str).cps.toList[i]]⟩)]) hL : Kp a _ _).trans k5
    rcases (show r / 4 = 0 ∨ r / 4 = 1 by omega) with e4 | e4
    · refine ⟨L, _, 0, .str hs[i], rfl, (show V.int (r / 4) = _ by rw [e4]), .inl (.inl (k5 _ _ nL upd_same)), atI_nat (j := 0) rfl, ?_⟩
      exact hR _ H5 (List.mem_append_left _ (hh i hi2)) kk F5
    · refine ⟨L, _, 1, .str ("hyy0yy0" ++ ⟨#[("0123456789ab" : Str).cps.toList[i]]⟩), rfl, (show V.int (r / 4) = _ by rw [e4]), .inl (.inl (k5 _ _ nL upd_same)), atI_nat (j := 1) rfl, ?_⟩
      rw [← eh]
      exact hR _ H5 (List.mem_append_right _ (List.mem_singleton.mpr rfl)) kk F5
end
end TRE

set_option Elab.async false
set_option linter.all false
set_option maxRecDepth 100000
set_option maxHeartbeats 8000000
namespace TRE
open PySem PySem.Spec PyProof.Rows L2 ND KS KS.La PLC
abbrev lOutputs : Stmt := top 40
def kvO (o : Str × Str) : Key × V := (.inr o.1, .str o.2)
/-- outputs, each once, with texts -/
def OutsOk (os : List (Str × Str)) : Prop := (os.map (·.1)).Nodup ∧ ∀ o ∈ os, o.1 ∈ outsL ∧ TOk o.2
theorem mergeNd : ∀ (l acc : List (Str × Str)), ((acc ++ l).map (·.1)).Nodup → mergeK (acc.map kvO) (l.map kvO) = (acc ++ l).map kvO
  | [], acc, _ => by rw [List.append_nil]; rfl
  | o :: l, acc, h => by
    have e : putK (acc.map kvO) (.inr o.1) (.str o.2) = (acc ++ [o]).map kvO := by
      rw [putK_new]
      · rw [List.map_append]; rfl
      · cases hv : valV (acc.map kvO) (Sum.inr o.1) with
        | none => rfl
        | some v =>
          have h1 := valV_any (Sum.inr o.1 : Key) (acc.map kvO)
          rw [hv] at h1
          obtain ⟨kv, hkv, hd⟩ := List.any_eq_true.mp h1
          obtain ⟨o2, ho2, rfl⟩ := List.mem_map.mp hkv
          have e1 : o2.1 = o.1 := Sum.inr.inj (of_decide_eq_true hd)
          rw [List.map_append, List.map_cons] at h
          exact absurd e1 ((List.nodup_append.mp h).2.2 _ (List.mem_map_of_mem ho2) _ List.mem_cons_self)
    show mergeK (putK (acc.map kvO) (.inr o.1) (.str o.2)) (l.map kvO) = _
    rw [e, mergeNd l (acc ++ [o]) (by rw [List.append_assoc]; exact h), List.append_assoc]
    rfl
section
variable {P : Program} {w : World} {K : PySem.W.Frag} {mg : Str → Option Value} {base : Heap} {f : Addr} {fd : FuncData}
def spOutputs : Sp := fun vs H Q _ => ∃ f : Addr, vs = [.ref f] ∧ Fd H f ∧ ∀ p os H', OutsOk os → H p = none → H' p = some (.dK (os.map kvO)) → Kp f H H' → Fd H' f → Q (.ref p) H'
abbrev nOutputs : List Str := ["_law_feed", "_law_out"]
theorem scOutputs : FnScope nOutputs ["_law_feed"] (defScope lOutputs) := ⟨rfl, rfl, rfl, by decide +kernel, rfl, by decide +kernel, by decide +kernel⟩
theorem okOutputs {k : Nat} (F : FnP K "_law_some_outputs" lOutputs f fd) (md : mg "dict" = none) (D : Has P w K mg base (k + 1) "_law_draw" ["_law_feed", "_law_many"] spDraw) (T : Has P w K mg base (k + 3) "_law_some_text" ["_law_feed"] spText) (O : Has P w K mg base (k + 1) "_law_outs" [] spOutsT) : FnOk P w K mg base CX0 (k + 4) f fd ["_law_feed"] spOutputs := by
  obtain ⟨fD, fdD, gD, kD, bD, GD⟩ := D.ex
  obtain ⟨fT, fdT, gT, kT, bT, GT⟩ := T.ex
  obtain ⟨fO, fdO, gO, kO, bO, GO⟩ := O.ex
  refine F.ok scOutputs (fun vs H Q E h => ?_) (fun cdv A outer s H vs Q E hr h => ?_)
  · obtain ⟨a, rfl, _⟩ := h
    rfl
  · obtain ⟨a, rfl, hF, q⟩ := h
    have hr1 : Room (k + 1) _ := hr.mono (by omega)
    refine ⟨_, PSs.nox (pss_one (ps_ret (pe_callTy (T := "dict") (call_dictP rfl) (by rfl) md (by decide +kernel) (pa_cons (pe_lc (own := [("_law_out", 1)]) (g := gName 1) rfl scOutputs.nd (pi_list (pe_call0 GO hr1 (by rfl) gO kO bO .nil pass0)) (blkOk_by (N := nOutputs) (sc := defScope lOutputs) (by decide +kernel))
        (fun _ _ _ _ _ => pg_name (i := 1) scOutputs.nd rfl (.inl rfl) (hf := .inr rfl)) (fun _ _ _ _ _ => pts_one (pt_cmpR op_gt (pe_call GD hr1 (by rfl) gD kD bD .nil pass0 (pa_cons (pv 0) (pa_cons (pe_int) pa_nil))) pe_int (nomark _)))
        (fun _ _ _ _ _ => pe_tup (pa_cons (pv 1) (pa_cons (pe_call GT hr (by rfl) gT kT bT .nil pass0 (pa_cons (pv 0) pa_nil)) pa_nil)))) pa_nil)))), ?_⟩
    refine ⟨rfl, fun O hO => ⟨O, rfl, ⟨_, .inl (.inl upd_same)⟩, fun D hD => ?_⟩⟩
    have sO := sameUpd (o := .lst (outsL.map V.str)) hO
    have eO : upd H O (.lst (outsL.map V.str)) O = some (.lst (outsL.map V.str)) := upd_same
    have F1 := hF.same sO
    have nO := fdNe hF hO
    have nD := fdNe F1 hD
    have nOD : D ≠ O := fun z => by rw [z, eO] at hD; cases hD
    have kO1 : Kp a H (upd H O (.lst (outsL.map V.str))) := Kp.same sO
    have hD0 : H D = none := by
      cases e : H D with
      | none => rfl
      | some o => rw [sO _ _ e] at hD; cases hD
    generalize upd H O (.lst (outsL.map V.str)) = H1 at *
    refine lcJ (n := outsL.length) (vs := [1]) (fun i H' => ∃ (ps : List Addr) (os : List (Str × Str)), H' D = some (.lst (ps.map V.ref)) ∧ H' O = some (.lst (outsL.map V.str)) ∧ Paired (fun p o => SqT K H' p [.str o.1, .str o.2]) ps os ∧ (os.map (·.1)).Nodup ∧ (∀ o ∈ os, o.1 ∈ outsL.take i ∧ TOk o.2) ∧ ps.length ≤ i ∧ Kp a H1 H' ∧ Fd H' a)
      ⟨[], [], upd_same, by rw [upd_ne (Ne.symm nOD)]; exact eO, .nil, List.nodup_nil, fun o ho => absurd ho (by simp), Nat.zero_le _, Kp.new hD, fdOther F1 nD⟩
      (fun i H' lt h => by obtain ⟨_, _, _, e, _⟩ := h; exact ⟨outsL.map V.str, V.str outsL[i], .inl (.inl e), by rw [List.getElem?_map, List.getElem?_eq_getElem lt]; rfl⟩)
      (fun H' h => by obtain ⟨_, _, _, e, _⟩ := h; exact ⟨outsL.map V.str, .inl (.inl e), by rw [List.length_map]; exact Nat.le_refl _⟩) (fun i H' x H2 lt h y => ?_) (fun H' h => ?_)
    · obtain ⟨rfl, y⟩ := y
      obtain ⟨ps, os, eD, eO2, pr, ndp, hm, hl, k1, F2⟩ := h
      have ex := y _ (.inl (.inl eO2))
      rw [List.getElem?_map, List.getElem?_eq_getElem lt] at ex
      obtain rfl : V.str outsL[i] = x := Option.some.inj ex
      have up : ∀ {ps : List Addr} {os : List (Str × Str)} {H H' : Hp}, TS H H' → Paired (fun p (o : Str × Str) => SqT K H p [.str o.1, .str o.2]) ps os → Paired (fun p (o : Str × Str) => SqT K H' p [.str o.1, .str o.2]) ps os := fun t h => by
        induction h with
        | nil => exact .nil
        | cons h _ ih => exact .cons (TS.tup t h) ih
      refine ⟨rfl, .ref a, rfl, a, 4, rfl, F2, by decide, by decide, fun r H3 r0 r1 k3 F3 => ⟨r, 0, rfl, rfl, _, rfl, ite2 (fun _ => ?_) (fun _ => ?_)⟩⟩
      · refine ⟨_, rfl, .ref a, rfl, a, rfl, F3, fun z H4 tz k4 F4 => ⟨(by show 2 ≤ sizeLine; decide), fun U hU => ?_⟩⟩
        have sU := sameUpd (o := .tup [.str outsL[i], .str z]) hU
        have kA : Kp a H2 (upd H4 U (.tup [.str outsL[i], .str z])) := (k3.trans k4).trans (Kp.same sU)
        have F5 := F4.same sU
        have eU : SqT K (upd H4 U (.tup [.str outsL[i], .str z])) U [.str outsL[i], .str z] := .inl (.inl upd_same)
        have tA := tsKp F2 kA
        generalize upd H4 U (.tup [.str outsL[i], .str z]) = H5 at *
        have eD5 := kA _ _ nD eD
        have t6 := TS.lst (o := .lst (ps.map V.ref ++ [.ref U])) eD5
        refine ⟨ps.map V.ref, eD5, by rw [sizeLine_eq, List.length_map]; have : outsL.length = 4 := rfl; omega, ps ++ [U], os ++ [(outsL[i], z)], by rw [List.map_append]; exact upd_same, by rw [upd_ne (Ne.symm nOD)]; exact kA _ _ nO eO2, ?_, ?_, fun o ho => ?_, by rw [List.length_append]; show ps.length + 1 ≤ _; omega, fun b o nb hb => ?_, fdOther F5 nD⟩
        · exact (up (tA.trans t6) pr).snoc (TS.tup t6 eU)
        · rw [List.map_append]
          refine List.nodup_append.mpr ⟨ndp, by simp, fun u hu v hv e => ?_⟩
          obtain ⟨o, ho, rfl⟩ := List.mem_map.mp hu
          have hv2 : v = outsL[i] := List.mem_singleton.mp hv
          rw [hv2] at e
          have h1 := (hm o ho).1
          rw [e] at h1
          exact notTake outsNd lt h1
        · rw [List.take_succ_eq_append_getElem lt]
          rcases List.mem_append.mp ho with z' | z'
          · exact ⟨List.mem_append_left _ (hm o z').1, (hm o z').2⟩
          · rw [List.mem_singleton.mp z']
            exact ⟨List.mem_append_right _ (List.mem_singleton.mpr rfl), tz⟩
        · rw [upd_ne (ne_of_none hb hD)]
          exact kA _ _ nb (k1 _ _ nb hb)
      · refine ⟨ps, os, k3 _ _ nD eD, k3 _ _ nO eO2, up (tsKp F2 k3) pr, ndp, fun o ho => ⟨?_, (hm o ho).2⟩, by omega, k1.trans k3, F3⟩
        rw [List.take_succ_eq_append_getElem lt]
        exact List.mem_append_left _ (hm o ho).1
    · obtain ⟨ps, os, eD, eO2, pr, ndp, hm, hl, k1, F2⟩ := h
      have pr2 : Paired (fun p (kv : Key × V) => SqT K H' p [kV kv.1, kv.2]) ps (os.map kvO) := by
        clear eD hm hl ndp
        induction pr with
        | nil => exact .nil
        | cons h _ ih => exact .cons h ih
      refine ⟨D, ps, os.map kvO, rfl, .inl (.inl eD), pr2, fun p hp => ?_⟩
      have em := mergeNd os [] ndp
      rw [List.map_nil, List.nil_append] at em
      rw [em]
      have hp0 : H p = none := by
        cases e : H p with
        | none => rfl
        | some o => rw [k1 p o (fdNe F2 hp) (kO1 p o (fdNe F2 hp) e)] at hp; cases hp
      exact q p os _ ⟨ndp, fun o ho => ⟨List.mem_of_mem_take (hm o ho).1, (hm o ho).2⟩⟩ hp0 upd_same ((kO1.trans k1).trans (Kp.new hp)) (F2.new hp)
end
end TRE

set_option Elab.async false
set_option linter.all false
set_option maxRecDepth 100000
set_option maxHeartbeats 4000000
namespace KS
open PySem PySem.Spec PyProof.Rows L2
def isPr : PyData → Bool
  | .tuple [a, b] => isIn a && isIn b
  | _ => false
def isPt (d : PyData) : Bool := isTx d || isPr d
def arePt : PyData → Bool
  | .tuple ds => ds.all isPt
  | _ => false
/-- a case: answers of the number, whatever stands for the node -/
def isCs (m : Int) : PyData → Bool
  | .tuple [a, _] => areAn a && (match a with
    | .tuple ds => decide ((ds.length : Int) = m)
    | _ => false)
  | _ => false
def areCs (m : Int) : PyData → Bool
  | .tuple ds => ds.all (isCs m)
  | _ => false
def spIs2 (K : PySem.W.Frag) (n : Nat) (p : Int → PyData → Bool) : Sp := fun vs H Q _ => ∃ v d m, vs = [v, .int m] ∧ Dp K H v d ∧ Od n d ∧ ∀ H', Same H H' → Q (.bl (p m d)) H'
section
variable {P : Program} {w : World} {K : PySem.W.Frag} {mg : Str → Option Value} {base : Heap} {f : Addr} {fd : FuncData}
theorem scPair : FnScope ["value"] ["value"] (defScope sPair) := ⟨rfl, rfl, rfl, by decide +kernel, rfl, by decide +kernel, by decide +kernel⟩
theorem okPair {k n : Nat} (F : FnP K "_is_pair_of_integers" sPair f fd) (B : Bn mg) (In : ∀ n, Has P w K mg base (k + 1) "is_integer" ["value"] (spIs K n isIn)) : FnOk P w K mg base CX0 (k + 2) f fd ["value"] (spIs K n isPr) := by
  refine F.ok scPair (fun vs H Q E h => ?_) (fun cdv A outer s H vs Q E hr h => ?_)
  · obtain ⟨v, d, rfl, _⟩ := h
    rfl
  · obtain ⟨v, d, rfl, hd, od, q⟩ := h
    obtain ⟨fN, fdN, gN, kN, bN, GN⟩ := (In n).ex
    refine ⟨_, PSs.nox (pss_one (ps_ret (pe_and (pe_callB call_isi (by rfl) B.isi (by decide +kernel) (pa_cons (pv 0) (pa_cons (pe_bltn (v := .ty "tuple") (by rfl) B.tuple (by decide +kernel) rfl) pa_nil)))
      (pe_and (pe_cmpR op_eq (pe_callB call_len_seq (by rfl) B.len PySem.boot_len (pa_cons (pv 0) pa_nil)) pe_int (nomark _))
      (pe_and (pe_call GN hr (by rfl) gN kN bN .nil pass0 (pa_cons (pe_ix ix_tup (pv 0) pe_int (fun _ _ => rfl)) pa_nil)) (pe_one (pe_call GN hr (by rfl) gN kN bN .nil pass0 (pa_cons (pe_ix ix_tup (pv 0) pe_int (fun _ _ => rfl)) pa_nil)))))))), ?_⟩
    refine ⟨v, rfl, v, .ty "tuple", _, _, _, rfl, .ty _, dpTy hd, dpKit hd (.inl rfl), _, rfl, ?_⟩
    cases od with
    | @tup n ds hl hod =>
      cases hd with
      | @tup a xs _ hx hds =>
        have el := dpLen hds
        refine iteT ⟨.ref a, rfl, a, xs, rfl, .inr hx, rfl, _, rfl, ?_⟩
        rw [dInt]
        refine ite2 (fun e => ?_) (fun e => ?_)
        · have e2 : xs.length = 2 := by have := of_decide_eq_true e; omega
          match xs, ds, hds, el, e2 with
          | [x0, x1], [d0, d1], .cons h0 (.cons h1 .nil), _, _ =>
            have o0 := (hod d0 (by simp)).up (m := n + 1) (by omega)
            have o1 := (hod d1 (by simp)).up (m := n + 1) (by omega)
            refine ⟨.ref a, rfl, a, _, 0, x0, rfl, rfl, hx, atI_nat (j := 0) rfl, x0, d0, rfl, h0, o0, fun H1 s1 => ⟨_, rfl, ite2 (fun e => ?_) (fun e => ?_)⟩⟩
            · refine ⟨.ref a, rfl, a, _, 1, x1, rfl, rfl, sameTup s1 hx, atI_nat (j := 1) rfl, x1, d1, rfl, dpSame s1 _ _ h1, o1, fun H2 s2 => ?_⟩
              have := q H2 (s1.trans s2)
              rw [show isPr (.tuple [d0, d1]) = (isIn d0 && isIn d1) from rfl, e, Bool.true_and] at this
              exact this
            · have := q H1 s1
              rw [show isPr (.tuple [d0, d1]) = (isIn d0 && isIn d1) from rfl, Bool.eq_false_iff.mpr e, Bool.false_and] at this
              exact this
        · have e2 : xs.length ≠ 2 := fun z => e (by rw [z]; rfl)
          have e3 : isPr (.tuple ds) = false := by
            match ds, el with
            | [], _ => rfl
            | [_], _ => rfl
            | [_, _], el => exact absurd el e2
            | _ :: _ :: _ :: _, _ => rfl
          rw [e3] at q
          exact q H (Same.refl H)
    | non => exact iteF (q H (Same.refl H))
    | bl => exact iteF (q H (Same.refl H))
    | int => exact iteF (q H (Same.refl H))
    | str => exact iteF (q H (Same.refl H))
theorem scParts : FnScope ["value", "part"] ["value"] (defScope sParts) := ⟨rfl, rfl, rfl, by decide +kernel, rfl, by decide +kernel, by decide +kernel⟩
theorem okParts {k n : Nat} (F : FnP K "_are_parts" sParts f fd) (B : Bn mg) (Tx : ∀ n, Has P w K mg base (k + 2) "is_text" ["value"] (spIs K n isTx)) (Pr : ∀ n, Has P w K mg base (k + 2) "_is_pair_of_integers" ["value"] (spIs K n isPr)) : FnOk P w K mg base CX0 (k + 3) f fd ["value"] (spIs K n arePt) := by
  refine F.ok scParts (fun vs H Q E h => ?_) (fun cdv A outer s H vs Q E hr h => ?_)
  · obtain ⟨v, d, rfl, _⟩ := h
    rfl
  · obtain ⟨v, d, rfl, hd, od, q⟩ := h
    obtain ⟨fT, fdT, gT, kT, bT, GT⟩ := (Tx n).ex
    obtain ⟨fP, fdP, gP, kP, bP, GP⟩ := (Pr n).ex
    refine ⟨_, PSs.nox (pss_one (ps_ret (pe_and (pe_callB call_isi (by rfl) B.isi (by decide +kernel) (pa_cons (pv 0) (pa_cons (pe_bltn (v := .ty "tuple") (by rfl) B.tuple (by decide +kernel) rfl) pa_nil)))
      (pe_one (pe_callB (cr_all rfl) (by rfl) B.all (by decide +kernel) (pa_cons (pe_lc (own := [("part", 1)]) (g := gName 1) rfl scParts.nd (pi_tup (pv 0)) (blkOk_by (N := ["value", "part"]) (sc := defScope sParts) (by decide +kernel))
        (fun _ _ _ _ _ => pg_name (i := 1) scParts.nd rfl (.inl rfl) (hf := .inr rfl)) (fun _ _ _ _ _ => pts_nil)
        (fun _ _ _ _ _ => pe_or (pe_call GT hr (by rfl) gT kT bT .nil pass0 (pa_cons (pv 1) pa_nil)) (pe_one (pe_call GP hr (by rfl) gP kP bP .nil pass0 (pa_cons (pv 1) pa_nil))))) pa_nil)))))), ?_⟩
    refine ⟨v, rfl, v, .ty "tuple", _, _, _, rfl, .ty _, dpTy hd, dpKit hd (.inl rfl), _, rfl, ?_⟩
    cases od with
    | @tup n ds hl hod =>
      cases hd with
      | @tup a xs _ hx hds =>
        have hq : ∀ H', Same H H' → ∀ b, arePt (.tuple ds) = b → Q (.bl b) H' := fun H' s' b e => e ▸ q H' s'
        refine iteT ⟨.ref a, rfl, a, rfl, ⟨xs, hx⟩, fun D hD => ?_⟩
        refine lcAllT isPt hx hds (by omega) hD (fun v => rfl) (fun v d H1 hm s1 hd R hR => ?_) (fun H1 s1 e3 => ?_)
        · have od2 : Od (n + 1) d := (hod d hm).up (by omega)
          refine ⟨v, rfl, v, d, rfl, hd, od2, fun H2 s2 => ⟨_, rfl, ite2 (fun e => ?_) (fun e => ?_)⟩⟩
          · have := hR H2 s2
            unfold isPt at this
            rw [e, Bool.true_or] at this
            exact this
          · refine ⟨v, rfl, v, d, rfl, dpSame s2 _ _ hd, od2, fun H3 s3 => ?_⟩
            have := hR H3 (s2.trans s3)
            unfold isPt at this
            rw [Bool.eq_false_iff.mpr e, Bool.false_or] at this
            exact this
        · refine ⟨D, ds.map isPt, rfl, .inl (.inl e3), ?_⟩
          rw [show (ds.map isPt).all id = ds.all isPt by rw [List.all_map]; rfl]
          exact hq H1 s1 _ rfl
    | non => exact iteF (q H (Same.refl H))
    | bl => exact iteF (q H (Same.refl H))
    | int => exact iteF (q H (Same.refl H))
    | str => exact iteF (q H (Same.refl H))
theorem scCase : FnScope ["value", "many"] ["value", "many"] (defScope sCase) := ⟨rfl, rfl, rfl, by decide +kernel, rfl, by decide +kernel, by decide +kernel⟩
theorem okCase {k n : Nat} (F : FnP K "_is_case" sCase f fd) (B : Bn mg) (An : ∀ n, Has P w K mg base (k + 2) "are_answers" ["value"] (spIs K n areAn)) : FnOk P w K mg base CX0 (k + 3) f fd ["value", "many"] (spIs2 K n isCs) := by
  refine F.ok scCase (fun vs H Q E h => ?_) (fun cdv A outer s H vs Q E hr h => ?_)
  · obtain ⟨v, d, m, rfl, _⟩ := h
    rfl
  · obtain ⟨v, d, m, rfl, hd, od, q⟩ := h
    obtain ⟨fA, fdA, gA, kA, bA, GA⟩ := (An n).ex
    refine ⟨_, PSs.nox (pss_cons (ps_if (PW.pt (pw_or (pt_not (pt_val (pe_callB call_isi (by rfl) B.isi (by decide +kernel) (pa_cons (pv 0) (pa_cons (pe_bltn (v := .ty "tuple") (by rfl) B.tuple (by decide +kernel) rfl) pa_nil)))))
        (pw_or1 (pt_cmpR op_ne (pe_callB call_len_seq (by rfl) B.len PySem.boot_len (pa_cons (pv 0) pa_nil)) pe_int (nomark _))))) (pss_one (ps_ret pe_bl)) pss_nil) (pss_one (ps_ret (pe_and (pe_call GA hr (by rfl) gA kA bA .nil pass0 (pa_cons (pe_ix ix_tup (pv 0) pe_int (fun _ _ => rfl)) pa_nil)) (pe_one (pe_cmpR op_eq (pe_callB call_len_seq (by rfl) B.len PySem.boot_len (pa_cons (pe_ix ix_tup (pv 0) pe_int (fun _ _ => rfl)) pa_nil)) (pv 1) (nomark _))))))), ?_⟩
    refine ⟨v, rfl, v, .ty "tuple", _, _, _, rfl, .ty _, dpTy hd, dpKit hd (.inl rfl), _, rfl, ?_⟩
    cases od with
    | @tup n ds hl hod =>
      cases hd with
      | @tup a xs _ hx hds =>
        have el := dpLen hds
        have hq : ∀ H', Same H H' → ∀ b, isCs m (.tuple ds) = b → Q (.bl b) H' := fun H' s' b e => e ▸ q H' s'
        refine iteF ⟨.ref a, rfl, a, xs, rfl, .inr hx, rfl, _, rfl, ?_⟩
        rw [dInt]
        by_cases e2 : xs.length = 2
        · rw [decide_eq_true (by omega : (xs.length : Int) = 2)]
          refine iteF ?_
          match xs, ds, hds, el, e2 with
          | [x0, x1], [d0, d1], .cons h0 (.cons h1 .nil), _, _ =>
            have o0 := (hod d0 (by simp)).up (m := n + 1) (by omega)
            refine ⟨.ref a, rfl, a, _, 0, x0, rfl, rfl, hx, atI_nat (j := 0) rfl, x0, d0, rfl, h0, o0, fun H1 s1 => ⟨_, rfl, ite2 (fun e => ?_) (fun e => ?_)⟩⟩
            · have h01 := dpSame s1 _ _ h0
              cases d0 with
              | tuple es =>
                cases h01 with
                | @tup b ys _ hy hes =>
                  have ele := dpLen hes
                  refine ⟨.ref a, rfl, a, _, 0, .ref b, rfl, rfl, sameTup s1 hx, atI_nat (j := 0) rfl, b, ys, rfl, .inr hy, .int m, rfl, rfl, ?_⟩
                  rw [dInt]
                  refine hq H1 s1 _ ?_
                  show (areAn (.tuple es) && decide ((es.length : Int) = m)) = _
                  rw [e, Bool.true_and, ele]
              | _ => exact absurd e (by simp [areAn])
            · refine hq H1 s1 _ ?_
              show (areAn d0 && _) = false
              rw [Bool.eq_false_iff.mpr e, Bool.false_and]
        · rw [decide_eq_false (by omega : ¬ (xs.length : Int) = 2)]
          refine iteT (hq H (Same.refl H) _ ?_)
          match ds, el with
          | [], _ => rfl
          | [_], _ => rfl
          | [_, _], el => exact absurd el e2
          | _ :: _ :: _ :: _, _ => rfl
    | non => exact iteT (q H (Same.refl H))
    | bl => exact iteT (q H (Same.refl H))
    | int => exact iteT (q H (Same.refl H))
    | str => exact iteT (q H (Same.refl H))
theorem scCases : FnScope ["value", "many", "case"] ["value", "many"] (defScope sCases) := ⟨rfl, rfl, rfl, by decide +kernel, rfl, by decide +kernel, by decide +kernel⟩
theorem okCases {k n : Nat} (F : FnP K "_are_cases" sCases f fd) (B : Bn mg) (Cs : ∀ n, Has P w K mg base (k + 3) "_is_case" ["value", "many"] (spIs2 K n isCs)) : FnOk P w K mg base CX0 (k + 4) f fd ["value", "many"] (spIs2 K n areCs) := by
  refine F.ok scCases (fun vs H Q E h => ?_) (fun cdv A outer s H vs Q E hr h => ?_)
  · obtain ⟨v, d, m, rfl, _⟩ := h
    rfl
  · obtain ⟨v, d, m, rfl, hd, od, q⟩ := h
    obtain ⟨fC, fdC, gC, kC, bC, GC⟩ := (Cs n).ex
    refine ⟨_, PSs.nox (pss_one (ps_ret (pe_and (pe_callB call_isi (by rfl) B.isi (by decide +kernel) (pa_cons (pv 0) (pa_cons (pe_bltn (v := .ty "tuple") (by rfl) B.tuple (by decide +kernel) rfl) pa_nil)))
      (pe_one (pe_callB (cr_all rfl) (by rfl) B.all (by decide +kernel) (pa_cons (pe_lc (own := [("case", 2)]) (g := gName 2) rfl scCases.nd (pi_tup (pv 0)) (blkOk_by (N := ["value", "many", "case"]) (sc := defScope sCases) (by decide +kernel))
        (fun _ _ _ _ _ => pg_name (i := 2) scCases.nd rfl (.inl rfl) (hf := .inr rfl)) (fun _ _ _ _ _ => pts_nil)
        (fun _ _ _ _ _ => pe_call GC hr (by rfl) gC kC bC .nil pass0 (pa_cons (pv 2) (pa_cons (pv 1) pa_nil)))) pa_nil)))))), ?_⟩
    refine ⟨v, rfl, v, .ty "tuple", _, _, _, rfl, .ty _, dpTy hd, dpKit hd (.inl rfl), _, rfl, ?_⟩
    cases od with
    | @tup n ds hl hod =>
      cases hd with
      | @tup a xs _ hx hds =>
        refine iteT ⟨.ref a, rfl, a, rfl, ⟨xs, hx⟩, fun D hD => ?_⟩
        refine lcAllT (isCs m) hx hds (by omega) hD (fun v => rfl) (fun v d H1 hm s1 hd R hR => ?_) (fun H1 s1 e3 => ?_)
        · exact ⟨v, rfl, .int m, rfl, v, d, m, rfl, hd, (hod d hm).up (by omega), fun H2 s2 => hR H2 s2⟩
        · refine ⟨D, ds.map (isCs m), rfl, .inl (.inl e3), ?_⟩
          rw [show (ds.map (isCs m)).all id = ds.all (isCs m) by rw [List.all_map]; rfl]
          exact q H1 s1
    | non => exact iteF (q H (Same.refl H))
    | bl => exact iteF (q H (Same.refl H))
    | int => exact iteF (q H (Same.refl H))
    | str => exact iteF (q H (Same.refl H))
end
end KS

set_option Elab.async false
set_option linter.all false
set_option maxRecDepth 100000
set_option maxHeartbeats 4000000
namespace KS
open PySem PySem.Spec PyProof.Rows L2
section
variable {X : Cx}
def rNotInTD (K : PySem.W.Frag) : R2 := fun x y H Q => ∃ d ds, Dp K H x d ∧ Dp K H y (.tuple ds) ∧ SeqAt.shaped d = true ∧ SeqAt.shaped (.tuple ds) = true ∧ Q (.bl (!ds.any fun z => PyData.eqv z d)) H
theorem op_notInTD (hu : X.A.units + 65 < cLine) : OpR X (compareOp .NotIn) (rNotInTD X.K) := by
  intro pins s σ H x y v u Q I rx ry h
  obtain ⟨d, ds, hd, he, sd, se, q⟩ := h
  obtain ⟨as, r1⟩ := Dp.reads I d x v hd rx
  obtain ⟨bs, r2⟩ := Dp.reads I (.tuple ds) y u he ry
  refine SeqAt.notIn_tuple_reads r2 r1 (SeqAt.canLay_of_shaped se) (SeqAt.canLay_of_shaped sd) ?_ ⟨.bl _, H, I, rfl, q⟩
  have h1 := SeqAt.depth_of_shaped sd
  have h2 : min (PyData.depthAll ds) d.depth ≤ d.depth := Nat.min_le_right _ _
  omega
end
def lenD : PyData → Int
  | .tuple ds => ds.length
  | _ => 0
/-- a node behind the outputs ws, whatever stands for the nodes in it -/
def isNd (ws : List PyData) : PyData → Bool
  | .tuple [k, a, b, _] => if isWord "write" k then isNm a && (!(ws.any fun z => PyData.eqv z a) && arePt b) else isWord "read" k && (areKy a && areCs (lenD a) b)
  | d => PyData.eqv d (.tuple [.str "stop"])
/-- what can be compared: the whole, or the first of four -/
def NodeOk (d : PyData) : Prop := SeqAt.shaped d = true ∨ ∃ k a b e, d = .tuple [k, a, b, e] ∧ SeqAt.shaped k = true
def spNode (K : PySem.W.Frag) (n : Nat) : Sp := fun vs H Q _ => ∃ v wv d ws, vs = [v, wv] ∧ Dp K H v d ∧ Od n d ∧ NodeOk d ∧ Dp K H wv (.tuple ws) ∧ SeqAt.shaped (.tuple ws) = true ∧ ∀ H', Same H H' → Q (.bl (isNd ws d)) H'
theorem strSh2 {n : Nat} {z : Str} (h : Od n (.str z)) : SeqAt.shaped (.str z) = true := by
  cases h with
  | str n h _ =>
    unfold SeqAt.shaped
    have e : (PyData.str z).canLay0 = true := h
    rw [e]
    rfl
section
variable {P : Program} {w : World} {K : PySem.W.Frag} {mg : Str → Option Value} {base : Heap} {f : Addr} {fd : FuncData}
abbrev nNode : List Str := ["value", "written", "kind", "first", "second", "_"]
theorem scNode : FnScope nNode ["value", "written"] (defScope sIsNode) := ⟨rfl, rfl, rfl, by decide +kernel, rfl, by decide +kernel, by decide +kernel⟩
theorem okNode {k n : Nat} {S : Addr} (F : FnP K "_is_node" sIsNode f fd) (B : Bn mg) (gS : mg "STOP" = some (.ref S)) (hS : ∀ H, SqT K H S [.str "stop"]) (Nm : ∀ n, Has P w K mg base (k + 4) "is_name" ["value"] (spIs K n isNm)) (Pt : ∀ n, Has P w K mg base (k + 4) "_are_parts" ["value"] (spIs K n arePt))
    (Ky : ∀ n, Has P w K mg base (k + 4) "are_keys" ["value"] (spIs K n areKy)) (Cs : ∀ n, Has P w K mg base (k + 4) "_are_cases" ["value", "many"] (spIs2 K n areCs)) : FnOk P w K mg base CX0 (k + 5) f fd ["value", "written"] (spNode K n) := by
  refine F.ok scNode (fun vs H Q E h => ?_) (fun cdv A outer s H vs Q E hr h => ?_)
  · obtain ⟨v, wv, d, ws, rfl, _⟩ := h
    rfl
  · obtain ⟨v, wv, d, ws, rfl, hd, od, nok, hw, hws, q⟩ := h
    obtain ⟨fN, fdN, gN, kN, bN, GN⟩ := (Nm n).ex
    obtain ⟨fP, fdP, gP, kP, bP, GP⟩ := (Pt n).ex
    obtain ⟨fK, fdK, gK, kK, bK, GK⟩ := (Ky n).ex
    obtain ⟨fC, fdC, gC, kC, bC, GC⟩ := (Cs n).ex
    have hu65 : (A.deeper (envOfC "_is_node" (defScope sIsNode) s.heap.objs.size f cdv)).units + 65 < cLine := by
      have := hr.un
      omega
    refine ⟨_, PSs.nox (pss_cons (ps_if (PW.pt (pw_or (pt_not (pt_val (pe_callB call_isi (by rfl) B.isi (by decide +kernel) (pa_cons (pv 0) (pa_cons (pe_bltn (v := .ty "tuple") (by rfl) B.tuple (by decide +kernel) rfl) pa_nil)))))
        (pw_or1 (pt_cmpR op_ne (pe_callB call_len_seq (by rfl) B.len PySem.boot_len (pa_cons (pv 0) pa_nil)) pe_int (nomark _))))) (pss_one (ps_ret (pe_cmpR (op_eqD hr.units) (pv 0) (pe_glob (v := .ref S) (by rfl) gS rfl) (nomark _)))) pss_nil) (pss_cons (ps_asg (pv 0) (pg_tup rfl (pgs_cons (pg_name (i := 2) scNode.nd rfl (.inl rfl)) (pgs_cons (pg_name (i := 3) scNode.nd rfl (.inl rfl)) (pgs_cons (pg_name (i := 4) scNode.nd rfl (.inl rfl)) (pgs_cons (pg_name (i := 5) scNode.nd rfl (.inl rfl)) pgs_nil)))))) (pss_cons (ps_if (pt_cmpR (op_eqD hr.units) (pv 2) pe_str (nomark _)) (pss_one (ps_ret (pe_and (pe_call GN hr (by rfl) gN kN bN .nil pass0 (pa_cons (pv 3) pa_nil)) (pe_and (pe_cmpR (op_notInTD hu65) (pv 3) (pv 1) (by rfl)) (pe_one (pe_call GP hr (by rfl) gP kP bP .nil pass0 (pa_cons (pv 4) pa_nil))))))) pss_nil) (pss_one (ps_ret (pe_and (pe_cmpR (op_eqD hr.units) (pv 2) pe_str (nomark _)) (pe_and (pe_call GK hr (by rfl) gK kK bK .nil pass0 (pa_cons (pv 3) pa_nil)) (pe_one (pe_call GC hr (by rfl) gC kC bC .nil pass0 (pa_cons (pv 4) (pa_cons (pe_callB call_len_seq (by rfl) B.len PySem.boot_len (pa_cons (pv 3) pa_nil)) pa_nil))))))))))), ?_⟩
    refine ⟨v, rfl, v, .ty "tuple", _, _, _, rfl, .ty _, dpTy hd, dpKit hd (.inl rfl), _, rfl, ?_⟩
    have flat : SeqAt.shaped d = true → isNd ws d = PyData.eqv d (.tuple [.str "stop"]) → rEqD K v (.ref S) H Q := fun hs he =>
      ⟨d, .tuple [.str "stop"], hd, .tup (hS H) (.cons (.str _) .nil), hs, by decide +kernel, by rw [← he]; exact q H (Same.refl H)⟩
    cases od with
    | @tup n ds hl hod =>
      have hq : ∀ H', Same H H' → ∀ b, isNd ws (.tuple ds) = b → Q (.bl b) H' := fun H' s' b e => e ▸ q H' s'
      by_cases e4 : ds.length = 4
      · cases hd with
        | @tup a xs _ hx hds =>
          have el := dpLen hds
          refine iteF ⟨.ref a, rfl, a, xs, rfl, .inr hx, rfl, _, rfl, ?_⟩
          rw [dInt, decide_eq_true (by omega : (xs.length : Int) = 4)]
          refine iteF ?_
          have e5 : xs.length = 4 := by omega
          match xs, ds, hds, el, e5 with
          | [x0, x1, x2, x3], [d0, d1, d2, d3], .cons h0 (.cons h1 (.cons h2 (.cons h3 .nil))), _, _ =>
            have o1 := (hod d1 (by simp)).up (m := n + 1) (by omega)
            have o2 := (hod d2 (by simp)).up (m := n + 1) (by omega)
            have sh0 : SeqAt.shaped d0 = true := by
              rcases nok with z | ⟨k', a', b', e', z, z2⟩
              · have c1 := SeqAt.canLay_of_shaped z
                have c2 := SeqAt.depth_of_shaped z
                simp only [PyData.canLay0, PyData.canLayAll0, Bool.and_eq_true] at c1
                simp only [PyData.depth, PyData.depthAll] at c2
                unfold SeqAt.shaped
                rw [c1.1, Bool.true_and]
                exact decide_eq_true (by omega)
              · injection z with z
                injection z with z
                rw [z]
                exact z2
            have hs : isNd ws (.tuple [d0, d1, d2, d3]) = if isWord "write" d0 then isNm d1 && (!(ws.any fun z => PyData.eqv z d1) && arePt d2) else isWord "read" d0 && (areKy d1 && areCs (lenD d1) d2) := rfl
            refine ⟨.ref a, rfl, a, _, rfl, hx, rfl, x0, _, rfl, x1, _, rfl, x2, _, rfl, x3, _, rfl, rfl, ?_⟩
            refine ⟨x0, rfl, d0, .str "write", h0, .str _, sh0, by decide +kernel, _, rfl, ite2 (fun e => ?_) (fun e => ?_)⟩
            · have ew : isWord "write" d0 = true := e
              rw [ew, if_pos rfl] at hs
              refine ⟨x1, rfl, x1, d1, rfl, h1, o1, fun H1 s1 => ⟨_, rfl, ite2 (fun c => ?_) (fun c => ?_)⟩⟩
              · cases d1 with
                | str z =>
                  refine ⟨x1, rfl, wv, rfl, .str z, ws, dpSame s1 _ _ h1, dpSame s1 _ _ hw, strSh2 o1, hws, _, rfl, ite2 (fun c2 => ?_) (fun c2 => ?_)⟩
                  · exact ⟨x2, rfl, x2, d2, rfl, dpSame s1 _ _ h2, o2, fun H2 s2 => hq H2 (s1.trans s2) _ (by rw [hs, c, c2, Bool.true_and, Bool.true_and])⟩
                  · exact hq H1 s1 _ (by rw [hs, c, Bool.eq_false_iff.mpr c2]; rfl)
                | _ => exact absurd c (by simp [isNm])
              · exact hq H1 s1 _ (by rw [hs, Bool.eq_false_iff.mpr c, Bool.false_and])
            · have ew : isWord "write" d0 = false := Bool.eq_false_iff.mpr e
              rw [ew, if_neg Bool.false_ne_true] at hs
              refine ⟨x0, rfl, d0, .str "read", h0, .str _, sh0, by decide +kernel, _, rfl, ite2 (fun c => ?_) (fun c => ?_)⟩
              · have er : isWord "read" d0 = true := c
                refine ⟨x1, rfl, x1, d1, rfl, h1, o1, fun H1 s1 => ⟨_, rfl, ite2 (fun c2 => ?_) (fun c2 => ?_)⟩⟩
                · have h11 := dpSame s1 _ _ h1
                  cases d1 with
                  | tuple es =>
                    cases h11 with
                    | @tup b ys _ hy hes =>
                      refine ⟨x2, rfl, .ref b, rfl, b, ys, rfl, .inr hy, x2, d2, (ys.length : Int), rfl, dpSame s1 _ _ h2, o2, fun H2 s2 => hq H2 (s1.trans s2) _ ?_⟩
                      rw [hs, er, c2, Bool.true_and, Bool.true_and]
                      show areCs (es.length : Int) d2 = _
                      rw [dpLen hes]
                  | _ => exact absurd c2 (by simp [areKy])
                · exact hq H1 s1 _ (by rw [hs, er, Bool.eq_false_iff.mpr c2]; rfl)
              · have er : isWord "read" d0 = false := Bool.eq_false_iff.mpr c
                exact hq H (Same.refl H) _ (by rw [hs, er, Bool.false_and])
      · have he : isNd ws (.tuple ds) = PyData.eqv (.tuple ds) (.tuple [.str "stop"]) := by
          match ds, e4 with
          | [], _ => rfl
          | [_], _ => rfl
          | [_, _], _ => rfl
          | [_, _, _], _ => rfl
          | _ :: _ :: _ :: _ :: _ :: _, _ => rfl
        have hsh : SeqAt.shaped (.tuple ds) = true := by
          rcases nok with z | ⟨k', a', b', e', z, _⟩
          · exact z
          · injection z with z
            rw [z] at e4
            exact absurd rfl e4
        have hf := flat hsh he
        cases hd with
        | @tup a xs _ hx hds =>
          have el := dpLen hds
          refine iteF ⟨.ref a, rfl, a, xs, rfl, .inr hx, rfl, _, rfl, ?_⟩
          rw [dInt, decide_eq_false (by omega : ¬ (xs.length : Int) = 4)]
          exact iteT ⟨.ref a, rfl, hf⟩
    | non => exact iteT ⟨v, rfl, flat rfl rfl⟩
    | bl => exact iteT ⟨v, rfl, flat rfl rfl⟩
    | int => exact iteT ⟨v, rfl, flat rfl rfl⟩
    | @str n z h1 h2 => exact iteT ⟨v, rfl, flat (strSh2 (.str n h1 h2)) rfl⟩
end
end KS

set_option Elab.async false
set_option linter.all false
set_option maxRecDepth 100000
set_option maxHeartbeats 4000000
/-! the program's look at a tree, for trees without a fault -/
namespace KS.La
open PySem PySem.Spec PyProof.Rows L2
theorem eqvStr (d : PyData) (z : Str) : PyData.eqv d (.str z) = true ↔ d = .str z := by
  cases d <;> simp [PyData.eqv]
theorem ndFlat (ws : List PyData) (d0 : PyData) (dr : List PyData) (h : dr.length ≠ 3) : isNd ws (.tuple (d0 :: dr)) = (isWord "stop" d0 && dr.isEmpty) := by
  match dr, h with
  | [], _ => rfl
  | [_], _ => rfl
  | [_, _], _ => rfl
  | [_, _, _], h => exact absurd rfl h
  | _ :: _ :: _ :: _ :: _, _ => rfl
theorem ndFour (ws : List PyData) (d0 d1 d2 d3 : PyData) : isNd ws (.tuple [d0, d1, d2, d3]) = if isWord "write" d0 then isNm d1 && (!(ws.any fun z => PyData.eqv z d1) && arePt d2) else isWord "read" d0 && (areKy d1 && areCs (lenD d1) d2) := rfl
def second : PyData → PyData
  | .tuple [_, x] => x
  | _ => .none
def caseNodes : PyData → List PyData
  | .tuple cs => cs.map second
  | _ => []
def inD : PyData → List PyData
  | .tuple [k, _, b, e] => if isWord "write" k then [e] else caseNodes b ++ [e]
  | _ => []
def wsD (ws : List PyData) : PyData → List PyData
  | .tuple [k, a, _, _] => if isWord "write" k then ws ++ [a] else ws
  | _ => ws
def firstSome (g : Nat → PyData → Option (List Nat)) : Nat → List PyData → Option (List Nat)
  | _, [] => none
  | i, d :: ds => match g i d with
    | some p => some p
    | none => firstSome g (i + 1) ds
def ff : Nat → List PyData → List Nat → PyData → Option (List Nat)
  | 0, ws, p, d => if isNd ws d then none else some p
  | n + 1, ws, p, d => if isNd ws d then firstSome (fun i e => ff n (wsD ws d) (p ++ [i]) e) 0 (inD d) else some p
theorem fsStep (g : Nat → PyData → Option (List Nat)) (l : List PyData) (i : Nat) (h : i < l.length) : firstSome g i (l.drop i) = match g i l[i] with
    | some p => some p
    | none => firstSome g (i + 1) (l.drop (i + 1)) := by
  rw [List.drop_eq_getElem_cons h]
  rfl
theorem ndShape {ws : List PyData} {d : PyData} (h : isNd ws d = true) : d = .tuple [.str "stop"] ∨ (∃ a b e, d = .tuple [.str "write", a, b, e] ∧ isNm a = true ∧ arePt b = true ∧ (ws.any fun z => PyData.eqv z a) = false) ∨ ∃ a b e, d = .tuple [.str "read", a, b, e] ∧ areKy a = true ∧ areCs (lenD a) b = true := by
  cases d with
  | tuple ds =>
    match ds with
    | [] => cases h
    | d0 :: dr =>
      by_cases h3 : dr.length = 3
      · match dr, h3 with
        | [a, b, c], _ =>
          rw [ndFour] at h
          cases e : isWord "write" d0 with
          | true =>
            rw [e, if_pos rfl, Bool.and_eq_true, Bool.and_eq_true, Bool.not_eq_true'] at h
            rw [(eqvStr _ _).mp e]
            exact .inr (.inl ⟨a, b, c, rfl, h.1, h.2.2, h.2.1⟩)
          | false =>
            rw [e, if_neg Bool.false_ne_true, Bool.and_eq_true, Bool.and_eq_true] at h
            rw [(eqvStr _ _).mp h.1]
            exact .inr (.inr ⟨a, b, c, rfl, h.2.1, h.2.2⟩)
      · rw [ndFlat _ _ _ h3, Bool.and_eq_true] at h
        rw [(eqvStr _ _).mp h.1]
        cases dr with
        | nil => exact .inl rfl
        | cons y ys => cases h.2
  | _ => cases h
theorem csShape {m : Int} {d : PyData} (h : isCs m d = true) : ∃ a x, d = .tuple [a, x] := by
  unfold isCs at h
  split at h
  · exact ⟨_, _, rfl⟩
  · cases h
theorem csTuple {m : Int} {b : PyData} (h : areCs m b = true) : ∃ cs, b = .tuple cs ∧ ∀ c ∈ cs, isCs m c = true := by
  cases b with
  | tuple cs => exact ⟨cs, rfl, fun c hc => List.all_eq_true.mp h c hc⟩
  | _ => cases h
/-- the nodes in a node are less deep -/
theorem inOd {ws : List PyData} {d : PyData} {n : Nat} (h : isNd ws d = true) (od : Od (n + 1) d) : ∀ e ∈ inD d, Od n e := by
  rcases ndShape h with rfl | ⟨a, b, c, rfl, _⟩ | ⟨a, b, c, rfl, _, hb⟩
  · exact fun e he => absurd he (by simp [inD])
  · cases od with
    | tup _ h2 =>
      intro e he
      have he' : e = c := by simpa [inD, show isWord "write" (.str "write") = true from by decide +kernel] using he
      rw [he']
      exact h2 c (by simp)
  · obtain ⟨cs, rfl, hcs⟩ := csTuple hb
    cases od with
    | tup _ h2 =>
      intro e he
      have he' : e ∈ cs.map second ++ [c] := by simpa [inD, caseNodes, show isWord "write" (.str "read") = false from by decide +kernel] using he
      rcases List.mem_append.mp he' with y | y
      · obtain ⟨x, hx, rfl⟩ := List.mem_map.mp y
        obtain ⟨a', x', rfl⟩ := csShape (hcs x hx)
        have o1 := h2 (.tuple cs) (by simp)
        cases o1 with
        | tup _ h3 =>
          have o2 := h3 _ hx
          cases o2 with
          | tup _ h4 => exact (h4 x' (by simp)).up (by omega)
      · rw [List.mem_singleton.mp y]
        exact h2 c (by simp)
/-- names alone -/
def WsOk (ws : List PyData) : Prop := ∀ z ∈ ws, ∃ t, z = .str t ∧ SOk t
theorem WsOk.shapedL {ws : List PyData} (h : WsOk ws) : SeqAt.shaped (.list ws) = true := by
  obtain ⟨a, b⟩ := allLay (ds := ws) (n := 0) fun d hd => by
    obtain ⟨t, rfl, ht⟩ := h d hd
    exact ⟨ht, Nat.zero_le _⟩
  have e1 : (PyData.list ws).canLay0 = true := a
  unfold SeqAt.shaped
  rw [e1, Bool.true_and]
  refine decide_eq_true ?_
  simp only [PyData.depth]
  omega
theorem WsOk.shapedT {ws : List PyData} (h : WsOk ws) : SeqAt.shaped (.tuple ws) = true := by
  obtain ⟨a, b⟩ := allLay (ds := ws) (n := 0) fun d hd => by
    obtain ⟨t, rfl, ht⟩ := h d hd
    exact ⟨ht, Nat.zero_le _⟩
  have e1 : (PyData.tuple ws).canLay0 = true := a
  unfold SeqAt.shaped
  rw [e1, Bool.true_and]
  refine decide_eq_true ?_
  simp only [PyData.depth]
  omega
theorem nmStr {a : PyData} (h : isNm a = true) : ∃ t, a = .str t := by
  cases a <;> first | exact ⟨_, rfl⟩ | cases h
theorem wsOkIn {ws : List PyData} {d : PyData} {n : Nat} (hw : WsOk ws) (h : isNd ws d = true) (od : Od n d) : WsOk (wsD ws d) := by
  rcases ndShape h with rfl | ⟨a, b, c, rfl, ha, _⟩ | ⟨a, b, c, rfl, _, hb⟩
  · exact hw
  · intro z hz
    have hz' : z ∈ ws ++ [a] := by simpa [wsD, show isWord "write" (.str "write") = true from by decide +kernel] using hz
    rcases List.mem_append.mp hz' with y | y
    · exact hw z y
    · rw [List.mem_singleton.mp y]
      obtain ⟨t, rfl⟩ := nmStr ha
      cases od with
      | tup _ h2 =>
        have o := h2 (.str t) (by simp)
        cases o with
        | str _ hs _ => exact ⟨t, rfl, hs⟩
  · have e : wsD ws (.tuple [.str "read", a, b, c]) = ws := by simp [wsD, show isWord "write" (.str "read") = false from by decide +kernel]
    rw [e]
    exact hw
theorem wsLen (ws : List PyData) (d : PyData) : (wsD ws d).length ≤ ws.length + 1 := by
  unfold wsD
  split
  · split
    · simp
    · omega
  · omega
abbrev nI (i : Nat) : V := .int (i : Nat)
section
variable {K : PySem.W.Frag}
theorem writeNe : isWord "write" (.str "stop") = false ∧ isWord "read" (.str "stop") = false ∧ isWord "write" (.str "write") = true ∧ isWord "read" (.str "write") = false ∧ isWord "write" (.str "read") = false ∧ isWord "read" (.str "read") = true := by decide +kernel
theorem eqvSW : PyData.eqv (.str "stop") (.str "write") = false := by decide +kernel
theorem eqvWW : PyData.eqv (.str "write") (.str "write") = true := by decide +kernel
theorem eqvRW : PyData.eqv (.str "read") (.str "write") = false := by decide +kernel
theorem eqvSR : PyData.eqv (.str "stop") (.str "read") = false := by decide +kernel
theorem eqvWR : PyData.eqv (.str "write") (.str "read") = false := by decide +kernel
theorem eqvRR : PyData.eqv (.str "read") (.str "read") = true := by decide +kernel
theorem dpTup {H : Hp} {v : V} {ds : List PyData} (h : Dp K H v (.tuple ds)) : ∃ a xs, v = .ref a ∧ SqT K H a xs ∧ DpAll K H xs ds := by
  cases h with
  | tup a b => exact ⟨_, _, rfl, a, b⟩
theorem dpOne {H : Hp} {xs : List V} {d : PyData} (h : DpAll K H xs [d]) : ∃ y, xs = [y] ∧ Dp K H y d := by
  cases h with
  | cons a b => cases b; exact ⟨_, rfl, a⟩
theorem dpTwo {H : Hp} {xs : List V} {d e : PyData} (h : DpAll K H xs [d, e]) : ∃ y z, xs = [y, z] ∧ Dp K H y d ∧ Dp K H z e := by
  cases h with
  | cons a b =>
    obtain ⟨z, rfl, c⟩ := dpOne b
    exact ⟨_, _, rfl, a, c⟩
theorem dpFour {H : Hp} {xs : List V} {a b c d : PyData} (h : DpAll K H xs [a, b, c, d]) : ∃ x y z u, xs = [x, y, z, u] ∧ Dp K H x a ∧ Dp K H y b ∧ Dp K H z c ∧ Dp K H u d := by
  cases h with
  | cons h1 h2 =>
    cases h2 with
    | cons h2 h3 =>
      obtain ⟨z, u, rfl, h4, h5⟩ := dpTwo h3
      exact ⟨_, _, _, _, rfl, h1, h2, h4, h5⟩
end
/-! ### the program's walk -/
/-- data stand where all but lists stand -/
theorem dpKTo {K : PySem.W.Frag} {H H' : Hp} (k : KT H H') {n : Nat} {d : PyData} (o : Od n d) : ∀ v, Dp K H v d → Dp K H' v d := by
  induction o with
  | non n => exact fun v h => by cases h; exact .non
  | bl n b => exact fun v h => by cases h; exact .bl _
  | int n i => exact fun v h => by cases h; exact .int _
  | str n h _ => exact fun v h => by cases h; exact .str _
  | tup h h2 ih =>
    intro v hv
    cases hv with
    | tup hx hd => exact .tup (k.tup hx) (allKT ih hd)
structure Ent where
  n : Nat
  d : PyData
  ps : List Nat
  ws : List PyData
def firstRes : List Ent → Option (List Nat)
  | [] => none
  | E :: r => match ff E.n E.ws E.ps E.d with
    | some p => some p
    | none => firstRes r
def cnt : Nat → PyData → Nat
  | 0, _ => 1
  | n + 1, d => 1 + ((inD d).map (cnt n)).sum
def cntS : List Ent → Nat
  | [] => 0
  | E :: r => cnt E.n E.d + cntS r
def FineS (N : Nat) : List Ent → Prop
  | [] => True
  | E :: r => E.n ≤ N ∧ r.length ≤ 101 * (N - E.n) ∧ FineS N r
def ents (n : Nat) (ps : List Nat) (ws : List PyData) : Nat → List PyData → List Ent
  | _, [] => []
  | i, e :: r => ⟨n, e, ps ++ [i], ws⟩ :: ents n ps ws (i + 1) r
theorem ents_len (n : Nat) (ps : List Nat) (ws : List PyData) : ∀ (l : List PyData) (i : Nat), (ents n ps ws i l).length = l.length
  | [], _ => rfl
  | _ :: r, i => by
    show (ents n ps ws (i + 1) r).length + 1 = r.length + 1
    rw [ents_len n ps ws r]
theorem firstRes_ents (n : Nat) (ps : List Nat) (ws : List PyData) (S : List Ent) : ∀ (l : List PyData) (i : Nat), firstRes (ents n ps ws i l ++ S) = match firstSome (fun i e => ff n ws (ps ++ [i]) e) i l with
    | some p => some p
    | none => firstRes S
  | [], _ => rfl
  | e :: r, i => by
    have h := firstRes_ents n ps ws S r (i + 1)
    show (match ff n ws (ps ++ [i]) e with
      | some p => some p
      | none => firstRes (ents n ps ws (i + 1) r ++ S)) = match (match ff n ws (ps ++ [i]) e with
      | some p => some p
      | none => firstSome (fun i e => ff n ws (ps ++ [i]) e) (i + 1) r) with
      | some p => some p
      | none => firstRes S
    rw [h]
    cases ff n ws (ps ++ [i]) e <;> rfl
theorem cntS_ents (n : Nat) (ps : List Nat) (ws : List PyData) (S : List Ent) : ∀ (l : List PyData) (i : Nat), cntS (ents n ps ws i l ++ S) = (l.map (cnt n)).sum + cntS S
  | [], _ => by
    show cntS S = 0 + cntS S
    omega
  | e :: r, i => by
    have h := cntS_ents n ps ws S r (i + 1)
    show cnt n e + cntS (ents n ps ws (i + 1) r ++ S) = (cnt n e + (r.map (cnt n)).sum) + cntS S
    omega
theorem fine_ents {N n : Nat} {ps : List Nat} {ws : List PyData} {S : List Ent} (h : n + 1 ≤ N) (hS : FineS N S) (hl : S.length ≤ 101 * (N - (n + 1))) : ∀ (l : List PyData) (i : Nat), l.length ≤ 101 → FineS N (ents n ps ws i l ++ S)
  | [], _, _ => hS
  | e :: r, i, hr => by
    have hr' : r.length + 1 ≤ 101 := hr
    refine ⟨by show n ≤ N; omega, ?_, fine_ents h hS hl r (i + 1) (by omega)⟩
    show (ents n ps ws (i + 1) r ++ S).length ≤ 101 * (N - n)
    rw [List.length_append, ents_len]
    have : N - n = (N - (n + 1)) + 1 := by omega
    rw [this, Nat.mul_add]
    omega
theorem ffNo {n : Nat} {ws : List PyData} {ps : List Nat} {d : PyData} (h : isNd ws d = false) : ff n ws ps d = some ps := by
  cases n <;> (show (if isNd ws d = true then _ else some ps) = some ps; rw [h]; rfl)
theorem ffYes {n : Nat} {ws : List PyData} {ps : List Nat} {d : PyData} (h : isNd ws d = true) : ff (n + 1) ws ps d = firstSome (fun i e => ff n (wsD ws d) (ps ++ [i]) e) 0 (inD d) := by
  show (if isNd ws d = true then _ else some ps) = _
  rw [h]
  rfl
theorem inLen {ws : List PyData} {d : PyData} {n : Nat} (h : isNd ws d = true) (od : Od n d) : (inD d).length ≤ 101 := by
  rcases ndShape h with rfl | ⟨a, b, c, rfl, ha, _⟩ | ⟨a, b, c, rfl, _, hb⟩
  · simp [inD]
  · simp [inD, writeNe.2.2.1]
  · obtain ⟨cs, rfl, hcs⟩ := csTuple hb
    cases od with
    | tup _ h2 =>
      have o := h2 (.tuple cs) (by simp)
      cases o with
      | tup h _ =>
        simp [inD, caseNodes, writeNe.2.2.2.2.1]
        omega
def EntOk (K : PySem.W.Frag) (H0 H : Hp) (v : V) (E : Ent) : Prop := ∃ (t : Addr) (x : V) (pa wa : Addr) (zs : List V), v = .ref t ∧ SqT K H t [x, .ref pa, .ref wa] ∧ Dp K H x E.d ∧ SqT K H pa (E.ps.map nI) ∧ SqT K H wa zs ∧ DpAll K H0 zs E.ws ∧
  Od E.n E.d ∧ WsOk E.ws ∧ E.ps.length + E.n ≤ 300 ∧ E.ws.length + E.n ≤ 300
inductive StOk (K : PySem.W.Frag) (H0 H : Hp) : List V → List Ent → Prop
  | nil : StOk K H0 H [] []
  | cons {v : V} {E : Ent} {vs : List V} {Es : List Ent} (h : EntOk K H0 H v E) (r : StOk K H0 H vs Es) : StOk K H0 H (v :: vs) (E :: Es)
theorem StOk.kt {K : PySem.W.Frag} {H0 H H' : Hp} (k : KT H H') {vs : List V} {Es : List Ent} (h : StOk K H0 H vs Es) : StOk K H0 H' vs Es := by
  induction h with
  | nil => exact .nil
  | cons h r ih =>
    obtain ⟨t, x, pa, wa, zs, rfl, h1, h2, h3, h4, h5, h6, h7⟩ := h
    exact .cons ⟨t, x, pa, wa, zs, rfl, k.tup h1, dpKTo k h6 _ h2, k.tup h3, k.tup h4, h5, h6, h7⟩ ih
theorem StOk.len {K : PySem.W.Frag} {H0 H : Hp} {vs : List V} {Es : List Ent} (h : StOk K H0 H vs Es) : vs.length = Es.length := by
  induction h with
  | nil => rfl
  | cons _ _ ih => rw [List.length_cons, List.length_cons, ih]
theorem lcMapG {K : PySem.W.Frag} {a : Addr} {xs : List V} {ds : List PyData} {vs : List Nat} {gt : TG} {te : TE} {σ : L2.St} {H1 : Hp} {D : Addr} {Qd : Hp → Prop} (g : PyData → PyData) (ha : SqT K H1 a xs) (hx : DpAll K H1 xs ds) (hn : ds.length ≤ 1000) (hD : H1 D = none)
    (hs : ∀ v d H, d ∈ ds → Same H1 H → Dp K H1 v d → ∀ (R : VK) (N : Hp → Prop), (∀ y H2, Same H H2 → Dp K H1 y (g d) → R y H2) → gt v (wipe σ vs) H fun σ2 H2 => wipe σ2 vs = wipe σ vs ∧ tYes σ2 H2 fun b H3 => if b = true then te σ2 H3 R else N H3)
    (hd : ∀ H ys, Same H1 H → H D = some (.lst ys) → DpAll K H1 ys (ds.map g) → Qd H) :
    ∃ W : Nat → Nat → Hp → Prop, (∃ m, W 0 m (upd H1 D (.lst []))) ∧ ∀ i m H, W i m H →
      ((Itt K a).stop i H ∧ Qd H) ∨ ((Itt K a).go i H ∧ ∃ Nx : Hp → Prop, (∀ H', Nx H' → ∃ m', m' < m ∧ W (i + 1) m' H') ∧ ∀ x H', (Itt K a).yld i H x H' → gt x (wipe σ vs) H' fun σ2 H2 => wipe σ2 vs = wipe σ vs ∧ tYes σ2 H2 fun b H3 =>
        if b = true then te σ2 H3 fun y H4 => ∃ acc, H4 D = some (.lst acc) ∧ acc.length < sizeLine ∧ Nx (upd H4 D (.lst (acc ++ [y]))) else Nx H3) := by
  have hl := dpLen hx
  refine lcJ (n := ds.length) (fun i H => ∃ ys, At H1 D ys H ∧ DpAll K H1 ys ((ds.take i).map g)) ⟨[], ⟨sameUpd hD, upd_same⟩, .nil⟩ (fun i H lt h => ⟨xs, xs[i], sameTup h.choose_spec.1.1 ha, List.getElem?_eq_getElem (by omega)⟩)
    (fun H h => ⟨xs, sameTup h.choose_spec.1.1 ha, by omega⟩) (fun i H x H' lt h y => ?_) (fun H h => ?_)
  · obtain ⟨ys, hat, hys⟩ := h
    obtain ⟨rfl, y⟩ := y
    have e := y xs (sameTup hat.1 ha)
    have e2 : ds[i]? = some ds[i] := List.getElem?_eq_getElem lt
    obtain ⟨v, h1, h2⟩ := dpAt hx e2
    obtain rfl : v = x := Option.some.inj (h1.symm.trans e)
    refine hs v ds[i] _ (List.getElem_mem lt) hat.1 h2 _ _ fun z H2 s2 hz => ?_
    obtain ⟨e3, e4⟩ := hat.put (ys := ys ++ [z]) hD s2
    have hly := dpLen hys
    refine ⟨_, e3, ?_, _, e4, ?_⟩
    · rw [hly, List.length_map, List.length_take, sizeLine_eq]
      omega
    · rw [List.take_succ_eq_append_getElem lt, List.map_append]
      exact dpSnoc hz hys
  · obtain ⟨ys, hat, hys⟩ := h
    rw [List.take_length] at hys
    exact hd H ys hat.1 hat.2 hys
def spInner (K : PySem.W.Frag) (n : Nat) : Sp := fun vs H Q _ => ∃ v d ws, vs = [v] ∧ Dp K H v d ∧ Od n d ∧ isNd ws d = true ∧ ∀ p xs H', H p = none → Same H H' → H' p = some (.lst xs) → DpAll K H xs (inD d) → Q (.ref p) H'
section
variable {P : Program} {w : World} {K : PySem.W.Frag} {mg : Str → Option Value} {base : Heap} {f : Addr} {fd : FuncData}
theorem scInner : FnScope ["node", "_", "inner"] ["node"] (defScope sInner) := ⟨rfl, rfl, rfl, by decide +kernel, rfl, by decide +kernel, by decide +kernel⟩
theorem okInner {k n : Nat} (F : FnP K "_inner_nodes" sInner f fd) : FnOk P w K mg base CX0 (k + 1) f fd ["node"] (spInner K n) := by
  refine F.ok scInner (fun vs H Q E h => ?_) (fun cdv A outer s H vs Q E hr h => ?_)
  · obtain ⟨v, d, ws, rfl, _⟩ := h
    rfl
  · obtain ⟨v, d, ws, rfl, hd, od, e, q⟩ := h
    refine ⟨_, PSs.nox (pss_cons (ps_if (pt_cmpR (op_eqD hr.units) (pe_ix ix_tup (pv 0) pe_int (fun _ _ => rfl)) pe_str (nomark _)) (pss_one (ps_ret (pe_lst (pa_cons (pe_ix ix_tup (pv 0) pe_int (fun _ _ => rfl)) pa_nil)))) pss_nil) (pss_cons (ps_if (pt_cmpR (op_eqD hr.units) (pe_ix ix_tup (pv 0) pe_int (fun _ _ => rfl)) pe_str (nomark _)) (pss_one (ps_ret (pe_op op_cat (pe_lc (own := [("_", 1), ("inner", 2)]) (g := gTup K 2 (gCons (gName 1) (gCons (gName 2) gNil))) rfl scInner.nd (pi_tup (pe_ix ix_tup (pv 0) pe_int (fun _ _ => rfl))) (blkOk_by (N := ["node", "_", "inner"]) (sc := defScope sInner) (by decide +kernel))
          (fun _ _ _ _ _ => pg_tup rfl (pgs_cons (pg_name (i := 1) scInner.nd rfl (.inl rfl) (hf := .inr rfl)) (pgs_cons (pg_name (i := 2) scInner.nd rfl (.inl rfl) (hf := .inr rfl)) pgs_nil))) (fun _ _ _ _ _ => pts_nil) (fun _ _ _ _ _ => pv 2)) (pe_lst (pa_cons (pe_ix ix_tup (pv 0) pe_int (fun _ _ => rfl)) pa_nil))))) pss_nil) (pss_one (ps_ret (pe_lst pa_nil))))), ?_⟩
    rcases ndShape e with rfl | ⟨a, b, c, rfl, ha, _⟩ | ⟨a, b, c, rfl, _, hb⟩
    · obtain ⟨t, ys, rfl, hy, hds⟩ := dpTup hd
      obtain ⟨y0, rfl, h0⟩ := dpOne hds
      refine ⟨.ref t, rfl, t, _, 0, y0, rfl, rfl, hy, atI_nat (j := 0) rfl, .str "stop", .str "write", h0, .str _, by decide +kernel, by decide +kernel, _, rfl, ?_⟩
      rw [eqvSW]
      refine iteF ⟨.ref t, rfl, t, _, 0, y0, rfl, rfl, hy, atI_nat (j := 0) rfl, .str "stop", .str "read", h0, .str _, by decide +kernel, by decide +kernel, _, rfl, ?_⟩
      rw [eqvSR]
      refine iteF ⟨(by show 0 ≤ sizeLine; exact Nat.zero_le _), fun p hp => q p [] _ hp (sameUpd hp) upd_same ?_⟩
      have e6 : inD (.tuple [.str "stop"]) = [] := rfl
      rw [e6]
      exact .nil
    · obtain ⟨t, ys, rfl, hy, hds⟩ := dpTup hd
      obtain ⟨y0, y1, y2, y3, rfl, h0, h1, h2, h3⟩ := dpFour hds
      refine ⟨.ref t, rfl, t, _, 0, y0, rfl, rfl, hy, atI_nat (j := 0) rfl, .str "write", .str "write", h0, .str _, by decide +kernel, by decide +kernel, _, rfl, ?_⟩
      rw [eqvWW]
      refine iteT ⟨.ref t, rfl, t, _, 3, y3, rfl, rfl, hy, atI_nat (j := 3) rfl, (by show 1 ≤ sizeLine; decide), fun p hp => q p [y3] _ hp (sameUpd hp) upd_same ?_⟩
      have e5 : inD (.tuple [.str "write", a, b, c]) = [c] := by simp [inD, writeNe.2.2.1]
      rw [e5]
      exact .cons h3 .nil
    · obtain ⟨cs, rfl, hcs⟩ := csTuple hb
      obtain ⟨t, ys, rfl, hy, hds⟩ := dpTup hd
      obtain ⟨y0, y1, y2, y3, rfl, h0, h1, h2, h3⟩ := dpFour hds
      obtain ⟨t2, cxs, rfl, hy2, hc2⟩ := dpTup h2
      have lcs : cs.length ≤ 100 := by
        cases od with
        | tup _ h2 =>
          have o := h2 (.tuple cs) (by simp)
          cases o with
          | tup h _ => exact h
      refine ⟨.ref t, rfl, t, _, 0, y0, rfl, rfl, hy, atI_nat (j := 0) rfl, .str "read", .str "write", h0, .str _, by decide +kernel, by decide +kernel, _, rfl, ?_⟩
      rw [eqvRW]
      refine iteF ⟨.ref t, rfl, t, _, 0, y0, rfl, rfl, hy, atI_nat (j := 0) rfl, .str "read", .str "read", h0, .str _, by decide +kernel, by decide +kernel, _, rfl, ?_⟩
      rw [eqvRR]
      refine iteT ⟨.ref t, rfl, t, _, 2, .ref t2, rfl, rfl, hy, atI_nat (j := 2) rfl, t2, rfl, ⟨cxs, hy2⟩, fun D hD => ?_⟩
      refine lcMapG second hy2 hc2 (by omega) hD (fun v d H4 hm s4 hd4 R N hR => ?_) (fun H4 ys4 s4 e4 hys4 => ?_)
      · obtain ⟨a', x', rfl⟩ := csShape (hcs d hm)
        obtain ⟨g, gs, rfl, hg, hgs⟩ := dpTup hd4
        obtain ⟨g0, g1, rfl, k0, k1⟩ := dpTwo hgs
        refine ⟨g, [g0, g1], rfl, sameTup s4 hg, rfl, g0, [g1], rfl, g1, [], rfl, rfl, rfl, ?_⟩
        unfold tYes
        dsimp only
        rw [if_pos rfl]
        refine ⟨g1, rfl, hR g1 H4 (Same.refl _) ?_⟩
        exact k1
      · refine ⟨.ref t, rfl, t, _, 3, y3, rfl, rfl, sameTup s4 hy, atI_nat (j := 3) rfl, (by show 1 ≤ sizeLine; decide), fun p5 hp5 => ?_⟩
        have s5 := sameUpd (o := .lst [y3]) hp5
        have hL5 : upd H4 p5 (.lst [y3]) p5 = some (.lst [y3]) := upd_same
        generalize upd H4 p5 (.lst [y3]) = H5 at s5 hL5 ⊢
        have hly := dpLen hys4
        refine ⟨D, p5, ys4, [y3], rfl, rfl, s5 _ _ e4, hL5, by rw [hly, List.length_map, sizeLine_eq]; show cs.length + 1 ≤ _; omega, fun p6 hp6 => ?_⟩
        have s6 := sameUpd (o := .lst (ys4 ++ [y3])) hp6
        have sA := (s4.trans s5).trans s6
        have hp0 : H p6 = none := by
          cases hh : H p6 with
          | none => rfl
          | some o => rw [(s4.trans s5) _ _ hh] at hp6; cases hp6
        refine q p6 (ys4 ++ [y3]) _ hp0 sA upd_same ?_
        have e5 : inD (.tuple [.str "read", a, .tuple cs, c]) = cs.map second ++ [c] := by simp [inD, caseNodes, writeNe.2.2.2.2.1]
        rw [e5]
        exact dpSnoc h3 hys4
end
end KS.La

set_option Elab.async false
set_option linter.all false
set_option maxRecDepth 100000
set_option maxHeartbeats 4000000
namespace KS.La
open PySem PySem.Spec PyProof.Rows L2
/-- a tree without a fault is let by -/
def spCheck0 (K : PySem.W.Frag) (n : Nat) : Sp := fun vs H Q _ => ∃ v d, vs = [v] ∧ Dp K H v d ∧ Od n d ∧ ff n [] [] d = none ∧ ∀ H', Same H H' → Q .non H'
section
variable {P : Program} {w : World} {K : PySem.W.Frag} {mg : Str → Option Value} {base : Heap} {f : Addr} {fd : FuncData}
abbrev nCheck : List Str := ["top", "waiting", "node", "path", "written", "inner", "at"]
theorem scCheck : FnScope nCheck ["top"] (defScope sCheck) := ⟨rfl, rfl, rfl, by decide +kernel, rfl, by decide +kernel, by decide +kernel⟩
theorem okCheck0 {k n : Nat} (hn : n ≤ 60) (F : FnP K "_check_tree" sCheck f fd) (B : Bn mg) (mr : mg "reversed" = none) (Nd : ∀ n, Has P w K mg base (k + 5) "_is_node" ["value", "written"] (spNode K n)) (In : ∀ n, Has P w K mg base (k + 5) "_inner_nodes" ["node"] (spInner K n)) :
    FnOk P w K mg base CX0 (k + 6) f fd ["top"] (spCheck0 K n) := by
  refine F.ok scCheck (fun vs H Q E h => ?_) (fun cdv A outer s H vs Q E hr h => ?_)
  · obtain ⟨v, d, rfl, _⟩ := h
    rfl
  · obtain ⟨v, d, rfl, hd, od, hff, q1⟩ := h
    obtain ⟨fN, fdN, gN, kN, bN, GN⟩ := (Nd 199).ex
    obtain ⟨fI, fdI, gI, kI, bI, GI⟩ := (In 199).ex
    refine ⟨_, PSs.nox (pss_cons (ps_set (i := 1) scCheck.nd rfl (.inl rfl) (pe_lst (pa_cons (pe_tup (pa_cons (pv 0) (pa_cons (pe_tup pa_nil) (pa_cons (pe_tup pa_nil) pa_nil)))) pa_nil))) (pss_one (ps_while PassesOwn.never (pt_truth (pv 1) (by intro _; rfl))
        (pss_cons (ps_asg (pe_bm0 PySem.F.plainAttrs_list PySem.F.slot_list_pop PySem.F.type_list_pop mt_pop (pv 1)) (pg_tup rfl (pgs_cons (pg_name (i := 2) scCheck.nd rfl (.inl rfl)) (pgs_cons (pg_name (i := 3) scCheck.nd rfl (.inl rfl)) (pgs_cons (pg_name (i := 4) scCheck.nd rfl (.inl rfl)) pgs_nil))))) (pss_cons (ps_if (pt_not (pt_val (pe_call GN hr (by rfl) gN kN bN .nil pass0 (pa_cons (pv 2) (pa_cons (pv 4) pa_nil))))) (pss_one (ps_never)) pss_nil) (pss_cons (ps_set (i := 5) scCheck.nd rfl (.inl rfl) (pe_call GI hr (by rfl) gI kI bI .nil pass0 (pa_cons (pv 2) pa_nil))) (C8.pss_cut (ps_if (pt_cmpR (op_eqD hr.units) (pe_ix ix_tup (pv 2) pe_int (fun _ _ => rfl)) pe_str (nomark _)) (pss_one (ps_set (i := 4) scCheck.nd rfl (.inl rfl) (pe_tup (StX.pa_star (pv 4) (pa_cons (pe_ix ix_tup (pv 2) pe_int (fun _ _ => rfl)) pa_nil))))) pss_nil) (pss_one (ps_for PassesOwn.never rfl (pi_revR (by rfl) mr (prg_1 (by rfl) B.range (pe_callB call_len_seq (by rfl) B.len PySem.boot_len (pa_cons (pv 5) pa_nil)))) (pg_name (i := 6) scCheck.nd rfl (.inl rfl))
            (pss_one (ps_expr (pe_bm PySem.F.plainAttrs_list PySem.F.slot_list_append PySem.F.type_list_append mt_append (pv 1) (pa_cons (pe_tup (pa_cons (pe_ix ix_list (pv 5) (pv 6) (fun _ _ => rfl)) (pa_cons (pe_tup (StX.pa_star (pv 3) (pa_cons (pv 6) pa_nil))) (pa_cons (pv 4) pa_nil)))) pa_nil))))))))))))), ?_⟩
    refine ⟨v, rfl, (by show 0 ≤ sizeLine; exact Nat.zero_le _), fun p1 n1 => ⟨(by show 0 ≤ sizeLine; exact Nat.zero_le _), fun p2 n2 => ⟨(by show 3 ≤ sizeLine; decide), fun p3 n3 => ⟨(by show 1 ≤ sizeLine; decide), fun W nW => ?_⟩⟩⟩⟩
    have s1 := sameUpd (o := .tup []) n1
    have e1 : upd H p1 (.tup []) p1 = some (.tup []) := upd_same
    generalize upd H p1 (.tup []) = H1 at *
    have s2 := sameUpd (o := .tup []) n2
    have e2 : upd H1 p2 (.tup []) p2 = some (.tup []) := upd_same
    generalize upd H1 p2 (.tup []) = H2 at *
    have s3 := sameUpd (o := .tup [v, .ref p1, .ref p2]) n3
    have e3 : upd H2 p3 (.tup [v, .ref p1, .ref p2]) p3 = some (.tup [v, .ref p1, .ref p2]) := upd_same
    generalize upd H2 p3 (.tup [v, .ref p1, .ref p2]) = H3 at *
    have s4 := sameUpd (o := .lst [.ref p3]) nW
    have e4 : upd H3 W (.lst [.ref p3]) W = some (.lst [.ref p3]) := upd_same
    generalize upd H3 W (.lst [.ref p3]) = H4 at *
    have sA := ((s1.trans s2).trans s3).trans s4
    have hWn : H W = none := by
      cases hh : H W with
      | none => rfl
      | some o => rw [((s1.trans s2).trans s3) _ _ hh] at nW; cases nW
    have first : StOk K H H4 [.ref p3] [⟨n, d, [], []⟩] := .cons ⟨p3, v, p1, p2, [], rfl, .inl (.inl (s4 _ _ e3)), dpSame sA _ _ hd, .inl (.inl (s4 _ _ (s3 _ _ (s2 _ _ e1)))), .inl (.inl (s4 _ _ (s3 _ _ e2))), .nil, od, fun z hz => absurd hz (by simp), by show 0 + n ≤ 300; omega, by show 0 + n ≤ 300; omega⟩ .nil
    refine ⟨fun m σ' H' => ∃ (b c e f g : Option V) (rs : List V) (S : List Ent), σ' = [some v, some (.ref W), b, c, e, f, g] ∧ Same H H' ∧ H' W = some (.lst rs.reverse) ∧ StOk K H H' rs S ∧ FineS n S ∧ m = cntS S ∧ firstRes S = ff n [] [] d,
      ⟨_, none, none, none, none, none, [.ref p3], [⟨n, d, [], []⟩], rfl, sA, e4, first, ⟨Nat.le_refl _, Nat.zero_le _, trivial⟩, rfl, ?_⟩, fun m σ' H' hw => ?_⟩
    · show (match ff n [] [] d with
        | some p => some p
        | none => none) = _
      cases ff n [] [] d <;> rfl
    obtain ⟨b, c, e, g, g2, rs, S, rfl, sH, hW, hS, hF, rfl, hres⟩ := hw
    cases hS with
    | nil =>
      refine ⟨.ref W, rfl, false, .inl ⟨[], .inl (.inl hW), rfl⟩, iteF ?_⟩
      exact q1 H' sH
    | @cons v1 E1 rs S h1 hr1 =>
      refine ⟨.ref W, rfl, true, .inl ⟨_, .inl (.inl hW), by simp⟩, iteT ?_⟩
      refine ⟨fun σ2 H2 => ∃ m', m' < cntS (E1 :: S) ∧ ∃ (b c e f g : Option V) (rs : List V) (S : List Ent), σ2 = [some v, some (.ref W), b, c, e, f, g] ∧ Same H H2 ∧ H2 W = some (.lst rs.reverse) ∧ StOk K H H2 rs S ∧ FineS n S ∧ m' = cntS S ∧ firstRes S = ff n [] [] d, fun _ _ z => z, ?_⟩
      obtain ⟨n0, d0, ps0, ws0⟩ := E1
      obtain ⟨t, x, pa, wa, zs, rfl, ht, hx, hpa, hwa, hzs, hod, hwok, hpl, hwl⟩ := h1
      dsimp only at hx hpa hzs hod hwok hpl hwl
      obtain ⟨hF1, hF2, hF3⟩ := hF
      dsimp only at hF1 hF2
      have hlast : (V.ref t :: rs).reverse[(V.ref t :: rs).reverse.length - 1]? = some (.ref t) := by
        rw [List.reverse_cons, List.length_append, List.length_singleton, Nat.add_sub_cancel, List.getElem?_append_right (Nat.le_refl _), Nat.sub_self]
        rfl
      have hdrop : (V.ref t :: rs).reverse.dropLast = rs.reverse := by rw [List.reverse_cons, List.dropLast_concat]
      refine ⟨.ref W, rfl, .inl ⟨rfl, _, .inl (.inl hW)⟩, W, _, .ref t, rfl, rfl, hW, hlast, ?_⟩
      rw [hdrop]
      have kt1 : KT H' (upd H' W (.lst rs.reverse)) := KT.put hW
      have sH2 : Same H (upd H' W (.lst rs.reverse)) := fun b o hb => by
        rw [upd_ne (ne_of_none hb hWn)]
        exact sH _ _ hb
      have hW2 : upd H' W (.lst rs.reverse) W = some (.lst rs.reverse) := upd_same
      generalize upd H' W (.lst rs.reverse) = H5 at kt1 sH2 hW2 ⊢
      refine ⟨t, _, rfl, kt1.tup ht, rfl, x, _, rfl, _, _, rfl, _, _, rfl, rfl, ?_⟩
      have nok : NodeOk d0 := .inl ((hod.up (m := 60) (by omega)).shaped (by omega))
      refine ⟨x, rfl, .ref wa, rfl, x, .ref wa, d0, ws0, rfl, dpKTo kt1 hod _ hx, hod.up (by omega), nok, .tup (kt1.tup hwa) (dpAllSame sH2 _ _ hzs), hwok.shapedT, fun H6 s6 => ⟨_, rfl, ?_⟩⟩
      cases hnd : isNd ws0 d0 with
      | false =>
        have hr0 : firstRes (⟨n0, d0, ps0, ws0⟩ :: S) = some ps0 := by
          show (match ff n0 ws0 ps0 d0 with
            | some p => some p
            | none => firstRes S) = _
          rw [ffNo hnd]
        rw [hr0, hff] at hres
        cases hres
      | true =>
        obtain ⟨n1, rfl⟩ : ∃ n1, n0 = n1 + 1 := by
          cases n0 with
          | zero => exact absurd hnd (by cases hod <;> simp [isNd, PyData.eqv])
          | succ n1 => exact ⟨n1, rfl⟩
        refine iteF ⟨x, rfl, x, d0, ws0, rfl, dpSame s6 _ _ (dpKTo kt1 hod _ hx), hod.up (by omega), hnd, fun L xs H7 nL s7 hL hxs => ?_⟩
        have sH7 := (sH2.trans s6).trans s7
        have hxs0 : DpAll K H7 xs (inD d0) := dpAllSame s7 _ _ hxs
        have hpa7 := sameTup (s6.trans s7) (kt1.tup hpa)
        have hwa7 := sameTup (s6.trans s7) (kt1.tup hwa)
        have hW7 := (s6.trans s7) _ _ hW2
        have neL : L ≠ W := fun z => by rw [z, (s6 _ _ hW2)] at nL; cases nL
        have kt7 : KT H' H7 := kt1.trans (KT.same (s6.trans s7))
        refine ⟨fun σ' H8 => ∃ wa' zs', σ' = [some v, some (.ref W), some x, some (.ref pa), some (.ref wa'), some (.ref L), g2] ∧ Same H7 H8 ∧ SqT K H8 wa' zs' ∧ DpAll K H zs' (wsD ws0 d0), ?_, ?_⟩
        · have hx7 := dpSame (s6.trans s7) _ _ (dpKTo kt1 hod _ hx)
          rcases ndShape hnd with rfl | ⟨a, b', c', rfl, ha, _⟩ | ⟨a, b', c', rfl, _, hb⟩
          · obtain ⟨t', ys, rfl, hy, hds⟩ := dpTup hx7
            obtain ⟨y0, rfl, h0⟩ := dpOne hds
            refine ⟨.ref t', rfl, t', _, 0, y0, rfl, rfl, hy, atI_nat (j := 0) rfl, .str "stop", .str "write", h0, .str _, by decide +kernel, by decide +kernel, _, rfl, ?_⟩
            rw [eqvSW]
            refine iteF ⟨wa, zs, rfl, Same.refl _, hwa7, ?_⟩
            have e5 : wsD ws0 (.tuple [.str "stop"]) = ws0 := rfl
            rw [e5]
            exact hzs
          · obtain ⟨t', ys, rfl, hy, hds⟩ := dpTup hx7
            obtain ⟨y0, y1, y2, y3, rfl, h0, h1, h2, h3⟩ := dpFour hds
            obtain ⟨a0, rfl⟩ := nmStr ha
            refine ⟨.ref t', rfl, t', _, 0, y0, rfl, rfl, hy, atI_nat (j := 0) rfl, .str "write", .str "write", h0, .str _, by decide +kernel, by decide +kernel, _, rfl, ?_⟩
            rw [eqvWW]
            have hlz := dpLen hzs
            refine iteT ⟨.ref wa, rfl, wa, zs, rfl, .inl hwa7, .ref t', rfl, t', _, 1, y1, rfl, rfl, hy, atI_nat (j := 1) rfl, ?_, fun p8 n8 => ?_⟩
            · rw [List.length_append, hlz, sizeLine_eq]
              show ws0.length + 1 ≤ _
              omega
            refine ⟨p8, zs ++ [y1], rfl, sameUpd n8, .inl (.inl upd_same), ?_⟩
            have e5 : wsD ws0 (.tuple [.str "write", .str a0, b', c']) = ws0 ++ [.str a0] := by simp [wsD, writeNe.2.2.1]
            rw [e5]
            refine dpSnoc ?_ hzs
            cases h1
            exact .str _
          · obtain ⟨t', ys, rfl, hy, hds⟩ := dpTup hx7
            obtain ⟨y0, y1, y2, y3, rfl, h0, h1, h2, h3⟩ := dpFour hds
            refine ⟨.ref t', rfl, t', _, 0, y0, rfl, rfl, hy, atI_nat (j := 0) rfl, .str "read", .str "write", h0, .str _, by decide +kernel, by decide +kernel, _, rfl, ?_⟩
            rw [eqvRW]
            refine iteF ⟨wa, zs, rfl, Same.refl _, hwa7, ?_⟩
            have e5 : wsD ws0 (.tuple [.str "read", a, b', c']) = ws0 := by simp [wsD, writeNe.2.2.2.2.1]
            rw [e5]
            exact hzs
        rintro σ8 H8 ⟨wa', zs', rfl, s8, hwa8, hzs8⟩
        have lin := inLen hnd hod
        have hlx := dpLen hxs0
        have ino := inOd hnd hod
        have wok2 := wsOkIn hwok hnd hod
        have wl2 := wsLen ws0 d0
        have hL8 := s8 _ _ hL
        have sH8 := sH7.trans s8
        have hlS := hr1.len
        refine ⟨.ref L, rfl, L, xs, rfl, .inl (.inl (.inl hL8)), (xs.length : Int), rfl, by omega, by omega, by omega, by omega, ?_⟩
        refine forJ (n := xs.length) (fun i σ' H9 => ∃ (u : Option V) (es : List V), σ' = [some v, some (.ref W), some x, some (.ref pa), some (.ref wa'), some (.ref L), u] ∧ Same H H9 ∧ KT H8 H9 ∧ H9 L = some (.lst xs) ∧ H9 W = some (.lst (es ++ rs).reverse) ∧
            StOk K H H9 (es ++ rs) (ents n1 ps0 (wsD ws0 d0) (xs.length - i) ((inD d0).drop (xs.length - i)) ++ S)) ⟨g2, [], rfl, sH8, KT.refl _, hL8, s8 _ _ hW7, ?_⟩
          (fun i σ' H9 lt _ => by show i < ((xs.length : Int) - 0).toNat; omega) (fun σ' H9 _ => by show ((xs.length : Int) - 0).toNat ≤ xs.length; omega) (fun i σ' H9 xv H10 lt h y => ?_) (fun σ' H9 h => ?_)
        · rw [Nat.sub_zero, List.drop_of_length_le (by omega)]
          exact hr1.kt (kt7.trans (KT.same s8))
        · obtain ⟨rfl, rfl⟩ := y
          obtain ⟨u, es, rfl, sH9, kt9, hL9, hW9, hS9⟩ := h
          obtain ⟨j, hj⟩ : ∃ j, j = xs.length - (i + 1) := ⟨_, rfl⟩
          have hjl : j < xs.length := by omega
          have hint : (0 + ((((xs.length : Int) - 0).toNat : Nat) : Int) - 1 + (i : Nat) * (-1)) = ((j : Nat) : Int) := by omega
          rw [hint]
          have hji : xs.length - i = j + 1 := by omega
          have hjd : j < (inD d0).length := by omega
          have e2 : (inD d0)[j]? = some (inD d0)[j] := List.getElem?_eq_getElem hjd
          obtain ⟨xe, g1, g3⟩ := dpAt hxs e2
          have oj := ino _ (List.getElem_mem hjd)
          refine ⟨.ref W, rfl, .inl ⟨rfl, _, .inl (.inl hW9)⟩, .ref L, rfl, .int j, rfl, L, xs, _, xe, rfl, rfl, .inl (.inl hL9), atI_nat g1, ?_⟩
          have hpa9 : SqT K H10 pa (ps0.map nI) := kt9.tup (sameTup s8 hpa7)
          refine ⟨.ref pa, rfl, pa, _, rfl, .inl hpa9, .int j, rfl, ?_, fun p11 n11 => ⟨.ref wa', rfl, (by show 3 ≤ sizeLine; decide), fun p12 n12 => ?_⟩⟩
          · rw [List.length_append, List.length_map, sizeLine_eq]
            show ps0.length + 1 ≤ _
            omega
          have s11 := sameUpd (o := .tup (ps0.map nI ++ [.int j])) n11
          have e11 : upd H10 p11 (.tup (ps0.map nI ++ [.int j])) p11 = some (.tup (ps0.map nI ++ [.int j])) := upd_same
          generalize upd H10 p11 (.tup (ps0.map nI ++ [.int j])) = H11 at s11 e11 n12 ⊢
          have s12 := sameUpd (o := .tup [xe, .ref p11, .ref wa']) n12
          have e12 : upd H11 p12 (.tup [xe, .ref p11, .ref wa']) p12 = some (.tup [xe, .ref p11, .ref wa']) := upd_same
          generalize upd H11 p12 (.tup [xe, .ref p11, .ref wa']) = H12 at s12 e12 ⊢
          have sX := s11.trans s12
          have hW12 := sX _ _ hW9
          refine ⟨W, _, .ref p12, rfl, rfl, hW12, ?_, ?_⟩
          · have hl9 := hS9.len
            simp only [List.length_append, ents_len, List.length_drop] at hl9
            rw [List.length_reverse, List.length_append, hl9, sizeLine_eq]
            omega
          have hrev : (es ++ rs).reverse ++ [V.ref p12] = ((.ref p12 :: es) ++ rs).reverse := by rw [List.cons_append, List.reverse_cons]
          rw [hrev]
          have kt12 : KT H12 (upd H12 W (.lst ((.ref p12 :: es) ++ rs).reverse)) := KT.put hW12
          have ktA := (KT.same sX).trans kt12
          refine ⟨_, .ref p12 :: es, rfl, fun b o hb => ?_, kt9.trans ktA, ?_, upd_same, ?_⟩
          · rw [upd_ne (ne_of_none hb hWn)]
            exact sX _ _ (sH9 _ _ hb)
          · rw [upd_ne neL]
            exact sX _ _ hL9
          · rw [← hj, List.drop_eq_getElem_cons hjd]
            rw [hji] at hS9
            refine .cons ?_ (hS9.kt ktA)
            refine ⟨p12, xe, p11, wa', zs', rfl, kt12.tup (.inl (.inl e12)), ?_, kt12.tup (.inl (.inl ?_)), ktA.tup (kt9.tup hwa8), hzs8, oj, wok2, ?_, ?_⟩
            · exact dpKTo ((KT.same (s7.trans s8)).trans (kt9.trans ktA)) oj _ g3
            · show H12 p11 = some (.tup ((ps0 ++ [j]).map nI))
              rw [List.map_append]
              exact s12 _ _ e11
            · show (ps0 ++ [j]).length + n1 ≤ 300
              rw [List.length_append]
              show ps0.length + 1 + n1 ≤ 300
              omega
            · show (wsD ws0 d0).length + n1 ≤ 300
              omega
        · obtain ⟨u, es, rfl, sH9, kt9, hL9, hW9, hS9⟩ := h
          rw [Nat.sub_self, List.drop_zero] at hS9
          refine ⟨_, ?_, _, _, _, _, _, es ++ rs, _, rfl, sH9, hW9, hS9, fine_ents hF1 hF3 hF2 _ _ lin, rfl, ?_⟩
          · rw [cntS_ents]
            show _ < (1 + ((inD d0).map (cnt n1)).sum) + cntS S
            omega
          · rw [firstRes_ents, ← hres]
            show _ = (match ff (n1 + 1) ws0 ps0 d0 with
              | some p => some p
              | none => firstRes S)
            rw [ffYes hnd] <;> rfl
end
end KS.La

set_option Elab.async false
set_option linter.all false
set_option maxRecDepth 100000
set_option maxHeartbeats 4000000
/-! trees without a fault -/
namespace TRE
open PySem PySem.Spec PyProof.Rows L2 ND KS KS.La PLC
def KsOk (ks : List (Str × Str)) : Prop := 1 ≤ ks.length ∧ ks.length ≤ 4 ∧ ks.Nodup ∧ ∀ k ∈ ks, okN k.1 = true ∧ okN k.2 = true
mutual
/-- the outputs that may be written, each once on its way -/
def TrZ : List Str → Tr → Prop
  | _, .stop => True
  | zs, .wr o ps n => (o ∈ zs ∧ ps.length ≤ 100 ∧ ∀ p ∈ ps, PtOk p) ∧ TrZ (zs.filter fun z => decide (z ≠ o)) n
  | zs, .rd ks cs l => (KsOk ks ∧ cs.length ≤ 100) ∧ CsZ zs ks.length cs ∧ TrZ zs l
def CsZ : List Str → Nat → List (List (Option Str) × Tr) → Prop
  | _, _, [] => True
  | zs, m, (r, t) :: cs => ((r.length = m ∧ ∀ z, some z ∈ r → TOk z) ∧ TrZ zs t) ∧ CsZ zs m cs
end
theorem csZ_mem {zs : List Str} {m : Nat} : ∀ {cs : List (List (Option Str) × Tr)}, CsZ zs m cs → ∀ c ∈ cs, (c.1.length = m ∧ ∀ z, some z ∈ c.1 → TOk z) ∧ TrZ zs c.2
  | [], _, c, h => absurd h (by simp)
  | (r, t) :: cs, h, c, hc => by
    rw [CsZ] at h
    rcases List.mem_cons.mp hc with rfl | hc
    · exact h.1
    · exact csZ_mem h.2 c hc
mutual
theorem zOk : ∀ {t : Tr} {zs : List Str}, TrZ zs t → TrOk t
  | .stop, _, _ => by rw [TrOk]; trivial
  | .wr o ps n, zs, h => by
    rw [TrZ] at h
    rw [TrOk]
    exact ⟨h.1.2, zOk h.2⟩
  | .rd ks cs l, zs, h => by
    rw [TrZ] at h
    rw [TrOk]
    exact ⟨⟨h.1.2, zOks h.1.1.2.1 h.2.1⟩, zOk h.2.2⟩
theorem zOks : ∀ {cs : List (List (Option Str) × Tr)} {zs : List Str} {m : Nat}, m ≤ 4 → CsZ zs m cs → CsOk cs
  | [], _, _, _, _ => by rw [CsOk]; trivial
  | (r, t) :: cs, zs, m, hm, h => by
    rw [CsZ] at h
    rw [CsOk]
    exact ⟨⟨⟨by rw [h.1.1.1]; exact hm, h.1.1.2⟩, zOk h.1.2⟩, zOks hm h.2⟩
end
theorem zNext : ∀ {t : Tr} {zs : List Str}, TrZ zs t → ∃ zs', TrZ zs' (nextRead t)
  | .stop, zs, h => ⟨zs, h⟩
  | .rd _ _ _, zs, h => ⟨zs, h⟩
  | .wr o ps n, zs, h => by
    rw [TrZ] at h
    rw [nextRead]
    exact zNext h.2
theorem zPick {zs : List Str} {m : Nat} {r : List (Option Str)} : ∀ {cs : List (List (Option Str) × Tr)} {l : Tr}, CsZ zs m cs → TrZ zs l → TrZ zs (pickC r cs l)
  | [], l, _, h => h
  | (g, t) :: cs, l, hc, h => by
    rw [CsZ] at hc
    show TrZ zs (if g = r then t else pickC r cs l)
    split
    · exact hc.1.2
    · exact zPick hc.2 h
theorem zAfter {zs : List Str} {r : List (Option Str)} {t : Tr} (h : TrZ zs t) : TrZ zs (after r t) := by
  cases t with
  | stop => exact h
  | wr o ps n => exact h
  | rd ks cs l =>
    rw [TrZ] at h
    exact zPick h.2.1 h.2.2
theorem zWalk : ∀ {rs : List (List (Option Str))} {t : Tr} {zs : List Str}, TrZ zs t → ∃ zs', TrZ zs' (walk t rs)
  | [], t, zs, h => ⟨zs, h⟩
  | r :: rs, t, zs, h => by
    obtain ⟨zs', h'⟩ := zNext h
    exact zWalk (rs := rs) (zAfter h')
theorem zFew {t : Tr} {zs : List Str} (h : TrZ zs t) (rs : List (List (Option Str))) {ks cs l} (e : nextRead (walk t rs) = .rd ks cs l) : ks.length ≤ 4 := by
  obtain ⟨zs', h'⟩ := zWalk (rs := rs) h
  obtain ⟨zs2, h2⟩ := zNext h'
  rw [e, TrZ] at h2
  exact h2.1.1.2.1
/-! ### no fault is found -/
theorem fsNone {g : Nat → PyData → Option (List Nat)} : ∀ {l : List PyData} {i : Nat}, (∀ j, ∀ e ∈ l, g j e = none) → firstSome g i l = none
  | [], _, _ => rfl
  | e :: l, i, h => by
    show (match g i e with
      | some p => some p
      | none => firstSome g (i + 1) l) = none
    rw [h i e List.mem_cons_self]
    exact fsNone fun j x hx => h j x (List.mem_cons_of_mem _ hx)
theorem ptIs {p : Pt} (h : PtOk p) : isPt (ptD p) = true := by
  cases p with
  | txt z =>
    have h1 : TOk z := h
    show (isTx (.str z) || isPr (.str z)) = true
    rw [show isTx (.str z) = okT z from rfl, h1.2.2]
    rfl
  | itm r i => rfl
theorem nmInj : ∀ {ks : List (Str × Str)}, ks.Nodup → ((ks.map kyD).map KS.namesOf).Nodup := fun {ks} h => by
  rw [List.map_map]
  rw [List.nodup_iff_pairwise_ne, List.pairwise_map]
  rw [List.nodup_iff_pairwise_ne] at h
  refine h.imp fun {a b} n e => n ?_
  have e2 : [a.1, a.2] = [b.1, b.2] := e
  injection e2 with e3 e4
  injection e4 with e4 _
  exact Prod.ext e3 e4
theorem ksIs {ks : List (Str × Str)} (h : KsOk ks) : areKy (.tuple (ks.map kyD)) = true := by
  obtain ⟨h1, h2, h3, h4⟩ := h
  show (decide (1 ≤ (ks.map kyD).length) && (decide ((ks.map kyD).length ≤ 4) && ((ks.map kyD).all isKy && decide (((ks.map kyD).map KS.namesOf).Nodup)))) = true
  rw [List.length_map, decide_eq_true h1, decide_eq_true h2, decide_eq_true (nmInj h3), Bool.and_true, Bool.true_and, Bool.true_and, List.all_map, List.all_eq_true]
  intro k hk
  show (isNm (.str k.1) && isNm (.str k.2)) = true
  rw [show isNm (.str k.1) = okN k.1 from rfl, show isNm (.str k.2) = okN k.2 from rfl, (h4 k hk).1, (h4 k hk).2]
  rfl
theorem rowIs {m : Nat} {r : List (Option Str)} (e : r.length = m) (h1 : 1 ≤ m) (h2 : m ≤ 4) (h : ∀ z, some z ∈ r → TOk z) : areAn (rowD r) = true := by
  show (decide (1 ≤ (r.map ansD).length) && (decide ((r.map ansD).length ≤ 4) && (r.map ansD).all orNone)) = true
  rw [List.length_map, e, decide_eq_true h1, decide_eq_true h2, Bool.true_and, Bool.true_and, List.all_map, List.all_eq_true]
  intro a ha
  cases a with
  | none => rfl
  | some z => exact (h z ha).2.2
theorem csIs {zs : List Str} {m : Nat} (h1 : 1 ≤ m) (h2 : m ≤ 4) {cs : List (List (Option Str) × Tr)} (h : CsZ zs m cs) : areCs (m : Int) (.tuple (csD cs)) = true := by
  show (csD cs).all (isCs (m : Int)) = true
  rw [csD_map, List.all_map, List.all_eq_true]
  intro c hc
  obtain ⟨⟨e, z⟩, _⟩ := csZ_mem h c hc
  show (areAn (rowD c.1) && decide (((c.1.map ansD).length : Int) = (m : Int))) = true
  rw [rowIs e h1 h2 z, List.length_map, e, decide_eq_true rfl]
  rfl
theorem wsNew {ws : List PyData} {o : Str} (h : PyData.str o ∉ ws) : (ws.any fun z => PyData.eqv z (.str o)) = false := by
  rw [List.any_eq_false]
  intro z hz e
  exact h (by rw [← (eqvStr z o).mp e]; exact hz)
theorem zFF : ∀ {n : Nat} {t : Tr} {zs : List Str} {ws : List PyData} {p : List Nat}, (∀ z ∈ zs, okN z = true ∧ PyData.str z ∉ ws) → Od n (trD t) → TrZ zs t → ff n ws p (trD t) = none := by
  intro n
  induction n with
  | zero =>
    intro t zs ws p _ od _
    cases t <;> (rw [trD] at od; cases od)
  | succ n ih =>
    intro t zs ws p hz od h
    cases t with
    | stop =>
      have hn : isNd ws (trD .stop) = true := by rw [trD]; simp [isNd, PyData.eqv, PyData.eqvAll]
      rw [ffYes hn, trD]
      rfl
    | wr o ps m =>
      rw [TrZ] at h
      obtain ⟨⟨ho, lp, hp⟩, hm⟩ := h
      have hn : isNd ws (trD (.wr o ps m)) = true := by
        rw [trD, ndFour, writeNe.2.2.1, if_pos rfl, wsNew (hz o ho).2]
        show (okN o && (!false && (ps.map ptD).all isPt)) = true
        rw [(hz o ho).1, List.all_map]
        simp only [Bool.not_false, Bool.true_and, List.all_eq_true]
        exact fun p hp2 => ptIs (hp p hp2)
      have ino := inOd hn od
      rw [ffYes hn]
      refine fsNone fun j e he => ?_
      have e1 : inD (trD (.wr o ps m)) = [trD m] := by rw [trD]; simp [inD, writeNe.2.2.1]
      have e2 : wsD ws (trD (.wr o ps m)) = ws ++ [.str o] := by rw [trD]; simp [wsD, writeNe.2.2.1]
      have oe := ino e he
      rw [e1, List.mem_singleton] at he
      subst he
      rw [e2]
      refine ih (zs := zs.filter fun z => decide (z ≠ o)) (fun z hz2 => ?_) oe hm
      obtain ⟨h1, h2⟩ := List.mem_filter.mp hz2
      refine ⟨(hz z h1).1, fun hm2 => ?_⟩
      rcases List.mem_append.mp hm2 with y | y
      · exact (hz z h1).2 y
      · exact of_decide_eq_true h2 (PyData.str.inj (List.mem_singleton.mp y))
    | rd ks cs l =>
      rw [TrZ] at h
      obtain ⟨⟨hk, lc⟩, hc, hl⟩ := h
      have hn : isNd ws (trD (.rd ks cs l)) = true := by
        rw [trD, ndFour, writeNe.2.2.2.2.1, if_neg Bool.false_ne_true, writeNe.2.2.2.2.2, ksIs hk]
        show (true && (true && areCs (((ks.map kyD).length : Nat) : Int) (.tuple (csD cs)))) = true
        rw [List.length_map, csIs hk.1 hk.2.1 hc]
        rfl
      have ino := inOd hn od
      rw [ffYes hn]
      refine fsNone fun j e he => ?_
      have e1 : inD (trD (.rd ks cs l)) = (csD cs).map second ++ [trD l] := by rw [trD]; simp [inD, caseNodes, writeNe.2.2.2.2.1]
      have e2 : wsD ws (trD (.rd ks cs l)) = ws := by rw [trD]; simp [wsD, writeNe.2.2.2.2.1]
      have oe := ino e he
      rw [e2]
      rw [e1] at he
      rcases List.mem_append.mp he with y | y
      · rw [csD_map, List.map_map] at y
        obtain ⟨c, hc2, rfl⟩ := List.mem_map.mp y
        exact ih hz oe (csZ_mem hc c hc2).2
      · rw [List.mem_singleton.mp y] at oe ⊢
        exact ih hz oe hl
end TRE

set_option Elab.async false
set_option linter.all false
set_option maxRecDepth 100000
set_option maxHeartbeats 8000000
/-! a drawn tree -/
namespace TRE
open PySem PySem.Spec PyProof.Rows L2 ND KS KS.La PLC
abbrev lTree : Stmt := top 38
abbrev kysD (ks : List (Str × Str)) : List PyData := ks.map kyD
def spTree (K : PySem.W.Frag) (M : Nat) : Sp := fun vs H Q _ => ∃ (f ks os : Addr) (xs : List V) (keys : List (Str × Str)) (zs : List Str) (n : Int), vs = [.ref f, .ref ks, .ref os, .int n] ∧ 0 ≤ n ∧ n ≤ M ∧ Fd H f ∧ H ks = some (.lst xs) ∧ ks ≠ f ∧ DpAll K H xs (kysD keys) ∧ 1 ≤ keys.length ∧ keys.length ≤ 50 ∧ keys.Nodup ∧
  (∀ k ∈ keys, okN k.1 = true ∧ okN k.2 = true ∧ TOk k.1 ∧ TOk k.2) ∧ H os = some (.lst (zs.map V.str)) ∧ os ≠ f ∧ zs.length ≤ 10 ∧ (∀ z ∈ zs, TOk z) ∧ ∀ v t H', Dp K H' v (trD t) → TrZ zs t → Od (3 * M + 2) (trD t) → Kp f H H' → Fd H' f → Q v H'
theorem kysTS {K : PySem.W.Frag} {H H' : Hp} (k : TS H H') {ks : List (Str × Str)} {xs : List V} (h : DpAll K H xs (kysD ks)) : DpAll K H' xs (kysD ks) := allPl (n := 1) (fun d hd => by
  obtain ⟨x, _, rfl⟩ := List.mem_map.mp hd
  exact plKy x) k h
theorem plUp {n : Nat} {d : PyData} (h : Pl n d) {m : Nat} (l : n ≤ m) : Pl m d := h.up l
theorem plCase (c : List (Option Str) × Tr) : ∃ n, Pl n (.tuple [rowD c.1, trD c.2]) := by
  obtain ⟨n, h⟩ := plTr c.2
  refine ⟨n + 2 + 1, .tup fun d hd => ?_⟩
  simp only [List.mem_cons, List.not_mem_nil, or_false] at hd
  rcases hd with rfl | rfl
  · exact (plRow _).up (by omega)
  · exact h.up (by omega)
theorem csTS {K : PySem.W.Frag} {H H' : Hp} (k : TS H H') {cs : List (List (Option Str) × Tr)} {xs : List V} (h : DpAll K H xs (csD cs)) : DpAll K H' xs (csD cs) := allTS (fun d hd v hv => by
  rw [csD_map] at hd
  obtain ⟨c, _, rfl⟩ := List.mem_map.mp hd
  obtain ⟨n, p⟩ := plCase c
  exact dpTS k p v hv) h
theorem csSnoc (cs : List (List (Option Str) × Tr)) (r : List (Option Str)) (t : Tr) : csD (cs ++ [(r, t)]) = csD cs ++ [.tuple [rowD r, trD t]] := by
  rw [csD_map, csD_map, List.map_append]
  rfl
theorem csZ_snoc {zs : List Str} {m : Nat} {r : List (Option Str)} {t : Tr} (hr : r.length = m ∧ ∀ z, some z ∈ r → TOk z) (ht : TrZ zs t) : ∀ {cs : List (List (Option Str) × Tr)}, CsZ zs m cs → CsZ zs m (cs ++ [(r, t)])
  | [], _ => by
    show CsZ zs m [(r, t)]
    rw [CsZ]
    exact ⟨⟨hr, ht⟩, by rw [CsZ]; trivial⟩
  | (g, u) :: cs, h => by
    rw [CsZ] at h
    show CsZ zs m ((g, u) :: (cs ++ [(r, t)]))
    rw [CsZ]
    exact ⟨h.1, csZ_snoc hr ht h.2⟩
theorem eqE {K : PySem.W.Frag} {α : Type} {e : α → PyData} {H : Hp} {D p : Addr} {xs : List V} {ds : List α} {Q : VK} {n : Nat} (hn : n ≤ 60) (hD : H D = some (.lst xs)) (hv : DpAll K H xs (ds.map e)) (od : ∀ d ∈ ds, Od n (e d)) (ep : H p = some (.lst [])) (h : Q (.bl (decide (ds = []))) H) : rEqD K (.ref D) (.ref p) H Q := by
  obtain ⟨a, b⟩ := allLay (ds := ds.map e) (n := n) fun d hd => by
    obtain ⟨t, ht, rfl⟩ := List.mem_map.mp hd
    exact (od t ht).lay
  refine ⟨.list (ds.map e), .list [], .lst (.inl (.inl hD)) hv, .lst (.inl (.inl ep)) .nil, ?_, rfl, ?_⟩
  · have e1 : (PyData.list (ds.map e)).canLay0 = true := a
    unfold SeqAt.shaped
    rw [e1, Bool.true_and]
    refine decide_eq_true ?_
    simp only [PyData.depth]
    omega
  · cases ds with
    | nil => exact h
    | cons t ts => exact h
theorem neE {K : PySem.W.Frag} {α : Type} {e : α → PyData} {H : Hp} {D p : Addr} {xs : List V} {ds : List α} {Q : VK} {n : Nat} (hn : n ≤ 60) (hD : H D = some (.lst xs)) (hv : DpAll K H xs (ds.map e)) (od : ∀ d ∈ ds, Od n (e d)) (ep : H p = some (.lst [])) (h : Q (.bl (!decide (ds = []))) H) : rNeD K (.ref D) (.ref p) H Q := by
  obtain ⟨d, e', h1, h2, h3, h4, h5⟩ := eqE (Q := fun x H => Q (match x with | .bl b => .bl (!b) | _ => x) H) hn hD hv od ep h
  exact ⟨d, e', h1, h2, h3, h4, h5⟩
theorem strsDp {K : PySem.W.Frag} {H : Hp} : ∀ (zs : List Str), DpAll K H (zs.map V.str) (zs.map PyData.str)
  | [] => .nil
  | z :: zs => .cons (.str z) (strsDp zs)
theorem dpTake {K : PySem.W.Frag} {H : Hp} : ∀ {xs : List V} {ds : List PyData}, DpAll K H xs ds → ∀ k, DpAll K H (xs.take k) (ds.take k)
  | _, _, .nil, k => by rw [List.take_nil, List.take_nil]; exact .nil
  | _, _, .cons h r, 0 => .nil
  | _, _, .cons h r, k + 1 => .cons h (dpTake r k)
theorem odKy {k : Str × Str} (h : TOk k.1 ∧ TOk k.2) : Od 1 (kyD k) := .tup (by show 2 ≤ 100; omega) fun d hd => by
  simp only [List.mem_cons, List.not_mem_nil, or_false] at hd
  rcases hd with rfl | rfl
  · exact .str _ (TOk.odS h.1).1 (TOk.odS h.1).2
  · exact .str _ (TOk.odS h.2).1 (TOk.odS h.2).2
theorem odPts {ps : List Pt} (l : ps.length ≤ 100) (h : ∀ p ∈ ps, PtOk p) : Od 2 (.tuple (ps.map ptD)) := .tup (by rw [List.length_map]; exact l) fun d hd => by
  obtain ⟨p, hp, rfl⟩ := List.mem_map.mp hd
  cases p with
  | txt z => exact .str _ (TOk.odS (h _ hp)).1 (TOk.odS (h _ hp)).2
  | itm r i =>
    refine .tup (by show 2 ≤ 100; omega) fun d hd => ?_
    simp only [List.mem_cons, List.not_mem_nil, or_false] at hd
    rcases hd with rfl | rfl
    · exact .int _ _
    · exact .int _ _
theorem odStop (n : Nat) : Od (n + 1) (trD .stop) := by
  rw [trD]
  exact .tup (by show 1 ≤ 100; omega) fun d hd => by
    rw [List.mem_singleton.mp hd]
    exact .str _ (by unfold SOk; decide +kernel) (by decide +kernel)
theorem odWrT {n : Nat} {o : Str} {ps : List Pt} {t : Tr} (ho : TOk o) (l : ps.length ≤ 100) (h : ∀ p ∈ ps, PtOk p) (ht : Od n (trD t)) (n2 : 2 ≤ n) : Od (n + 1) (trD (.wr o ps t)) := by
  rw [trD]
  refine .tup (by show 4 ≤ 100; omega) fun d hd => ?_
  simp only [List.mem_cons, List.not_mem_nil, or_false] at hd
  rcases hd with rfl | rfl | rfl | rfl
  · exact .str _ (by unfold SOk; decide +kernel) (by decide +kernel)
  · exact .str _ (TOk.odS ho).1 (TOk.odS ho).2
  · exact (odPts l h).up n2
  · exact ht
theorem odRdT {n : Nat} {ks : List (Str × Str)} {cs : List (List (Option Str) × Tr)} {t : Tr} (hk : ks.length ≤ 100) (hk2 : ∀ k ∈ ks, TOk k.1 ∧ TOk k.2) (l : cs.length ≤ 100) (h : ∀ c ∈ cs, Od n (.tuple [rowD c.1, trD c.2])) (ht : Od (n + 1) (trD t)) (n2 : 1 ≤ n) : Od (n + 2) (trD (.rd ks cs t)) := by
  rw [trD, csD_map]
  refine .tup (by show 4 ≤ 100; omega) fun d hd => ?_
  simp only [List.mem_cons, List.not_mem_nil, or_false] at hd
  rcases hd with rfl | rfl | rfl | rfl
  · exact .str _ (by unfold SOk; decide +kernel) (by decide +kernel)
  · refine .tup (by rw [List.length_map]; exact hk) fun d hd => ?_
    obtain ⟨k, hk3, rfl⟩ := List.mem_map.mp hd
    exact (odKy (hk2 k hk3)).up (by omega)
  · refine .tup (by rw [List.length_map]; exact l) fun d hd => ?_
    obtain ⟨c, hc, rfl⟩ := List.mem_map.mp hd
    exact h c hc
  · exact ht
theorem odCase {n : Nat} {r : List (Option Str)} {t : Tr} (h : RowOk r) (ht : Od n (trD t)) (n1 : 1 ≤ n) : Od (n + 1) (.tuple [rowD r, trD t]) := .tup (by show 2 ≤ 100; omega) fun d hd => by
  simp only [List.mem_cons, List.not_mem_nil, or_false] at hd
  rcases hd with rfl | rfl
  · exact (odRow h).up n1
  · exact ht
abbrev nTree : List Str := ["_law_feed", "_law_keys", "_law_outs_here", "_law_deep", "_law_form", "_law_out", "_law_left", "_law_chosen", "_law_cases", "_law_turn", "_law_row", "_law_one", "_law_key"]
theorem plPts (ps : List Pt) : Pl 2 (.tuple (ps.map ptD)) := .tup fun d hd => by
  obtain ⟨p, _, rfl⟩ := List.mem_map.mp hd
  exact plPt p
abbrev tT (a ks os : Addr) (n : Int) (x4 x5 x6 x7 x8 x9 x10 x11 x12 : Option V) : L2.St := [some (.ref a), some (.ref ks), some (.ref os), some (.int n), x4, x5, x6, x7, x8, x9, x10, x11, x12]
section
variable {P : Program} {w : World} {K : PySem.W.Frag} {mg : Str → Option Value} {base : Heap} {f : Addr} {fd : FuncData}
abbrev pTree : List Str := ["_law_feed", "_law_keys", "_law_outs_here", "_law_deep"]
theorem scTree : FnScope nTree pTree (defScope lTree) := ⟨rfl, rfl, rfl, by decide +kernel, rfl, by decide +kernel, by decide +kernel⟩
theorem okTree {k : Nat} (F : FnP K "_law_some_tree" lTree f fd) (gT : mg "_law_some_tree" = some (.ref f)) (bT : Binds K fd pTree []) (B : Bn mg) (D : Has P w K mg base (k + 1) "_law_draw" ["_law_feed", "_law_many"] spDraw) (Pk : Has P w K mg base (k + 2) "_law_pick" ["_law_feed", "_law_items"] (spPick K))
    (Mx : Has P w K mg base (k + 2) "_law_mixed" ["_law_feed", "_law_items"] (spMixG K kyD)) (Pa : Has P w K mg base (k + 4) "_law_some_parts" ["_law_feed"] (spParts K)) (An : Has P w K mg base (k + 4) "_law_some_answer" ["_law_feed"] spAns) :
    ∀ M, M ≤ 100 → FnOk P w K mg base CX0 (k + M + 5) f fd pTree (spTree K M) := by
  obtain ⟨fD, fdD, gD, kD, bD, GD⟩ := D.ex
  obtain ⟨fP, fdP, gP, kP, bP, GP⟩ := Pk.ex
  obtain ⟨fM, fdM, gM, kM, bM, GM⟩ := Mx.ex
  obtain ⟨fQ, fdQ, gQ, kQ, bQ, GQ⟩ := Pa.ex
  obtain ⟨fA, fdA, gA, kA, bA, GA⟩ := An.ex
  have stop : ∀ {H1 : Hp} {p : Addr}, H1 p = none → Dp K (upd H1 p (.tup [.str "stop"])) (.ref p) (trD .stop) := fun {H1 p} hp => by
    rw [trD]
    exact .tup (.inl (.inl upd_same)) (.cons (.str _) .nil)
  intro M
  induction M with
  | zero =>
    intro hM
    refine F.ok scTree (fun vs H Q E h => ?_) (fun cdv A outer s H vs Q E hr h => ?_)
    · obtain ⟨a, ks, os, xs, keys, zs, n, rfl, _⟩ := h
      rfl
    · obtain ⟨a, ks, os, xs, keys, zs, n, rfl, n0, n1, hF, eK, neK, hxs, _, _, _, _, eO, neO, _, hzs, q⟩ := h
      have hr1 : Room (k + 1) _ := hr.mono (by omega)
      refine ⟨_, PSs.nox (pss_cons (ps_set (i := 4) scTree.nd rfl (.inl rfl) (pe_call GD hr1 (by rfl) gD kD bD .nil pass0 (pa_cons (pv 0) (pa_cons (pe_int) pa_nil)))) (pss_cons (ps_if (PW.pt (pw_or (pt_cmpR op_eq (pv 3) pe_int (nomark _)) (pw_or (pt_cmpR op_eq (pv 4) pe_int (nomark _)) (pw_or1 (PW.pt (pw_and (pt_cmpR (r := rEqD K) (op_eqD hr.units) (pv 1) (pe_lst pa_nil) (nomark _)) (pw_and1 (pt_cmpR (r := rEqD K) (op_eqD hr.units) (pv 2) (pe_lst pa_nil) (nomark _)))))))))
          (pss_one (ps_ret (pe_tup (pa_cons (pe_str) pa_nil)))) pss_nil) (pss_cons (ps_never) (pss_cons (ps_never) (pss_cons (ps_never) (pss_one (ps_never))))))), ?_⟩
      refine ⟨.ref a, rfl, a, 9, rfl, hF, by decide, by decide, fun r H1 r0 r1 k1 F1 => ⟨.int n, rfl, rfl, _, rfl, ite2 (fun e => ?_) (fun e => ?_)⟩⟩
      · exact iteT ⟨(by show 1 ≤ sizeLine; decide), fun p hp => q _ .stop _ (stop hp) (by rw [TrZ]; trivial) (odStop _) (k1.trans (Kp.new hp)) (F1.new hp)⟩
      · have e2 : n = 0 := by omega
        subst e2
        exact absurd e (by decide)
  | succ M ih =>
    intro hM
    have G := ih (by omega)
    refine F.ok scTree (fun vs H Q E h => ?_) (fun cdv A outer s H vs Q E hr h => ?_)
    · obtain ⟨a, ks, os, xs, keys, zs, n, rfl, _⟩ := h
      rfl
    · obtain ⟨a, ks, os, xs, keys, zs, n, rfl, n0, n1, hF, eK, neK, hxs, lx1, lx, knd, kok, eO, neO, lz, hzs, q⟩ := h
      have hr1 : Room (k + 1) _ := hr.mono (by omega)
      have hr2 : Room (k + 2) _ := hr.mono (by omega)
      have hr4 : Room (k + 4) _ := hr.mono (by omega)
      have hrG : Room (k + M + 5) _ := hr.mono (by omega)
      have xne : keys ≠ [] := fun z => by rw [z] at lx1; exact absurd lx1 (by decide)
      have lxx := dpLen hxs
      rw [List.length_map] at lxx
      have odk : ∀ k ∈ keys, Od 1 (kyD k) := fun k hk => odKy (kok k hk).2.2
      have ods : ∀ z ∈ zs, Od 0 (PyData.str z) := fun z hz => .str _ (TOk.odS (hzs z hz)).1 (TOk.odS (hzs z hz)).2
      have keysAt : ∀ {H' : Hp}, Kp a H H' → DpAll K H' xs (kysD keys) := fun k => kysTS (tsKp hF k) hxs
      refine ⟨_, PSs.nox (pss_cons (ps_set (i := 4) scTree.nd rfl (.inl rfl) (pe_call GD hr1 (by rfl) gD kD bD .nil pass0 (pa_cons (pv 0) (pa_cons (pe_int) pa_nil)))) (C8.pss_cut (ps_if (PW.pt (pw_or (pt_cmpR op_eq (pv 3) pe_int (nomark _)) (pw_or (pt_cmpR op_eq (pv 4) pe_int (nomark _)) (pw_or1 (PW.pt (pw_and (pt_cmpR (r := rEqD K) (op_eqD hr.units) (pv 1) (pe_lst pa_nil) (nomark _)) (pw_and1 (pt_cmpR (r := rEqD K) (op_eqD hr.units) (pv 2) (pe_lst pa_nil) (nomark _)))))))))
          (pss_one (ps_ret (pe_tup (pa_cons (pe_str) pa_nil)))) pss_nil) (C8.pss_cut (ps_if (PW.pt (pw_or (PW.pt (pw_and (pt_cmpR op_lt (pv 4) pe_int (nomark _)) (pw_and1 (pt_cmpR (r := rNeD K) (op_neD hr.units) (pv 2) (pe_lst pa_nil) (nomark _))))) (pw_or1 (pt_cmpR (r := rEqD K) (op_eqD hr.units) (pv 1) (pe_lst pa_nil) (nomark _)))))
          (pss_cons (ps_set (i := 5) scTree.nd rfl (.inr rfl) (pe_call GP hr2 (by rfl) gP kP bP .nil pass0 (pa_cons (pv 0) (pa_cons (pv 2) pa_nil)))) (pss_cons (ps_setLc (i := 6) (own := [("_law_one", 11)]) (g := gName 11) (by rfl) scTree.nd rfl rfl (sw_true rfl rfl (by decide +kernel) (by decide +kernel)) (pi_list (pv 2)) (blkOk_by (N := nTree) (sc := defScope lTree) (by decide +kernel))
              (fun _ _ _ _ _ => pg_name (i := 11) scTree.nd rfl (.inl rfl) (hf := .inr rfl)) (fun _ _ _ _ _ => pts_one (pt_cmpR (r := rNe) op_ne (pv 11) (pv 5) (nomark _))) (fun _ _ _ _ _ => pv 11)) (pss_one (ps_ret (pe_tup (pa_cons (pe_str) (pa_cons (pv 5) (pa_cons (pe_call GQ hr4 (by rfl) gQ kQ bQ .nil pass0 (pa_cons (pv 0) pa_nil)) (pa_cons (pe_call G hrG (by rfl) gT F.kp bT .nil pass0 (pa_cons (pv 0) (pa_cons (pv 1) (pa_cons (pv 6) (pa_cons (pe_op op_sub (pv 3) pe_int) pa_nil))))) pa_nil))))))))) pss_nil) (C8.pss_cut (ps_par (i := 7) (j := 8) (by rfl) scTree.nd rfl rfl (by decide) rfl rfl (pa_cons (pe_slice sl_list (pe_call GM hr2 (by rfl) gM kM bM .nil pass0 (pa_cons (pv 0) (pa_cons (pv 1) pa_nil))) po_none (po_some (pe_ix ix_list (pe_lst (pa_cons (pe_int) (pa_cons (pe_int) (pa_cons (pe_int) (pa_cons (pe_int) (pa_cons (pe_int) (pa_cons (pe_int) (pa_cons (pe_int) pa_nil)))))))) (pe_call GD hr1 (by rfl) gD kD bD .nil pass0 (pa_cons (pv 0) (pa_cons (pe_int) pa_nil))) (fun _ _ => rfl)))) (pa_cons (pe_lst pa_nil) pa_nil)) (by rfl)) (C8.pss_cut (ps_for PassesOwn.never rfl (pi_range1 (by rfl) B.range (pa_cons (pe_call GD hr1 (by rfl) gD kD bD .nil pass0 (pa_cons (pv 0) (pa_cons (pe_int) pa_nil))) pa_nil)) (pg_name (i := 9) scTree.nd rfl (.inl rfl))
          (pss_cons (ps_set (i := 10) scTree.nd rfl (.inl rfl) (pe_callTy call_tuple_of (by rfl) B.tuple (by decide +kernel) (pa_cons (pe_lc (own := [("_law_key", 12)]) (g := gName 12) rfl scTree.nd (pi_list (pv 7)) (blkOk_by (N := nTree) (sc := defScope lTree) (by decide +kernel))
              (fun _ _ _ _ _ => pg_name (i := 12) scTree.nd rfl (.inl rfl) (hf := .inr rfl)) (fun _ _ _ _ _ => pts_nil) (fun _ _ _ _ _ => pe_call GA hr4 (by rfl) gA kA bA .nil pass0 (pa_cons (pv 0) pa_nil))) pa_nil))) (pss_one (ps_expr (pe_bm PySem.F.plainAttrs_list PySem.F.slot_list_append PySem.F.type_list_append mt_append (pv 8) (pa_cons (pe_tup (pa_cons (pv 10) (pa_cons (pe_call G hrG (by rfl) gT F.kp bT .nil pass0 (pa_cons (pv 0) (pa_cons (pv 1) (pa_cons (pv 2) (pa_cons (pe_op op_sub (pe_op op_sub (pv 3) pe_int) (pe_call GD hr1 (by rfl) gD kD bD .nil pass0 (pa_cons (pv 0) (pa_cons (pv 3) pa_nil)))) pa_nil))))) pa_nil))) pa_nil)))))) (pss_one (ps_ret (pe_tup (pa_cons (pe_str) (pa_cons (pe_callTy call_tuple_of (by rfl) B.tuple (by decide +kernel) (pa_cons (pv 7) pa_nil)) (pa_cons (pe_callTy call_tuple_of (by rfl) B.tuple (by decide +kernel) (pa_cons (pv 8) pa_nil)) (pa_cons (pe_call G hrG (by rfl) gT F.kp bT .nil pass0 (pa_cons (pv 0) (pa_cons (pv 1) (pa_cons (pv 2) (pa_cons (pe_op op_sub (pv 3) pe_int) pa_nil))))) pa_nil)))))))))))), ?_⟩
      refine ⟨.ref a, rfl, a, 9, rfl, hF, by decide, by decide, fun r H1 r0 r1 k1 F1 => ?_⟩
      have eK1 := k1 _ _ neK eK
      have eO1 := k1 _ _ neO eO
      have ret : ∀ {H2 : Hp}, Kp a H H2 → Fd H2 a → (1 ≤ sizeLine ∧ ∀ p, H2 p = none → Q (.ref p) (upd H2 p (.tup [.str "stop"]))) := fun k2 F2 => ⟨by decide, fun p hp => q _ .stop _ (stop hp) (by rw [TrZ]; trivial) (odStop _) (k2.trans (Kp.new hp)) (F2.new hp)⟩
      -- the first if
      refine ⟨fun σ' H' => σ' = tT a ks os n (some (.int r)) none none none none none none none none ∧ 1 ≤ n ∧ Kp a H H' ∧ Fd H' a, ?_, ?_⟩
      · refine ⟨.int n, rfl, rfl, _, rfl, ite2 (fun e => ?_) (fun e => ?_)⟩
        · exact iteT (ret k1 F1)
        have hn1 : 1 ≤ n := by
          have : n ≠ 0 := fun z => e (decide_eq_true (by rw [z]))
          omega
        refine ⟨.int r, rfl, rfl, _, rfl, ite2 (fun e => ?_) (fun e => ?_)⟩
        · exact iteT (ret k1 F1)
        refine ⟨.ref ks, rfl, Nat.zero_le _, fun p hp => ?_⟩
        have s2 := sameUpd (o := .lst []) hp
        refine eqE (n := 1) (by omega) (s2 _ _ eK1) (keysAt (k1.trans (Kp.same s2))) odk upd_same ⟨_, rfl, ?_⟩
        rw [decide_eq_false xne]
        exact iteF ⟨rfl, hn1, k1.trans (Kp.same s2), F1.same s2⟩
      rintro σ2 H2 ⟨rfl, hn1, k2, F2⟩
      -- the second
      refine ⟨fun σ' H' => σ' = tT a ks os n (some (.int r)) none none none none none none none none ∧ Kp a H H' ∧ Fd H' a, ?_, ?_⟩
      · have eK2 := k2 _ _ neK eK
        have eO2 := k2 _ _ neO eO
        have keysNil : ∀ {H3 : Hp} {p : Addr}, Kp a H H3 → Fd H3 a → H3 p = none → ∀ R : VK, R (.bl false) (upd H3 p (.lst [])) → rEqD K (.ref ks) (.ref p) (upd H3 p (.lst [])) R := fun {H3 p} k3 F3 hp R hR => by
          have s3 := sameUpd (o := .lst []) hp
          refine eqE (n := 1) (by omega) (s3 _ _ (k3 _ _ neK eK)) (keysAt (k3.trans (Kp.same s3))) odk upd_same ?_
          rw [decide_eq_false xne]
          exact hR
        refine ⟨.int r, rfl, r, 4, rfl, rfl, _, rfl, ite2 (fun e => ?_) (fun e => ?_)⟩
        · refine ⟨.ref os, rfl, Nat.zero_le _, fun p hp => ?_⟩
          have s3 := sameUpd (o := .lst []) hp
          refine neE (e := PyData.str) (n := 0) (by omega) (s3 _ _ eO2) (strsDp zs) ods upd_same ⟨_, rfl, ?_⟩
          have k3 := k2.trans (Kp.same s3)
          have F3 := F2.same s3
          have eO3 := s3 _ _ eO2
          generalize upd H2 p (.lst []) = H3 at *
          by_cases z0 : zs = []
          · rw [decide_eq_true z0]
            refine iteF ⟨.ref ks, rfl, Nat.zero_le _, fun p4 hp4 => keysNil k3 F3 hp4 _ ⟨_, rfl, iteF ⟨rfl, k3.trans (Kp.new hp4), F3.new hp4⟩⟩⟩
          rw [decide_eq_false z0]
          refine iteT (iteT ?_)
          -- a write
          have zpos : 0 < zs.length := List.length_pos_iff.mpr z0
          refine ⟨.ref a, rfl, .ref os, rfl, a, os, zs.map V.str, rfl, F3, .inl (.inl eO3), neO, by rw [List.length_map]; exact zpos, by rw [List.length_map]; omega, fun i v H4 hv4 k4 F4 => ?_⟩
          obtain ⟨z, hzm, rfl⟩ := List.mem_map.mp (List.mem_of_getElem? hv4)
          have tz := hzs z hzm
          have eO4 := k4 _ _ neO eO3
          have k04 := k3.trans k4
          refine ⟨.ref os, rfl, os, rfl, ⟨_, .inl (.inl eO4)⟩, fun D hD => ?_⟩
          have nDo : D ≠ os := fun y => by rw [y, eO4] at hD; cases hD
          refine lcJ (n := zs.length) (vs := [11]) (fun i H' => At H4 D (((zs.take i).filter fun y => decide (y ≠ z)).map V.str) H') ⟨sameUpd hD, upd_same⟩
            (fun i H' lt h => ⟨zs.map V.str, V.str zs[i], .inl (.inl (h.1 _ _ eO4)), by rw [List.getElem?_map, List.getElem?_eq_getElem lt]; rfl⟩) (fun H' h => ⟨zs.map V.str, .inl (.inl (h.1 _ _ eO4)), by rw [List.length_map]; exact Nat.le_refl _⟩) (fun i H' x H5 lt h y => ?_) (fun H' h => ?_)
          · obtain ⟨rfl, y⟩ := y
            have ex := y _ (.inl (.inl (h.1 _ _ eO4)))
            rw [List.getElem?_map, List.getElem?_eq_getElem lt] at ex
            obtain rfl : V.str zs[i] = x := Option.some.inj ex
            have et : (zs.take (i + 1)).filter (fun y => decide (y ≠ z)) = (zs.take i).filter (fun y => decide (y ≠ z)) ++ (if zs[i] ≠ z then [zs[i]] else []) := by
              rw [List.take_succ_eq_append_getElem lt, List.filter_append, List.filter_cons]
              by_cases e : zs[i] = z
              · rw [if_neg (by simp [e]), if_neg (by simp [e])]
                rfl
              · rw [if_pos (by simp [e]), if_pos e]
                rfl
            have ln := List.length_filter_le (fun y => decide (y ≠ z)) (zs.take i)
            rw [List.length_take] at ln
            refine ⟨rfl, .str zs[i], rfl, .str z, rfl, rfl, _, rfl, ite2 (fun e => ?_) (fun e => ?_)⟩
            · have ne : zs[i] ≠ z := fun z2 => by rw [z2] at e; simp at e
              rw [if_pos ne] at et
              obtain ⟨g1, g2⟩ := h.put (ys := ((zs.take (i + 1)).filter fun y => decide (y ≠ z)).map V.str) hD (Same.refl _)
              refine ⟨.str zs[i], rfl, _, g1, by rw [List.length_map, sizeLine_eq]; omega, ?_⟩
              rw [et, List.map_append] at g2
              rw [et, List.map_append]
              exact g2
            · have e2 : zs[i] = z := Decidable.byContradiction fun ne => e (by simp [ne])
              rw [if_neg (fun n => n e2), List.append_nil] at et
              rw [et]
              exact h
          rw [List.take_length] at h
          have hat := h
          have lf := List.length_filter_le (fun y => decide (y ≠ z)) zs
          have F5 := F4.same hat.1
          have k05 := k04.trans (Kp.same hat.1)
          have nDa : D ≠ a := fdNe F4 hD
          refine ⟨.str z, rfl, .ref a, rfl, a, rfl, F5, fun v6 ps H6 lps hps hv6 k6 F6 => ?_⟩
          have k06 := k05.trans k6
          refine ⟨.ref a, rfl, .ref ks, rfl, .ref D, rfl, .int n, rfl, n, 1, rfl, rfl, a, ks, D, xs, keys, zs.filter (fun y => decide (y ≠ z)), n - 1, rfl, by omega, by omega, F6, k06 _ _ neK eK, neK, keysAt k06, lx1, lx, knd, kok, k6 _ _ nDa hat.2, nDa, by omega, fun y hy => hzs y (List.mem_filter.mp hy).1, fun v7 t7 H7 hv7 z7 o7 k7 F7 => ⟨(by show 4 ≤ sizeLine; decide), fun p8 hp8 => ?_⟩⟩
          have s8 := sameUpd (o := .tup [.str "write", .str z, v6, v7]) hp8
          refine q _ (.wr z ps t7) _ ?_ ?_ (((odWrT tz (by omega) hps o7 (by omega) : Od (3 * M + 2 + 1) _)).up (by omega)) ((k06.trans k7).trans (Kp.same s8)) (F7.same s8)
          · rw [trD]
            refine .tup (.inl (.inl upd_same)) (.cons (.str _) (.cons (.str _) (.cons ?_ (.cons (dpSame s8 _ _ hv7) .nil))))
            exact dpSame s8 _ _ (dpTS (tsKp F6 k7) (plPts ps) _ hv6)
          · rw [TrZ]
            exact ⟨⟨hzm, by omega, hps⟩, z7⟩
        · refine iteF ⟨.ref ks, rfl, Nat.zero_le _, fun p4 hp4 => keysNil k2 F2 hp4 _ ⟨_, rfl, iteF ⟨rfl, k2.trans (Kp.new hp4), F2.new hp4⟩⟩⟩
      rintro σ3 H3 ⟨rfl, k3, F3⟩
      have eK3 := k3 _ _ neK eK
      -- the keys chosen
      refine ⟨fun σ' H' => ∃ C U cs chosen, σ' = tT a ks os n (some (.int r)) none none (some (.ref C)) (some (.ref U)) none none none none ∧ H' C = some (.lst cs) ∧ DpAll K H' cs (kysD chosen) ∧ 1 ≤ chosen.length ∧ chosen.length ≤ 4 ∧ chosen.Nodup ∧ (∀ k ∈ chosen, k ∈ keys) ∧ H' U = some (.lst []) ∧ C ≠ a ∧ U ≠ a ∧ C ≠ U ∧ H3 U = none ∧ Kp a H3 H' ∧ Fd H' a, ?_, ?_⟩
      · refine ⟨.ref a, rfl, .ref ks, rfl, a, ks, xs, keys, rfl, F3, .inl (.inl eK3), lx, keysAt k3, fun k hk => (odk k hk).up (by omega), fun p ys es H4 np k4 F4 ep hv4 perm => ?_⟩
        have pa : p ≠ a := fdNe F3 np
        refine ⟨(by show 7 ≤ sizeLine; decide), fun L hL => ?_⟩
        have s5 := sameUpd (o := .lst [.int 1, .int 1, .int 1, .int 2, .int 2, .int 3, .int 4]) hL
        have eL : upd H4 L (.lst [.int 1, .int 1, .int 1, .int 2, .int 2, .int 3, .int 4]) L = some (.lst [.int 1, .int 1, .int 1, .int 2, .int 2, .int 3, .int 4]) := upd_same
        have F5 := F4.same s5
        have nLa := fdNe F4 hL
        have ep5 := s5 _ _ ep
        generalize upd H4 L (.lst [.int 1, .int 1, .int 1, .int 2, .int 2, .int 3, .int 4]) = H5 at *
        refine ⟨.ref a, rfl, a, 7, rfl, F5, by decide, by decide, fun r6 H6 r60 r61 k6 F6 => ?_⟩
        obtain ⟨j, hj, hj1, hj4⟩ : ∃ j : Nat, atI [V.int 1, .int 1, .int 1, .int 2, .int 2, .int 3, .int 4] r6 = some (.int (j : Int)) ∧ 1 ≤ j ∧ j ≤ 4 := by
          have hc : r6 = 0 ∨ r6 = 1 ∨ r6 = 2 ∨ r6 = 3 ∨ r6 = 4 ∨ r6 = 5 ∨ r6 = 6 := by omega
          rcases hc with h | h | h | h | h | h | h <;> rw [h]
          · exact ⟨1, rfl, by omega, by omega⟩
          · exact ⟨1, rfl, by omega, by omega⟩
          · exact ⟨1, rfl, by omega, by omega⟩
          · exact ⟨2, rfl, by omega, by omega⟩
          · exact ⟨2, rfl, by omega, by omega⟩
          · exact ⟨3, rfl, by omega, by omega⟩
          · exact ⟨4, rfl, by omega, by omega⟩
        refine ⟨L, _, r6, .int (j : Int), rfl, rfl, .inl (.inl (k6 _ _ nLa eL)), hj, (j : Int), rfl, p, ys, rfl, .inl (.inl (k6 _ _ pa ep5)), fun C hC => ⟨Nat.zero_le _, fun U hU => ⟨_, _, rfl, ?_⟩⟩⟩
        have s7 := sameUpd (o := .lst (cutV ys none (some (j : Int)))) hC
        have s8 := sameUpd (o := .lst []) hU
        have F8 := (F6.same s7).same s8
        have Ca := fdNe F6 hC
        have Ua := fdNe (F6.same s7) hU
        have kA : Kp a H3 (upd (upd H6 C (.lst (cutV ys none (some (j : Int))))) U (.lst [])) := ((k4.trans (Kp.same s5)).trans k6).trans (Kp.same (s7.trans s8))
        have les := perm.length_eq
        have dp8 : ∀ G, TS H4 G → DpAll K G (cutV ys none (some (j : Int))) (kysD (es.take j)) := fun G t => by
          rw [cutTake, show kysD (es.take j) = (kysD es).take j from List.map_take]
          exact dpTake (kysTS t hv4) j
        refine ⟨C, U, _, es.take j, rfl, s8 _ _ upd_same, dp8 _ (((TS.same s5).trans (tsKp F5 k6)).trans (TS.same (s7.trans s8))), by rw [List.length_take]; omega, by rw [List.length_take]; omega, (perm.nodup_iff.mpr knd).sublist (List.take_sublist _ _), fun k hk => perm.mem_iff.mp (List.mem_of_mem_take hk), upd_same, Ca, Ua, fun z => (by rw [← z, upd_same] at hU; cases hU), ?_, kA, F8⟩
        cases e : H3 U with
        | none => rfl
        | some o => 
          have := s7 _ _ (k6 _ _ Ua (s5 _ _ (k4 _ _ Ua e)))
          rw [this] at hU
          cases hU
      rintro σ4 H4 ⟨C, U, cs, chosen, rfl, eC, hcs, lc1, lc, cnd, csub, eU, Ca, Ua, CU, nU3, k4, F4⟩
      have lcc := dpLen hcs
      rw [List.length_map] at lcc
      -- the cases
      refine ⟨fun σ' H' => ∃ x9 x10 rs cases, σ' = tT a ks os n (some (.int r)) none none (some (.ref C)) (some (.ref U)) x9 x10 none none ∧ H' C = some (.lst cs) ∧ H' U = some (.lst rs) ∧ cases.length ≤ 2 ∧ DpAll K H' cs (kysD chosen) ∧ DpAll K H' rs (csD cases) ∧ CsZ zs chosen.length cases ∧ (∀ c ∈ cases, Od (3 * M + 3) (.tuple [rowD c.1, trD c.2])) ∧ Kp a H3 H' ∧ Fd H' a, ?_, ?_⟩
      · refine ⟨.ref a, rfl, a, 3, rfl, F4, by decide, by decide, fun r5 H5 r50 r51 k5 F5 => ⟨r5, rfl, by omega, by omega, ?_⟩⟩
        obtain ⟨m, rfl⟩ : ∃ m : Nat, r5 = (m : Int) := ⟨r5.toNat, by omega⟩
        rw [Int.toNat_natCast]
        refine forJ (n := m) (fun i σ' H' => ∃ x9 x10 rs cases, σ' = tT a ks os n (some (.int r)) none none (some (.ref C)) (some (.ref U)) x9 x10 none none ∧ H' C = some (.lst cs) ∧ H' U = some (.lst rs) ∧ cases.length = i ∧ DpAll K H' cs (kysD chosen) ∧ DpAll K H' rs (csD cases) ∧ CsZ zs chosen.length cases ∧ (∀ c ∈ cases, Od (3 * M + 3) (.tuple [rowD c.1, trD c.2])) ∧ Kp a H3 H' ∧ Fd H' a)
          ⟨none, none, [], [], rfl, k5 _ _ Ca eC, k5 _ _ Ua eU, rfl, kysTS (tsKp F4 k5) hcs, .nil, (by rw [CsZ]; trivial), fun c hc => absurd hc (by simp), k4.trans k5, F5⟩ (fun i σ' H' lt _ => lt) (fun σ' H' _ => Nat.le_refl _) (fun i σ' H6 x H7 lt h y => ?_) (fun σ' H' h => ?_)
        · obtain ⟨rfl, rfl⟩ := y
          obtain ⟨x9, x10, rs, cases, rfl, eC6, eU6, lr, hc6, hr6, cz6, od6, k6, F6⟩ := h
          have lrr := dpLen hr6
          rw [csD_map, List.length_map] at lrr
          refine ⟨.ref C, rfl, C, rfl, ⟨_, .inl (.inl eC6)⟩, fun D hD => ?_⟩
          refine lcFeedX (m := cs.length) (fun a => ∀ z, a = some z → TOk z) hD F6 (by omega) (fun v => rfl) (fun i H lt k => ⟨cs, _, .inl (.inl (k _ _ Ca eC6)), List.getElem?_eq_getElem (by omega)⟩) (fun H k => ⟨cs, .inl (.inl (k _ _ Ca eC6)), by omega⟩) (fun i x H8 H9 lt k8 F8 y => ?_) (fun H8 row e8 l8 hv8 k8 F8 => ?_)
          · obtain ⟨rfl, y⟩ := y
            refine ⟨rfl, fun R hR => ?_⟩
            refine ⟨.ref a, rfl, a, rfl, F8, fun v H10 hv10 k10 F10 => ?_⟩
            rcases hv10 with rfl | ⟨z, rfl, tz⟩
            · exact hR none H10 (fun z e => by cases e) k10 F10
            · exact hR (some z) H10 (fun y e => by cases e; exact tz) k10 F10
          have rok : row.length = chosen.length ∧ ∀ z, some z ∈ row → TOk z := ⟨by omega, fun z hz => hv8 _ hz z rfl⟩
          refine ⟨D, row.map vA, rfl, .inl ⟨.inl (.inl e8), fun T hT => ?_⟩⟩
          have sT := sameUpd (o := .tup (row.map vA)) hT
          have vT : Dp K (upd H8 T (.tup (row.map vA))) (.ref T) (rowD row) := rowDp (.inl (.inl upd_same))
          have F9 := F8.same sT
          have k9 := k8.trans (Kp.same sT)
          generalize upd H8 T (.tup (row.map vA)) = H9 at *
          have eU9 := k9 _ _ Ua eU6
          have k39 := k6.trans k9
          refine ⟨.ref U, rfl, .inl ⟨rfl, _, .inl (.inl eU9)⟩, .ref T, rfl, .ref a, rfl, .ref ks, rfl, .ref os, rfl, .int n, rfl, n, 1, rfl, rfl, .ref a, rfl, .int n, rfl, a, n, rfl, F9, by omega, by omega, fun r10 H10 r100 r101 k10 F10 => ⟨n - 1, r10, rfl, rfl, ?_⟩⟩
          have k310 := (k3.trans k39).trans k10
          refine ⟨a, ks, os, xs, keys, zs, n - 1 - r10, rfl, by omega, by omega, F10, k310 _ _ neK eK, neK, keysAt k310, lx1, lx, knd, kok, k310 _ _ neO eO, neO, lz, hzs, fun v11 t11 H11 hv11 z11 o11 k11 F11 => ⟨(by show 2 ≤ sizeLine; decide), fun p hp => ?_⟩⟩
          have sp := sameUpd (o := .tup [.ref T, v11]) hp
          have kA : Kp a H9 (upd H11 p (.tup [.ref T, v11])) := (k10.trans k11).trans (Kp.same sp)
          have vp : Dp K (upd H11 p (.tup [.ref T, v11])) (.ref p) (.tuple [rowD row, trD t11]) := .tup (.inl (.inl upd_same)) (.cons (dpSame sp _ _ (dpTS (tsKp F9 (k10.trans k11)) (plRow _) _ vT)) (.cons (dpSame sp _ _ hv11) .nil))
          have FA := F11.same sp
          generalize upd H11 p (.tup [.ref T, v11]) = H12 at *
          have eU12 := kA _ _ Ua eU9
          have eC12 := kA _ _ Ca (k9 _ _ Ca eC6)
          have kt := TS.lst (o := .lst (rs ++ [.ref p])) eU12
          have ktA : TS H7 H12 := tsKp F6 (k9.trans kA)
          refine ⟨U, rs, .ref p, rfl, rfl, eU12, by rw [sizeLine_eq]; omega, ?_⟩
          refine ⟨_, _, rs ++ [.ref p], cases ++ [(row, t11)], rfl, by rw [upd_ne CU]; exact eC12, upd_same, by rw [List.length_append, lr]; rfl, kysTS (ktA.trans kt) hc6, ?_, csZ_snoc rok z11 cz6, fun c hc => ?_, fun b o nb hb => ?_, fdOther FA Ua⟩
          · rw [csSnoc]
            refine dpSnoc ?_ (csTS (ktA.trans kt) hr6)
            obtain ⟨m, pl⟩ := plCase (row, t11)
            exact dpTS kt pl _ vp
          · rcases List.mem_append.mp hc with z | z
            · exact od6 c z
            · rw [List.mem_singleton.mp z]
              exact odCase ⟨by rw [rok.1]; exact lc, rok.2⟩ o11 (by omega)
          · rw [upd_ne (ne_of_none hb nU3)]
            exact kA _ _ nb (k39 _ _ nb hb)
        · obtain ⟨x9, x10, rs, cases, rfl, eC6, eU6, lr, hc6, hr6, cz6, od6, k6, F6⟩ := h
          exact ⟨x9, x10, rs, cases, rfl, eC6, eU6, by omega, hc6, hr6, cz6, od6, k6, F6⟩
      rintro σ5 H5 ⟨x9, x10, rs, cases, rfl, eC5, eU5, lr, hc5, hr5, cz5, od5, k5, F5⟩
      refine ⟨.ref C, rfl, C, cs, rfl, .inl ⟨.inl (.inl eC5), fun T1 hT1 => ?_⟩⟩
      have s6 := sameUpd (o := .tup cs) hT1
      have v6 : Dp K (upd H5 T1 (.tup cs)) (.ref T1) (.tuple (kysD chosen)) := .tup (.inl (.inl upd_same)) (dpAllSame s6 _ _ hc5)
      have F6 := F5.same s6
      have eU6 := s6 _ _ eU5
      have hr6 : DpAll K (upd H5 T1 (.tup cs)) rs (csD cases) := dpAllSame s6 _ _ hr5
      generalize upd H5 T1 (.tup cs) = H6 at *
      refine ⟨.ref U, rfl, U, rs, rfl, .inl ⟨.inl (.inl eU6), fun T2 hT2 => ?_⟩⟩
      have s7 := sameUpd (o := .tup rs) hT2
      have v7 : Dp K (upd H6 T2 (.tup rs)) (.ref T2) (.tuple (csD cases)) := .tup (.inl (.inl upd_same)) (dpAllSame s7 _ _ hr6)
      have F7 := F6.same s7
      have k7 : Kp a H3 (upd H6 T2 (.tup rs)) := k5.trans (Kp.same (s6.trans s7))
      have w6 := dpSame s7 _ _ v6
      generalize upd H6 T2 (.tup rs) = H7 at *
      have k07 := k3.trans k7
      refine ⟨.ref a, rfl, .ref ks, rfl, .ref os, rfl, .int n, rfl, n, 1, rfl, rfl, a, ks, os, xs, keys, zs, n - 1, rfl, by omega, by omega, F7, k07 _ _ neK eK, neK, keysAt k07, lx1, lx, knd, kok, k07 _ _ neO eO, neO, lz, hzs, fun v8 t8 H8 hv8 z8 o8 k8 F8 => ⟨(by show 4 ≤ sizeLine; decide), fun p9 hp9 => ?_⟩⟩
      have s9 := sameUpd (o := .tup [.str "read", .ref T1, .ref T2, v8]) hp9
      have t8T := tsKp F7 k8
      have plC : ∃ m, Pl m (.tuple (csD cases)) := by
        obtain ⟨m, pl⟩ := plTr (.rd [] cases .stop)
        rw [trD] at pl
        cases pl with
        | @tup n _ h => exact ⟨n, h (.tuple (csD cases)) (by simp)⟩
      obtain ⟨mC, plC⟩ := plC
      have plK : Pl 2 (.tuple (kysD chosen)) := .tup fun d hd => by
        obtain ⟨k, _, rfl⟩ := List.mem_map.mp hd
        exact plKy k
      refine q _ (.rd chosen cases t8) _ ?_ ?_ (((odRdT (n := 3 * M + 3) (by omega) (fun k hk => (kok k (csub k hk)).2.2) (by omega) od5 (o8.up (by omega)) (by omega))).up (by omega)) ((k07.trans k8).trans (Kp.same s9)) (F8.same s9)
      · rw [trD]
        exact .tup (.inl (.inl upd_same)) (.cons (.str _) (.cons (dpSame s9 _ _ (dpTS t8T plK _ w6)) (.cons (dpSame s9 _ _ (dpTS t8T plC _ v7)) (.cons (dpSame s9 _ _ hv8) .nil))))
      · rw [TrZ]
        exact ⟨⟨⟨lc1, lc, cnd, fun k hk => ⟨(kok k (csub k hk)).1, (kok k (csub k hk)).2.1⟩⟩, by omega⟩, cz5, z8⟩
end
end TRE

set_option Elab.async false
set_option linter.all false
set_option maxRecDepth 100000
set_option maxHeartbeats 8000000
/-! the recipes of a drawn world: a dict of trees -/
namespace TRE
open PySem PySem.Spec PyProof.Rows L2 ND KS KS.La PLC
abbrev lMade : Stmt := top 41
inductive RK (K : PySem.W.Frag) (H : Hp) : List (Key × V) → List (Str × Tr) → Prop
  | nil : RK K H [] []
  | cons {z : Str} {v : V} {t : Tr} {kvs : List (Key × V)} {L : List (Str × Tr)} (h : Dp K H v (trD t)) (r : RK K H kvs L) : RK K H ((.inr z, v) :: kvs) ((z, t) :: L)
theorem RK.ts {K : PySem.W.Frag} {H H' : Hp} (k : TS H H') {kvs : List (Key × V)} {L : List (Str × Tr)} (h : RK K H kvs L) : RK K H' kvs L := by
  induction h with
  | nil => exact .nil
  | cons h _ ih => exact .cons (trTS k _ _ h) ih
theorem RK.len {K : PySem.W.Frag} {H : Hp} {kvs : List (Key × V)} {L : List (Str × Tr)} (h : RK K H kvs L) : kvs.length = L.length := by
  induction h with
  | nil => rfl
  | cons _ _ ih => rw [List.length_cons, List.length_cons, ih]
theorem RK.snoc {K : PySem.W.Frag} {H : Hp} {kvs : List (Key × V)} {L : List (Str × Tr)} {z : Str} {v : V} {t : Tr} (h : RK K H kvs L) (hv : Dp K H v (trD t)) : RK K H (kvs ++ [(.inr z, v)]) (L ++ [(z, t)]) := by
  induction h with
  | nil => exact .cons hv .nil
  | cons h _ ih => exact .cons h ih
theorem RK.none {K : PySem.W.Frag} {H : Hp} {kvs : List (Key × V)} {L : List (Str × Tr)} {z : Str} (h : RK K H kvs L) (hz : z ∉ L.map (·.1)) : valV kvs (.inr z) = none := by
  induction h with
  | nil => rfl
  | @cons y v t kvs L h _ ih =>
    rw [valV_neg fun e => hz (by rw [← Sum.inr.inj e]; exact List.mem_cons_self)]
    exact ih fun e => hz (List.mem_cons_of_mem _ e)
theorem RK.some {K : PySem.W.Frag} {H : Hp} {kvs : List (Key × V)} {L : List (Str × Tr)} {z : Str} (h : RK K H kvs L) (hz : z ∈ L.map (·.1)) : ∃ v t, valV kvs (.inr z) = some v ∧ Dp K H v (trD t) ∧ (z, t) ∈ L := by
  induction h with
  | nil => exact absurd hz (by simp)
  | @cons y v t kvs L h _ ih =>
    by_cases e : y = z
    · subst e
      exact ⟨v, t, valV_pos rfl, h, List.mem_cons_self⟩
    · rw [valV_neg fun e2 => e (Sum.inr.inj e2)]
      have : z ∈ L.map (·.1) := by
        rcases List.mem_cons.mp hz with y2 | y2
        · exact absurd y2.symm e
        · exact y2
      obtain ⟨v2, t2, a, b, c⟩ := ih this
      exact ⟨v2, t2, a, b, List.mem_cons_of_mem _ c⟩
theorem putNew {kvs : List (Key × V)} {k : Key} {v : V} (h : valV kvs k = none) : putK kvs k v = kvs ++ [(k, v)] := by
  unfold putK
  rw [valV_any, h]
  rfl
def goodT (t : Tr) : Prop := (∃ zs, (∀ z ∈ zs, okN z = true) ∧ TrZ zs t) ∧ Od 50 (trD t)
def RecOk (L : List (Str × Tr)) : Prop := (L.map (·.1)).Nodup ∧ ∀ p ∈ L, TOk p.1 ∧ goodT p.2
theorem RecOk.snoc {L : List (Str × Tr)} {z : Str} {t : Tr} (h : RecOk L) (hz : z ∉ L.map (·.1)) (tz : TOk z) (g : goodT t) : RecOk (L ++ [(z, t)]) := by
  refine ⟨?_, fun p hp => ?_⟩
  · rw [List.map_append]
    refine List.nodup_append.mpr ⟨h.1, by simp, fun u hu v hv e => ?_⟩
    rw [List.map_cons, List.map_nil, List.mem_singleton] at hv
    subst hv
    exact hz (e ▸ hu)
  · rcases List.mem_append.mp hp with y | y
    · exact h.2 p y
    · rw [List.mem_singleton.mp y]
      exact ⟨tz, g⟩
def callsL : List Str := ["make", "", "r 2", "Mend!", "m"]
theorem callsOk : ∀ z ∈ callsL, TOk z := by unfold callsL; decide +kernel
theorem outsOk : ∀ z ∈ outsL, okN z = true ∧ TOk z := by unfold outsL; decide +kernel
/-- all but two stand -/
def Kd (f d : Addr) (H H' : Hp) : Prop := ∀ b o, b ≠ f → b ≠ d → H b = some o → H' b = some o
theorem Kd.kp {f d : Addr} {H H' : Hp} (k : Kp f H H') : Kd f d H H' := fun b o n _ h => k b o n h
theorem Kd.trans {f d : Addr} {H H1 H2 : Hp} (a : Kd f d H H1) (b : Kd f d H1 H2) : Kd f d H H2 := fun c o n1 n2 h => b c o n1 n2 (a c o n1 n2 h)
theorem Kd.put {f d : Addr} {H : Hp} {o : HO} : Kd f d H (upd H d o) := fun b u _ n h => by rw [upd_ne n]; exact h
theorem tsDict {d : Addr} {H : Hp} {kvs : List (Key × V)} {o : HO} (h : H d = some (.dK kvs)) : TS H (upd H d o) := fun a u e t => by
  rw [upd_ne fun z => ?_]
  · exact e
  · rw [z, h] at e
    have e2 := Option.some.inj e
    rcases t with ⟨xs, rfl⟩ | ⟨p, xs, rfl⟩ <;> cases e2
theorem dNe {H : Hp} {f d : Addr} {kvs : List (Key × V)} (h : Fd H f) (e : H d = some (.dK kvs)) : d ≠ f := fun z => by
  obtain ⟨x, y, e2, _⟩ := h
  rw [z, e2] at e
  cases e
def spMade (K : PySem.W.Frag) : Sp := fun vs H Q _ => ∃ (f nr d : Addr) (nms : List Str) (kvs : List (Key × V)) (L : List (Str × Tr)), vs = [.ref f, .ref nr, .ref d] ∧ Fd H f ∧ H nr = some (.lst (nms.map V.str)) ∧ nr ≠ f ∧ 1 ≤ nms.length ∧ nms.length ≤ 12 ∧ nms.Nodup ∧ (∀ x ∈ nms, okN x = true ∧ TOk x) ∧
  H d = some (.dK kvs) ∧ RK K H kvs L ∧ RecOk L ∧ (∀ p ∈ L, p.1 ∈ callsL) ∧ L.length ≤ 100 ∧
  ∀ v kvs' L' H', H' d = some (.dK kvs') → RK K H' kvs' L' → RecOk L' → (∀ p ∈ L', p.1 ∈ callsL) → L'.length ≤ L.length + 1 → Kd f d H H' → Fd H' f → Q v H'
abbrev nMade : List Str := ["_law_feed", "_law_near", "_law_recipes", "_law_call", "_law_arguments", "_law_turn"]
section
variable {P : Program} {w : World} {K : PySem.W.Frag} {mg : Str → Option Value} {base : Heap} {f : Addr} {fd : FuncData}
theorem scMade : FnScope nMade ["_law_feed", "_law_near", "_law_recipes"] (defScope lMade) := ⟨rfl, rfl, rfl, by decide +kernel, rfl, by decide +kernel, by decide +kernel⟩
theorem okMade {k : Nat} (F : FnP K "_law_drawn_made" lMade f fd) (B : Bn mg) (D : Has P w K mg base (k + 1) "_law_draw" ["_law_feed", "_law_many"] spDraw) (Pk : Has P w K mg base (k + 2) "_law_pick" ["_law_feed", "_law_items"] (spPick K)) (Ca : Has P w K mg base (k + 1) "_law_calls" [] spCalls)
    (Ke : Has P w K mg base (k + 2) "_law_some_keys" ["_law_feed", "_law_names"] spKeys) (Ou : Has P w K mg base (k + 1) "_law_outs" [] spOutsT) (Tx : Has P w K mg base (k + 3) "_law_some_text" ["_law_feed"] spText) (Tr' : Has P w K mg base (k + 11) "_law_some_tree" pTree (spTree K 6)) :
    FnOk P w K mg base CX0 (k + 12) f fd ["_law_feed", "_law_near", "_law_recipes"] (spMade K) := by
  obtain ⟨fD, fdD, gD, kD, bD, GD⟩ := D.ex
  obtain ⟨fP, fdP, gP, kP, bP, GP⟩ := Pk.ex
  obtain ⟨fC, fdC, gC, kC, bC, GC⟩ := Ca.ex
  obtain ⟨fK, fdK, gK, kK, bK, GK⟩ := Ke.ex
  obtain ⟨fO, fdO, gO, kO, bO, GO⟩ := Ou.ex
  obtain ⟨fX, fdX, gX, kX, bX, GX⟩ := Tx.ex
  obtain ⟨fT, fdT, gT, kT, bT, GT⟩ := Tr'.ex
  refine F.ok scMade (fun vs H Q E h => ?_) (fun cdv A outer s H vs Q E hr h => ?_)
  · obtain ⟨a, nr, d, nms, kvs, L, rfl, _⟩ := h
    rfl
  · obtain ⟨a, nr, d, nms, kvs, L, rfl, hF, en, nn, ln1, ln, nd, nok, ed, rk, rok, rca, lL, q⟩ := h
    have hr1 : Room (k + 1) _ := hr.mono (by omega)
    have hr2 : Room (k + 2) _ := hr.mono (by omega)
    have hr3 : Room (k + 3) _ := hr.mono (by omega)
    have hu1 : (A.deeper (envOfC "_law_drawn_made" (defScope lMade) s.heap.objs.size f cdv)).units + 1 < cLine := by
      have := hr.units
      omega
    have nd' := dNe hF ed
    refine ⟨_, PSs.nox (C8.pss_cut (ps_set (i := 3) scMade.nd rfl (.inl rfl) (pe_call GP hr2 (by rfl) gP kP bP .nil pass0 (pa_cons (pv 0) (pa_cons (pe_call0 GC hr1 (by rfl) gC kC bC .nil pass0) pa_nil)))) (C8.pss_cut (ps_if (PW.pt (pw_and (pt_cmp (pc_dnotin hu1 (pv 3) (pv 2))) (pw_and1 (pt_cmpR op_gt (pe_call GD hr1 (by rfl) gD kD bD .nil pass0 (pa_cons (pv 0) (pa_cons (pe_int) pa_nil))) pe_int (nomark _)))))
        (pss_one (ps_dput hu1 (pv 2) (pv 3) (pe_call GT hr (by rfl) gT kT bT .nil pass0 (pa_cons (pv 0) (pa_cons (pe_call GK hr2 (by rfl) gK kK bK .nil pass0 (pa_cons (pv 0) (pa_cons (pv 1) pa_nil))) (pa_cons (pe_call0 GO hr1 (by rfl) gO kO bO .nil pass0) (pa_cons (pe_op op_add pe_int (pe_call GD hr1 (by rfl) gD kD bD .nil pass0 (pa_cons (pv 0) (pa_cons (pe_int) pa_nil)))) pa_nil))))) rfl)) pss_nil) (C8.pss_cut (ps_set (i := 4) scMade.nd rfl (.inl rfl) (pe_callTy (r := rTup K) (T := "tuple") call_tuple_of (by rfl) B.tuple (by decide +kernel) (pa_cons (pe_lc (own := [("_law_turn", 5)]) (g := gName 5) rfl scMade.nd (pi_range1 (by rfl) B.range (pa_cons (pe_ix (r := rIxL K) ix_list (pe_lst (pa_cons (pe_int) (pa_cons (pe_int) (pa_cons (pe_int) (pa_cons (pe_int) (pa_cons (pe_int) pa_nil)))))) (pe_call GD hr1 (by rfl) gD kD bD .nil pass0 (pa_cons (pv 0) (pa_cons (pe_int) pa_nil))) (fun _ _ => rfl)) pa_nil)) (blkOk_by (N := nMade) (sc := defScope lMade) (by decide +kernel))
          (fun _ _ _ _ _ => pg_name (i := 5) scMade.nd rfl (.inl rfl) (hf := .inr rfl)) (fun _ _ _ _ _ => pts_nil) (fun _ _ _ _ _ => pe_call GX hr3 (by rfl) gX kX bX .nil pass0 (pa_cons (pv 0) pa_nil))) pa_nil))) (pss_cons (ps_if (pt_cmpR op_eq (pe_call GD hr1 (by rfl) gD kD bD .nil pass0 (pa_cons (pv 0) (pa_cons (pe_int) pa_nil))) pe_int (nomark _))
        (pss_one (ps_ret (pe_tup (pa_cons (pe_str) (pa_cons (pe_tup (pa_cons (pe_call GP hr2 (by rfl) gP kP bP .nil pass0 (pa_cons (pv 0) (pa_cons (pv 1) pa_nil))) (pa_cons (pe_call GP hr2 (by rfl) gP kP bP .nil pass0 (pa_cons (pv 0) (pa_cons (pe_call0 GO hr1 (by rfl) gO kO bO .nil pass0) pa_nil))) pa_nil))) (pa_cons (pv 4) pa_nil)))))) pss_nil) (pss_one (ps_ret (pe_tup (pa_cons (pe_str) (pa_cons (pv 3) (pa_cons (pv 4) pa_nil)))))))))), ?_⟩
    -- the call
    refine ⟨fun σ' H' => ∃ c, σ' = [some (.ref a), some (.ref nr), some (.ref d), some (.str c), none, none] ∧ c ∈ callsL ∧ Kp a H H' ∧ Fd H' a, ?_, ?_⟩
    · refine ⟨.ref a, rfl, rfl, fun p hp => ?_⟩
      have s1 := sameUpd (o := .lst [.str "make", .str "", .str "r 2", .str "Mend!", .str "m"]) hp
      have F1 := hF.same s1
      have np := fdNe hF hp
      refine ⟨a, p, _, rfl, F1, .inl (.inl upd_same), np, by decide, by decide, fun i v H2 hv k2 F2 => ?_⟩
      obtain ⟨c, hc, rfl⟩ : ∃ c, c ∈ callsL ∧ v = .str c := by
        have hm : v ∈ callsL.map V.str := List.mem_of_getElem? hv
        obtain ⟨c, hc, e⟩ := List.mem_map.mp hm
        exact ⟨c, hc, e.symm⟩
      exact ⟨c, rfl, hc, (Kp.same s1).trans k2, F2⟩
    rintro σ1 H1 ⟨c, rfl, hc, k1, F1⟩
    have tc := callsOk c hc
    have ed1 := k1 _ _ nd' ed
    have rk1 := rk.ts (tsKp hF k1)
    -- a new recipe
    refine ⟨fun σ' H' => σ' = [some (.ref a), some (.ref nr), some (.ref d), some (.str c), none, none] ∧ ∃ kvs' L', H' d = some (.dK kvs') ∧ RK K H' kvs' L' ∧ RecOk L' ∧ (∀ p ∈ L', p.1 ∈ callsL) ∧ L'.length ≤ L.length + 1 ∧ Kd a d H H' ∧ Fd H' a, ?_, ?_⟩
    · refine ⟨.str c, rfl, .ref d, rfl, d, _, rfl, DGet.k (k := Sum.inr c) ed1, _, rfl, ?_⟩
      by_cases hc2 : c ∈ L.map (·.1)
      · obtain ⟨v, t, e1, _, _⟩ := rk1.some hc2
        rw [e1]
        exact iteF ⟨rfl, kvs, L, ed1, rk1, rok, rca, by omega, Kd.kp k1, F1⟩
      · have e1 := rk1.none hc2
        rw [e1]
        refine iteT ⟨.ref a, rfl, a, 12, rfl, F1, by decide, by decide, fun r H2 r0 r1 k2 F2 => ⟨r, 0, rfl, rfl, _, rfl, ite2 (fun _ => ?_) (fun _ => ?_)⟩⟩
        · refine ⟨.ref a, rfl, .ref a, rfl, .ref nr, rfl, a, nr, nms, rfl, F2, (k1.trans k2) _ _ nn en, nn, ln, nd, fun R ys keys H3 nR eR hys knd kmem klen k3 F3 => ⟨rfl, fun O hO => ?_⟩⟩
          have sO := sameUpd (o := .lst (outsL.map V.str)) hO
          have F4 := F3.same sO
          have nO := fdNe F3 hO
          have nRa : R ≠ a := fdNe F2 nR
          have klen1 : 1 ≤ keys.length ∨ keys = [] := by
            cases keys with
            | nil => exact .inr rfl
            | cons _ _ => exact .inl (by simp)
          refine ⟨.ref a, rfl, a, 5, rfl, F4, by decide, by decide, fun r5 H5 r50 r51 k5 F5 => ⟨2, r5, rfl, rfl, ?_⟩⟩
          have kA : Kp a H3 H5 := (Kp.same sO).trans k5
          refine ⟨a, R, O, ys, keys, outsL, 2 + r5, rfl, by omega, by omega, F5, kA _ _ nRa eR, nRa, kysTS (tsKp F3 kA) (hys K), ?_, by omega, knd, fun k' hk' => ⟨(nok _ (kmem k' hk').1).1, (outsOk _ (kmem k' hk').2).1, (nok _ (kmem k' hk').1).2, (outsOk _ (kmem k' hk').2).2⟩,
            k5 _ _ nO upd_same, nO, by show 4 ≤ 10; omega, fun z hz => (outsOk z hz).2, fun v t H6 hv zt ot k6 F6 => ?_⟩
          · omega
          have k16 : Kp a H1 H6 := ((k2.trans k3).trans kA).trans k6
          have ed6 := k16 _ _ nd' ed1
          have rk6 := rk1.ts (tsKp F1 k16)
          refine ⟨.ref d, rfl, .str c, rfl, d, _, rfl, DPut.k (k := Sum.inr c) ed6 (by rw [rk6.len, sizeLine_eq]; omega), ?_⟩
          rw [putNew e1]
          have t7 := tsDict (o := .dK (kvs ++ [(Sum.inr c, v)])) ed6
          refine ⟨rfl, _, L ++ [(c, t)], upd_same, (rk6.ts t7).snoc (trTS t7 _ _ hv), rok.snoc hc2 tc ⟨⟨outsL, fun z hz => (outsOk z hz).1, zt⟩, ot.up (by omega)⟩, fun p hp => ?_, by rw [List.length_append]; exact Nat.le_refl _, (Kd.kp (k1.trans k16)).trans Kd.put, fdOther F6 nd'⟩
          rcases List.mem_append.mp hp with y | y
          · exact rca p y
          · rw [List.mem_singleton.mp y]
            exact hc
        · exact ⟨rfl, kvs, L, k2 _ _ nd' ed1, rk1.ts (tsKp F1 k2), rok, rca, by omega, Kd.kp (k1.trans k2), F2⟩
    rintro σ2 H2 ⟨rfl, kvs', L', ed2, rk2, rok2, rca2, lL2, k2, F2⟩
    -- the arguments
    refine ⟨fun σ' H' => ∃ T, σ' = [some (.ref a), some (.ref nr), some (.ref d), some (.str c), some (.ref T), none] ∧ Kp a H2 H' ∧ Fd H' a, ?_, ?_⟩
    · refine ⟨(by show 5 ≤ sizeLine; decide), fun M hM => ?_⟩
      have sM := sameUpd (o := .lst [.int 0, .int 0, .int 1, .int 2, .int 4]) hM
      have eM : upd H2 M (.lst [.int 0, .int 0, .int 1, .int 2, .int 4]) M = some (.lst [.int 0, .int 0, .int 1, .int 2, .int 4]) := upd_same
      have F3 := F2.same sM
      have nM := fdNe F2 hM
      generalize upd H2 M (.lst [.int 0, .int 0, .int 1, .int 2, .int 4]) = H3 at *
      refine ⟨.ref a, rfl, a, 5, rfl, F3, by decide, by decide, fun r H4 r0 r1 k4 F4 => ?_⟩
      obtain ⟨j, hj, hj4⟩ : ∃ j : Nat, atI [V.int 0, .int 0, .int 1, .int 2, .int 4] r = some (.int (j : Int)) ∧ j ≤ 4 := by
        have hc : r = 0 ∨ r = 1 ∨ r = 2 ∨ r = 3 ∨ r = 4 := by omega
        rcases hc with h | h | h | h | h <;> rw [h]
        · exact ⟨0, rfl, by omega⟩
        · exact ⟨0, rfl, by omega⟩
        · exact ⟨1, rfl, by omega⟩
        · exact ⟨2, rfl, by omega⟩
        · exact ⟨4, rfl, by omega⟩
      refine ⟨M, _, r, .int (j : Int), rfl, rfl, .inl (.inl (k4 _ _ nM eM)), hj, (j : Int), rfl, by omega, by omega, ?_⟩
      rw [Int.toNat_natCast]
      intro D hD
      refine lcFeedX (m := j) (fun a => ∀ z, a = some z → TOk z) hD F4 (by omega) (fun v => rfl) (fun i H lt k => lt) (fun H k => Nat.le_refl _) (fun i x H8 H9 lt k8 F8 y => ?_) (fun H8 row e8 l8 hv8 k8 F8 => ?_)
      · obtain ⟨rfl, rfl⟩ := y
        exact ⟨rfl, fun R hR => ⟨.ref a, rfl, a, rfl, F8, fun z H10 tz k10 F10 => hR (some z) H10 (fun y e => by cases e; exact tz) k10 F10⟩⟩
      · refine ⟨D, row.map vA, rfl, .inl ⟨.inl (.inl e8), fun T hT => ?_⟩⟩
        have sT := sameUpd (o := .tup (row.map vA)) hT
        exact ⟨T, rfl, (((Kp.same sM).trans k4).trans k8).trans (Kp.same sT), F8.same sT⟩
    rintro σ3 H3 ⟨T, rfl, k3, F3⟩
    have fin : ∀ {H' : Hp} {v : V}, Kp a H2 H' → Fd H' a → Q v H' := fun {H' v} k F' => q v kvs' L' H' (k _ _ nd' ed2) (rk2.ts (tsKp F2 k)) rok2 rca2 lL2 (k2.trans (Kd.kp k)) F'
    have en3 : H3 nr = some (.lst (nms.map V.str)) := k3 _ _ nn (k2 _ _ nn (fun z => by rw [z, ed] at en; cases en) en)
    refine ⟨.ref a, rfl, a, 6, rfl, F3, by decide, by decide, fun r H4 r0 r1 k4 F4 => ⟨rfl, _, rfl, ite2 (fun _ => ?_) (fun _ => ?_)⟩⟩
    · refine ⟨.ref a, rfl, .ref nr, rfl, a, nr, _, rfl, F4, .inl (.inl (k4 _ _ nn en3)), nn, by rw [List.length_map]; omega, by rw [List.length_map]; omega, fun i v H5 hv k5 F5 => ?_⟩
      refine ⟨.ref a, rfl, rfl, fun O hO => ?_⟩
      have sO := sameUpd (o := .lst (outsL.map V.str)) hO
      refine ⟨a, O, _, rfl, F5.same sO, .inl (.inl upd_same), fdNe F5 hO, by decide, by decide, fun i6 v6 H6 hv6 k6 F6 => ⟨(by show 2 ≤ sizeLine; decide), fun p7 hp7 => ?_⟩⟩
      have s7 := sameUpd (o := .tup [v, v6]) hp7
      refine ⟨.ref T, rfl, (by show 3 ≤ sizeLine; decide), fun p8 hp8 => ?_⟩
      have s8 := sameUpd (o := .tup [.str "made", .ref p7, .ref T]) hp8
      exact fin ((((((k3.trans k4).trans k5).trans (Kp.same sO)).trans k6).trans (Kp.same s7)).trans (Kp.same s8)) ((F6.same s7).same s8)
    · refine ⟨.str c, rfl, .ref T, rfl, (by show 3 ≤ sizeLine; decide), fun p8 hp8 => ?_⟩
      have s8 := sameUpd (o := .tup [.str "made", .str c, .ref T]) hp8
      exact fin ((k3.trans k4).trans (Kp.same s8)) (F4.same s8)
end
end TRE

set_option Elab.async false
set_option linter.all false
set_option maxRecDepth 100000
set_option maxHeartbeats 8000000
/-! a drawn world -/
namespace TRE
open PySem PySem.Spec PyProof.Rows L2 ND KS KS.La PLC
abbrev lWorld : Stmt := top 42
theorem goneApart : ∀ i ∈ List.range 12, ("gone" : Str) ∉ opt i := by decide +kernel
theorem goneOk : okN "gone" = true ∧ TOk "gone" := by decide +kernel
theorem namesAll {nms : List Str} (hl : nms.length ≤ 12) (h : ∀ i (h : i < nms.length), nms[i] ∈ opt i) : nms.Nodup ∧ (∀ x ∈ nms, okN x = true ∧ TOk x) ∧ ("gone" : Str) ∉ nms := by
  refine ⟨namesNd (n := 0) hl (fun i hi => by rw [Nat.zero_add]; exact h i hi) (by omega), fun x hx => ?_, fun hx => ?_⟩
  · obtain ⟨i, hi, rfl⟩ := List.getElem_of_mem hx
    have := namesOk (by omega : i < 12) (h i hi)
    exact ⟨this.1, this.2.1⟩
  · obtain ⟨i, hi, e⟩ := List.getElem_of_mem hx
    exact goneApart i (List.mem_range.mpr (by omega)) (e ▸ h i hi)
theorem putLen (kvs : List (Key × V)) (k : Key) (v : V) : (putK kvs k v).length ≤ kvs.length + 1 := by
  unfold putK
  split
  · rw [List.length_map]; omega
  · rw [List.length_append]; exact Nat.le_refl _
def spWorld (K : PySem.W.Frag) : Sp := fun vs H Q _ => ∃ (f : Addr) (m : Nat), vs = [.ref f, .int m, .bl false] ∧ Fd H f ∧ 1 ≤ m ∧ m ≤ 11 ∧
  ∀ p d tg kvs L H', SqT K H' p [.ref d, .ref tg] → H d = none → H' d = some (.dK kvs) → RK K H' kvs L → RecOk L → (∀ q ∈ L, q.1 ∈ callsL) → L.length ≤ 12 → Kp f H H' → Fd H' f → Q (.ref p) H'
abbrev nWorld : List Str := ["_law_feed", "_law_many", "_law_has_knots", "_law_names", "_law_recipes", "_law_targets", "_law_k", "_law_name", "_law_near"]
abbrev tW (a : Addr) (m : Nat) (N R G : Addr) (x6 x7 x8 : Option V) : L2.St := [some (.ref a), some (.int m), some (.bl false), some (.ref N), some (.ref R), some (.ref G), x6, x7, x8]
section
variable {P : Program} {w : World} {K : PySem.W.Frag} {mg : Str → Option Value} {base : Heap} {f : Addr} {fd : FuncData}
theorem scWorld : FnScope nWorld ["_law_feed", "_law_many", "_law_has_knots"] (defScope lWorld) := ⟨rfl, rfl, rfl, by decide +kernel, rfl, by decide +kernel, by decide +kernel⟩
theorem okWorld {k : Nat} (F : FunD K "_law_world" "_law_world" (defArgs lWorld) (defBody lWorld) (defScope lWorld) [.bl false] [] f fd) (B : Bn mg) (me : mg "enumerate" = none) (D : Has P w K mg base (k + 1) "_law_draw" ["_law_feed", "_law_many"] spDraw) (Nm : Has P w K mg base (k + 2) "_law_some_names" ["_law_feed", "_law_many"] spNames)
    (Ot : Has P w K mg base (k + 4) "_law_some_outputs" ["_law_feed"] spOutputs) (Md : Has P w K mg base (k + 12) "_law_drawn_made" ["_law_feed", "_law_near", "_law_recipes"] (spMade K)) :
    FnOk P w K mg base CX0 (k + 13) f fd ["_law_feed", "_law_many", "_law_has_knots"] (spWorld K) := by
  obtain ⟨fD, fdD, gD, kD, bD, GD⟩ := D.ex
  obtain ⟨fN, fdN, gN, kN, bN, GN⟩ := Nm.ex
  obtain ⟨fO, fdO, gO, kO, bO, GO⟩ := Ot.ex
  obtain ⟨fM, fdM, gM, kM, bM, GM⟩ := Md.ex
  refine F.ok scWorld (fun vs H Q E h => ?_) (fun cdv A outer s H vs Q E hr h => ?_)
  · obtain ⟨a, m, rfl, _⟩ := h
    rfl
  · obtain ⟨a, m, rfl, hF, m1, m2, q⟩ := h
    have hr1 : Room (k + 1) _ := hr.mono (by omega)
    have hr2 : Room (k + 2) _ := hr.mono (by omega)
    have hr4 : Room (k + 4) _ := hr.mono (by omega)
    have hu1 : (A.deeper (envOfC "_law_world" (defScope lWorld) s.heap.objs.size f cdv)).units + 1 < cLine := by
      have := hr.units
      omega
    refine ⟨_, PSs.nox (C8.pss_cut (ps_par3 (i := 3) (j := 4) (l := 5) (by rfl) scWorld.nd rfl rfl rfl (by decide) (by decide) (by decide) rfl rfl rfl (pa_cons (pe_call GN hr2 (by rfl) gN kN bN .nil pass0 (pa_cons (pv 0) (pa_cons (pv 1) pa_nil))) (pa_cons (pe_dnewK) (pa_cons (pe_dnewK) pa_nil))) (by rfl)) (C8.pss_cut (ps_for PassesOwn.never rfl (pi_enum (by rfl) me (pa_cons (pv 3) pa_nil)) (pg_tup rfl (pgs_cons (pg_name (i := 6) scWorld.nd rfl (.inl rfl)) (pgs_cons (pg_name (i := 7) scWorld.nd rfl (.inl rfl)) pgs_nil)))
        (pss_one (ps_if (PW.pt (pw_or (pt_cmpR op_eq (pv 6) pe_int (nomark _)) (pw_or (PW.pt (pw_and (pt_not (pt_val (pv 2))) (pw_and1 (pt_cmpR op_lt (pv 6) (pe_op op_add pe_int (pe_op op_fdiv (pv 1) pe_int)) (nomark _))))) (pw_or1 (pt_cmpR op_eq (pe_call GD hr1 (by rfl) gD kD bD .nil pass0 (pa_cons (pv 0) (pa_cons (pe_int) pa_nil))) pe_int (nomark _))))))
          (pss_one (ps_dput hu1 (pv 5) (pv 7) (pe_tup (pa_cons (pe_str) (pa_cons (pe_call GO hr4 (by rfl) gO kO bO .nil pass0 (pa_cons (pv 0) pa_nil)) pa_nil))) rfl))
          (pss_cons (ps_set (i := 8) scWorld.nd rfl (.inl rfl) (pe_ifExp (PW.pt (pw_or (pt_val (pv 2)) (pw_or1 (pt_cmpR op_eq (pe_call GD hr1 (by rfl) gD kD bD .nil pass0 (pa_cons (pv 0) (pa_cons (pe_int) pa_nil))) pe_int (nomark _))))) (pe_op op_cat (pv 3) (pe_lst (pa_cons (pe_str) pa_nil))) (pe_slice sl_list (pv 3) po_none (po_some (pv 6))))) (pss_one (ps_dput hu1 (pv 5) (pv 7) (pe_call GM hr (by rfl) gM kM bM .nil pass0 (pa_cons (pv 0) (pa_cons (pv 8) (pa_cons (pv 4) pa_nil)))) rfl)))))) (pss_one (ps_ret (pe_tup (pa_cons (pv 4) (pa_cons (pv 5) pa_nil))))))), ?_⟩
    refine ⟨fun σ' H' => ∃ (N R G : Addr) (nms : List Str), σ' = tW a m N R G none none none ∧ H' N = some (.lst (nms.map V.str)) ∧ H' R = some (.dK []) ∧ H' G = some (.dK []) ∧ H N = none ∧ H R = none ∧ H G = none ∧ R ≠ G ∧ nms.length = m ∧ (∀ i (h : i < nms.length), nms[i] ∈ opt i) ∧ Kp a H H' ∧ Fd H' a, ?_, ?_⟩
    · refine ⟨.ref a, rfl, .int m, rfl, a, m, rfl, by omega, hF, fun N nms H1 nN eN ln hn k1 F1 => ?_⟩
      intro R hR
      have s1 := sameUpd (o := .dK []) hR
      intro G hG
      have s2 := sameUpd (o := .dK []) hG
      have back : ∀ {b : Addr}, H1 b = none → b ≠ a → H b = none := fun {b} hb nb => by
        cases e : H b with
        | none => rfl
        | some o => rw [k1 b o nb e] at hb; cases hb
      have F2 := F1.same s1
      have hG1 : H1 G = none := by
        cases e : H1 G with
        | none => rfl
        | some o => rw [s1 _ _ e] at hG; cases hG
      exact ⟨_, _, _, rfl, N, R, G, nms, rfl, s2 _ _ (s1 _ _ eN), s2 _ _ upd_same, upd_same, nN, back hR (fdNe F1 hR), back hG1 (fdNe F1 hG1), fun z => (by rw [← z, upd_same] at hG; cases hG), ln, hn, (k1.trans (Kp.same s1)).trans (Kp.same s2), F2.same s2⟩
    rintro _ H1 ⟨N, R, G, nms, rfl, eN, eR, eG, nN, nR, nG, nRG, ln, hn, k1, F1⟩
    have Na := fdNe hF nN
    have Ra := fdNe hF nR
    have Ga := fdNe hF nG
    obtain ⟨nnd, nok, ngone⟩ := namesAll (by omega) hn
    refine ⟨fun σ' H' => (∃ x6 x7 x8, σ' = tW a m N R G x6 x7 x8) ∧ ∃ kvs L, H' R = some (.dK kvs) ∧ RK K H' kvs L ∧ RecOk L ∧ (∀ q ∈ L, q.1 ∈ callsL) ∧ L.length ≤ 12 ∧ Kp a H H' ∧ Fd H' a, ?_, ?_⟩
    · refine ⟨.ref N, rfl, N, _, rfl, .inl (.inl eN), ?_⟩
      refine forJ (n := m) (fun i σ' H' => (∃ x6 x7 x8, σ' = tW a m N R G x6 x7 x8) ∧ H' N = some (.lst (nms.map V.str)) ∧ (∃ tk, H' G = some (.dK tk) ∧ tk.length ≤ i) ∧ ∃ kvs L, H' R = some (.dK kvs) ∧ RK K H' kvs L ∧ RecOk L ∧ (∀ q ∈ L, q.1 ∈ callsL) ∧ L.length ≤ i ∧ Kp a H H' ∧ Fd H' a)
        ⟨⟨none, none, none, rfl⟩, eN, ⟨[], eG, Nat.le_refl _⟩, [], [], eR, .nil, ⟨List.nodup_nil, fun p hp => absurd hp (by simp)⟩, fun p hp => absurd hp (by simp), Nat.le_refl _, k1, F1⟩
        (fun i σ' H' lt h => ⟨nms.map V.str, V.str (nms[i]'(by omega)), .inl (.inl h.2.1), by rw [List.getElem?_map, List.getElem?_eq_getElem (by omega)]; rfl⟩) (fun σ' H' h => ⟨nms.map V.str, .inl (.inl h.2.1), by rw [List.length_map]; omega⟩) (fun i σ' H2 x H3 lt h y => ?_) (fun σ' H' h => ?_)
      · obtain ⟨⟨x6, x7, x8, rfl⟩, eN2, ⟨tk, eG2, ltk⟩, kvs, L, eR2, rk, rok, rca, lL, k2, F2⟩ := h
        obtain ⟨T, x, rfl, hT, rfl, y⟩ := y
        have ex := y _ (.inl (.inl eN2))
        have lt2 : i < nms.length := by omega
        rw [List.getElem?_map, List.getElem?_eq_getElem lt2] at ex
        obtain rfl : V.str nms[i] = x := Option.some.inj ex
        have sT := sameUpd (o := .tup [.int (i : Nat), .str nms[i]]) hT
        have eT : upd H2 T (.tup [.int (i : Nat), .str nms[i]]) T = some (.tup [.int (i : Nat), .str nms[i]]) := upd_same
        have F3 := F2.same sT
        have eN3 := sT _ _ eN2
        have eG3 := sT _ _ eG2
        have eR3 := sT _ _ eR2
        have rk3 := rk.ts (TS.same sT)
        have k3 := k2.trans (Kp.same sT)
        generalize upd H2 T (.tup [.int (i : Nat), .str nms[i]]) = H3 at *
        refine ⟨T, _, rfl, .inl (.inl eT), rfl, _, _, rfl, _, _, rfl, rfl, ?_⟩
        -- a target is put in
        have put : ∀ {H4 : Hp} {v : V} {kvs' : List (Key × V)} {L' : List (Str × Tr)} {x8' : Option V}, H4 N = some (.lst (nms.map V.str)) → H4 G = some (.dK tk) → H4 R = some (.dK kvs') → RK K H4 kvs' L' → RecOk L' → (∀ q ∈ L', q.1 ∈ callsL) → L'.length ≤ i + 1 → Kp a H H4 → Fd H4 a →
            ∃ b H5, V.ref G = V.ref b ∧ DPut H4 b (.str nms[i]) v H5 ∧ ((∃ x6 x7 x8, tW a m N R G (some (.int i)) (some (.str nms[i])) x8' = tW a m N R G x6 x7 x8) ∧ H5 N = some (.lst (nms.map V.str)) ∧ (∃ tk, H5 G = some (.dK tk) ∧ tk.length ≤ i + 1) ∧ ∃ kvs L, H5 R = some (.dK kvs) ∧ RK K H5 kvs L ∧ RecOk L ∧ (∀ q ∈ L, q.1 ∈ callsL) ∧ L.length ≤ i + 1 ∧ Kp a H H5 ∧ Fd H5 a) := fun {H4 v kvs' L' x8'} n4 g4 r4 rk4 ok4 ca4 l4 k4 F4 => by
          have ll := putLen tk (Sum.inr nms[i]) v
          refine ⟨G, _, rfl, DPut.k (k := Sum.inr nms[i]) g4 (by rw [sizeLine_eq]; omega), ⟨_, _, _, rfl⟩, ?_, ⟨_, upd_same, by omega⟩, kvs', L', ?_, rk4.ts (tsDict g4), ok4, ca4, l4, fun b o nb hb => ?_, fdOther F4 Ga⟩
          · rw [upd_ne fun z => by rw [z, g4] at n4; cases n4]
            exact n4
          · rw [upd_ne nRG]
            exact r4
          · rw [upd_ne (ne_of_none hb nG)]
            exact k4 _ _ nb hb
        have src : ∀ {H4 : Hp}, Kp a H3 H4 → Fd H4 a → sDPut (tVar 5) (tVar 7) (tTup (tCons (tC (V.str "source")) (tCons (tCall spOutputs [] E0 (tCons (tVar 0) tNil)) tNil))) { nx := fun σ' H' => (∃ x6 x7 x8, σ' = tW a m N R G x6 x7 x8) ∧ H' N = some (.lst (nms.map V.str)) ∧ (∃ tk, H' G = some (.dK tk) ∧ tk.length ≤ i + 1) ∧ ∃ kvs L, H' R = some (.dK kvs) ∧ RK K H' kvs L ∧ RecOk L ∧ (∀ q ∈ L, q.1 ∈ callsL) ∧ L.length ≤ i + 1 ∧ Kp a H H' ∧ Fd H' a, rt := Q } (tW a m N R G (some (.int i)) (some (.str nms[i])) x8) H4 := fun {H4} k4 F4 => by
          refine ⟨.ref a, rfl, a, rfl, F4, fun p os H5 hos hp ep k5 F5 => ⟨(by show 2 ≤ sizeLine; decide), fun U hU => ⟨.ref G, rfl, .str nms[i], rfl, ?_⟩⟩⟩
          have sU := sameUpd (o := .tup [.str "source", .ref p]) hU
          have k6 := (k4.trans k5).trans (Kp.same sU)
          exact put (k6 _ _ Na eN3) (k6 _ _ Ga eG3) (k6 _ _ Ra eR3) (rk3.ts (tsKp F3 k6)) rok rca (by omega) (k3.trans k6) (F5.same sU)
        -- a made target
        have made : ∀ {H4 : Hp} {Nr : Addr} {near : List Str}, Kp a H3 H4 → Fd H4 a → H4 Nr = some (.lst (near.map V.str)) → Nr ≠ a → 1 ≤ near.length → near.length ≤ 12 → near.Nodup → (∀ x ∈ near, okN x = true ∧ TOk x) → sDPut (tVar 5) (tVar 7) (tCall (spMade K) [] E0 (tCons (tVar 0) (tCons (tVar 8) (tCons (tVar 4) tNil)))) { nx := fun σ' H' => (∃ x6 x7 x8, σ' = tW a m N R G x6 x7 x8) ∧ H' N = some (.lst (nms.map V.str)) ∧ (∃ tk, H' G = some (.dK tk) ∧ tk.length ≤ i + 1) ∧ ∃ kvs L, H' R = some (.dK kvs) ∧ RK K H' kvs L ∧ RecOk L ∧ (∀ q ∈ L, q.1 ∈ callsL) ∧ L.length ≤ i + 1 ∧ Kp a H H' ∧ Fd H' a, rt := Q } (tW a m N R G (some (.int i)) (some (.str nms[i])) (some (.ref Nr))) H4 := fun {H4 Nr near} k4 F4 en hna l1 l2 nd nok => by
          refine ⟨.ref a, rfl, .ref Nr, rfl, .ref R, rfl, a, Nr, R, near, kvs, L, rfl, F4, en, hna, l1, l2, nd, nok, k4 _ _ Ra eR3, rk3.ts (tsKp F3 k4), rok, rca, by omega, fun v kvs' L' H5 eR5 rk5 rok5 rca5 lL5 k5 F5 => ⟨.ref G, rfl, .str nms[i], rfl, ?_⟩⟩
          refine put (k5 _ _ Na (fun z => ?_) (k4 _ _ Na eN3)) (k5 _ _ Ga (fun z => nRG z.symm) (k4 _ _ Ga eG3)) eR5 rk5 rok5 rca5 (by omega) (fun b o nb hb => k5 _ _ nb (fun z => ?_) (k4 _ _ nb (k3 _ _ nb hb))) F5
          · rw [z, eR3] at eN3
            cases eN3
          · rw [z, nR] at hb
            cases hb
        have other : ∀ {H4 : Hp}, Kp a H3 H4 → Fd H4 a → 1 ≤ i → tSeq (tAsg (tIf (tOr (tB (tVar 2)) (tTest (tOp rEq (tCall spDraw [] E0 (tCons (tVar 0) (tCons (tC (V.int 5)) tNil))) (tC (V.int 0))))) (tOp rCat (tVar 3) (tLst (tCons (tC (V.str "gone")) tNil))) (tSl (rSlL K) (tVar 3) tNoPart (tPart (tVar 6)))) (gName 8))
            (sDPut (tVar 5) (tVar 7) (tCall (spMade K) [] E0 (tCons (tVar 0) (tCons (tVar 8) (tCons (tVar 4) tNil))))) { nx := fun σ' H' => (∃ x6 x7 x8, σ' = tW a m N R G x6 x7 x8) ∧ H' N = some (.lst (nms.map V.str)) ∧ (∃ tk, H' G = some (.dK tk) ∧ tk.length ≤ i + 1) ∧ ∃ kvs L, H' R = some (.dK kvs) ∧ RK K H' kvs L ∧ RecOk L ∧ (∀ q ∈ L, q.1 ∈ callsL) ∧ L.length ≤ i + 1 ∧ Kp a H H' ∧ Fd H' a, rt := Q } (tW a m N R G (some (.int i)) (some (.str nms[i])) x8) H4 := fun {H4} k4 F4 hi => by
          refine ⟨.bl false, rfl, false, rfl, iteF ⟨.ref a, rfl, a, 5, rfl, F4, by decide, by decide, fun r H5 r0 r1 k5 F5 => ⟨rfl, _, rfl, ite2 (fun _ => ?_) (fun _ => ?_)⟩⟩⟩
          · have k45 := k4.trans k5
            refine ⟨.ref N, rfl, (by show 1 ≤ sizeLine; decide), fun g hg => ?_⟩
            have sg := sameUpd (o := .lst [.str "gone"]) hg
            refine ⟨N, g, _, [.str "gone"], rfl, rfl, sg _ _ (k45 _ _ Na eN3), upd_same, by rw [List.length_map, sizeLine_eq]; show nms.length + 1 ≤ _; omega, fun p6 hp6 => ?_⟩
            have s6 := sameUpd (o := .lst (nms.map V.str ++ [.str "gone"])) hp6
            have F6 := (F5.same sg)
            refine made (near := nms ++ [("gone" : Str)]) ((k45.trans (Kp.same sg)).trans (Kp.same s6)) (F6.same s6) (by rw [List.map_append]; exact upd_same) (fdNe F6 hp6) (by rw [List.length_append]; show 1 ≤ nms.length + 1; omega) (by rw [List.length_append]; show nms.length + 1 ≤ 12; omega) ?_ fun x hx => ?_
            · refine List.nodup_append.mpr ⟨nnd, by simp, fun u hu v hv e => ?_⟩
              rw [List.mem_singleton.mp hv] at e
              exact ngone (e ▸ hu)
            · rcases List.mem_append.mp hx with z | z
              · exact nok x z
              · rw [List.mem_singleton.mp z]
                exact goneOk
          · have k45 := k4.trans k5
            refine ⟨.ref N, rfl, .int i, rfl, (i : Int), rfl, N, _, rfl, .inl (.inl (k45 _ _ Na eN3)), fun p6 hp6 => ?_⟩
            rw [cutTake, ← List.map_take] at *
            have s6 := sameUpd (o := .lst ((nms.take i).map V.str)) hp6
            exact made (near := nms.take i) (k45.trans (Kp.same s6)) (F5.same s6) upd_same (fdNe F5 hp6) (by rw [List.length_take]; omega) (by rw [List.length_take]; omega) (nnd.sublist (List.take_sublist _ _)) fun x hx => nok x (List.mem_of_mem_take hx)
        -- which one
        refine ⟨.int i, rfl, rfl, _, rfl, ite2 (fun e => ?_) (fun e => ?_)⟩
        · exact iteT (src (Kp.refl _ _) F3)
        have hi : 1 ≤ i := by
          have : ¬ i = 0 := fun z => e (by rw [z]; rfl)
          omega
        refine ⟨.bl false, rfl, false, rfl, iteT ⟨.int i, rfl, .int m, rfl, m, 5, rfl, rfl, ⟨by decide, by decide⟩, 1, _, rfl, rfl, i, _, rfl, rfl, _, rfl, ite2 (fun e2 => ?_) (fun e2 => ?_)⟩⟩
        · exact iteT (src (Kp.refl _ _) F3)
        refine ⟨.ref a, rfl, a, 7, rfl, F3, by decide, by decide, fun r H4 r0 r1 k4 F4 => ⟨rfl, _, rfl, ite2 (fun _ => ?_) (fun _ => ?_)⟩⟩
        · exact src k4 F4
        · exact other k4 F4 hi
      · obtain ⟨⟨x6, x7, x8, rfl⟩, eN2, _, kvs, L, eR2, rk, rok, rca, lL, k2, F2⟩ := h
        exact ⟨⟨x6, x7, x8, rfl⟩, kvs, L, eR2, rk, rok, rca, by omega, k2, F2⟩
    rintro _ H2 ⟨⟨x6, x7, x8, rfl⟩, kvs, L, eR2, rk, rok, rca, lL, k2, F2⟩
    refine ⟨.ref R, rfl, .ref G, rfl, (by show 2 ≤ sizeLine; decide), fun p hp => ?_⟩
    have sp := sameUpd (o := .tup [.ref R, .ref G]) hp
    exact q p R G kvs L _ (.inl (.inl upd_same)) nR (sp _ _ eR2) (rk.ts (TS.same sp)) rok rca lL (k2.trans (Kp.same sp)) (F2.same sp)
end
end TRE

set_option Elab.async false
set_option linter.all false
set_option maxRecDepth 100000
set_option maxHeartbeats 4000000
/-! tuple * n, n from one up: times one is the tuple itself -/
namespace TMO
open PySem PySem.Spec PyProof.Rows L2
theorem once (l : Addr) (items : Array Value) (n : Nat) (dd : Option Addr) (sl : Array (Option Value)) (u : Tok) (ne : items.isEmpty = false) :
    Meets (Builtin.«tuple.__mul__» ⟨[.ref l, .int 1 u], []⟩) (fun _ R s => s.heap.get? l = some { cls := .type "tuple", dict := dd, data := .seq items n, slots := sl } ∧ R (.ok (.ret (Value.ref l))) s) :=
  .of_wp fun prog w A R s h => by
    obtain ⟨hp, g, d, tk, os⟩ := s
    obtain ⟨hl, h⟩ := h
    have f1 := AutoSeq1.idx_int
    wp_walk using wpAny_loadPart' hl
    exact ⟨_, rfl, h⟩
def rRepO (K : PySem.W.Frag) : R2 := fun x y H Q => ∃ l k xs, x = .ref l ∧ y = .int k ∧ SqT K H l xs ∧ xs ≠ [] ∧ 1 ≤ k ∧ k ≤ 1000 ∧ xs.length ≤ 1000 ∧ ∀ p H', (∀ b o, H b = some o → H' b = some o) → SqT K H' p (List.replicate k.toNat xs).flatten → Q (.ref p) H'
section
variable {X : Cx}
theorem op_repO : OpR X (binaryOp .Mult) (rRepO X.K) := by
  intro pins s σ H x y v u Q I rx ry h
  obtain ⟨l, k, xs, rfl, rfl, hT, hne, h1, h2, hz, q⟩ := h
  by_cases hk : k = 1
  · subst hk
    cases rx
    obtain ⟨t, rfl⟩ := ry
    obtain ⟨its, r, ⟨⟨cls, dd, data, sl⟩, ho, hc, n, hd⟩, hs⟩ := I.tuple hT
    simp only at hc hd
    subst hc hd
    have hn : its ≠ [] := fun e => hne (List.eq_nil_of_length_eq_zero (by rw [r.length, e]; rfl))
    have hi : its.toArray.isEmpty = false := by
      cases its with
      | nil => exact absurd rfl hn
      | cons a b => rfl
    refine wpAny_binaryOp_repeat_ref (T := "tuple") (U := "int") (by decide) ⟨_, ho, rfl⟩ (fun s' => typeIs_int s' 1 t) noFill_tuple_mul F.fills_int_mul F.slot_int_rmul repeat_tuple F.slot_int_index.lookup
      (call_meets F.slot_int_rmul (typeIs_int s 1 t) F.entry_int_rmul (F.args_int_rmul_2 _ _) (int_rmul_tuple 1 t l its.toArray n dd sl)
        ⟨ho, rfl, ⟨_, ho, rfl⟩, call_meets F.slot_tuple_mul ⟨_, ho, rfl⟩ F.entry_tuple_mul (F.args_tuple_mul_2 _ _) (once l its.toArray n dd sl t hi) ⟨ho, ?_⟩⟩)
    refine ⟨.ref l, H, I.tok _, rfl, q l H (fun _ _ e => e) ?_⟩
    rw [show (List.replicate (1 : Int).toNat xs).flatten = xs from by simp]
    exact hT
  · exact op_repT pins s σ H _ _ v u Q I rx ry ⟨l, k, xs, rfl, rfl, hT, hne, by omega, h2, hz, fun p hp => q p _ (fun b o hb => by rw [upd_ne (ne_of_none hb hp)]; exact hb) (.inl (.inl upd_same))⟩
end
end TMO

set_option Elab.async false
set_option linter.all false
set_option maxRecDepth 100000
set_option maxHeartbeats 8000000
/-! the long recipe -/
namespace TRE
open PySem PySem.Spec PyProof.Rows L2 ND KS KS.La PLC
abbrev lLong : Stmt := top 49
/-- a tuple of data stands -/
def tupAt {K : PySem.W.Frag} {H : Hp} {p : Addr} {xs : List V} {ds : List PyData} (hp : H p = none) (h : DpAll K H xs ds) : Dp K (upd H p (.tup xs)) (.ref p) (.tuple ds) := .tup (.inl (.inl upd_same)) (dpAllSame (sameUpd hp) _ _ h)
theorem repDp {K : PySem.W.Frag} {H : Hp} {v : V} {d : PyData} (h : Dp K H v d) : ∀ m : Nat, DpAll K H (List.replicate m [v]).flatten (List.replicate m d)
  | 0 => .nil
  | m + 1 => .cons h (repDp h m)
theorem dpCat2 {K : PySem.W.Frag} {H : Hp} {ys : List V} {es : List PyData} {xs : List V} {ds : List PyData} (h : DpAll K H xs ds) (hy : DpAll K H ys es) : DpAll K H (xs ++ ys) (ds ++ es) := dpAppend hy h
def longParts (m : Nat) (z : Str) : List Pt := List.replicate m (.itm 1 0) ++ [.txt z]
theorem longPts (m : Nat) (z : Str) : (longParts m z).map ptD = List.replicate m (.tuple [.int 1, .int 0]) ++ [.str z] := by
  unfold longParts
  rw [List.map_append, List.map_replicate]
  rfl
def longIn (m : Nat) (z : Str) : Tr := .wr "out" (longParts m z) (.wr "o" [.itm 0 0] .stop)
def longFst : Tr := .wr "o" [.txt "first"] .stop
def longT (m : Nat) (z y : Str) : Tr := .rd [("a", "o")] [([some y], longIn m z), ([some "1"], longFst), ([some "1"], longIn m z)] (longIn m z)
theorem oneOk : TOk "1" := by decide +kernel
theorem firstOk : TOk "first" := by decide +kernel
theorem oOk : TOk "o" ∧ okN "o" = true := by decide +kernel
theorem outOk : TOk "out" ∧ okN "out" = true := by decide +kernel
theorem aOk : TOk "a" ∧ okN "a" = true := by decide +kernel
theorem longGood {m : Nat} {z y : Str} (hm : m ≤ 4) (hz : TOk z) (hy : TOk y) : goodT (longT m z y) := by
  have pl : (longParts m z).length ≤ 100 := by unfold longParts; rw [List.length_append, List.length_replicate]; show m + 1 ≤ 100; omega
  have po : ∀ p ∈ longParts m z, PtOk p := fun p hp => by
    unfold longParts at hp
    rcases List.mem_append.mp hp with h | h
    · rw [List.eq_of_mem_replicate h]; trivial
    · rw [List.mem_singleton.mp h]; exact hz
  have so : ("o" : Str) ∈ (["out", "o"] : List Str).filter fun x => decide (x ≠ ("out" : Str)) := by decide +kernel
  have zIn : TrZ ["out", "o"] (longIn m z) := by
    unfold longIn
    rw [TrZ, TrZ, TrZ]
    exact ⟨⟨by decide +kernel, pl, po⟩, ⟨so, by decide, fun p hp => by rw [List.mem_singleton.mp hp]; trivial⟩, trivial⟩
  have zFs : TrZ ["out", "o"] longFst := by
    unfold longFst
    rw [TrZ, TrZ]
    exact ⟨⟨by decide +kernel, by decide, fun p hp => by rw [List.mem_singleton.mp hp]; exact firstOk⟩, trivial⟩
  have dIn : Od 4 (trD (longIn m z)) := odWrT outOk.1 pl po (odWrT oOk.1 (by decide) (fun p hp => by rw [List.mem_singleton.mp hp]; trivial) (odStop 1) (by omega)) (by omega)
  have dFs : Od 4 (trD longFst) := (odWrT oOk.1 (by decide) (fun p hp => by rw [List.mem_singleton.mp hp]; exact firstOk) (odStop 1) (by omega)).up (by omega)
  have row : ∀ {u : Str}, TOk u → ([some u] : List (Option Str)).length = 1 ∧ ∀ x, some x ∈ ([some u] : List (Option Str)) → TOk x := fun {u} hu => ⟨rfl, fun x hx => by
    have := List.mem_singleton.mp hx
    rw [Option.some.inj this]
    exact hu⟩
  refine ⟨⟨["out", "o"], fun x hx => ?_, ?_⟩, ?_⟩
  · simp only [List.mem_cons, List.not_mem_nil, or_false] at hx
    rcases hx with rfl | rfl
    · exact outOk.2
    · exact oOk.2
  · unfold longT
    rw [TrZ, CsZ, CsZ, CsZ, CsZ]
    refine ⟨⟨⟨by decide, by decide, by decide +kernel, fun k hk => ?_⟩, (by show 3 ≤ 100; omega)⟩, ⟨⟨row hy, zIn⟩, ⟨row oneOk, zFs⟩, ⟨row oneOk, zIn⟩, trivial⟩, zIn⟩
    rw [List.mem_singleton.mp hk]
    exact ⟨aOk.2, oOk.2⟩
  · refine (odRdT (n := 5) (by decide) (fun k hk => ?_) (by show 3 ≤ 100; omega) (fun c hc => ?_) (dIn.up (by omega)) (by omega)).up (by omega)
    · rw [List.mem_singleton.mp hk]
      exact ⟨aOk.1, oOk.1⟩
    · simp only [List.mem_cons, List.not_mem_nil, or_false] at hc
      rcases hc with rfl | rfl | rfl
      · exact odCase ⟨(by show 1 ≤ 4; omega), (row hy).2⟩ dIn (by omega)
      · exact odCase ⟨(by show 1 ≤ 4; omega), (row oneOk).2⟩ dFs (by omega)
      · exact odCase ⟨(by show 1 ≤ 4; omega), (row oneOk).2⟩ dIn (by omega)
def spLong (K : PySem.W.Frag) : Sp := fun vs H Q _ => ∃ f : Addr, vs = [.ref f] ∧ Fd H f ∧ ∀ v t H', Dp K H' v (trD t) → goodT t → Kp f H H' → Fd H' f → Q v H'
abbrev nLong : List Str := ["_law_feed", "_law_many", "_law_size", "_law_parts", "_law_inner", "_law_first"]
section
variable {P : Program} {w : World} {K : PySem.W.Frag} {mg : Str → Option Value} {base : Heap} {f : Addr} {fd : FuncData}
theorem catAny {H : Hp} {a b : Addr} {xs ys : List V} {Q : VK} (ha : SqT K H a xs) (hb : SqT K H b ys) (hl : xs.length + ys.length ≤ 1000) (h : ∀ p H', Same H H' → SqT K H' p (xs ++ ys) → Q (.ref p) H') : rCatA K (.ref a) (.ref b) H Q := by
  refine ⟨a, b, xs, ys, rfl, rfl, ha, hb, by rw [sizeLine_eq]; omega, fun e => ?_, fun _ e => ?_, fun _ _ p hp => ?_⟩
  · exact h b H (Same.refl H) (by rw [e, List.nil_append]; exact hb)
  · exact h a H (Same.refl H) (by rw [e, List.append_nil]; exact ha)
  · exact h p _ (sameUpd hp) (.inl (.inl upd_same))
theorem scLong : FnScope nLong ["_law_feed"] (defScope lLong) := ⟨rfl, rfl, rfl, by decide +kernel, rfl, by decide +kernel, by decide +kernel⟩
theorem okLong {k : Nat} (F : FnP K "_law_long" lLong f fd) (D : Has P w K mg base (k + 1) "_law_draw" ["_law_feed", "_law_many"] spDraw) : FnOk P w K mg base CX0 (k + 2) f fd ["_law_feed"] (spLong K) := by
  obtain ⟨fD, fdD, gD, kD, bD, GD⟩ := D.ex
  refine F.ok scLong (fun vs H Q E h => ?_) (fun cdv A outer s H vs Q E hr h => ?_)
  · obtain ⟨a, rfl, _⟩ := h
    rfl
  · obtain ⟨a, rfl, hF, q⟩ := h
    refine ⟨_, PSs.nox (C8.pss_cut (ps_par (i := 1) (j := 2) (by rfl) scLong.nd rfl rfl (by decide) rfl rfl (pa_cons (pe_op op_add pe_int (pe_call GD hr (by rfl) gD kD bD .nil pass0 (pa_cons (pv 0) (pa_cons (pe_int) pa_nil)))) (pa_cons (pe_op op_add pe_int (pe_call GD hr (by rfl) gD kD bD .nil pass0 (pa_cons (pv 0) (pa_cons (pe_int) pa_nil)))) pa_nil)) (by rfl)) (C8.pss_cut (ps_set (i := 3) scLong.nd rfl (.inl rfl) (pe_op op_catA (pe_op TMO.op_repO (pe_tup (pa_cons (pe_tup (pa_cons (pe_int) (pa_cons (pe_int) pa_nil))) pa_nil)) (pv 1)) (pe_tup (pa_cons (pe_op opRepX pe_str (pe_op op_sub (pe_op op_add pe_int (pe_call GD hr (by rfl) gD kD bD .nil pass0 (pa_cons (pv 0) (pa_cons (pe_int) pa_nil)))) (pe_op op_mul (pv 1) (pv 2)))) pa_nil)))) (C8.pss_cut (ps_set (i := 4) scLong.nd rfl (.inl rfl) (pe_tup (pa_cons (pe_str) (pa_cons (pe_str) (pa_cons (pv 3) (pa_cons (pe_tup (pa_cons (pe_str) (pa_cons (pe_str) (pa_cons (pe_tup (pa_cons (pe_tup (pa_cons (pe_int) (pa_cons (pe_int) pa_nil))) pa_nil)) (pa_cons (pe_tup (pa_cons (pe_str) pa_nil)) pa_nil))))) pa_nil)))))) (C8.pss_cut (ps_set (i := 5) scLong.nd rfl (.inl rfl) (pe_tup (pa_cons (pe_str) (pa_cons (pe_str) (pa_cons (pe_tup (pa_cons (pe_str) pa_nil)) (pa_cons (pe_tup (pa_cons (pe_str) pa_nil)) pa_nil)))))) (pss_one (ps_ret (pe_tup (pa_cons (pe_str) (pa_cons (pe_tup (pa_cons (pe_tup (pa_cons (pe_str) (pa_cons (pe_str) pa_nil))) pa_nil)) (pa_cons (pe_tup (pa_cons (pe_tup (pa_cons (pe_tup (pa_cons (pe_op opRepX pe_str (pv 2)) pa_nil)) (pa_cons (pv 4) pa_nil))) (pa_cons (pe_tup (pa_cons (pe_tup (pa_cons (pe_str) pa_nil)) (pa_cons (pv 5) pa_nil))) (pa_cons (pe_tup (pa_cons (pe_tup (pa_cons (pe_str) pa_nil)) (pa_cons (pv 4) pa_nil))) pa_nil)))) (pa_cons (pv 4) pa_nil))))))))))), ?_⟩
    refine ⟨fun σ' H' => ∃ m y : Nat, σ' = [some (.ref a), some (.int m), some (.int y), none, none, none] ∧ 1 ≤ m ∧ m ≤ 4 ∧ 80 ≤ y ∧ y ≤ 99 ∧ Kp a H H' ∧ Fd H' a, ?_, ?_⟩
    · refine ⟨.ref a, rfl, a, 4, rfl, hF, by decide, by decide, fun r H1 r0 r1 k1 F1 => ⟨1, r, rfl, rfl, .ref a, rfl, a, 20, rfl, F1, by decide, by decide, fun r2 H2 r20 r21 k2 F2 => ⟨80, r2, rfl, rfl, _, _, rfl, ?_⟩⟩⟩
      obtain ⟨m, em⟩ : ∃ m : Nat, 1 + r = (m : Int) := ⟨(1 + r).toNat, by omega⟩
      obtain ⟨y, ey⟩ : ∃ y : Nat, 80 + r2 = (y : Int) := ⟨(80 + r2).toNat, by omega⟩
      refine ⟨m, y, ?_, by omega, by omega, by omega, by omega, k1.trans k2, F2⟩
      show ([some (V.ref a), some (V.int (1 + r)), some (V.int (80 + r2)), none, none, none] : L2.St) = _
      rw [em, ey]
    rintro _ H1 ⟨m, y, rfl, m1, m4, y1, y2, k1, F1⟩
    refine ⟨fun σ' H' => ∃ vp z, σ' = [some (.ref a), some (.int m), some (.int y), some vp, none, none] ∧ TOk z ∧ Dp K H' vp (.tuple ((longParts m z).map ptD)) ∧ Kp a H H' ∧ Fd H' a, ?_, ?_⟩
    · refine ⟨(by show 2 ≤ sizeLine; decide), fun p1 n1 => ⟨(by show 1 ≤ sizeLine; decide), fun p2 n2 => ⟨.int m, rfl, ?_⟩⟩⟩
      have s1 := sameUpd (o := .tup [.int 1, .int 0]) n1
      have d1 : Dp K (upd H1 p1 (.tup [.int 1, .int 0])) (.ref p1) (.tuple [.int 1, .int 0]) := tupAt n1 (.cons (.int 1) (.cons (.int 0) .nil))
      have s2 := sameUpd (o := .tup [.ref p1]) n2
      have e2 : SqT K (upd (upd H1 p1 (.tup [.int 1, .int 0])) p2 (.tup [.ref p1])) p2 [.ref p1] := .inl (.inl upd_same)
      have d2 := dpSame s2 _ _ d1
      have F2 := (F1.same s1).same s2
      have k2 : Kp a H1 _ := Kp.same (s1.trans s2)
      generalize upd (upd H1 p1 (.tup [.int 1, .int 0])) p2 (.tup [.ref p1]) = H2 at *
      refine ⟨p2, (m : Int), [.ref p1], rfl, rfl, e2, by simp, by omega, by omega, (by show 1 ≤ 1000; omega), fun p3 H3 s3 h3 => ?_⟩
      rw [Int.toNat_natCast] at h3
      have F3 := F2.same s3
      refine ⟨.ref a, rfl, a, 3, rfl, F3, by decide, by decide, fun r H4 r0 r1 k4 F4 => ⟨399, r, rfl, rfl, .int m, rfl, .int y, rfl, m, y, rfl, rfl, ?_, _, _, rfl, rfl, ?_⟩⟩
      · unfold CMul
        omega
      have b : 0 ≤ (m : Int) * y ∧ (m : Int) * y ≤ 396 ∧ 80 ≤ (m : Int) * y := by
        have hc : m = 1 ∨ m = 2 ∨ m = 3 ∨ m = 4 := by omega
        rcases hc with rfl | rfl | rfl | rfl <;> omega
      have tz : TOk (Txt.mul "z" (399 + r - (m : Int) * y)) := tokMul (c := 122) (by unfold SOk; decide +kernel) (by decide +kernel) (by omega) (by decide +kernel)
      refine ⟨"z", 399 + r - (m : Int) * y, rfl, rfl, by decide +kernel, by omega, by omega, (by show 1 ≤ sizeLine; decide), fun p4 n4 => ?_⟩
      generalize Txt.mul "z" (399 + r - (m : Int) * y) = z at *
      have s4 := sameUpd (o := .tup [.str z]) n4
      have F5 := F4.same s4
      have e4 : SqT K (upd H4 p4 (.tup [.str z])) p4 [.str z] := .inl (.inl upd_same)
      have t4 : TS H3 (upd H4 p4 (.tup [.str z])) := (tsKp F3 k4).trans (TS.same s4)
      have k5 : Kp a H3 (upd H4 p4 (.tup [.str z])) := k4.trans (Kp.same s4)
      generalize upd H4 p4 (.tup [.str z]) = H5 at *
      have d3 := dpTS t4 (plPt (.itm 1 0)) _ (dpSame s3 _ _ d2)
      refine catAny (TS.tup t4 h3) e4 (by simp; omega) fun p6 H6 s6 h6 => ⟨.ref p6, z, rfl, tz, ?_, ((k1.trans k2).trans (Kp.same s3)).trans (k5.trans (Kp.same s6)), F5.same s6⟩
      rw [longPts]
      exact .tup h6 (dpCat2 (repDp (dpSame s6 _ _ d3) m) (.cons (.str z) .nil))
    rintro _ H2 ⟨vp, z, rfl, tz, dp, k2, F2⟩
    have wIn : ∀ {G : Hp} {x u : V} {p : Addr}, G p = none → Dp K G x (.tuple ((longParts m z).map ptD)) → Dp K G u (trD (.wr "o" [.itm 0 0] .stop)) → Dp K (upd G p (.tup [.str "write", .str "out", x, u])) (.ref p) (trD (longIn m z)) := fun {G x u p} hp h1 h2 => by
      unfold longIn
      rw [trD]
      exact tupAt hp (.cons (.str _) (.cons (.str _) (.cons h1 (.cons h2 .nil))))
    refine ⟨fun σ' H' => ∃ vi, σ' = [some (.ref a), some (.int m), some (.int y), some vp, some vi, none] ∧ Dp K H' vi (trD (longIn m z)) ∧ Kp a H H' ∧ Fd H' a, ?_, ?_⟩
    · refine ⟨vp, rfl, (by show 2 ≤ sizeLine; decide), fun p1 n1 => ⟨(by show 1 ≤ sizeLine; decide), fun p2 n2 => ⟨(by show 1 ≤ sizeLine; decide), fun p3 n3 => ⟨(by show 4 ≤ sizeLine; decide), fun p4 n4 => ⟨(by show 4 ≤ sizeLine; decide), fun p5 n5 => ?_⟩⟩⟩⟩⟩
      have s1 := sameUpd (o := .tup [.int 0, .int 0]) n1
      have d1 : Dp K (upd H2 p1 (.tup [.int 0, .int 0])) (.ref p1) (.tuple [.int 0, .int 0]) := tupAt n1 (.cons (.int 0) (.cons (.int 0) .nil))
      generalize upd H2 p1 (.tup [.int 0, .int 0]) = G1 at *
      have s2 := sameUpd (o := .tup [.ref p1]) n2
      have d2 : Dp K (upd G1 p2 (.tup [.ref p1])) (.ref p2) (.tuple [.tuple [.int 0, .int 0]]) := tupAt n2 (.cons d1 .nil)
      generalize upd G1 p2 (.tup [.ref p1]) = G2 at *
      have s3 := sameUpd (o := .tup [.str "stop"]) n3
      have d3 : Dp K (upd G2 p3 (.tup [.str "stop"])) (.ref p3) (trD .stop) := by rw [trD]; exact tupAt n3 (.cons (.str _) .nil)
      generalize upd G2 p3 (.tup [.str "stop"]) = G3 at *
      have s4 := sameUpd (o := .tup [.str "write", .str "o", .ref p2, .ref p3]) n4
      have d4 : Dp K (upd G3 p4 (.tup [.str "write", .str "o", .ref p2, .ref p3])) (.ref p4) (trD (.wr "o" [.itm 0 0] .stop)) := by
        rw [trD]
        exact tupAt n4 (.cons (.str _) (.cons (.str _) (.cons (dpSame s3 _ _ d2) (.cons d3 .nil))))
      generalize upd G3 p4 (.tup [.str "write", .str "o", .ref p2, .ref p3]) = G4 at *
      have sA := ((s1.trans s2).trans s3).trans s4
      have s5 := sameUpd (o := .tup [.str "write", .str "out", vp, .ref p4]) n5
      exact ⟨.ref p5, rfl, wIn n5 (dpSame sA _ _ dp) d4, k2.trans (Kp.same (sA.trans s5)), F2.same (sA.trans s5)⟩
    rintro _ H3 ⟨vi, rfl, di, k3, F3⟩
    refine ⟨fun σ' H' => ∃ vf, σ' = [some (.ref a), some (.int m), some (.int y), some vp, some vi, some vf] ∧ Dp K H' vi (trD (longIn m z)) ∧ Dp K H' vf (trD longFst) ∧ Kp a H H' ∧ Fd H' a, ?_, ?_⟩
    · refine ⟨(by show 1 ≤ sizeLine; decide), fun p2 n2 => ⟨(by show 1 ≤ sizeLine; decide), fun p3 n3 => ⟨(by show 4 ≤ sizeLine; decide), fun p4 n4 => ?_⟩⟩⟩
      have s2 := sameUpd (o := .tup [.str "first"]) n2
      have d2 : Dp K (upd H3 p2 (.tup [.str "first"])) (.ref p2) (.tuple [.str "first"]) := tupAt n2 (.cons (.str _) .nil)
      generalize upd H3 p2 (.tup [.str "first"]) = G2 at *
      have s3 := sameUpd (o := .tup [.str "stop"]) n3
      have d3 : Dp K (upd G2 p3 (.tup [.str "stop"])) (.ref p3) (trD .stop) := by rw [trD]; exact tupAt n3 (.cons (.str _) .nil)
      generalize upd G2 p3 (.tup [.str "stop"]) = G3 at *
      have s4 := sameUpd (o := .tup [.str "write", .str "o", .ref p2, .ref p3]) n4
      have sA := (s2.trans s3).trans s4
      refine ⟨.ref p4, rfl, dpSame sA _ _ di, ?_, k3.trans (Kp.same sA), F3.same sA⟩
      unfold longFst
      rw [trD]
      exact tupAt n4 (.cons (.str _) (.cons (.str _) (.cons (dpSame s3 _ _ d2) (.cons d3 .nil))))
    rintro _ H4 ⟨vf, rfl, di4, df, k4, F4⟩
    have ty : TOk (Txt.mul "k" (y : Int)) := tokMul (c := 107) (by unfold SOk; decide +kernel) (by decide +kernel) (by omega) (by decide +kernel)
    refine ⟨(by show 2 ≤ sizeLine; decide), fun p1 n1 => ⟨(by show 1 ≤ sizeLine; decide), fun p2 n2 => ⟨.int y, rfl, "k", (y : Int), rfl, rfl, by decide +kernel, by omega, by omega, (by show 1 ≤ sizeLine; decide), fun p3 n3 => ⟨vi, rfl, (by show 2 ≤ sizeLine; decide), fun p4 n4 => ?_⟩⟩⟩⟩
    generalize Txt.mul "k" (y : Int) = kk at *
    have s1 := sameUpd (o := .tup [.str "a", .str "o"]) n1
    have d1 : Dp K (upd H4 p1 (.tup [.str "a", .str "o"])) (.ref p1) (.tuple [.str "a", .str "o"]) := tupAt n1 (.cons (.str _) (.cons (.str _) .nil))
    generalize upd H4 p1 (.tup [.str "a", .str "o"]) = G1 at *
    have s2 := sameUpd (o := .tup [.ref p1]) n2
    have d2 : Dp K (upd G1 p2 (.tup [.ref p1])) (.ref p2) (.tuple [.tuple [.str "a", .str "o"]]) := tupAt n2 (.cons d1 .nil)
    generalize upd G1 p2 (.tup [.ref p1]) = G2 at *
    have s3 := sameUpd (o := .tup [.str kk]) n3
    have d3 : Dp K (upd G2 p3 (.tup [.str kk])) (.ref p3) (.tuple [.str kk]) := tupAt n3 (.cons (.str _) .nil)
    generalize upd G2 p3 (.tup [.str kk]) = G3 at *
    have s13 := (s1.trans s2).trans s3
    have s4 := sameUpd (o := .tup [.ref p3, vi]) n4
    have d4 : Dp K (upd G3 p4 (.tup [.ref p3, vi])) (.ref p4) (.tuple [rowD [some kk], trD (longIn m z)]) := tupAt n4 (.cons d3 (.cons (dpSame s13 _ _ di4) .nil))
    generalize upd G3 p4 (.tup [.ref p3, vi]) = G4 at *
    have s14 := s13.trans s4
    refine ⟨(by show 1 ≤ sizeLine; decide), fun p5 n5 => ⟨vf, rfl, (by show 2 ≤ sizeLine; decide), fun p6 n6 => ?_⟩⟩
    have s5 := sameUpd (o := .tup [.str "1"]) n5
    have d5 : Dp K (upd G4 p5 (.tup [.str "1"])) (.ref p5) (.tuple [.str "1"]) := tupAt n5 (.cons (.str _) .nil)
    generalize upd G4 p5 (.tup [.str "1"]) = G5 at *
    have s6 := sameUpd (o := .tup [.ref p5, vf]) n6
    have d6 : Dp K (upd G5 p6 (.tup [.ref p5, vf])) (.ref p6) (.tuple [rowD [some "1"], trD longFst]) := tupAt n6 (.cons d5 (.cons (dpSame (s14.trans s5) _ _ df) .nil))
    generalize upd G5 p6 (.tup [.ref p5, vf]) = G6 at *
    have s16 := (s14.trans s5).trans s6
    refine ⟨(by show 1 ≤ sizeLine; decide), fun p7 n7 => ⟨vi, rfl, (by show 2 ≤ sizeLine; decide), fun p8 n8 => ?_⟩⟩
    have s7 := sameUpd (o := .tup [.str "1"]) n7
    have d7 : Dp K (upd G6 p7 (.tup [.str "1"])) (.ref p7) (.tuple [.str "1"]) := tupAt n7 (.cons (.str _) .nil)
    generalize upd G6 p7 (.tup [.str "1"]) = G7 at *
    have s8 := sameUpd (o := .tup [.ref p7, vi]) n8
    have d8 : Dp K (upd G7 p8 (.tup [.ref p7, vi])) (.ref p8) (.tuple [rowD [some "1"], trD (longIn m z)]) := tupAt n8 (.cons d7 (.cons (dpSame (s16.trans s7) _ _ di4) .nil))
    generalize upd G7 p8 (.tup [.ref p7, vi]) = G8 at *
    have s18 := (s16.trans s7).trans s8
    refine ⟨(by show 3 ≤ sizeLine; decide), fun p9 n9 => ⟨vi, rfl, (by show 4 ≤ sizeLine; decide), fun p10 n10 => ?_⟩⟩
    have s9 := sameUpd (o := .tup [.ref p4, .ref p6, .ref p8]) n9
    have d9 : Dp K (upd G8 p9 (.tup [.ref p4, .ref p6, .ref p8])) (.ref p9) (.tuple [.tuple [rowD [some kk], trD (longIn m z)], .tuple [rowD [some "1"], trD longFst], .tuple [rowD [some "1"], trD (longIn m z)]]) :=
      tupAt n9 (.cons (dpSame ((((s5.trans s6).trans s7).trans s8)) _ _ d4) (.cons (dpSame (s7.trans s8) _ _ d6) (.cons d8 .nil)))
    have sX : Same G2 (upd G8 p9 (.tup [.ref p4, .ref p6, .ref p8])) := ((((((s3.trans s4).trans s5).trans s6).trans s7).trans s8)).trans s9
    have s19 := s18.trans s9
    generalize upd G8 p9 (.tup [.ref p4, .ref p6, .ref p8]) = G9 at *
    have s10 := sameUpd (o := .tup [.str "read", .ref p2, .ref p9, vi]) n10
    refine q _ (longT m z kk) _ ?_ (longGood m4 tz ty) (k4.trans (Kp.same (s19.trans s10))) (F4.same (s19.trans s10))
    unfold longT
    rw [trD]
    exact tupAt n10 (.cons (.str _) (.cons (dpSame sX _ _ d2) (.cons d9 (.cons (dpSame s19 _ _ di4) .nil))))
end
end TRE

set_option Elab.async false
set_option linter.all false
set_option maxRecDepth 100000
set_option maxHeartbeats 4000000
/-! C() without an own __init__; x == y by an own __eq__ that answers either way -/
namespace OW
open PySem PySem.Spec PyProof.Rows L2
structure Bare (K : PySem.W.Frag) (C : Addr) : Prop where
  makes : PySem.W.makesIn K C = true
  init : PySem.W.findIn K (.ref C) "__init__" = some (some (.builtin "object.__init__"))
  top : PySem.W.mroIn K C (.type "object") = some true
  kp : PySem.W.keepIn K (.ref C) = true
def tBare (C : Addr) : TE := fun _ H Q => ∀ x dx, H x = none → H dx = none → dx ≠ x → Q (.ref x) (upd (upd H dx (.own x)) x (.ins C dx []))
section
variable {X : Cx} {C : Addr} {x : Str} {p pos : Pos}
theorem pe_bare (M : Bare X.K C) (hg : Gl X x) (hm : X.mg x = some (.ref C)) (hdb : (x == ("__debug__" : Str)) = false := by decide) : PE X (.Call (.Name x p) [] [] pos) (tBare C) := by
  refine ⟨fun pins s σ H Q I h => ?_⟩
  refine wpAny_Call_Name_kw (ld_glob I hg hm ?_ hdb)
  refine PySem.W.callWith_K0 I.kIn M.kp ?_
  refine wpAny_call (make_map0 I.kIn M.makes M.init (fun self => PySem.W.Looks.of_pure (PySem.W.oi_bind _)) ?_)
  have I2 := Inv.made (C := C) I
  have ho : ((s.heap.push PySem.W.emptyDict).push (PySem.W.instObj C s.heap.objs.size)).get? (s.heap.objs.size + 1) = some (PySem.W.instObj C s.heap.objs.size) := by
    have := Heap.get?_push_size (s.heap.push PySem.W.emptyDict) (o := PySem.W.instObj C s.heap.objs.size) rfl
    rwa [Heap.size_push] at this
  have t2 : PySem.W.Looks (model X.prog X.w) _ (isInstance (.ref (s.heap.objs.size + 1)) (.type "object")) true := (NwA.type_at ho rfl).andThen (PySem.W.looks_mroIn I2.kIn M.top)
  refine codeAny_call_builtin PySem.W.oi_plain PySem.W.entry_oi (@PySem.W.check_slot (model X.prog X.w) _ _ _ "object.__init__" "object" "__init__" (.ref (s.heap.objs.size + 1)) [] [] _ PySem.W.oi_kind PySem.W.oi_split t2 (NwA.oi_args_any _ _ _) ?_)
  rw [PySem.W.oi_run]
  exact wpAny_pure ⟨rfl, V.ref (s.heap.objs.size + 1), _, I2, rfl, h _ _ (I.hok.fresh (Nat.le_succ _)) (I.hok.fresh (Nat.le_refl _)) (Nat.ne_of_lt (Nat.lt_succ_self _))⟩
/-! ### == -/
def rEqOwn (K : PySem.W.Frag) (C : Addr) (sp : Sp) (E : XK) : R2 := fun x y H Q => ∃ a b dx fs, x = .ref a ∧ y = .ref b ∧ H a = some (.ins C dx fs) ∧ ((∃ dy gs, H b = some (.ins C dy gs)) ∨ ∃ ys, SqT K H b ys) ∧ sp [x, y] H (fun v H' => ∃ c, v = .bl c ∧ Q v H') E
theorem op_eqOwn {CX : CXT} {n : Nat} {f : Addr} {fd : FuncData} {ps : List Str} {sp : Sp} {E : XK} (F : FnOk X.prog X.w X.K X.mg X.base CX n f fd ps sp) (hr : Room n X.A)
    (hs : PySem.W.findIn X.K (.ref C) "__eq__" = some (some (.ref f))) (hf : PySem.W.isFn X.K (.ref f) = true) (hb : Binds X.K fd ps []) (hx : Passes CX X E) (hT : PySem.W.subIn X.K (.type "tuple") (.ref C) = some false) : OpR X (compareOp .Eq) (rEqOwn X.K C sp E) := by
  intro pins s σ H x y v u Q I rx ry h
  obtain ⟨a, b, dx, fs, rfl, rfl, ha, hy, hsp⟩ := h
  cases rx
  cases ry
  obtain ⟨mA, J, _⟩ := ins_get I.hok ha
  obtain ⟨od, J, _⟩ := J.look
  obtain ⟨m, hF⟩ := I.fr
  show wpAny (model X.prog X.w) X.A (richCompare .Eq (.ref a) (.ref b)) (EP X pins σ Q) X.xe s
  have go : ∀ {tb : Value}, PySem.W.Looks (model X.prog X.w) s.heap (typeOf (.ref b)) tb → PySem.W.notFirst X.K C tb = true → wpAny (model X.prog X.w) X.A (richCompare .Eq (.ref a) (.ref b)) (EP X pins σ Q) X.xe s := fun {tb} lk nf => by
    refine PySem.W.cmp_K (op := .Eq) (tb := tb) hr.units0 hF I.ok.mod.kin J lk nf hs hf ?_
    have hl := F.len _ _ _ _ hsp
    have r2 : Vals [V.ref a, V.ref b] [Value.ref a, Value.ref b] := .cons rfl (.cons rfl .nil)
    refine wpAny_call (codeAny_mono (F.run X.A X.stack s H ⟨[.ref a, .ref b], []⟩ [.ref a, .ref b] [.ref a, .ref b] _ E hr I.env0 (by
      have := hb s [.ref a, .ref b] I.kIn (by simpa using hl)
      simpa using this) r2 hsp) fun r s' hq => ?_)
    cases r with
    | error e => exact hx pins σ H s e s' I hq
    | ok fl =>
      cases fl with
      | ret w =>
        obtain ⟨z, H', I', rz, c, ez, q⟩ := I.after hq
        subst ez
        cases rz
        exact ⟨.bl c, H', I', rfl, q⟩
      | next => exact False.elim hq
      | brk => exact False.elim hq
      | cont => exact False.elim hq
  rcases hy with ⟨dy, gs, hb'⟩ | ⟨ys, hT2⟩
  · obtain ⟨mB, J', _⟩ := ins_get I.hok hb'
    obtain ⟨od', J', _⟩ := J'.look
    exact go J'.type (by simp [PySem.W.notFirst])
  · obtain ⟨its, r, ⟨o, ho, hc, _⟩, _⟩ := I.tuple hT2
    exact go (tb := .type "tuple") ((PySem.W.Looks.ld ho).andThen (by rw [hc]; exact .now)) (by simp [PySem.W.notFirst, hT])
end
end OW

set_option Elab.async false
set_option linter.all false
set_option maxRecDepth 100000
set_option maxHeartbeats 4000000
/-! the classes: Recipe, TreeRecipe -/
namespace TRE
open PySem PySem.Spec PyProof.Rows L2 ND KS KS.La PLC
abbrev sInit : Stmt := inClass (top 17) 0
abbrev sEqM : Stmt := inClass (top 17) 1
abbrev sNodeP : Stmt := inClass (top 17) 2
abbrev sStopAt : Stmt := inClass (top 16) 0
abbrev FnM (K : PySem.W.Frag) (x q : Str) (st : Stmt) (f : Addr) (fd : FuncData) : Prop := FunD K x q (defArgs st) (defBody st) (defScope st) [] [] f fd
def spInit0 (K : PySem.W.Frag) (C : Addr) : Sp := fun vs H Q _ => ∃ x dx v t, vs = [.ref x, v] ∧ H x = some (.ins C dx []) ∧ Dp K H v (trD t) ∧ goodT t ∧ ∀ H', (∀ b o, b ≠ x → H b = some o → H' b = some o) → H' x = some (.ins C dx [("_node", v)]) → Q .non H'
def spTEq (K : PySem.W.Frag) (C : Addr) : Sp := fun vs H Q _ => ∃ a dx v d1 y, vs = [.ref a, y] ∧ H a = some (.ins C dx [("_node", v)]) ∧ Dp K H v d1 ∧ SeqAt.shaped d1 = true ∧
  ((∃ b dy v2 d2, y = .ref b ∧ H b = some (.ins C dy [("_node", v2)]) ∧ Dp K H v2 d2 ∧ SeqAt.shaped d2 = true ∧ Q (.bl (PyData.eqv d1 d2)) H) ∨ ∃ d2, Dp K H y (.tuple d2) ∧ Q (.bl false) H)
theorem ffGood {t : Tr} (h : goodT t) : ff 50 [] [] (trD t) = none := by
  obtain ⟨⟨zs, hz, tz⟩, od⟩ := h
  exact zFF (fun z hz2 => ⟨hz z hz2, by simp⟩) od tz
/-- a class's instances in isinstance -/
structure IsC (K : PySem.W.Frag) (C : Addr) : Prop where
  cl : Cls K C
  ha : PySem.W.findIn K (.ref C) "__class__" = some (some (.builtin "object.__class__"))
  hn : PySem.W.specialIn K (.builtin "object.__class__") "__get__" = some (some (.builtin "getset_descriptor.__get__"))
  ht : PySem.W.takesIn K (.builtin "object.__class__") = some true
  hm : PySem.W.mroIn K C (.type "object") = some true
section
variable {P : Program} {w : World} {K : PySem.W.Frag} {mg : Str → Option Value} {base : Heap} {f : Addr} {fd : FuncData}
theorem scInit : FnScope ["self", "node"] ["self", "node"] (defScope sInit) := ⟨rfl, rfl, rfl, by decide +kernel, rfl, by decide +kernel, by decide +kernel⟩
theorem okInit0 {k : Nat} {C : Addr} (F : FnM K "__init__" "TreeRecipe.__init__" sInit f fd) (cl : Cls K C) (nf : NoAttr K C "_node") (Ck : Has P w K mg base (k + 1) "_check_tree" ["top"] (spCheck0 K 50)) : FnOk P w K mg base CX0 (k + 2) f fd ["self", "node"] (spInit0 K C) := by
  obtain ⟨fC, fdC, gC, kC, bC, GC⟩ := Ck.ex
  refine F.ok scInit (fun vs H Q E h => ?_) (fun cdv A outer s H vs Q E hr h => ?_)
  · obtain ⟨x, dx, v, t, rfl, _⟩ := h
    rfl
  · obtain ⟨x, dx, v, t, rfl, hx, hd, g, q⟩ := h
    refine ⟨_, PSs.nox (pss_cons (ps_expr (pe_call GC hr (by rfl) gC kC bC .nil pass0 (pa_cons (pv 1) pa_nil))) (pss_one (ps_fld (pv 0) (pv 1) rfl))), ?_⟩
    refine ⟨v, rfl, v, trD t, rfl, hd, g.2, ffGood g, fun H' s' => ?_⟩
    refine ⟨v, rfl, .ref x, rfl, x, C, dx, [], rfl, s' _ _ hx, cl, nf, by decide, ?_⟩
    refine q _ (fun b o ne hb => ?_) upd_same
    rw [upd_ne ne]
    exact s' _ _ hb
theorem scNodeP : FnScope ["self"] ["self"] (defScope sNodeP) := ⟨rfl, rfl, rfl, by decide +kernel, rfl, by decide +kernel, by decide +kernel⟩
theorem okNodeP {k : Nat} {C : Addr} (F : FnM K "node" "TreeRecipe.node" sNodeP f fd) (cl : Cls K C) (nf : NoAttr K C "_node") : FnOk P w K mg base CX0 (k + 1) f fd ["self"] (getSp C "_node") := by
  refine F.ok scNodeP (fun vs H Q E h => ?_) (fun cdv A outer s H vs Q E hr h => ?_)
  · obtain ⟨a, dx, fs, v, rfl, _⟩ := h
    rfl
  · obtain ⟨a, dx, fs, v, rfl, ha, hl, q⟩ := h
    exact ⟨_, PSs.nox (pss_one (ps_ret (pe_fld (pv 0) rfl))), .ref a, rfl, a, C, dx, fs, v, rfl, ha, cl, nf, hl, q⟩
theorem scEqM : FnScope ["self", "other"] ["self", "other"] (defScope sEqM) := ⟨rfl, rfl, rfl, by decide +kernel, rfl, by decide +kernel, by decide +kernel⟩
theorem okEqM {k : Nat} {C : Addr} (F : FnM K "__eq__" "TreeRecipe.__eq__" sEqM f fd) (B : Bn mg) (gC : mg "TreeRecipe" = some (.ref C)) (ic : IsC K C) (nf : NoAttr K C "_node") (k1 : PySem.W.kitOne K (.ref C) (.ref C) = some true) (k2 : PySem.W.kitOne K (.type "tuple") (.ref C) = some false) :
    FnOk P w K mg base CX0 (k + 1) f fd ["self", "other"] (spTEq K C) := by
  refine F.ok scEqM (fun vs H Q E h => ?_) (fun cdv A outer s H vs Q E hr h => ?_)
  · obtain ⟨a, dx, v, d1, y, rfl, _⟩ := h
    rfl
  · obtain ⟨a, dx, v, d1, y, rfl, ha, hd, sd, h⟩ := h
    refine ⟨_, PSs.nox (pss_one (ps_ret (pe_and (pe_callB call_isi (by rfl) B.isi (by decide +kernel) (pa_cons (pv 1) (pa_cons (pe_glob (v := .ref C) (by rfl) gC rfl) pa_nil))) (pe_one (pe_cmpR (r := rEqD K) (op_eqD hr.units) (pe_fld (pv 0) rfl) (pe_fld (pv 1) rfl) (nomark _)))))), ?_⟩
    rcases h with ⟨b, dy, v2, d2, rfl, hb, hd2, sd2, q⟩ | ⟨d2, hd2, q⟩
    · refine ⟨.ref b, rfl, .ref b, .ref C, .ref C, .ref C, true, rfl, .own C, .base (.ins hb ic.cl ic.ha ic.hn ic.ht ic.hm), k1, true, rfl, iteT ?_⟩
      exact ⟨.ref a, rfl, a, C, dx, _, v, rfl, ha, ic.cl, nf, rfl, .ref b, rfl, b, C, dy, _, v2, rfl, hb, ic.cl, nf, rfl, d1, d2, hd, hd2, sd, sd2, q⟩
    · refine ⟨y, rfl, y, .ref C, _, .ref C, false, rfl, .own C, dpTy hd2, k2, false, rfl, iteF q⟩
def spStop (K : PySem.W.Frag) (S : Addr) : Sp := fun vs H Q _ => ∃ x y z u, vs = [x, y, z, u] ∧ Q (.ref S) H
theorem scStopAt : FnScope ["self", "arguments", "answers", "count"] ["self", "arguments", "answers", "count"] (defScope sStopAt) := ⟨rfl, rfl, rfl, by decide +kernel, rfl, by decide +kernel, by decide +kernel⟩
theorem okStopAt {k : Nat} {S : Addr} (F : FnM K "step_at" "Recipe.step_at" sStopAt f fd) (gS : mg "STOP" = some (.ref S)) : FnOk P w K mg base CX0 (k + 1) f fd ["self", "arguments", "answers", "count"] (spStop K S) := by
  refine F.ok scStopAt (fun vs H Q E h => ?_) (fun cdv A outer s H vs Q E hr h => ?_)
  · obtain ⟨x, y, z, u, rfl, _⟩ := h
    rfl
  · obtain ⟨x, y, z, u, rfl, q⟩ := h
    exact ⟨_, PSs.nox (pss_one (ps_ret (pe_glob (v := .ref S) (by rfl) gS rfl))), q⟩
end
end TRE

set_option Elab.async false
set_option linter.all false
set_option maxRecDepth 100000
set_option maxHeartbeats 8000000
/-! the recipes and what is made of them; the law's facts -/
namespace TRE
open PySem PySem.Spec PyProof.Rows L2 ND KS KS.La PLC
abbrev lLaw : Stmt := top 50
def spLaw (K : PySem.W.Frag) : Sp := fun vs H Q _ => ∃ (a : Addr) (ns : List Int), vs = [.ref a] ∧ SqL K H a (ns.map V.int) ∧ ns.length ≤ 63 ∧ ∀ H', Q (.bl true) H'
/-- the recipes, the objects made of them, and what they are -/
inductive RM (K : PySem.W.Frag) (C : Addr) (H : Hp) : List (Key × V) → List (Key × V) → List (Str × Tr) → Prop
  | nil : RM K C H [] [] []
  | cons {z : Str} {v v2 : V} {x dx : Addr} {t : Tr} {kvs mvs : List (Key × V)} {L : List (Str × Tr)} (h : Dp K H v (trD t)) (hx : H x = some (.ins C dx [("_node", v2)])) (h2 : Dp K H v2 (trD t)) (r : RM K C H kvs mvs L) : RM K C H ((.inr z, v) :: kvs) ((.inr z, .ref x) :: mvs) ((z, t) :: L)
theorem RM.kp {K : PySem.W.Frag} {C a : Addr} {H H' : Hp} (hF : Fd H a) (k : Kp a H H') {kvs mvs : List (Key × V)} {L : List (Str × Tr)} (h : RM K C H kvs mvs L) : RM K C H' kvs mvs L := by
  induction h with
  | nil => exact .nil
  | cons h hx h2 _ ih =>
    refine .cons (trTS (tsKp hF k) _ _ h) (k _ _ (fun z => ?_) hx) (trTS (tsKp hF k) _ _ h2) ih
    obtain ⟨u, v, e, _⟩ := hF
    rw [z, e] at hx
    cases hx
/-- all but the dict of recipes stands -/
theorem RM.but {K : PySem.W.Frag} {C R : Addr} {H H' : Hp} (t : TS H H') (k : ∀ b o, b ≠ R → H b = some o → H' b = some o) (hR : ∀ D dx fs, H R ≠ some (.ins D dx fs)) {kvs mvs : List (Key × V)} {L : List (Str × Tr)} (h : RM K C H kvs mvs L) : RM K C H' kvs mvs L := by
  induction h with
  | nil => exact .nil
  | cons h hx h2 _ ih => exact .cons (trTS t _ _ h) (k _ _ (fun z => hR _ _ _ (z ▸ hx)) hx) (trTS t _ _ h2) ih
theorem RM.snoc {K : PySem.W.Frag} {C : Addr} {H : Hp} {kvs mvs : List (Key × V)} {L : List (Str × Tr)} {z : Str} {v v2 : V} {x dx : Addr} {t : Tr} (h : RM K C H kvs mvs L) (hv : Dp K H v (trD t)) (hx : H x = some (.ins C dx [("_node", v2)])) (h2 : Dp K H v2 (trD t)) :
    RM K C H (kvs ++ [(.inr z, v)]) (mvs ++ [(.inr z, .ref x)]) (L ++ [(z, t)]) := by
  induction h with
  | nil => exact .cons hv hx h2 .nil
  | cons h hx h2 _ ih => exact .cons h hx h2 ih
theorem RM.names {K : PySem.W.Frag} {C : Addr} {H : Hp} {kvs mvs : List (Key × V)} {L : List (Str × Tr)} (h : RM K C H kvs mvs L) : kvs.map (fun p => kV p.1) = (L.map (·.1)).map V.str ∧ mvs.map (·.1) = kvs.map (·.1) ∧ kvs.length = L.length ∧ kvs.map (·.1) = (L.map (·.1)).map Sum.inr := by
  induction h with
  | nil => exact ⟨rfl, rfl, rfl, rfl⟩
  | cons _ _ _ _ ih =>
    obtain ⟨a, b, c, d⟩ := ih
    refine ⟨?_, ?_, ?_, ?_⟩
    · rw [List.map_cons, List.map_cons, List.map_cons, a]
      rfl
    · rw [List.map_cons, List.map_cons, b]
    · rw [List.length_cons, List.length_cons, c]
    · rw [List.map_cons, List.map_cons, List.map_cons, d]
theorem RM.get {K : PySem.W.Frag} {C : Addr} {H : Hp} {kvs mvs : List (Key × V)} {L : List (Str × Tr)} {z : Str} (h : RM K C H kvs mvs L) (hz : z ∈ L.map (·.1)) :
    ∃ v t x dx v2, valV kvs (.inr z) = some v ∧ valV mvs (.inr z) = some (.ref x) ∧ Dp K H v (trD t) ∧ H x = some (.ins C dx [("_node", v2)]) ∧ Dp K H v2 (trD t) ∧ (z, t) ∈ L := by
  induction h with
  | nil => exact absurd hz (by simp)
  | @cons y v v2 x dx t kvs mvs L h hx h2 _ ih =>
    by_cases e : y = z
    · subst e
      exact ⟨v, t, x, dx, v2, valV_pos rfl, valV_pos rfl, h, hx, h2, List.mem_cons_self⟩
    · rw [valV_neg fun e2 => e (Sum.inr.inj e2), valV_neg fun e2 => e (Sum.inr.inj e2)]
      have : z ∈ L.map (·.1) := by
        rcases List.mem_cons.mp hz with y2 | y2
        · exact absurd y2.symm e
        · exact y2
      obtain ⟨v', t', x', dx', v2', a, b, c, d, e', f⟩ := ih this
      exact ⟨v', t', x', dx', v2', a, b, c, d, e', List.mem_cons_of_mem _ f⟩
theorem RK.atK {K : PySem.W.Frag} {H : Hp} {kvs : List (Key × V)} {L : List (Str × Tr)} (h : RK K H kvs L) : ∀ {i : Nat} {k : Key} {v : V}, kvs[i]? = Option.some (k, v) → ∃ z t, k = .inr z ∧ L[i]? = Option.some (z, t) ∧ Dp K H v (trD t) := by
  induction h with
  | nil => intro i k v e; simp at e
  | cons h _ ih =>
    intro i k v e
    cases i with
    | zero =>
      have e2 := Option.some.inj e
      injection e2 with e3 e4
      subst e3 e4
      exact ⟨_, _, rfl, rfl, h⟩
    | succ i => exact ih (by simpa using e)
theorem onlyOne {L : List (Str × Tr)} (h : (L.map (·.1)).Nodup) {z : Str} {t u : Tr} (h1 : (z, t) ∈ L) (h2 : (z, u) ∈ L) : t = u := by
  induction L with
  | nil => exact absurd h1 (by simp)
  | cons p L ih =>
    rw [List.map_cons, List.nodup_cons] at h
    rcases List.mem_cons.mp h1 with e1 | e1 <;> rcases List.mem_cons.mp h2 with e2 | e2
    · have := e1.trans e2.symm
      injection this
    · exact absurd (List.mem_map_of_mem (f := (·.1)) e2) (by rw [← e1] at h; exact h.1)
    · exact absurd (List.mem_map_of_mem (f := (·.1)) e1) (by rw [← e2] at h; exact h.1)
    · exact ih h.2 e1 e2
theorem mergeAll : ∀ (l acc : List (Key × V)), ((acc ++ l).map (·.1)).Nodup → mergeK acc l = acc ++ l
  | [], acc, _ => by rw [List.append_nil]; rfl
  | p :: l, acc, h => by
    have hn : valV acc p.1 = none := by
      unfold valV
      rw [Option.map_eq_none_iff, List.find?_eq_none]
      intro q hq e
      rw [List.map_append, List.map_cons, List.nodup_append] at h
      exact h.2.2 q.1 (List.mem_map_of_mem hq) p.1 List.mem_cons_self (of_decide_eq_true e)
    show mergeK (putK acc p.1 p.2) l = _
    rw [putNew hn, mergeAll l (acc ++ [(p.1, p.2)]) (by rw [List.append_assoc]; exact h), List.append_assoc]
    rfl
theorem odDown {n : Nat} : ∀ {c : Nat} {t : Tr}, Od n (trD t) → CanD t c → c ≤ n
  | 0, _, _, _ => Nat.zero_le _
  | c + 1, .wr o ps m, h, k => by
    rw [trD] at h
    cases h with
    | @tup n _ _ h2 => exact Nat.succ_le_succ (odDown (c := c) (h2 (trD m) (by simp)) k)
  | c + 1, .stop, _, k => k.elim
  | c + 1, .rd _ _ _, _, k => k.elim
theorem odDownT {n : Nat} : ∀ {c : Nat} {t : Tr}, Od n (trD t) → Od n (trD (down t c))
  | 0, t, h => by cases t <;> exact h
  | c + 1, .wr o ps m, h => odDownT (c := c) (odWr h)
  | c + 1, .stop, h => h
  | c + 1, .rd _ _ _, h => h
theorem dpRev {K : PySem.W.Frag} {H : Hp} : ∀ {xs : List V} {ds : List PyData}, DpAll K H xs ds → DpAll K H xs.reverse ds.reverse
  | _, _, .nil => .nil
  | _, _, .cons h r => by
    rw [List.reverse_cons, List.reverse_cons]
    exact dpSnoc h (dpRev r)
theorem RM.rk {K : PySem.W.Frag} {C : Addr} {H : Hp} {kvs mvs : List (Key × V)} {L : List (Str × Tr)} (h : RM K C H kvs mvs L) : RK K H kvs L := by
  induction h with
  | nil => exact .nil
  | cons h _ _ _ ih => exact .cons h ih
theorem trTup (t : Tr) : ∃ ds, trD t = .tuple ds := by
  cases t <;> (rw [trD]; exact ⟨_, rfl⟩)
theorem longNew : ("long" : Str) ∉ callsL ∧ TOk "long" := by unfold callsL; decide +kernel
/-- the classes -/
structure W4 (P : Program) (w : World) (K : PySem.W.Frag) (mg : Str → Option Value) (base : Heap) (m : Nat) (C CR S : Addr) : Prop where
  gT : mg "TreeRecipe" = some (.ref C)
  gR : mg "Recipe" = some (.ref CR)
  ic : IsC K C
  clR : Cls K CR
  bare : OW.Bare K CR
  ini : ∃ (f : Addr) (fd : FuncData), Mk K C f ∧ Binds K fd ["self", "node"] [] ∧ FnOk P w K mg base CX0 m f fd ["self", "node"] (spInit0 K C)
  prop : ∃ (p g : Addr) (fd : FuncData), PropOf K C "node" p g ∧ Binds K fd ["self"] [] ∧ FnOk P w K mg base CX0 1 g fd ["self"] (getSp C "_node")
  sa : ∃ (f : Addr) (fd : FuncData), Meth K C "step_at" f ∧ Binds K fd ["self", "arguments", "answers", "count"] [] ∧ FnOk P w K mg base CX0 (m + 1) f fd ["self", "arguments", "answers", "count"] (spStepAt K C)
  st : ∃ (f : Addr) (fd : FuncData), Meth K CR "step_at" f ∧ Binds K fd ["self", "arguments", "answers", "count"] [] ∧ FnOk P w K mg base CX0 (m + 1) f fd ["self", "arguments", "answers", "count"] (spStop K S)
  eq : ∃ (f : Addr) (fd : FuncData), PySem.W.findIn K (.ref C) "__eq__" = some (some (.ref f)) ∧ PySem.W.isFn K (.ref f) = true ∧ Binds K fd ["self", "other"] [] ∧ FnOk P w K mg base CX0 (m + 1) f fd ["self", "other"] (spTEq K C)
  sub : PySem.W.subIn K (.type "tuple") (.ref C) = some false
  kit : PySem.W.kitOne K (.ref C) (.ref CR) = some true
  hS : ∀ H, SqT K H S [.str "stop"]
abbrev stt (s : Addr) (x1 x2 x3 x4 x5 x6 x7 x8 x9 x10 x11 x12 x13 : Option V) : L2.St := [some (.ref s), x1, x2, x3, x4, x5, x6, x7, x8, x9, x10, x11, x12, x13]
abbrev nLaw : List Str := ["_law_script", "_law_k", "_law_feed", "_law_recipes", "_law_targets", "_law_made", "_law_call", "_law_arguments", "_law_places", "_law_place", "_law_found", "_law_other", "_law_is_same", "_law_turn"]
theorem scLaw : FnScope nLaw ["_law_script"] (defScope lLaw) := ⟨rfl, rfl, rfl, by decide +kernel, rfl, by decide +kernel, by decide +kernel⟩
end TRE

set_option Elab.async false
set_option linter.all false
set_option maxRecDepth 100000
set_option maxHeartbeats 16000000
/-! the law -/
namespace TRE
open PySem PySem.Spec PyProof.Rows L2 ND KS KS.La PLC
section
variable {P : Program} {w : World} {K : PySem.W.Frag} {mg : Str → Option Value} {base : Heap} {f : Addr} {fd : FuncData}
theorem okLaw {m : Nat} {C CR S : Addr} (hm1 : 1 ≤ m) (F : FnP K "law" lLaw f fd) (B : Bn mg) (md : mg "dict" = none) (W : W4 P w K mg base m C CR S) (Fe : Has P w K mg base (m + 1) "_law_feed_of" ["_law_script", "_law_k"] (spFeed K)) (Dr : Has P w K mg base (m + 1) "_law_draw" ["_law_feed", "_law_many"] spDraw)
    (Wo : ∃ (f : Addr) (fd : FuncData) (ds : List Value), mg "_law_world" = some (.ref f) ∧ PySem.W.keepIn K (.ref f) = true ∧ Vals [V.bl false] ds ∧ Binds K fd ["_law_feed", "_law_many", "_law_has_knots"] ds ∧ FnOk P w K mg base CX0 (m + 1) f fd ["_law_feed", "_law_many", "_law_has_knots"] (spWorld K))
    (Lo : Has P w K mg base (m + 1) "_law_long" ["_law_feed"] (spLong K)) (Mx : Has P w K mg base (m + 1) "_law_mixed" ["_law_feed", "_law_items"] (spMixG K PyData.str)) (Tx : Has P w K mg base (m + 1) "_law_some_text" ["_law_feed"] spText)
    (Ru : Has P w K mg base (m + 1) "_law_run" ["_law_feed", "_law_recipes", "_law_call", "_law_arguments"] (spRun K)) (Ls : Has P w K mg base (m + 1) "_law_step_at" ["_law_recipes", "_law_place"] (spLStep K)) (Sm : Has P w K mg base (m + 1) "_law_same" ["_law_found", "_law_due"] (spSame K 58)) :
    FnOk P w K mg base CX0 (m + 2) f fd ["_law_script"] (spLaw K) := by
  obtain ⟨f1, d1, g1, k1, b1, G1⟩ := Fe.ex
  obtain ⟨f2, d2, g2, k2, b2, G2⟩ := Dr.ex
  obtain ⟨fW, dW, dsW, gW, kW, vW, bW, GW⟩ := Wo
  obtain ⟨fL, dL, gL, kL, bL, GL⟩ := Lo.ex
  obtain ⟨fM, dM, gM, kM, bM, GM⟩ := Mx.ex
  obtain ⟨fX, dX, gX, kX, bX, GX⟩ := Tx.ex
  obtain ⟨fR, dR, gR, kR, bR, GR⟩ := Ru.ex
  obtain ⟨fS, dS, gS, kS, bS, GS⟩ := Ls.ex
  obtain ⟨fE, dE, gE, kE, bE, GE⟩ := Sm.ex
  obtain ⟨fI, dI, MI, bI, GI⟩ := W.ini
  obtain ⟨pN, fN, dN, hpN, bN, GN⟩ := W.prop
  obtain ⟨fA, dA, hA, bA, GA⟩ := W.sa
  obtain ⟨fT, dT, hT, bT, GT⟩ := W.st
  obtain ⟨fQ, dQ, sQ, iQ, bQ, GQ⟩ := W.eq
  refine F.ok scLaw (fun vs H Q E h => ?_) (fun cdv A outer s H vs Q E hr h => ?_)
  · obtain ⟨a, ns, rfl, _⟩ := h
    rfl
  · obtain ⟨sc, ns, rfl, hSc, hlen, q⟩ := h
    have hu1 : (A.deeper (envOfC "law" (defScope lLaw) s.heap.objs.size f cdv)).units + 1 < cLine := by
      have := hr.units
      omega
    have hr2 : Room (1 + 1) _ := hr.mono (by omega)
    refine ⟨_, PSs.nox (C8.pss_cut (ps_for PassesOwn.never rfl (pi_range1 (by rfl) B.range (pa_cons (pe_callB (call_max2 rfl) (by rfl) B.max (by decide +kernel) (pa_cons (pe_int) (pa_cons (pe_callB (call_min2 rfl) (by rfl) B.min (by decide +kernel) (pa_cons (pe_int) (pa_cons (pe_callB call_len_seq (by rfl) B.len PySem.boot_len (pa_cons (pv 0) pa_nil)) pa_nil))) pa_nil))) pa_nil)) (pg_name (i := 1) scLaw.nd rfl (.inl rfl))
      (C8.pss_cut (ps_set (i := 2) scLaw.nd rfl (.inr rfl) (pe_call G1 hr (by rfl) g1 k1 b1 .nil pass0 (pa_cons (pv 0) (pa_cons (pv 1) pa_nil)))) (C8.pss_cut (ps_asg (pe_call GW hr (by rfl) gW kW bW vW pass0 (pa_cons (pv 2) (pa_cons (pe_op op_add pe_int (pe_call G2 hr (by rfl) g2 k2 b2 .nil pass0 (pa_cons (pv 2) (pa_cons (pe_int) pa_nil)))) pa_nil))) (pg_tup rfl (pgs_cons (pg_name (i := 3) scLaw.nd rfl (.inr rfl)) (pgs_cons (pg_name (i := 4) scLaw.nd rfl (.inl rfl)) pgs_nil)))) (C8.pss_cut (ps_dput hu1 (pv 3) pe_str (pe_call GL hr (by rfl) gL kL bL .nil pass0 (pa_cons (pv 2) pa_nil)) rfl) (C8.pss_cut (ps_set (i := 5) scLaw.nd rfl (.inl rfl) (pe_callTy (T := "dict") (call_dictP rfl) (by rfl) md (by decide +kernel) (pa_cons (pe_lock (pe_lc (own := [("_law_call", 6)]) (g := gName 6) rfl scLaw.nd (pi_keys (pv 3)) (blkOk_by (N := nLaw) (sc := defScope lLaw) (by decide +kernel))
            (fun _ _ _ _ _ => pg_name (i := 6) scLaw.nd rfl (.inl rfl) (hf := .inr rfl)) (fun _ _ _ _ _ => pts_nil) (fun _ _ _ _ _ => pe_tup (pa_cons (pv 6) (pa_cons (pe_make MI GI hr (by rfl) W.gT bI .nil pass0 (pa_cons (pe_dget hu1 (pv 3) (pv 6) (fun _ _ => rfl)) pa_nil)) pa_nil))))) pa_nil))) (C8.pss_cut (ps_for PassesOwn.never rfl (pi_list (pe_call GM hr (by rfl) gM kM bM .nil pass0 (pa_cons (pv 2) (pa_cons (pe_callTy (call_listD rfl) (by rfl) B.list (by decide +kernel) (pa_cons (pv 3) pa_nil)) pa_nil)))) (pg_name (i := 6) scLaw.nd rfl (.inl rfl))
          (C8.pss_cut (ps_set (i := 7) scLaw.nd rfl (.inl rfl) (pe_callTy (r := rTup K) (T := "tuple") call_tuple_of (by rfl) B.tuple (by decide +kernel) (pa_cons (pe_lc (own := [("_law_turn", 13)]) (g := gName 13) rfl scLaw.nd (pi_range1 (by rfl) B.range (pa_cons (pe_call G2 hr (by rfl) g2 k2 b2 .nil pass0 (pa_cons (pv 2) (pa_cons (pe_int) pa_nil))) pa_nil)) (blkOk_by (N := nLaw) (sc := defScope lLaw) (by decide +kernel))
              (fun _ _ _ _ _ => pg_name (i := 13) scLaw.nd rfl (.inl rfl) (hf := .inr rfl)) (fun _ _ _ _ _ => pts_nil) (fun _ _ _ _ _ => pe_call GX hr (by rfl) gX kX bX .nil pass0 (pa_cons (pv 2) pa_nil))) pa_nil))) (C8.pss_cut (ps_set (i := 8) scLaw.nd rfl (.inl rfl) (pe_call GR hr (by rfl) gR kR bR .nil pass0 (pa_cons (pv 2) (pa_cons (pv 3) (pa_cons (pv 6) (pa_cons (pv 7) pa_nil)))))) (C8.pss_cut (ps_for PassesOwn.never rfl (pi_list (pe_op op_cat (pv 8) (pe_revL (pv 8)))) (pg_name (i := 9) scLaw.nd rfl (.inl rfl))
              (C8.pss_cut (ps_set (i := 10) scLaw.nd rfl (.inl rfl) (pe_meth (pe_dget hu1 (pv 5) (pv 6) (fun _ _ => rfl)) W.ic.cl hA GA hr bA .nil pass0 (pa_cons (pe_ix ix_tup (pv 9) pe_int (fun _ _ => rfl)) (pa_cons (pe_ix ix_tup (pv 9) pe_int (fun _ _ => rfl)) (pa_cons (pe_ix ix_tup (pv 9) pe_int (fun _ _ => rfl)) pa_nil))))) (pss_one (ps_if (pt_not (pt_val (pe_call GE hr (by rfl) gE kE bE .nil pass0 (pa_cons (pv 10) (pa_cons (pe_call GS hr (by rfl) gS kS bS .nil pass0 (pa_cons (pv 3) (pa_cons (pv 9) pa_nil))) pa_nil))))) (pss_one (ps_ret pe_bl)) pss_nil)))) (C8.pss_cut (ps_if (PW.pt (pw_or (pt_cmpR (r := rNeD K) (op_neD hr.units) (pe_prop (pe_dget hu1 (pv 5) (pv 6) (fun _ _ => rfl)) W.ic.cl hpN GN hr2 bN .nil pass0 rfl) (pe_dget hu1 (pv 3) (pv 6) (fun _ _ => rfl)) (nomark _)) (pw_or1 (pt_not (pt_val (pe_callB call_isi (by rfl) B.isi (by decide +kernel) (pa_cons (pe_dget hu1 (pv 5) (pv 6) (fun _ _ => rfl)) (pa_cons (pe_glob (v := .ref CR) (by rfl) W.gR rfl) pa_nil)))))))) (pss_one (ps_ret pe_bl)) pss_nil) (pss_one (ps_lock (ps_for PassesOwn.never rfl (pi_keys (pv 3)) (pg_name (i := 11) scLaw.nd rfl (.inl rfl))
              (C8.pss_cut (ps_set (i := 12) scLaw.nd rfl (.inl rfl) (pe_cmpR (r := rEqD K) (op_eqD hr.units) (pe_dget hu1 (pv 3) (pv 6) (fun _ _ => rfl)) (pe_dget hu1 (pv 3) (pv 11) (fun _ _ => rfl)) (nomark _))) (pss_one (ps_if (pt_cmpR (r := rNe) op_ne (pe_cmpR (OW.op_eqOwn GQ hr sQ iQ bQ pass0 W.sub) (pe_dget hu1 (pv 5) (pv 6) (fun _ _ => rfl)) (pe_dget hu1 (pv 5) (pv 11) (fun _ _ => rfl)) (nomark _)) (pv 12) (nomark _)) (pss_one (ps_ret pe_bl)) pss_nil))))))))))) (pss_one (ps_if (PW.pt (pw_or (pt_not (pt_val (pe_call GE hr (by rfl) gE kE bE .nil pass0 (pa_cons (pe_meth (OW.pe_bare W.bare (by rfl) W.gR) W.clR hT GT hr bT .nil pass0 (pa_cons (pe_tup pa_nil) (pa_cons (pe_tup pa_nil) (pa_cons (pe_int) pa_nil)))) (pa_cons (pe_tup (pa_cons (pe_str) pa_nil)) pa_nil))))) (pw_or1 (pt_cmpR (OW.op_eqOwn GQ hr sQ iQ bQ pass0 W.sub) (pe_dget hu1 (pv 5) pe_str (fun _ _ => rfl)) (pe_dget hu1 (pv 3) pe_str (fun _ _ => rfl)) (nomark _))))) (pss_one (ps_ret pe_bl)) pss_nil)))))))) (pss_one (ps_ret pe_bl))), ?_⟩
    refine ⟨fun σ' H' => True, ?_, ?_⟩
    · refine ⟨.ref sc, rfl, sc, _, rfl, .inl hSc, 4, _, rfl, 2, _, rfl, _, rfl, ?b1, ?b2, ?main⟩
      case b1 => split <;> (try split) <;> omega
      case b2 => split <;> (try split) <;> omega
      case main =>
      have hN : ∀ L : Int, 0 ≤ L → (if (if L < 4 then L else 4) > 2 then (if L < 4 then L else 4) else 2).toNat ≤ 4 := fun L hL => by split <;> (try split) <;> omega
      refine forJ (n := _) (fun i σ' H' => (∃ x1 x2 x3 x4 x5 x6 x7 x8 x9 x10 x11 x12 x13, σ' = stt sc x1 x2 x3 x4 x5 x6 x7 x8 x9 x10 x11 x12 x13) ∧ SqL K H' sc (ns.map V.int)) ⟨⟨none, none, none, none, none, none, none, none, none, none, none, none, none, rfl⟩, hSc⟩ (fun i σ' H' lt _ => lt) (fun σ' H' _ => Nat.le_refl _) (fun i σ' H0 x H1 lt h y => ?_) (fun σ' H' h => trivial)
      obtain ⟨rfl, rfl⟩ := y
      obtain ⟨⟨x1, x2, x3, x4, x5, x6, x7, x8, x9, x10, x11, x12, x13, rfl⟩, hT⟩ := h
      have li : i < 4 := Nat.lt_of_lt_of_le lt (hN _ (Int.natCast_nonneg _))
      -- the feed
      refine ⟨fun σ' H2 => ∃ a, σ' = stt sc (some (.int (0 + i))) (some (.ref a)) x3 x4 x5 x6 x7 x8 x9 x10 x11 x12 x13 ∧ Same H1 H2 ∧ Fd H2 a ∧ H1 a = none, ?_, ?_⟩
      · exact ⟨.ref sc, rfl, .int (0 + i), rfl, sc, ns, 0 + i, rfl, hT, hlen, by omega, by omega, fun p Hp sm np fd => ⟨p, rfl, sm, fd, np⟩⟩
      rintro _ H2 ⟨a, rfl, s2, F2, na⟩
      have script : ∀ {H' : Hp}, Kp a H2 H' → SqL K H' sc (ns.map V.int) := fun k => Same.seq (fun b o hb => k b o (ne_of_none hb na) (s2 b o hb)) hT
      -- the world
      refine ⟨fun σ' H3 => ∃ R G kvs L, σ' = stt sc (some (.int (0 + i))) (some (.ref a)) (some (.ref R)) (some (.ref G)) x5 x6 x7 x8 x9 x10 x11 x12 x13 ∧ H3 R = some (.dK kvs) ∧ H2 R = none ∧ RK K H3 kvs L ∧ RecOk L ∧ (∀ p ∈ L, p.1 ∈ callsL) ∧ L.length ≤ 12 ∧ Kp a H2 H3 ∧ Fd H3 a, ?_, ?_⟩
      · refine ⟨.ref a, rfl, .ref a, rfl, a, 4, rfl, F2, by decide, by decide, fun r H3 r0 r1 k3 F3 => ⟨4, r, rfl, rfl, a, (4 + r).toNat, ?_, F3, by omega, by omega, fun p R G kvs L H4 hp nR eR rk ok ca lL k4 F4 => ?_⟩⟩
        · show [V.ref a, V.int (4 + r), V.bl false] = _
          rw [Int.toNat_of_nonneg (by omega)]
        · refine ⟨p, _, rfl, hp, rfl, _, _, rfl, _, _, rfl, rfl, R, G, kvs, L, rfl, eR, ?_, rk, ok, ca, lL, k3.trans k4, F4⟩
          cases e : H2 R with
          | none => rfl
          | some o => rw [k3 R o (fdNe F3 nR) e] at nR; cases nR
      rintro _ H3 ⟨R, G, kvs0, L0, rfl, eR3, nR, rk3, ok3, ca3, lL3, k3, F3⟩
      have Ra := fdNe F2 nR
      -- the long one
      refine ⟨fun σ' H4 => ∃ kvs L, σ' = stt sc (some (.int (0 + i))) (some (.ref a)) (some (.ref R)) (some (.ref G)) x5 x6 x7 x8 x9 x10 x11 x12 x13 ∧ H4 R = some (.dK kvs) ∧ RK K H4 kvs L ∧ RecOk L ∧ L.length ≤ 13 ∧ ("long" : Str) ∈ L.map (·.1) ∧ Kp a H2 H4 ∧ Fd H4 a, ?_, ?_⟩
      · refine ⟨.ref a, rfl, a, rfl, F3, fun v t H4 hv gt k4 F4 => ⟨.ref R, rfl, R, _, rfl, DPut.k (k := Sum.inr ("long" : Str)) (k4 _ _ Ra eR3) (by rw [rk3.len, sizeLine_eq]; omega), ?_⟩⟩
        have rk4 := rk3.ts (tsKp F3 k4)
        have nl : ("long" : Str) ∉ L0.map (·.1) := fun hm => by
          obtain ⟨p, hp, e⟩ := List.mem_map.mp hm
          exact longNew.1 (e ▸ ca3 p hp)
        rw [putNew (rk4.none nl)]
        have td := tsDict (o := .dK (kvs0 ++ [(Sum.inr ("long" : Str), v)])) (k4 _ _ Ra eR3)
        refine ⟨_, L0 ++ [(("long" : Str), t)], rfl, upd_same, (rk4.ts td).snoc (trTS td _ _ hv), ok3.snoc nl longNew.2 gt, by rw [List.length_append]; show L0.length + 1 ≤ 13; omega, by rw [List.map_append]; exact List.mem_append_right _ (List.mem_singleton.mpr rfl), fun b o nb hb => ?_, fdOther F4 Ra⟩
        rw [upd_ne (ne_of_none hb nR)]
        exact k4 _ _ nb (k3 _ _ nb hb)
      rintro _ H4 ⟨kvs, L, rfl, eR4, rk4, rok, lL, hlong, k4, F4⟩
      have lkv := rk4.len
      -- what is made of them
      refine ⟨fun σ' H5 => ∃ M mvs, σ' = stt sc (some (.int (0 + i))) (some (.ref a)) (some (.ref R)) (some (.ref G)) (some (.ref M)) x6 x7 x8 x9 x10 x11 x12 x13 ∧ H5 R = some (.dK kvs) ∧ H5 M = some (.dK mvs) ∧ M ≠ R ∧ RM K C H5 kvs mvs L ∧ Kp a H2 H5 ∧ Fd H5 a, ?_, ?_⟩
      · refine ⟨R, .dK kvs, eR4, trivial, fun od => ⟨.ref R, rfl, R, od, rfl, .inl ⟨kvs, upd_same, fun D hD => ?_⟩⟩⟩
        have RD : R ≠ D := fun z => by rw [← z, upd_same] at hD; cases hD
        have nD4 : H4 D = none := by
          rw [upd_ne (Ne.symm RD)] at hD
          exact hD
        refine lcJ (n := kvs.length) (vs := [6]) (fun j T => ∃ (ps : List Addr) (mvs : List (Key × V)), T D = some (.lst (ps.map V.ref)) ∧ Paired (fun p (kv : Key × V) => SqT K T p [kV kv.1, kv.2]) ps mvs ∧ RM K C T (kvs.take j) mvs (L.take j) ∧ T R = some (.frz od (.dK kvs)) ∧ (∀ b o, b ≠ R → H4 b = some o → T b = some o) ∧ ps.length = j)
          ⟨[], [], upd_same, .nil, .nil, by rw [upd_ne RD]; exact upd_same, fun b o nb hb => ?_, rfl⟩ (fun j T lt h => ⟨h.choose_spec.choose_spec.2.2.2.1, lt⟩) (fun T h => ⟨h.choose_spec.choose_spec.2.2.2.1, Nat.le_refl _⟩) (fun j T x T2 lt h y => ?_) (fun T h => ?_)
        · rw [upd_ne (ne_of_none hb nD4), upd_ne nb]
          exact hb
        · obtain ⟨rfl, k, v, ek, rfl⟩ := y
          obtain ⟨ps, mvs, eD, pr, rm, eRT, kT, lps⟩ := h
          obtain ⟨z, t, rfl, eL, hv⟩ := rk4.atK ek
          have hzL : (z, t) ∈ L := List.mem_of_getElem? eL
          obtain ⟨v', t', ev', hv', hzL'⟩ := rk4.some (List.mem_map_of_mem (f := (·.1)) hzL)
          obtain rfl := onlyOne rok.1 hzL hzL'
          have tT : TS H4 T2 := fun b o hb tt => kT b o (fun e => by
            rw [e, eR4] at hb
            have e2 := Option.some.inj hb
            rcases tt with ⟨xs, rfl⟩ | ⟨p, xs, rfl⟩ <;> cases e2) hb
          refine ⟨rfl, ?_⟩
          unfold tYes
          dsimp only
          rw [if_pos rfl]
          refine ⟨.str z, rfl, .ref R, rfl, .str z, rfl, R, v', rfl, .inl ⟨kvs, .inr z, .inr ⟨od, eRT⟩, rfl, ev'.symm⟩, fun x dx nx ndx nex => ?_⟩
          have sI : Same T2 (upd (upd T2 dx (.own x)) x (.ins C dx [])) := fun b o hb => by
            rw [upd_ne (ne_of_none hb nx), upd_ne (ne_of_none hb ndx)]
            exact hb
          refine ⟨x, dx, v', t, rfl, upd_same, trTS (tT.trans (TS.same sI)) _ _ hv', (rok.2 _ hzL).2, fun T5 k5 eX => ⟨rfl, (by show 2 ≤ sizeLine; decide), fun p hp => ?_⟩⟩
          have s5 : Same T2 T5 := fun b o hb => k5 b o (ne_of_none hb nx) (sI _ _ hb)
          have sp := sameUpd (o := .tup [.str z, .ref x]) hp
          have eD6 := sp _ _ (s5 _ _ eD)
          have s6 := s5.trans sp
          have eX6 := sp _ _ eX
          have eP : SqT K (upd T5 p (.tup [.str z, .ref x])) p [.str z, .ref x] := .inl (.inl upd_same)
          generalize upd T5 p (.tup [.str z, .ref x]) = T6 at *
          refine ⟨_, eD6, by rw [List.length_map, lps, sizeLine_eq]; omega, ?_⟩
          have t7 := TS.lst (o := .lst (ps.map V.ref ++ [.ref p])) eD6
          have k7 : ∀ b o, b ≠ D → T6 b = some o → upd T6 D (.lst (ps.map V.ref ++ [.ref p])) b = some o := fun b o nb hb => by rw [upd_ne nb]; exact hb
          have lj : j < L.length := by omega
          have eL2 : L[j] = (z, t) := by
            have := List.getElem?_eq_getElem lj
            rw [eL] at this
            exact (Option.some.inj this).symm
          have ek2 : kvs[j] = (Sum.inr z, v) := by
            have := List.getElem?_eq_getElem lt
            rw [ek] at this
            exact (Option.some.inj this).symm
          refine ⟨ps ++ [p], mvs ++ [(.inr z, .ref x)], by rw [List.map_append]; exact upd_same, ?_, ?_, ?_, fun b o nb hb => ?_, by rw [List.length_append, lps]; rfl⟩
          · have up : ∀ {ps : List Addr} {mvs : List (Key × V)} {H H' : Hp}, TS H H' → Paired (fun p (kv : Key × V) => SqT K H p [kV kv.1, kv.2]) ps mvs → Paired (fun p (kv : Key × V) => SqT K H' p [kV kv.1, kv.2]) ps mvs := fun t h => by
              induction h with
              | nil => exact .nil
              | cons h _ ih => exact .cons (TS.tup t h) ih
            exact (up ((TS.same s6).trans t7) pr).snoc (TS.tup t7 eP)
          · rw [List.take_succ_eq_append_getElem lt, List.take_succ_eq_append_getElem lj, ek2, eL2]
            have noD : ∀ E dx' fs, T6 D ≠ some (.ins E dx' fs) := fun E dx' fs e => by rw [eD6] at e; cases e
            have rm6 : RM K C T6 (kvs.take j) mvs (L.take j) := RM.but (R := D) (TS.same s6) (fun b o _ hb => s6 b o hb) (fun E dx' fs e => by rw [eD] at e; cases e) rm
            refine (RM.but t7 k7 noD rm6).snoc (trTS (tT.trans ((TS.same s6).trans t7)) _ _ hv) (k7 _ _ (fun e => ?_) eX6) (trTS (tT.trans ((TS.same s6).trans t7)) _ _ hv')
            exact noD _ _ _ (e ▸ eX6)
          · rw [upd_ne RD]
            exact s6 _ _ eRT
          · rw [upd_ne (ne_of_none hb nD4)]
            exact s6 _ _ (kT b o nb hb)
        · obtain ⟨ps, mvs, eD, pr, rm, eRT, kT, lps⟩ := h
          rw [List.take_length, show L.take kvs.length = L from List.take_of_length_le (by omega)] at rm
          have noR : ∀ E dx' fs, T R ≠ some (.ins E dx' fs) := fun E dx' fs e => by rw [eRT] at e; cases e
          have tR : TS T (upd T R (.dK kvs)) := fun b o hb tt => by
            rw [upd_ne fun e => ?_]
            · exact hb
            · rw [e, eRT] at hb
              have e2 := Option.some.inj hb
              rcases tt with ⟨xs, rfl⟩ | ⟨p, xs, rfl⟩ <;> cases e2
          have k8 : ∀ b o, b ≠ R → T b = some o → upd T R (.dK kvs) b = some o := fun b o nb hb => by rw [upd_ne nb]; exact hb
          have rm8 := RM.but tR k8 noR rm
          have eD8 := k8 _ _ (Ne.symm RD) eD
          have pr8 : Paired (fun p (kv : Key × V) => SqT K (upd T R (.dK kvs)) p [kV kv.1, kv.2]) ps mvs := by
            clear eD eD8 lps rm rm8
            induction pr with
            | nil => exact .nil
            | cons h _ ih => exact .cons (TS.tup tR h) ih
          have s8 : Same H4 (upd T R (.dK kvs)) := fun b o hb => by
            by_cases e : b = R
            · subst e
              rw [upd_same, ← hb, eR4]
            · exact k8 _ _ e (kT b o e hb)
          have eR8 : upd T R (.dK kvs) R = some (.dK kvs) := upd_same
          generalize upd T R (.dK kvs) = T8 at *
          obtain ⟨_, nm2, _, nm4⟩ := rm8.names
          have ndm : ((([] : List (Key × V)) ++ mvs).map (·.1)).Nodup := by
            rw [List.nil_append, nm2, nm4, List.nodup_iff_pairwise_ne, List.pairwise_map]
            have := List.nodup_iff_pairwise_ne.mp rok.1
            exact this.imp fun {a b} n e => n (Sum.inr.inj e)
          refine ⟨eRT, D, ps, mvs, rfl, .inl (.inl eD8), pr8, fun p hp => ?_⟩
          rw [mergeAll mvs [] ndm, List.nil_append]
          have sp := sameUpd (o := .dK mvs) hp
          exact ⟨p, mvs, rfl, sp _ _ eR8, upd_same, (fun z => by rw [z, eR8] at hp; cases hp), RM.but (R := p) (TS.same sp) (fun b o _ hb => sp b o hb) (fun E dx' fs e => by rw [e] at hp; cases hp) rm8, k4.trans (Kp.same (s8.trans sp)), F4.same (s8.trans sp)⟩
      rintro _ H5 ⟨M, mvs, rfl, eR5, eM5, MR, rm5, k5, F5⟩
      have Ma := dNe F5 eM5
      have Ra5 := dNe F5 eR5
      obtain ⟨nm1, _, _, _⟩ := rm5.names
      have tokN : ∀ z ∈ L.map (·.1), TOk z := fun z hz => by
        obtain ⟨p, hp, rfl⟩ := List.mem_map.mp hz
        exact (rok.2 p hp).1
      -- each of them
      refine ⟨fun σ' H' => (∃ x6 x7 x8 x9 x10 x11 x12 x13, σ' = stt sc (some (.int (0 + i))) (some (.ref a)) (some (.ref R)) (some (.ref G)) (some (.ref M)) x6 x7 x8 x9 x10 x11 x12 x13) ∧ Kp a H5 H' ∧ Fd H' a, ?_, ?_⟩
      · refine ⟨.ref a, rfl, .ref R, rfl, R, kvs, rfl, .inl eR5, fun l hl => ?_⟩
        rw [nm1]
        have sl := sameUpd (o := .lst ((L.map (·.1)).map V.str)) hl
        refine ⟨a, l, _, L.map (·.1), rfl, F5.same sl, .inl (.inl upd_same), by rw [List.length_map]; omega, strsDp _, fun z hz => .str _ (TOk.odS (tokN z hz)).1 (TOk.odS (tokN z hz)).2, fun p ys es H6 np k6' F6 ep hy perm => ⟨p, rfl, ⟨_, .inl (.inl ep)⟩, ?_⟩⟩
        have k6 : Kp a H5 H6 := (Kp.same sl).trans k6'
        have pa : p ≠ a := fdNe (F5.same sl) np
        have ly := dpLen hy
        rw [List.length_map] at ly
        refine forJ (n := es.length) (fun j σ' H' => (∃ x6 x7 x8 x9 x10 x11 x12 x13, σ' = stt sc (some (.int (0 + i))) (some (.ref a)) (some (.ref R)) (some (.ref G)) (some (.ref M)) x6 x7 x8 x9 x10 x11 x12 x13) ∧ Kp a H6 H' ∧ Fd H' a) ⟨⟨_, _, _, _, _, _, _, _, rfl⟩, Kp.refl _ _, F6⟩
          (fun j σ' H' lt h => ⟨ys, ys[j]'(by omega), .inl (.inl (h.2.1 _ _ pa ep)), List.getElem?_eq_getElem (by omega)⟩) (fun σ' H' h => ⟨ys, .inl (.inl (h.2.1 _ _ pa ep)), by omega⟩) (fun j σ' H7 x H8 ltj h y => ?_) (fun σ' H' h => ⟨h.1, k6.trans h.2.1, h.2.2⟩)
        obtain ⟨rfl, y⟩ := y
        obtain ⟨⟨x6, x7, x8, x9, x10, x11, x12, x13, rfl⟩, k7, F7⟩ := h
        have ex := y _ (.inl (.inl (k7 _ _ pa ep)))
        have e2 : (es.map PyData.str)[j]? = some (.str es[j]) := by rw [List.getElem?_map, List.getElem?_eq_getElem ltj]; rfl
        obtain ⟨x', g1, g2⟩ := dpAt hy e2
        obtain rfl : x' = x := Option.some.inj (g1.symm.trans ex)
        obtain rfl := dpStr g2
        obtain ⟨z, ez⟩ : ∃ z, z = es[j] := ⟨_, rfl⟩
        rw [← ez]
        have hz : z ∈ L.map (·.1) := perm.mem_iff.mp (by rw [ez]; exact List.getElem_mem ltj)
        have k57 : Kp a H5 H8 := k6.trans k7
        have rm7 := rm5.kp F5 k57
        have eR7 := k57 _ _ Ra5 eR5
        have eM7 := k57 _ _ Ma eM5
        obtain ⟨v, t, xo, dx, v2, ev, em, dv, eX, dv2, hzL⟩ := rm7.get hz
        have tz := tokN z hz
        have good := (rok.2 _ hzL).2
        obtain ⟨⟨zs, _, tzs⟩, od⟩ := good
        have trok := zOk tzs
        have od58 : Od 58 (trD t) := od.up (by omega)
        have xa : xo ≠ a := fun e => by
          obtain ⟨u, u', e3, _⟩ := F7
          rw [e, e3] at eX
          cases eX
        -- the arguments
        refine ⟨fun σ' H' => ∃ va as, σ' = stt sc (some (.int (0 + i))) (some (.ref a)) (some (.ref R)) (some (.ref G)) (some (.ref M)) (some (.str z)) (some va) x8 x9 x10 x11 x12 x13 ∧ Dp K H' va (argsD as) ∧ (∀ u ∈ as, TOk u) ∧ as.length ≤ 4 ∧ Kp a H8 H' ∧ Fd H' a, ?_, ?_⟩
        · refine ⟨.ref a, rfl, a, 5, rfl, F7, by decide, by decide, fun r H9 r0 r1 k9 F9 => ⟨r, rfl, by omega, by omega, ?_⟩⟩
          obtain ⟨c, rfl⟩ : ∃ c : Nat, r = (c : Int) := ⟨r.toNat, by omega⟩
          rw [Int.toNat_natCast]
          intro D hD
          refine lcFeedX (m := c) (fun u => ∃ z, u = some z ∧ TOk z) hD F9 (by omega) (fun v => rfl) (fun i H lt k => lt) (fun H k => Nat.le_refl _) (fun i x Ha Hb lt ka Fa y => ?_) (fun Ha row ea la hva ka Fa => ?_)
          · obtain ⟨rfl, rfl⟩ := y
            exact ⟨rfl, fun Q' hQ => ⟨.ref a, rfl, a, rfl, Fa, fun z Hc tz kc Fc => hQ (some z) Hc ⟨z, rfl, tz⟩ kc Fc⟩⟩
          · obtain ⟨as, rfl⟩ := noneFree (r := row) fun hn => by
              obtain ⟨z, e, _⟩ := hva _ hn
              cases e
            rw [List.length_map] at la
            refine ⟨D, _, rfl, .inl ⟨.inl (.inl ea), fun T hT2 => ?_⟩⟩
            have sT := sameUpd (o := .tup ((as.map some).map vA)) hT2
            refine ⟨.ref T, as, rfl, ?_, fun u hu => ?_, by omega, (k9.trans ka).trans (Kp.same sT), Fa.same sT⟩
            · rw [argsRow]
              exact rowDp (.inl (.inl upd_same))
            · obtain ⟨z, e, tz⟩ := hva (some u) (List.mem_map_of_mem hu)
              rw [Option.some.inj e]
              exact tz
        rintro _ H9 ⟨va, as, rfl, dva, tas, las, k9, F9⟩
        -- the run
        refine ⟨fun σ' H' => ∃ (R2 : Addr) (ys2 : List V) (ds : List Pc), σ' = stt sc (some (.int (0 + i))) (some (.ref a)) (some (.ref R)) (some (.ref G)) (some (.ref M)) (some (.str z)) (some va) (some (.ref R2)) x9 x10 x11 x12 x13 ∧ H' R2 = some (.lst ys2) ∧ R2 ≠ a ∧ DpAll K H' ys2 (ds.map pcD) ∧ ds.length ≤ 40 ∧ (∀ q ∈ ds, AtRun t z as q ∧ q.rs.length ≤ 40) ∧ Kp a H8 H' ∧ Fd H' a, ?_, ?_⟩
        · refine ⟨.ref a, rfl, .ref R, rfl, .str z, rfl, va, rfl, a, R, kvs, z, va, v, t, as, rfl, F9, k9 _ _ Ra5 eR7, Ra5, ev, trTS (tsKp F7 k9) _ _ dv, trok, od58, fun rs ks cs l e => zFew tzs rs e, tz, dva, tas, las, fun R2 ys2 ds H10 n2 e2 d2 l2 all k10 F10 => ⟨R2, ys2, ds, rfl, e2, fdNe F9 n2, d2, l2, all, k9.trans k10, F10⟩⟩
        rintro _ H10 ⟨R2, ys2, ds, rfl, eY, R2a, dY, lds, all, k10, F10⟩
        have t10 : TS H8 H10 := tsKp F7 k10
        have eR10 := k10 _ _ Ra5 eR7
        have eM10 := k10 _ _ Ma eM7
        have eX10 := k10 _ _ xa eX
        have dv10 := trTS t10 _ _ dv
        have dw10 := trTS t10 _ _ dv2
        have ly2 := dpLen dY
        rw [List.length_map] at ly2
        -- each place, forth and back
        refine ⟨fun σ' H' => (∃ x9 x10, σ' = stt sc (some (.int (0 + i))) (some (.ref a)) (some (.ref R)) (some (.ref G)) (some (.ref M)) (some (.str z)) (some va) (some (.ref R2)) x9 x10 x11 x12 x13) ∧ Same H10 H', ?_, ?_⟩
        · refine ⟨.ref R2, rfl, .ref R2, rfl, R2, ys2, rfl, .inl (.inl eY), fun p1 n1 => ?_⟩
          have s1 := sameUpd (o := .lst ys2.reverse) n1
          refine ⟨R2, p1, ys2, ys2.reverse, rfl, rfl, s1 _ _ eY, upd_same, by rw [List.length_reverse, sizeLine_eq]; omega, fun p3 n3 => ⟨p3, rfl, ⟨_, .inl (.inl upd_same)⟩, ?_⟩⟩
          have s3 := sameUpd (o := .lst (ys2 ++ ys2.reverse)) n3
          have s13 := s1.trans s3
          have dAll : DpAll K (upd (upd H10 p1 (.lst ys2.reverse)) p3 (.lst (ys2 ++ ys2.reverse))) (ys2 ++ ys2.reverse) ((ds ++ ds.reverse).map pcD) := by
            rw [List.map_append, List.map_reverse]
            exact dpAppend (dpRev (dpAllSame s13 _ _ dY)) (dpAllSame s13 _ _ dY)
          have e3 : upd (upd H10 p1 (.lst ys2.reverse)) p3 (.lst (ys2 ++ ys2.reverse)) p3 = some (.lst (ys2 ++ ys2.reverse)) := upd_same
          generalize upd (upd H10 p1 (.lst ys2.reverse)) p3 (.lst (ys2 ++ ys2.reverse)) = H11 at *
          have lAll := dpLen dAll
          rw [List.length_map] at lAll
          refine forJ (n := (ds ++ ds.reverse).length) (fun n σ' H' => (∃ x9 x10, σ' = stt sc (some (.int (0 + i))) (some (.ref a)) (some (.ref R)) (some (.ref G)) (some (.ref M)) (some (.str z)) (some va) (some (.ref R2)) x9 x10 x11 x12 x13) ∧ Same H11 H') ⟨⟨_, _, rfl⟩, Same.refl _⟩
            (fun n σ' H' lt h => ⟨_, _, .inl (.inl (h.2 _ _ e3)), List.getElem?_eq_getElem (by omega)⟩) (fun σ' H' h => ⟨_, .inl (.inl (h.2 _ _ e3)), by omega⟩) (fun n σ' H12 u H13 ltn h y3 => ?_) (fun σ' H' h => ⟨h.1, s13.trans h.2⟩)
          obtain ⟨rfl, y3⟩ := y3
          obtain ⟨⟨x9, x10, rfl⟩, s12⟩ := h
          have eu := y3 _ (.inl (.inl (s12 _ _ e3)))
          have eq0 : ((ds ++ ds.reverse).map pcD)[n]? = some (pcD (ds ++ ds.reverse)[n]) := by rw [List.getElem?_map, List.getElem?_eq_getElem ltn]; rfl
          obtain ⟨u', g1, g2⟩ := dpAt dAll eq0
          obtain rfl : u' = u := Option.some.inj (g1.symm.trans eu)
          obtain ⟨qp, eqp⟩ : ∃ qp, qp = (ds ++ ds.reverse)[n] := ⟨_, rfl⟩
          rw [← eqp] at g2
          have hq : qp ∈ ds := by
            have : qp ∈ ds ++ ds.reverse := by rw [eqp]; exact List.getElem_mem ltn
            rcases List.mem_append.mp this with h | h
            · exact h
            · exact List.mem_reverse.mp h
          obtain ⟨hat, lrs⟩ := all qp hq
          have okp := atOk hat tz tas las (by omega)
          obtain ⟨hc1, hc2, hcw, hrow, c, hcn, hcd⟩ := hat
          have sB : Same H10 H13 := s13.trans s12
          have dq := dpSame s12 _ _ g2
          obtain ⟨pa2, va2, vr2, rfl, hs2, da2, dr2⟩ := pcAt dq
          rw [hcn] at hs2
          have odw := odWalk (rs := qp.rs) od58
          have lc : c ≤ 58 := odDown odw hcd
          refine ⟨fun σ' H' => ∃ r, σ' = stt sc (some (.int (0 + i))) (some (.ref a)) (some (.ref R)) (some (.ref G)) (some (.ref M)) (some (.str z)) (some va) (some (.ref R2)) (some (.ref pa2)) (some r) x11 x12 x13 ∧ Dp K H' r (stepD (qp.as.map some :: qp.rs) (down (walk t qp.rs) c)) ∧ Same H13 H', ?_, ?_⟩
          · refine ⟨.ref M, rfl, .str z, rfl, M, .ref xo, rfl, em ▸ DGet.k (k := Sum.inr z) (sB _ _ eM10), xo, dx, _, rfl, sB _ _ eX10, rfl, ?_⟩
            refine ⟨.ref pa2, rfl, pa2, _, 1, va2, rfl, rfl, hs2, atI_nat (j := 1) rfl, .ref pa2, rfl, pa2, _, 2, vr2, rfl, rfl, hs2, atI_nat (j := 2) rfl, .ref pa2, rfl, pa2, _, 3, .int c, rfl, rfl, hs2, atI_nat (j := 3) rfl, ?_⟩
            refine ⟨xo, dx, v2, va2, vr2, t, qp.as, qp.rs, c, rfl, sB _ _ eX10, dpSame sB _ _ dw10, trok, da2, fun u hu => by rw [hc2] at hu; exact tas u hu, dr2, hrow, by omega, hcw, hcd, by omega, fun r H' s' dr => ⟨r, rfl, dr, s'⟩⟩
          rintro _ H14 ⟨r, rfl, dr, s14⟩
          have sC := sB.trans s14
          refine ⟨r, rfl, .ref R, rfl, .ref pa2, rfl, R, kvs, .ref pa2, qp, t, rfl, sC _ _ eR10, dpSame s14 _ _ dq, okp, .inl ⟨v, by rw [hc1]; exact ev, dpSame sC _ _ dv10⟩, trok, od58, hcw, c, hcn, hcd, by omega, fun r2 H15 s15 dr2' => ?_⟩
          refine ⟨r, r2, rfl, svDp (odStep (n := 57) (odDownT odw) (okDown (okWalk trok)) fun rr hrr u hu => ?_) (dpSame s15 _ _ dr) dr2', fun H16 s16 => ⟨_, rfl, iteF ⟨⟨_, _, rfl⟩, s12.trans ((s14.trans s15).trans s16)⟩⟩⟩
          rcases List.mem_cons.mp hrr with rfl | hrr
          · obtain ⟨y, hy2, e⟩ := List.mem_map.mp hu
            rw [← Option.some.inj e]
            rw [hc2] at hy2
            exact tas y hy2
          · exact (hrow rr hrr).2 u hu
        rintro _ H11 ⟨⟨x9, x10, rfl⟩, s11⟩
        have eR11 := s11 _ _ eR10
        have eM11 := s11 _ _ eM10
        have eX11 := s11 _ _ eX10
        have dv11 := dpSame s11 _ _ dv10
        have dw11 := dpSame s11 _ _ dw10
        have sht : SeqAt.shaped (trD t) = true := od58.shaped (by omega)
        -- its node, its class
        refine ⟨fun σ' H' => σ' = stt sc (some (.int (0 + i))) (some (.ref a)) (some (.ref R)) (some (.ref G)) (some (.ref M)) (some (.str z)) (some va) (some (.ref R2)) x9 x10 x11 x12 x13 ∧ H11 = H', ?_, ?_⟩
        · refine ⟨.ref M, rfl, .str z, rfl, M, .ref xo, rfl, em ▸ DGet.k (k := Sum.inr z) eM11, xo, dx, _, rfl, eX11, xo, dx, _, v2, rfl, eX11, rfl, .ref R, rfl, .str z, rfl, R, v, rfl, ev ▸ DGet.k (k := Sum.inr z) eR11, trD t, trD t, dw11, dv11, sht, sht, _, rfl, ?_⟩
          rw [SeqAt.eqv_refl (trD t) (SeqAt.canLay_of_shaped sht)]
          exact iteF ⟨.ref M, rfl, .str z, rfl, M, .ref xo, rfl, em ▸ DGet.k (k := Sum.inr z) eM11, .ref xo, .ref CR, .ref C, .ref CR, true, rfl, .own CR, .base (.ins eX11 W.ic.cl W.ic.ha W.ic.hn W.ic.ht W.ic.hm), W.kit, true, rfl, iteF ⟨rfl, rfl⟩⟩
        rintro _ _ ⟨rfl, rfl⟩
        -- the others
        have k8e : Kp a H8 H11 := k10.trans (Kp.same s11)
        have rm11 := rm7.kp F7 k8e
        have F11 := F10.same s11
        refine ⟨R, .dK kvs, eR11, trivial, fun oR => ⟨.ref R, rfl, R, oR, rfl, .inl ⟨kvs, upd_same, ?_⟩⟩⟩
        have tL := tsDict (o := .frz oR (.dK kvs)) eR11
        have kL : ∀ b o, b ≠ R → H11 b = some o → upd H11 R (.frz oR (.dK kvs)) b = some o := fun b o nb hb => by rw [upd_ne nb]; exact hb
        have noR : ∀ E dx' fs, H11 R ≠ some (.ins E dx' fs) := fun E dx' fs e => by rw [eR11] at e; cases e
        have rmL := RM.but tL kL noR rm11
        have eRL : upd H11 R (.frz oR (.dK kvs)) R = some (.frz oR (.dK kvs)) := upd_same
        have eML := kL _ _ MR eM11
        have back : upd (upd H11 R (.frz oR (.dK kvs))) R (.dK kvs) = H11 := funext fun b => by
          by_cases e : b = R
          · rw [e, upd_same, eR11]
          · rw [upd_ne e, upd_ne e]
        have xR : xo ≠ R := fun e => by rw [e, eR11] at eX11; cases eX11
        have eXL := kL _ _ xR eX11
        have dvL := trTS tL _ _ dv11
        have dwL := trTS tL _ _ dw11
        generalize upd H11 R (.frz oR (.dK kvs)) = TL at *
        refine forJ (n := kvs.length) (fun n σ' T => (∃ x11 x12, σ' = stt sc (some (.int (0 + i))) (some (.ref a)) (some (.ref R)) (some (.ref G)) (some (.ref M)) (some (.str z)) (some va) (some (.ref R2)) x9 x10 x11 x12 x13) ∧ TL = T) ⟨⟨_, _, rfl⟩, rfl⟩
          (fun n σ' T lt h => ⟨h.2 ▸ eRL, lt⟩) (fun σ' T h => ⟨h.2 ▸ eRL, Nat.le_refl _⟩) (fun n σ' T u T2 ltn h y3 => ?_) (fun σ' T h => ?_)
        · obtain ⟨⟨x11, x12, rfl⟩, eT⟩ := h
          subst eT
          obtain ⟨eT2, kk, vv, ekk, rfl⟩ := y3
          have eT3 := eT2.symm
          subst eT3
          obtain ⟨z2, t0, rfl, eL0, _⟩ := rmL.rk.atK ekk
          obtain ⟨v', t2, xo2, dx2, v22, ev2, em2, dv2', eX2, dw2, hz2L⟩ := rmL.get (List.mem_map_of_mem (f := (·.1)) (List.mem_of_getElem? eL0))
          have sh2 : SeqAt.shaped (trD t2) = true := (rok.2 _ hz2L).2.2.shaped (by omega)
          refine ⟨fun σ' T' => σ' = stt sc (some (.int (0 + i))) (some (.ref a)) (some (.ref R)) (some (.ref G)) (some (.ref M)) (some (.str z)) (some va) (some (.ref R2)) x9 x10 (some (.str z2)) (some (.bl (PyData.eqv (trD t) (trD t2)))) x13 ∧ TL = T', ?_, ?_⟩
          · exact ⟨.ref R, rfl, .str z, rfl, R, v, rfl, .inl ⟨kvs, .inr z, .inr ⟨oR, eRL⟩, rfl, ev.symm⟩, .ref R, rfl, .str z2, rfl, R, v', rfl, .inl ⟨kvs, .inr z2, .inr ⟨oR, eRL⟩, rfl, ev2.symm⟩, trD t, trD t2, dvL, dv2', sht, sh2, rfl, rfl⟩
          rintro _ _ ⟨rfl, rfl⟩
          refine ⟨.ref M, rfl, .str z, rfl, M, .ref xo, rfl, em ▸ DGet.k (k := Sum.inr z) eML, .ref M, rfl, .str z2, rfl, M, .ref xo2, rfl, em2 ▸ DGet.k (k := Sum.inr z2) eML, xo, xo2, dx, _, rfl, rfl, eXL, .inl ⟨dx2, _, eX2⟩, ?_⟩
          refine ⟨xo, dx, v2, trD t, .ref xo2, rfl, eXL, dwL, sht, .inl ⟨xo2, dx2, v22, trD t2, rfl, eX2, dw2, sh2, PyData.eqv (trD t) (trD t2), rfl, .bl (PyData.eqv (trD t) (trD t2)), rfl, rfl, _, rfl, ?_⟩⟩
          rw [show (!decide (V.bl (PyData.eqv (trD t) (trD t2)) = V.bl (PyData.eqv (trD t) (trD t2)))) = false from by simp]
          exact iteF ⟨⟨_, _, rfl⟩, rfl⟩
        · obtain ⟨⟨x11, x12, rfl⟩, rfl⟩ := h
          refine ⟨eRL, ?_⟩
          rw [back]
          exact ⟨⟨_, _, _, _, _, _, _, _, rfl⟩, k7.trans k8e, F11⟩
      rintro _ H6 ⟨⟨x6, x7, x8, x9, x10, x11, x12, x13, rfl⟩, k6, F6⟩
      have rm6 := rm5.kp F5 k6
      have eR6 := k6 _ _ Ra5 eR5
      have eM6 := k6 _ _ Ma eM5
      obtain ⟨v, t, xo, dx, v2, ev, em, dv, eX, dv2, hzL⟩ := rm6.get hlong
      -- the base, and the long one against its own node
      refine fun y dy ny ndy ney => ?_
      have sI : Same H6 (upd (upd H6 dy (.own y)) y (.ins CR dy [])) := fun b o hb => by
        rw [upd_ne (ne_of_none hb ny), upd_ne (ne_of_none hb ndy)]
        exact hb
      refine ⟨y, dy, [], rfl, upd_same, rfl, Nat.zero_le _, fun p1 n1 => ⟨Nat.zero_le _, fun p2 n2 => ⟨_, _, _, _, rfl, (by show 1 ≤ sizeLine; decide), fun p3 n3 => ?_⟩⟩⟩
      have s1 := sameUpd (o := .tup []) n1
      have s2' := sameUpd (o := .tup []) n2
      have s3 := sameUpd (o := .tup [.str "stop"]) n3
      have sA := ((sI.trans s1).trans s2').trans s3
      have eP : SqT K (upd (upd (upd (upd (upd H6 dy (.own y)) y (.ins CR dy [])) p1 (.tup [])) p2 (.tup [])) p3 (.tup [.str "stop"])) p3 [.str "stop"] := .inl (.inl upd_same)
      generalize upd (upd (upd (upd (upd H6 dy (.own y)) y (.ins CR dy [])) p1 (.tup [])) p2 (.tup [])) p3 (.tup [.str "stop"]) = H7 at *
      have odS := odStop 57
      rw [trD] at odS
      refine ⟨.ref S, .ref p3, rfl, svDp odS (.tup (W.hS _) (.cons (.str _) .nil)) (.tup eP (.cons (.str _) .nil)), fun H8 s8 => ⟨_, rfl, iteF ?_⟩⟩
      have sB := sA.trans s8
      obtain ⟨b, xs, rfl, hbs, _⟩ := headAt (dpSame sB _ _ dv)
      obtain ⟨dd, edd⟩ := trTup t
      have sht : SeqAt.shaped (trD t) = true := (rok.2 _ hzL).2.2.shaped (by omega)
      refine ⟨.ref M, rfl, M, .ref xo, rfl, em ▸ DGet.k (k := Sum.inr ("long" : Str)) (sB _ _ eM6), .ref R, rfl, R, .ref b, rfl, ev ▸ DGet.k (k := Sum.inr ("long" : Str)) (sB _ _ eR6), xo, b, dx, _, rfl, rfl, sB _ _ eX, .inr ⟨xs, hbs⟩, ?_⟩
      refine ⟨xo, dx, v2, trD t, .ref b, rfl, sB _ _ eX, dpSame sB _ _ dv2, sht, .inr ⟨dd, edd ▸ dpSame sB _ _ dv, false, rfl, _, rfl, iteF ⟨⟨_, _, _, _, _, _, _, _, _, _, _, _, _, rfl⟩, ?_⟩⟩⟩
      exact Same.seq sB (script (k5.trans k6))
    rintro σ2 H2 _
    exact q H2
end
end TRE

set_option Elab.async false
set_option linter.all false
set_option maxRecDepth 100000
set_option maxHeartbeats 0
namespace TRE.HD
open PySem PySem.Spec PyProof.Rows L2 ND KS KS.La PLC
open He (ga ma)
abbrev R : PySem.W.OpenRow := PySem.W.OpenLaw.row PySem.Challenge.rw_farenough_k04_steps_of_trees
def dOf (x : Str) (i : Nat) : He.DefD := ⟨(x, none), x, x, defArgs (top i), defBody (top i), defScope (top i), [], []⟩
def dOf1 (x : Str) (i : Nat) : He.DefD := ⟨(x, none), x, x, defArgs (top i), defBody (top i), defScope (top i), [.bl false], []⟩
def dIn (x m q : Str) (i j : Nat) : He.DefD := ⟨(x, some m), m, q, defArgs (inClass (top i) j), defBody (inClass (top i) j), defScope (inClass (top i) j), [], []⟩
def fn : List He.DefD := [
  dOf "is_integer" 8,
  dOf "is_text" 9,
  dOf "is_name" 10,
  dOf "is_key" 11,
  dOf "are_keys" 12,
  dOf "are_answers" 13,
  dOf "_step_of" 18,
  dOf "_piece" 19,
  dOf "_check_tree" 20,
  dOf "_inner_nodes" 21,
  dOf "_is_node" 22,
  dOf "_are_parts" 23,
  dOf "_is_pair_of_integers" 24,
  dOf "_are_cases" 25,
  dOf "_is_case" 26,
  dOf "_law_feed_of" 28,
  dOf "_law_draw" 29,
  dOf "_law_mixed" 30,
  dOf "_law_pick" 31,
  dOf "_law_outs" 32,
  dOf "_law_calls" 33,
  dOf "_law_some_names" 34,
  dOf "_law_some_text" 35,
  dOf "_law_some_answer" 36,
  dOf "_law_some_parts" 37,
  dOf "_law_some_tree" 38,
  dOf "_law_some_keys" 39,
  dOf "_law_some_outputs" 40,
  dOf "_law_drawn_made" 41,
  dOf1 "_law_world" 42,
  dOf "_law_part_text" 43,
  dOf "_law_step_at" 44,
  dOf "_law_same" 45,
  dOf "_law_rows_near" 46,
  dOf "_law_node_at" 47,
  dOf "_law_run" 48,
  dOf "_law_long" 49,
  dOf "law" 50,
  dIn "TreeRecipe" "__init__" "TreeRecipe.__init__" 17 0,
  dIn "TreeRecipe" "__eq__" "TreeRecipe.__eq__" 17 1,
  dIn "TreeRecipe" "step_at" "TreeRecipe.step_at" 17 3,
  dIn "Recipe" "step_at" "Recipe.step_at" 16 0]
def frees : List Str := ["isinstance", "len", "zip", "all", "list", "tuple", "bool", "int", "str", "range", "ord", "set", "max", "min", "enumerate", "reversed", "dict"]
def numG : List (Str × Int) := [("LONGEST_TEXT", 400), ("LONGEST_NAME", 8), ("MOST_KEYS", 4)]
def looseC : List Str := ["LONGEST_TEXT", "LONGEST_NAME", "MOST_KEYS", "_wall"]
def glos0 : List Str := ["STOP", "BuildError", "BadTree", "Recipe", "TreeRecipe", "is_integer", "is_text", "is_name", "is_key", "are_keys", "are_answers", "_step_of", "_piece", "_check_tree", "_inner_nodes", "_is_node", "_are_parts", "_is_pair_of_integers"]
def glos1 : List Str := ["_are_cases", "_is_case", "_law_feed_of", "_law_draw", "_law_mixed", "_law_pick", "_law_outs", "_law_calls", "_law_some_names", "_law_some_text", "_law_some_answer", "_law_some_parts", "_law_some_tree", "_law_some_keys", "_law_some_outputs", "_law_drawn_made", "_law_world", "_law_part_text"]
def glos2 : List Str := ["_law_step_at", "_law_same", "_law_rows_near", "_law_node_at", "_law_run", "_law_long"]
def glos : List Str := glos0 ++ glos1 ++ glos2
def loose : List Str := looseC ++ glos
def faC : List He.Fa := [He.Fa.cls "TreeRecipe", He.Fa.noat "TreeRecipe" "_node", He.Fa.mkr "TreeRecipe", He.Fa.cls "Recipe", He.Fa.meth "TreeRecipe" "__eq__", He.Fa.meth "TreeRecipe" "step_at", He.Fa.meth "Recipe" "step_at"]
def fa : List He.Fa := (glos ++ ([("law" : Str)] : List Str)).map He.Fa.glo ++ (frees.map He.Fa.free ++ (numG.map (fun q => He.Fa.int q.1 q.2) ++ faC))
/-- the property of trees, its getter -/
def pAd (K : PySem.W.Frag) : Addr := ma K (ga K "TreeRecipe") "node"
def gAd (K : PySem.W.Frag) : Addr := match PySem.W.recIn K (pAd K) "property" with
  | some (.ref g :: _) => g
  | _ => 0
def fnAt (K : PySem.W.Frag) (a : Addr) : He.FnW := match K.lookup a with
  | some o => (match o.data with
    | .func u => some (u.name, u.qualname, u.params, u.body, u.scope, u.globals, u.closure, u.builtins)
    | _ => none)
  | none => none
def okAt (K : PySem.W.Frag) (a : Addr) (q : Str) : Bool := PySem.W.keepIn K (.ref a) && (match K.lookup a with
  | some o => (match o.data with
    | .func u => PySem.W.codeIn K u.code q && (He.dflB K u.defaults [] && He.kwdB K u.kwdefaults [])
    | _ => false)
  | none => false)
theorem funAt {K : PySem.W.Frag} {a : Addr} {x q : Str} {ps : Arguments} {b : List Stmt} {sc : Scope} (e : fnAt K a = some (x, q, ps, .stmts b, sc, mainGlobals, [], builtinsNs)) (c : okAt K a q = true) : ∃ fd, FunD K x q ps b sc [] [] a fd := by
  unfold okAt at c
  unfold fnAt at e
  rw [Bool.and_eq_true] at c
  obtain ⟨kp, c⟩ := c
  generalize hl : K.lookup a = o at c e
  rcases o with _ | ⟨oc, od, dt, sl⟩
  · cases c
  · dsimp only at c e
    cases dt with
    | func u =>
      dsimp only at c e
      rw [Bool.and_eq_true, Bool.and_eq_true] at c
      obtain ⟨c1, c2, c3⟩ := c
      obtain ⟨m1, m2, m3, m4, m5, m6, m7, m8, m9, m10, m11, m12, m13, m14, m15⟩ := u
      dsimp only at c1 c2 c3 e
      injection e with e
      simp only [Prod.mk.injEq] at e
      obtain ⟨rfl, rfl, rfl, rfl, rfl, rfl, rfl, rfl⟩ := e
      refine ⟨_, ⟨oc, od, m8, m9, m10, m11, m12, m13, m14, sl, rfl, hl, c1, ?_, ?_⟩, kp⟩
      · exact He.dflB_ok c2
      · exact He.kwdB_ok c3
    | _ => cases c
/-- the other facts, as one Bool -/
def exB (K : PySem.W.Frag) : Bool :=
  He.tupB K "STOP" [.str "stop"]
  && (decide (PySem.W.findIn K (.ref (ga K "TreeRecipe")) "node" = some (some (.ref (pAd K))))
  && (decide (PySem.W.specialIn K (.ref (pAd K)) "__get__" = some (some (.builtin "property.__get__")))
  && (decide (PySem.W.takesIn K (.ref (pAd K)) = some true)
  && (decide ((PySem.W.recIn K (pAd K) "property").map (fun l => l.head?) = some (some (.ref (gAd K))))
  && (okAt K (gAd K) "TreeRecipe.node"
  && (decide (PySem.W.findIn K (.ref (ga K "TreeRecipe")) "__class__" = some (some (.builtin "object.__class__")))
  && (decide (PySem.W.specialIn K (.builtin "object.__class__") "__get__" = some (some (.builtin "getset_descriptor.__get__")))
  && (decide (PySem.W.takesIn K (.builtin "object.__class__") = some true)
  && (decide (PySem.W.mroIn K (ga K "TreeRecipe") (.type "object") = some true)
  && (PySem.W.makesIn K (ga K "Recipe")
  && (decide (PySem.W.findIn K (.ref (ga K "Recipe")) "__init__" = some (some (.builtin "object.__init__")))
  && (decide (PySem.W.mroIn K (ga K "Recipe") (.type "object") = some true)
  && (PySem.W.keepIn K (.ref (ga K "Recipe"))
  && (decide (PySem.W.subIn K (.type "tuple") (.ref (ga K "TreeRecipe")) = some false)
  && (decide (PySem.W.kitOne K (.ref (ga K "TreeRecipe")) (.ref (ga K "Recipe")) = some true)
  && (decide (PySem.W.kitOne K (.ref (ga K "TreeRecipe")) (.ref (ga K "TreeRecipe")) = some true)
  && (decide (PySem.W.kitOne K (.type "tuple") (.ref (ga K "TreeRecipe")) = some false))))))))))))))))))
def gVal : He.FnW := some ("node", "TreeRecipe.node", defArgs sNodeP, .stmts (defBody sNodeP), defScope sNodeP, mainGlobals, [], builtinsNs)
/-- the head's look: defs, names, numbers, these -/
abbrev Al : Type := He.AlD × (Bool × He.FnW)
def obsK (K : PySem.W.Frag) : Al := (He.obsD fa fn K, exB K, fnAt K (gAd K))
def obsM (n : Nat) (g : Addr → Option Obj) : Al := obsK (He.frG g (He.asD g n))
structure Says (K : PySem.W.Frag) : Prop where
  d : He.SaysD fa fn K
  e : exB K = true
  g : fnAt K (gAd K) = gVal
def hk : PySem.W.Hook where
  α := Al
  obs := fun s => obsM 6 s.heap.get?
  val := fun _ => (He.valD fn, true, gVal)
  says := fun _ h => ∃ K : PySem.W.Frag, K.In h ∧ Says K
  of := fun _ _ e => ⟨_, He.frG_in, ⟨congrArg (fun z : Al => z.1) e, congrArg (fun z : Al => z.2.1) e, congrArg (fun z : Al => z.2.2) e⟩⟩
  keeps := fun _ _ _ ⟨K, hK, c⟩ k => ⟨K, PySem.W.Frag.In.keeps hK k, c⟩
def ob (s : PySem.W.SharedT) : Al := obsM 6 (HandSHeadRun.getT s)
theorem ob_eq (s : PySem.W.SharedT) : ob s = hk.obs s.abs := by
  have e : HandSHeadRun.getT s = s.abs.heap.get? := funext (HandSHeadRun.getT_eq s)
  unfold ob
  rw [e] <;> rfl
theorem run (w : World) : HandSHeadRun.RunEq R (PySem.W.view R.prog [50]) hk ob 20000 loose w := by
  intro os
  kernel_rfl
end TRE.HD

set_option Elab.async false
set_option linter.all false
set_option maxRecDepth 100000
set_option maxHeartbeats 0
namespace TRE.HD
open PySem PySem.Spec PyProof.Rows L2 ND KS KS.La PLC
open He (ga ma)
section
variable {P : Program} {w : World} {K : PySem.W.Frag} {mg : Str → Option Value} {base h : Heap}
theorem hasMono {j k : Nat} {x : Str} {ps : List Str} {sp : Sp} (A : Has P w K mg base j x ps sp) (h : j ≤ k) : Has P w K mg base k x ps sp := by
  obtain ⟨f, fd, a, b, c, F⟩ := A.ex
  exact ⟨f, fd, a, b, c, F.mono h⟩
theorem factM (c : He.SaysD fa fn K) {f : He.Fa} (hm : f ∈ fa) : f.ok K = true := by
  obtain ⟨i, hi, e⟩ := List.mem_iff_getElem.mp hm
  exact c.fact i (f := f) (by rw [List.getElem?_eq_getElem hi, e])
theorem factC (c : He.SaysD fa fn K) {f : He.Fa} (hm : f ∈ faC) : f.ok K = true := factM c (List.mem_append_right _ (List.mem_append_right _ (List.mem_append_right _ hm)))
theorem plStr : ∀ d : Str, ∃ n, Pl n (PyData.str d) := fun d => ⟨0, Pl.str 0 d⟩
theorem plKey : ∀ d : Str × Str, ∃ n, Pl n (kyD d) := fun d => ⟨1, plKy d⟩
theorem exB_parts (e : exB K = true) : He.tupB K "STOP" [.str "stop"] = true ∧
    PySem.W.findIn K (.ref (ga K "TreeRecipe")) "node" = some (some (.ref (pAd K))) ∧
    PySem.W.specialIn K (.ref (pAd K)) "__get__" = some (some (.builtin "property.__get__")) ∧
    PySem.W.takesIn K (.ref (pAd K)) = some true ∧
    (PySem.W.recIn K (pAd K) "property").map (fun l => l.head?) = some (some (.ref (gAd K))) ∧
    okAt K (gAd K) "TreeRecipe.node" = true ∧
    PySem.W.findIn K (.ref (ga K "TreeRecipe")) "__class__" = some (some (.builtin "object.__class__")) ∧
    PySem.W.specialIn K (.builtin "object.__class__") "__get__" = some (some (.builtin "getset_descriptor.__get__")) ∧
    PySem.W.takesIn K (.builtin "object.__class__") = some true ∧
    PySem.W.mroIn K (ga K "TreeRecipe") (.type "object") = some true ∧
    PySem.W.makesIn K (ga K "Recipe") = true ∧
    PySem.W.findIn K (.ref (ga K "Recipe")) "__init__" = some (some (.builtin "object.__init__")) ∧
    PySem.W.mroIn K (ga K "Recipe") (.type "object") = some true ∧
    PySem.W.keepIn K (.ref (ga K "Recipe")) = true ∧
    PySem.W.subIn K (.type "tuple") (.ref (ga K "TreeRecipe")) = some false ∧
    PySem.W.kitOne K (.ref (ga K "TreeRecipe")) (.ref (ga K "Recipe")) = some true ∧
    PySem.W.kitOne K (.ref (ga K "TreeRecipe")) (.ref (ga K "TreeRecipe")) = some true ∧
    PySem.W.kitOne K (.type "tuple") (.ref (ga K "TreeRecipe")) = some false := by
  unfold exB at e
  simp only [Bool.and_eq_true, decide_eq_true_eq] at e
  exact e
theorem facts {f : Addr} (X : K.In h) (G : h.Ns mainGlobals mg) (hfa : mg ("law" : Str) = some (.ref f)) (y : Says K) :
    ∃ fd : FuncData, (∀ (s : Shared) (v : Value), BindsTo s fd ⟨[v], []⟩ [("_law_script", v)]) ∧ ∀ base : Heap, K.In base → base.Ns mainGlobals mg → FnOk P w K mg base CX0 66 f fd ["_law_script"] (spLaw K) := by
  obtain ⟨c, e, eg⟩ := y
  obtain ⟨p1, p2, p3, p4, p5, p6, p7, p8, p9, p10, p11, p12, p13, p14, p15, p16, p17, p18⟩ := exB_parts e
  have glo : ∀ x ∈ glos ++ ([("law" : Str)] : List Str), mg x = some (.ref (ga K x)) := fun x hx => He.glo_ok X G (factM c (f := .glo x) (List.mem_append_left _ (List.mem_map_of_mem hx)))
  have fre : ∀ x ∈ frees, mg x = none := fun x hx => He.free_ok X G (factM c (f := .free x) (List.mem_append_right _ (List.mem_append_left _ (List.mem_map_of_mem hx))))
  have num : ∀ q ∈ numG, IntG mg q.1 q.2 := fun q hq => He.int_ok X G (factM c (f := .int q.1 q.2) (List.mem_append_right _ (List.mem_append_right _ (List.mem_append_left _ (List.mem_map.mpr ⟨q, hq, rfl⟩)))))
  have cl : Cls K (ga K "TreeRecipe") := He.cls_ok (factC c (f := .cls "TreeRecipe") (by simp [faC]))
  have nf : NoAttr K (ga K "TreeRecipe") "_node" := He.noat_ok (factC c (f := .noat "TreeRecipe" "_node") (by simp [faC]))
  have mk : Mk K (ga K "TreeRecipe") (ma K (ga K "TreeRecipe") "__init__") := He.mkr_ok (factC c (f := .mkr "TreeRecipe") (by simp [faC]))
  have clR : Cls K (ga K "Recipe") := He.cls_ok (factC c (f := .cls "Recipe") (by simp [faC]))
  have mQ : Meth K (ga K "TreeRecipe") "__eq__" (ma K (ga K "TreeRecipe") "__eq__") := He.meth_ok (factC c (f := .meth "TreeRecipe" "__eq__") (by simp [faC]))
  have mS : Meth K (ga K "TreeRecipe") "step_at" (ma K (ga K "TreeRecipe") "step_at") := He.meth_ok (factC c (f := .meth "TreeRecipe" "step_at") (by simp [faC]))
  have mT : Meth K (ga K "Recipe") "step_at" (ma K (ga K "Recipe") "step_at") := He.meth_ok (factC c (f := .meth "Recipe" "step_at") (by simp [faC]))
  have ic : IsC K (ga K "TreeRecipe") := ⟨cl, p7, p8, p9, p10⟩
  have B : Bn mg := ⟨fre _ (by decide +kernel), fre _ (by decide +kernel), fre _ (by decide +kernel), fre _ (by decide +kernel), fre _ (by decide +kernel), fre _ (by decide +kernel), fre _ (by decide +kernel), fre _ (by decide +kernel), fre _ (by decide +kernel), fre _ (by decide +kernel), fre _ (by decide +kernel), fre _ (by decide +kernel), fre _ (by decide +kernel), fre _ (by decide +kernel)⟩
  have gT : IntG mg "LONGEST_TEXT" 400 := num ("LONGEST_TEXT", 400) (by decide +kernel)
  have gN : IntG mg "LONGEST_NAME" 8 := num ("LONGEST_NAME", 8) (by decide +kernel)
  have gK : IntG mg "MOST_KEYS" 4 := num ("MOST_KEYS", 4) (by decide +kernel)
  obtain ⟨fd, F⟩ := c.def_ 37 (d := dOf "law" 50) rfl
  have ef := hfa.symm.trans (glo "law" (by decide +kernel))
  cases ef
  have b := FunD.bindsA (ps := ["_law_script"]) F fun _ _ _ _ _ _ us hl => match us, hl with | [_], _ => rfl
  refine ⟨fd, fun s v => b s [v] rfl, fun base hb hg => ?_⟩
  obtain ⟨d0, F0⟩ := c.def_ 0 (d := dOf "is_integer" 8) rfl
  have g0 : mg "is_integer" = some (.ref (ga K "is_integer")) := glo _ (by decide +kernel)
  have b0 : Binds K d0 ["value"] [] := F0.bindsN (fun _ _ _ _ _ _ us hl => match us, hl with | [_], _ => rfl)
  obtain ⟨d1, F1⟩ := c.def_ 1 (d := dOf "is_text" 9) rfl
  have g1 : mg "is_text" = some (.ref (ga K "is_text")) := glo _ (by decide +kernel)
  have b1 : Binds K d1 ["value"] [] := F1.bindsN (fun _ _ _ _ _ _ us hl => match us, hl with | [_], _ => rfl)
  obtain ⟨d2, F2⟩ := c.def_ 2 (d := dOf "is_name" 10) rfl
  have g2 : mg "is_name" = some (.ref (ga K "is_name")) := glo _ (by decide +kernel)
  have b2 : Binds K d2 ["value"] [] := F2.bindsN (fun _ _ _ _ _ _ us hl => match us, hl with | [_], _ => rfl)
  obtain ⟨d3, F3⟩ := c.def_ 3 (d := dOf "is_key" 11) rfl
  have g3 : mg "is_key" = some (.ref (ga K "is_key")) := glo _ (by decide +kernel)
  have b3 : Binds K d3 ["value"] [] := F3.bindsN (fun _ _ _ _ _ _ us hl => match us, hl with | [_], _ => rfl)
  obtain ⟨d4, F4⟩ := c.def_ 4 (d := dOf "are_keys" 12) rfl
  have g4 : mg "are_keys" = some (.ref (ga K "are_keys")) := glo _ (by decide +kernel)
  have b4 : Binds K d4 ["value"] [] := F4.bindsN (fun _ _ _ _ _ _ us hl => match us, hl with | [_], _ => rfl)
  obtain ⟨d5, F5⟩ := c.def_ 5 (d := dOf "are_answers" 13) rfl
  have g5 : mg "are_answers" = some (.ref (ga K "are_answers")) := glo _ (by decide +kernel)
  have b5 : Binds K d5 ["value"] [] := F5.bindsN (fun _ _ _ _ _ _ us hl => match us, hl with | [_], _ => rfl)
  obtain ⟨d6, F6⟩ := c.def_ 6 (d := dOf "_step_of" 18) rfl
  have g6 : mg "_step_of" = some (.ref (ga K "_step_of")) := glo _ (by decide +kernel)
  have b6 : Binds K d6 ["node", "rows"] [] := F6.bindsN (fun _ _ _ _ _ _ us hl => match us, hl with | [_, _], _ => rfl)
  obtain ⟨d7, F7⟩ := c.def_ 7 (d := dOf "_piece" 19) rfl
  have g7 : mg "_piece" = some (.ref (ga K "_piece")) := glo _ (by decide +kernel)
  have b7 : Binds K d7 ["part", "rows"] [] := F7.bindsN (fun _ _ _ _ _ _ us hl => match us, hl with | [_, _], _ => rfl)
  obtain ⟨d8, F8⟩ := c.def_ 8 (d := dOf "_check_tree" 20) rfl
  have g8 : mg "_check_tree" = some (.ref (ga K "_check_tree")) := glo _ (by decide +kernel)
  have b8 : Binds K d8 ["top"] [] := F8.bindsN (fun _ _ _ _ _ _ us hl => match us, hl with | [_], _ => rfl)
  obtain ⟨d9, F9⟩ := c.def_ 9 (d := dOf "_inner_nodes" 21) rfl
  have g9 : mg "_inner_nodes" = some (.ref (ga K "_inner_nodes")) := glo _ (by decide +kernel)
  have b9 : Binds K d9 ["node"] [] := F9.bindsN (fun _ _ _ _ _ _ us hl => match us, hl with | [_], _ => rfl)
  obtain ⟨d10, F10⟩ := c.def_ 10 (d := dOf "_is_node" 22) rfl
  have g10 : mg "_is_node" = some (.ref (ga K "_is_node")) := glo _ (by decide +kernel)
  have b10 : Binds K d10 ["value", "written"] [] := F10.bindsN (fun _ _ _ _ _ _ us hl => match us, hl with | [_, _], _ => rfl)
  obtain ⟨d11, F11⟩ := c.def_ 11 (d := dOf "_are_parts" 23) rfl
  have g11 : mg "_are_parts" = some (.ref (ga K "_are_parts")) := glo _ (by decide +kernel)
  have b11 : Binds K d11 ["value"] [] := F11.bindsN (fun _ _ _ _ _ _ us hl => match us, hl with | [_], _ => rfl)
  obtain ⟨d12, F12⟩ := c.def_ 12 (d := dOf "_is_pair_of_integers" 24) rfl
  have g12 : mg "_is_pair_of_integers" = some (.ref (ga K "_is_pair_of_integers")) := glo _ (by decide +kernel)
  have b12 : Binds K d12 ["value"] [] := F12.bindsN (fun _ _ _ _ _ _ us hl => match us, hl with | [_], _ => rfl)
  obtain ⟨d13, F13⟩ := c.def_ 13 (d := dOf "_are_cases" 25) rfl
  have g13 : mg "_are_cases" = some (.ref (ga K "_are_cases")) := glo _ (by decide +kernel)
  have b13 : Binds K d13 ["value", "many"] [] := F13.bindsN (fun _ _ _ _ _ _ us hl => match us, hl with | [_, _], _ => rfl)
  obtain ⟨d14, F14⟩ := c.def_ 14 (d := dOf "_is_case" 26) rfl
  have g14 : mg "_is_case" = some (.ref (ga K "_is_case")) := glo _ (by decide +kernel)
  have b14 : Binds K d14 ["value", "many"] [] := F14.bindsN (fun _ _ _ _ _ _ us hl => match us, hl with | [_, _], _ => rfl)
  obtain ⟨d15, F15⟩ := c.def_ 15 (d := dOf "_law_feed_of" 28) rfl
  have g15 : mg "_law_feed_of" = some (.ref (ga K "_law_feed_of")) := glo _ (by decide +kernel)
  have b15 : Binds K d15 ["_law_script", "_law_k"] [] := F15.bindsN (fun _ _ _ _ _ _ us hl => match us, hl with | [_, _], _ => rfl)
  obtain ⟨d16, F16⟩ := c.def_ 16 (d := dOf "_law_draw" 29) rfl
  have g16 : mg "_law_draw" = some (.ref (ga K "_law_draw")) := glo _ (by decide +kernel)
  have b16 : Binds K d16 ["_law_feed", "_law_many"] [] := F16.bindsN (fun _ _ _ _ _ _ us hl => match us, hl with | [_, _], _ => rfl)
  obtain ⟨d17, F17⟩ := c.def_ 17 (d := dOf "_law_mixed" 30) rfl
  have g17 : mg "_law_mixed" = some (.ref (ga K "_law_mixed")) := glo _ (by decide +kernel)
  have b17 : Binds K d17 ["_law_feed", "_law_items"] [] := F17.bindsN (fun _ _ _ _ _ _ us hl => match us, hl with | [_, _], _ => rfl)
  obtain ⟨d18, F18⟩ := c.def_ 18 (d := dOf "_law_pick" 31) rfl
  have g18 : mg "_law_pick" = some (.ref (ga K "_law_pick")) := glo _ (by decide +kernel)
  have b18 : Binds K d18 ["_law_feed", "_law_items"] [] := F18.bindsN (fun _ _ _ _ _ _ us hl => match us, hl with | [_, _], _ => rfl)
  obtain ⟨d19, F19⟩ := c.def_ 19 (d := dOf "_law_outs" 32) rfl
  have g19 : mg "_law_outs" = some (.ref (ga K "_law_outs")) := glo _ (by decide +kernel)
  have b19 : Binds K d19 [] [] := F19.bindsN (fun _ _ _ _ _ _ us hl => match us, hl with | [], _ => rfl)
  obtain ⟨d20, F20⟩ := c.def_ 20 (d := dOf "_law_calls" 33) rfl
  have g20 : mg "_law_calls" = some (.ref (ga K "_law_calls")) := glo _ (by decide +kernel)
  have b20 : Binds K d20 [] [] := F20.bindsN (fun _ _ _ _ _ _ us hl => match us, hl with | [], _ => rfl)
  obtain ⟨d21, F21⟩ := c.def_ 21 (d := dOf "_law_some_names" 34) rfl
  have g21 : mg "_law_some_names" = some (.ref (ga K "_law_some_names")) := glo _ (by decide +kernel)
  have b21 : Binds K d21 ["_law_feed", "_law_many"] [] := F21.bindsN (fun _ _ _ _ _ _ us hl => match us, hl with | [_, _], _ => rfl)
  obtain ⟨d22, F22⟩ := c.def_ 22 (d := dOf "_law_some_text" 35) rfl
  have g22 : mg "_law_some_text" = some (.ref (ga K "_law_some_text")) := glo _ (by decide +kernel)
  have b22 : Binds K d22 ["_law_feed"] [] := F22.bindsN (fun _ _ _ _ _ _ us hl => match us, hl with | [_], _ => rfl)
  obtain ⟨d23, F23⟩ := c.def_ 23 (d := dOf "_law_some_answer" 36) rfl
  have g23 : mg "_law_some_answer" = some (.ref (ga K "_law_some_answer")) := glo _ (by decide +kernel)
  have b23 : Binds K d23 ["_law_feed"] [] := F23.bindsN (fun _ _ _ _ _ _ us hl => match us, hl with | [_], _ => rfl)
  obtain ⟨d24, F24⟩ := c.def_ 24 (d := dOf "_law_some_parts" 37) rfl
  have g24 : mg "_law_some_parts" = some (.ref (ga K "_law_some_parts")) := glo _ (by decide +kernel)
  have b24 : Binds K d24 ["_law_feed"] [] := F24.bindsN (fun _ _ _ _ _ _ us hl => match us, hl with | [_], _ => rfl)
  obtain ⟨d25, F25⟩ := c.def_ 25 (d := dOf "_law_some_tree" 38) rfl
  have g25 : mg "_law_some_tree" = some (.ref (ga K "_law_some_tree")) := glo _ (by decide +kernel)
  have b25 : Binds K d25 ["_law_feed", "_law_keys", "_law_outs_here", "_law_deep"] [] := F25.bindsN (fun _ _ _ _ _ _ us hl => match us, hl with | [_, _, _, _], _ => rfl)
  obtain ⟨d26, F26⟩ := c.def_ 26 (d := dOf "_law_some_keys" 39) rfl
  have g26 : mg "_law_some_keys" = some (.ref (ga K "_law_some_keys")) := glo _ (by decide +kernel)
  have b26 : Binds K d26 ["_law_feed", "_law_names"] [] := F26.bindsN (fun _ _ _ _ _ _ us hl => match us, hl with | [_, _], _ => rfl)
  obtain ⟨d27, F27⟩ := c.def_ 27 (d := dOf "_law_some_outputs" 40) rfl
  have g27 : mg "_law_some_outputs" = some (.ref (ga K "_law_some_outputs")) := glo _ (by decide +kernel)
  have b27 : Binds K d27 ["_law_feed"] [] := F27.bindsN (fun _ _ _ _ _ _ us hl => match us, hl with | [_], _ => rfl)
  obtain ⟨d28, F28⟩ := c.def_ 28 (d := dOf "_law_drawn_made" 41) rfl
  have g28 : mg "_law_drawn_made" = some (.ref (ga K "_law_drawn_made")) := glo _ (by decide +kernel)
  have b28 : Binds K d28 ["_law_feed", "_law_near", "_law_recipes"] [] := F28.bindsN (fun _ _ _ _ _ _ us hl => match us, hl with | [_, _, _], _ => rfl)
  obtain ⟨d29, F29⟩ := c.def_ 29 (d := dOf1 "_law_world" 42) rfl
  have g29 : mg "_law_world" = some (.ref (ga K "_law_world")) := glo _ (by decide +kernel)
  obtain ⟨d30, F30⟩ := c.def_ 30 (d := dOf "_law_part_text" 43) rfl
  have g30 : mg "_law_part_text" = some (.ref (ga K "_law_part_text")) := glo _ (by decide +kernel)
  have b30 : Binds K d30 ["_law_part", "_law_rows"] [] := F30.bindsN (fun _ _ _ _ _ _ us hl => match us, hl with | [_, _], _ => rfl)
  obtain ⟨d31, F31⟩ := c.def_ 31 (d := dOf "_law_step_at" 44) rfl
  have g31 : mg "_law_step_at" = some (.ref (ga K "_law_step_at")) := glo _ (by decide +kernel)
  have b31 : Binds K d31 ["_law_recipes", "_law_place"] [] := F31.bindsN (fun _ _ _ _ _ _ us hl => match us, hl with | [_, _], _ => rfl)
  obtain ⟨d32, F32⟩ := c.def_ 32 (d := dOf "_law_same" 45) rfl
  have g32 : mg "_law_same" = some (.ref (ga K "_law_same")) := glo _ (by decide +kernel)
  have b32 : Binds K d32 ["_law_found", "_law_due"] [] := F32.bindsN (fun _ _ _ _ _ _ us hl => match us, hl with | [_, _], _ => rfl)
  obtain ⟨d33, F33⟩ := c.def_ 33 (d := dOf "_law_rows_near" 46) rfl
  have g33 : mg "_law_rows_near" = some (.ref (ga K "_law_rows_near")) := glo _ (by decide +kernel)
  have b33 : Binds K d33 ["_law_feed", "_law_node"] [] := F33.bindsN (fun _ _ _ _ _ _ us hl => match us, hl with | [_, _], _ => rfl)
  obtain ⟨d34, F34⟩ := c.def_ 34 (d := dOf "_law_node_at" 47) rfl
  have g34 : mg "_law_node_at" = some (.ref (ga K "_law_node_at")) := glo _ (by decide +kernel)
  have b34 : Binds K d34 ["_law_node", "_law_rows"] [] := F34.bindsN (fun _ _ _ _ _ _ us hl => match us, hl with | [_, _], _ => rfl)
  obtain ⟨d35, F35⟩ := c.def_ 35 (d := dOf "_law_run" 48) rfl
  have g35 : mg "_law_run" = some (.ref (ga K "_law_run")) := glo _ (by decide +kernel)
  have b35 : Binds K d35 ["_law_feed", "_law_recipes", "_law_call", "_law_arguments"] [] := F35.bindsN (fun _ _ _ _ _ _ us hl => match us, hl with | [_, _, _, _], _ => rfl)
  obtain ⟨d36, F36⟩ := c.def_ 36 (d := dOf "_law_long" 49) rfl
  have g36 : mg "_law_long" = some (.ref (ga K "_law_long")) := glo _ (by decide +kernel)
  have b36 : Binds K d36 ["_law_feed"] [] := F36.bindsN (fun _ _ _ _ _ _ us hl => match us, hl with | [_], _ => rfl)
  have pInt : ∀ n : Nat, Has P w K mg base 1 "is_integer" ["value"] (spIs K n isIn) := fun n => ⟨_, d0, g0, F0.kp, b0, KS.okInt (k := 0) F0 B⟩
  have pText : ∀ n : Nat, Has P w K mg base 1 "is_text" ["value"] (spIs K n isTx) := fun n => ⟨_, d1, g1, F1.kp, b1, KS.okText (k := 0) F1 B gT⟩
  have pName : ∀ n : Nat, Has P w K mg base 2 "is_name" ["value"] (spIs K n isNm) := fun n => ⟨_, d2, g2, F2.kp, b2, (KS.okName (k := 0) F2 B gN).mono (by decide)⟩
  have pKey : ∀ n : Nat, Has P w K mg base 3 "is_key" ["value"] (spIs K n isKy) := fun n => ⟨_, d3, g3, F3.kp, b3, KS.okKey (k := 0) F3 B (pName n)⟩
  have pKeys : ∀ n : Nat, Has P w K mg base 4 "are_keys" ["value"] (spIs K n areKy) := fun n => ⟨_, d4, g4, F4.kp, b4, KS.okKeys (k := 0) F4 B gK (pKey n)⟩
  have pAns : ∀ n : Nat, Has P w K mg base 2 "are_answers" ["value"] (spIs K n areAn) := fun n => ⟨_, d5, g5, F5.kp, b5, KS.okAns (k := 0) F5 B gK (pText n)⟩
  have pPair : ∀ n : Nat, Has P w K mg base 2 "_is_pair_of_integers" ["value"] (spIs K n isPr) := fun n => ⟨_, d12, g12, F12.kp, b12, KS.okPair (k := 0) F12 B pInt⟩
  have pParts : ∀ n : Nat, Has P w K mg base 3 "_are_parts" ["value"] (spIs K n arePt) := fun n => ⟨_, d11, g11, F11.kp, b11, KS.okParts (k := 0) F11 B (fun n => hasMono (pText n) (by decide)) pPair⟩
  have pCase : ∀ n : Nat, Has P w K mg base 3 "_is_case" ["value", "many"] (spIs2 K n isCs) := fun n => ⟨_, d14, g14, F14.kp, b14, KS.okCase (k := 0) F14 B pAns⟩
  have pCases : ∀ n : Nat, Has P w K mg base 4 "_are_cases" ["value", "many"] (spIs2 K n areCs) := fun n => ⟨_, d13, g13, F13.kp, b13, KS.okCases (k := 0) F13 B pCase⟩
  have pNode : ∀ n : Nat, Has P w K mg base 5 "_is_node" ["value", "written"] (spNode K n) := fun n => ⟨_, d10, g10, F10.kp, b10, KS.okNode (k := 0) F10 B (glo "STOP" (by decide +kernel)) (fun H => He.tupB_ok p1 H) (fun n => hasMono (pName n) (by decide)) (fun n => hasMono (pParts n) (by decide)) pKeys pCases⟩
  have pInner : ∀ n : Nat, Has P w K mg base 1 "_inner_nodes" ["node"] (spInner K n) := fun n => ⟨_, d9, g9, F9.kp, b9, okInner (k := 0) F9⟩
  have pCheck : Has P w K mg base 6 "_check_tree" ["top"] (spCheck0 K 50) := ⟨_, d8, g8, F8.kp, b8, okCheck0 (k := 0) (by decide) F8 B (fre _ (by decide +kernel)) pNode (fun n => hasMono (pInner n) (by decide))⟩
  have pPiece : Has P w K mg base 1 "_piece" ["part", "rows"] (spPiece K) := ⟨_, d7, g7, F7.kp, b7, okPiece (k := 0) F7 B⟩
  have pStep : Has P w K mg base 2 "_step_of" ["node", "rows"] (spStepOf K) := ⟨_, d6, g6, F6.kp, b6, okStepOf (k := 0) F6 B gT (glo "STOP" (by decide +kernel)) (fun H => He.tupB_ok p1 H) pPiece⟩
  have aFeed : Has P w K mg base 1 "_law_feed_of" ["_law_script", "_law_k"] (spFeed K) := ⟨_, d15, g15, F15.kp, b15, okFeed (k := 0) F15 B.len⟩
  have aDraw : Has P w K mg base 1 "_law_draw" ["_law_feed", "_law_many"] (spDraw) := ⟨_, d16, g16, F16.kp, b16, okDraw (k := 0) F16⟩
  have aMixK : Has P w K mg base 2 "_law_mixed" ["_law_feed", "_law_items"] (spMixG K kyD) := ⟨_, d17, g17, F17.kp, b17, okMixG (k := 0) kyD plKey F17 B aDraw⟩
  have aMixS : Has P w K mg base 2 "_law_mixed" ["_law_feed", "_law_items"] (spMixG K PyData.str) := ⟨_, d17, g17, F17.kp, b17, okMixG (k := 0) PyData.str plStr F17 B aDraw⟩
  have aPick : Has P w K mg base 2 "_law_pick" ["_law_feed", "_law_items"] (spPick K) := ⟨_, d18, g18, F18.kp, b18, KS.La.okPick (k := 0) F18 B.len aDraw⟩
  have aOuts : Has P w K mg base 1 "_law_outs" [] (spOutsT) := ⟨_, d19, g19, F19.kp, b19, okOutsT (k := 0) F19⟩
  have aCalls : Has P w K mg base 1 "_law_calls" [] (spCalls) := ⟨_, d20, g20, F20.kp, b20, okCalls (k := 0) F20⟩
  have aText : Has P w K mg base 3 "_law_some_text" ["_law_feed"] (spText) := ⟨_, d22, g22, F22.kp, b22, okTxt (k := 0) F22 aDraw aPick aCalls⟩
  have aAns : Has P w K mg base 4 "_law_some_answer" ["_law_feed"] (spAns) := ⟨_, d23, g23, F23.kp, b23, KS.La.okAns (k := 0) F23 aDraw aText⟩
  have aParts : Has P w K mg base 4 "_law_some_parts" ["_law_feed"] (spParts K) := ⟨_, d24, g24, F24.kp, b24, okSomeParts (k := 0) F24 B aDraw aText⟩
  have aTree : Has P w K mg base 11 "_law_some_tree" ["_law_feed", "_law_keys", "_law_outs_here", "_law_deep"] (spTree K 6) := ⟨_, d25, g25, F25.kp, b25, okTree (k := 0) F25 g25 b25 B aDraw aPick aMixK aParts aAns 6 (by decide)⟩
  have aKeys : Has P w K mg base 2 "_law_some_keys" ["_law_feed", "_law_names"] (spKeys) := ⟨_, d26, g26, F26.kp, b26, okSomeKeys (k := 0) F26 B aDraw aOuts⟩
  have aNames : Has P w K mg base 2 "_law_some_names" ["_law_feed", "_law_many"] (spNames) := ⟨_, d21, g21, F21.kp, b21, okNames (k := 0) F21 B aDraw⟩
  have aOutp : Has P w K mg base 4 "_law_some_outputs" ["_law_feed"] (spOutputs) := ⟨_, d27, g27, F27.kp, b27, okOutputs (k := 0) F27 (fre _ (by decide +kernel)) aDraw aText aOuts⟩
  have aMade : Has P w K mg base 12 "_law_drawn_made" ["_law_feed", "_law_near", "_law_recipes"] (spMade K) := ⟨_, d28, g28, F28.kp, b28, okMade (k := 0) F28 B aDraw aPick aCalls aKeys aOuts aText aTree⟩
  obtain ⟨dsW, vW, bW⟩ := F29.binds1 (ps := ["_law_feed", "_law_many", "_law_has_knots"]) 2 0 (by simp [dOf1, He.DefD.dvs]) rfl (fun _ _ _ _ _ _ _ us its hl hi => by
    rcases us with _ | ⟨u1, _ | ⟨u2, _ | ⟨u3, us⟩⟩⟩ <;> first | (cases hl) | skip
    rcases its with _ | ⟨i1, _ | ⟨i2, its⟩⟩ <;> first | (cases hi) | skip
    exact ⟨_, rfl, rfl⟩)
  have aWorld := okWorld (P := P) (w := w) (mg := mg) (base := base) (k := 0) F29 B (fre _ (by decide +kernel)) aDraw aNames aOutp aMade
  have aLong : Has P w K mg base 2 "_law_long" ["_law_feed"] (spLong K) := ⟨_, d36, g36, F36.kp, b36, okLong (k := 0) F36 aDraw⟩
  have aSame : Has P w K mg base 59 "_law_same" ["_law_found", "_law_due"] (spSame K 58) := ⟨_, d32, g32, F32.kp, b32, okSame F32 g32 B 58 0⟩
  have aPart : Has P w K mg base 1 "_law_part_text" ["_law_part", "_law_rows"] (spPieceL K) := ⟨_, d30, g30, F30.kp, b30, okPartText (k := 0) F30 B⟩
  have aStep : Has P w K mg base 2 "_law_step_at" ["_law_recipes", "_law_place"] (spLStep K) := ⟨_, d31, g31, F31.kp, b31, okLStep (k := 0) F31 B aPart⟩
  have aNear : Has P w K mg base 5 "_law_rows_near" ["_law_feed", "_law_node"] (spNearR K) := ⟨_, d33, g33, F33.kp, b33, okNearR (k := 0) F33 B aDraw aPick aAns⟩
  have aNode : Has P w K mg base 1 "_law_node_at" ["_law_node", "_law_rows"] (spNodeAt K) := ⟨_, d34, g34, F34.kp, b34, okNodeAt (k := 0) F34 B⟩
  have aRun : Has P w K mg base 6 "_law_run" ["_law_feed", "_law_recipes", "_law_call", "_law_arguments"] (spRun K) := ⟨_, d35, g35, F35.kp, b35, okRun (k := 0) F35 B (hasMono aStep (by decide)) aNear (hasMono aNode (by decide))⟩
  obtain ⟨fdI, FI⟩ := c.def_ 38 (d := dIn "TreeRecipe" "__init__" "TreeRecipe.__init__" 17 0) rfl
  obtain ⟨fdQ, FQ⟩ := c.def_ 39 (d := dIn "TreeRecipe" "__eq__" "TreeRecipe.__eq__" 17 1) rfl
  obtain ⟨fdS, FS⟩ := c.def_ 40 (d := dIn "TreeRecipe" "step_at" "TreeRecipe.step_at" 17 3) rfl
  obtain ⟨fdT, FT⟩ := c.def_ 41 (d := dIn "Recipe" "step_at" "Recipe.step_at" 16 0) rfl
  obtain ⟨fdG, FG⟩ := funAt eg p6
  have W : W4 P w K mg base 64 (ga K "TreeRecipe") (ga K "Recipe") (ga K "STOP") := by
    refine ⟨glo _ (by decide +kernel), glo _ (by decide +kernel), ic, clR, ⟨p11, p12, p13, p14⟩, ?_, ?_, ?_, ?_, ?_, p15, p16, fun H => He.tupB_ok p1 H⟩
    · exact ⟨_, fdI, mk, FunD.bindsN FI (fun _ _ _ _ _ _ us hl => match us, hl with | [_, _], _ => rfl), (okInit0 (k := 5) FI cl nf pCheck).mono (by decide)⟩
    · refine ⟨pAd K, gAd K, fdG, ⟨p2, p3, p4, ?_⟩, FunD.bindsN FG (fun _ _ _ _ _ _ us hl => match us, hl with | [_], _ => rfl), okNodeP (k := 0) FG cl nf⟩
      cases hr : PySem.W.recIn K (pAd K) "property" with
      | none =>
        rw [hr] at p5
        cases p5
      | some l =>
        rw [hr] at p5
        cases l with
        | nil => cases p5
        | cons v l =>
          have ev : some (some v) = some (some (Value.ref (gAd K))) := p5
          injection ev with ev
          injection ev with ev
          exact ⟨l, by rw [ev]⟩
    · exact ⟨_, fdS, mS, FunD.bindsN FS (fun _ _ _ _ _ _ us hl => match us, hl with | [_, _, _, _], _ => rfl), (okStepAt (k := 0) FS B cl nf pStep).mono (by decide)⟩
    · exact ⟨_, fdT, mT, FunD.bindsN FT (fun _ _ _ _ _ _ us hl => match us, hl with | [_, _, _, _], _ => rfl), (okStopAt (k := 0) FT (glo _ (by decide +kernel))).mono (by decide)⟩
    · exact ⟨_, fdQ, mQ.at_, mQ.fn, FunD.bindsN FQ (fun _ _ _ _ _ _ us hl => match us, hl with | [_, _], _ => rfl), (okEqM (k := 0) FQ B (glo _ (by decide +kernel)) ic nf p17 p18).mono (by decide)⟩
  exact okLaw (m := 64) (by decide) F B (fre _ (by decide +kernel)) W (hasMono aFeed (by decide)) (hasMono aDraw (by decide)) ⟨_, d29, dsW, g29, F29.kp, vW, bW, aWorld.mono (by decide)⟩ (hasMono aLong (by decide)) (hasMono aMixS (by decide)) (hasMono aText (by decide)) (hasMono aRun (by decide)) (hasMono aStep (by decide)) (hasMono aSame (by decide))
end
end TRE.HD

set_option Elab.async false
set_option linter.all false
set_option maxRecDepth 100000
set_option maxHeartbeats 0
open PySem PySem.W PySem.Calls PyProof.Rows
theorem PySem.Challenge.cw_farenough_k04_steps_of_trees_holds : PySem.Challenge.rw_farenough_k04_steps_of_trees.Holds := by
  w_on; o_law
  refine HandSHeadRun.head_any (r := OpenLaw.row PySem.Challenge.rw_farenough_k04_steps_of_trees) (q := view (OpenLaw.row PySem.Challenge.rw_farenough_k04_steps_of_trees).prog [50]) (H := TRE.HD.hk) (ob := TRE.HD.ob) (M := 20000) (loose := TRE.HD.loose)
    (d := HandSHeadRun.topDef (OpenLaw.row PySem.Challenge.rw_farenough_k04_steps_of_trees).prog 50) (kwd := []) TRE.HD.ob_eq
    (by kernel_rfl) (fun s => by kernel_rfl) TRE.HD.run (by kernel_rfl) (by kernel_rfl) (by kernel_rfl) (by rfl) (by first | assumption | decide +kernel) (by decide +kernel) ⟨rfl, rfl, rfl, rfl, rfl, by decide +kernel⟩ ?hw ?hc
  case hw => w_witness2
  case hc =>
    refine L2.walk_ofE (l := PySem.Challenge.rw_farenough_k04_steps_of_trees) (n := 63) (k := 66) (x := "_law_script") (CX := L2.CX0) rfl (by decide) (by kernel_rfl) ⟨rfl, by decide, by decide⟩ ?F (fun _ _ _ _ z => z)
    intro w mg fa h Y G hmg0
    obtain ⟨K, KX, y⟩ := Y
    have hmg : mg ("law" : PySem.Str) = some (.ref fa) := by
      have e : (HandSHeadRun.topDef (OpenLaw.row PySem.Challenge.rw_farenough_k04_steps_of_trees).prog 50).name = ("law" : PySem.Str) := by kernel_rfl
      rw [← e]
      exact hmg0
    obtain ⟨fd, hb, hF⟩ := TRE.HD.facts (P := (PySem.Challenge.rw_farenough_k04_steps_of_trees).prog) (w := w) KX G hmg y
    exact ⟨K, fd, TRE.spLaw K, KX, hb, fun H a ns hl _ hS => ⟨a, ns, rfl, hS, hl, fun _ => rfl⟩, hF⟩

